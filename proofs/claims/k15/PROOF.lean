import PyProof.Rows.All
import Wide.All
import OpenK.AllK
import Wide.FinOn
import Lean
import PyProof.EqAt
import PyProof.EqKinds
import PyProof.TupleCall
import PyProof.Draws
import PyProof.EnumMake
import PyProof.ZipIter
import PyProof.Rows.SumAny
import KE.KRevIter
import KE.LcSums
import PySem.Challenge.RW_shortpurse_k15_one_path_within_another
set_option Elab.async false
set_option linter.all false
set_option maxRecDepth 100000
set_option maxHeartbeats 4000000
set_option exponentiation.threshold 2000
/-! THE HAND LAYER, for ints, bools, texts, own classes, LISTS and tuples (index, slices, in, append, pop ..), calls, loops. Paste it whole ahead of your own text; what your proof does not reach may be deleted. -/
namespace L2
open PySem PySem.Spec PyProof.Rows

/-- a key: an int or a str -/
abbrev Key := Sum Int Str
def keyIs : Key → Value → Bool
  | .inl k, v => Value.isInt k v
  | .inr x, v => Value.isStrOf x v
def keyH (w : World) : Key → Int
  | .inl k => hashInt k
  | .inr x => hashStr w x
theorem keyIs_shape : ∀ {k : Key} {v : Value}, keyIs k v = true → (∃ i t, k = Sum.inl i ∧ v = Value.int i t) ∨ (∃ x t, k = Sum.inr x ∧ v = Value.str x t)
  | .inl i, v, h => by
    obtain ⟨t, e⟩ := Value.isInt_shape (k := i) (v := v) h
    exact .inl ⟨i, t, rfl, e⟩
  | .inr x, v, h => by
    obtain ⟨t, e⟩ := Value.isStrOf_shape (x := x) (v := v) h
    exact .inr ⟨x, t, rfl, e⟩
theorem key_ll (a b : Int) : decide ((Sum.inl a : Key) = Sum.inl b) = (a == b) := by
  by_cases e : a = b
  · subst e; simp
  · have h : ¬ (Sum.inl a : Key) = Sum.inl b := fun q => e (Sum.inl.inj q)
    rw [decide_eq_false h]
    exact (beq_eq_false_iff_ne.mpr e).symm
theorem key_rr (a b : Str) : decide ((Sum.inr a : Key) = Sum.inr b) = decide (a = b) := by
  by_cases e : a = b
  · subst e; simp
  · have h : ¬ (Sum.inr a : Key) = Sum.inr b := fun q => e (Sum.inr.inj q)
    rw [decide_eq_false h, decide_eq_false e]
theorem key_lr (a : Int) (b : Str) : decide ((Sum.inl a : Key) = Sum.inr b) = false := decide_eq_false (fun q => nomatch q)
theorem key_rl (a : Str) (b : Int) : decide ((Sum.inr a : Key) = Sum.inl b) = false := decide_eq_false (fun q => nomatch q)

def mixKind (prog : Program) (w : World) : PySem.KeyKind prog w Key where
  is := keyIs
  hash := keyH w
  inj := fun v a b ha hb => by
    rcases keyIs_shape ha with ⟨i, t, rfl, rfl⟩ | ⟨x, t, rfl, rfl⟩
    · rcases keyIs_shape hb with ⟨j, u, rfl, e⟩ | ⟨y, u, rfl, e⟩
      · injection e with e1 _; rw [e1]
      · exact nomatch e
    · rcases keyIs_shape hb with ⟨j, u, rfl, e⟩ | ⟨y, u, rfl, e⟩
      · exact nomatch e
      · injection e with e1 _; rw [e1]
  byValue := fun k v h => by
    rcases keyIs_shape h with ⟨i, t, rfl, rfl⟩ | ⟨x, t, rfl, rfl⟩ <;> rfl
  pyHash := fun hv h => by
    rcases keyIs_shape hv with ⟨i, t, rfl, rfl⟩ | ⟨x, t, rfl, rfl⟩
    · exact wpAny_pyHash_int h
    · exact wpAny_pyHash_str h
  eqBool := fun hu hv h => by
    rcases keyIs_shape hu with ⟨i, t, rfl, rfl⟩ | ⟨x, t, rfl, rfl⟩
    · rcases keyIs_shape hv with ⟨j, u, rfl, rfl⟩ | ⟨y, u, rfl, rfl⟩
      · rw [key_ll] at h; exact wpAny_eqBool_int h
      · rw [key_lr] at h; exact SeqAt.EqAt.int_str i t y u _ _ _ _ h
    · rcases keyIs_shape hv with ⟨j, u, rfl, rfl⟩ | ⟨y, u, rfl, rfl⟩
      · rw [key_rl] at h; exact SeqAt.EqAt.str_int x t j u _ _ _ _ h
      · rw [key_rr] at h; exact wpAny_eqBool_str h
  «strs» := fun k x t v h => by
    rcases keyIs_shape h with ⟨i, u, rfl, e⟩ | ⟨y, u, rfl, e⟩
    · exact nomatch e
    · injection e with e1 _
      subst e1
      cases v <;> rfl

end L2

namespace L2
open PySem PySem.Spec PyProof.Rows

/-- a value, without the heap -/
inductive V where
  | non | bl (b : Bool) | int (i : Int) | str (x : Str) | byt (b : Array UInt8) | flt (b : UInt64) | ref (a : Addr) | ty (n : String)
  deriving DecidableEq

def RelV : V → Value → Prop
  | .non, u => u = Value.none
  | .bl b, u => u = Value.bool b
  | .int i, u => ∃ t, u = Value.int i t
  | .str x, u => ∃ t, u = Value.str x t
  | .byt b, u => ∃ t, u = Value.bytes b t
  | .flt b, u => ∃ t, u = Value.float b t
  | .ref a, u => u = Value.ref a
  | .ty n, u => u = Value.type n

abbrev Vals : List V → List Value → Prop := Paired RelV
theorem Vals.length {xs : List V} {us : List Value} (r : Vals xs us) : xs.length = us.length := Paired.length r
theorem Vals.get : ∀ {xs : List V} {us : List Value} {i : Nat} {x : V}, Vals xs us → xs[i]? = some x → ∃ u, us[i]? = some u ∧ RelV x u
  | _, _, _, _, .nil, e => by simp at e
  | _, _, 0, _, .cons r _, e => by simp at e; subst e; exact ⟨_, rfl, r⟩
  | _, _, i + 1, x, .cons _ t, e => by
    obtain ⟨u, h1, h2⟩ := Vals.get (i := i) (x := x) t (by simpa using e)
    exact ⟨u, by simpa using h1, h2⟩
theorem Vals.set {x : V} {u : Value} (r : RelV x u) : ∀ {xs : List V} {us : List Value} (i : Nat), Vals xs us → Vals (xs.set i x) (us.set i u)
  | _, _, _, .nil => .nil
  | _, _, 0, .cons _ t => .cons r t
  | _, _, i + 1, .cons q t => .cons q (Vals.set r i t)
theorem Vals.append : ∀ {xs ys : List V} {us ws : List Value}, Vals xs us → Vals ys ws → Vals (xs ++ ys) (us ++ ws)
  | _, _, _, _, .nil, s => s
  | _, _, _, _, .cons r t, s => .cons r (Vals.append t s)
theorem Vals.take : ∀ {xs : List V} {us : List Value} (n : Nat), Vals xs us → Vals (xs.take n) (us.take n)
  | _, _, 0, _ => .nil
  | _, _, _ + 1, .nil => .nil
  | _, _, n + 1, .cons r t => .cons r (Vals.take n t)
theorem Vals.drop : ∀ {xs : List V} {us : List Value} (n : Nat), Vals xs us → Vals (xs.drop n) (us.drop n)
  | _, _, 0, r => r
  | _, _, _ + 1, .nil => .nil
  | _, _, n + 1, .cons _ t => Vals.drop n t
def RelO : Option V → Option Value → Prop
  | some v, some u => RelV v u
  | none, none => True
  | _, _ => False
def KV {κ : Type} : List (κ × V) → List (κ × Value) → Prop := Paired fun (p : κ × V) (q : κ × Value) => p.1 = q.1 ∧ RelV p.2 q.2

/-- a key of a dict (00_mix): an int or a text -/
def kV : Key → V
  | .inl i => .int i
  | .inr x => .str x

/-- what stands at a tracked address -/
inductive HO where
  /-- a list -/
  | lst (xs : List V)
  /-- a tuple (never changes) -/
  | tup (xs : List V)
  /-- a dict whose keys are ints and texts; one whose keys are tuples of ints and texts (the empty one is both) -/
  | dK (kvs : List (Key × V)) | dT (kvs : List (List Key × V))
  /-- a set of ints: its members, its size -/
  | set (S : Int → Bool) (n : Nat)
  /-- an instance of the class at C, its dict at dx, its attributes -/
  | ins (C dx : Addr) (fs : List (Str × V))
  /-- the dict of the instance at x -/
  | own (x : Addr)
  /-- the dict of an exception -/
  | xd (fs : List (Str × V))
  /-- a bound method, f of x -/
  | met (f x : Addr)
  /-- a range object lo, lo + 1, .. below hi -/
  | rng (lo hi : Int)
  /-- a thing that is known to the object (the script; a dict while a loop walks it): read, never written while it is so -/
  | frz (o : Obj) (u : HO)
  /-- a code object's table -/
  | tbl (ps : Array Value)
  /-- any other thing, by what is true of its one object (a def of one's own: SetO a S n := HO.ext fun h => ..) -/
  | ext (φ : Heap → Prop)

abbrev Hp := Addr → Option HO
def upd (H : Hp) (a : Addr) (o : HO) : Hp := fun b => if b = a then some o else H b
theorem upd_same {H : Hp} {a : Addr} {o : HO} : upd H a o a = some o := by unfold upd; rw [if_pos rfl]
theorem upd_ne {H : Hp} {a b : Addr} {o : HO} (h : b ≠ a) : upd H a o b = H b := by unfold upd; rw [if_neg h]
theorem ne_of_none {H : Hp} {a b : Addr} {o : HO} (h : H a = some o) (h' : H b = none) : a ≠ b := by
  intro e; subst e; rw [h] at h'; cases h'

section
variable (P : Program) (w : World)
def ObjOk (H : Hp) (h : Heap) (a : Addr) : HO → Prop
  | .lst xs => xs.length ≤ sizeLine ∧ ∃ (its : List Value) (n : Nat), Vals xs its ∧ h.get? a = some { cls := .type "list", data := .seq its.toArray n }
  | .tup xs => xs.length ≤ sizeLine ∧ ∃ its : List Value, Vals xs its ∧ IsTup h a its.toArray
  | .dK kvs => kvs.length ≤ sizeLine ∧ (a == sysModules) = false ∧ ∃ vs, KV kvs vs ∧ h.DictOf (mixKind P w) a vs
  | .dT kvs => kvs.length ≤ sizeLine ∧ (a == sysModules) = false ∧ ∃ xs : List (List Key × Addr × Value),
      Paired (fun (p : List Key × V) (q : List Key × Addr × Value) => p.1 = q.1 ∧ H q.2.1 = some (.tup (p.1.map kV)) ∧ RelV p.2 q.2.2) kvs xs ∧
      ∃ o es ep, h.get? a = some o ∧ o.ExactDict ∧ o.data = .dict es ep ∧ es.toList = xs.map (entryOfKey (tupleKind (mixKind P w))) ∧ (xs.map (·.1)).Nodup
  | .set S n => h.SetOf (intKind P w) a S n
  | .ins C dx fs => H dx = some (.own a) ∧ fs.length ≤ 1000 ∧ dx ≠ a ∧ h.get? a = some (PySem.W.instObj C dx) ∧
      ∃ mA, h.Ns1 dx mA ∧ (∀ f, RelO (fs.lookup f) (mA f)) ∧ PySem.Within mA (fs.map (·.1))
  | .own _ => ∃ o, h.get? a = some o
  | .xd fs => ∃ mA, h.Ns1 a mA ∧ ∀ f, RelO (fs.lookup f) (mA f)
  | .rng lo hi => ∃ t u v, h.get? a = some { cls := .type "range", data := .fields #[.int lo t, .int hi u, .int 1 v] }
  | .frz o u => h.get? a = some o ∧ ObjOk H h a u
  | .tbl ps => h.get? a = some { cls := .none, data := .fields ps }
  | .met f x => h.get? a = some (PySem.W.methodObj (.ref f) (.ref x))
  | .ext φ => φ h ∧ (∃ o, h.get? a = some o) ∧ ∀ h1 h2 : Heap, φ h1 → (∀ o, h1.get? a = some o → h2.get? a = some o) → φ h2
/-- the abstract heap is held -/
def HOk (H : Hp) (h : Heap) : Prop := ∀ a o, H a = some o → ObjOk P w H h a o
end

section
variable {P : Program} {w : World} {H H' : Hp} {h h' : Heap} {a : Addr} {o : HO}
theorem ObjOk.lt (x : ObjOk P w H h a o) : a < h.objs.size := by
  cases o with
  | lst xs => obtain ⟨_, _, _, _, e⟩ := x; exact Heap.lt_size e
  | tup xs => obtain ⟨_, _, _, p⟩ := x; exact p.lt
  | dK kvs => obtain ⟨_, _, _, _, o, _, _, e, _⟩ := x; exact Heap.lt_size e
  | dT kvs => obtain ⟨_, _, _, _, o, _, _, e, _⟩ := x; exact Heap.lt_size e
  | set S n => obtain ⟨o, _, _, _, e, _⟩ := x; exact Heap.lt_size e
  | ins C dx fs => obtain ⟨_, _, _, e, _⟩ := x; exact Heap.lt_size e
  | own y => obtain ⟨_, e⟩ := x; exact Heap.lt_size e
  | xd fs => obtain ⟨_, ⟨_, _, _, e, _⟩, _⟩ := x; exact Heap.lt_size e
  | rng lo hi => obtain ⟨_, _, _, e⟩ := x; exact Heap.lt_size e
  | frz ob u => obtain ⟨e, _⟩ := x; exact Heap.lt_size e
  | tbl ps => exact Heap.lt_size (show h.get? a = some _ from x)
  | met f y => exact Heap.lt_size (show h.get? a = some _ from x)
  | ext φ => obtain ⟨_, ⟨_, e⟩, _⟩ := x; exact Heap.lt_size e
theorem Paired.mapP {α β : Type} {F G : α → β → Prop} : ∀ {l₁ : List α} {l₂ : List β}, Paired F l₁ l₂ → (∀ a b, F a b → G a b) → Paired G l₁ l₂
  | _, _, .nil, _ => .nil
  | _, _, .cons r t, f => .cons (f _ _ r) (Paired.mapP t f)
/-- what an object's description leans on: its own object, its own dict, the tuples -/
theorem ObjOk.stay (x : ObjOk P w H h a o) (k : ∀ b u, (b = a ∨ H b = some (.own a)) → h.get? b = some u → h'.get? b = some u)
    (ho : ∀ b, H b = some (.own a) → H' b = some (.own a)) (ht : ∀ b xs, H b = some (.tup xs) → H' b = some (.tup xs)) : ObjOk P w H' h' a o := by
  induction o with
  | lst xs => obtain ⟨z, its, n, r, e⟩ := x; exact ⟨z, its, n, r, k _ _ (.inl rfl) e⟩
  | tup xs => obtain ⟨z, its, r, ob, e, c⟩ := x; exact ⟨z, its, r, ob, k _ _ (.inl rfl) e, c⟩
  | dK kvs => obtain ⟨z, y, vs, r, ob, es, ep, e, c⟩ := x; exact ⟨z, y, vs, r, ob, es, ep, k _ _ (.inl rfl) e, c⟩
  | dT kvs =>
    obtain ⟨z, y, xs, r, ob, es, ep, e, c⟩ := x
    exact ⟨z, y, xs, Paired.mapP r fun p q z => ⟨z.1, ht _ _ z.2.1, z.2.2⟩, ob, es, ep, k _ _ (.inl rfl) e, c⟩
  | set S n => obtain ⟨ob, es, ep, t, e, c⟩ := x; exact ⟨ob, es, ep, t, k _ _ (.inl rfl) e, c⟩
  | ins C dx fs =>
    obtain ⟨d, z, ne, e, mA, ⟨od, es, ep, e2, c⟩, r⟩ := x
    exact ⟨ho _ d, z, ne, k _ _ (.inl rfl) e, mA, ⟨od, es, ep, k _ _ (.inr d) e2, c⟩, r⟩
  | own y => obtain ⟨ob, e⟩ := x; exact ⟨ob, k _ _ (.inl rfl) e⟩
  | xd fs => obtain ⟨mA, ⟨od, es, ep, e, c⟩, r⟩ := x; exact ⟨mA, ⟨od, es, ep, k _ _ (.inl rfl) e, c⟩, r⟩
  | rng lo hi => obtain ⟨t, u, v, e⟩ := x; exact ⟨t, u, v, k _ _ (.inl rfl) e⟩
  | frz ob u ih => obtain ⟨e, q⟩ := x; exact ⟨k _ _ (.inl rfl) e, ih q⟩
  | tbl ps =>
    have e : h.get? a = some { cls := .none, data := .fields ps } := x
    show h'.get? a = some { cls := .none, data := .fields ps }
    exact k a _ (.inl rfl) e
  | met f y =>
    have e : h.get? a = some (PySem.W.methodObj (.ref f) (.ref y)) := x
    show h'.get? a = some (PySem.W.methodObj (.ref f) (.ref y))
    exact k a _ (.inl rfl) e
  | ext φ => obtain ⟨p, ⟨o, e⟩, st⟩ := x; exact ⟨st _ _ p fun o q => k _ _ (.inl rfl) q, ⟨o, k _ _ (.inl rfl) e⟩, st⟩
theorem HOk.lt (x : HOk P w H h) (e : H a = some o) : a < h.objs.size := (x a o e).lt
theorem HOk.fresh (x : HOk P w H h) (e : h.objs.size ≤ a) : H a = none := by
  cases q : H a with
  | none => rfl
  | some u => exact absurd (Nat.lt_of_lt_of_le (x.lt q) e) (Nat.lt_irrefl _)
/-- every object of the heap is kept -/
theorem HOk.kept (x : HOk P w H h) (k : ∀ b u, h.get? b = some u → h'.get? b = some u) : HOk P w H h' := fun a o e =>
  (x a o e).stay (fun b u _ q => k b u q) (fun _ q => q) fun _ _ q => q
/-- a new object is laid and tracked -/
theorem HOk.laid (x : HOk P w H h) (k : ∀ b u, h.get? b = some u → h'.get? b = some u) (hp : h.objs.size ≤ a) (new : ObjOk P w (upd H a o) h' a o) : HOk P w (upd H a o) h' := fun b u e => by
  have hn := x.fresh hp
  by_cases hb : b = a
  · subst hb; rw [upd_same] at e; cases e; exact new
  · rw [upd_ne hb] at e
    exact (x b u e).stay (fun c v _ q => k c v q) (fun c q => by rw [upd_ne (ne_of_none q hn)]; exact q) fun c xs q => by rw [upd_ne (ne_of_none q hn)]; exact q
end

/-- what may be read as u: it is u, or a known u -/
def Rd (H : Hp) (a : Addr) (u : HO) : Prop := H a = some u ∨ ∃ o, H a = some (.frz o u)
theorem Rd.of {H : Hp} {a : Addr} {u : HO} (h : H a = some u) : Rd H a u := .inl h
theorem Rd.ok {P : Program} {w : World} {H : Hp} {h : Heap} {a : Addr} {u : HO} (r : Rd H a u) (x : HOk P w H h) : ObjOk P w H h a u := by
  rcases r with r | ⟨o, r⟩
  · exact x a u r
  · obtain ⟨_, q⟩ := x a _ r
    exact q
/-- what may be written -/
def Mut : Option HO → Prop
  | some (.lst _) => True
  | some (.dK _) => True
  | some (.dT _) => True
  | some (.set _ _) => True
  | some (.ins _ _ _) => True
  | some (.ext _) => True
  | _ => False
section
variable {P : Program} {w : World} {H : Hp} {h h' : Heap} {x e : Addr} {o' : HO}
/-- the object at e is changed: x itself, or the dict of the instance x -/
theorem HOk.write (ok : HOk P w H h) (mu : Mut (H x)) (he : e = x ∨ H e = some (.own x)) (k : ∀ b u, b ≠ e → h.get? b = some u → h'.get? b = some u) (heo : ∃ u, h'.get? e = some u)
    (new : ObjOk P w (upd H x o') h' x o') : HOk P w (upd H x o') h' := fun b u q => by
  have nown : ∀ c y, H c = some (.own y) → c ≠ x := fun c y r z => by subst z; rw [r] at mu; exact mu
  have ntup : ∀ c xs, H c = some (.tup xs) → c ≠ x := fun c xs r z => by subst z; rw [r] at mu; exact mu
  by_cases hb : b = x
  · subst hb; rw [upd_same] at q; cases q; exact new
  · rw [upd_ne hb] at q
    by_cases hbe : b = e
    · have q' : H b = some (.own x) := by
        rcases he with z | z
        · exact absurd (hbe.trans z) hb
        · rw [hbe]; exact z
      rw [q] at q'; cases q'
      obtain ⟨v, hv⟩ := heo
      exact ⟨v, by rw [hbe]; exact hv⟩
    · refine (ok b u q).stay (fun c v hc r => k c v ?_ r) (fun c r => by rw [upd_ne (nown c b r)]; exact r) fun c xs r => by rw [upd_ne (ntup c xs r)]; exact r
      rcases hc with rfl | hc
      · exact hbe
      · rintro rfl
        rcases he with z | z
        · exact nown c b hc z
        · rw [hc] at z; cases z; exact hb rfl
end

/-! ### kept unless tracked; of the frames at fs (the callers') the slots may change (an exception that passes writes there); of the records at ex (iterators) nothing is said -/
structure Un (fs ex : List Addr) (H H' : Hp) (h h' : Heap) : Prop where
  keep : ∀ b o, h.get? b = some o → H b = none → b ∉ fs → b ∉ ex → h'.get? b = some o
  slot : ∀ b o, h.get? b = some o → H b = none → b ∈ fs → b ∉ ex → ∃ sl, h'.get? b = some { o with slots := sl }
  free : ∀ b o, h.get? b = some o → H b = none → b ∉ ex → H' b = none
  there : ∀ b o, h.get? b = some o → b ∉ ex → ∃ o', h'.get? b = some o'
  tups : ∀ b xs, H b = some (.tup xs) → H' b = some (.tup xs)
  frzs : ∀ b o u, H b = some (.frz o u) → H' b = some (.frz o u)
  tbls : ∀ b ps, H b = some (.tbl ps) → ∃ more, H' b = some (.tbl (ps ++ more))
section
variable {fs fs' ex ex' : List Addr} {H H1 H2 : Hp} {h h1 h2 h' : Heap} {a x e : Addr} {o : HO}
theorem Un.any (u : Un fs ex H H1 h h1) {b : Addr} {ob : Obj} (q : h.get? b = some ob) (n : H b = none) (hx : b ∉ ex) : ∃ sl, h1.get? b = some { ob with slots := sl } := by
  by_cases hb : b ∈ fs
  · exact u.slot b ob q n hb hx
  · exact ⟨ob.slots, u.keep b ob q n hb hx⟩
theorem Un.trans (a : Un fs ex H H1 h h1) (b : Un fs ex H1 H2 h1 h2) : Un fs ex H H2 h h2 where
  keep := fun c ob q n hc hx => b.keep c ob (a.keep c ob q n hc hx) (a.free c ob q n hx) hc hx
  slot := fun c ob q n hc hx => by
    obtain ⟨sl, e1⟩ := a.slot c ob q n hc hx
    obtain ⟨sl', e2⟩ := b.slot c _ e1 (a.free c ob q n hx) hc hx
    exact ⟨sl', e2⟩
  free := fun c ob q n hx => by
    obtain ⟨o', e1⟩ := a.there c ob q hx
    exact b.free c o' e1 (a.free c ob q n hx) hx
  there := fun c ob q hx => by
    obtain ⟨o', e1⟩ := a.there c ob q hx
    exact b.there c o' e1 hx
  tups := fun c xs q => b.tups c xs (a.tups c xs q)
  frzs := fun c ob xs q => b.frzs c ob xs (a.frzs c ob xs q)
  tbls := fun c ps q => by
    obtain ⟨m1, e1⟩ := a.tbls c ps q
    obtain ⟨m2, e2⟩ := b.tbls c _ e1
    exact ⟨m1 ++ m2, by rw [e2, Array.append_assoc]⟩
theorem Un.kept (k : ∀ b u, h.get? b = some u → h'.get? b = some u) : Un fs ex H H h h' :=
  ⟨fun b ob q _ _ _ => k b ob q, fun b ob q _ _ _ => ⟨ob.slots, k b ob q⟩, fun _ _ _ n _ => n, fun b ob q _ => ⟨ob, k b ob q⟩, fun _ _ q => q, fun _ _ _ q => q, fun _ ps q => ⟨#[], by rw [q]; simp⟩⟩
theorem Un.refl : Un fs ex H H h h := Un.kept fun _ _ q => q
theorem Un.laid (k : ∀ b u, h.get? b = some u → h'.get? b = some u) (hp : h.objs.size ≤ a) (hn : H a = none) : Un fs ex H (upd H a o) h h' where
  keep := fun b u q _ _ _ => k b u q
  slot := fun b u q _ _ _ => ⟨u.slots, k b u q⟩
  free := fun b u q n _ => by rw [upd_ne (Nat.ne_of_lt (Nat.lt_of_lt_of_le (Heap.lt_size q) hp))]; exact n
  there := fun b u q _ => ⟨u, k b u q⟩
  tups := fun b xs q => by rw [upd_ne (ne_of_none q hn)]; exact q
  frzs := fun b u xs q => by rw [upd_ne (ne_of_none q hn)]; exact q
  tbls := fun b ps q => ⟨#[], by rw [upd_ne (ne_of_none q hn), q]; simp⟩
theorem Un.write (mu : Mut (H x)) (he : e = x ∨ H e = some (.own x)) (k : ∀ b u, b ≠ e → h.get? b = some u → h'.get? b = some u) (heo : ∃ u, h'.get? e = some u) : Un fs ex H (upd H x o) h h' := by
  have hx : ∀ b, H b = none → b ≠ x := fun b n z => by subst z; rw [n] at mu; exact mu
  have hb : ∀ b, H b = none → b ≠ e := fun b n z => by
    subst z
    rcases he with r | r
    · exact hx b n r
    · rw [n] at r; cases r
  have hm : ∀ b u, H b = some u → ¬ Mut (some u) → b ≠ x := fun b u q nm z => by subst z; rw [q] at mu; exact nm mu
  refine ⟨fun b u q n _ _ => k b u (hb b n) q, fun b u q n _ _ => ⟨u.slots, k b u (hb b n) q⟩, fun b u q n _ => by rw [upd_ne (hx b n)]; exact n, fun b u q _ => ?_,
    fun b xs q => by rw [upd_ne (hm b _ q fun z => z)]; exact q, fun b u xs q => by rw [upd_ne (hm b _ q fun z => z)]; exact q, fun b ps q => ⟨#[], by rw [upd_ne (hm b _ q fun z => z), q]; simp⟩⟩
  by_cases hbe : b = e
  · subst hbe; exact heo
  · exact ⟨u, k b u hbe q⟩
theorem Un.mono (u : Un fs ex H H1 h h1) (hs : ∀ b ∈ fs, b ∈ fs') (hx : ∀ b ∈ ex, b ∈ ex') : Un fs' ex' H H1 h h1 :=
  ⟨fun b ob q n hb he => u.keep b ob q n (fun z => hb (hs b z)) fun z => he (hx b z), fun _ _ q n _ he => u.any q n fun z => he (hx _ z), fun b ob q n he => u.free b ob q n fun z => he (hx b z), fun b ob q he => u.there b ob q fun z => he (hx b z), u.tups, u.frzs, u.tbls⟩
end

/-! ### the heap without what is tracked -/
def trk (h : Heap) (H : Hp) : List Addr := (List.range h.objs.size).filter fun a => (H a).isSome
def hidT (h : Heap) (H : Hp) : Heap := PySem.W.hideAll h (trk h H)
theorem hidT_size (h : Heap) (H : Hp) : (hidT h H).objs.size = h.objs.size := PySem.W.hideAll_size _ _
theorem hidT_get {h : Heap} {H : Hp} {b : Addr} {o : Obj} (e : h.get? b = some o) (n : H b = none) : (hidT h H).get? b = some o :=
  PySem.W.hideAll_get _ e fun hm => by
    have q : (H b).isSome = true := (List.mem_filter.mp hm).2
    rw [n] at q; simp at q
theorem of_hidT {h : Heap} {H : Hp} {b : Addr} {o : Obj} (e : (hidT h H).get? b = some o) : h.get? b = some o ∧ H b = none := by
  have e' : h.get? b = some o := PySem.W.of_hideAll (trk h H) e
  refine ⟨e', ?_⟩
  cases q : H b with
  | none => rfl
  | some x =>
    have hm : b ∈ trk h H := List.mem_filter.mpr ⟨List.mem_range.mpr (Heap.lt_size e'), by simp [q]⟩
    have z : (hidT h H).get? b = none := PySem.W.hideAll_none (trk h H) hm
    rw [z] at e; cases e

/-! ### OpenK's ledger, filled with every new object but one -/
def allNews (g h : Heap) (L : Addr) : List (Addr × Obj) := (List.range h.objs.size).filterMap fun a => if a = L ∨ (g.get? a).isSome = true then none else (h.get? a).map fun o => (a, o)
def rest (g h : Heap) (L d : Addr) : List (Addr × Obj) := (allNews g h L).filter fun p => decide (p.1 ≠ d)
end L2

namespace L2
open PySem PySem.Spec PyProof.Rows

/-- the module's facts, over the base: the heap at the law's entry without what is tracked there -/
structure Mod (K : PySem.W.Frag) (mg : Str → Option Value) (base : Heap) : Prop where
  kin : K.In base
  glob : base.Ns mainGlobals mg
  blt : ∃ mb, base.Ns builtinsNs mb ∧ ∀ x : Str, x ≠ "__name__" → mb x = bootBuiltins x
  nolimit : base.NoLimit

/-- the context: a def's body (or a comprehension's block) running. base: fixed through the whole law; s₀, H₀: the entry; outer: the frames whose slots others may change (a def's callers); stack: all frames that run;
   ex: iterators that were made ahead of the entry and are walked here (a comprehension's); fn: the names whose cells were made at the entry (a def: all; a comprehension's block: its own); calm: not within an except suite; pn: pins that every state bears; xe: what is wanted of an exception that leaves the code -/
structure Cx where
  prog : Program
  w : World
  K : PySem.W.Frag
  mg : Str → Option Value
  base : Heap
  A : Around
  N : List Str
  s₀ : Shared
  H₀ : Hp
  env : Env
  outer : List Env
  stack : List Env
  ex : List Addr
  fn : Str → Bool
  calm : Bool
  pn : List (Addr × Obj)
  xe : Value → Shared → Prop
/-- the callers' frames -/
def frs (l : List Env) : List Addr := l.filterMap (·.frame)
abbrev Cx.fs (X : Cx) : List Addr := frs X.outer

def Vis (sc : Scope) (x : Str) : Prop := sc.names.lookup x = some .local ∨ sc.names.lookup x = some .cell ∨ sc.names.lookup x = some .free
def Loc (sc : Scope) (x : Str) : Prop := sc.names.lookup x = some .local ∨ sc.names.lookup x = some .cell
def Look (env : Env) (h : Heap) (m : Str → Option Value) (x : Str) (u : Value) : Prop :=
  (env.kindOf x = some .local ∧ m x = some u) ∨ ((env.kindOf x = some .cell ∨ env.kindOf x = some .free) ∧ ∃ c, env.cells.lookup x = some c ∧ h.IsCell c (some u))

structure Cx.Ok (X : Cx) : Prop where
  mod : Mod X.K X.mg X.base
  kind : X.env.scope.kind = .function
  glob : X.env.globals = mainGlobals
  blt : X.env.builtins = builtinsNs
  above : X.s₀.heap.objs.size ≤ X.env.locals
  inj : ∀ x y c, X.env.cells.lookup x = some c → X.env.cells.lookup y = some c → x = y
  has : ∀ x, (X.env.kindOf x = some .cell ∨ X.env.kindOf x = some .free) → ∃ c, X.env.cells.lookup x = some c
  cab : ∀ x c, X.fn x = true → X.env.cells.lookup x = some c → X.s₀.heap.objs.size ≤ c
  hd : X.calm = true → X.A.handled = none
  frames : X.A.frames = some X.stack
  stk : X.stack = X.outer ∨ (X.stack = X.env :: X.outer ∧ X.env.frame = some X.env.locals)
  exf : ∀ b ∈ X.ex, b ≠ X.env.locals ∧ ∀ x c, X.env.cells.lookup x = some c → c ≠ b
  bs : ∀ b o, X.base.get? b = some o → X.s₀.heap.get? b = some o ∧ X.H₀ b = none
  bsz : X.base.objs.size ≤ X.s₀.heap.objs.size
  noex : ∀ b o, X.base.get? b = some o → b ∉ X.ex
  exfs : ∀ b ∈ X.ex, b ∉ X.fs
  funs : X.s₀.heap.FunFrames X.base X.outer
  frf : ∀ b ∈ X.fs, X.H₀ b = none

structure Inv (X : Cx) (pins : List (Addr × Obj)) (σ : List (Option V)) (H : Hp) (s : Shared) : Prop where
  ok : X.Ok
  os : s.os = X.s₀.os
  bare : AllBare s.gens
  base : Un X.fs X.ex X.H₀ H X.s₀.heap s.heap
  loc : ∃ m, s.heap.Ns X.env.locals m ∧ ∀ (i : Nat) (x : Str) (v : V), X.N[i]? = some x → σ[i]? = some (some v) → Vis X.env.scope x → ∃ u, RelV v u ∧ Look X.env s.heap m x u
  cell : ∀ x c, X.env.cells.lookup x = some c → ∃ v, s.heap.IsCell c v
  free : H X.env.locals = none
  freeC : ∀ x c, X.env.cells.lookup x = some c → H c = none
  pin : ∀ p ∈ X.pn ++ pins, s.heap.get? p.1 = some p.2 ∧ H p.1 = none ∧ p.1 ≠ X.env.locals ∧ p.1 ∉ X.fs ∧ ∀ v, p.2.data ≠ .cell v
  hok : HOk X.prog X.w H s.heap
  len : σ.length = X.N.length

section
variable {X : Cx} {pins : List (Addr × Obj)} {σ : List (Option V)} {H H' : Hp} {s : Shared} {h' : Heap}

theorem Cx.Ok.nofr (ok : X.Ok) {b : Addr} {o : Obj} (e : X.base.get? b = some o) : b ∉ X.fs := fun hb => by
  have := (ok.funs.mem hb).1
  rw [e] at this; cases this
theorem Inv.bs (I : Inv X pins σ H s) : ∀ b o, X.base.get? b = some o → s.heap.get? b = some o ∧ H b = none := fun b o e =>
  ⟨I.base.keep b o (I.ok.bs b o e).1 (I.ok.bs b o e).2 (I.ok.nofr e) (I.ok.noex b o e), I.base.free b o (I.ok.bs b o e).1 (I.ok.bs b o e).2 (I.ok.noex b o e)⟩
theorem Inv.bk (I : Inv X pins σ H s) : ∀ b o, X.base.get? b = some o → s.heap.get? b = some o := fun b o e => (I.bs b o e).1
theorem Inv.mod (I : Inv X pins σ H s) : Mod X.K X.mg X.base := I.ok.mod
theorem Inv.kIn (I : Inv X pins σ H s) : X.K.In s.heap := I.ok.mod.kin.keeps I.bk
theorem Inv.nolimit (I : Inv X pins σ H s) : s.heap.NoLimit := I.ok.mod.nolimit.keeps I.bk
/-- the frame over the base: for OpenK's rules (K.In X.base is I.mod.kin) -/
theorem Inv.fr (I : Inv X pins σ H s) : ∃ m, Fr X.base X.env.locals s.heap m :=
  let ⟨m, hn, _⟩ := I.loc
  ⟨m, hn, I.bk, Nat.le_trans I.ok.bsz I.ok.above⟩
theorem Inv.lt (I : Inv X pins σ H s) : X.env.locals < s.heap.objs.size := let ⟨_, hn, _⟩ := I.loc; hn.lt
theorem Inv.sz (I : Inv X pins σ H s) : X.s₀.heap.objs.size ≤ s.heap.objs.size := Nat.le_trans I.ok.above (Nat.le_of_lt I.lt)
theorem Inv.nofs (I : Inv X pins σ H s) {a : Addr} (h : s.heap.objs.size ≤ a) : a ∉ X.fs := fun hb => by
  obtain ⟨_, o, ho, _⟩ := I.ok.funs.mem hb
  exact absurd (Nat.lt_of_lt_of_le (Heap.lt_size ho) (Nat.le_trans I.sz h)) (Nat.lt_irrefl _)
theorem Inv.cne (I : Inv X pins σ H s) : ∀ x c, X.env.cells.lookup x = some c → c ≠ X.env.locals := fun x c e z => by
  obtain ⟨v, o, ho, hd⟩ := I.cell x c e
  obtain ⟨m, ⟨o', es, ep, ho', hd', _⟩, _⟩ := I.loc
  rw [z, ho'] at ho; cases ho; rw [hd'] at hd; cases hd
theorem Inv.funs (I : Inv X pins σ H s) : s.heap.FunFrames X.base X.outer := by
  have all : ∀ (l : List Env), (∀ b ∈ frs l, b ∈ X.fs) → X.s₀.heap.FunFrames X.base l → s.heap.FunFrames X.base l := by
    intro l
    induction l with
    | nil => intro _ _; trivial
    | cons env r ih =>
      intro hs hl
      obtain ⟨hk, ⟨L, o, hf, hn, ho, hd⟩, hr⟩ := hl
      have hL : L ∈ X.fs := hs L (by unfold frs; rw [List.filterMap_cons, hf]; exact List.mem_cons_self)
      obtain ⟨sl, e⟩ := I.base.slot L o ho (I.ok.frf L hL) hL fun z => I.ok.exfs L z hL
      exact ⟨hk, ⟨L, _, hf, hn, e, hd⟩, ih (fun b hb => hs b (by unfold frs; rw [List.filterMap_cons, hf]; exact List.mem_cons_of_mem _ hb)) hr⟩
  exact all X.outer (fun _ hb => hb) I.ok.funs

/-- the frames that run, for a call -/
theorem Inv.stack (I : Inv X pins σ H s) : s.heap.FunFrames X.base X.stack := by
  rcases I.ok.stk with e | ⟨e, hf⟩
  · rw [e]; exact I.funs
  · rw [e]
    obtain ⟨m, hn, _⟩ := I.loc
    refine .cons (by rw [I.ok.kind]; decide) hf hn ?_ I.funs
    exact Heap.get?_none_of_le (Nat.le_trans I.ok.bsz I.ok.above)
theorem Inv.stkSub (I : Inv X pins σ H s) : ∀ b ∈ frs X.stack, b ∈ X.env.locals :: X.fs := fun b hb => by
  rcases I.ok.stk with e | ⟨e, hf⟩
  · rw [e] at hb; exact List.mem_cons_of_mem _ hb
  · rw [e] at hb
    unfold frs at hb
    rw [List.filterMap_cons, hf] at hb
    exact hb
theorem Inv.stkFree (I : Inv X pins σ H s) : ∀ b ∈ frs X.stack, H b = none := fun b hb => by
  rcases List.mem_cons.mp (I.stkSub b hb) with e | hb
  · rw [e]; exact I.free
  · obtain ⟨_, o, ho, _⟩ := I.ok.funs.mem hb
    exact I.base.free b o ho (I.ok.frf b hb) fun z => I.ok.exfs b z hb

/-- THE STEP: the untracked objects but the frame and the records at ch are kept (the callers' frames up to slots), the frame's map is kept, the new abstract heap is held -/
theorem Inv.step {g' : Array GenState} {t' : Nat} {d' : Drawn} {ch : List Addr} (I : Inv X pins σ H s)
    (hch : ∀ b ∈ ch, (b ∈ X.ex ∨ X.s₀.heap.objs.size ≤ b) ∧ b ≠ X.env.locals ∧ (∀ x c, X.env.cells.lookup x = some c → c ≠ b) ∧ ∀ p ∈ X.pn ++ pins, p.1 ≠ b)
    (keep : ∀ b o, b ≠ X.env.locals → b ∉ X.fs → b ∉ ch → s.heap.get? b = some o → H b = none → h'.get? b = some o)
    (slot : ∀ b o, b ≠ X.env.locals → b ∈ X.fs → b ∉ ch → s.heap.get? b = some o → H b = none → ∃ sl, h'.get? b = some { o with slots := sl }) (free : ∀ b o, b ∉ ch → s.heap.get? b = some o → H b = none → H' b = none)
    (there : ∀ b o, b ∉ ch → s.heap.get? b = some o → ∃ o', h'.get? b = some o')
    (tups : ∀ b xs, H b = some (.tup xs) → H' b = some (.tup xs)) (frzs : ∀ b o u, H b = some (.frz o u) → H' b = some (.frz o u)) (tbls : ∀ b ps, H b = some (.tbl ps) → ∃ more, H' b = some (.tbl (ps ++ more)))
    (ns : ∀ m, s.heap.Ns X.env.locals m → h'.Ns X.env.locals m) (hok : HOk X.prog X.w H' h') (hg : AllBare g') :
    Inv X pins σ H' { s with heap := h', gens := g', drawn := d', toks := t' } := by
  have neL : ∀ b o, X.s₀.heap.get? b = some o → b ≠ X.env.locals := fun b o e => Nat.ne_of_lt (Nat.lt_of_lt_of_le (Heap.lt_size e) I.ok.above)
  have neC : ∀ b o, X.s₀.heap.get? b = some o → b ∉ X.ex → b ∉ ch := fun b o e hx hb => by
    rcases (hch b hb).1 with z | z
    · exact hx z
    · exact absurd (Nat.lt_of_lt_of_le (Heap.lt_size e) z) (Nat.lt_irrefl _)
  have cellK : ∀ x c, X.env.cells.lookup x = some c → ∀ v, s.heap.IsCell c v → h'.IsCell c v := fun x c e v ⟨o, ho, hd⟩ => by
    have nch : c ∉ ch := fun z => (hch c z).2.2.1 x c e rfl
    by_cases hc : c ∈ X.fs
    · obtain ⟨sl, q⟩ := slot c o (I.cne x c e) hc nch ho (I.freeC x c e)
      exact ⟨_, q, hd⟩
    · exact ⟨o, keep c o (I.cne x c e) hc nch ho (I.freeC x c e), hd⟩
  refine ⟨I.ok, I.os, hg, ⟨fun b o e n hb hx => ?_, fun b o e n hb hx => ?_, fun b o e n hx => ?_, fun b o e hx => ?_, fun b xs e => tups b xs (I.base.tups b xs e), fun b o xs e => frzs b o xs (I.base.frzs b o xs e), fun b ps e => ?_⟩, ?_, fun x c e => ?_, ?_, fun x c e => ?_, fun p hp => ?_, hok, I.len⟩
  · exact keep b o (neL b o e) hb (neC b o e hx) (I.base.keep b o e n hb hx) (I.base.free b o e n hx)
  · obtain ⟨sl, e1⟩ := I.base.slot b o e n hb hx
    obtain ⟨sl', e2⟩ := slot b _ (neL b o e) hb (neC b o e hx) e1 (I.base.free b o e n hx)
    exact ⟨sl', e2⟩
  · obtain ⟨o', e1⟩ := I.base.there b o e hx
    exact free b o' (neC b o e hx) e1 (I.base.free b o e n hx)
  · obtain ⟨o', e1⟩ := I.base.there b o e hx
    exact there b o' (neC b o e hx) e1
  · obtain ⟨m1, e1⟩ := I.base.tbls b ps e
    obtain ⟨m2, e2⟩ := tbls b _ e1
    exact ⟨m1 ++ m2, by rw [e2, Array.append_assoc]⟩
  · obtain ⟨m, hn, hl⟩ := I.loc
    refine ⟨m, ns m hn, fun i x v e1 e2 e3 => ?_⟩
    obtain ⟨u, r, l⟩ := hl i x v e1 e2 e3
    refine ⟨u, r, ?_⟩
    rcases l with l | ⟨k, c, e, z⟩
    · exact .inl l
    · exact .inr ⟨k, c, e, cellK x c e _ z⟩
  · obtain ⟨v, z⟩ := I.cell x c e
    exact ⟨v, cellK x c e v z⟩
  · obtain ⟨m, ⟨o, _, _, ho, _⟩, _⟩ := I.loc
    exact free _ o (fun z => (hch _ z).2.1 rfl) ho I.free
  · obtain ⟨v, o, ho, hd⟩ := I.cell x c e
    exact free c o (fun z => (hch c z).2.2.1 x c e rfl) ho (I.freeC x c e)
  · obtain ⟨e, n, ne, nf, d⟩ := I.pin p hp
    have nch : p.1 ∉ ch := fun z => (hch p.1 z).2.2.2 p hp rfl
    exact ⟨keep p.1 p.2 ne nf nch e n, free p.1 p.2 nch e n, ne, nf, d⟩
/-- .. where the frame's own object is kept too -/
theorem Inv.un {t' : Nat} (I : Inv X pins σ H s) (u : Un X.fs [] H H' s.heap h') (hok : HOk X.prog X.w H' h') : Inv X pins σ H' { s with heap := h', toks := t' } := by
  obtain ⟨m, ⟨o, es, ep, ho, r⟩, _⟩ := id I.loc
  obtain ⟨sl, hL⟩ := u.any ho I.free (by simp)
  exact I.step (g' := s.gens) (d' := s.drawn) (ch := []) (fun _ z => nomatch z) (fun b o _ hb _ e n => u.keep b o e n hb (by simp)) (fun b o _ hb _ e n => u.slot b o e n hb (by simp)) (fun b o _ e n => u.free b o e n (by simp)) (fun b o _ e => u.there b o e (by simp)) u.tups u.frzs u.tbls (fun m' hm => by
    obtain ⟨o', es', ep', ho', r'⟩ := hm
    rw [ho] at ho'; cases ho'
    exact ⟨_, es', ep', hL, r'⟩) hok I.bare
/-- behind a call (or a comprehension's block): the slots of this frame may have changed too, the records at ch may have turned -/
theorem Inv.call {g' : Array GenState} {t' : Nat} {d' : Drawn} {ch : List Addr} (I : Inv X pins σ H s) (u : Un (frs X.stack) ch H H' s.heap h') (hok : HOk X.prog X.w H' h') (hg : AllBare g')
    (hch : ∀ b ∈ ch, (b ∈ X.ex ∨ X.s₀.heap.objs.size ≤ b) ∧ b ≠ X.env.locals ∧ (∀ x c, X.env.cells.lookup x = some c → c ≠ b) ∧ ∀ p ∈ X.pn ++ pins, p.1 ≠ b) :
    Inv X pins σ H' { s with heap := h', gens := g', drawn := d', toks := t' } := by
  obtain ⟨m, ⟨o, es, ep, ho, r⟩, _⟩ := id I.loc
  obtain ⟨sl, hL⟩ := u.any ho I.free fun z => (hch _ z).2.1 rfl
  exact I.step (ch := ch) hch (fun b o hL hb hc e n => u.keep b o e n (fun z => (List.mem_cons.mp (I.stkSub b z)).elim hL hb) hc) (fun b o _ _ hc e n => u.any e n hc) (fun b o hc e n => u.free b o e n hc) (fun b o hc e => u.there b o e hc) u.tups u.frzs u.tbls (fun m' hm => by
    obtain ⟨o', es', ep', ho', r'⟩ := hm
    rw [ho] at ho'; cases ho'
    exact ⟨_, es', ep', hL, r'⟩) hok hg
/-- an untracked record of ours (an iterator) has turned -/
theorem Inv.turned {t' : Nat} {it : Addr} (I : Inv X pins σ H s) (k : ∀ b o, b ≠ it → s.heap.get? b = some o → h'.get? b = some o) (hn : H it = none) (hL : it ≠ X.env.locals)
    (h1 : it ∈ X.ex ∨ X.s₀.heap.objs.size ≤ it) (h2 : ∀ x c, X.env.cells.lookup x = some c → c ≠ it) (h3 : ∀ p ∈ X.pn ++ pins, p.1 ≠ it) : Inv X pins σ H { s with heap := h', toks := t' } := by
  have nit : ∀ b u, H b = some u → b ≠ it := fun b u e z => by rw [z, hn] at e; cases e
  refine I.step (g' := s.gens) (d' := s.drawn) (ch := [it]) (fun b hb => ?_) (fun b o _ _ hc e _ => k b o (fun z => hc (by simp [z])) e) (fun b o _ _ hc e _ => ⟨o.slots, k b o (fun z => hc (by simp [z])) e⟩) (fun _ _ _ _ n => n)
    (fun b o hc e => ⟨o, k b o (fun z => hc (by simp [z])) e⟩) (fun _ _ e => e) (fun _ _ _ e => e) (fun b ps e => ⟨#[], by rw [e]; simp⟩) (fun m hm => ?_) (fun b u e => ?_) I.bare
  · have e : b = it := by simpa using hb
    subst e
    exact ⟨h1, hL, h2, h3⟩
  · obtain ⟨o, es, ep, ho, r⟩ := hm
    exact ⟨o, es, ep, k _ o (Ne.symm hL) ho, r⟩
  · refine (I.hok b u e).stay (fun c v hc q => k c v ?_ q) (fun _ q => q) fun _ _ q => q
    rcases hc with z | z
    · rw [z]; exact nit b u e
    · exact nit c _ z
theorem Inv.tok (I : Inv X pins σ H s) (t : Nat) : Inv X pins σ H { s with toks := t } := I.un (h' := s.heap) (t' := t) Un.refl I.hok
/-- all objects kept -/
theorem Inv.kept {t' : Nat} (I : Inv X pins σ H s) (k : ∀ b u, s.heap.get? b = some u → h'.get? b = some u) : Inv X pins σ H { s with heap := h', toks := t' } := I.un (Un.kept k) (I.hok.kept k)
/-- a new object laid and tracked -/
theorem Inv.laid {a : Addr} {o : HO} {t' : Nat} (I : Inv X pins σ H s) (k : ∀ b u, s.heap.get? b = some u → h'.get? b = some u) (hp : s.heap.objs.size ≤ a) (new : ObjOk X.prog X.w (upd H a o) h' a o) :
    Inv X pins σ (upd H a o) { s with heap := h', toks := t' } := I.un (Un.laid k hp (I.hok.fresh hp)) (I.hok.laid k hp new)
/-- an object written -/
theorem Inv.write {x e : Addr} {o : HO} {t' : Nat} (I : Inv X pins σ H s) (mu : Mut (H x)) (he : e = x ∨ H e = some (.own x)) (k : ∀ b u, b ≠ e → s.heap.get? b = some u → h'.get? b = some u) (heo : ∃ u, h'.get? e = some u)
    (new : ObjOk X.prog X.w (upd H x o) h' x o) : Inv X pins σ (upd H x o) { s with heap := h', toks := t' } := I.un (Un.write mu he k heo) (I.hok.write mu he k heo new)
/-- forgetting slots, pins -/
theorem Inv.weak {σ' : List (Option V)} (I : Inv X pins σ H s) (hl : σ'.length = σ.length) (w : ∀ (i : Nat) v, σ'[i]? = some (some v) → σ[i]? = some (some v)) : Inv X pins σ' H s :=
  ⟨I.ok, I.os, I.bare, I.base, let ⟨m, hn, hl'⟩ := I.loc; ⟨m, hn, fun i x v e1 e2 e3 => hl' i x v e1 (w i v e2) e3⟩, I.cell, I.free, I.freeC, I.pin, I.hok, hl.trans I.len⟩
theorem Inv.pins_of {pins' : List (Addr × Obj)} (I : Inv X pins σ H s) (h : ∀ p ∈ pins', s.heap.get? p.1 = some p.2 ∧ H p.1 = none ∧ p.1 ≠ X.env.locals ∧ p.1 ∉ X.fs ∧ ∀ v, p.2.data ≠ .cell v) : Inv X pins' σ H s :=
  ⟨I.ok, I.os, I.bare, I.base, I.loc, I.cell, I.free, I.freeC, fun p hp => (List.mem_append.mp hp).elim (fun z => I.pin p (List.mem_append_left _ z)) (h p), I.hok, I.len⟩

theorem nodup_ix {N : List Str} (hN : N.Nodup) {i j : Nat} {x : Str} (a : N[i]? = some x) (b : N[j]? = some x) : i = j := by
  obtain ⟨h1, e1⟩ := List.getElem?_eq_some_iff.mp a
  obtain ⟨h2, e2⟩ := List.getElem?_eq_some_iff.mp b
  exact (List.getElem_inj hN).mp (e1.trans e2.symm)

/-- a name is stored; what changed -/
theorem store_ok2 {M : Model} {A : Around} {E : Value → Shared → Prop} {i : Nat} {x : Str} {v : V} {u : Value} {Q : Unit → Shared → Prop} (I : Inv X pins σ H s) (hN : X.N.Nodup) (hi : X.N[i]? = some x) (hx : Loc X.env.scope x) (r : RelV v u)
    (h : ∀ s', Inv X pins (σ.set i (some v)) H s' → (∃ a, Heap.SameBut a s.heap s'.heap ∧ (a = X.env.locals ∨ X.env.cells.lookup x = some a)) → Q () s') (hf : X.fn x = true ∨ X.env.scope.names.lookup x = some .local := by first | exact .inl rfl | exact .inr rfl | assumption) : wpAny M A (storeName X.env x u) Q E s := by
  obtain ⟨m, hn, hl⟩ := id I.loc
  have hcls : (X.env.scope.kind == .class || (X.env.scope.kind == .module && X.env.locals != X.env.globals)) = false := by rw [I.ok.kind]; rfl
  have hiσ : i < σ.length := by rw [I.len]; exact (List.getElem?_eq_some_iff.mp hi).1
  have cne := I.cne
  have tracked : ∀ {a : Addr} {h' : Heap}, (∃ o, s.heap.get? a = some o ∧ H a = none) → Heap.SameBut a s.heap h' → HOk X.prog X.w H h' := fun {a h'} ha hs b ob e => by
    obtain ⟨_, _, hfree⟩ := ha
    refine (I.hok b ob e).stay (fun c w' hc q => (hs.2 c ?_).trans q) (fun _ q => q) fun _ _ q => q
    rintro rfl
    rcases hc with rfl | hc
    · rw [hfree] at e; cases e
    · rw [hfree] at hc; cases hc
  rcases hx with hk | hk
  · refine wpAny_storeName_local hk hn (fun h' hn' hs => ?_) hcls
    obtain ⟨oL, _, _, hoL, _⟩ := id hn
    refine h _ ⟨I.ok, I.os, I.bare, ⟨fun b o e n hb hx => ?_, fun b o e n hb hx => ?_, I.base.free, fun b o e hx => ?_, I.base.tups, I.base.frzs, I.base.tbls⟩, ⟨_, hn', fun j y v' e1 e2 e3 => ?_⟩, fun y c e => ?_, I.free, I.freeC, fun p hp => ?_, tracked ⟨oL, hoL, I.free⟩ hs, by simpa using I.len⟩ ⟨_, hs, .inl rfl⟩
    · exact (hs.2 b (Nat.ne_of_lt (Nat.lt_of_lt_of_le (Heap.lt_size e) I.ok.above))).trans (I.base.keep b o e n hb hx)
    · obtain ⟨sl, e1⟩ := I.base.slot b o e n hb hx
      exact ⟨sl, (hs.2 b (Nat.ne_of_lt (Nat.lt_of_lt_of_le (Heap.lt_size e) I.ok.above))).trans e1⟩
    · obtain ⟨o', e1⟩ := I.base.there b o e hx
      exact ⟨o', (hs.2 b (Nat.ne_of_lt (Nat.lt_of_lt_of_le (Heap.lt_size e) I.ok.above))).trans e1⟩
    · by_cases hj : j = i
      · subst hj
        rw [hi] at e1; cases e1
        rw [List.getElem?_set_self hiσ] at e2
        cases e2
        exact ⟨u, r, .inl ⟨hk, by simp⟩⟩
      · rw [List.getElem?_set_ne (Ne.symm hj)] at e2
        obtain ⟨u', r', q⟩ := hl j y v' e1 e2 e3
        refine ⟨u', r', ?_⟩
        rcases q with ⟨k, e⟩ | ⟨k, c, e, z⟩
        · refine .inl ⟨k, ?_⟩
          have : y ≠ x := fun e => hj (nodup_ix hN e1 (e ▸ hi))
          simp [this, e]
        · exact .inr ⟨k, c, e, z.sameBut hs (cne y c e)⟩
    · obtain ⟨w', z⟩ := I.cell y c e
      exact ⟨w', z.sameBut hs (cne y c e)⟩
    · obtain ⟨e, n, ne, nf, d⟩ := I.pin p hp
      exact ⟨(hs.2 p.1 ne).trans e, n, ne, nf, d⟩
  · have hfn : X.fn x = true := by
      rcases hf with z | z
      · exact z
      · rw [z] at hk; cases hk
    obtain ⟨c, hc⟩ := I.ok.has x (.inl hk)
    obtain ⟨w', z⟩ := I.cell x c hc
    refine wpAny_storeName_cell I.ok.kind hk hc z (fun h' hc' hs => ?_)
    obtain ⟨oc, hoc, hocd⟩ := id z
    refine h { s with heap := h' } ⟨I.ok, I.os, I.bare, ⟨fun b o e n hb hx => ?_, fun b o e n hb hx => ?_, I.base.free, fun b o e hx => ?_, I.base.tups, I.base.frzs, I.base.tbls⟩, ⟨m, hn.sameBut hs (Ne.symm (cne x c hc)), fun j y v' e1 e2 e3 => ?_⟩, fun y c' e => ?_, I.free, I.freeC, fun p hp => ?_, tracked ⟨oc, hoc, I.freeC x c hc⟩ hs, by simpa using I.len⟩ ⟨c, hs, .inr hc⟩
    · exact (hs.2 b (Nat.ne_of_lt (Nat.lt_of_lt_of_le (Heap.lt_size e) (I.ok.cab x c hfn hc)))).trans (I.base.keep b o e n hb hx)
    · obtain ⟨sl, e1⟩ := I.base.slot b o e n hb hx
      exact ⟨sl, (hs.2 b (Nat.ne_of_lt (Nat.lt_of_lt_of_le (Heap.lt_size e) (I.ok.cab x c hfn hc)))).trans e1⟩
    · obtain ⟨o', e1⟩ := I.base.there b o e hx
      exact ⟨o', (hs.2 b (Nat.ne_of_lt (Nat.lt_of_lt_of_le (Heap.lt_size e) (I.ok.cab x c hfn hc)))).trans e1⟩
    · by_cases hj : j = i
      · subst hj
        rw [hi] at e1; cases e1
        rw [List.getElem?_set_self hiσ] at e2
        cases e2
        exact ⟨u, r, .inr ⟨.inl hk, c, hc, hc'⟩⟩
      · rw [List.getElem?_set_ne (Ne.symm hj)] at e2
        obtain ⟨u', r', q⟩ := hl j y v' e1 e2 e3
        refine ⟨u', r', ?_⟩
        rcases q with q | ⟨k, c', e, z'⟩
        · exact .inl q
        · refine .inr ⟨k, c', e, z'.sameBut hs ?_⟩
          rintro rfl
          exact hj (nodup_ix hN e1 (I.ok.inj _ _ _ e hc ▸ hi))
    · by_cases hcc : c' = c
      · subst hcc; exact ⟨_, hc'⟩
      · obtain ⟨w2, z2⟩ := I.cell y c' e
        exact ⟨w2, z2.sameBut hs hcc⟩
    · obtain ⟨e, n, ne, nf, d⟩ := I.pin p hp
      refine ⟨(hs.2 p.1 ?_).trans e, n, ne, nf, d⟩
      intro q
      rw [q, hoc] at e
      have q' : oc = p.2 := Option.some.inj e
      exact d w' (by rw [← q']; exact hocd)
theorem store_ok {M : Model} {A : Around} {E : Value → Shared → Prop} {i : Nat} {x : Str} {v : V} {u : Value} {Q : Unit → Shared → Prop} (I : Inv X pins σ H s) (hN : X.N.Nodup) (hi : X.N[i]? = some x) (hx : Loc X.env.scope x) (r : RelV v u)
    (h : ∀ s', Inv X pins (σ.set i (some v)) H s' → Q () s') (hf : X.fn x = true ∨ X.env.scope.names.lookup x = some .local := by first | exact .inl rfl | exact .inr rfl | assumption) : wpAny M A (storeName X.env x u) Q E s :=
  store_ok2 I hN hi hx r (fun s' I' _ => h s' I') hf
/-- behind a call or a block, the state as it is -/
theorem Inv.call' {s' : Shared} {ch : List Addr} (I : Inv X pins σ H s) (ho : s'.os = s.os) (u : Un (frs X.stack) ch H H' s.heap s'.heap) (hok : HOk X.prog X.w H' s'.heap) (hg : AllBare s'.gens)
    (hch : ∀ b ∈ ch, (b ∈ X.ex ∨ X.s₀.heap.objs.size ≤ b) ∧ b ≠ X.env.locals ∧ (∀ x c, X.env.cells.lookup x = some c → c ≠ b) ∧ ∀ p ∈ X.pn ++ pins, p.1 ≠ b) : Inv X pins σ H' s' := by
  obtain ⟨h', g', d', t', o'⟩ := s'
  have e : o' = s.os := ho
  subst e
  exact I.call (g' := g') (t' := t') (d' := d') u hok hg hch
end

/-! ### the judgements -/
/-- an exception: its class, its own dict's address (where it has one), the abstract heap behind it -/
abbrev XK := Value → Option Addr → Hp → Prop
abbrev St := List (Option V)
abbrev VK := V → Hp → Prop
/-- an expression's reading; a test's; an argument list's -/
abbrev TE := St → Hp → VK → Prop
abbrev TT := St → Hp → (Bool → Hp → Prop) → Prop
abbrev TA := St → Hp → (List V → Hp → Prop) → Prop
/-- what is wanted behind a statement -/
structure Ends where
  nx : St → Hp → Prop
  rt : VK
  bk : St → Hp → Prop := fun _ _ => False
  ct : St → Hp → Prop := fun _ _ => False
abbrev TS := Ends → St → Hp → Prop

def EP (X : Cx) (pins : List (Addr × Obj)) (σ : St) (Q : VK) (u : Value) (s' : Shared) : Prop := ∃ v H', Inv X pins σ H' s' ∧ RelV v u ∧ Q v H'
def TP (X : Cx) (pins : List (Addr × Obj)) (σ : St) (Q : Bool → Hp → Prop) (b : Bool) (s' : Shared) : Prop := ∃ H', Inv X pins σ H' s' ∧ Q b H'
def AP (X : Cx) (pins : List (Addr × Obj)) (σ : St) (Q : List V → Hp → Prop) (us : List Value) (s' : Shared) : Prop := ∃ vs H', Inv X pins σ H' s' ∧ Vals vs us ∧ Q vs H'
def SP (X : Cx) (pins : List (Addr × Obj)) (D : Ends) (f : Flow) (s' : Shared) : Prop :=
  match f with
  | .next => ∃ σ' H', Inv X pins σ' H' s' ∧ D.nx σ' H'
  | .brk => ∃ σ' H', Inv X pins σ' H' s' ∧ D.bk σ' H'
  | .cont => ∃ σ' H', Inv X pins σ' H' s' ∧ D.ct σ' H'
  | .ret u => ∃ v σ' H', Inv X pins σ' H' s' ∧ RelV v u ∧ D.rt v H'

def PE (X : Cx) (e : Expr) (t : TE) : Prop :=
  ∀ (pins : List (Addr × Obj)) (s : Shared) (σ : St) (H : Hp) (Q : VK), Inv X pins σ H s → t σ H Q → wpAny (model X.prog X.w) X.A (eval e X.env) (EP X pins σ Q) X.xe s
def PT (X : Cx) (e : Expr) (t : TT) : Prop :=
  ∀ (pins : List (Addr × Obj)) (s : Shared) (σ : St) (H : Hp) (Q : Bool → Hp → Prop), Inv X pins σ H s → t σ H Q → wpAny (model X.prog X.w) X.A (isTrue e X.env (eval e X.env)) (TP X pins σ Q) X.xe s
/-- a test whatever its 'whole' is (and, or) -/
def PW (X : Cx) (e : Expr) (t : TT) : Prop :=
  ∀ (whole : Sem Value) (pins : List (Addr × Obj)) (s : Shared) (σ : St) (H : Hp) (Q : Bool → Hp → Prop), Inv X pins σ H s → t σ H Q → wpAny (model X.prog X.w) X.A (isTrue e X.env whole) (TP X pins σ Q) X.xe s
theorem PW.pt {X : Cx} {e : Expr} {t : TT} (h : PW X e t) : PT X e t := h _
/-- an argument list (no star), from the left -/
def PA (X : Cx) (es : List Expr) (t : TA) : Prop :=
  ∀ (pos : Pos) (pins : List (Addr × Obj)) (s : Shared) (σ : St) (H : Hp) (Q : List V → Hp → Prop), Inv X pins σ H s → t σ H Q → wpAny (model X.prog X.w) X.A (spliced (backTo pos (starEach es X.env))) (AP X pins σ Q) X.xe s
def PS (X : Cx) (st : Stmt) (t : TS) : Prop :=
  ∀ (pins : List (Addr × Obj)) (s : Shared) (σ : St) (H : Hp) (D : Ends), Inv X pins σ H s → t D σ H → wpAny (model X.prog X.w) X.A (exec st X.env) (SP X pins D) X.xe s
def PSs (X : Cx) (st : List Stmt) (t : TS) : Prop :=
  ∀ (pins : List (Addr × Obj)) (s : Shared) (σ : St) (H : Hp) (D : Ends), Inv X pins σ H s → t D σ H → wpAny (model X.prog X.w) X.A (execs st X.env) (SP X pins D) X.xe s
/-- weaken the end -/
theorem thn {α : Type} {t : Sem α} {Q Q' : α → Shared → Prop} {M : Model} {A : Around} {E : Value → Shared → Prop} {s : Shared} (h : wpAny M A t Q E s) (hQ : ∀ a s, Q a s → Q' a s) : wpAny M A t Q' E s := wpAny_mono h hQ fun _ _ x => x
end L2

namespace L2
open PySem PySem.Spec PyProof.Rows
section
variable {X : Cx}

/-- two expressions in a row -/
theorem bin {a b : Expr} {ta tb : TE} (ha : PE X a ta) (hb : PE X b tb) {pins : List (Addr × Obj)} {s : Shared} {σ : St} {H : Hp} {R : V → V → Hp → Prop} (I : Inv X pins σ H s) (h : ta σ H fun x H1 => tb σ H1 fun y H2 => R x y H2)
    {α : Type} {Q : α → Shared → Prop} {f : Value → Value → Sem α}
    (hf : ∀ v u s2 x y H2, Inv X pins σ H2 s2 → RelV x v → RelV y u → R x y H2 → wpAny (model X.prog X.w) X.A (f v u) Q X.xe s2) :
    wpAny (model X.prog X.w) X.A (eval a X.env) (fun v s₁ => wpAny (model X.prog X.w) X.A (eval b X.env) (fun u s₂ => wpAny (model X.prog X.w) X.A (f v u) Q X.xe s₂) X.xe s₁) X.xe s := by
  refine thn (ha pins s σ H _ I h) fun v s1 ⟨x, H1, I1, r1, q1⟩ => ?_
  refine thn (hb pins s1 σ H1 _ I1 q1) fun u s2 ⟨y, H2, I2, r2, q2⟩ => ?_
  exact hf v u s2 x y H2 I2 r1 r2 q2

/-! ### names and constants -/
def tVar (i : Nat) : TE := fun σ H Q => ∃ v, σ[i]? = some (some v) ∧ Q v H
def tC (v : V) : TE := fun _ H Q => Q v H
theorem pe_var {i : Nat} {x : Str} {pos : Pos} (hN : X.N[i]? = some x) (hv : Vis X.env.scope x) (hd : (x == ("__debug__" : Str)) = false := by decide) (hcd : (x == ("__classdict__" : Str)) = false := by decide) : PE X (.Name x pos) (tVar i) := by
  intro pins s σ H Q I h
  obtain ⟨v, e, h⟩ := h
  obtain ⟨m, hn, hl⟩ := I.loc
  obtain ⟨u, r, l⟩ := hl i x v hN e hv
  have fin : EP X pins σ Q u s := ⟨v, H, I, r, h⟩
  rcases l with ⟨hk, hm⟩ | ⟨hk, c, hc, hcell⟩
  · exact wpAny_Name (wpAny_loadName_local I.ok.kind hk hn hm fin) hd
  · rcases hk with hk | hk
    · exact wpAny_Name (wpAny_loadName_cell I.ok.kind hk hc hcell fin) hd
    · exact wpAny_Name (wpAny_loadName_free I.ok.kind hk hc hcell fin hcd) hd
theorem pe_int {i j pos} : PE X (.Constant (.int i) j pos) (tC (.int i)) := fun _ _ _ H _ I h => wpAny_Constant_int ⟨.int i, H, I.tok _, ⟨_, rfl⟩, h⟩
theorem pe_bl {b j pos} : PE X (.Constant (.bool b) j pos) (tC (.bl b)) := fun _ _ _ H _ I h => Constant_bool ⟨.bl b, H, I, rfl, h⟩
/-- a global name of the def -/
def Gl (X : Cx) (x : Str) : Prop := X.env.kindOf x = some .globalImplicit
theorem ld_glob {E : Value → Shared → Prop} {pins : List (Addr × Obj)} {s : Shared} {σ : St} {H : Hp} {x : Str} {u : Value} {pos : Pos} {Q : Value → Shared → Prop} (I : Inv X pins σ H s) (hg : Gl X x) (hm : X.mg x = some u) (h : Q u s)
    (hd : (x == ("__debug__" : Str)) = false := by decide) : wpAny (model X.prog X.w) X.A (eval (.Name x pos) X.env) Q E s :=
  Calls.Name_function_global I.ok.kind hg (Calls.loadGlobal_global (by rw [I.ok.glob]; exact I.mod.glob.keeps I.bk) hm h) hd
theorem ld_blt {E : Value → Shared → Prop} {pins : List (Addr × Obj)} {s : Shared} {σ : St} {H : Hp} {x : Str} {u : Value} {pos : Pos} {Q : Value → Shared → Prop} (I : Inv X pins σ H s) (hg : Gl X x) (hm : X.mg x = none) (hv : bootBuiltins x = some u) (h : Q u s)
    (hn : x ≠ "__name__" := by decide) (hd : (x == ("__debug__" : Str)) = false := by decide) : wpAny (model X.prog X.w) X.A (eval (.Name x pos) X.env) Q E s := by
  obtain ⟨mb, h1, h2⟩ := I.mod.blt
  exact Calls.Name_function_global I.ok.kind hg (Calls.loadGlobal_builtin (by rw [I.ok.glob]; exact I.mod.glob.keeps I.bk) hm (by rw [I.ok.blt]; exact h1.keeps I.bk) ((h2 x hn).trans hv) h) hd
theorem pe_bltn {x : Str} {v : V} {u : Value} {pos : Pos} (hg : Gl X x) (hm : X.mg x = none) (hv : bootBuiltins x = some u) (r : RelV v u) (hn : x ≠ "__name__" := by decide) (hd : (x == ("__debug__" : Str)) = false := by decide) : PE X (.Name x pos) (tC v) :=
  fun _ _ _ H _ I h => ld_blt I hg hm hv ⟨v, H, I, r, h⟩ hn hd

/-! ### arithmetic -/
/-- two ints -/
def t2I (ta tb : TE) (k : Int → Int → Hp → Prop) : St → Hp → Prop := fun σ H => ta σ H fun x H1 => tb σ H1 fun y H2 => ∃ i j, x = .int i ∧ y = .int j ∧ k i j H2
def tAdd (ta tb : TE) : TE := fun σ H Q => t2I ta tb (fun i j H2 => Q (.int (i + j)) H2) σ H
def tSub (ta tb : TE) : TE := fun σ H Q => t2I ta tb (fun i j H2 => Q (.int (i - j)) H2) σ H
/-- the left factor below 2^64 -/
def tMul (ta tb : TE) : TE := fun σ H Q => t2I ta tb (fun i j H2 => (-(2 ^ 64) < i ∧ i < 2 ^ 64) ∧ Q (.int (i * j)) H2) σ H
variable {a b : Expr} {ta tb : TE} {pos : Pos}
/-! ### comparisons -/
def PC (X : Cx) (op : CmpOp) (a b : Expr) (t : TE) : Prop :=
  ∀ (pins : List (Addr × Obj)) (s : Shared) (σ : St) (H : Hp) (Q : VK), Inv X pins σ H s → t σ H Q →
    wpAny (model X.prog X.w) X.A (eval a X.env) (fun v s₁ => wpAny (model X.prog X.w) X.A (eval b X.env) (fun u s₂ => wpAny (model X.prog X.w) X.A (compareOp op v u) (EP X pins σ Q) X.xe s₂) X.xe s₁) X.xe s
theorem nobehind (b : Expr) {op : CmpOp} (h : op ≠ .In) (h2 : op ≠ .NotIn) : behindInMarks op b = false := by
  have e1 : (op == CmpOp.In) = false := by cases op <;> first | rfl | exact absurd rfl h
  have e2 : (op == CmpOp.NotIn) = false := by cases op <;> first | rfl | exact absurd rfl h2
  cases b <;> simp [behindInMarks, e1, e2]
def tCmp (p : Int → Int → Bool) (ta tb : TE) : TE := fun σ H Q => t2I ta tb (fun i j H2 => Q (.bl (p i j)) H2) σ H
abbrev tLt : TE → TE → TE := tCmp fun i j => decide (i < j)
abbrev tLe : TE → TE → TE := tCmp fun i j => decide (i ≤ j)
abbrev tGt : TE → TE → TE := tCmp fun i j => decide (j < i)
abbrev tGe : TE → TE → TE := tCmp fun i j => decide (j ≤ i)
abbrev tEqI : TE → TE → TE := tCmp fun i j => decide (i = j)
abbrev tNeI : TE → TE → TE := tCmp fun i j => !decide (i = j)
/-- is None -/
def tIsN (ta : TE) : TE := fun σ H Q => ta σ H fun x H1 => Q (.bl (decide (x = .non))) H1
def tNotN (ta : TE) : TE := fun σ H Q => ta σ H fun x H1 => Q (.bl (!decide (x = .non))) H1
/-- a comparison as a value, as a test -/
def tB (t : TE) : TT := fun σ H Q => t σ H fun x H1 => ∃ c, x = .bl c ∧ Q c H1
theorem pt_cmp {op : CmpOp} {t : TE} (h : PC X op a b t) (h1 : behindInMarks op b = false := by first | exact nobehind _ (by decide) (by decide) | rfl) : PT X (.Compare a [op] [b] pos) (tB t) := by
  intro pins s σ H Q I hw
  refine wpAny_isTrue_Compare1 (thn (h pins s σ H _ I hw) fun v s1 h1 => thn h1 fun u s2 h2 => thn h2 fun c s3 ⟨x, H1, I1, r1, q1⟩ => ?_) h1
  obtain ⟨d, rfl, q⟩ := q1
  cases r1
  exact wpAny_truthy_bool ⟨H1, I1, q⟩
/-- an expression whose value is a bool, as a test -/
theorem pt_val {e : Expr} {t : TE} (h : PE X e t) (he : ∀ whole, isTrue e X.env whole = (do let v ← whole; standAt e.pos; holding [v] (truthy v)) := by intro _; rfl) : PT X e (tB t) := by
  intro pins s σ H Q I hw
  refine isTrue_plain (thn (h pins s σ H _ I hw) fun v s1 ⟨x, H1, I1, r1, q1⟩ => ?_) (he _)
  obtain ⟨d, rfl, q⟩ := q1
  cases r1
  exact wpAny_truthy_bool ⟨H1, I1, q⟩

/-! ### and, or, not -/
variable {tA tB' : TT} {rest : List Expr}
def tAnd (t u : TT) : TT := fun σ H Q => t σ H fun c H1 => if c = true then u σ H1 Q else Q false H1
def tOr (t u : TT) : TT := fun σ H Q => t σ H fun c H1 => if c = true then Q true H1 else u σ H1 Q
def tNot (t : TT) : TT := fun σ H Q => t σ H fun c H1 => Q (!c) H1
theorem pw_and1 (ha : PT X a tA) : PW X (.BoolOp .And [a] pos) tA := by
  intro wh pins s σ H Q I h
  refine isTrue_and (thn (ha pins s σ H Q I h) fun c s1 e => ?_)
  cases c with
  | true => exact isTrue_and_nil e
  | false => exact e
theorem pw_or1 (ha : PT X a tA) : PW X (.BoolOp .Or [a] pos) tA := by
  intro wh pins s σ H Q I h
  refine isTrue_or (thn (ha pins s σ H Q I h) fun c s1 e => ?_)
  cases c with
  | false => exact isTrue_or_nil e
  | true => exact e
theorem pw_and (ha : PT X a tA) (hb : PW X (.BoolOp .And (b :: rest) pos) tB') : PW X (.BoolOp .And (a :: b :: rest) pos) (tAnd tA tB') := by
  intro wh pins s σ H Q I h
  refine isTrue_and (thn (ha pins s σ H _ I h) fun c s1 ⟨H1, I1, q1⟩ => ?_)
  cases c with
  | true => exact hb wh pins s1 σ H1 Q I1 q1
  | false => exact ⟨H1, I1, q1⟩
theorem pw_or (ha : PT X a tA) (hb : PW X (.BoolOp .Or (b :: rest) pos) tB') : PW X (.BoolOp .Or (a :: b :: rest) pos) (tOr tA tB') := by
  intro wh pins s σ H Q I h
  refine isTrue_or (thn (ha pins s σ H _ I h) fun c s1 ⟨H1, I1, q1⟩ => ?_)
  cases c with
  | true => exact ⟨H1, I1, q1⟩
  | false => exact hb wh pins s1 σ H1 Q I1 q1
theorem pt_not (ha : PT X a tA) : PT X (.UnaryOp .Not a pos) (tNot tA) := by
  intro pins s σ H Q I h
  exact isTrue_not (ha pins s σ H (fun c H1 => Q (!c) H1) I h)
/-- .. as values (bools) -/
def tAndV (ta tb : TE) : TE := fun σ H Q => ta σ H fun x H1 => ∃ c, x = .bl c ∧ if c = true then tb σ H1 Q else Q (.bl false) H1
def tOrV (ta tb : TE) : TE := fun σ H Q => ta σ H fun x H1 => ∃ c, x = .bl c ∧ if c = true then Q (.bl true) H1 else tb σ H1 Q
def tNotV (ta : TE) : TE := fun σ H Q => ta σ H fun x H1 => ∃ c, x = .bl c ∧ Q (.bl (!c)) H1
theorem pe_one {op} {t : TE} (h : PE X a t) : PE X (.BoolOp op [a] pos) t := fun pins s σ H Q I hw => BoolOp_one (h pins s σ H Q I hw)
theorem pe_and (ha : PE X a ta) (hb : PE X (.BoolOp .And (b :: rest) pos) tb) : PE X (.BoolOp .And (a :: b :: rest) pos) (tAndV ta tb) := by
  intro pins s σ H Q I h
  refine BoolOp_and (thn (ha pins s σ H _ I h) fun v s1 ⟨x, H1, I1, r1, q1⟩ => ?_)
  obtain ⟨c, rfl, q1⟩ := q1
  cases r1
  refine wpAny_truthy_bool ?_
  cases c with
  | true => exact hb pins s1 σ H1 Q I1 q1
  | false => exact ⟨.bl false, H1, I1, rfl, q1⟩
theorem pe_not (ha : PE X a ta) : PE X (.UnaryOp .Not a pos) (tNotV ta) := by
  intro pins s σ H Q I h
  refine UnaryOp_ (thn (ha pins s σ H _ I h) fun v s1 ⟨x, H1, I1, r1, q1⟩ => ?_)
  obtain ⟨c, rfl, q1⟩ := q1
  cases r1
  exact not_of (wpAny_truthy_bool ⟨.bl (!c), H1, I1, rfl, q1⟩)
/-- a if t else b -/
def tIf (t : TT) (ta tb : TE) : TE := fun σ H Q => t σ H fun c H1 => if c = true then ta σ H1 Q else tb σ H1 Q
end
end L2

namespace L2
open PySem PySem.Spec PyProof.Rows

/-! ### a list, a tuple that is read: tracked, frozen, or an object of the module -/
def SqL (K : PySem.W.Frag) (H : Hp) (a : Addr) (xs : List V) : Prop :=
  Rd H a (.lst xs) ∨
    ∃ (o : Obj) (its : Array Value) (n : Nat), K.lookup a = some o ∧ o.cls = .type "list" ∧ o.dict = none ∧ o.data = .seq its n ∧ its.size ≤ sizeLine ∧ Vals xs its.toList
def SqT (K : PySem.W.Frag) (H : Hp) (a : Addr) (xs : List V) : Prop :=
  Rd H a (.tup xs) ∨
    ∃ (o : Obj) (its : Array Value) (n : Nat), K.lookup a = some o ∧ o.cls = .type "tuple" ∧ o.data = .seq its n ∧ its.size ≤ sizeLine ∧ Vals xs its.toList
def absV : Value → Option V
  | .none => some .non
  | .bool b => some (.bl b)
  | .int i _ => some (.int i)
  | .str x _ => some (.str x)
  | .bytes b _ => some (.byt b)
  | .float b _ => some (.flt b)
  | .ref a => some (.ref a)
  | .type n => some (.ty n)
  | _ => none
theorem RelV.abs {x : V} {u : Value} (r : RelV x u) : absV u = some x := by
  cases x with
  | non => cases r; rfl
  | bl _ => cases r; rfl
  | int _ => obtain ⟨t, rfl⟩ := r; rfl
  | str _ => obtain ⟨t, rfl⟩ := r; rfl
  | byt _ => obtain ⟨t, rfl⟩ := r; rfl
  | flt _ => obtain ⟨t, rfl⟩ := r; rfl
  | ref _ => cases r; rfl
  | ty _ => cases r; rfl
theorem RelV.inj {x y : V} {u : Value} (r : RelV x u) (q : RelV y u) : x = y := Option.some.inj (r.abs.symm.trans q.abs)
theorem Vals.inj : ∀ {xs ys : List V} {us : List Value}, Vals xs us → Vals ys us → xs = ys
  | _, _, _, .nil, .nil => rfl
  | _, _, _, .cons r t, .cons r' t' => by rw [r.inj r', Vals.inj t t']
section
variable {X : Cx} {pins : List (Addr × Obj)} {σ : St} {H : Hp} {s : Shared} {a : Addr} {xs ys : List V}
theorem SqL.of {K : PySem.W.Frag} (h : H a = some (.lst xs)) : SqL K H a xs := .inl (.inl h)
theorem SqT.of {K : PySem.W.Frag} (h : H a = some (.tup xs)) : SqT K H a xs := .inl (.inl h)
theorem Inv.list (I : Inv X pins σ H s) (h : SqL X.K H a xs) : ∃ its : List Value, Vals xs its ∧ PlainL s.heap a its.toArray ∧ xs.length ≤ sizeLine := by
  rcases h with h | ⟨o, its, n, hk, hc, hd, hs, hz, r⟩
  · obtain ⟨z, its, n, r, e⟩ := h.ok I.hok
    exact ⟨its, r, ⟨_, n, e, rfl, rfl, rfl⟩, z⟩
  · refine ⟨its.toList, r, ⟨o, n, I.kIn a o hk, hc, hd, by simpa using hs⟩, ?_⟩
    have e := r.length
    simp only [Array.length_toList] at e
    omega
theorem Inv.tuple (I : Inv X pins σ H s) (h : SqT X.K H a xs) : ∃ its : List Value, Vals xs its ∧ IsTup s.heap a its.toArray ∧ xs.length ≤ sizeLine := by
  rcases h with h | ⟨o, its, n, hk, hc, hs, hz, r⟩
  · obtain ⟨z, its, r, p⟩ := h.ok I.hok
    exact ⟨its, r, p, z⟩
  · refine ⟨its.toList, r, ⟨o, I.kIn a o hk, hc, n, by simpa using hs⟩, ?_⟩
    have e := r.length
    simp only [Array.length_toList] at e
    omega
theorem Inv.list_inj (I : Inv X pins σ H s) (h : SqL X.K H a xs) (h' : SqL X.K H a ys) : xs = ys := by
  obtain ⟨its, r, ⟨o, n, e, _, _, d⟩, _⟩ := I.list h
  obtain ⟨its', r', ⟨o', n', e', _, _, d'⟩, _⟩ := I.list h'
  rw [e] at e'; cases e'
  rw [d] at d'
  injection d' with d1 _
  have : its = its' := by simpa using congrArg Array.toList d1
  subst this
  exact r.inj r'
theorem Inv.tuple_inj (I : Inv X pins σ H s) (h : SqT X.K H a xs) (h' : SqT X.K H a ys) : xs = ys := by
  obtain ⟨its, r, ⟨o, e, _, n, d⟩, _⟩ := I.tuple h
  obtain ⟨its', r', ⟨o', e', _, n', d'⟩, _⟩ := I.tuple h'
  rw [e] at e'; cases e'
  rw [d] at d'
  injection d' with d1 _
  have : its = its' := by simpa using congrArg Array.toList d1
  subst this
  exact r.inj r'
end

/-! ### another wish about exceptions -/
abbrev Cx.wish (X : Cx) (E : Value → Shared → Prop) : Cx := { X with xe := E }
/-- no exception leaves -/
abbrev Cx.nox (X : Cx) : Cx := X.wish fun _ _ => False
theorem Cx.Ok.wish {X : Cx} (ok : X.Ok) (E : Value → Shared → Prop) : (X.wish E).Ok :=
  ⟨ok.mod, ok.kind, ok.glob, ok.blt, ok.above, ok.inj, ok.has, ok.cab, ok.hd, ok.frames, ok.stk, ok.exf, ok.bs, ok.bsz, ok.noex, ok.exfs, ok.funs, ok.frf⟩
theorem Cx.Ok.unwish {X : Cx} {E : Value → Shared → Prop} (ok : (X.wish E).Ok) : X.Ok :=
  ⟨ok.mod, ok.kind, ok.glob, ok.blt, ok.above, ok.inj, ok.has, ok.cab, ok.hd, ok.frames, ok.stk, ok.exf, ok.bs, ok.bsz, ok.noex, ok.exfs, ok.funs, ok.frf⟩
section
variable {X : Cx} {pins : List (Addr × Obj)} {σ : St} {H : Hp} {s : Shared} {E : Value → Shared → Prop}
theorem Inv.wish (I : Inv X pins σ H s) (E : Value → Shared → Prop) : Inv (X.wish E) pins σ H s := ⟨I.ok.wish E, I.os, I.bare, I.base, I.loc, I.cell, I.free, I.freeC, I.pin, I.hok, I.len⟩
theorem Inv.unwish (I : Inv (X.wish E) pins σ H s) : Inv X pins σ H s := ⟨I.ok.unwish, I.os, I.bare, I.base, I.loc, I.cell, I.free, I.freeC, I.pin, I.hok, I.len⟩
theorem SP.unwish {D : Ends} {f : Flow} {s' : Shared} (h : SP (X.wish E) pins D f s') : SP X pins D f s' := by
  cases f with
  | next => obtain ⟨σ', H', I, q⟩ := h; exact ⟨σ', H', I.unwish, q⟩
  | brk => obtain ⟨σ', H', I, q⟩ := h; exact ⟨σ', H', I.unwish, q⟩
  | cont => obtain ⟨σ', H', I, q⟩ := h; exact ⟨σ', H', I.unwish, q⟩
  | ret u => obtain ⟨v, σ', H', I, r, q⟩ := h; exact ⟨v, σ', H', I.unwish, r, q⟩
theorem PE.nox {e : Expr} {t : TE} (h : PE X.nox e t) : PE X e t := fun pins s σ H Q I hw =>
  wpAny_mono (h pins s σ H Q (I.wish _) hw) (fun _ _ ⟨v, H', I', r, q⟩ => ⟨v, H', I'.unwish, r, q⟩) fun _ _ z => False.elim z
theorem PT.nox {e : Expr} {t : TT} (h : PT X.nox e t) : PT X e t := fun pins s σ H Q I hw =>
  wpAny_mono (h pins s σ H Q (I.wish _) hw) (fun _ _ ⟨H', I', q⟩ => ⟨H', I'.unwish, q⟩) fun _ _ z => False.elim z
theorem PSs.nox {st : List Stmt} {t : TS} (h : PSs X.nox st t) : PSs X st t := fun pins s σ H D I hw =>
  wpAny_mono (h pins s σ H D (I.wish _) hw) (fun _ _ q => q.unwish) fun _ _ z => False.elim z
end

/-! ### blocks and small statements -/
section
variable {X : Cx} {st : Stmt} {rest : List Stmt} {t u : TS} {e : Expr} {te : TE} {pos : Pos}
def tNext : TS := fun D σ H => D.nx σ H
def tSeq (t u : TS) : TS := fun D σ H => t { D with nx := u D } σ H
theorem pss_nil : PSs X [] tNext := fun _ _ σ H _ I h => wpAny_execs_nil ⟨σ, H, I, h⟩
theorem pss_cons (h1 : PS X st t) (h2 : PSs X rest u) : PSs X (st :: rest) (tSeq t u) := by
  intro pins s σ H D I h
  refine wpAny_execs_cons (thn (h1 pins s σ H { D with nx := u D } I h) fun f s1 q => ?_)
  cases f with
  | next =>
    obtain ⟨σ', H', I', q⟩ := q
    exact h2 pins s1 σ' H' D I' q
  | ret v => exact q
  | brk => exact q
  | cont => exact q
theorem pss_one (h1 : PS X st t) : PSs X [st] t := by
  intro pins s σ H D I h
  refine wpAny_execs_cons (thn (h1 pins s σ H D I h) fun f s1 q => ?_)
  cases f with
  | next => exact wpAny_execs_nil q
  | ret v => exact q
  | brk => exact q
  | cont => exact q
def tBreak : TS := fun D σ H => D.bk σ H
def tCont : TS := fun D σ H => D.ct σ H
/-- in a def's body nothing is shown -/
theorem Inv.quiet {pins : List (Addr × Obj)} {σ : St} {H : Hp} {s : Shared} (I : Inv X pins σ H s) : interactive X.env = false := by simp [interactive, I.ok.kind]
/-- an expression whose value is dropped -/
def tDrop (te : TE) : TS := fun D σ H => te σ H fun _ H1 => D.nx σ H1
theorem ps_expr (he : PE X e te) (hs : swapsWith e none pos.line X.env = pure false := by rfl) : PS X (.Expr e pos) (tDrop te) := by
  intro pins s σ H D I h
  exact wpAny_Expr_any (thn (he pins s σ H _ I h) fun v s1 ⟨x, H1, I1, r1, q1⟩ => ⟨σ, H1, I1, q1⟩) I.quiet hs
def tRet (te : TE) : TS := fun D σ H => te σ H D.rt
theorem ps_ret (he : PE X e te) : PS X (.Return (some e) pos) (tRet te) := by
  intro pins s σ H D I h
  exact wpAny_Return_some (thn (he pins s σ H _ I h) fun v s1 ⟨x, H1, I1, r1, q1⟩ => ⟨x, σ, H1, I1, r1, q1⟩)
def tRetN : TS := fun D _ H => D.rt .non H
def tIfS (c : TT) (t u : TS) : TS := fun D σ H => c σ H fun b H1 => if b = true then t D σ H1 else u D σ H1
theorem ps_if {c : Expr} {a b : List Stmt} {tc : TT} (hc : PT X c tc) (ha : PSs X a t) (hb : PSs X b u) : PS X (.If c a b pos) (tIfS tc t u) := by
  intro pins s σ H D I h
  refine wpAny_If (thn (hc pins s σ H _ I h) fun d s1 ⟨H1, I1, q1⟩ => ?_)
  cases d with
  | true => exact ha pins s1 σ H1 D I1 q1
  | false => exact hb pins s1 σ H1 D I1 q1
/-- code that the proof never comes to -/
def tNever : TS := fun _ _ _ => False
theorem ps_never : PS X st tNever := fun _ _ _ _ _ _ h => h.elim
end

/-! ### targets -/
abbrev TG := V → St → Hp → (St → Hp → Prop) → Prop
abbrev TGs := List V → St → Hp → (St → Hp → Prop) → Prop
def PG (X : Cx) (target : Expr) (t : TG) : Prop :=
  ∀ (pins : List (Addr × Obj)) (s : Shared) (σ : St) (H : Hp) (v : V) (u : Value) (Q : St → Hp → Prop), Inv X pins σ H s → RelV v u → t v σ H Q →
    wpAny (model X.prog X.w) X.A (assign target X.env u) (fun _ s' => ∃ σ' H', Inv X pins σ' H' s' ∧ Q σ' H') X.xe s
/-- several targets, one after another -/
def PGs (X : Cx) (ts : List Expr) (t : TGs) : Prop :=
  ∀ (pins : List (Addr × Obj)) (s : Shared) (σ : St) (H : Hp) (vs : List V) (us : List Value) (Q : St → Hp → Prop), Inv X pins σ H s → Vals vs us → t vs σ H Q →
    wpAny (model X.prog X.w) X.A (assignInOrder ((assignEach ts X.env).map (·.2)) us) (fun _ s' => ∃ σ' H', Inv X pins σ' H' s' ∧ Q σ' H') X.xe s
/-- o[i] = v, by values -/
abbrev TSet := V → V → V → Hp → (Hp → Prop) → Prop
def PSet (X : Cx) (t : TSet) : Prop :=
  ∀ (pins : List (Addr × Obj)) (s : Shared) (σ : St) (H : Hp) (o i v : V) (ov iv u : Value) (Q : Hp → Prop), Inv X pins σ H s → RelV o ov → RelV i iv → RelV v u → t o i v H Q →
    wpAny (model X.prog X.w) X.A (setItem ov iv u) (fun _ s' => ∃ H', Inv X pins σ H' s' ∧ Q H') X.xe s
/-- a op= b, by values -/
abbrev TIp := V → V → Hp → VK → Prop
def PIp (X : Cx) (op : Operator) (t : TIp) : Prop :=
  ∀ (pins : List (Addr × Obj)) (s : Shared) (σ : St) (H : Hp) (x y : V) (v u : Value) (Q : VK), Inv X pins σ H s → RelV x v → RelV y u → t x y H Q →
    wpAny (model X.prog X.w) X.A (inplaceOp op v u) (EP X pins σ Q) X.xe s
section
variable {X : Cx} {pos : Pos}
def gName (i : Nat) : TG := fun v σ H Q => Q (σ.set i (some v)) H
theorem pg_name {i : Nat} {x : Str} (hN : X.N.Nodup) (hi : X.N[i]? = some x) (hx : Loc X.env.scope x) (hf : X.fn x = true ∨ X.env.scope.names.lookup x = some .local := by first | exact .inl rfl | exact .inr rfl | assumption) : PG X (.Name x pos) (gName i) := by
  intro pins s σ H v u Q I r h
  exact wpAny_assign_Name (store_ok I hN hi hx r (fun s' I' => ⟨_, H, I', h⟩) hf)
def gNil : TGs := fun vs σ H Q => vs = [] ∧ Q σ H
def gCons (t : TG) (u : TGs) : TGs := fun vs σ H Q => ∃ v r, vs = v :: r ∧ t v σ H fun σ' H' => u r σ' H' Q
theorem pgs_nil : PGs X [] gNil := by
  intro pins s σ H vs us Q I r h
  obtain ⟨e, h⟩ := h
  subst e
  cases r
  exact assignInOrder_nil ⟨σ, H, I, h⟩
theorem pgs_cons {e : Expr} {es : List Expr} {t : TG} {u : TGs} (h1 : PG X e t) (h2 : PGs X es u)
    (hs : (assignEach (e :: es) X.env).map (·.2) = assign e X.env :: (assignEach es X.env).map (·.2) := by rfl) : PGs X (e :: es) (gCons t u) := by
  intro pins s σ H vs us Q I r h
  obtain ⟨v, vr, e1, h⟩ := h
  subst e1
  cases r with
  | cons r rr =>
    rw [hs]
    refine assignInOrder_cons (thn (h1 pins s σ H _ _ _ I r h) fun _ s1 ⟨σ1, H1, I1, q1⟩ => ?_)
    exact h2 pins s1 σ1 H1 _ _ Q I1 rr q1
/-- (a, b, ..) = a tuple of that length -/
def gTup (K : PySem.W.Frag) (n : Nat) (t : TGs) : TG := fun v σ H Q => ∃ a xs, v = .ref a ∧ SqT K H a xs ∧ xs.length = n ∧ t xs σ H Q
theorem pg_tup {es : List Expr} {k : Nat} {t : TGs} {n : Nat} (hc : X.calm = true) (h : PGs X es t)
    (hn : (assignEach es X.env).length = n := by rfl) (hst : (assignEach es X.env).findIdx? (·.1) = none := by rfl) : PG X (.Tuple es k pos) (gTup X.K n t) := by
  intro pins s σ H v u Q I r hw
  obtain ⟨a, xs, e1, hq, hl, hw⟩ := hw
  subst e1
  cases r
  obtain ⟨its, rv, ht, hz⟩ := I.tuple hq
  refine assign_Tuple_tuple (I.ok.hd hc) ht (by simp [hn, ← hl, rv.length]) hst fun h' hx => ?_
  have I1 : Inv X pins σ H { s with heap := h' } := I.kept (t' := s.toks) fun b o e => hx b o (Nat.ne_of_lt (Heap.lt_size e)) e
  exact h pins _ σ H xs _ Q I1 (by simpa using rv) hw
/-- o[i] = .. -/
def gSub (to ti : TE) (t : TSet) : TG := fun v σ H Q => to σ H fun o H1 => ti σ H1 fun i H2 => t o i v H2 fun H3 => Q σ H3
theorem pg_sub {o i : Expr} {to ti : TE} {t : TSet} (ho : PE X o to) (hi : PE X i ti) (hs : PSet X t)
    (ha : ∀ v, assign (.Subscript o i pos) X.env v = (do
      let ov ← holding [v] (eval o X.env)
      let iv ← holding [v, ov] (eval i X.env)
      standAt pos
      holding [v, ov, iv] (setItem ov iv v)
      release [v, ov, iv] []) := by intro _; rfl) : PG X (.Subscript o i pos) (gSub to ti t) := by
  intro pins s σ H v u Q I r h
  rw [ha]
  refine wpAny_bind (wpAny_holding (thn (ho pins s σ H _ I h) fun ov s1 ⟨x, H1, I1, r1, q1⟩ => ?_))
  refine wpAny_bind (wpAny_holding (thn (hi pins s1 σ H1 _ I1 q1) fun iv s2 ⟨y, H2, I2, r2, q2⟩ => ?_))
  refine wpAny_bind (wpAny_standAt (wpAny_bind (wpAny_holding (thn (hs pins s2 σ H2 x y v ov iv u _ I2 r1 r2 r q2) fun _ s3 ⟨H3, I3, q3⟩ => ?_))))
  exact wpAny_release ⟨σ, H3, I3, q3⟩
/-- target = value -/
def tAsg (te : TE) (g : TG) : TS := fun D σ H => te σ H fun x H1 => g x σ H1 D.nx
theorem ps_asg {tg e : Expr} {te : TE} {g : TG} (he : PE X e te) (hg : PG X tg g) (hs : swapsWithSole [tg] e pos.line X.env = pure false := by rfl) (hw : swappedStores [tg] e X.env = pure none := by rfl)
    (h1 : (assignEach [tg] X.env).map (·.2) = [assign tg X.env] := by rfl) : PS X (.Assign [tg] e pos) (tAsg te g) := by
  intro pins s σ H D I h
  refine wpAny_Assign_stores (thn (he pins s σ H _ I h) fun v s1 ⟨x, H1, I1, r1, q1⟩ => ?_) hs hw
  rw [h1]
  exact thn (hg pins s1 σ H1 x v _ I1 r1 q1) fun _ s2 q => q
/-- name = value -/
theorem ps_set {i : Nat} {x : Str} {e : Expr} {te : TE} {pos' : Pos} (hN : X.N.Nodup) (hi : X.N[i]? = some x) (hx : Loc X.env.scope x) (he : PE X e te) (hs : swapsWith e (some (.Name x pos')) pos.line X.env = pure false := by rfl) (hf : X.fn x = true ∨ X.env.scope.names.lookup x = some .local := by first | exact .inl rfl | exact .inr rfl | assumption) :
    PS X (.Assign [.Name x pos'] e pos) (tAsg te (gName i)) := by
  intro pins s σ H D I h
  refine wpAny_Assign_Name (thn (he pins s σ H _ I h) fun v s1 ⟨y, H1, I1, r1, q1⟩ => ?_) hs
  exact store_ok I1 hN hi hx r1 (fun s2 I2 => ⟨_, H1, I2, q1⟩) hf
/-- a, b = x, y with plain local names: stored from the right; the pair itself is not tracked (the opening rows as in PyProof/Rows/TupAssign.lean:23) -/
def tPar (i j : Nat) (ta : TA) : TS := fun D σ H => ta σ H fun vs H1 => ∃ v w, vs = [v, w] ∧ D.nx ((σ.set i (some v)).set j (some w)) H1
theorem ps_par {i j : Nat} {x y : Str} {a b : Expr} {ta : TA} {px py pt : Pos} {kt k2 pt2} (hc : X.calm = true) (hN : X.N.Nodup) (hi : X.N[i]? = some x) (hj : X.N[j]? = some y) (hij : i ≠ j)
    (hx : X.env.scope.names.lookup x = some .local) (hy : X.env.scope.names.lookup y = some .local) (ha : PA X [a, b] ta)
    (hw : swappedStores [.Tuple [.Name x px, .Name y py] kt pt] (.Tuple [a, b] k2 pt2) X.env = pure (some [x, y]))
    (hs : swapsWithSole [.Tuple [.Name x px, .Name y py] kt pt] (.Tuple [a, b] k2 pt2) pos.line X.env = pure false := by rfl) :
    PS X (.Assign [.Tuple [.Name x px, .Name y py] kt pt] (.Tuple [a, b] k2 pt2) pos) (tPar i j ta) := by
  intro pins s σ H D I h
  rw [exec_Assign_arm]
  refine wpAny_bind (wpAny_standAt ?_)
  rw [hs]
  refine wpAny_bind (wpAny_pure ?_)
  rw [if_neg (by decide)]
  refine wpAny_bind (Tuple_ (thn (ha _ pins s σ H _ I h) fun us s1 ⟨vs, H1, I1, r1, q1⟩ => ?_))
  obtain ⟨v, w, e1, q1⟩ := q1
  subst e1
  obtain ⟨u1, u2, rfl, rv, rw'⟩ : ∃ u1 u2, us = [u1, u2] ∧ RelV v u1 ∧ RelV w u2 := by
    cases r1 with
    | cons p q =>
      cases q with
      | cons p' q' =>
        cases q'
        exact ⟨_, _, rfl, p, p'⟩
  refine wpAny_newObj_type ?_ (by show 2 ≤ sizeLine; decide)
  have I2 : Inv X pins σ H1 { s1 with heap := s1.heap.push { cls := .type "tuple", data := .seq [u1, u2].toArray } } := I1.kept (t' := s1.toks) fun b o e => Heap.get?_push_of_some _ e
  rw [hw]
  refine wpAny_bind (wpAny_pure ?_)
  show wpAny (model X.prog X.w) X.A (do rule "assign.swapped-stores"; let items ← unpackItems (.ref s1.heap.objs.size) 2 none; assignInOrder [fun v => bindName X.env y v, fun v => bindName X.env x v] items.reverse; pure Flow.next) _ _ _
  refine wpAny_bind (wpAny_rule (wpAny_bind (unpackItems_tuple (items := #[u1, u2]) (I.ok.hd hc) (IsTup.new s1.heap _) fun h' hx' => ?_)))
  have I3 := I2.kept (h' := h') (t' := s1.toks) fun b o e => hx' b o (Nat.ne_of_lt (Heap.lt_size e)) e
  show wpAny _ _ (assignInOrder [fun v => bindName X.env y v, fun v => bindName X.env x v] [u2, u1] >>= fun _ => pure Flow.next) _ _ _
  refine wpAny_bind (assignInOrder_cons (wpAny_bindName (store_ok I3 hN hj (.inl hy) rw' (fun s2 I4 => ?_) (.inr hy))))
  refine assignInOrder_cons (wpAny_bindName (store_ok I4 hN hi (.inl hx) rv (fun s3 I5 => assignInOrder_nil (wpAny_pure ?_)) (.inr hx)))
  rw [List.set_comm _ _ (Ne.symm hij)] at I5
  exact ⟨_, H1, I5, q1⟩
/-- name op= e -/
def tAug (i : Nat) (te : TE) (ti : TIp) : TS := fun D σ H => ∃ x, σ[i]? = some (some x) ∧ te σ H fun y H1 => ti x y H1 fun z H2 => D.nx (σ.set i (some z)) H2
theorem ps_aug {i : Nat} {x : Str} {e : Expr} {te : TE} {op : Operator} {ti : TIp} {pos' : Pos} (hN : X.N.Nodup) (hi : X.N[i]? = some x) (hx : Loc X.env.scope x) (he : PE X e te) (ho : PIp X op ti) (hf : X.fn x = true ∨ X.env.scope.names.lookup x = some .local := by first | exact .inl rfl | exact .inr rfl | assumption) :
    PS X (.AugAssign (.Name x pos') op e pos) (tAug i te ti) := by
  intro pins s σ H D I h
  obtain ⟨v, e1, h⟩ := h
  obtain ⟨m, hn, hl⟩ := I.loc
  have vis : Vis X.env.scope x := by rcases hx with k | k; exact .inl k; exact .inr (.inl k)
  obtain ⟨u, r, l⟩ := hl i x v hi e1 vis
  refine wpAny_AugAssign_Name ?_
  have go : wpAny (model X.prog X.w) X.A (eval e X.env) (fun w s₂ => wpAny (model X.prog X.w) X.A (inplaceOp op u w) (fun r s₃ => wpAny (model X.prog X.w) X.A (storeName X.env x r) (fun _ => SP X pins D .next) X.xe s₃) X.xe s₂) X.xe s := by
    refine thn (he pins s σ H _ I h) fun w s1 ⟨y, H1, I1, r1, q1⟩ => ?_
    refine thn (ho pins s1 σ H1 v y u w _ I1 r r1 q1) fun z s2 ⟨zv, H2, I2, r2, q2⟩ => ?_
    exact store_ok I2 hN hi hx r2 (fun s3 I3 => ⟨_, H2, I3, q2⟩) hf
  rcases l with ⟨hk, hm⟩ | ⟨hk, c, hc, hcell⟩
  · exact wpAny_loadName_local I.ok.kind hk hn hm go
  · rcases hk with hk | hk
    · exact wpAny_loadName_cell I.ok.kind hk hc hcell go
    · rcases hx with k | k
      · have : X.env.scope.names.lookup x = some .free := hk
        rw [k] at this; cases this
      · have : X.env.scope.names.lookup x = some .free := hk
        rw [k] at this; cases this
/-- o[i] op= e -/
def tAugS (to ti te : TE) (tget : V → V → Hp → VK → Prop) (tip : TIp) (tset : TSet) : TS := fun D σ H => to σ H fun o H1 => ti σ H1 fun i H2 => tget o i H2 fun x H3 => te σ H3 fun y H4 => tip x y H4 fun z H5 => tset o i z H5 fun H6 => D.nx σ H6
/-- o[i], by values -/
def PGet (X : Cx) (t : V → V → Hp → VK → Prop) : Prop :=
  ∀ (pins : List (Addr × Obj)) (s : Shared) (σ : St) (H : Hp) (o i : V) (ov iv : Value) (Q : VK), Inv X pins σ H s → RelV o ov → RelV i iv → t o i H Q →
    wpAny (model X.prog X.w) X.A (getItem ov iv) (EP X pins σ Q) X.xe s
/-- ints -/
def ipI (f : Int → Int → Int) : TIp := fun x y H Q => ∃ i j, x = .int i ∧ y = .int j ∧ Q (.int (f i j)) H
theorem ip_add : PIp X .Add (ipI fun i j => i + j) := by
  intro pins s σ H x y v u Q I r1 r2 h
  obtain ⟨i, j, e1, e2, q⟩ := h
  subst e1; subst e2
  obtain ⟨t, rfl⟩ := r1
  obtain ⟨t', rfl⟩ := r2
  exact iadd_int ⟨.int _, H, I.tok _, ⟨_, rfl⟩, q⟩
end

/-! ### while -/
section
variable {X : Cx} {pos : Pos}
/-- the invariant W with its measure -/
def tWhile (c : TT) (tb : TS) : TS := fun D σ H => ∃ W : Nat → St → Hp → Prop, (∃ m, W m σ H) ∧ ∀ m σ H, W m σ H →
  c σ H fun b H1 => if b = true then ∃ N : St → Hp → Prop, (∀ σ' H', N σ' H' → ∃ m', m' < m ∧ W m' σ' H') ∧ tb { D with nx := N, ct := N, bk := D.nx } σ H1 else D.nx σ H1
theorem ps_while {c : Expr} {body : List Stmt} {tc : TT} {tb : TS} (hp : PassesOwn (model X.prog X.w) X.A X.env X.xe) (hc : PT X c tc) (hb : PSs X body tb) : PS X (.While c body [] pos) (tWhile tc tb) := by
  intro pins s σ H D I h
  obtain ⟨W, ⟨m0, w0⟩, turn⟩ := h
  refine wpAny_While (codeAny_whileLoop (fun n s' => ∃ σ' H', Inv X pins σ' H' s' ∧ W n σ' H') ?_ m0 ⟨σ, H, I, w0⟩)
  rintro n s1 ⟨σ1, H1, I1, w1⟩
  refine wpAny_passesOwn hp (thn (hc pins s1 σ1 H1 _ I1 (turn n σ1 H1 w1)) fun b s2 ⟨H2, I2, q2⟩ => ?_)
  cases b with
  | true =>
    obtain ⟨N, hN, q2⟩ := q2
    rw [if_pos rfl]
    refine wpAny_passesOwn hp (thn (hb pins s2 σ1 H2 _ I2 q2) fun f s3 q3 => ?_)
    cases f with
    | next =>
      obtain ⟨σ3, H3, I3, n3⟩ := q3
      obtain ⟨m', hm, w3⟩ := hN σ3 H3 n3
      exact ⟨m', hm, σ3, H3, I3, w3⟩
    | cont =>
      obtain ⟨σ3, H3, I3, n3⟩ := q3
      obtain ⟨m', hm, w3⟩ := hN σ3 H3 n3
      exact ⟨m', hm, σ3, H3, I3, w3⟩
    | brk => exact q3
    | ret v => exact q3
  | false =>
    rw [if_neg Bool.false_ne_true]
    exact wpAny_execs_nil ⟨σ1, H2, I2, q2⟩
end

/-! ### what a loop or a comprehension walks -/
/-- at turn i: it yields x (the heap may grow), or it stops -/
structure It where
  go : Nat → Hp → Prop
  yld : Nat → Hp → V → Hp → Prop
  stop : Nat → Hp → Prop
/-- the iterator's own objects may turn: they are not the frame's, not pinned, younger than the entry (or a comprehension's own) -/
def FpOk (X : Cx) (pins : List (Addr × Obj)) (H : Hp) (b : Addr) : Prop :=
  H b = none ∧ b ≠ X.env.locals ∧ b ∉ X.fs ∧ (b ∈ X.ex ∨ X.s₀.heap.objs.size ≤ b) ∧ (∀ x c, X.env.cells.lookup x = some c → c ≠ b) ∧ ∀ p ∈ X.pn ++ pins, p.1 ≠ b
theorem Inv.fpOk {X : Cx} {pins : List (Addr × Obj)} {σ : St} {H H' : Hp} {s : Shared} {b : Addr} (I : Inv X pins σ H s) (hb : s.heap.objs.size ≤ b) (hn : H' b = none) : FpOk X pins H' b := by
  refine ⟨hn, Nat.ne_of_gt (Nat.lt_of_lt_of_le I.lt hb), I.nofs hb, .inr (Nat.le_trans I.sz hb), fun x c e z => ?_, fun p hp z => ?_⟩
  · obtain ⟨v, q⟩ := I.cell x c e
    exact absurd (Nat.lt_of_lt_of_le q.lt (by rw [z]; exact hb)) (Nat.lt_irrefl _)
  · exact absurd (Nat.lt_of_lt_of_le (Heap.lt_size (I.pin p hp).1) (by rw [z]; exact hb)) (Nat.lt_irrefl _)
structure Turn (P : Program) (w : World) (K : PySem.W.Frag) (tg : Expr) (J : It) (fp : List Addr) (it : Addr) (tn : Nat → Heap → Prop) : Prop where
  mem : it ∈ fp
  obj : ∀ i h, tn i h → ∀ b ∈ fp, ∃ o, h.get? b = some o ∧ ∀ v, o.data ≠ .cell v
  keep : ∀ i h h', tn i h → (∀ b ∈ fp, ∀ o, h.get? b = some o → h'.get? b = some o) → tn i h'
  item : ∀ (X : Cx), X.prog = P → X.w = w → X.K = K → X.calm = true → ∀ (i : Nat) (pins : List (Addr × Obj)) (s : Shared) (σ : St) (H : Hp) (E : Value → Shared → Prop), Inv X pins σ H s → (∀ b ∈ fp, FpOk X pins H b) → tn i s.heap → J.go i H →
    wpAny (model P w) X.A (pyNext (.ref it)) (fun r s1 => ∃ u, r = some u ∧
      wpAny (model P w) X.A (letOwnedTupleGo tg (.ref it) u) (fun _ s2 => ∃ x H', Inv X pins σ H' s2 ∧ RelV x u ∧ J.yld i H x H' ∧ tn (i + 1) s2.heap ∧ ∀ b ∈ fp, H' b = none) E s1) E s
  done : ∀ (X : Cx), X.prog = P → X.w = w → X.K = K → X.calm = true → ∀ (i : Nat) (pins : List (Addr × Obj)) (s : Shared) (σ : St) (H : Hp) (E : Value → Shared → Prop), Inv X pins σ H s → (∀ b ∈ fp, FpOk X pins H b) → tn i s.heap → J.stop i H →
    wpAny (model P w) X.A (pyNext (.ref it)) (fun r s1 => r = none ∧ Inv X pins σ H s1) E s
  self : ∀ (A : Around) (i : Nat) (s : Shared) (Q : Value → Shared → Prop) (E : Value → Shared → Prop), tn i s.heap → Q (.ref it) s → wpAny (model P w) A (pyIter (.ref it)) Q E s
abbrev TI := St → Hp → (It → Hp → Prop) → Prop
/-- an iterator has come -/
def PIE (X : Cx) (pins : List (Addr × Obj)) (σ : St) (tg : Expr) (R : It → Hp → Prop) (itv : Value) (s2 : Shared) : Prop :=
  ∃ (it : Addr) (fp : List Addr) (tn : Nat → Heap → Prop) (J : It) (H' : Hp), itv = .ref it ∧ Inv X pins σ H' s2 ∧ Turn X.prog X.w X.K tg J fp it tn ∧ tn 0 s2.heap ∧ (∀ b ∈ fp, FpOk X pins H' b) ∧ R J H'
def PI (X : Cx) (tg iter : Expr) (wi : TI) : Prop :=
  ∀ (pins : List (Addr × Obj)) (s : Shared) (σ : St) (H : Hp) (R : It → Hp → Prop), Inv X pins σ H s → wi σ H R →
    wpAny (model X.prog X.w) X.A (eval iter X.env) (fun v s1 => wpAny (model X.prog X.w) X.A (pyIter v) (PIE X pins σ tg R) X.xe s1) X.xe s

/-- the step ahead of the store is nothing for an iterator that keeps no tuple -/
theorem go_of {M : Model} {A : Around} {E : Value → Shared → Prop} {s : Shared} {tg : Expr} {it : Addr} {u : Value} {o : Obj} {n : String} {vs : Array Value} {Q : Unit → Shared → Prop} (ho : s.heap.get? it = some o) (hc : o.cls = .type n) (hd : o.data = .fields vs)
    (hn : ["enumerate", "zip", "dict_itemiterator", "dict_reverseitemiterator", "odict_iterator", "itertools.zip_longest", "itertools.pairwise"].contains n = false) (hQ : Q () s) : wpAny M A (letOwnedTupleGo tg (.ref it) u) Q E s := by
  unfold letOwnedTupleGo
  cases tg <;> first
    | exact wpAny_pure hQ
    | (cases u <;> first
        | exact wpAny_pure hQ
        | (refine wpAny_bind (wpAny_load ho ?_)
           rw [hc, hd]
           show wpAny M A (if (["enumerate", "zip", "dict_itemiterator", "dict_reverseitemiterator", "odict_iterator", "itertools.zip_longest", "itertools.pairwise"].contains n && vs[0]? == some (rawInt _)) = true then _ else _) Q E s
           rw [if_neg (by intro h; rw [hn, Bool.false_and] at h; cases h)]
           exact wpAny_pure hQ))

/-- the list at a, as it stands at each turn (a loop may append to it) -/
def Itl (K : PySem.W.Frag) (a : Addr) : It :=
  ⟨fun i H => ∃ xs x, SqL K H a xs ∧ xs[i]? = some x, fun i H x H' => H' = H ∧ ∀ xs, SqL K H a xs → xs[i]? = some x, fun i H => ∃ xs, SqL K H a xs ∧ xs.length ≤ i⟩
def Itt (K : PySem.W.Frag) (a : Addr) : It :=
  ⟨fun i H => ∃ xs x, SqT K H a xs ∧ xs[i]? = some x, fun i H x H' => H' = H ∧ ∀ xs, SqT K H a xs → xs[i]? = some x, fun i H => ∃ xs, SqT K H a xs ∧ xs.length ≤ i⟩
/-- lo, lo + 1, .. (n of them) -/
def Itr (lo : Int) (n : Nat) : It := ⟨fun i _ => i < n, fun i H x H' => H' = H ∧ x = .int (lo + i), fun i _ => n ≤ i⟩
theorem turn_list {P : Program} {w : World} {K : PySem.W.Frag} {tg : Expr} (a it : Addr) : Turn P w K tg (Itl K a) [it] it (fun i h => h.IsListIter it a i) where
  mem := by simp
  obj := fun i h st b hb => by
    have e : b = it := by simpa using hb
    subst e
    obtain ⟨o, e, c, d⟩ := st
    exact ⟨o, e, fun v z => by rw [d] at z; cases z⟩
  keep := fun i h h' st k => st.at fun o e => k it (by simp) o e
  item := by
    intro X hP hw hK hc i pins s σ H E I hf st hg
    subst hP hw hK
    obtain ⟨xs, x, hq, hx⟩ := hg
    obtain ⟨its, rv, p, hz⟩ := I.list hq
    obtain ⟨u, hu, ru⟩ := rv.get hx
    obtain ⟨f0, f1, f2, f3, f4, f5⟩ := hf it (by simp)
    refine wpAny_pyNext_list_item st p.isList (x := u) (by simpa using hu) fun h' st' sb => ?_
    have I1 : Inv X pins σ H { s with heap := h' } := I.turned (t' := s.toks) (fun b o hb e => (sb.2 b hb).trans e) f0 f1 f3 f4 f5
    obtain ⟨o, e, c, d⟩ := id st'
    exact ⟨u, rfl, go_of (s := { s with heap := h' }) e c d (by decide) ⟨x, H, I1, ru, ⟨rfl, fun ys hy => by rw [I.list_inj hy hq]; exact hx⟩, st', fun b hb => (hf b hb).1⟩⟩
  done := by
    intro X hP hw hK hc i pins s σ H E I hf st hg
    subst hP hw hK
    obtain ⟨xs, hq, hx⟩ := hg
    obtain ⟨its, rv, p, hz⟩ := I.list hq
    obtain ⟨f0, f1, f2, f3, f4, f5⟩ := hf it (by simp)
    have hl := rv.length
    exact wpAny_pyNext_list_end (I.ok.hd hc) st p.isList (by simp; omega) fun h' eb => ⟨rfl, I.turned (t' := s.toks) (fun b o hb e => eb b o hb e) f0 f1 f3 f4 f5⟩
  self := fun _ _ _ _ _ st h => wpAny_pyIter_listiter st h
theorem turn_tuple {P : Program} {w : World} {K : PySem.W.Frag} {tg : Expr} (a it : Addr) : Turn P w K tg (Itt K a) [it] it (fun i h => h.IsTupleIter it a i) where
  mem := by simp
  obj := fun i h st b hb => by
    have e : b = it := by simpa using hb
    subst e
    obtain ⟨o, e, c, d⟩ := st
    exact ⟨o, e, fun v z => by rw [d] at z; cases z⟩
  keep := fun i h h' st k => st.at fun o e => k it (by simp) o e
  item := by
    intro X hP hw hK hc i pins s σ H E I hf st hg
    subst hP hw hK
    obtain ⟨xs, x, hq, hx⟩ := hg
    obtain ⟨its, rv, p, hz⟩ := I.tuple hq
    obtain ⟨u, hu, ru⟩ := rv.get hx
    obtain ⟨f0, f1, f2, f3, f4, f5⟩ := hf it (by simp)
    refine wpAny_pyNext_tuple_item st (show s.heap.IsTuple a its.toArray from p) (x := u) (by simpa using hu) fun h' st' sb => ?_
    have I1 : Inv X pins σ H { s with heap := h' } := I.turned (t' := s.toks) (fun b o hb e => (sb.2 b hb).trans e) f0 f1 f3 f4 f5
    obtain ⟨o, e, c, d⟩ := id st'
    exact ⟨u, rfl, go_of (s := { s with heap := h' }) e c d (by decide) ⟨x, H, I1, ru, ⟨rfl, fun ys hy => by rw [I.tuple_inj hy hq]; exact hx⟩, st', fun b hb => (hf b hb).1⟩⟩
  done := by
    intro X hP hw hK hc i pins s σ H E I hf st hg
    subst hP hw hK
    obtain ⟨xs, hq, hx⟩ := hg
    obtain ⟨its, rv, p, hz⟩ := I.tuple hq
    obtain ⟨f0, f1, f2, f3, f4, f5⟩ := hf it (by simp)
    have hl := rv.length
    exact wpAny_pyNext_tuple_end (I.ok.hd hc) st (show s.heap.IsTuple a its.toArray from p) (by simp; omega) fun h' eb => ⟨rfl, I.turned (t' := s.toks) (fun b o hb e => eb b o hb e) f0 f1 f3 f4 f5⟩
  self := fun _ _ _ _ _ st h => wpAny_pyIter_tupleiter st h
theorem turn_range {P : Program} {w : World} {K : PySem.W.Frag} {tg : Expr} (it : Addr) (lo : Int) (n : Nat) : Turn P w K tg (Itr lo n) [it] it (fun i h => IsRangeIter h it (lo + (i : Nat) * 1) ((n : Int) - (i : Nat)) 1) where
  mem := by simp
  obj := fun i h st b hb => by
    have e : b = it := by simpa using hb
    subst e
    exact ⟨_, st, fun v z => by
      have z' : Data.fields _ = Data.cell v := z
      cases z'⟩
  keep := fun i h h' st k => k it (by simp) _ st
  item := by
    intro X hP hw hK hc i pins s σ H E I hf st hg
    subst hP hw hK
    obtain ⟨f0, f1, f2, f3, f4, f5⟩ := hf it (by simp)
    have W := Walks.range (prog := X.prog) (w := X.w) (I.ok.hd hc) it lo 1 n
    refine W.item i s _ _ hg st fun v h' tk hv st' kk => ?_
    obtain ⟨t, rfl⟩ := hv
    have I1 : Inv X pins σ H { s with heap := h', toks := tk } := I.turned (fun b o hb e => kk b o (by simpa using hb) e) f0 f1 f3 f4 f5
    refine ⟨_, rfl, go_of (s := { s with heap := h', toks := tk }) (n := "range_iterator") st' rfl rfl (by decide) ⟨.int (lo + i), H, I1, ⟨t, ?_⟩, ⟨rfl, rfl⟩, st', fun b hb => (hf b hb).1⟩⟩
    rw [Int.mul_one]
  done := by
    intro X hP hw hK hc i pins s σ H E I hf st hg
    subst hP hw hK
    obtain ⟨f0, f1, f2, f3, f4, f5⟩ := hf it (by simp)
    exact wpAny_pyNext_range_end (I.ok.hd hc) st (by have : n ≤ i := hg; omega) fun h' eb => ⟨rfl, I.turned (t' := s.toks) (fun b o hb e => eb b o hb e) f0 f1 f3 f4 f5⟩
  self := fun _ _ _ _ _ st h => wpAny_pyIter_rangeiter st h
end L2

namespace L2
open PySem PySem.Spec PyProof.Rows
section
variable {X : Cx} {tg : Expr}
def iList (K : PySem.W.Frag) (tl : TE) : TI := fun σ H R => tl σ H fun x H1 => ∃ a, x = .ref a ∧ (∃ xs, SqL K H1 a xs) ∧ R (Itl K a) H1
def iTup (K : PySem.W.Frag) (tl : TE) : TI := fun σ H R => tl σ H fun x H1 => ∃ a, x = .ref a ∧ (∃ xs, SqT K H1 a xs) ∧ R (Itt K a) H1
theorem pi_list {l : Expr} {tl : TE} (hl : PE X l tl) : PI X tg l (iList X.K tl) := by
  intro pins s σ H R I h
  refine thn (hl pins s σ H _ I h) fun v s1 ⟨x, H1, I1, r1, q1⟩ => ?_
  obtain ⟨a, e, ⟨xs, hq⟩, q⟩ := q1
  subst e
  cases r1
  obtain ⟨its, rv, p, hz⟩ := I1.list hq
  refine wpAny_pyIter_list p.isList ?_
  refine ⟨s1.heap.objs.size, [s1.heap.objs.size], _, _, H1, rfl, I1.kept (t' := s1.toks) fun b o e => Heap.get?_push_of_some _ e, turn_list a _, ⟨_, Heap.get?_push_size _ rfl, rfl, rfl⟩, fun b hb => ?_, q⟩
  have e : b = s1.heap.objs.size := by simpa using hb
  subst e
  exact I1.fpOk (Nat.le_refl _) (I1.hok.fresh (Nat.le_refl _))
theorem pi_tup {l : Expr} {tl : TE} (hl : PE X l tl) : PI X tg l (iTup X.K tl) := by
  intro pins s σ H R I h
  refine thn (hl pins s σ H _ I h) fun v s1 ⟨x, H1, I1, r1, q1⟩ => ?_
  obtain ⟨a, e, ⟨xs, hq⟩, q⟩ := q1
  subst e
  cases r1
  obtain ⟨its, rv, p, hz⟩ := I1.tuple hq
  refine wpAny_pyIter_tuple (show s1.heap.IsTuple a its.toArray from p) ?_
  refine ⟨s1.heap.objs.size, [s1.heap.objs.size], _, _, H1, rfl, I1.kept (t' := s1.toks) fun b o e => Heap.get?_push_of_some _ e, turn_tuple a _, ⟨_, Heap.get?_push_size _ rfl, rfl, rfl⟩, fun b hb => ?_, q⟩
  have e : b = s1.heap.objs.size := by simpa using hb
  subst e
  exact I1.fpOk (Nat.le_refl _) (I1.hok.fresh (Nat.le_refl _))
/-- a range object just made, walked -/
theorem range_it {pins : List (Addr × Obj)} {σ : St} {H : Hp} {s : Shared} {R : It → Hp → Prop} {E : Value → Shared → Prop} {lo hi : Int} {t u v : Tok} {tk : Nat} (I : Inv X pins σ H s) (h1 : -(2 ^ 62) ≤ lo) (h2 : lo < 2 ^ 62) (h3 : -(2 ^ 62) ≤ hi) (h4 : hi < 2 ^ 62)
    (q : R (Itr lo (hi - lo).toNat) H) : wpAny (model X.prog X.w) X.A (pyIter (.ref s.heap.objs.size)) (PIE X pins σ tg R) E { s with heap := s.heap.push { cls := .type "range", data := .fields #[.int lo t, .int hi u, .int 1 v] }, toks := tk } := by
  refine wpAny_pyIter_range (IsRange.new ..) (small_one h1 h2 h3 h4) ?_
  have I1 : Inv X pins σ H { s with heap := s.heap.push { cls := .type "range", data := .fields #[.int lo t, .int hi u, .int 1 v] }, toks := tk } := I.kept fun b o e => Heap.get?_push_of_some _ e
  refine ⟨(s.heap.push { cls := .type "range", data := .fields #[.int lo t, .int hi u, .int 1 v] }).objs.size, [(s.heap.push { cls := .type "range", data := .fields #[.int lo t, .int hi u, .int 1 v] }).objs.size], _, _, H, rfl,
    I1.kept (t' := tk) fun b o e => Heap.get?_push_of_some _ e, turn_range _ lo (hi - lo).toNat, ?_, fun b hb => ?_, q⟩
  · have e1 : lo + ((0 : Nat) : Int) * 1 = lo := by simp
    have e2 : (((hi - lo).toNat : Nat) : Int) - ((0 : Nat) : Int) = Builtin.Range.rangeSize lo hi 1 := by rw [rangeSize_one]; split <;> omega
    show IsRangeIter _ _ (lo + ((0 : Nat) : Int) * 1) ((((hi - lo).toNat : Nat) : Int) - ((0 : Nat) : Int)) 1
    rw [e1, e2]
    exact Heap.get?_push_size _ rfl
  · have e : b = (s.heap.push { cls := .type "range", data := .fields #[.int lo t, .int hi u, .int 1 v] }).objs.size := by simpa using hb
    subst e
    exact I1.fpOk (Nat.le_refl _) (I1.hok.fresh (Nat.le_refl _))
def iRng1 (ta : TA) : TI := fun σ H R => ta σ H fun vs H1 => ∃ j : Int, vs = [.int j] ∧ -(2 ^ 62) ≤ j ∧ j < 2 ^ 62 ∧ R (Itr 0 j.toNat) H1
def iRng2 (ta : TA) : TI := fun σ H R => ta σ H fun vs H1 => ∃ i j : Int, vs = [.int i, .int j] ∧ (-(2 ^ 62) ≤ i ∧ i < 2 ^ 62 ∧ -(2 ^ 62) ≤ j ∧ j < 2 ^ 62) ∧ R (Itr i (j - i).toNat) H1
theorem pi_range1 {a : Expr} {ta : TA} {p pos : Pos} (hg : Gl X "range") (hm : X.mg "range" = none) (ha : PA X [a] ta) (hs : starEach [a] X.env = [(false, eval a X.env)] := by rfl) : PI X tg (.Call (.Name "range" p) [a] [] pos) (iRng1 ta) := by
  intro pins s σ H R I h
  refine Call_ (ld_blt I hg hm boot_range (PyProof.Rows.callWith_type1 (thn (ha pos pins s σ H _ I h) fun us s1 ⟨vs, H1, I1, r1, q1⟩ => ?_) hs rfl))
  obtain ⟨j, e, q1, q2, q⟩ := q1
  subst e
  cases r1 with
  | cons r rr =>
    cases rr
    obtain ⟨t, rfl⟩ := r
    exact call_range_1 (range_it I1 (by omega) (by omega) q1 q2 (by simpa using q))
theorem pi_range2 {a b : Expr} {ta : TA} {p pos : Pos} (hg : Gl X "range") (hm : X.mg "range" = none) (ha : PA X [a, b] ta) (hs : starEach [a, b] X.env = [(false, eval a X.env), (false, eval b X.env)] := by rfl) (hs2 : starEach [b] X.env = [(false, eval b X.env)] := by rfl) :
    PI X tg (.Call (.Name "range" p) [a, b] [] pos) (iRng2 ta) := by
  intro pins s σ H R I h
  refine Call_ (ld_blt I hg hm boot_range (PyProof.Rows.callWith_type1 (thn (ha pos pins s σ H _ I h) fun us s1 ⟨vs, H1, I1, r1, q1⟩ => ?_) (by rw [hs, hs2]) (by rw [hs2]; rfl)))
  obtain ⟨i, j, e, ⟨q1, q2, q3, q4⟩, q⟩ := q1
  subst e
  cases r1 with
  | cons r rr =>
    cases rr with
    | cons r' rr =>
      cases rr
      obtain ⟨t, rfl⟩ := r
      obtain ⟨t', rfl⟩ := r'
      exact call_range_2 (range_it I1 q1 q2 q3 q4 q)

/-! ### for -/
/-- W: the invariant by the turn and a measure; N: what the body is to reach -/
def tFor (wi : TI) (g : TG) (tb : TS) : TS := fun D σ H => wi σ H fun J H1 => ∃ W : Nat → Nat → St → Hp → Prop, (∃ m, W 0 m σ H1) ∧ ∀ i m σ H, W i m σ H →
  (J.stop i H ∧ D.nx σ H) ∨ (J.go i H ∧ ∃ N : St → Hp → Prop, (∀ σ' H', N σ' H' → ∃ m', m' < m ∧ W (i + 1) m' σ' H') ∧ ∀ x H', J.yld i H x H' → g x σ H' fun σ2 H2 => tb { D with nx := N, ct := N, bk := D.nx } σ2 H2)
/-- the records at fp as they stand -/
def pinsAt (fp : List Addr) (h : Heap) : List (Addr × Obj) := fp.filterMap fun b => (h.get? b).map fun o => (b, o)
theorem mem_pinsAt {fp : List Addr} {h : Heap} {b : Addr} {o : Obj} (hb : b ∈ fp) (e : h.get? b = some o) : (b, o) ∈ pinsAt fp h := List.mem_filterMap.mpr ⟨b, hb, by rw [e]; rfl⟩
theorem of_pinsAt {fp : List Addr} {h : Heap} {p : Addr × Obj} (hp : p ∈ pinsAt fp h) : p.1 ∈ fp ∧ h.get? p.1 = some p.2 := by
  obtain ⟨b, hb, e⟩ := List.mem_filterMap.mp hp
  cases q : h.get? b with
  | none => rw [q] at e; cases e
  | some o =>
    rw [q] at e
    have e' : (b, o) = p := Option.some.inj e
    subst e'
    exact ⟨hb, q⟩
theorem Inv.pinned {pins : List (Addr × Obj)} {σ : St} {H : Hp} {s : Shared} {fp : List Addr} (I : Inv X pins σ H s) (hf : ∀ b ∈ fp, FpOk X pins H b) (ho : ∀ b ∈ fp, ∃ o, s.heap.get? b = some o ∧ ∀ v, o.data ≠ .cell v) : Inv X (pins ++ pinsAt fp s.heap) σ H s :=
  I.pins_of fun p hp => (List.mem_append.mp hp).elim (fun z => I.pin p (List.mem_append_right _ z)) fun z => by
    obtain ⟨hb, e⟩ := of_pinsAt z
    obtain ⟨f0, f1, f2, _⟩ := hf p.1 hb
    obtain ⟨o, e', d⟩ := ho p.1 hb
    rw [e] at e'; cases e'
    exact ⟨e, f0, f1, f2, d⟩
theorem Inv.unpinned {pins pl : List (Addr × Obj)} {σ : St} {H : Hp} {s : Shared} (I : Inv X (pins ++ pl) σ H s) : Inv X pins σ H s := I.pins_of fun p hp => I.pin p (List.mem_append_right _ (List.mem_append_left _ hp))
theorem ps_for {iter : Expr} {body : List Stmt} {wi : TI} {g : TG} {tb : TS} {pos : Pos} (hp : PassesOwn (model X.prog X.w) X.A X.env X.xe) (hc : X.calm = true) (hi : PI X tg iter wi) (hg : PG X tg g) (hb : PSs X body tb)
    (hs : ∀ x, foldedSetIterable iter X.env x = pure x := by intro _; rfl) : PS X (.For tg iter body [] pos) (tFor wi g tb) := by
  intro pins s σ H D I h
  refine wpAny_For (thn (hi pins s σ H _ I h) fun v s1 h1 => thn h1 fun itv s2 h2 => ?_) hs
  obtain ⟨it, fp, tn, J, H2, e, I2, T, st2, f2, W, ⟨m0, w0⟩, turn⟩ := h2
  subst e
  -- what stays true of the iterator's objects through the loop
  have stat : ∀ {H' : Hp}, (∀ b ∈ fp, H' b = none) → ∀ b ∈ fp, FpOk X pins H' b := fun hn b hb => ⟨hn b hb, (f2 b hb).2⟩
  refine codeAny_forLoop_any (fun n s' => ∃ i σ' H', Inv X pins σ' H' s' ∧ tn i s'.heap ∧ (∀ b ∈ fp, H' b = none) ∧ W i n σ' H') ?_ m0 ⟨0, σ, H2, I2, st2, fun b hb => (f2 b hb).1, w0⟩
  rintro n s3 ⟨i, σ3, H3, I3, st3, fr3, w3⟩
  rcases turn i n σ3 H3 w3 with ⟨stop, qn⟩ | ⟨go, N, hN, step⟩
  · refine wpAny_passesOwn hp (thn (T.done X rfl rfl rfl hc i pins s3 σ3 H3 X.xe I3 (stat fr3) st3 stop) fun r s4 ⟨hr, I4⟩ => ?_)
    subst hr
    exact wpAny_execs_nil ⟨σ3, H3, I4, qn⟩
  · refine wpAny_passesOwn hp (thn (T.item X rfl rfl rfl hc i pins s3 σ3 H3 X.xe I3 (stat fr3) st3 go) fun r s4 ⟨u, hr, h4⟩ => ?_)
    subst hr
    refine wpAny_passesOwn hp (thn h4 fun _ s5 ⟨x, H5, I5, r5, y5, st5, fr5⟩ => ?_)
    have I5' := I5.pinned (stat fr5) (T.obj _ _ st5)
    refine wpAny_passesOwn hp (thn (hg _ s5 σ3 H5 x u _ I5' r5 (step x H5 y5)) fun _ s6 ⟨σ6, H6, I6, q6⟩ => ?_)
    refine wpAny_passesOwn hp (thn (hb _ s6 σ6 H6 _ I6 q6) fun f s7 q7 => ?_)
    have again : ∀ {σ7 : St} {H7 : Hp}, Inv X (pins ++ pinsAt fp s5.heap) σ7 H7 s7 → N σ7 H7 → ∃ m, m < n ∧ ∃ i σ' H', Inv X pins σ' H' s7 ∧ tn i s7.heap ∧ (∀ b ∈ fp, H' b = none) ∧ W i m σ' H' := fun {σ7 H7} I7 n7 => by
      obtain ⟨m', hm, w7⟩ := hN σ7 H7 n7
      refine ⟨m', hm, i + 1, σ7, H7, I7.unpinned, T.keep _ _ _ st5 fun b hb o e => (I7.pin (b, o) (List.mem_append_right _ (List.mem_append_right _ (mem_pinsAt hb e)))).1, fun b hb => ?_, w7⟩
      obtain ⟨o, e, d⟩ := T.obj _ _ st5 b hb
      exact (I7.pin (b, o) (List.mem_append_right _ (List.mem_append_right _ (mem_pinsAt hb e)))).2.1
    cases f with
    | next => obtain ⟨σ7, H7, I7, n7⟩ := q7; exact again I7 n7
    | cont => obtain ⟨σ7, H7, I7, n7⟩ := q7; exact again I7 n7
    | brk => obtain ⟨σ7, H7, I7, q7⟩ := q7; exact ⟨σ7, H7, I7.unpinned, q7⟩
    | ret v => obtain ⟨x7, σ7, H7, I7, r7, q7⟩ := q7; exact ⟨x7, σ7, H7, I7.unpinned, r7, q7⟩
end

/-! ### the forms one uses -/
end L2

namespace L2
open PySem PySem.Spec PyProof.Rows

abbrev R2 := V → V → Hp → VK → Prop
/-- a two-place operation on values: f is binaryOp op, inplaceOp op or compareOp op -/
def OpR (X : Cx) (f : Value → Value → Sem Value) (r : R2) : Prop :=
  ∀ (pins : List (Addr × Obj)) (s : Shared) (σ : St) (H : Hp) (x y : V) (v u : Value) (Q : VK), Inv X pins σ H s → RelV x v → RelV y u → r x y H Q →
    wpAny (model X.prog X.w) X.A (f v u) (EP X pins σ Q) X.xe s
/-- a one-place operation -/
def UnR (X : Cx) (f : Value → Sem Value) (r : V → Hp → VK → Prop) : Prop :=
  ∀ (pins : List (Addr × Obj)) (s : Shared) (σ : St) (H : Hp) (x : V) (v : Value) (Q : VK), Inv X pins σ H s → RelV x v → r x H Q →
    wpAny (model X.prog X.w) X.A (f v) (EP X pins σ Q) X.xe s
/-- a call of a value that is known (a builtin, a type) with values -/
def CallR (X : Cx) (f : Value) (r : List V → Hp → VK → Prop) : Prop :=
  ∀ (pins : List (Addr × Obj)) (s : Shared) (σ : St) (H : Hp) (xs : List V) (us : List Value) (Q : VK), Inv X pins σ H s → Vals xs us → r xs H Q →
    wpAny (model X.prog X.w) X.A (call f us) (EP X pins σ Q) X.xe s
/-- a value's truth -/
def TruR (X : Cx) (r : V → Hp → (Bool → Hp → Prop) → Prop) : Prop :=
  ∀ (pins : List (Addr × Obj)) (s : Shared) (σ : St) (H : Hp) (x : V) (v : Value) (Q : Bool → Hp → Prop), Inv X pins σ H s → RelV x v → r x H Q →
    wpAny (model X.prog X.w) X.A (truthy v) (TP X pins σ Q) X.xe s

def tOp (r : R2) (ta tb : TE) : TE := fun σ H Q => ta σ H fun x H1 => tb σ H1 fun y H2 => r x y H2 Q
def tUn (r : V → Hp → VK → Prop) (ta : TE) : TE := fun σ H Q => ta σ H fun x H1 => r x H1 Q
/-- ints in, under C, and a value out -/
def rI (C : Int → Int → Prop) (g : Int → Int → V) : R2 := fun x y H Q => ∃ i j, x = .int i ∧ y = .int j ∧ C i j ∧ Q (g i j) H
def rI0 (g : Int → Int → V) : R2 := fun x y H Q => ∃ i j, x = .int i ∧ y = .int j ∧ Q (g i j) H
def rU (g : Int → V) : V → Hp → VK → Prop := fun x H Q => ∃ i, x = .int i ∧ Q (g i) H

section
variable {X : Cx} {a b c : Expr} {ta tb tc : TE} {pos : Pos}

theorem binT (ha : PE X a ta) (hb : PE X b tb) {pins : List (Addr × Obj)} {s : Shared} {σ : St} {H : Hp} {R : V → V → Hp → Prop} (I : Inv X pins σ H s)
    (h : ta σ H fun x H1 => tb σ H1 fun y H2 => R x y H2) {Q : Value → Shared → Prop} {f : Value → Value → Sem Value}
    (hf : ∀ v u s2 x y H2, Inv X pins σ H2 s2 → RelV x v → RelV y u → R x y H2 → wpAny (model X.prog X.w) X.A (f v u) Q X.xe s2) :
    wpAny (model X.prog X.w) X.A (eval a X.env) (fun v s₁ => wpAny (model X.prog X.w) X.A (eval b X.env) (fun u s₂ => wpAny (model X.prog X.w) X.A (f v u) Q X.xe s₂) X.xe s₁) X.xe s := by
  refine thn (ha pins s σ H _ I h) fun v s1 ⟨x, H1, I1, r1, q1⟩ => ?_
  refine thn (hb pins s1 σ H1 _ I1 q1) fun u s2 ⟨y, H2, I2, r2, q2⟩ => ?_
  exact hf v u s2 x y H2 I2 r1 r2 q2

theorem pe_op {op : Operator} {r : R2} (ho : OpR X (binaryOp op) r) (ha : PE X a ta) (hb : PE X b tb) : PE X (.BinOp a op b pos) (tOp r ta tb) := by
  intro pins s σ H Q I h
  exact wpAny_BinOp (binT ha hb I h fun v u s2 x y H2 I2 rx ry q => ho pins s2 σ H2 x y v u Q I2 rx ry q)
theorem pe_un {op : UnaryOp} {r : V → Hp → VK → Prop} (ho : UnR X (unaryOp op) r) (ha : PE X a ta) : PE X (.UnaryOp op a pos) (tUn r ta) := by
  intro pins s σ H Q I h
  exact UnaryOp_ (thn (ha pins s σ H _ I h) fun v s1 ⟨x, H1, I1, r1, q1⟩ => ho pins s1 σ H1 x v Q I1 r1 q1)
/-! ### ints -/
theorem opI {f : Value → Value → Sem Value} {C : Int → Int → Prop} {g : Int → Int → Int}
    (rule : ∀ (i j : Int) (t u : Tok) (s : Shared) (Q : Value → Shared → Prop) (E : Value → Shared → Prop), C i j → Q (.int (g i j) s.toks) { s with toks := s.toks + 1 } → wpAny (model X.prog X.w) X.A (f (.int i t) (.int j u)) Q E s) :
    OpR X f (rI C fun i j => .int (g i j)) := by
  intro pins s σ H x y v u Q I rx ry h
  obtain ⟨i, j, rfl, rfl, hc, q⟩ := h
  obtain ⟨t, rfl⟩ := rx
  obtain ⟨t', rfl⟩ := ry
  exact rule i j t t' s _ _ hc ⟨.int (g i j), H, I.tok _, ⟨_, rfl⟩, q⟩
theorem opI0 {f : Value → Value → Sem Value} {g : Int → Int → Int}
    (rule : ∀ (i j : Int) (t u : Tok) (s : Shared) (Q : Value → Shared → Prop) (E : Value → Shared → Prop), Q (.int (g i j) s.toks) { s with toks := s.toks + 1 } → wpAny (model X.prog X.w) X.A (f (.int i t) (.int j u)) Q E s) :
    OpR X f (rI0 fun i j => .int (g i j)) := by
  intro pins s σ H x y v u Q I rx ry h
  obtain ⟨i, j, rfl, rfl, q⟩ := h
  obtain ⟨t, rfl⟩ := rx
  obtain ⟨t', rfl⟩ := ry
  exact rule i j t t' s _ _ ⟨.int (g i j), H, I.tok _, ⟨_, rfl⟩, q⟩
theorem opB0 {f : Value → Value → Sem Value} {g : Int → Int → Bool}
    (rule : ∀ (i j : Int) (t u : Tok) (s : Shared) (Q : Value → Shared → Prop) (E : Value → Shared → Prop), Q (.bool (g i j)) s → wpAny (model X.prog X.w) X.A (f (.int i t) (.int j u)) Q E s) :
    OpR X f (rI0 fun i j => .bl (g i j)) := by
  intro pins s σ H x y v u Q I rx ry h
  obtain ⟨i, j, rfl, rfl, q⟩ := h
  obtain ⟨t, rfl⟩ := rx
  obtain ⟨t', rfl⟩ := ry
  exact rule i j t t' s _ _ ⟨.bl (g i j), H, I, rfl, q⟩

def CDiv (i j : Int) : Prop := 0 < j ∧ j < 1073741824
def CDivN (i j : Int) : Prop := j ≠ 0 ∧ j.natAbs < 1073741824
def CPow (i j : Int) : Prop := 0 ≤ j ∧ j ≤ 1000000 ∧ i.natAbs < 2 ^ 64
def CMul (i j : Int) : Prop := (-(2 ^ 64) < i ∧ i < 2 ^ 64) ∨ (-(2 ^ 64) < j ∧ j < 2 ^ 64)
theorem CMul.ok {i j : Int} (h : CMul i j) : IntMulOk i j := by
  rcases h with ⟨h1, h2⟩ | ⟨h1, h2⟩
  · exact .of_left (intBits_le_64 h1 h2)
  · exact .of_right (intBits_le_64 h1 h2)
theorem op_add : OpR X (binaryOp .Add) (rI0 fun i j => .int (i + j)) := opI0 fun _ _ _ _ _ _ _ q => add_int q
theorem op_sub : OpR X (binaryOp .Sub) (rI0 fun i j => .int (i - j)) := opI0 fun _ _ _ _ _ _ _ q => sub_int q
/-- // by a positive divisor -/
theorem op_fdiv : OpR X (binaryOp .FloorDiv) (rI CDiv fun i j => .int (i / j)) := opI fun i j _ _ _ _ _ hc q => by
  have h1 : (0 : Int) < j := hc.1
  have h2 : j < 1073741824 := hc.2
  exact floordiv_int (by omega) (by rw [Int.fdiv_eq_ediv_of_nonneg i (by omega)]; exact q) (.inl (PyProof.noPylong_small (by omega)))
/-- % by a positive divisor of any size -/
theorem op_mod : OpR X (binaryOp .Mod) (rI (fun _ j => 0 < j) fun i j => .int (i % j)) := opI fun i j _ _ _ _ _ hc q => by
  have h1 : (0 : Int) < j := hc
  exact mod_int' (by omega) (by rw [Int.fmod_eq_emod_of_nonneg i (by omega)]; exact q)
theorem op_modN : OpR X (binaryOp .Mod) (rI (fun _ j => j ≠ 0) fun i j => .int (i.fmod j)) := opI fun _ _ _ _ _ _ _ hc q => mod_int' hc q
theorem op_pow : OpR X (binaryOp .Pow) (rI CPow fun i j => .int (i ^ j.toNat)) := opI fun _ _ _ _ _ _ _ hc q => pow_int_small hc.1 hc.2.1 hc.2.2 q
theorem unI {f : Value → Sem Value} {g : Int → Int}
    (rule : ∀ (i : Int) (t : Tok) (s : Shared) (Q : Value → Shared → Prop) (E : Value → Shared → Prop), Q (.int (g i) s.toks) { s with toks := s.toks + 1 } → wpAny (model X.prog X.w) X.A (f (.int i t)) Q E s) :
    UnR X f (rU fun i => .int (g i)) := by
  intro pins s σ H x v Q I rx h
  obtain ⟨i, rfl, q⟩ := h
  obtain ⟨t, rfl⟩ := rx
  exact rule i t s _ _ ⟨.int (g i), H, I.tok _, ⟨_, rfl⟩, q⟩
theorem un_neg : UnR X (unaryOp .USub) (rU fun i => .int (-i)) := unI fun _ _ _ _ _ q => neg_int q
/-! ### bools among ints: n += (a < b) -/
end

/-! ### comparisons -/
/-- the scalars that == tells apart as data does -/
def scal : V → V → Bool
  | .non, .non => true | .non, .int _ => true | .int _, .non => true | .non, .bl _ => true | .bl _, .non => true | .non, .str _ => true | .str _, .non => true
  | .int _, .int _ => true | .bl _, .bl _ => true | .str _, .str _ => true | .byt _, .byt _ => true
  | .int _, .str _ => true | .str _, .int _ => true | .bl _, .str _ => true | .str _, .bl _ => true
  | _, _ => false
def rEq : R2 := fun x y H Q => scal x y = true ∧ Q (.bl (decide (x = y))) H
def rNe : R2 := fun x y H Q => scal x y = true ∧ Q (.bl (!decide (x = y))) H

theorem dec_int {i j : Int} : decide (V.int i = V.int j) = (i == j) := by
  rw [Bool.eq_iff_iff]
  simp
theorem dec_bl {i j : Bool} : decide (V.bl i = V.bl j) = (i == j) := by
  rw [Bool.eq_iff_iff]
  simp
theorem dec_str {i j : Str} : decide (V.str i = V.str j) = (i == j) := by
  rw [Bool.eq_iff_iff]
  simp
theorem dec_byt {i j : Array UInt8} : decide (V.byt i = V.byt j) = (i.toList == j.toList) := by
  rw [Bool.eq_iff_iff]
  cases i
  cases j
  simp

section
variable {X : Cx} {a b c : Expr} {ta tb tc : TE} {pos : Pos}
theorem fin_bl {pins : List (Addr × Obj)} {σ : St} {H : Hp} {s : Shared} {Q : VK} {k k' : Bool} (I : Inv X pins σ H s) (q : Q (.bl k) H) (e : k = k') : EP X pins σ Q (.bool k') s := by
  subst e
  exact ⟨.bl k, H, I, rfl, q⟩
theorem op_eq : OpR X (compareOp .Eq) rEq := by
  intro pins s σ H x y v u Q I rx ry h
  obtain ⟨hs, q⟩ := h
  cases x with
  | non =>
    cases rx
    cases y with
    | non => cases ry; exact PySem.EqNone.eq_none_none (fin_bl I q (by simp))
    | bl j => cases ry; exact PySem.EqNone.eq_none_bool (fin_bl I q (by simp))
    | int j => obtain ⟨t', rfl⟩ := ry; exact PySem.EqNone.eq_none_int (fin_bl I q (by simp))
    | str j => obtain ⟨t', rfl⟩ := ry; exact PySem.EqNone.eq_none_str (fin_bl I q (by simp))
    | _ => exact absurd (show false = true from hs) Bool.false_ne_true
  | bl i =>
    cases rx
    cases y with
    | non => cases ry; exact PySem.EqNone.eq_bool_none (fin_bl I q (by simp))
    | bl j => cases ry; exact eq_bool (fin_bl I q dec_bl)
    | str j => obtain ⟨t', rfl⟩ := ry; exact PySem.EqMixed.eq_bool_str (fin_bl I q (by simp))
    | _ => exact absurd (show false = true from hs) Bool.false_ne_true
  | int i =>
    obtain ⟨t, rfl⟩ := rx
    cases y with
    | non => cases ry; exact PySem.EqNone.eq_int_none (fin_bl I q (by simp))
    | int j => obtain ⟨t', rfl⟩ := ry; exact eq_int (fin_bl I q dec_int)
    | str j => obtain ⟨t', rfl⟩ := ry; exact PySem.EqMixed.eq_int_str (fin_bl I q (by simp))
    | _ => exact absurd (show false = true from hs) Bool.false_ne_true
  | str i =>
    obtain ⟨t, rfl⟩ := rx
    cases y with
    | non => cases ry; exact PySem.EqNone.eq_str_none (fin_bl I q (by simp))
    | bl j => cases ry; exact PySem.EqMixed.eq_str_bool (fin_bl I q (by simp))
    | int j => obtain ⟨t', rfl⟩ := ry; exact PySem.EqMixed.eq_str_int (fin_bl I q (by simp))
    | str j => obtain ⟨t', rfl⟩ := ry; exact eq_str (fin_bl I q dec_str)
    | _ => exact absurd (show false = true from hs) Bool.false_ne_true
  | byt i =>
    obtain ⟨t, rfl⟩ := rx
    cases y with
    | byt j => obtain ⟨t', rfl⟩ := ry; exact PySem.W.eq_bytes (fin_bl I q dec_byt)
    | _ => exact absurd (show false = true from hs) Bool.false_ne_true
  | _ => cases y <;> exact absurd (show false = true from hs) Bool.false_ne_true
theorem op_ne : OpR X (compareOp .NotEq) rNe := by
  intro pins s σ H x y v u Q I rx ry h
  obtain ⟨hs, q⟩ := h
  cases x with
  | non =>
    cases rx
    cases y with
    | non => cases ry; exact PySem.EqNone.ne_none_none (fin_bl I q (by simp))
    | bl j => cases ry; exact PySem.EqNone.ne_none_bool (fin_bl I q (by simp))
    | int j => obtain ⟨t', rfl⟩ := ry; exact PySem.EqNone.ne_none_int (fin_bl I q (by simp))
    | str j => obtain ⟨t', rfl⟩ := ry; exact PySem.EqNone.ne_none_str (fin_bl I q (by simp))
    | _ => exact absurd (show false = true from hs) Bool.false_ne_true
  | bl i =>
    cases rx
    cases y with
    | non => cases ry; exact PySem.EqNone.ne_bool_none (fin_bl I q (by simp))
    | bl j => cases ry; exact ne_bool (fin_bl I q (congrArg not dec_bl))
    | str j => obtain ⟨t', rfl⟩ := ry; exact PySem.EqMixed.ne_bool_str (fin_bl I q (by simp))
    | _ => exact absurd (show false = true from hs) Bool.false_ne_true
  | int i =>
    obtain ⟨t, rfl⟩ := rx
    cases y with
    | non => cases ry; exact PySem.EqNone.ne_int_none (fin_bl I q (by simp))
    | int j => obtain ⟨t', rfl⟩ := ry; exact ne_int (fin_bl I q (congrArg not dec_int))
    | str j => obtain ⟨t', rfl⟩ := ry; exact PySem.EqMixed.ne_int_str (fin_bl I q (by simp))
    | _ => exact absurd (show false = true from hs) Bool.false_ne_true
  | str i =>
    obtain ⟨t, rfl⟩ := rx
    cases y with
    | non => cases ry; exact PySem.EqNone.ne_str_none (fin_bl I q (by simp))
    | bl j => cases ry; exact PySem.EqMixed.ne_str_bool (fin_bl I q (by simp))
    | int j => obtain ⟨t', rfl⟩ := ry; exact PySem.EqMixed.ne_str_int (fin_bl I q (by simp))
    | str j => obtain ⟨t', rfl⟩ := ry; exact ne_str (fin_bl I q (congrArg not dec_str))
    | _ => exact absurd (show false = true from hs) Bool.false_ne_true
  | byt i =>
    obtain ⟨t, rfl⟩ := rx
    cases y with
    | byt j => obtain ⟨t', rfl⟩ := ry; exact PySem.W.ne_bytes (fin_bl I q (congrArg not dec_byt))
    | _ => exact absurd (show false = true from hs) Bool.false_ne_true
  | _ => cases y <;> exact absurd (show false = true from hs) Bool.false_ne_true

theorem op_lt : OpR X (compareOp .Lt) (rI0 fun i j => .bl (decide (i < j))) := opB0 fun _ _ _ _ _ _ _ q => lt_int q
theorem op_gt : OpR X (compareOp .Gt) (rI0 fun i j => .bl (decide (j < i))) := opB0 fun _ _ _ _ _ _ _ q => gt_int q
/-- is, is not of two objects that are tracked lists or instances -/
def isObj : HO → Bool
  | .lst _ => true
  | .ins _ _ _ => true
  | _ => false
/-- two rules for one operation: by cases -/
theorem OpR.or {f : Value → Value → Sem Value} {r r' : R2} (h : OpR X f r) (h' : OpR X f r') : OpR X f (fun x y H Q => r x y H Q ∨ r' x y H Q) := by
  intro pins s σ H x y v u Q I rx ry q
  rcases q with q | q
  · exact h pins s σ H x y v u Q I rx ry q
  · exact h' pins s σ H x y v u Q I rx ry q

theorem nomark (b : Expr) {op : CmpOp} (h : op ≠ .In := by decide) (h2 : op ≠ .NotIn := by decide) : behindInMarks op b = false := by
  have e1 : (op == CmpOp.In) = false := by cases op <;> first | rfl | exact absurd rfl h
  have e2 : (op == CmpOp.NotIn) = false := by cases op <;> first | rfl | exact absurd rfl h2
  cases b <;> simp [behindInMarks, e1, e2]
/-- a comparison as a value; hm: nomark b, or (for in, not in) by with_unfolding_all rfl -/
theorem pe_cmpR {op : CmpOp} {r : R2} (ho : OpR X (compareOp op) r) (ha : PE X a ta) (hb : PE X b tb) (hm : behindInMarks op b = false) : PE X (.Compare a [op] [b] pos) (tOp r ta tb) := by
  intro pins s σ H Q I h
  exact wpAny_Compare1 (binT ha hb I h fun v u s2 x y H2 I2 rx ry q => ho pins s2 σ H2 x y v u Q I2 rx ry q) hm
/-- a reading of a value as a test -/
def tTest (t : TE) : TT := fun σ H Q => t σ H fun x H' => ∃ k, x = .bl k ∧ Q k H'
theorem pt_cmpR {op : CmpOp} {r : R2} (ho : OpR X (compareOp op) r) (ha : PE X a ta) (hb : PE X b tb) (hm : behindInMarks op b = false) : PT X (.Compare a [op] [b] pos) (tTest (tOp r ta tb)) := by
  intro pins s σ H Q I h
  refine wpAny_isTrue_Compare1 (thn (ha pins s σ H _ I h) fun v s1 ⟨x, H1, I1, r1, q1⟩ => thn (hb pins s1 σ H1 _ I1 q1) fun u s2 ⟨y, H2, I2, r2, q2⟩ =>
    thn (ho pins s2 σ H2 x y v u _ I2 r1 r2 q2) fun c s3 ⟨z, H3, I3, r3, k, e, q3⟩ => ?_) hm
  subst e
  cases r3
  exact wpAny_truthy_bool ⟨H3, I3, q3⟩
/-- a op1 b op2 c -/
def tChain (r r' : R2) (ta tb tc : TE) : TE := fun σ H Q => ta σ H fun x H1 => tb σ H1 fun y H2 => r x y H2 fun z H3 => ∃ k, z = .bl k ∧
  (if k = true then tc σ H3 fun w' H4 => r' y w' H4 Q else Q (.bl false) H3)
/-! ### truth -/
/-- a value's truth by the abstract heap -/
def TruV (K : PySem.W.Frag) (x : V) (H : Hp) (k : Bool) : Prop :=
  match x with
  | .non => k = false
  | .bl b => k = b
  | .int i => k = (i != 0)
  | .str y => y.length ≤ sizeLine ∧ k = ((y.length : Int) != 0)
  | .byt y => y.size ≤ sizeLine ∧ k = ((y.size : Int) != 0)
  | .ref p => (∃ xs, SqL K H p xs ∧ k = !xs.isEmpty) ∨ (∃ xs, SqT K H p xs ∧ k = !xs.isEmpty) ∨ ∃ kvs, H p = some (.dK kvs) ∧ k = !kvs.isEmpty
  | _ => False
theorem line63 : (sizeLine : Nat) < 2 ^ 63 := by rw [sizeLine_eq]; decide
/-! ### strs and bytes -/
def PlainIxT (b : Expr) : Prop := ∀ o i, subscripted b false o i = operate [o, i] (getItem o i)
/-! ### scalar builtins, by CallR -/
theorem vals1 {x : V} {us : List Value} (r : Vals [x] us) : ∃ u, us = [u] ∧ RelV x u := by
  cases r with
  | cons r1 r2 => cases r2; exact ⟨_, rfl, r1⟩
theorem vals2 {x y : V} {us : List Value} (r : Vals [x, y] us) : ∃ u w', us = [u, w'] ∧ RelV x u ∧ RelV y w' := by
  cases r with
  | cons r1 r2 =>
    cases r2 with
    | cons r3 r4 => cases r4; exact ⟨_, _, rfl, r1, r3⟩
theorem call_abs : CallR X (.builtin "abs") (fun xs H Q => ∃ i, xs = [.int i] ∧ Q (.int (if i < 0 then -i else i)) H) := by
  intro pins s σ H xs us Q I r h
  obtain ⟨i, rfl, q⟩ := h
  obtain ⟨u, rfl, t, rfl⟩ := vals1 r
  exact call_abs_int fun u tk => ⟨.int (if i < 0 then -i else i), H, I.tok _, ⟨_, rfl⟩, q⟩
theorem call_int1 : CallR X (.type "int") (fun xs H Q => (∃ i, xs = [.int i] ∧ Q (.int i) H) ∨ ∃ k, xs = [.bl k] ∧ Q (.int (if k then 1 else 0)) H) := by
  intro pins s σ H xs us Q I r h
  rcases h with ⟨i, rfl, q⟩ | ⟨k, rfl, q⟩
  · obtain ⟨u, rfl, t, rfl⟩ := vals1 r
    exact call_int_int ⟨.int i, H, I, ⟨_, rfl⟩, q⟩
  · obtain ⟨u, rfl, r1⟩ := vals1 r
    cases r1
    exact call_int_bool ⟨.int (if k then 1 else 0), H, I.tok _, ⟨_, rfl⟩, q⟩
/-- len of a str, a bytes, a list, a tuple -/
def LenV (K : PySem.W.Frag) (x : V) (H : Hp) (n : Nat) : Prop :=
  match x with
  | .str y => y.length ≤ sizeLine ∧ n = y.length
  | .byt y => y.size ≤ sizeLine ∧ n = y.size
  | .ref p => (∃ xs, SqL K H p xs ∧ n = xs.length) ∨ ∃ xs, SqT K H p xs ∧ n = xs.length
  | _ => False
end
end L2

namespace L2
open PySem PySem.Spec PyProof.Rows

/-! ### an instance, its attributes a map -/
structure ObjM (h : Heap) (x dx C : Addr) (mA : Str → Option Value) : Prop where
  obj : h.get? x = some (PySem.W.instObj C dx)
  ns : h.Ns1 dx mA
  ne : dx ≠ x

theorem lookIn_ns {h : Heap} {dx : Addr} {mA : Str → Option Value} (n : h.Ns1 dx mA) : ∃ od, h.get? dx = some od ∧ ∀ name, PySem.W.lookIn name od = some (mA name) := by
  obtain ⟨o, es, ep, ho, hd, hk, _, hm⟩ := n
  refine ⟨o, ho, fun name => ?_⟩
  have e := hm name
  unfold nsFind findBy at e
  rw [← Array.find?_toList] at e
  unfold PySem.W.lookIn
  rw [hd]
  dsimp only
  split
  · rename_i y q
    rw [q] at e
    exact congrArg some e
  · rename_i q
    rw [q] at e
    have a : es.toList.any (·.refKey) = false := by
      rw [List.any_eq_false]
      intro y hy
      obtain ⟨z, t, hkey⟩ := hk y (Array.mem_toList_iff.mp hy)
      simp [DictEntry.refKey, hkey]
    have a' : ¬ es.toList.any (·.refKey) = true := by rw [a]; exact Bool.false_ne_true
    rw [if_neg a']
    exact congrArg some e

theorem ObjM.look {h : Heap} {x dx C : Addr} {mA : Str → Option Value} (I : ObjM h x dx C mA) : ∃ od, PySem.W.InstAt h x (PySem.W.instObj C dx) C (some od) ∧ ∀ name, PySem.W.lookIn name od = some (mA name) :=
  let ⟨od, ho, hl⟩ := lookIn_ns I.ns
  ⟨od, ⟨I.obj, rfl, rfl, ho⟩, hl⟩

section
variable {prog : Program} {w : World} {A : Around} {E : Value → Shared → Prop} {s : Shared} {K : PySem.W.Frag} {x dx C f : Addr} {mA : Str → Option Value} {name : Str} {v : Value}

end

/-! ### the attributes as a list of pairs -/
def putF (f : Str) (v : V) : List (Str × V) → List (Str × V)
  | [] => [(f, v)]
  | (g, x) :: r => if g = f then (g, v) :: r else (g, x) :: putF f v r
section
variable {P : Program} {w : World} {H H' : Hp} {h h' : Heap} {a C dx : Addr} {fs fs' : List (Str × V)}
theorem ins_get (hok : HOk P w H h) (e : H a = some (.ins C dx fs)) : ∃ mA, ObjM h a dx C mA ∧ (∀ f, RelO (fs.lookup f) (mA f)) ∧ PySem.Within mA (fs.map (·.1)) ∧ fs.length ≤ 1000 ∧ H dx = some (.own a) := by
  obtain ⟨d, z, ne, ob, mA, n, r, q⟩ := (show ObjOk P w H h a (.ins C dx fs) from hok a _ e)
  exact ⟨mA, ⟨ob, n, ne⟩, r, q, z, d⟩
end

/-! ### what of the text a class must have -/
structure Cls (K : PySem.W.Frag) (C : Addr) : Prop where
  pg : PySem.W.plainGet K C Str.empty = true
  hd : PySem.W.hasDictIn K C = true
  po : PySem.W.plainOver K C = true
  sa : PySem.W.findIn K (.ref C) "__setattr__" = some (some (.builtin "object.__setattr__"))
theorem Cls.get {K : PySem.W.Frag} {C : Addr} (c : Cls K C) (f : Str) : PySem.W.plainGet K C f = true := c.pg
/-- no class of it has the name -/
def NoAttr (K : PySem.W.Frag) (C : Addr) (f : Str) : Prop := PySem.W.findIn K (.ref C) f = some none
/-- a constant of the class -/
structure Con (K : PySem.W.Frag) (C : Addr) (f : Str) (v : V) (u : Value) : Prop where
  at_ : PySem.W.findIn K (.ref C) f = some (some u)
  rel : RelV v u
  get : PySem.W.specialIn K u "__get__" = some none
  cp : PySem.W.copiedNames.contains f = false
/-- a method: a plain def of the class or of one above it -/
structure Meth (K : PySem.W.Frag) (C : Addr) (m : Str) (f : Addr) : Prop where
  at_ : PySem.W.findIn K (.ref C) m = some (some (.ref f))
  fn : PySem.W.isFn K (.ref f) = true
  kp : PySem.W.keepIn K (.ref f) = true

section
variable {X : Cx} {pins : List (Addr × Obj)} {σ : St} {H : Hp} {s : Shared} {a C dx : Addr} {fs : List (Str × V)} {f : Str} {v : V} {A : Around} {E : Value → Shared → Prop}

/-- a new instance, tracked, without attributes -/
theorem Inv.made (I : Inv X pins σ H s) : Inv X pins σ (upd (upd H s.heap.objs.size (.own (s.heap.objs.size + 1))) (s.heap.objs.size + 1) (.ins C s.heap.objs.size []))
    { s with heap := (s.heap.push PySem.W.emptyDict).push (PySem.W.instObj C s.heap.objs.size) } := by
  have e1 : (s.heap.push PySem.W.emptyDict).get? s.heap.objs.size = some PySem.W.emptyDict := Heap.get?_push_size s.heap rfl
  have e2 : ((s.heap.push PySem.W.emptyDict).push (PySem.W.instObj C s.heap.objs.size)).get? (s.heap.objs.size + 1) = some (PySem.W.instObj C s.heap.objs.size) := by
    have := Heap.get?_push_size (s.heap.push PySem.W.emptyDict) (o := PySem.W.instObj C s.heap.objs.size) rfl
    rwa [Heap.size_push] at this
  have e3 : (s.heap.push PySem.W.emptyDict).Ns s.heap.objs.size (fun _ => none) := ⟨PySem.W.emptyDict, #[], _, e1, rfl, (fun e he => absurd he (by simp)), fun _ => rfl⟩
  have I1 := I.laid (a := s.heap.objs.size) (o := .own (s.heap.objs.size + 1)) (h' := s.heap.push PySem.W.emptyDict) (t' := s.toks) (fun b u q => Heap.get?_push_of_some _ q) (Nat.le_refl _) ⟨_, e1⟩
  refine I1.laid (a := s.heap.objs.size + 1) (o := .ins C s.heap.objs.size []) (t' := s.toks) (fun b u q => Heap.get?_push_of_some _ q) (Nat.le_of_eq (Heap.size_push _ _)) ?_
  have ne : s.heap.objs.size ≠ s.heap.objs.size + 1 := Nat.ne_of_lt (Nat.lt_succ_self _)
  refine ⟨by rw [upd_ne ne, upd_same], Nat.zero_le _, ne, e2, fun _ => none, (Heap.Ns1.of_empty e3).at fun o q => Heap.get?_push_of_some _ q, fun _ => True.intro, fun y hy => absurd rfl hy⟩

end

/-! ### readings and rules -/
/-- e.f, an attribute of the instance -/
def tFld (K : PySem.W.Frag) (ta : TE) (f : Str) : TE := fun σ H Q => ta σ H fun x H1 => ∃ a C dx fs v, x = .ref a ∧ H1 a = some (.ins C dx fs) ∧ Cls K C ∧ NoAttr K C f ∧ fs.lookup f = some v ∧ Q v H1
/-- e.f, a constant of the class -/
def tCon (K : PySem.W.Frag) (ta : TE) (f : Str) : TE := fun σ H Q => ta σ H fun x H1 => ∃ a C dx fs v u, x = .ref a ∧ H1 a = some (.ins C dx fs) ∧ Cls K C ∧ Con K C f v u ∧ fs.lookup f = none ∧ Q v H1
/-- e.f = value -/
def sFld (K : PySem.W.Frag) (ta tv : TE) (f : Str) : TS := fun D σ H => tv σ H fun y H1 => ta σ H1 fun x H2 => ∃ a C dx fs, x = .ref a ∧ H2 a = some (.ins C dx fs) ∧ Cls K C ∧ NoAttr K C f ∧ fs.length < 1000 ∧
  D.nx σ (upd H2 a (.ins C dx (putF f y fs)))
/-- an augmented operator on two values -/
def InOp (X : Cx) (op : Operator) (rd : V → V → Hp → VK → Prop) : Prop :=
  ∀ (pins : List (Addr × Obj)) (s : Shared) (σ : St) (H : Hp) (x y : V) (u v : Value) (Q : VK), Inv X pins σ H s → RelV x u → RelV y v → rd x y H Q → wpAny (model X.prog X.w) X.A (inplaceOp op u v) (EP X pins σ Q) X.xe s
/-- e.f op= value -/
def sFldAug (K : PySem.W.Frag) (ta tv : TE) (rd : V → V → Hp → VK → Prop) (f : Str) : TS := fun D σ H => ta σ H fun x H1 => ∃ a C dx fs v, x = .ref a ∧ H1 a = some (.ins C dx fs) ∧ Cls K C ∧ NoAttr K C f ∧ fs.lookup f = some v ∧
  tv σ H1 fun y H2 => rd v y H2 fun z H3 => ∃ dx' fs', H3 a = some (.ins C dx' fs') ∧ fs'.length < 1000 ∧ D.nx σ (upd H3 a (.ins C dx' (putF f z fs')))

section
variable {X : Cx} {o e value : Expr} {f : Str} {pos pos' tpos : Pos} {ta tv : TE}
def rAdd : V → V → Hp → VK → Prop := fun x y H Q => ∃ i j, x = .int i ∧ y = .int j ∧ Q (.int (i + j)) H
def rSub : V → V → Hp → VK → Prop := fun x y H Q => ∃ i j, x = .int i ∧ y = .int j ∧ Q (.int (i - j)) H
end

/-! ### isinstance -/
section
variable {X : Cx} {pins : List (Addr × Obj)} {σ : St} {H : Hp} {s : Shared} {A : Around} {E : Value → Shared → Prop} {Q : Value → Shared → Prop} {c : Value} {b : Bool}
/-- the type of a value, as the fragment's deciders take it; for an instance its class -/
inductive TyOf (K : PySem.W.Frag) (H : Hp) : V → Value → Prop where
  | non : TyOf K H .non (.type "NoneType")
  | bl (x : Bool) : TyOf K H (.bl x) (.type "bool")
  | int (i : Int) : TyOf K H (.int i) (.type "int")
  | str (x : Str) : TyOf K H (.str x) (.type "str")
  | flt (x : UInt64) : TyOf K H (.flt x) (.type "float")
  | lst {a : Addr} {xs : List V} (e : H a = some (.lst xs)) : TyOf K H (.ref a) (.type "list")
  | frz {a : Addr} {o : Obj} {xs : List V} (e : H a = some (.frz o (.lst xs))) : TyOf K H (.ref a) (.type "list")
  | tup {a : Addr} {xs : List V} (e : H a = some (.tup xs)) : TyOf K H (.ref a) (.type "tuple")
  | dK {a : Addr} {kvs : List (Key × V)} (e : H a = some (.dK kvs)) : TyOf K H (.ref a) (.type "dict")
  | dT {a : Addr} {kvs : List (List Key × V)} (e : H a = some (.dT kvs)) : TyOf K H (.ref a) (.type "dict")
  | ins {a C dx : Addr} {fs : List (Str × V)} (e : H a = some (.ins C dx fs)) (cl : Cls K C) (ha : PySem.W.findIn K (.ref C) "__class__" = some (some (.builtin "object.__class__")))
      (hn : PySem.W.specialIn K (.builtin "object.__class__") "__get__" = some (some (.builtin "getset_descriptor.__get__"))) (htk : PySem.W.takesIn K (.builtin "object.__class__") = some true)
      (hm : PySem.W.mroIn K C (.type "object") = some true) : TyOf K H (.ref a) (.ref C)
/-- isinstance(x, c) for one class c, a built-in or an own one: kitOne's answer -/
theorem isinst_ok {x : V} {u t : Value} (I : Inv X pins σ H s) (rx : RelV x u) (ty : TyOf X.K H x t) (e : PySem.W.kitOne X.K t c = some b) (h : ∀ tk, Q (.bool b) { s with toks := tk }) :
    wpAny (model X.prog X.w) A (call (.builtin "isinstance") [u, c]) Q E s := by
  cases ty with
  | non => cases (show u = Value.none from rx); exact PySem.W.kia_one PySem.W.kitx_none I.kIn True.intro e (fun z => nomatch z) h
  | bl y => cases (show u = Value.bool y from rx); exact PySem.W.kia_one PySem.W.kitx_bool I.kIn True.intro e (fun z => nomatch z) h
  | int i => obtain ⟨t, q⟩ := (show ∃ t, u = Value.int i t from rx); cases q; exact PySem.W.kia_one PySem.W.kitx_int I.kIn True.intro e (fun z => nomatch z) h
  | str y => obtain ⟨t, q⟩ := (show ∃ t, u = Value.str y t from rx); cases q; exact PySem.W.kia_one PySem.W.kitx_str I.kIn True.intro e (fun z => nomatch z) h
  | flt y => obtain ⟨t, q⟩ := (show ∃ t, u = Value.float y t from rx); cases q; exact PySem.W.kia_one PySem.W.kitx_float I.kIn True.intro e (fun z => nomatch z) h
  | @lst a xs ea =>
    cases (show u = Value.ref a from rx)
    obtain ⟨_, _, n, _, h1⟩ := (show ObjOk X.prog X.w H s.heap a (.lst xs) from I.hok a _ ea)
    exact PySem.W.kia_one PySem.W.kitx_list I.kIn ⟨_, h1, rfl⟩ e (fun z => nomatch z) h
  | @frz a ob xs ea =>
    cases (show u = Value.ref a from rx)
    obtain ⟨_, _, _, n, _, h1⟩ := (show ObjOk X.prog X.w H s.heap a (.frz ob (.lst xs)) from I.hok a _ ea)
    exact PySem.W.kia_one PySem.W.kitx_list I.kIn ⟨_, h1, rfl⟩ e (fun z => nomatch z) h
  | @tup a xs ea =>
    cases (show u = Value.ref a from rx)
    obtain ⟨_, _, _, p⟩ := (show ObjOk X.prog X.w H s.heap a (.tup xs) from I.hok a _ ea)
    obtain ⟨o, h1, h2, _⟩ := p
    exact PySem.W.kia_one PySem.W.kitx_tuple I.kIn ⟨o, h1, h2⟩ e (fun z => nomatch z) h
  | @dK a kvs ea =>
    cases (show u = Value.ref a from rx)
    obtain ⟨_, _, vs, _, p⟩ := (show ObjOk X.prog X.w H s.heap a (.dK kvs) from I.hok a _ ea)
    obtain ⟨o, es, ep, h1, h2, _⟩ := p
    exact PySem.W.kia_one PySem.W.kitx_dict I.kIn ⟨o, h1, h2.1⟩ e (fun z => nomatch z) h
  | @dT a kvs ea =>
    cases (show u = Value.ref a from rx)
    obtain ⟨_, _, xs, _, o, es, ep, h1, h2, _⟩ := (show ObjOk X.prog X.w H s.heap a (.dT kvs) from I.hok a _ ea)
    exact PySem.W.kia_one PySem.W.kitx_dict I.kIn ⟨o, h1, h2.1⟩ e (fun z => nomatch z) h
  | @ins a C dx fs ea cl ha hn htk hm =>
    cases (show u = Value.ref a from rx)
    obtain ⟨mA, O, _⟩ := ins_get I.hok ea
    obtain ⟨od, J, _⟩ := O.look
    exact PySem.W.kia_one (PySem.W.kitx_own (cl.get _) cl.hd ha hn htk hm) I.kIn J e (fun z => nomatch z) h
end
end L2

namespace L2
open PySem PySem.Spec PyProof.Rows

/-! ### room -/
structure Room (k : Nat) (A : Around) : Prop where
  hd : A.handled = none
  dp : A.depth + 3 * k + 5 < recursionLimit
  un : A.units + 16 * k + 200 < cLine
theorem Room.mono {j k : Nat} {A : Around} (r : Room k A) (h : j ≤ k) : Room j A := ⟨r.hd, by have := r.dp; omega, by have := r.un; omega⟩
theorem Room.deeper {k : Nat} {A : Around} (r : Room (k + 1) A) (env : Env) : Room k (A.deeper env) :=
  ⟨r.hd, by have := r.dp; show A.depth + 1 + 3 * k + 5 < _; omega, by have := r.un; show A.units + 3 + 16 * k + 200 < _; omega⟩
theorem Room.in1 {k : Nat} {A : Around} (r : Room (k + 1) A) : Room k A.in1 :=
  ⟨r.hd, by have := r.dp; show A.depth + 3 * k + 5 < _; omega, by have := r.un; show A.units + 1 + 16 * k + 200 < _; omega⟩
theorem Room.depth {k : Nat} {A : Around} (r : Room k A) : A.depth < recursionLimit := by have := r.dp; omega
theorem Room.units {k : Nat} {A : Around} (r : Room k A) : A.units + 64 < cLine := by have := r.un; omega
/-! ### argument lists and displays -/
def tNil : TA := fun _ H Q => Q [] H
def tCons (ta : TE) (tr : TA) : TA := fun σ H Q => ta σ H fun x H1 => tr σ H1 fun xs H2 => Q (x :: xs) H2
section
variable {X : Cx} {e : Expr} {es : List Expr} {te : TE} {t : TA} {pos : Pos}
theorem pa_nil : PA X [] tNil := fun _ _ _ _ H Q I h => Calls.spliced_nil ⟨[], H, I, .nil, h⟩
theorem pa_cons (ha : PE X e te) (hr : PA X es t) (hs : starEach (e :: es) X.env = (false, eval e X.env) :: starEach es X.env := by rfl) : PA X (e :: es) (tCons te t) := by
  intro pos pins s σ H Q I h
  rw [hs]
  show wpAny _ _ (spliced ((false, eval e X.env) :: backTo pos (starEach es X.env))) _ _ s
  refine Calls.spliced_cons (thn (ha pins s σ H _ I h) fun u s1 ⟨x, H1, I1, r1, q1⟩ => ?_)
  exact thn (hr pos pins s1 σ H1 _ I1 q1) fun us s2 ⟨xs, H2, I2, r2, q2⟩ => ⟨x :: xs, H2, I2, .cons r1 r2, q2⟩

/-- a tuple, a list of written items -/
def tTup (t : TA) : TE := fun σ H Q => t σ H fun xs H1 => xs.length ≤ sizeLine ∧ ∀ p, H1 p = none → Q (.ref p) (upd H1 p (.tup xs))
def tLst (t : TA) : TE := fun σ H Q => t σ H fun xs H1 => xs.length ≤ sizeLine ∧ ∀ p, H1 p = none → Q (.ref p) (upd H1 p (.lst xs))
theorem pe_tup {x1} (h : PA X es t) : PE X (.Tuple es x1 pos) (tTup t) := by
  intro pins s σ H Q I hq
  refine wpAny_Tuple_spliced (thn (h pos pins s σ H _ I hq) fun us s1 ⟨xs, H1, I1, r, z, q⟩ => ⟨by rw [← r.length]; exact z, ?_⟩)
  have hf : H1 s1.heap.objs.size = none := I1.hok.fresh (Nat.le_refl _)
  refine ⟨.ref s1.heap.objs.size, upd H1 s1.heap.objs.size (.tup xs), I1.laid (t' := s1.toks) (fun b u e => Heap.get?_push_of_some _ e) (Nat.le_refl _) ?_, rfl, q _ hf⟩
  exact ⟨z, us, r, ⟨_, Heap.get?_push_size _ rfl, rfl, _, rfl⟩⟩
theorem pe_lst (h : PA X es t) : PE X (.List es pos) (tLst t) := by
  intro pins s σ H Q I hq
  refine wpAny_List_spliced (thn (h pos pins s σ H _ I hq) fun us s1 ⟨xs, H1, I1, r, z, q⟩ => ⟨by rw [← r.length]; exact z, ?_⟩)
  have hf : H1 s1.heap.objs.size = none := I1.hok.fresh (Nat.le_refl _)
  refine ⟨.ref s1.heap.objs.size, upd H1 s1.heap.objs.size (.lst xs), I1.laid (t' := s1.toks) (fun b u e => Heap.get?_push_of_some _ e) (Nat.le_refl _) ?_, rfl, q _ hf⟩
  exact ⟨z, us, 0, r, Heap.get?_push_size _ rfl⟩
end

/-! ### what a def promises -/
/-- a def's promise: the bound arguments in the parameters' order, the heap, the wanted end, the wanted exception -/
abbrev Sp := List V → Hp → VK → XK → Prop
/-- how an exception lies behind a call (file 08 gives it): the callers' frames, abstract heap and state ahead of the call, the wish, the exception, the state -/
abbrev CXT := List Env → Hp → Shared → XK → Value → Shared → Prop

/-- the state at a call -/
structure Env0 (P : Program) (w : World) (K : PySem.W.Frag) (mg : Str → Option Value) (base : Heap) (A : Around) (outer : List Env) (s : Shared) (H : Hp) : Prop where
  frames : A.frames = some outer
  mod : Mod K mg base
  bs : ∀ b o, base.get? b = some o → s.heap.get? b = some o ∧ H b = none
  bsz : base.objs.size ≤ s.heap.objs.size
  funs : s.heap.FunFrames base outer
  frf : ∀ b ∈ frs outer, H b = none
  hok : HOk P w H s.heap
  bare : AllBare s.gens
/-- a call's end -/
def CE (outer : List Env) (P : Program) (w : World) (H : Hp) (s : Shared) (Q : VK) (u : Value) (s' : Shared) : Prop :=
  ∃ v H', s'.os = s.os ∧ AllBare s'.gens ∧ Un (frs outer) [] H H' s.heap s'.heap ∧ HOk P w H' s'.heap ∧ RelV v u ∧ Q v H'
def CR (CX : CXT) (outer : List Env) (P : Program) (w : World) (H : Hp) (s : Shared) (Q : VK) (E : XK) (r : Result) (s' : Shared) : Prop :=
  match r with
  | .ok (.ret u) => CE outer P w H s Q u s'
  | .ok _ => False
  | .error e => CX outer H s E e s'
structure FnOk (P : Program) (w : World) (K : PySem.W.Frag) (mg : Str → Option Value) (base : Heap) (CX : CXT) (k : Nat) (f : Addr) (fd : FuncData) (ps : List Str) (sp : Sp) : Prop where
  len : ∀ vs H Q E, sp vs H Q E → vs.length = ps.length
  run : ∀ (A : Around) (outer : List Env) (s : Shared) (H : Hp) (args : Args) (us : List Value) (vs : List V) (Q : VK) (E : XK), Room k A → Env0 P w K mg base A outer s H → BindsTo s fd args (ps.zip us) → Vals vs us → sp vs H Q E →
    codeAny (model P w) A (.call (.ref f) args) (CR CX outer P w H s Q E) s
theorem FnOk.mono {P : Program} {w : World} {K : PySem.W.Frag} {mg : Str → Option Value} {base : Heap} {CX : CXT} {j k : Nat} {f : Addr} {fd : FuncData} {ps : List Str} {sp : Sp} (F : FnOk P w K mg base CX j f fd ps sp) (h : j ≤ k) :
    FnOk P w K mg base CX k f fd ps sp := ⟨F.len, fun A outer s H args us vs Q E hr => F.run A outer s H args us vs Q E (hr.mono h)⟩
/-- a weaker promise -/
theorem FnOk.imp {P : Program} {w : World} {K : PySem.W.Frag} {mg : Str → Option Value} {base : Heap} {CX : CXT} {k : Nat} {f : Addr} {fd : FuncData} {ps : List Str} {sp sp' : Sp} (F : FnOk P w K mg base CX k f fd ps sp)
    (h : ∀ vs H Q E, sp' vs H Q E → sp vs H Q E) : FnOk P w K mg base CX k f fd ps sp' :=
  ⟨fun vs H Q E q => F.len vs H Q E (h _ _ _ _ q), fun A outer s H args us vs Q E hr he hb hv hs => F.run A outer s H args us vs Q E hr he hb hv (h _ _ _ _ hs)⟩

theorem Env0.in1 {P : Program} {w : World} {K : PySem.W.Frag} {mg : Str → Option Value} {base : Heap} {A : Around} {outer : List Env} {s : Shared} {H : Hp} (e : Env0 P w K mg base A outer s H) :
    Env0 P w K mg base A.in1 outer s H := ⟨e.frames, e.mod, e.bs, e.bsz, e.funs, e.frf, e.hok, e.bare⟩

section
variable {X : Cx} {pins : List (Addr × Obj)} {σ : St} {H : Hp} {s s' : Shared}
/-- from a body: what a callee wants -/
theorem Inv.env0 (I : Inv X pins σ H s) : Env0 X.prog X.w X.K X.mg X.base X.A X.stack s H :=
  ⟨I.ok.frames, I.ok.mod, I.bs, Nat.le_trans I.ok.bsz I.sz, I.stack, I.stkFree, I.hok, I.bare⟩
/-- behind a call -/
theorem Inv.after {Q : VK} {u : Value} (I : Inv X pins σ H s) (h : CE X.stack X.prog X.w H s Q u s') : EP X pins σ Q u s' := by
  obtain ⟨v, H', os, bare, un, hok, r, q⟩ := h
  obtain ⟨hh, g, d, t, os'⟩ := s'
  obtain rfl : os' = s.os := os
  exact ⟨v, H', I.call (h' := hh) (g' := g) (d' := d) (t' := t) (ch := []) un hok bare (fun b z => absurd z (by simp)), r, q⟩
end

/-! ### calls -/
/-- f(..): the written arguments, then the defaults dvs; E: what is wanted of an exception -/
def tCall (sp : Sp) (dvs : List V) (E : XK) (t : TA) : TE := fun σ H Q => t σ H fun vs H1 => sp (vs ++ dvs) H1 Q E
/-- o.m(..) of an instance of the class at C -/
def tMeth (C : Addr) (m : Str) (sp : Sp) (dvs : List V) (E : XK) (ta : TE) (t : TA) : TE := fun σ H Q => ta σ H fun x H1 => ∃ a dx fs, x = .ref a ∧ H1 a = some (.ins C dx fs) ∧ fs.lookup m = none ∧
  t σ H1 fun vs H2 => sp (x :: (vs ++ dvs)) H2 Q E
/-- C(..): a new instance and its dict, then __init__ -/
def tMake (C : Addr) (sp : Sp) (dvs : List V) (E : XK) (t : TA) : TE := fun σ H Q => t σ H fun vs H1 => ∀ x dx, H1 x = none → H1 dx = none → dx ≠ x →
  sp (.ref x :: (vs ++ dvs)) (upd (upd H1 dx (.own x)) x (.ins C dx [])) (fun v H2 => v = .non ∧ Q (.ref x) H2) E

/-- how the parameters are bound: us the positional arguments, kw the keywords' values by name, ds the defaults that fill up -/
def Binds (K : PySem.W.Frag) (fd : FuncData) (ps : List Str) (ds : List Value) : Prop :=
  ∀ (s : Shared) (us : List Value), K.In s.heap → (us ++ ds).length = ps.length → BindsTo s fd ⟨us, []⟩ (ps.zip (us ++ ds))
/-- every parameter is given -/
theorem Binds.all {K : PySem.W.Frag} {fd : FuncData} {ps : List Str} (h : ∀ us : List Value, us.length = ps.length → bindArgs fd ⟨us, []⟩ = pure (ps.zip us)) : Binds K fd ps [] := fun s us _ hl => by
  rw [List.append_nil] at hl ⊢
  exact .of_eq (h us hl)

/-- an exception of a callee reaches what this body wants of exceptions -/
def Passes (CX : CXT) (X : Cx) (E : XK) : Prop := ∀ (pins : List (Addr × Obj)) (σ : St) (H : Hp) (s : Shared) (e : Value) (s' : Shared), Inv X pins σ H s → CX X.stack H s E e s' → X.xe e s'

section
variable {X : Cx} {CX : CXT} {k : Nat} {f C : Addr} {fd : FuncData} {ps : List Str} {sp : Sp} {dvs : List V} {ds : List Value} {E : XK} {x m : Str} {p pos apos : Pos} {e o : Expr} {es : List Expr} {ta : TE} {t : TA}

/-- the callee runs -/
theorem run_fn {pins : List (Addr × Obj)} {σ : St} {H : Hp} {s : Shared} {Q : VK} {us : List Value} {vs : List V} (F : FnOk X.prog X.w X.K X.mg X.base CX k f fd ps sp) (hr : Room k X.A) (hb : Binds X.K fd ps ds) (hd : Vals dvs ds) (hx : Passes CX X E)
    (I : Inv X pins σ H s) (r : Vals vs us) (h : sp (vs ++ dvs) H Q E) : wpAny (model X.prog X.w) X.A (call (.ref f) us) (EP X pins σ Q) X.xe s := by
  have r2 : Vals (vs ++ dvs) (us ++ ds) := r.append hd
  have hl : (us ++ ds).length = ps.length := by rw [← r2.length]; exact F.len _ _ _ _ h
  refine wpAny_call (codeAny_mono (F.run X.A X.stack s H ⟨us, []⟩ (us ++ ds) (vs ++ dvs) Q E hr I.env0 (hb s us I.kIn hl) r2 h) fun r s' hq => ?_)
  cases r with
  | error e => exact hx pins σ H s e s' I hq
  | ok fl =>
    cases fl with
    | ret u => exact I.after hq
    | next => exact False.elim hq
    | brk => exact False.elim hq
    | cont => exact False.elim hq

theorem pe_call (F : FnOk X.prog X.w X.K X.mg X.base CX k f fd ps sp) (hr : Room k X.A) (hg : Gl X x) (hm : X.mg x = some (.ref f)) (hk : PySem.W.keepIn X.K (.ref f) = true) (hb : Binds X.K fd ps ds) (hd : Vals dvs ds) (hx : Passes CX X E)
    (ha : PA X (e :: es) t) (hdb : (x == ("__debug__" : Str)) = false := by decide) (he : starEach (e :: es) X.env = (false, eval e X.env) :: starEach es X.env := by rfl) (hpl : (backTo pos (starEach es X.env)).any (·.1) = false := by rfl) :
    PE X (.Call (.Name x p) (e :: es) [] pos) (tCall sp dvs E t) := by
  intro pins s σ H Q I h
  refine wpAny_Call_Name_kw (ld_glob I hg hm ?_ hdb)
  refine PySem.W.callWith_K (h₀ := X.base) I.ok.mod.kin hk (thn (ha pos pins s σ H _ I h) fun us s1 ⟨vs, H1, I1, r, q⟩ => ⟨I1.kIn, ?_⟩) he hpl
  exact run_fn F hr hb hd hx I1 r q
/-- what a class must have to be made -/
structure Mk (K : PySem.W.Frag) (C f : Addr) : Prop where
  makes : PySem.W.makesIn K C = true
  init : PySem.W.findIn K (.ref C) "__init__" = some (some (.ref f))
  fn : PySem.W.isFn K (.ref f) = true
  kp : PySem.W.keepIn K (.ref C) = true

end

/-! ### keywords -/
/-- the values of the keywords, from the left -/
def PK (X : Cx) (kws : List Keyword) (t : TA) : Prop :=
  ∀ (pos : Pos) (pins : List (Addr × Obj)) (s : Shared) (σ : St) (H : Hp) (Q : List V → Hp → Prop), Inv X pins σ H s → t σ H Q → wpAny (model X.prog X.w) X.A (evalAll ((backToKw pos (keywordEach kws X.env)).map (·.2))) (AP X pins σ Q) X.xe s
section
variable {X : Cx} {CX : CXT} {k : Nat} {f C : Addr} {fd : FuncData} {ps ks : List Str} {sp : Sp} {E : XK} {x m : Str} {p pos apos kpos : Pos} {e o : Expr} {es : List Expr} {kws : List Keyword} {te ta : TE} {t tk : TA} {nm : Option Str}
/-- how a call with keywords binds: g puts the positional values us and the keywords' values ws (names ks) in the parameters' order, defaults among them -/
structure KBinds (K : PySem.W.Frag) (fd : FuncData) (ps ks : List Str) (g : List Value → List Value → List Value) (gV : List V → List V → List V) : Prop where
  to : ∀ (s : Shared) (us ws : List Value), K.In s.heap → (g us ws).length = ps.length → BindsTo s fd ⟨us, ks.zip ws⟩ (ps.zip (g us ws))
  rel : ∀ {vs : List V} {us : List Value} {zs : List V} {ws : List Value}, Vals vs us → Vals zs ws → Vals (gV vs zs) (g us ws)
def tCallK (sp : Sp) (gV : List V → List V → List V) (E : XK) (t tk : TA) : TE := fun σ H Q => t σ H fun vs H1 => tk σ H1 fun zs H2 => sp (gV vs zs) H2 Q E
variable {g : List Value → List Value → List Value} {gV : List V → List V → List V}
end

/-! ### a def's body keeps its promise -/
/-- names: the parameters first -/
structure FnScope (N P : List Str) (sc : Scope) : Prop where
  kind : sc.kind = .function
  co : sc.isCoroutine = false
  gen : sc.isGenerator = false
  nd : N.Nodup
  pre : N.take P.length = P
  par : ∀ x ∈ P, sc.names.lookup x = some .local ∨ sc.names.lookup x = some .cell
  nofree : ∀ y ∈ sc.names, y.2 ≠ .free

theorem bindL_out {kindOf : Str → Option NameKind} {x : Str} : ∀ {binds : List (Str × Value)} {m : Str → Option Value}, (∀ v, (x, v) ∉ binds) → bindL kindOf binds m x = m x
  | [], _, _ => rfl
  | (n, v) :: r, m, h => by
    unfold bindL
    rw [bindL_out fun w hw => h w (List.mem_cons_of_mem _ hw)]
    split
    · have : x ≠ n := by rintro rfl; exact h v List.mem_cons_self
      simp [this]
    · rfl
theorem bindC_out {kindOf : Str → Option NameKind} {x : Str} : ∀ {binds : List (Str × Value)} {m : Str → Option Value}, (∀ v, (x, v) ∉ binds) → bindC kindOf binds m x = m x
  | [], _, _ => rfl
  | (n, v) :: r, m, h => by
    unfold bindC
    rw [bindC_out fun w hw => h w (List.mem_cons_of_mem _ hw)]
    split
    · rfl
    · have : x ≠ n := by rintro rfl; exact h v List.mem_cons_self
      simp [this]
theorem bindL_get {kindOf : Str → Option NameKind} {x : Str} {v : Value} : ∀ {P : List Str} {vs : List Value} {i : Nat} {m : Str → Option Value}, P.Nodup → P[i]? = some x → vs[i]? = some v → kindOf x = some .local →
    bindL kindOf (P.zip vs) m x = some v
  | [], _, _, _, _, h, _, _ => by simp at h
  | _ :: _, [], _, _, _, _, h, _ => by simp at h
  | p :: P, w :: vs, 0, m, nd, h1, h2, hk => by
    simp at h1 h2; subst h1; subst h2
    show bindL kindOf ((p, w) :: P.zip vs) m p = _
    unfold bindL
    rw [bindL_out fun v hv => (List.nodup_cons.mp nd).1 (List.of_mem_zip hv).1, if_pos hk]
    simp
  | p :: P, w :: vs, i + 1, m, nd, h1, h2, hk => by
    show bindL kindOf ((p, w) :: P.zip vs) m x = _
    unfold bindL
    exact bindL_get (i := i) (List.nodup_cons.mp nd).2 (by simpa using h1) (by simpa using h2) hk
theorem bindC_get {kindOf : Str → Option NameKind} {x : Str} {v : Value} : ∀ {P : List Str} {vs : List Value} {i : Nat} {m : Str → Option Value}, P.Nodup → P[i]? = some x → vs[i]? = some v → kindOf x ≠ some .local →
    bindC kindOf (P.zip vs) m x = some v
  | [], _, _, _, _, h, _, _ => by simp at h
  | _ :: _, [], _, _, _, _, h, _ => by simp at h
  | p :: P, w :: vs, 0, m, nd, h1, h2, hk => by
    simp at h1 h2; subst h1; subst h2
    show bindC kindOf ((p, w) :: P.zip vs) m p = _
    unfold bindC
    rw [bindC_out fun v hv => (List.nodup_cons.mp nd).1 (List.of_mem_zip hv).1, if_neg hk]
    simp
  | p :: P, w :: vs, i + 1, m, nd, h1, h2, hk => by
    show bindC kindOf ((p, w) :: P.zip vs) m x = _
    unfold bindC
    exact bindC_get (i := i) (List.nodup_cons.mp nd).2 (by simpa using h1) (by simpa using h2) hk

/-- the names' values at the entry -/
def start (N : List Str) (vs : List V) : St := vs.map some ++ List.replicate (N.length - vs.length) none

/-- the context of a def's body, at its entry; an exception leaves the frame, then lies as CX says -/
def cxOf (CX : CXT) (P : Program) (w : World) (K : PySem.W.Frag) (mg : Str → Option Value) (base : Heap) (N : List Str) (qual : Str) (scope : Scope) (f : Addr) (cd : Value) (A : Around) (outer : List Env) (s : Shared) (H : Hp) (E : XK) : Cx where
  prog := P
  w := w
  K := K
  mg := mg
  base := base
  A := A.deeper (envOfC qual scope s.heap.objs.size f cd)
  N := N
  s₀ := s
  H₀ := H
  env := envOfC qual scope s.heap.objs.size f cd
  outer := outer
  stack := envOfC qual scope s.heap.objs.size f cd :: outer
  ex := []
  calm := true
  fn := fun _ => true
  pn := []
  xe := fun e s' => wpAny (model P w) (A.deeper (envOfC qual scope s.heap.objs.size f cd)) (leaving (envOfC qual scope s.heap.objs.size f cd) e) (fun _ s'' => CX outer H s E e s'') (fun e' s'' => CX outer H s E e' s'') s'

theorem cell_has {sc : Scope} {n : Nat} {x : Str} (h : sc.names.lookup x = some .cell) : ∃ c, (cellsFrom n sc.names []).lookup x = some c := by
  have q := PySem.W.cellsFrom_some sc.names n [] (.inl h)
  exact Option.isSome_iff_exists.mp q

theorem inv_start {CX : CXT} {P : Program} {w : World} {K : PySem.W.Frag} {mg : Str → Option Value} {base : Heap} {N ps : List Str} {qual : Str} {scope : Scope} {f : Addr} {cd : Value} {A : Around} {outer : List Env} {s s1 : Shared} {H : Hp} {E : XK} {us : List Value} {vs : List V}
    (S : FnScope N ps scope) (hd : A.handled = none) (e0 : Env0 P w K mg base A outer s H) (hl : vs.length = ps.length) (r : Vals vs us)
    (x : InCallC s s.heap.objs.size (bindL (envOfC qual scope s.heap.objs.size f cd).kindOf (ps.zip us) fun _ => none) (cellsFrom (s.heap.objs.size + 1) scope.names []) (bindC (envOfC qual scope s.heap.objs.size f cd).kindOf (ps.zip us) fun _ => none) s1) :
    Inv (cxOf CX P w K mg base N qual scope f cd A outer s H E) [] (start N vs) H s1 := by
  have hpl : ps.length ≤ N.length := by have := congrArg List.length S.pre; rw [List.length_take] at this; omega
  obtain ⟨h1, tk, rfl, hk⟩ := x.done
  have noA : ∀ b : Addr, b ∉ (cxOf CX P w K mg base N qual scope f cd A outer s H E).ex := fun b z => absurd (show b ∈ ([] : List Addr) from z) (by simp)
  refine ⟨⟨e0.mod, S.kind, rfl, rfl, Nat.le_refl _, fun y z c h1 h2 => ?_, fun y hy => ?_, fun y c _ h => ?_, fun _ => hd, Around.frames_deeper e0.frames, .inr ⟨rfl, rfl⟩, fun b z => absurd z (noA b), e0.bs, e0.bsz, fun b _ _ => noA b, fun b z => absurd z (noA b), e0.funs, e0.frf⟩,
    rfl, e0.bare, Un.kept hk, ⟨_, x.toInCall.ns, fun i y v h1 h2 h3 => ?_⟩, fun y c h => ⟨_, x.cell y c h⟩, e0.hok.fresh (Nat.le_refl _), fun y c h => ?_, fun p hp => absurd (show p ∈ ([] : List (Addr × Obj)) from hp) (by simp), e0.hok.kept hk, ?_⟩
  · exact name_of_addr x.apart (PySem.mem_of_lookup h1) (PySem.mem_of_lookup h2)
  · have hy : scope.names.lookup y = some .cell ∨ scope.names.lookup y = some .free := hy
    rcases hy with hy | hy
    · exact cell_has hy
    · exact absurd rfl (S.nofree _ (PySem.mem_of_lookup hy))
  · exact Nat.le_of_lt (x.above y c (PySem.mem_of_lookup h))
  · have hi : i < vs.length := by
      unfold start at h2
      by_cases hi : i < vs.length
      · exact hi
      · rw [List.getElem?_append_right (by simpa using hi)] at h2
        rw [List.getElem?_replicate] at h2
        split at h2 <;> cases h2
    have ha : vs[i]? = some v := by
      unfold start at h2
      rw [List.getElem?_append_left (by simpa using hi), List.getElem?_map] at h2
      cases e : vs[i]? with
      | none => rw [e] at h2; cases h2
      | some a => rw [e] at h2; cases h2; rfl
    obtain ⟨u, hu, rv⟩ := r.get ha
    have hp : ps[i]? = some y := by
      rw [← S.pre, List.getElem?_take_of_lt (by omega)]; exact h1
    have ndP : ps.Nodup := by rw [← S.pre]; exact S.nd.sublist (List.take_sublist _ _)
    refine ⟨u, rv, ?_⟩
    rcases S.par y (List.mem_of_getElem? hp) with k | k
    · exact .inl ⟨k, bindL_get ndP hp hu k⟩
    · obtain ⟨c, e⟩ := cell_has (n := s.heap.objs.size + 1) k
      refine .inr ⟨.inl k, c, e, ?_⟩
      have q := x.cell y c e
      rw [bindC_get ndP hp hu (by show scope.names.lookup y ≠ _; rw [k]; decide)] at q
      exact q
  · exact e0.hok.fresh (Nat.le_of_lt (x.above y c (PySem.mem_of_lookup h)))
  · unfold start
    show _ = N.length
    rw [List.length_append, List.length_map, List.length_replicate]
    omega

/-- THE RULE: a def (or a method) of the text, by its body. The body's reading t is chosen for each entry; it is run at the parameters' values -/
theorem fn_of {CX : CXT} {P : Program} {w : World} {K : PySem.W.Frag} {mg : Str → Option Value} {base : Heap} {k : Nat} {f : Addr} {name qual : Str} {params : Arguments} {body : List Stmt} {scope : Scope} {dV kV doc pm cdv ct oc : Value} {an od : Option Addr}
    {osl : Array (Option Value)} {N ps : List Str} {sp : Sp} (lk : K.lookup f = some ⟨oc, od, .func (PySem.W.fnOf name qual params body scope dV kV doc pm an cdv ct), osl⟩) (hcd : PySem.W.codeIn K cdv qual = true) (S : FnScope N ps scope)
    (len : ∀ vs H Q E, sp vs H Q E → vs.length = ps.length)
    (hbody : ∀ (A : Around) (outer : List Env) (s : Shared) (H : Hp) (vs : List V) (Q : VK) (E : XK), Room k (A.deeper (envOfC qual scope s.heap.objs.size f cdv)) → sp vs H Q E →
      ∃ t, PSs (cxOf CX P w K mg base N qual scope f cdv A outer s H E) body t ∧ t { nx := fun _ H' => Q .non H', rt := Q } (start N vs) H) :
    FnOk P w K mg base CX (k + 1) f (PySem.W.fnOf name qual params body scope dV kV doc pm an cdv ct) ps sp := by
  refine ⟨len, fun A outer s H args us vs Q E hr e0 hb r hsp => ?_⟩
  have hl := len _ _ _ _ hsp
  have KX : K.In s.heap := e0.mod.kin.keeps fun b o e => (e0.bs b o e).1
  have lim : s.heap.NoLimit := e0.mod.nolimit.keeps fun b o e => (e0.bs b o e).1
  have hkind : ∀ y ∈ ps.zip us, scope.names.lookup y.1 = some .local ∨ (scope.names.lookup y.1 = some .cell ∧ ((cellsFrom (s.heap.objs.size + 1) scope.names []).lookup y.1).isSome = true) := fun ⟨n, v⟩ hy => by
    rcases S.par n (List.of_mem_zip hy).1 with q | q
    · exact .inl q
    · exact .inr ⟨q, PySem.W.cellsFrom_some _ _ _ (.inl q)⟩
  refine codeAny_call_function hr.depth (KX _ _ lk) rfl S.co S.gen rfl (PySem.W.codeRec_of KX hcd) (hb _ _ _ _ ?_)
  refine wpAny_newFunctionEnv_cells S.kind hkind fun env he s1 x => ?_
  subst he
  refine ⟨lim.keeps x.toInCall.keep, codeAny_func ?_⟩
  obtain ⟨t, ht, hq⟩ := hbody A outer s H vs Q E (hr.deeper _) hsp
  have I : Inv (cxOf CX P w K mg base N qual scope f cdv A outer s H E) [] (start N vs) H s1 := inv_start S hr.hd e0 hl r x
  refine wpAny_mono (ht [] s1 (start N vs) H _ I hq) (fun fl s' hs => ?_) fun e s' hs => hs
  have fin : ∀ {σ' : St} {H' : Hp} {v : V} {u : Value}, Inv (cxOf CX P w K mg base N qual scope f cdv A outer s H E) [] σ' H' s' → RelV v u → Q v H' → CE outer P w H s Q u s' :=
    fun {σ' H' v u} J rv q => ⟨v, H', J.os, J.bare, J.base, J.hok, rv, q⟩
  cases fl with
  | ret u =>
    obtain ⟨v, σ', H', J, rv, q⟩ := hs
    exact fin J rv q
  | next =>
    obtain ⟨σ', H', J, q⟩ := hs
    exact fin (v := V.non) (u := Value.none) J rfl q
  | brk =>
    obtain ⟨_, _, _, q⟩ := hs
    exact False.elim q
  | cont =>
    obtain ⟨_, _, _, q⟩ := hs
    exact False.elim q
end L2

namespace L2
open PySem PySem.Spec PyProof.Rows
section
variable {X : Cx} {x : Str} {p pos : Pos} {e : Expr} {es : List Expr} {t : TA} {id T : String} {r : List V → Hp → VK → Prop}

def tCB (r : List V → Hp → VK → Prop) (t : TA) : TE := fun σ H Q => t σ H fun vs H1 => r vs H1 Q
/-- f(e, ..), f a built-in function -/
theorem pe_callB (hc : CallR X (.builtin id) r) (hg : Gl X x) (hm : X.mg x = none) (hv : bootBuiltins x = some (.builtin id)) (ha : PA X (e :: es) t) (hn : x ≠ "__name__" := by decide) (hdb : (x == ("__debug__" : Str)) = false := by decide)
    (he : starEach (e :: es) X.env = (false, eval e X.env) :: starEach es X.env := by rfl) (hpl : (backTo pos (starEach es X.env)).any (·.1) = false := by rfl) : PE X (.Call (.Name x p) (e :: es) [] pos) (tCB r t) := by
  intro pins s σ H Q I h
  refine wpAny_Call_Name_kw (ld_blt I hg hm hv ?_ hn hdb)
  exact PyProof.Rows.callWith_builtin1 (thn (ha pos pins s σ H _ I h) fun us s1 ⟨vs, H1, I1, r1, q1⟩ => hc pins s1 σ H1 vs us Q I1 r1 q1) he hpl
/-- T(e, ..), T a built-in type -/
theorem pe_callTy (hc : CallR X (.type T) r) (hg : Gl X x) (hm : X.mg x = none) (hv : bootBuiltins x = some (.type T)) (ha : PA X (e :: es) t) (hn : x ≠ "__name__" := by decide) (hdb : (x == ("__debug__" : Str)) = false := by decide)
    (he : starEach (e :: es) X.env = (false, eval e X.env) :: starEach es X.env := by rfl) (hpl : (backTo pos (starEach es X.env)).any (·.1) = false := by rfl) : PE X (.Call (.Name x p) (e :: es) [] pos) (tCB r t) := by
  intro pins s σ H Q I h
  refine wpAny_Call_Name_kw (ld_blt I hg hm hv ?_ hn hdb)
  exact PyProof.Rows.callWith_type1 (thn (ha pos pins s σ H _ I h) fun us s1 ⟨vs, H1, I1, r1, q1⟩ => hc pins s1 σ H1 vs us Q I1 r1 q1) he hpl
end
end L2

namespace HT
open PySem PyProof.Rows

/-- t < u of tuples of ints -/
def lexLt : List Int → List Int → Bool
  | [], [] => false
  | [], _ :: _ => true
  | _ :: _, [] => false
  | x :: xs, y :: ys => if x = y then lexLt xs ys else decide (x < y)
section
open PySem.SeqAt
open PySem.AutoSeq1 (wpAny_loadPart')
open PySem.MeetsSeq PySem.MeetsSeq2 PySem.MeetsSeq3

end

section
variable {prog : Program} {w : World} {A : Around} {E : Value → Shared → Prop} {s : Shared}

/-! ### t[a:b], not the whole -/
/-- a slice's bound as a place among n (d where it is left out) -/
def sIx (n d : Nat) : Option Int → Nat
  | none => d
  | some v => if v < 0 then (v + (n : Int)).toNat else min v.toNat n
theorem sIx_none (n d : Nat) : sIx n d none = d := rfl
theorem sIx_nat (n d k : Nat) : sIx n d (some (k : Int)) = min k n := by
  show (if (k : Int) < 0 then ((k : Int) + (n : Int)).toNat else min (k : Int).toNat n) = min k n
  rw [if_neg (by omega), Int.toNat_natCast]
end
end HT

namespace L2
open PySem PySem.Spec PyProof.Rows

/-! ### the parts of a slice -/
abbrev TO := St → Hp → (Option Int → Hp → Prop) → Prop
/-- a slice's part (left out, or an int) -/
def PO (X : Cx) (e : Option Expr) (t : TO) : Prop :=
  ∀ (pins : List (Addr × Obj)) (s : Shared) (σ : St) (H : Hp) (Q : Option Int → Hp → Prop), Inv X pins σ H s → t σ H Q →
    wpAny (model X.prog X.w) X.A (evalPart e X.env) (fun u s' => ∃ o H', Inv X pins σ H' s' ∧ IsPart u o ∧ Q o H') X.xe s
def tNoPart : TO := fun _ H Q => Q none H
def tPart (t : TE) : TO := fun σ H Q => t σ H fun x H1 => ∃ i, x = .int i ∧ Q (some i) H1

theorem intsAre_of {ns : List Int} : ∀ {us : List Value}, Vals (ns.map V.int) us → IntsAre us ns := by
  induction ns with
  | nil => intro us r; rw [List.map_nil] at r; cases r; exact .nil
  | cons n ns ih =>
    intro us r
    rw [List.map_cons] at r
    cases r with
    | cons r1 r2 =>
      obtain ⟨t, e⟩ := r1
      subst e
      exact .cons n t (ih r2)

section
variable {X : Cx} {e : Expr} {te : TE} {lo hi : Option Expr} {tl th : TO} {pos p2 : Pos}

theorem po_none : PO X none tNoPart := by
  intro pins s σ H Q I h
  rw [evalPart_none]
  exact wpAny_pure ⟨none, H, I, .none, h⟩
theorem po_some (h : PE X e te) : PO X (some e) (tPart te) := by
  intro pins s σ H Q I hw
  rw [evalPart_some]
  refine thn (h pins s σ H _ I hw) fun u s1 ⟨x, H1, I1, r1, q1⟩ => ?_
  obtain ⟨i, rfl, q⟩ := q1
  obtain ⟨t, rfl⟩ := r1
  exact ⟨some i, H1, I1, .int i t, q⟩

/-- what a slice of a value is, by values: the slice object stands at sl -/
def SlR (X : Cx) (r : V → Option Int → Option Int → Hp → VK → Prop) : Prop :=
  ∀ (pins : List (Addr × Obj)) (s : Shared) (σ : St) (H : Hp) (x : V) (v vl vu : Value) (lo hi : Option Int) (sl : Addr) (Q : VK), Inv X pins σ H s → RelV x v → s.heap.IsSliceOf sl vl vu .none → IsPart vl lo → IsPart vu hi → r x lo hi H Q →
    ∃ T id, typeLookup (.type T) "__getitem__" = pure (some (.builtin id)) ∧ s.TypeIs v T ∧ wpAny (model X.prog X.w) X.A (getItem v (.ref sl)) (EP X pins σ Q) X.xe s
theorem SlR.or {r r' : V → Option Int → Option Int → Hp → VK → Prop} (h : SlR X r) (h' : SlR X r') : SlR X (fun x lo hi H Q => r x lo hi H Q ∨ r' x lo hi H Q) := by
  intro pins s σ H x v vl vu lo hi sl Q I rx hs pl pu q
  rcases q with q | q
  · exact h pins s σ H x v vl vu lo hi sl Q I rx hs pl pu q
  · exact h' pins s σ H x v vl vu lo hi sl Q I rx hs pl pu q
def tSl (r : V → Option Int → Option Int → Hp → VK → Prop) (te : TE) (tl th : TO) : TE := fun σ H Q => te σ H fun x H1 => tl σ H1 fun l H2 => th σ H2 fun u H3 => r x l u H3 Q
/-- a[lo:hi], any a -/
theorem pe_slice {r : V → Option Int → Option Int → Hp → VK → Prop} (hr : SlR X r) (he : PE X e te) (hl : PO X lo tl) (hu : PO X hi th) : PE X (.Subscript e (.Slice lo hi none p2) pos) (tSl r te tl th) := by
  intro pins s σ H Q I h
  refine Subscript_ (thn (he pins s σ H _ I h) fun v s1 ⟨x, H1, I1, r1, q1⟩ => ?_)
  refine wpAny_Slice (thn (hl pins s1 σ H1 _ I1 q1) fun vl s2 ⟨l, H2, I2, pl, q2⟩ => thn (hu pins s2 σ H2 _ I2 q2) fun vu s3 ⟨u, H3, I3, pu, q3⟩ => ?_)
  rw [evalPart_none]
  refine wpAny_pure ?_
  have I4 : Inv X pins σ H3 { s3 with heap := s3.heap.push { cls := .type "slice", data := .fields #[vl, vu, .none] } } := I3.kept (t' := s3.toks) fun b ob q => Heap.get?_push_of_some _ q
  obtain ⟨T, id, hT, ht, hg⟩ := hr pins { s3 with heap := s3.heap.push { cls := .type "slice", data := .fields #[vl, vu, .none] } } σ H3 x v vl vu l u s3.heap.objs.size Q I4 r1 (Heap.IsSliceOf.new ..) pl pu q3
  show wpAny (model X.prog X.w) X.A (subscriptTail e (.Slice lo hi none p2) v (.ref s3.heap.objs.size)) (EP X pins σ Q) X.xe { s3 with heap := s3.heap.push { cls := .type "slice", data := .fields #[vl, vu, .none] } }
  exact tail_any (ops := [.ref s3.heap.objs.size, v]) ht hT hg (by with_unfolding_all rfl)

/-- the items of xs[lo:hi] -/
def cutV (xs : List V) (lo hi : Option Int) : List V := (xs.drop (HT.sIx xs.length 0 lo)).take (HT.sIx xs.length xs.length hi - HT.sIx xs.length 0 lo)
theorem cutV_length (xs : List V) (lo hi : Option Int) : (cutV xs lo hi).length ≤ xs.length := by
  unfold cutV
  rw [List.length_take, List.length_drop]
  omega
/-- t[lo:hi], not the whole of it (the whole would be t itself) -/
def rSlT (K : PySem.W.Frag) : V → Option Int → Option Int → Hp → VK → Prop := fun x lo hi H Q => ∃ a xs, x = .ref a ∧ SqT K H a xs ∧
  ¬ (HT.sIx xs.length 0 lo = 0 ∧ HT.sIx xs.length xs.length hi = xs.length) ∧ ∀ p, H p = none → Q (.ref p) (upd H p (.tup (cutV xs lo hi)))
/-! ### t < u, t + u -/
def rLtT (K : PySem.W.Frag) : R2 := fun x y H Q => ∃ a b ns ms, x = .ref a ∧ y = .ref b ∧ SqT K H a (ns.map V.int) ∧ SqT K H b (ms.map V.int) ∧ Q (.bl (HT.lexLt ns ms)) H
/-- t + u, t not empty: u empty gives t itself -/
def rCatT (K : PySem.W.Frag) : R2 := fun x y H Q => ∃ a b xs ys, x = .ref a ∧ y = .ref b ∧ SqT K H a xs ∧ SqT K H b ys ∧ xs ≠ [] ∧ xs.length + ys.length ≤ sizeLine ∧
  (ys = [] → Q (.ref a) H) ∧ (ys ≠ [] → ∀ p, H p = none → Q (.ref p) (upd H p (.tup (xs ++ ys))))
end
end L2

namespace L2
open PySem PySem.Spec PyProof.Rows

/-! ### places -/
/-- the place that an index of any sign means -/
def ixN (n : Nat) (i : Int) : Option Nat := if 0 ≤ i then (if i < n then some i.toNat else none) else if -(n : Int) ≤ i then some (i + n).toNat else none
def atI {α : Type} (xs : List α) (i : Int) : Option α := (ixN xs.length i).bind fun j => xs[j]?
theorem ixN_seq {n : Nat} {i : Int} {j : Nat} (h : ixN n i = some j) : seqIndex? i n = some j ∧ j < n ∧ -(n : Int) ≤ i ∧ i < n := by
  unfold ixN at h
  by_cases h0 : 0 ≤ i
  · rw [if_pos h0] at h
    by_cases h1 : i < n
    · rw [if_pos h1] at h
      have e : i.toNat = j := Option.some.inj h
      exact ⟨by rw [seqIndex_of h0 h1, e], by omega, by omega, h1⟩
    · rw [if_neg h1] at h; cases h
  · rw [if_neg h0] at h
    by_cases h1 : -(n : Int) ≤ i
    · rw [if_pos h1] at h
      have e : (i + n).toNat = j := Option.some.inj h
      exact ⟨by rw [seqIndex_neg (by omega) h1, e], by omega, h1, by omega⟩
    · rw [if_neg h1] at h; cases h
theorem atI_get {α : Type} {xs : List α} {i : Int} {v : α} (h : atI xs i = some v) : ∃ j, seqIndex? i xs.length = some j ∧ xs[j]? = some v ∧ j < xs.length ∧ -(xs.length : Int) ≤ i ∧ i < xs.length := by
  unfold atI at h
  cases e : ixN xs.length i with
  | none => rw [e] at h; cases h
  | some j =>
    rw [e] at h
    obtain ⟨h1, h2, h3, h4⟩ := ixN_seq e
    exact ⟨j, h1, h, h2, h3, h4⟩
theorem atI_nat {α : Type} {xs : List α} {j : Nat} {v : α} (h : xs[j]? = some v) : atI xs (j : Int) = some v := by
  have hj : j < xs.length := (List.getElem?_eq_some_iff.mp h).1
  have e : ixN xs.length (j : Int) = some j := by
    unfold ixN
    rw [if_pos (by omega), if_pos (by omega)]; simp
  unfold atI; rw [e]; exact h
theorem atI_last {α : Type} (xs : List α) (v : α) : atI (xs ++ [v]) (-1) = some v := by
  have hl : (xs ++ [v]).length = xs.length + 1 := by simp
  have e : ixN (xs ++ [v]).length (-1) = some xs.length := by
    unfold ixN
    rw [hl, if_neg (by decide), if_pos (by omega)]
    congr 1
    omega
  unfold atI
  rw [e]
  show (xs ++ [v])[xs.length]? = some v
  simp

/-! ### what may be subscripted -/
/-- what stands as an index of a plain subscript -/
def PlainIx (b : Expr) : Prop := ∀ o i, subscripted b false o i = operate [o, i] (getItem o i)
/-- a subscript by values -/
def IxR (X : Cx) (r : R2) : Prop :=
  ∀ (value slice : Expr) (pins : List (Addr × Obj)) (s : Shared) (σ : St) (H : Hp) (x y : V) (v u : Value) (Q : VK), Inv X pins σ H s → RelV x v → RelV y u → r x y H Q →
    subscripted slice false v u = operate [v, u] (getItem v u) → wpAny (model X.prog X.w) X.A (subscriptTail value slice v u) (EP X pins σ Q) X.xe s
/-- a call of a builtin's method by values: the receiver, the arguments -/
def MtR (X : Cx) (id : String) (r : V → List V → Hp → VK → Prop) : Prop :=
  ∀ (pins : List (Addr × Obj)) (s : Shared) (σ : St) (H : Hp) (x : V) (xs : List V) (v : Value) (us : List Value) (Q : VK), Inv X pins σ H s → RelV x v → Vals xs us → r x xs H Q →
    wpAny (model X.prog X.w) X.A (call (.builtin id) (v :: us)) (EP X pins σ Q) X.xe s
section
variable {X : Cx} {a b : Expr} {ta tb : TE} {pos : Pos}
theorem IxR.or {r r' : R2} (h : IxR X r) (h' : IxR X r') : IxR X (fun x y H Q => r x y H Q ∨ r' x y H Q) := by
  intro value slice pins s σ H x y v u Q I rx ry q hs
  rcases q with q | q
  · exact h value slice pins s σ H x y v u Q I rx ry q hs
  · exact h' value slice pins s σ H x y v u Q I rx ry q hs
theorem MtR.or {id : String} {r r' : V → List V → Hp → VK → Prop} (h : MtR X id r) (h' : MtR X id r') : MtR X id (fun x xs H Q => r x xs H Q ∨ r' x xs H Q) := by
  intro pins s σ H x xs v us Q I rx rs q
  rcases q with q | q
  · exact h pins s σ H x xs v us Q I rx rs q
  · exact h' pins s σ H x xs v us Q I rx rs q
/-- a[b] -/
theorem pe_ix {r : R2} (hr : IxR X r) (ha : PE X a ta) (hb : PE X b tb) (hs : PlainIx b) : PE X (.Subscript a b pos) (tOp r ta tb) := by
  intro pins s σ H Q I h
  exact Subscript_ (binT ha hb I h fun v u s2 x y H2 I2 rx ry q => hr a b pins s2 σ H2 x y v u Q I2 rx ry q (hs _ _))

def rIxL (K : PySem.W.Frag) : R2 := fun x y H Q => ∃ p xs i v, x = .ref p ∧ y = .int i ∧ SqL K H p xs ∧ atI xs i = some v ∧ Q v H
def rIxT (K : PySem.W.Frag) : R2 := fun x y H Q => ∃ p xs i v, x = .ref p ∧ y = .int i ∧ SqT K H p xs ∧ atI xs i = some v ∧ Q v H
def rIxS : R2 := fun x y H Q => ∃ z i c, x = .str z ∧ y = .int i ∧ z.length ≤ sizeLine ∧ atI z.cps.toList i = some c ∧ Q (.str ⟨#[c]⟩) H
theorem ix_list : IxR X (rIxL X.K) := by
  intro value slice pins s σ H x y v u Q I rx ry h hs
  obtain ⟨p, xs, i, z, rfl, rfl, hq, he, q⟩ := h
  cases rx
  obtain ⟨t, rfl⟩ := ry
  obtain ⟨its, r, pl, hz⟩ := I.list hq
  obtain ⟨j, h1, h2, h3, h4, h5⟩ := atI_get he
  obtain ⟨w, ew, rw'⟩ := r.get h2
  have hl := r.length
  have hn := line63
  have fin : EP X pins σ Q w s := ⟨z, H, I, rw', q⟩
  by_cases h0 : 0 ≤ i
  · have hj : i.toNat = j := by
      rw [seqIndex_of h0 h5] at h1
      exact Option.some.inj h1
    exact item_listR pl.isList h0 (by omega) (by rw [hj]; simpa using ew) fin hs
  · have hj : (i + (its.toArray.size : Int)).toNat = j := by
      rw [seqIndex_neg (by omega) h4] at h1
      rw [List.size_toArray, ← hl]
      exact Option.some.inj h1
    exact subscriptTail_builtinR (x := w) pl.isList.typeIs slot_list_getitem.lookup
      (wpAny_getItem_list_neg (Q := fun r s' => r = w ∧ EP X pins σ Q r s') pl.isList (by omega) (by rw [List.size_toArray] <;> omega) (by omega) (by rw [hj]; simpa using ew) ⟨rfl, fin⟩) hs
theorem ix_tup : IxR X (rIxT X.K) := by
  intro value slice pins s σ H x y v u Q I rx ry h hs
  obtain ⟨p, xs, i, z, rfl, rfl, hq, he, q⟩ := h
  cases rx
  obtain ⟨t, rfl⟩ := ry
  obtain ⟨its, r, pl, hz⟩ := I.tuple hq
  obtain ⟨j, h1, h2, h3, h4, h5⟩ := atI_get he
  obtain ⟨w, ew, rw'⟩ := r.get h2
  have hl := r.length
  have hn := line63
  have fin : EP X pins σ Q w s := ⟨z, H, I, rw', q⟩
  exact subscriptTail_builtinR (x := w) pl.typeIs slot_tuple_getitem.lookup
    (getItem_tuple (j := j) (Q := fun r s' => r = w ∧ EP X pins σ Q r s') pl (by omega) (by omega) (by rw [List.size_toArray, ← hl]; exact h1) (by simpa using ew) ⟨rfl, fin⟩) hs
theorem ix_str : IxR X rIxS := by
  intro value slice pins s σ H x y v u Q I rx ry h hs
  obtain ⟨z, i, c, rfl, rfl, hz, he, q⟩ := h
  obtain ⟨t, rfl⟩ := rx
  obtain ⟨t', rfl⟩ := ry
  obtain ⟨j, h1, h2, h3, h4, h5⟩ := atI_get he
  have hl : z.cps.toList.length = z.length := by simp [Str.length]
  rw [hl] at h1 h4 h5
  have hn := line63
  exact tail_any (typeIs_str s z t) slot_str_getitem.lookup (getItem_str (c := c) (by
    have e1 : decide (i < -(2 ^ 63 : Int)) = false := decide_eq_false (by omega)
    have e2 : decide (i ≥ 2 ^ 63) = false := decide_eq_false (by omega)
    rw [e1, e2, Bool.or_false]) (by rw [h1]; simpa using h2) ⟨.str ⟨#[c]⟩, H, I.tok _, ⟨_, rfl⟩, q⟩) hs
/-- list, tuple or str -/
def rIx (K : PySem.W.Frag) : R2 := fun x y H Q => rIxL K x y H Q ∨ rIxT K x y H Q ∨ rIxS x y H Q
theorem ix_seq : IxR X (rIx X.K) := ix_list.or (ix_tup.or ix_str)

/-! ### xs[i] = v, any sign -/
/-- the list's object behind a store -/
theorem mapSeq_set (its : List Value) (n j : Nat) (u : Value) : Obj.mapSeq (·.setIfInBounds j u) { cls := .type "list", data := .seq its.toArray n } = { cls := .type "list", data := .seq (its.set j u).toArray n } := by
  simp [Obj.mapSeq]
theorem Inv.lst {pins : List (Addr × Obj)} {σ : St} {H : Hp} {s : Shared} {p : Addr} {xs : List V} (I : Inv X pins σ H s) (h : H p = some (.lst xs)) :
    ∃ (its : List Value) (n : Nat), Vals xs its ∧ s.heap.get? p = some { cls := .type "list", data := .seq its.toArray n } ∧ xs.length ≤ sizeLine := by
  obtain ⟨z, its, n, r, e⟩ := I.hok p _ h
  exact ⟨its, n, r, e, z⟩
/-- the list at p is written by an update of its object -/
theorem Inv.lstUpd {pins : List (Addr × Obj)} {σ : St} {H : Hp} {s : Shared} {p : Addr} {xs ys : List V} {its its' : List Value} {n n' : Nat} {f : Obj → Obj} (I : Inv X pins σ H s) (h : H p = some (.lst xs))
    (ho : s.heap.get? p = some { cls := .type "list", data := .seq its.toArray n }) (hf : f { cls := .type "list", data := .seq its.toArray n } = { cls := .type "list", data := .seq its'.toArray n' }) (r : Vals ys its') (hz : ys.length ≤ sizeLine) (t : Nat) :
    Inv X pins σ (upd H p (.lst ys)) { s with heap := s.heap.update p f, toks := t } := by
  have e : (s.heap.update p f).get? p = some { cls := .type "list", data := .seq its'.toArray n' } := by
    rw [Heap.get?_update_self f ho (by rw [hf] <;> rfl), hf]
  refine I.write (x := p) (e := p) (by rw [h]; trivial) (.inl rfl) (fun b u hb q => (Heap.get?_update_other _ _ (Ne.symm hb)).trans q) ⟨_, e⟩ ?_
  exact ⟨hz, its', n', r, e⟩
def rSetL : V → V → V → Hp → (Hp → Prop) → Prop := fun o i v H Q => ∃ p xs k j, o = .ref p ∧ i = .int k ∧ H p = some (.lst xs) ∧ ixN xs.length k = some j ∧ Q (upd H p (.lst (xs.set j v)))
theorem set_list : PSet X rSetL := by
  intro pins s σ H o i v ov iv u Q I ro ri rv h
  obtain ⟨p, xs, k, j, rfl, rfl, hp, hj, q⟩ := h
  cases ro
  obtain ⟨t, rfl⟩ := ri
  obtain ⟨its, n, r, ho, hz⟩ := I.lst hp
  obtain ⟨h1, h2, h3, h4⟩ := ixN_seq hj
  have hl := r.length
  have hn := line63
  have I' : Inv X pins σ (upd H p (.lst (xs.set j v))) { s with heap := s.heap.update p (Obj.mapSeq (·.setIfInBounds j u)) } :=
    I.lstUpd hp ho (mapSeq_set its n j u) (r.set rv j) (by rw [List.length_set]; exact hz) s.toks
  by_cases h0 : 0 ≤ k
  · have hk : k.toNat = j := by
      rw [seqIndex_of h0 h4] at h1
      exact Option.some.inj h1
    exact PySem.W.ki_setAt ho h0 (by omega) (by rw [List.size_toArray, ← hl]; exact h4) (by rw [hk]; exact ⟨_, I', q⟩)
  · have hk : (k + (its.toArray.size : Int)).toNat = j := by
      rw [seqIndex_neg (by omega) h3] at h1
      rw [List.size_toArray, ← hl]
      exact Option.some.inj h1
    exact PySem.W.ki_setBack ho (by omega) (by rw [List.size_toArray, ← hl]; exact h3) (by omega) (by rw [hk]; exact ⟨_, I', q⟩)

/-! ### slices -/
theorem slice_bounds (lo hi : Option Int) (n : Nat) : (sliceBounds lo hi none n).1 = ((HT.sIx n 0 lo : Nat) : Int) ∧ (sliceBounds lo hi none n).2.1 = ((HT.sIx n n hi : Nat) : Int) ∧ (sliceBounds lo hi none n).2.2 = 1 := by
  refine ⟨?_, ?_, rfl⟩
  · cases lo with
    | none => simp [sliceBounds, HT.sIx]
    | some i =>
      simp only [sliceBounds, HT.sIx, Option.getD_none, show (1 : Int) > 0 by decide, if_true]
      by_cases h : i < 0
      · simp only [h, if_true] <;> omega
      · simp only [h, if_false] <;> omega
  · cases hi with
    | none => simp [sliceBounds, HT.sIx]
    | some i =>
      simp only [sliceBounds, HT.sIx, Option.getD_none, show (1 : Int) > 0 by decide, if_true]
      by_cases h : i < 0
      · simp only [h, if_true] <;> omega
      · simp only [h, if_false] <;> omega
theorem slicePick_cut (its : List Value) (lo hi : Option Int) : slicePick its.toArray lo hi none = ((its.drop (HT.sIx its.length 0 lo)).take (HT.sIx its.length its.length hi - HT.sIx its.length 0 lo)).toArray := by
  obtain ⟨h1, h2, h3⟩ := slice_bounds lo hi its.toArray.size
  unfold slicePick
  rw [h1, h2, h3]
  simp only [sliceRange_one, pick_run, List.size_toArray] <;> rfl
/-- xs[lo:hi] of a list: a new list -/
def rSlL (K : PySem.W.Frag) : V → Option Int → Option Int → Hp → VK → Prop := fun x lo hi H Q => ∃ a xs, x = .ref a ∧ SqL K H a xs ∧ ∀ p, H p = none → Q (.ref p) (upd H p (.lst (cutV xs lo hi)))
theorem sl_list : SlR X (rSlL X.K) := by
  intro pins s σ H x v vl vu lo hi sl Q I rx hs pl pu h
  obtain ⟨a, xs, rfl, hx, q⟩ := h
  cases rx
  obtain ⟨its, r, ht, hz⟩ := I.list hx
  have hlen := r.length
  refine ⟨"list", _, slot_list_getitem.lookup, ht.isList.typeIs, ?_⟩
  refine wpAny_getItem_list_slice ht.isList hs pl pu .none (by simp) ?_ (by rw [List.size_toArray] <;> omega)
  rw [slicePick_cut, ← hlen]
  refine ⟨.ref s.heap.objs.size, _, I.laid (t' := s.toks) (o := .lst (cutV xs lo hi)) (fun b ob q => Heap.get?_push_of_some _ q) (Nat.le_refl _) ?_, rfl, q _ (I.hok.fresh (Nat.le_refl _))⟩
  exact ⟨Nat.le_trans (cutV_length xs lo hi) hz, _, 0, (r.drop (HT.sIx xs.length 0 lo)).take (HT.sIx xs.length xs.length hi - HT.sIx xs.length 0 lo), Heap.get?_push_size _ rfl⟩

/-! ### in, not in: flat items -/
def flatV : V → Bool
  | .non => true
  | .bl _ => true
  | .int _ => true
  | .str _ => true
  | _ => false
/-- == of flat values -/
def eqV : V → V → Bool
  | .non, .non => true
  | .bl a, .bl b => a == b
  | .bl a, .int b => (if a then 1 else 0) == b
  | .int a, .bl b => a == (if b then 1 else 0)
  | .int a, .int b => a == b
  | .str a, .str b => a == b
  | _, _ => false
/-- the items' answers, read off the values (a value's own answer does not lean on its token) -/
def eqU (x : V) (u : Value) : Bool := match u with
  | .none => eqV .non x
  | .bool b => eqV (.bl b) x
  | .int i _ => eqV (.int i) x
  | .str z _ => eqV (.str z) x
  | _ => false
def inV (x : V) (xs : List V) : Bool := xs.any fun y => eqV y x
/-- x in a list or tuple of flat items -/
def rIn (K : PySem.W.Frag) (neg : Bool) : R2 := fun x y H Q => ∃ p xs, y = .ref p ∧ (SqL K H p xs ∨ SqT K H p xs) ∧ flatV x = true ∧ xs.all flatV = true ∧ Q (.bl (if neg then !inV x xs else inV x xs)) H
/-! ### len, list(x), tuple(x) of any list or tuple that is read -/
theorem call_len_seq : CallR X (.builtin "len") (fun xs H Q => ∃ p ys, xs = [.ref p] ∧ (SqL X.K H p ys ∨ SqT X.K H p ys) ∧ Q (.int ys.length) H) := by
  intro pins s σ H xs us Q I r h
  obtain ⟨p, ys, rfl, hq, q⟩ := h
  obtain ⟨u, rfl, rx⟩ := vals1 r
  cases rx
  have hn := line63
  rcases hq with hq | hq
  · obtain ⟨its, r', pl, hz⟩ := I.list hq
    have hlen := r'.length
    exact Calls.call_len_list pl.isList (by simp only [List.size_toArray] <;> omega) ⟨.int ys.length, H, I.tok _, ⟨s.toks + 1, by rw [List.size_toArray, hlen]⟩, q⟩
  · obtain ⟨its, r', pl, hz⟩ := I.tuple hq
    have hlen := r'.length
    exact len_tuple pl (by simp only [List.size_toArray] <;> omega) ⟨.int ys.length, H, I.tok _, ⟨s.toks + 1, by rw [List.size_toArray, hlen]⟩, q⟩
theorem CallR.or {f : Value} {r r' : List V → Hp → VK → Prop} (h : CallR X f r) (h' : CallR X f r') : CallR X f (fun xs H Q => r xs H Q ∨ r' xs H Q) := by
  intro pins s σ H xs us Q I rs q
  rcases q with q | q
  · exact h pins s σ H xs us Q I rs q
  · exact h' pins s σ H xs us Q I rs q
theorem call_list_of : CallR X (.type "list") (fun xs H Q => ∃ p ys, xs = [.ref p] ∧ (SqL X.K H p ys ∨ SqT X.K H p ys) ∧ ∀ l, H l = none → Q (.ref l) (upd H l (.lst ys))) := by
  intro pins s σ H xs us Q I r h
  obtain ⟨p, ys, rfl, hq, q⟩ := h
  obtain ⟨u, rfl, rx⟩ := vals1 r
  cases rx
  have fin : ∀ (its : List Value), Vals ys its → ys.length ≤ sizeLine → ∀ (h' : Heap) (c' : Nat), (∀ b o', s.heap.get? b = some o' → h'.get? b = some o') →
      h'.get? s.heap.objs.size = some { cls := .type "list", dict := none, data := .seq its.toArray c', slots := #[] } → EP X pins σ Q (.ref s.heap.objs.size) { s with heap := h' } := fun its r' hz h' c' kp e =>
    ⟨.ref s.heap.objs.size, _, I.laid (t' := s.toks) kp (Nat.le_refl _) (show ObjOk X.prog X.w _ h' _ (.lst ys) from ⟨hz, its, c', r', e⟩), rfl, q _ (I.hok.fresh (Nat.le_refl _))⟩
  rcases hq with hq | hq
  · obtain ⟨its, r', pl, hz⟩ := I.list hq
    have hlen := r'.length
    obtain ⟨o, ho, hc, n, hd⟩ := pl.isList
    exact call_list_seq p (.inl rfl) ho hc hd (fun h' c' kp e => fin its r' hz h' c' kp e) (by simp only [List.size_toArray] <;> omega)
  · obtain ⟨its, r', pl, hz⟩ := I.tuple hq
    have hlen := r'.length
    obtain ⟨o, ho, hc, n, hd⟩ := pl
    exact call_list_seq p (.inr rfl) ho hc hd (fun h' c' kp e => fin its r' hz h' c' kp e) (by simp only [List.size_toArray] <;> omega)
theorem call_tuple_of : CallR X (.type "tuple") (fun xs H Q => ∃ p ys, xs = [.ref p] ∧ ((SqL X.K H p ys ∧ ∀ l, H l = none → Q (.ref l) (upd H l (.tup ys))) ∨ (SqT X.K H p ys ∧ Q (.ref p) H))) := by
  intro pins s σ H xs us Q I r h
  obtain ⟨p, ys, rfl, h⟩ := h
  obtain ⟨u, rfl, rx⟩ := vals1 r
  cases rx
  rcases h with ⟨hq, q⟩ | ⟨hq, q⟩
  · obtain ⟨its, r', pl, hz⟩ := I.list hq
    have hlen := r'.length
    refine call_tuple_list pl.isList (fun h' kp => ?_) (by simp only [List.size_toArray] <;> omega)
    have I1 : Inv X pins σ H { s with heap := h' } := I.kept (t' := s.toks) kp
    have I2 : Inv X pins σ (upd H h'.objs.size (.tup ys)) { s with heap := h'.push { cls := .type "tuple", data := .seq its.toArray } } :=
      I1.laid (t' := s.toks) (fun b o e => Heap.get?_push_of_some _ e) (Nat.le_refl _) (show ObjOk X.prog X.w _ _ _ (.tup ys) from ⟨hz, its, r', IsTup.new _ _⟩)
    exact ⟨.ref h'.objs.size, _, I2, rfl, q _ (I1.hok.fresh (Nat.le_refl _))⟩
  · obtain ⟨its, r', pl, hz⟩ := I.tuple hq
    exact call_tuple_same pl ⟨.ref p, H, I, rfl, q⟩

/-! ### the call of a builtin's method: o.m(..) -/
/-- the value is of that builtin type -/
def tyV (K : PySem.W.Frag) (T : String) (x : V) (H : Hp) : Prop := match x with
  | .str _ => T = "str"
  | .int _ => T = "int"
  | .ref p => (T = "list" ∧ ∃ xs, SqL K H p xs) ∨ (T = "tuple" ∧ ∃ o, K.lookup p = some o ∧ o.cls = .type "tuple" ∧ o.dict = none) ∨
      (T = "dict" ∧ ((∃ kvs, H p = some (.dK kvs)) ∨ ∃ kvs, H p = some (.dT kvs))) ∨ (T = "set" ∧ ∃ S n, H p = some (.set S n))
  | _ => False
theorem tyV_is {pins : List (Addr × Obj)} {σ : St} {H : Hp} {s : Shared} {T : String} {x : V} {v : Value} (I : Inv X pins σ H s) (r : RelV x v) (ty : tyV X.K T x H) :
    s.TypeIs v T ∧ ∀ a, v = .ref a → ∃ ob, s.heap.get? a = some ob ∧ ob.dict = none := by
  cases x with
  | str z =>
    obtain ⟨t, rfl⟩ := r
    cases (show T = "str" from ty)
    exact ⟨typeIs_str s z t, fun _ e => nomatch e⟩
  | int i =>
    obtain ⟨t, rfl⟩ := r
    cases (show T = "int" from ty)
    exact ⟨typeIs_int s i t, fun _ e => nomatch e⟩
  | ref p =>
    cases r
    rcases ty with ⟨rfl, xs, hq⟩ | ⟨rfl, o, hk, hc, hd⟩ | ⟨rfl, hk⟩ | ⟨rfl, S, n, hk⟩
    · obtain ⟨its, _, pl, _⟩ := I.list hq
      refine ⟨pl.isList.typeIs, fun a e => ?_⟩
      cases e
      obtain ⟨o, n, e, c, hd, _⟩ := pl
      exact ⟨o, e, hd⟩
    · refine ⟨⟨o, I.kIn p o hk, hc⟩, fun a e => ?_⟩
      cases e
      exact ⟨o, I.kIn _ o hk, hd⟩
    · have z : ∃ o, s.heap.get? p = some o ∧ o.ExactDict := by
        rcases hk with ⟨kvs, hk⟩ | ⟨kvs, hk⟩
        · obtain ⟨_, _, _, _, o, _, _, e, ex, _⟩ := I.hok p _ hk
          exact ⟨o, e, ex⟩
        · obtain ⟨_, _, _, _, o, _, _, e, ex, _⟩ := I.hok p _ hk
          exact ⟨o, e, ex⟩
      obtain ⟨o, e, ex⟩ := z
      refine ⟨⟨o, e, ex.1⟩, fun a e2 => ?_⟩
      cases e2
      exact ⟨o, e, ex.2.1⟩
    · obtain ⟨o, _, _, _, e, ex, _⟩ := I.hok p _ hk
      refine ⟨⟨o, e, ex.1⟩, fun a e2 => ?_⟩
      cases e2
      exact ⟨o, e, ex.2.1⟩
  | _ => exact False.elim ty
def tBM0 (K : PySem.W.Frag) (T : String) (r : V → List V → Hp → VK → Prop) (to : TE) : TE := fun σ H Q => to σ H fun x H1 => tyV K T x H1 ∧ r x [] H1 Q
def tBM (K : PySem.W.Frag) (T : String) (r : V → List V → Hp → VK → Prop) (to : TE) (t : TA) : TE := fun σ H Q => to σ H fun x H1 => tyV K T x H1 ∧ t σ H1 fun xs H2 => r x xs H2 Q
variable {o e : Expr} {es : List Expr} {to : TE} {t : TA} {name : Str} {apos cpos : Pos} {T id : String} {r : V → List V → Hp → VK → Prop}
theorem pe_bm0 (pa : PlainAttrs T) (slot : Slot T name id) (hty : typeOf (.builtin id) = pure (.type "method_descriptor")) (hm : MtR X id r) (ho : PE X o to)
    (hbase : attributeBase o name X.env (eval o X.env) = eval o X.env := by rfl) (hline : (apos.endLine == cpos.line) = true := by rfl) : PE X (.Call (.Attribute o name apos) [] [] cpos) (tBM0 X.K T r to) := by
  intro pins s σ H Q I h
  refine wpAny_Call_method0_late hbase hline (thn (ho pins s σ H _ I h) fun v s1 ⟨x, H1, I1, r1, ty, q1⟩ => ?_)
  obtain ⟨h1, h2⟩ := tyV_is I1 r1 ty
  exact ⟨T, id, pa, slot, hty, h1, h2, Calls.callWith_builtin rfl (PySem.evalArgs_none (hm pins s1 σ H1 x [] v [] Q I1 r1 .nil q1))⟩
theorem pe_bm (pa : PlainAttrs T) (slot : Slot T name id) (hty : typeOf (.builtin id) = pure (.type "method_descriptor")) (hm : MtR X id r) (ho : PE X o to) (ha : PA X (e :: es) t)
    (hbase : attributeBase o name X.env (eval o X.env) = eval o X.env := by rfl)
    (hfew : ((backTo cpos (starEach (e :: es) X.env)).all (fun x => !x.1) && (backToKw cpos (keywordEach [] X.env)).all (fun x => x.1.isSome)
      && decide ((e :: es).length + ([] : List Keyword).length + (if ([] : List Keyword).isEmpty then 0 else 1) < 30)) = true := by rfl)
    (hline : (apos.endLine == cpos.line) = true := by rfl) (hs : starEach (e :: es) X.env = (false, eval e X.env) :: starEach es X.env := by rfl) (hplain : (backTo cpos (starEach es X.env)).any (·.1) = false := by rfl) :
    PE X (.Call (.Attribute o name apos) (e :: es) [] cpos) (tBM X.K T r to t) := by
  intro pins s σ H Q I h
  refine wpAny_Call_method_late hbase hfew hline rfl (thn (ho pins s σ H _ I h) fun v s1 ⟨x, H1, I1, r1, ty, q1⟩ => ?_)
  obtain ⟨h1, h2⟩ := tyV_is I1 r1 ty
  refine ⟨T, id, pa, slot, hty, h1, h2, ?_⟩
  have hA := ha cpos pins s1 σ H1 _ I1 q1
  rw [hs] at hA ⊢
  refine Calls.callWith_builtin (by show (false || (backTo cpos (starEach es X.env)).any (·.1)) = false; rw [hplain] <;> rfl) (Calls.evalArgs_plain ?_)
  exact thn hA fun us s2 ⟨vs, H2, I2, r2, q2⟩ => hm pins s2 σ H2 x vs v us Q I2 r1 r2 q2
/- xs.append(e), list.index on a module's tuple .. are MtR facts of 06m -/
end
end L2

namespace L2
open PySem PySem.Spec PyProof.Rows

def MtM (X : Cx) (id : String) (r : V → List V → Hp → VK → Prop) : Prop :=
  ∀ (pins : List (Addr × Obj)) (s : Shared) (σ : St) (H : Hp) (x : V) (xs : List V) (v : Value) (us : List Value) (Q : VK), Inv X pins σ H s → RelV x v → Vals xs us → r x xs H Q →
    wpAny (model X.prog X.w) X.A (call (.builtin id) (v :: us)) (EP X pins σ Q) X.xe s

/-! ### lists of values -/
theorem Vals.one : ∀ {x : V} {us : List Value}, Vals [x] us → ∃ u, us = [u] ∧ RelV x u
  | _, _, .cons r .nil => ⟨_, rfl, r⟩
theorem Vals.two : ∀ {x y : V} {us : List Value}, Vals [x, y] us → ∃ u v, us = [u, v] ∧ RelV x u ∧ RelV y v
  | _, _, _, .cons r (.cons q .nil) => ⟨_, _, rfl, r, q⟩
theorem Vals.zero : ∀ {us : List Value}, Vals [] us → us = []
  | _, .nil => rfl
theorem Vals.dropLast {xs : List V} {us : List Value} (h : Vals xs us) : Vals xs.dropLast us.dropLast := by
  induction h with
  | nil => exact .nil
  | cons r t ih =>
    cases t with
    | nil => exact .nil
    | cons q t' => exact .cons r ih
theorem Vals.eraseIdx : ∀ {xs : List V} {us : List Value} (i : Nat), Vals xs us → Vals (xs.eraseIdx i) (us.eraseIdx i)
  | _, _, _, .nil => .nil
  | _, _, 0, .cons _ t => t
  | _, _, i + 1, .cons r t => .cons r (Vals.eraseIdx i t)
theorem Vals.reverse {xs : List V} {us : List Value} (h : Vals xs us) : Vals xs.reverse us.reverse := by
  induction h with
  | nil => exact .nil
  | cons r t ih => rw [List.reverse_cons, List.reverse_cons]; exact Vals.append ih (.cons r .nil)
theorem erase_last {α : Type} (l : List α) : l.eraseIdx (l.length - 1) = l.dropLast := by
  induction l with
  | nil => rfl
  | cons a r ih =>
    cases r with
    | nil => rfl
    | cons b r =>
      have e : (a :: b :: r).length - 1 = ((b :: r).length - 1) + 1 := by
        have h1 : (a :: b :: r).length = r.length + 2 := rfl
        have h2 : (b :: r).length = r.length + 1 := rfl
        omega
      rw [e, List.eraseIdx_cons_succ, ih]
      all_goals rfl
section
variable {X : Cx} {pins : List (Addr × Obj)} {σ : St} {H : Hp} {s : Shared} {l b : Addr} {xs ys zs : List V}

/-! ### the two steps: a tracked list is rewritten, a new list is laid -/
theorem Inv.lset {its its' : List Value} {n : Nat} {f : Array Value → Array Value} {t' : Nat} (I : Inv X pins σ H s) (hH : H l = some (.lst xs))
    (e : s.heap.get? l = some { cls := .type "list", data := .seq its.toArray n }) (hf : f its.toArray = its'.toArray) (hv : Vals ys its') (hz : ys.length ≤ sizeLine) :
    Inv X pins σ (upd H l (.lst ys)) { s with heap := s.heap.update l (Obj.mapSeq f), toks := t' } := by
  have q := PySem.IsL.update e f
  rw [hf] at q
  refine I.write (x := l) (e := l) (by rw [hH]; exact trivial) (.inl rfl) (fun b' u hb hu => (Heap.get?_update_other s.heap (Obj.mapSeq f) (Ne.symm hb)).trans hu) ⟨_, q⟩ ?_
  exact ⟨hz, its', _, hv, q⟩
theorem Inv.lnew {its : List Value} {t' : Nat} (I : Inv X pins σ H s) (hv : Vals ys its) (hz : ys.length ≤ sizeLine) :
    Inv X pins σ (upd H s.heap.objs.size (.lst ys)) { s with heap := s.heap.push { cls := .type "list", data := .seq its.toArray }, toks := t' } :=
  I.laid (fun _ _ q => Heap.get?_push_of_some _ q) (Nat.le_refl _) ⟨hz, its, 0, hv, Heap.get?_push_size _ rfl⟩
theorem Inv.fresh (I : Inv X pins σ H s) : H s.heap.objs.size = none := I.hok.fresh (Nat.le_refl _)
theorem Inv.lstM (I : Inv X pins σ H s) (hH : H l = some (.lst xs)) : xs.length ≤ sizeLine ∧ ∃ (its : List Value) (n : Nat), Vals xs its ∧ xs.length = its.length ∧ s.heap.get? l = some { cls := .type "list", data := .seq its.toArray n } := by
  obtain ⟨z, its, n, r, e⟩ := I.hok l _ hH
  exact ⟨z, its, n, r, r.length, e⟩

theorem notLongL {n : Nat} (h : n ≤ sizeLine) : Builtin.List.listTooLong n = false := by
  unfold Builtin.List.listTooLong
  exact decide_eq_false (by omega)
end

section
variable {X : Cx}

/-! ### methods -/
def rAppend : V → List V → Hp → VK → Prop := fun x vs H Q => ∃ l xs y, x = .ref l ∧ vs = [y] ∧ H l = some (.lst xs) ∧ xs.length < sizeLine ∧ Q .non (upd H l (.lst (xs ++ [y])))
theorem mt_append : MtM X "list.append" rAppend := by
  intro pins s σ H x vs v us Q I rx rv h
  obtain ⟨l, xs, y, rfl, rfl, hH, hz, q⟩ := h
  cases rx
  obtain ⟨u, rfl, ru⟩ := rv.one
  obtain ⟨z, its, n, r, hl, e⟩ := I.lstM hH
  refine call_meets F.slot_list_append ⟨_, e, rfl⟩ F.entry_list_append (F.args_list_append_2 _ _) (PySem.list_append l its.toArray n u (by rw [List.size_toArray]; omega)) ⟨e, ?_⟩
  refine ⟨.non, _, I.lset (its' := its ++ [u]) hH e (by simp) (r.append (.cons ru .nil)) ?_, rfl, q⟩
  rw [List.length_append, List.length_singleton]
  omega

def rExtend : V → List V → Hp → VK → Prop := fun x vs H Q => ∃ l b xs zs, x = .ref l ∧ vs = [.ref b] ∧ H l = some (.lst xs) ∧ H b = some (.lst zs) ∧ xs.length + zs.length ≤ sizeLine ∧ Q .non (upd H l (.lst (xs ++ zs)))
theorem mt_extend : MtM X "list.extend" rExtend := by
  intro pins s σ H x vs v us Q I rx rv h
  obtain ⟨l, b, xs, zs, rfl, rfl, hH, hB, hz, q⟩ := h
  cases rx
  obtain ⟨u, rfl, ru⟩ := rv.one
  cases ru
  obtain ⟨z, its, n, r, hl, e⟩ := I.lstM hH
  obtain ⟨z2, its2, n2, r2, hl2, e2⟩ := I.lstM hB
  have hsz : its.toArray.size + its2.toArray.size ≤ sizeLine := by rw [List.size_toArray, List.size_toArray]; omega
  have hlong : ¬ (!its.toArray.isEmpty && Builtin.List.listTooLong (its.toArray.size + its2.toArray.size)) = true := by
    rw [notLongL hsz, Bool.and_false]
    exact Bool.false_ne_true
  refine call_meets F.slot_list_extend ⟨_, e, rfl⟩ F.entry_list_extend (F.args_list_extend_2 _ _)
    (AutoSeq1.list_extend_list_list_0 l its.toArray n b its2.toArray n2 hlong (by rw [List.size_toArray]; omega) (by omega)) ⟨e, e2, ?_⟩
  refine ⟨.non, _, I.lset (its' := its ++ its2) hH e (by simp) (r.append r2) ?_, rfl, q⟩
  rw [List.length_append]
  omega

def rPop : V → List V → Hp → VK → Prop := fun x vs H Q => ∃ l xs y, x = .ref l ∧ vs = [] ∧ H l = some (.lst xs) ∧ xs[xs.length - 1]? = some y ∧ Q y (upd H l (.lst xs.dropLast))
theorem mt_pop : MtM X "list.pop" rPop := by
  intro pins s σ H x vs v us Q I rx rv h
  obtain ⟨l, xs, y, rfl, rfl, hH, hy, q⟩ := h
  cases rx
  have hus := rv.zero
  subst hus
  obtain ⟨z, its, n, r, hl, e⟩ := I.lstM hH
  obtain ⟨u, hu, ru⟩ := r.get hy
  have hy' : its.toArray[its.toArray.size - 1]? = some u := by
    show its.toArray[its.length - 1]? = some u
    rw [← Array.getElem?_toList, ← hl]
    exact hu
  refine call_meets F.slot_list_pop ⟨_, e, rfl⟩ F.entry_list_pop (F.args_list_pop_1 _) (MeetsSeq.list_pop_last l its.toArray n u hy' (by rw [List.size_toArray]; omega)) ⟨e, ?_⟩
  refine ⟨y, _, I.lset (its' := its.dropLast) hH e ?_ r.dropLast ?_, ru, q⟩
  · show its.toArray.eraseIdxIfInBounds (its.toArray.size - 1) = its.dropLast.toArray
    rw [List.size_toArray, List.eraseIdxIfInBounds_toArray, erase_last]
  · rw [List.length_dropLast]
    omega

def rPopAt : V → List V → Hp → VK → Prop := fun x vs H Q => ∃ l xs i k y, x = .ref l ∧ vs = [.int i] ∧ H l = some (.lst xs) ∧ -(2 ^ 63) ≤ i ∧ i < 2 ^ 63 ∧ seqIndex? i xs.length = some k ∧ xs[k]? = some y ∧ Q y (upd H l (.lst (xs.eraseIdx k)))
def rReverse : V → List V → Hp → VK → Prop := fun x vs H Q => ∃ l xs, x = .ref l ∧ vs = [] ∧ H l = some (.lst xs) ∧ Q .non (upd H l (.lst xs.reverse))
def rClear : V → List V → Hp → VK → Prop := fun x vs H Q => ∃ l xs, x = .ref l ∧ vs = [] ∧ H l = some (.lst xs) ∧ Q .non (upd H l (.lst []))
theorem mt_clear : MtM X "list.clear" rClear := by
  intro pins s σ H x vs v us Q I rx rv h
  obtain ⟨l, xs, rfl, rfl, hH, q⟩ := h
  cases rx
  have hus := rv.zero
  subst hus
  obtain ⟨z, its, n, r, hl, e⟩ := I.lstM hH
  refine call_meets F.slot_list_clear ⟨_, e, rfl⟩ F.entry_list_clear (F.args_list_clear_1 _) (AutoSeq1.list_clear_list_0 l its.toArray n (by rw [List.size_toArray]; omega)) ⟨e, ?_⟩
  exact ⟨.non, _, I.lset (its' := []) (ys := []) hH e rfl .nil (Nat.zero_le _), rfl, q⟩

/-! ### list + list, list += list, list * int -/
def rCat : R2 := fun x y H Q => ∃ l b xs zs, x = .ref l ∧ y = .ref b ∧ H l = some (.lst xs) ∧ H b = some (.lst zs) ∧ xs.length + zs.length ≤ sizeLine ∧ ∀ p, H p = none → Q (.ref p) (upd H p (.lst (xs ++ zs)))
theorem op_cat : OpR X (binaryOp .Add) rCat := by
  intro pins s σ H x y v u Q I rx ry h
  obtain ⟨l, b, xs, zs, rfl, rfl, hH, hB, hz, q⟩ := h
  cases rx
  cases ry
  obtain ⟨z, its, n, r, hl, e⟩ := I.lstM hH
  obtain ⟨z2, its2, n2, r2, hl2, e2⟩ := I.lstM hB
  refine PySem.P.add_list e e2 ?_ (by rw [List.size_toArray, List.size_toArray]; omega)
  have ea : its.toArray ++ its2.toArray = (its ++ its2).toArray := by simp
  rw [ea]
  exact ⟨.ref _, _, I.lnew (t' := s.toks) (r.append r2) (by rw [List.length_append]; omega), rfl, q _ I.fresh⟩
/-- a list times an int (a negative one is nothing) -/
def rRep : R2 := fun x y H Q => ∃ l k xs, x = .ref l ∧ y = .int k ∧ H l = some (.lst xs) ∧ -(2 ^ 63) ≤ k ∧ k < 2 ^ 63 ∧ xs.length * k.toNat ≤ sizeLine ∧
  ∀ p, H p = none → Q (.ref p) (upd H p (.lst (List.replicate k.toNat xs).flatten))
/-! ### del xs[i] -/
end

/-! ### xs[a:b] = ys -/
section
variable {prog : Program} {w : World} {A : Around} {E : Value → Shared → Prop} {s : Shared}
set_option maxRecDepth 100000 in
end

section
variable {X : Cx}
end
end L2

namespace Att
open PySem PySem.W PySem.Calls PyProof.Rows

/-! ### the script -/
theorem ints_of_wellAll {P : Params} {h : Heap} : ∀ (ns : List Int) (vs : List Value), WellAll P h vs (ns.map WData.int) → IntsAre vs ns := by
  intro ns
  induction ns with
  | nil =>
    intro vs w
    rw [List.map_nil] at w
    cases w
    exact .nil
  | cons n ns ih =>
    intro vs w
    rw [List.map_cons] at w
    cases w with
    | cons a b =>
      cases a
      exact .cons _ _ (ih _ b)

theorem script_of {l : OpenLaw} {n : Nat} (hn : l.most = some n) {P : Params} {h : Heap} {args : List WData} {vals : List Value}
    (hpre : l.row.toRowW.claim.pre args = true) (hwl : WellAll P h vals args) :
    ∃ a vs ns, vals = [Value.ref a] ∧ args = [WData.list (ns.map WData.int)] ∧ h.get? a = some { cls := .type "list", data := .seq vs.toArray } ∧ IntsAre vs ns ∧ ns.length ≤ n := by
  have hsh : WShape.hasAll [] args [.list .int] = true := (pre_splitW hpre).1
  have hc : l.pre.holds [] { args := args } = true := (pre_splitW hpre).2
  obtain ⟨d, r, rfl, h1, h2⟩ := hasAllW_cons hsh
  obtain rfl := hasAllW_nil h2
  obtain ⟨xs, rfl, h3⟩ := hasW_list h1
  obtain ⟨ns, rfl⟩ := items_int h3
  have hlen : ns.length ≤ n := by
    unfold OpenLaw.pre at hc
    have h4 : (WTm.not (.lt (.lit (.int (n : Int))) (.len (.arg 0)))).holds [] { args := [.list (ns.map .int)] } = true := by
      have h4 := (holds_andW hc).1
      rw [hn] at h4
      exact h4
    have h5 := condW_of h4 (w_not (w_lt w_lit (w_len_list (w_arg rfl))))
    rw [List.length_map] at h5
    refine Nat.le_of_not_lt fun q => ?_
    have q' : (n : Int) < ((ns.length : Nat) : Int) := by omega
    first
      | (rw [decide_eq_true q'] at h5; exact absurd h5 (by decide))
      | (simp at h5; omega)
  cases hwl with
  | cons w1 w2 =>
    cases w2
    cases w1 with
    | list ho hall => exact ⟨_, _, ns, rfl, rfl, ho, ints_of_wellAll ns _ hall, hlen⟩

theorem post_true (l : OpenLaw) (args : List WData) : l.row.toRowW.claim.post args (.bool true) args = true :=
  postW_of (r := l.row.toRowW) (X := (true == true))
    (show WShape.has [] (.bool true) .bool = true by first | rfl | decide | simp [WShape.has, WShape.arms, WShape.armsAll])
    (show (WTm.eq .res (.lit (.bool true))).value [] { args := args, res := some (.bool true), after := args } = some (.bool (true == true)) from w_eq_bool (w_res rfl) w_lit) rfl

/-! ### the attachment: holds_open's last premise (the goal 'hc' behind k_head) from a wpAny of the law's body -/
/-- the same from a codeAny of the CALL (for a layer whose function contracts speak of calls) -/
theorem attach_call {l : OpenLaw} {n : Nat} {q : Program} {loose : List Str} {XP : (Str → Option Value) → Heap → Prop} {YP : World → Heap → Prop} {d : DefRec}
    (hn : l.most = some n) (hdf : d.params.defaults = [])
    (call : ∀ (w : World) (s₀ s₁ : Shared) (mg mb : Str → Option Value) (fa : Addr) (o : Obj) (pm cd doc : Value) (a : Addr) (vs : List Value) (ns : List Int),
      Ground q loose [] XP w s₀ mg mb s₁.heap → YP w s₁.heap →
      s₁.heap.get? fa = some o → o.data = .func (docDef d.name d.params d.body d.scope pm cd doc) → s₁.heap.CodeRec cd d.name → mg d.name = some (.ref fa) →
      s₁.heap.get? a = some { cls := .type "list", data := .seq vs.toArray } → IntsAre vs ns → ns.length ≤ n → s₁.gens = #[] →
      codeAny (model l.prog w) callerA (.call (.ref fa) ⟨[.ref a], []⟩) (fun r s' => r = .ok (.ret (.bool true)) ∧ OldK s₁.heap s'.heap ∧ s'.os = s₁.os ∧ AllBare s'.gens) s₁) :
    WalkO q loose XP YP l.row.toRowW d [] (fun f vs => PySem.call f vs) := by
  intro w s₀ s₁ mg mb G Y fa o pm cd doc dV kV ho hd hcd hD hmg hg args vals as hpre hlay hrd hwl hlo
  obtain rfl : dV = .none := Dflts.none hD hdf
  obtain rfl : kV = .none := Dflts.noKw hD
  obtain ⟨a, vs, ns, rfl, rfl, hobj, hints, hlen⟩ := script_of hn hpre hwl
  refine enter_call (codeAny_mono (call w s₀ s₁ mg mb fa o pm cd doc a vs ns G Y ho (fd_plain hd) hcd hmg hobj hints hlen hg) fun r s' hq => ?_)
  obtain ⟨rfl, h2, h3, h4⟩ := hq
  exact ⟨.inl ⟨.bool true, .bool true, [], rfl, fun _ => rfl, .bool true, post_true l _, fun _ => ⟨List.Pairwise.nil, fun _ hm => (nomatch hm)⟩⟩, h2, h3, h4⟩

/-! ### rules over ANY heap (no ledger) from facts about the written part K: the library's own take a ledger (News) for what they write -/
section
variable {prog : Program} {w : World} {A : Around} {E : Value → Shared → Prop} {s : Shared} {K : Frag}

/-! the whole heap as the ledger: makes every rule that writes through a ledger a rule over any heap -/
def noObjs (h : Heap) : Heap := { h with objs := #[] }
def ledger (h : Heap) (L d : Addr) : List (Addr × Obj) := (List.range h.objs.size).filterMap fun a => if a = L ∨ a = d then none else (h.get? a).map fun o => (a, o)
end
end Att

namespace L2
open PySem PySem.Spec PyProof.Rows

theorem vals_ints : ∀ {vs : List Value} {ns : List Int}, IntsAre vs ns → Vals (ns.map V.int) vs
  | _, _, .nil => .nil
  | _, _, .cons n t h => .cons ⟨t, rfl⟩ (vals_ints h)

/-- nothing is tracked but the script, known to the object (or it is an object of the module) -/
def Only (H : Hp) : Prop := ∀ b, H b = none ∨ ∃ o xs, H b = some (.frz o (.lst xs))

/-- THE HEAD: the law's promise, at the heap behind the top. F, the promise of the law's def, may use that base is part of the heap (so K.In base, base.Ns mainGlobals mg stand in Mod) -/
theorem law_call {P : Program} {w : World} {K : PySem.W.Frag} {mg mb : Str → Option Value} {CX : CXT} {k : Nat} {fa a : Addr} {fd : FuncData} {x : Str} {sp : Sp} {s₁ : Shared} {vs : List Value} {ns : List Int}
    (KX : K.In s₁.heap) (hns : s₁.heap.Ns mainGlobals mg) (hb : s₁.heap.Ns builtinsNs mb) (hbb : ∀ x : Str, x ≠ "__name__" → mb x = bootBuiltins x) (hlim : s₁.heap.NoLimit) (hg : s₁.gens = #[])
    (ha : s₁.heap.get? a = some { cls := .type "list", data := .seq vs.toArray }) (hi : IntsAre vs ns) (hl : ns.length ≤ sizeLine) (hr : Room k callerA)
    (F : ∀ base : Heap, K.In base → base.Ns mainGlobals mg → FnOk P w K mg base CX k fa fd [x] sp) (hbind : ∀ (s : Shared) (u : Value), BindsTo s fd ⟨[u], []⟩ [(x, u)])
    (hsp : ∀ H : Hp, Only H → SqL K H a (ns.map V.int) → sp [.ref a] H (fun v _ => v = .bl true) fun _ _ _ => False)
    (hCX : ∀ H e s', CX [] H s₁ (fun _ _ _ => False) e s' → False) :
    codeAny (model P w) callerA (.call (.ref fa) ⟨[.ref a], []⟩) (fun r s' => r = .ok (.ret (.bool true)) ∧ OldK s₁.heap s'.heap ∧ s'.os = s₁.os ∧ AllBare s'.gens) s₁ := by
  have rv := vals_ints hi
  have lenV := hi.length
  -- from an abstract heap in which nothing but the script may be tracked
  have core : ∀ H : Hp, Only H → SqL K H a (ns.map V.int) → HOk P w H s₁.heap → (∀ b, H b ≠ none → b = a) → (H a ≠ none → K.lookup a = none) →
      codeAny (model P w) callerA (.call (.ref fa) ⟨[.ref a], []⟩) (fun r s' => r = .ok (.ret (.bool true)) ∧ OldK s₁.heap s'.heap ∧ s'.os = s₁.os ∧ AllBare s'.gens) s₁ := by
    intro H hO hS hok hA hK
    have base_of : ∀ {b : Addr} {o : Obj}, s₁.heap.get? b = some o → H b = none → (hidT s₁.heap H).get? b = some o := fun e n => hidT_get e n
    have noA : ∀ {b : Addr} {o : Obj} {es : Array DictEntry} {ep : Nat}, s₁.heap.get? b = some o → o.data = .dict es ep → H b = none := fun {b o es ep} e d => by
      cases q : H b with
      | none => rfl
      | some u =>
        have e' : b = a := hA b (by rw [q]; simp)
        subst e'
        rw [ha] at e; cases e
        have d' : Data.seq vs.toArray _ = Data.dict es ep := d
        cases d'
    have nsK : ∀ {b : Addr} {m : Str → Option Value}, s₁.heap.Ns b m → (hidT s₁.heap H).Ns b m := fun {b m} ⟨o, es, ep, e, d, r⟩ => ⟨o, es, ep, base_of e (noA e d), d, r⟩
    have hKb : K.In (hidT s₁.heap H) := fun b o e => base_of (KX b o e) (by
      cases q : H b with
      | none => rfl
      | some u =>
        have e' : b = a := hA b (by rw [q]; simp)
        subst e'
        rw [hK (by rw [q]; simp)] at e; cases e)
    have hM : Mod K mg (hidT s₁.heap H) := ⟨hKb, nsK hns, ⟨mb, nsK hb, hbb⟩, let ⟨mc, h1, h2⟩ := hlim; ⟨mc, nsK h1, h2⟩⟩
    have e0 : Env0 P w K mg (hidT s₁.heap H) callerA [] s₁ H := ⟨rfl, hM, fun b o e => of_hidT e, Nat.le_of_eq (hidT_size _ _), trivial, fun b hb => absurd (show b ∈ ([] : List Addr) from hb) (by simp), hok, .of_eq hg⟩
    refine codeAny_mono ((F _ hKb (nsK hns)).run callerA [] s₁ H ⟨[.ref a], []⟩ [.ref a] [.ref a] _ _ hr e0 (hbind s₁ (.ref a)) (.cons rfl .nil) (hsp H hO hS)) fun r s' h => ?_
    cases r with
    | error e => exact (hCX H e s' h).elim
    | ok fl =>
      cases fl with
      | next => exact False.elim h
      | brk => exact False.elim h
      | cont => exact False.elim h
      | ret u =>
        obtain ⟨v, H', os, bare, un, hok', r', q⟩ := h
        have q' : v = .bl true := q
        subst q'
        obtain rfl : u = Value.bool true := r'
        refine ⟨rfl, OldK.of_keep fun b o e => ?_, os, bare⟩
        cases q : H b with
        | none => exact un.keep b o e q (by intro z; exact absurd (show b ∈ ([] : List Addr) from z) (by simp)) (by simp)
        | some u =>
          rcases hO b with z | ⟨ob, xs, z⟩
          · rw [q] at z; cases z
          · have z2 := un.frzs b ob _ z
            obtain ⟨e1, _⟩ := hok b _ z
            obtain ⟨e2, _⟩ := hok' b _ z2
            rw [e] at e1; cases e1
            exact e2
  cases hk : K.lookup a with
  | some o =>
    -- the script is one of the module's own objects
    have e := KX a o hk
    rw [ha] at e
    cases e
    refine core (fun _ => none) (fun _ => .inl rfl) (.inr ⟨_, vs.toArray, _, hk, rfl, rfl, rfl, by rw [List.size_toArray, lenV]; exact hl, by simpa using rv⟩) (fun b u z => by have z' : (none : Option HO) = some u := z; cases z') (fun b z => absurd rfl z) fun z => absurd rfl z
  | none =>
    refine core (fun b => if b = a then some (.frz { cls := .type "list", data := .seq vs.toArray } (.lst (ns.map V.int))) else none) (fun b => ?_) (.inl (.inr ⟨{ cls := .type "list", data := .seq vs.toArray }, if_pos rfl⟩)) (fun b u z => ?_) (fun b z => ?_) fun _ => hk
    · by_cases hb : b = a
      · exact .inr ⟨_, _, if_pos hb⟩
      · exact .inl (if_neg hb)
    · by_cases hb : b = a
      · have z' := (if_pos hb).symm.trans z
        cases z'
        subst hb
        exact ⟨ha, by rw [List.length_map]; exact hl, vs, _, rv, ha⟩
      · have z' := (if_neg hb).symm.trans z
        cases z'
    · by_cases hb : b = a
      · exact hb
      · exact absurd (if_neg hb) z
end L2

namespace L2
open PySem PySem.Spec PyProof.Rows

abbrev KOf {K : PySem.W.Frag} {h : Heap} (_ : K.In h) : PySem.W.Frag := K

/-- the goal that k_head leaves (case hc), from the law's promise. F gives the function object fd (K's own) once, then the promise over every base -/
theorem walk_of {l : PySem.W.OpenLaw} {n k : Nat} {q : Program} {loose : List Str} {XP : (Str → Option Value) → Heap → Prop} {YP : World → Heap → Prop} {d : DefRec} {K : Params → PySem.W.Frag} {CX : World → CXT} {sp : World → Sp} {x : Str}
    (hn : l.most = some n) (hn2 : n ≤ sizeLine) (hdf : d.params.defaults = []) (hr : Room k callerA)
    (hY : ∀ (w : World) (h : Heap), YP w h → (K w.params).In h)
    (F : ∀ (w : World) (mg : Str → Option Value) (fa : Addr) (h : Heap), (K w.params).In h → h.Ns mainGlobals mg → mg d.name = some (.ref fa) →
      ∃ fd : FuncData, (∀ (s : Shared) (u : Value), BindsTo s fd ⟨[u], []⟩ [(x, u)]) ∧
        ∀ base : Heap, (K w.params).In base → base.Ns mainGlobals mg → FnOk l.prog w (K w.params) mg base (CX w) k fa fd [x] (sp w))
    (hsp : ∀ (w : World) (H : Hp) (a : Addr) (ns : List Int), ns.length ≤ n → Only H → SqL (K w.params) H a (ns.map V.int) → sp w [.ref a] H (fun v _ => v = .bl true) fun _ _ _ => False)
    (hCX : ∀ (w : World) (H : Hp) (s : Shared) (e : Value) (s' : Shared), CX w [] H s (fun _ _ _ => False) e s' → False) :
    PySem.W.WalkO q loose XP YP l.row.toRowW d [] (fun f vs => PySem.call f vs) := by
  refine Att.attach_call hn hdf fun w s₀ s₁ mg mb fa o pm cd doc a vs ns G Y ho hd hcd hmg hobj hints hlen hg => ?_
  have KX := hY w _ Y
  obtain ⟨fd, hb, hF⟩ := F w mg fa _ KX G.T.g hmg
  exact law_call KX G.T.g G.T.b G.T.builtins G.T.nolimit hg hobj hints (Nat.le_trans hlen hn2) hr hF hb (fun H hO hS => hsp w H a ns hlen hO hS) fun H e s' => hCX w H s₁ e s'
end L2



/-! SHORT WORDS over the layer: a def of the text, its body, what a loop and a test want. -/
namespace L2
open PySem PySem.Spec PyProof.Rows

/-! ### the text by places -/
/-- the j-th statement of a class's body -/
def inClass (s : Stmt) (j : Nat) : Stmt := match s with
  | .ClassDef _ _ _ body _ _ _ _ _ _ _ => body.getD j (.Pass ⟨0, 0, 0, 0⟩)
  | _ => .Pass ⟨0, 0, 0, 0⟩
def defArgs (s : Stmt) : Arguments := match s with
  | .FunctionDef _ a _ _ _ _ _ _ _ _ => a
  | _ => { posonlyargs := [], args := [], vararg := none, kwonlyargs := [], kw_defaults := [], kwarg := none, defaults := [] }
def defBody (s : Stmt) : List Stmt := match s with
  | .FunctionDef _ _ b _ _ _ _ _ _ _ => b
  | _ => []
def defScope (s : Stmt) : Scope := match s with
  | .FunctionDef _ _ _ _ _ _ sc _ _ _ => sc
  | _ => { kind := .function, names := [], isGenerator := false, isCoroutine := false }

/-! ### no exception leaves a def -/
abbrev CX0 : CXT := fun _ _ _ _ _ _ => False
abbrev E0 : XK := fun _ _ _ => False
theorem pass0 {X : Cx} : Passes CX0 X E0 := fun _ _ _ _ _ _ _ h => h.elim

/-! ### a def (or method) of the text as it stands behind the top -/
structure Fun (K : PySem.W.Frag) (x qual : Str) (st : Stmt) (f : Addr) (fd : FuncData) : Prop where
  ex : ∃ (oc : Value) (od : Option Addr) (kV doc pm : Value) (an : Option Addr) (cdv ct : Value) (osl : Array (Option Value)),
    fd = PySem.W.fnOf x qual (defArgs st) (defBody st) (defScope st) .none kV doc pm an cdv ct ∧ K.lookup f = some ⟨oc, od, .func fd, osl⟩ ∧ PySem.W.codeIn K cdv qual = true
  kp : PySem.W.keepIn K (.ref f) = true
section
variable {P : Program} {w : World} {K : PySem.W.Frag} {mg : Str → Option Value} {base : Heap}
/-- THE RULE for a def: its body as a term of rules, and the reading of that term -/
theorem Fun.ok {x qual : Str} {st : Stmt} {f : Addr} {fd : FuncData} {N ps : List Str} {k : Nat} {sp : Sp} (F : Fun K x qual st f fd) (S : FnScope N ps (defScope st)) (len : ∀ vs H Q E, sp vs H Q E → vs.length = ps.length)
    (hbody : ∀ (cdv : Value) (A : Around) (outer : List Env) (s : Shared) (H : Hp) (vs : List V) (Q : VK) (E : XK), Room k (A.deeper (envOfC qual (defScope st) s.heap.objs.size f cdv)) → sp vs H Q E →
      ∃ t, PSs (cxOf CX0 P w K mg base N qual (defScope st) f cdv A outer s H E).nox (defBody st) t ∧ t { nx := fun _ H' => Q .non H', rt := Q } (start N vs) H) : FnOk P w K mg base CX0 (k + 1) f fd ps sp := by
  obtain ⟨oc, od, kV, doc, pm, an, cdv, ct, osl, rfl, lk, hcd⟩ := F.ex
  refine fn_of lk hcd S len fun A outer s H vs Q E hr hsp => ?_
  obtain ⟨t, h, q⟩ := hbody cdv A outer s H vs Q E hr hsp
  exact ⟨t, h.nox, q⟩
/-- how its arguments bind (no defaults): h is «fun _ _ _ _ _ _ us hl => match us, hl with | [_, _], _ => rfl», one _ a parameter -/
theorem Fun.binds {x qual : Str} {st : Stmt} {f : Addr} {fd : FuncData} {ps : List Str} (F : Fun K x qual st f fd)
    (h : ∀ (kV doc pm : Value) (an : Option Addr) (cdv ct : Value) (us : List Value), us.length = ps.length → bindArgs (PySem.W.fnOf x qual (defArgs st) (defBody st) (defScope st) .none kV doc pm an cdv ct) ⟨us, []⟩ = pure (ps.zip us)) : Binds K fd ps [] := by
  obtain ⟨oc, od, kV, doc, pm, an, cdv, ct, osl, rfl, lk, hcd⟩ := F.ex
  exact .all (h kV doc pm an cdv ct)
theorem fun_mk {x qual : Str} {st : Stmt} {f : Addr} {oc : Value} {od an : Option Addr} {osl : Array (Option Value)} {kV doc pm cdv ct : Value} (l : K.lookup f = some ⟨oc, od, .func (PySem.W.fnOf x qual (defArgs st) (defBody st) (defScope st) .none kV doc pm an cdv ct), osl⟩)
    (c : PySem.W.codeIn K cdv qual = true) (k : PySem.W.keepIn K (.ref f) = true) : Fun K x qual st f (PySem.W.fnOf x qual (defArgs st) (defBody st) (defScope st) .none kV doc pm an cdv ct) := ⟨⟨oc, od, kV, doc, pm, an, cdv, ct, osl, rfl, l, c⟩, k⟩
end
theorem small1000 {n : Nat} (h : n ≤ 1000) : n < sizeLine := Nat.lt_of_le_of_lt h (by decide)

/-! ### expressions in short: the name that stands in the i-th slot -/
section
variable {X : Cx}
theorem pv (i : Nat) {x : Str} {pos : Pos} (hN : X.N[i]? = some x := by rfl) (hv : Vis X.env.scope x := by first | exact Or.inl rfl | exact Or.inr (Or.inl rfl) | exact Or.inr (Or.inr rfl)) (hd : (x == ("__debug__" : Str)) = false := by decide)
    (hcd : (x == ("__classdict__" : Str)) = false := by decide) : PE X (.Name x pos) (tVar i) := pe_var hN hv hd hcd
end

/-! ### tests -/
theorem iteF {A B : Prop} (h : B) : if false = true then A else B := by
  rw [if_neg Bool.false_ne_true]
  exact h
theorem iteT {A B : Prop} (h : A) : if true = true then A else B := by
  rw [if_pos rfl]
  exact h
theorem iteNS {c A B : Prop} [Decidable c] (hc : c) (h : B) : if (!decide c) = true then A else B := by
  rw [decide_eq_true hc]
  exact iteF h

/-! ### heaps -/
/-- all that was tracked is as it was -/
def Same (H H' : Hp) : Prop := ∀ b o, H b = some o → H' b = some o
theorem Same.refl (H : Hp) : Same H H := fun _ _ h => h
theorem Same.trans {H H1 H2 : Hp} (a : Same H H1) (b : Same H1 H2) : Same H H2 := fun c o h => b c o (a c o h)
theorem Same.free {H H' : Hp} (e : Same H H') {l : Addr} (h : H' l = Option.none) : H l = Option.none := by
  cases q : H l with
  | none => rfl
  | some o =>
    rw [e l o q] at h
    cases h
theorem Same.seq {K : PySem.W.Frag} {H H' : Hp} {a : Addr} {xs : List V} (e : Same H H') (h : SqL K H a xs) : SqL K H' a xs := by
  rcases h with (h | ⟨o, h⟩) | h
  · exact .inl (.inl (e _ _ h))
  · exact .inl (.inr ⟨o, e _ _ h⟩)
  · exact .inr h

end L2

namespace S
open PySem PySem.Spec PyProof.Rows L2

/-! ### sizes -/
def Sz (n : Nat) (x : Int) : Prop := x.natAbs < 2 ^ n
theorem Sz.mono {m n : Nat} {x : Int} (h : Sz m x) (l : m ≤ n) : Sz n x := Nat.lt_of_lt_of_le h (Nat.pow_le_pow_right (by decide) l)
theorem Sz.bits {n : Nat} {x : Int} (h : Sz n x) : Builtin.Int.intBits x ≤ n := intBits_le_iff.mpr h
theorem Sz.of {n : Nat} {x : Int} (h : Builtin.Int.intBits x ≤ n) : Sz n x := intBits_le_iff.mp h
theorem Sz.mulOk {m n : Nat} {x y : Int} (h : Sz m x) (g : Sz n y) (l : m + n ≤ 134217728) : IntMulOk x y := IntMulOk.of_le h.bits g.bits l
theorem Sz.mul {m n : Nat} {x y : Int} (h : Sz m x) (g : Sz n y) : Sz (m + n) (x * y) := Sz.of (intBits_mul_le h.bits g.bits)
theorem Sz.add {n : Nat} {x y : Int} (h : Sz n x) (g : Sz n y) : Sz (n + 1) (x + y) := Sz.of (Nat.le_trans (intBits_add_le h.bits g.bits) (by omega))
theorem Sz.sub {n : Nat} {x y : Int} (h : Sz n x) (g : Sz n y) : Sz (n + 1) (x - y) := Sz.of (Nat.le_trans (intBits_sub_le h.bits g.bits) (by omega))
theorem Sz.le {n : Nat} {x y : Int} (h : Sz n x) (l : y.natAbs ≤ x.natAbs) : Sz n y := Nat.lt_of_le_of_lt l h
theorem Sz.log {n : Nat} {x : Int} (h : Sz n x) (l : n ≤ 8999) : x.natAbs.log2 < 9000 := by
  by_cases h0 : x.natAbs = 0
  · rw [h0]; decide +kernel
  · have := (Nat.log2_lt h0).mpr (Sz.mono h l)
    omega

section
variable {X : Cx}
theorem op_mulB : OpR X (binaryOp .Mult) (rI IntMulOk fun i j => .int (i * j)) := opI fun _ _ _ _ _ _ _ hc q => mul_int q hc
/-- // by any divisor that is not too long -/
def CDv (_ j : Int) : Prop := j ≠ 0 ∧ Sz 8999 j
theorem op_fdivB : OpR X (binaryOp .FloorDiv) (rI CDv fun i j => .int (i.fdiv j)) := opI fun i j _ _ _ _ _ hc q =>
  floordiv_int hc.1 q (.inl (PyProof.noPylong_of_log2 (hc.2.log (Nat.le_refl _))))
end

/-! ### data at the abstract heap -/
mutual
def Is (H : Hp) : PyData → V → Prop
  | .none, v => v = .non
  | .bool b, v => v = .bl b
  | .int i, v => v = .int i
  | .str x, v => v = .str x
  | .list xs, v => ∃ p vs, v = .ref p ∧ H p = some (.lst vs) ∧ IsAll H xs vs
  | .tuple xs, v => ∃ p vs, v = .ref p ∧ H p = some (.tup vs) ∧ IsAll H xs vs
  | .dict _, _ => False
def IsAll (H : Hp) : List PyData → List V → Prop
  | [], vs => vs = []
  | x :: xs, vs => ∃ v r, vs = v :: r ∧ Is H x v ∧ IsAll H xs r
end
mutual
theorem Is.mono {H H' : Hp} (e : Same H H') : ∀ (d : PyData) (v : V), Is H d v → Is H' d v
  | .none, v, h => by simpa only [Is] using h
  | .bool b, v, h => by simpa only [Is] using h
  | .int i, v, h => by simpa only [Is] using h
  | .str x, v, h => by simpa only [Is] using h
  | .list xs, v, h => by
    rw [Is] at h ⊢
    obtain ⟨p, vs, e1, e2, e3⟩ := h
    exact ⟨p, vs, e1, e _ _ e2, IsAll.mono e xs vs e3⟩
  | .tuple xs, v, h => by
    rw [Is] at h ⊢
    obtain ⟨p, vs, e1, e2, e3⟩ := h
    exact ⟨p, vs, e1, e _ _ e2, IsAll.mono e xs vs e3⟩
  | .dict _, v, h => by rw [Is] at h; exact h.elim
theorem IsAll.mono {H H' : Hp} (e : Same H H') : ∀ (d : List PyData) (v : List V), IsAll H d v → IsAll H' d v
  | [], v, h => by rw [IsAll] at h ⊢; exact h
  | x :: xs, v, h => by
    rw [IsAll] at h ⊢
    obtain ⟨v, r, e1, e2, e3⟩ := h
    exact ⟨v, r, e1, Is.mono e x v e2, IsAll.mono e xs r e3⟩
end
theorem Same.new {H : Hp} {p : Addr} (h : H p = none) (o : HO) : Same H (upd H p o) := fun b u q => by rw [upd_ne (ne_of_none q h)]; exact q

section
variable {X : Cx} {pins : List (Addr × Obj)} {σ : L2.St} {H : Hp} {s : Shared}
mutual
theorem Is.reads (I : Inv X pins σ H s) : ∀ (d : PyData) (v : V) (u : Value), Is H d v → RelV v u → ∃ as, Reads s.heap u d as
  | .none, v, u, h, r => by rw [Is] at h; subst h; cases (show u = Value.none from r); exact ⟨_, .none⟩
  | .bool b, v, u, h, r => by rw [Is] at h; subst h; cases (show u = Value.bool b from r); exact ⟨_, .bool b⟩
  | .int i, v, u, h, r => by rw [Is] at h; subst h; obtain ⟨t, rfl⟩ := (show ∃ t, u = Value.int i t from r); exact ⟨_, .int i t⟩
  | .str x, v, u, h, r => by rw [Is] at h; subst h; obtain ⟨t, rfl⟩ := (show ∃ t, u = Value.str x t from r); exact ⟨_, .str x t⟩
  | .list xs, v, u, h, r => by
    rw [Is] at h
    obtain ⟨p, vs, e1, e2, e3⟩ := h
    subst e1
    cases (show u = Value.ref p from r)
    obtain ⟨_, its, n, hv, hp⟩ := (show ObjOk X.prog X.w H s.heap p (.lst vs) from I.hok p _ e2)
    obtain ⟨as, q⟩ := IsAll.reads I xs vs its e3 hv
    exact ⟨_, .list hp rfl rfl (by simpa using q)⟩
  | .tuple xs, v, u, h, r => by
    rw [Is] at h
    obtain ⟨p, vs, e1, e2, e3⟩ := h
    subst e1
    cases (show u = Value.ref p from r)
    obtain ⟨_, its, hv, hp⟩ := (show ObjOk X.prog X.w H s.heap p (.tup vs) from I.hok p _ e2)
    obtain ⟨o, h1, h2, n, h3⟩ := hp
    obtain ⟨as, q⟩ := IsAll.reads I xs vs its e3 hv
    exact ⟨_, .tuple h1 h2 h3 (by simpa using q)⟩
  | .dict _, v, u, h, r => by rw [Is] at h; exact h.elim
theorem IsAll.reads (I : Inv X pins σ H s) : ∀ (d : List PyData) (v : List V) (u : List Value), IsAll H d v → Vals v u → ∃ as, ReadsAll s.heap u d as
  | [], v, u, h, r => by rw [IsAll] at h; subst h; cases Vals.zero r; exact ⟨_, .nil⟩
  | x :: xs, v, u, h, r => by
    rw [IsAll] at h
    obtain ⟨v, w, e1, e2, e3⟩ := h
    subst e1
    cases r with
    | cons r1 r2 =>
      obtain ⟨as, q⟩ := Is.reads I x v _ e2 r1
      obtain ⟨bs, q2⟩ := IsAll.reads I xs w _ e3 r2
      exact ⟨_, .cons q q2⟩
end
end

/-! ### deep == and != -/
def rEqD : R2 := fun x y H Q => ∃ d e, Is H d x ∧ Is H e y ∧ SeqAt.shaped d = true ∧ SeqAt.shaped e = true ∧ Q (.bl (PyData.eqv d e)) H
def rNeD : R2 := fun x y H Q => ∃ d e, Is H d x ∧ Is H e y ∧ SeqAt.shaped d = true ∧ SeqAt.shaped e = true ∧ Q (.bl (!PyData.eqv d e)) H
section
variable {X : Cx}
theorem op_eqD (hu : X.A.units + 64 < cLine) : OpR X (compareOp .Eq) rEqD := by
  intro pins s σ H x y v u Q I rx ry h
  obtain ⟨d, e, h1, h2, h3, h4, q⟩ := h
  obtain ⟨as, r1⟩ := Is.reads I d x v h1 rx
  obtain ⟨bs, r2⟩ := Is.reads I e y u h2 ry
  exact eq_dataH r1 r2 h3 h4 hu ⟨.bl _, H, I, rfl, q⟩
theorem op_neD (hu : X.A.units + 64 < cLine) : OpR X (compareOp .NotEq) rNeD := by
  intro pins s σ H x y v u Q I rx ry h
  obtain ⟨d, e, h1, h2, h3, h4, q⟩ := h
  obtain ⟨as, r1⟩ := Is.reads I d x v h1 rx
  obtain ⟨bs, r2⟩ := Is.reads I e y u h2 ry
  exact ne_dataH r1 r2 h3 h4 hu ⟨.bl _, H, I, rfl, q⟩
end

/-! ### isinstance -/
def rIsi (K : PySem.W.Frag) : List V → Hp → VK → Prop := fun xs H Q => ∃ (x : V) (T : String) (t : Value) (b : Bool), xs = [x, .ty T] ∧ TyOf K H x t ∧ PySem.W.kitOne K t (.type T) = some b ∧ Q (.bl b) H
section
variable {X : Cx}
theorem call_isi : CallR X (.builtin "isinstance") (rIsi X.K) := by
  intro pins s σ H xs us Q I r h
  obtain ⟨x, T, t, b, rfl, ty, e, q⟩ := h
  obtain ⟨u, w', rfl, r1, r2⟩ := vals2 r
  cases (show w' = Value.type T from r2)
  exact isinst_ok I r1 ty e fun tk => ⟨.bl b, H, I.tok tk, rfl, q⟩
end
/-! ### a def with all that a call of it wants -/
structure Cal (P : Program) (w : World) (K : PySem.W.Frag) (mg : Str → Option Value) (base : Heap) (CX : CXT) (k : Nat) (x : Str) (ps : List Str) (sp : Sp) : Prop where
  ex : ∃ (f : Addr) (fd : FuncData), FnOk P w K mg base CX k f fd ps sp ∧ mg x = some (.ref f) ∧ PySem.W.keepIn K (.ref f) = true ∧ Binds K fd ps []
section
variable {X : Cx} {CX : CXT} {k j : Nat} {ps : List Str} {sp : Sp} {E : XK} {x : Str} {p pos : Pos} {e : Expr} {es : List Expr} {t : TA}
theorem pe_cal (C : Cal X.prog X.w X.K X.mg X.base CX k x ps sp) (hr : Room j X.A) (hk : k ≤ j) (hx : Passes CX X E) (hg : Gl X x)
    (ha : PA X (e :: es) t) (hdb : (x == ("__debug__" : Str)) = false := by decide) (he : starEach (e :: es) X.env = (false, eval e X.env) :: starEach es X.env := by rfl) (hpl : (backTo pos (starEach es X.env)).any (·.1) = false := by rfl) :
    PE X (.Call (.Name x p) (e :: es) [] pos) (tCall sp [] E t) := by
  obtain ⟨f, fd, F, hm, hk2, hb⟩ := C.ex
  exact pe_call F (hr.mono hk) hg hm hk2 hb .nil hx ha hdb he hpl
end
theorem units_of {A : Around} {k : Nat} (hr : Room k A) : A.units + 64 < cLine := hr.units

/-! ### fractions -/
def frD (q : Rat) : PyData := .tuple [.int q.num, .int (q.den : Int)]
def FrAt (H : Hp) (q : Rat) (v : V) : Prop := ∃ p, v = .ref p ∧ H p = some (.tup [.int q.num, .int (q.den : Int)])
theorem FrAt.mono {H H' : Hp} {q : Rat} {v : V} (h : FrAt H q v) (e : Same H H') : FrAt H' q v := let ⟨p, a, b⟩ := h; ⟨p, a, e _ _ b⟩
theorem FrAt.is {H : Hp} {q : Rat} {v : V} (h : FrAt H q v) : Is H (frD q) v := by
  obtain ⟨p, a, b⟩ := h
  unfold frD
  rw [Is]
  exact ⟨p, _, a, b, by simp only [IsAll, Is]; exact ⟨_, _, rfl, rfl, _, _, rfl, rfl, rfl⟩⟩
def SzQ (n : Nat) (q : Rat) : Prop := Sz n q.num ∧ Sz n (q.den : Int)
theorem SzQ.mono {m n : Nat} {q : Rat} (h : SzQ m q) (l : m ≤ n) : SzQ n q := ⟨h.1.mono l, h.2.mono l⟩
theorem den_pos (q : Rat) : (0 : Int) < (q.den : Int) := Int.natCast_pos.mpr q.den_pos
/-- the size of a quotient -/
theorem SzQ.divInt {n : Nat} {a b : Int} (ha : Sz n a) (hb : Sz n b) (h0 : b ≠ 0) : SzQ n (Rat.divInt a b) := by
  constructor
  · refine ha.le ?_
    rw [Rat.num_divInt, Int.natAbs_ediv_of_dvd ?_]
    · rw [Int.natAbs_mul]
      have e : b.sign.natAbs = 1 := Int.natAbs_sign_of_ne_zero h0
      rw [e, Nat.one_mul]
      exact Nat.div_le_self _ _
    · exact Int.dvd_trans (Int.gcd_dvd_right b a) (Int.dvd_mul_left _ _)
  · refine hb.le ?_
    rw [Rat.den_divInt, if_neg h0]
    show b.natAbs / b.gcd a ≤ b.natAbs
    exact Nat.div_le_self _ _

/-! ### built-in names -/
theorem bt_len : bootBuiltins "len" = some (.builtin "len") := by decide +kernel
theorem bt_abs : bootBuiltins "abs" = some (.builtin "abs") := by decide +kernel
theorem bt_isinstance : bootBuiltins "isinstance" = some (.builtin "isinstance") := by decide +kernel
theorem bt_int : bootBuiltins "int" = some (.type "int") := by decide +kernel
theorem bt_bool : bootBuiltins "bool" = some (.type "bool") := by decide +kernel
theorem bt_tuple : bootBuiltins "tuple" = some (.type "tuple") := by decide +kernel
theorem bt_list : bootBuiltins "list" = some (.type "list") := by decide +kernel
theorem bt_enumerate : bootBuiltins "enumerate" = some (.type "enumerate") := by decide +kernel
theorem bt_zip : bootBuiltins "zip" = some (.type "zip") := by decide +kernel
theorem bt_sum : bootBuiltins "sum" = some (.builtin "sum") := by decide +kernel
structure Bl (mg : Str → Option Value) : Prop where
  len : mg "len" = none
  abs : mg "abs" = none
  min : mg "min" = none
  max : mg "max" = none
  isinstance : mg "isinstance" = none
  range : mg "range" = none
  int : mg "int" = none
  bool : mg "bool" = none
  tuple : mg "tuple" = none
  list : mg "list" = none
  enumerate : mg "enumerate" = none
  zip : mg "zip" = none
  reversed : mg "reversed" = none
  ValueError : mg "ValueError" = none
  sum : mg "sum" = none
  str : mg "str" = none

theorem iteNot {c A B : Prop} [Decidable c] (h1 : ¬ c → A) (h2 : c → B) : if (!decide c) = true then A else B := by
  by_cases hc : c
  · rw [decide_eq_true hc]; exact h2 hc
  · rw [decide_eq_false hc]; exact h1 hc
theorem iteD {c A B : Prop} [Decidable c] (h1 : c → A) (h2 : ¬ c → B) : if decide c = true then A else B := by
  by_cases hc : c
  · rw [decide_eq_true hc]; exact h1 hc
  · rw [decide_eq_false hc]; exact h2 hc
theorem _root_.L2.FnOk.or {P : Program} {w : World} {K : PySem.W.Frag} {mg : Str → Option Value} {base : Heap} {CX : CXT} {k : Nat} {f : Addr} {fd : FuncData} {ps : List Str} {sp sp' : Sp} (F : FnOk P w K mg base CX k f fd ps sp) (G : FnOk P w K mg base CX k f fd ps sp') :
    FnOk P w K mg base CX k f fd ps (fun vs H Q E => sp vs H Q E ∨ sp' vs H Q E) where
  len := fun vs H Q E h => h.elim (F.len vs H Q E) (G.len vs H Q E)
  run := fun A outer s H args us vs Q E hr e0 hb hv h => h.elim (F.run A outer s H args us vs Q E hr e0 hb hv) (G.run A outer s H args us vs Q E hr e0 hb hv)
/-! ### lists of ints -/
theorem atI_ints {ms : List Int} {k : Int} (h0 : 0 ≤ k) (h : k < (ms.length : Int)) : atI (ms.map V.int) k = some (.int (ms.getD k.toNat 0)) := by
  have hk : k.toNat < ms.length := by omega
  have ek : k = ((k.toNat : Nat) : Int) := by omega
  have q : atI (ms.map V.int) ((k.toNat : Nat) : Int) = some (.int (ms.getD k.toNat 0)) := atI_nat (by rw [List.getElem?_map, List.getElem?_eq_getElem hk, List.getD_eq_getElem?_getD, List.getElem?_eq_getElem hk]; rfl)
  rwa [← ek] at q
theorem low_pos {a b : Int} (hb : 0 < b) : (a.fdiv (Int.gcd a b : Nat) = (Rat.divInt a b).num) ∧ b.fdiv (Int.gcd a b : Nat) = ((Rat.divInt a b).den : Int) := by
  have g0 : (0 : Int) ≤ ((Int.gcd a b : Nat) : Int) := Int.natCast_nonneg _
  rw [Int.fdiv_eq_ediv_of_nonneg _ g0, Int.fdiv_eq_ediv_of_nonneg _ g0, Rat.num_divInt, Rat.den_divInt, if_neg (by omega), Int.gcd_comm b a, Int.sign_eq_one_of_pos hb, Int.one_mul]
  refine ⟨rfl, ?_⟩
  have e : b = (b.natAbs : Int) := by omega
  rw [Int.natCast_ediv, ← e]
theorem low_neg {a b : Int} (hb : b < 0) : (a.fdiv (-((Int.gcd a b : Nat) : Int)) = (Rat.divInt a b).num) ∧ b.fdiv (-((Int.gcd a b : Nat) : Int)) = ((Rat.divInt a b).den : Int) := by
  have h := low_pos (a := -a) (b := -b) (by omega)
  rw [Rat.neg_divInt_neg, Int.neg_gcd, Int.gcd_neg] at h
  rw [← h.1, ← h.2]
  constructor
  · rw [← Int.neg_fdiv_neg, Int.neg_neg]
  · rw [← Int.neg_fdiv_neg, Int.neg_neg]
theorem sz_small {n : Nat} (h : 1 ≤ n) {x : Int} (h1 : -2 < x) (h2 : x < 2) : Sz n x := Sz.mono (show Sz 1 x by unfold Sz; omega) h

/-! ### gcd -/
theorem gcd_step (a b : Int) : Int.gcd b (a % b) = Int.gcd a b := by
  have e : a % b = a - b * (a / b) := by have := Int.mul_ediv_add_emod a b; omega
  rw [e, Int.gcd_sub_mul_left_right, Int.gcd_comm]
end S

namespace S
open PySem PySem.Spec PyProof.Rows L2

/-! ### list comprehensions (one clause) -/
def closOf (cells : List (Str × Addr)) : List (Str × NameKind) → List (Str × Addr) → List (Str × Addr)
  | [], acc => acc
  | (n, k) :: r, acc => closOf cells r (if k == .free then (n, (cells.lookup n).getD 0) :: acc else acc)
theorem closureFor_eq {scope : Scope} {env : Env} (h : ∀ y ∈ scope.names, y.2 = .free → ∃ c, env.cells.lookup y.1 = some c) : closureFor scope env = pure (closOf env.cells scope.names []) := by
  have key : ∀ (names : List (Str × NameKind)) (acc : List (Str × Addr)), (∀ y ∈ names, y.2 = .free → ∃ c, env.cells.lookup y.1 = some c) →
      (forIn names acc fun x r => match x with
        | (name, kind) => if (kind == NameKind.free) = true then do
              let a ← cellOf env name
              pure (ForInStep.yield ((name, a) :: r))
            else pure (ForInStep.yield r) : Sem (List (Str × Addr))) = pure (closOf env.cells names acc) := by
    intro names
    induction names with
    | nil => intro acc _; rfl
    | cons y r ih =>
      intro acc hy
      obtain ⟨n, k⟩ := y
      rw [List.forIn_cons, closOf]
      have hr := fun z hz => hy z (List.mem_cons_of_mem _ hz)
      cases hk : k == NameKind.free with
      | false =>
        simp only [hk, Bool.false_eq_true, if_false, pure_bind]
        exact ih acc hr
      | true =>
        obtain ⟨c, hc⟩ := hy (n, k) (List.mem_cons_self ..) (by simpa using hk)
        have hc' : cellOf env n = pure c := by unfold cellOf; rw [hc]
        simp only [hk, if_true, hc', pure_bind, hc, Option.getD_some]
        exact ih _ hr
  simp only [closureFor]
  rw [key _ _ h]
  rfl
theorem closOf_lookup {cells : List (Str × Addr)} {x : Str} {c : Addr} : ∀ {names : List (Str × NameKind)} {acc : List (Str × Addr)}, (∀ y ∈ names, y.2 = .free → ∃ c, cells.lookup y.1 = some c) → (∀ c, acc.lookup x = some c → cells.lookup x = some c) →
    (closOf cells names acc).lookup x = some c → cells.lookup x = some c
  | [], acc, _, ha, h => ha c h
  | (n, k) :: r, acc, hn, ha, h => by
    rw [closOf] at h
    refine closOf_lookup (fun z hz => hn z (List.mem_cons_of_mem _ hz)) (fun c' hc' => ?_) h
    cases hk : k == NameKind.free with
    | false => rw [hk] at hc'; simp only [Bool.false_eq_true, if_false] at hc'; exact ha c' hc'
    | true =>
      rw [hk] at hc'
      simp only [if_true] at hc'
      obtain ⟨d, hd⟩ := hn (n, k) (List.mem_cons_self ..) (by simpa using hk)
      rw [List.lookup_cons] at hc'
      cases hx : x == n with
      | true =>
        rw [hx] at hc'
        have e : x = n := by simpa using hx
        subst e
        have hd' : cells.lookup x = some d := hd
        rw [hd'] at hc' ⊢
        exact hc'
      | false => rw [hx] at hc'; exact ha c' hc'
theorem closOf_has {cells : List (Str × Addr)} {x : Str} : ∀ {names : List (Str × NameKind)} {acc : List (Str × Addr)}, ((x, NameKind.free) ∈ names ∨ (acc.lookup x).isSome = true) → ((closOf cells names acc).lookup x).isSome = true
  | [], acc, h => by
    rcases h with h | h
    · exact absurd h (List.not_mem_nil)
    · exact h
  | (n, k) :: r, acc, h => by
    rw [closOf]
    refine closOf_has ?_
    have keep : (acc.lookup x).isSome = true → ((if (k == NameKind.free) = true then (n, (cells.lookup n).getD 0) :: acc else acc).lookup x).isSome = true := fun z => by
      split
      · rw [List.lookup_cons]; split <;> simp [z]
      · exact z
    rcases h with h | h
    · rcases List.mem_cons.mp h with e | e
      · cases e
        refine .inr ?_
        simp
      · exact .inl e
    · exact .inr (keep h)

/-- the context of a comprehension's block -/
def cxComp (X : Cx) (N : List Str) (scope : Scope) (C : Addr) (ex : List Addr) (s : Shared) (H : Hp) : Cx where
  prog := X.prog
  w := X.w
  K := X.K
  mg := X.mg
  base := X.base
  A := X.A
  N := N
  s₀ := s
  H₀ := H
  env := compEnvC scope (closOf X.env.cells scope.names []) C X.env
  outer := X.stack
  stack := X.stack
  ex := ex
  fn := fun _ => false
  calm := X.calm
  pn := []
  xe := fun _ _ => False
/-- the values of the names that the block sees of the code around it -/
def frσ (σ : L2.St) (fr : List Nat) : L2.St := fr.map fun j => (σ[j]?).getD none
/-- what is asked of the texts alone -/
structure CompOk (X : Cx) (N : List Str) (n : Nat) (fr : List Nat) (scope : Scope) : Prop where
  kind : scope.kind = .function
  nd : N.Nodup
  names : (N.drop n) = fr.map (fun j => (X.N[j]?).getD ("" : Str))
  own : n ≤ N.length
  inx : (fr.all fun j => decide (j < X.N.length)) = true
  free : ((N.drop n).all fun x => decide (scope.names.lookup x = some .free)) = true
  nocell : (scope.names.all fun y => decide (y.2 ≠ .cell)) = true
  loc : (scope.names.all fun y => decide (y.2 = .local → scope.names.lookup y.1 = some .local)) = true
  seen : (scope.names.all fun y => decide (y.2 = .free → (X.env.kindOf y.1 = some .cell ∨ X.env.kindOf y.1 = some .free))) = true
theorem relabel_kinds {scope : Scope} {env : Env} {x : Str} {k : NameKind} (h : (relabel scope env).names.lookup x = some k) (hk : k = .cell ∨ k = .free) (hc : (scope.names.all fun y => decide (y.2 ≠ .cell)) = true) : (x, NameKind.free) ∈ scope.names := by
  unfold relabel at h
  dsimp only at h
  have key : ∀ names : List (Str × NameKind), (names.all fun y => decide (y.2 ≠ .cell)) = true →
      (names.map fun (n, k) => if (k == NameKind.free && env.scope.kind == .function && env.kindOf n == some .cell) = true then (n, NameKind.cell) else (n, k)).lookup x = some k → (x, NameKind.free) ∈ names := by
    intro names
    induction names with
    | nil => intro _ h; simp at h
    | cons y r ih =>
      intro ha h
      obtain ⟨n, j⟩ := y
      rw [List.all_cons, Bool.and_eq_true] at ha
      rw [List.map_cons] at h
      have e1 : ∀ (b : Bool) (k1 : NameKind), ((if b = true then (n, NameKind.cell) else (n, k1)) : Str × NameKind) = (n, if b = true then NameKind.cell else k1) := by intro b k1; cases b <;> rfl
      dsimp only at h
      rw [e1, List.lookup_cons] at h
      cases hx : x == n with
      | false => rw [hx] at h; exact List.mem_cons_of_mem _ (ih ha.2 h)
      | true =>
        rw [hx] at h
        have e : x = n := by simpa using hx
        subst e
        have h' := Option.some.inj h
        have hj : j ≠ .cell := by simpa using ha.1
        have : j = .free := by
          cases hb : (j == NameKind.free && env.scope.kind == .function && env.kindOf x == some .cell) with
          | true =>
            rw [Bool.and_eq_true, Bool.and_eq_true] at hb
            simpa using hb.1.1
          | false =>
            rw [hb] at h'
            simp only [Bool.false_eq_true, if_false] at h'
            subst h'
            rcases hk with z | z
            · exact absurd z hj
            · exact z
        subst this
        exact List.mem_cons_self ..
  exact key _ hc h
theorem relabel_free {scope : Scope} {env : Env} {x : Str} (h : scope.names.lookup x = some .free) : (relabel scope env).names.lookup x = some .cell ∨ (relabel scope env).names.lookup x = some .free := by
  unfold relabel
  dsimp only
  have key : ∀ names : List (Str × NameKind), names.lookup x = some .free →
      (names.map fun (n, k) => if (k == NameKind.free && env.scope.kind == .function && env.kindOf n == some .cell) = true then (n, NameKind.cell) else (n, k)).lookup x = some .cell ∨ (names.map fun (n, k) => if (k == NameKind.free && env.scope.kind == .function && env.kindOf n == some .cell) = true then (n, NameKind.cell) else (n, k)).lookup x = some .free := by
    intro names
    induction names with
    | nil => intro h; simp at h
    | cons y r ih =>
      intro h
      obtain ⟨n, j⟩ := y
      have e1 : ∀ (b : Bool) (k1 : NameKind), ((if b = true then (n, NameKind.cell) else (n, k1)) : Str × NameKind) = (n, if b = true then NameKind.cell else k1) := by intro b k1; cases b <;> rfl
      rw [List.map_cons]
      dsimp only
      rw [e1, List.lookup_cons]
      rw [List.lookup_cons] at h
      cases hx : x == n with
      | false => rw [hx] at h; exact ih h
      | true =>
        rw [hx] at h
        cases Option.some.inj h
        dsimp only
        split
        · exact .inl rfl
        · exact .inr rfl
  exact key _ h
section
variable {X : Cx} {N : List Str} {n : Nat} {fr : List Nat} {scope : Scope} {pins : List (Addr × Obj)} {σ : L2.St} {H : Hp} {s : Shared}
theorem CompOk.cells (O : CompOk X N n fr scope) (I : Inv X pins σ H s) : ∀ y ∈ scope.names, y.2 = .free → ∃ c, X.env.cells.lookup y.1 = some c := fun y hy hf => I.ok.has y.1 (of_decide_eq_true (List.all_eq_true.mp O.seen y hy) hf)
/-- the block's invariant at its start: the frame's dict has been laid at the heap's end -/
theorem comp_start {fp : List Addr} {h' : Heap} {tk : Nat} {m : Str → Option Value} (O : CompOk X N n fr scope) (I : Inv X pins σ H s) (hf : ∀ b ∈ fp, FpOk X pins H b) (hfl : ∀ b ∈ fp, b < s.heap.objs.size)
    (hns : h'.Ns s.heap.objs.size m) (keep : ∀ b o, s.heap.get? b = some o → h'.get? b = some o) :
    Inv (cxComp X N scope s.heap.objs.size fp s H) [] (List.replicate n none ++ frσ σ fr) H { s with heap := h', toks := tk } := by
  have hcl := O.cells I
  have lk : ∀ x c, (closOf X.env.cells scope.names []).lookup x = some c → X.env.cells.lookup x = some c := fun x c h => closOf_lookup hcl (fun c h => by simp at h) h
  have cne : ∀ x c, (closOf X.env.cells scope.names []).lookup x = some c → ∃ v, s.heap.IsCell c v := fun x c h => I.cell x c (lk x c h)
  have clt : ∀ x c, (closOf X.env.cells scope.names []).lookup x = some c → c < s.heap.objs.size := fun x c h => by
    obtain ⟨v, o, ho, _⟩ := cne x c h
    exact Heap.lt_size ho
  refine ⟨⟨I.mod, O.kind, I.ok.glob, I.ok.blt, Nat.le_refl _, fun x y c h1 h2 => I.ok.inj x y c (lk x c h1) (lk y c h2), fun x hx => ?_, fun x c h => (by cases h), I.ok.hd, I.ok.frames, .inl rfl, fun b hb => ⟨Nat.ne_of_lt (hfl b hb), fun x c h => (hf b hb).2.2.2.2.1 x c (lk x c h)⟩, I.bs, Nat.le_trans I.ok.bsz I.sz, fun b o e hb => ?_, fun b hb z => ?_, I.stack, I.stkFree⟩,
    rfl, I.bare, Un.kept keep, ⟨m, hns, fun i x v h1 h2 h3 => ?_⟩, fun x c h => ?_, I.hok.fresh (Nat.le_refl _), fun x c h => I.freeC x c (lk x c h), fun p hp => absurd hp (by simp [cxComp]), I.hok.kept keep, ?_⟩
  · have hx' : (x, NameKind.free) ∈ scope.names := by
      rcases hx with hx | hx
      · exact relabel_kinds hx (.inl rfl) O.nocell
      · exact relabel_kinds hx (.inr rfl) O.nocell
    exact Option.isSome_iff_exists.mp (closOf_has (.inl hx'))
  · rcases (hf b hb).2.2.2.1 with z | z
    · exact I.ok.noex b o e z
    · exact absurd (Nat.lt_of_lt_of_le (Heap.lt_size (I.ok.bs b o e).1) z) (Nat.lt_irrefl _)
  · rcases List.mem_cons.mp (I.stkSub b z) with q | q
    · exact (hf b hb).2.1 q
    · exact (hf b hb).2.2.1 q
  · by_cases hi : i < n
    · rw [List.getElem?_append_left (by simpa using hi), List.getElem?_replicate, if_pos hi] at h2
      cases h2
    · have h1' : (N.drop n)[i - n]? = some x := by rw [List.getElem?_drop, show n + (i - n) = i by omega]; exact h1
      rw [List.getElem?_append_right (by simpa using hi), List.length_replicate] at h2
      unfold frσ at h2
      rw [List.getElem?_map] at h2
      rw [O.names, List.getElem?_map] at h1'
      cases ej : fr[i - n]? with
      | none => rw [ej] at h2; cases h2
      | some j =>
        rw [ej] at h2 h1'
        have hjl : j < X.N.length := of_decide_eq_true (List.all_eq_true.mp O.inx j (List.mem_of_getElem? ej))
        have hx : X.N[j]? = some x := by
          have e := Option.some.inj h1'
          dsimp only at e
          rw [List.getElem?_eq_getElem hjl] at e ⊢
          exact congrArg some e
        have hv : σ[j]? = some (some v) := by
          have e := Option.some.inj h2
          dsimp only at e
          cases es : σ[j]? with
          | none => rw [es] at e; cases e
          | some o => rw [es] at e; rw [show o = some v from e]
        have hfl' : scope.names.lookup x = some .free := by
          refine of_decide_eq_true (List.all_eq_true.mp O.free x ?_)
          exact List.mem_of_getElem? (i := i - n) (by rw [List.getElem?_drop, show n + (i - n) = i by omega]; exact h1)
        have hfx : (x, NameKind.free) ∈ scope.names := PySem.mem_of_lookup hfl'
        have hkX := of_decide_eq_true (List.all_eq_true.mp O.seen _ hfx) rfl
        obtain ⟨mX, hnX, hlX⟩ := I.loc
        obtain ⟨u, ru, lu⟩ := hlX j x v hx hv (hkX.elim (fun z => .inr (.inl z)) fun z => .inr (.inr z))
        refine ⟨u, ru, .inr ⟨?_, ?_⟩⟩
        · exact relabel_free hfl'
        · obtain ⟨c, hc⟩ := Option.isSome_iff_exists.mp (closOf_has (cells := X.env.cells) (acc := []) (.inl hfx))
          refine ⟨c, hc, ?_⟩
          rcases lu with ⟨k, _⟩ | ⟨_, c', hc', z⟩
          · rcases hkX with q | q
            · rw [show X.env.kindOf x = _ from k] at q; cases q
            · rw [show X.env.kindOf x = _ from k] at q; cases q
          · have := lk x c hc
            rw [hc'] at this
            cases this
            obtain ⟨o, ho, hd⟩ := z
            exact ⟨o, keep _ _ ho, hd⟩
  · obtain ⟨v, o, ho, hd⟩ := cne x c h
    exact ⟨v, o, keep _ _ ho, hd⟩
  · rw [List.length_append, List.length_replicate]
    unfold frσ
    have e := congrArg List.length O.names
    rw [List.length_drop, List.length_map] at e
    have := O.own
    show _ = N.length
    rw [List.length_map]
    omega
end

/-! ### the rule -/
/-- the tests of a clause -/
def PIf (Y : Cx) (ifs : List Expr) (tt : TT) : Prop :=
  ∀ (pins : List (Addr × Obj)) (s : Shared) (σ : L2.St) (H : Hp) (Q : Bool → Hp → Prop), Inv Y pins σ H s → tt σ H Q →
    wpAny (model Y.prog Y.w) Y.A (forIn ifs true fun c r => if r = true then do let ok ← isTrue c Y.env (eval c Y.env); pure (ForInStep.yield ok) else pure (ForInStep.yield r)) (TP Y pins σ Q) Y.xe s
def tTrue : TT := fun _ H Q => Q true H
theorem pif_nil {Y : Cx} : PIf Y [] tTrue := fun pins s σ H Q I h => wpAny_tests_nil ⟨H, I, h⟩
theorem pif_one {Y : Cx} {c : Expr} {tt : TT} (h : PT Y c tt) : PIf Y [c] tt := fun pins s σ H Q I q => wpAny_tests_one (h pins s σ H Q I q)
/-- a reading within a block: it may name the block's own context -/
abbrev Blk (α : Type) := Addr → List Addr → Shared → Hp → α
/-- W: turn, measure, what has been gathered, heap -/
def tComp (n : Nat) (fr : List Nat) (wi : TI) (g : Blk TG) (tt : Blk TT) (te : Blk TE) : TE := fun σ H Q => wi σ H fun J H1 => ∀ D, H1 D = none → ∀ C ex s0 H0,
  ∃ W : Nat → Nat → List V → Hp → Prop, (∃ m, W 0 m [] (upd H1 D (.lst []))) ∧ ∀ i m ys H2, W i m ys H2 → H2 D = some (.lst ys) ∧
    ((J.stop i H2 ∧ Q (.ref D) H2) ∨ (J.go i H2 ∧ ∀ x H3, J.yld i H2 x H3 → g C ex s0 H0 x (List.replicate n none ++ frσ σ fr) H3 fun σ4 H4 => σ4.drop n = frσ σ fr ∧ tt C ex s0 H0 σ4 H4 fun b H5 =>
      if b = true then te C ex s0 H0 σ4 H5 fun y H6 => H6 D = some (.lst ys) ∧ ys.length < sizeLine ∧ ∃ m', m' < m ∧ W (i + 1) m' (ys ++ [y]) (upd H6 D (.lst (ys ++ [y])))
      else ∃ m', m' < m ∧ W (i + 1) m' ys H5))
/-- a change of a record that is none of ours -/
structure Side (X : Cx) (pins : List (Addr × Obj)) (H : Hp) (C : Addr) : Prop where
  nt : H C = none
  nl : C ≠ X.env.locals
  ab : X.s₀.heap.objs.size ≤ C
  nc : ∀ x c, X.env.cells.lookup x = some c → c ≠ C
  np : ∀ p ∈ X.pn ++ pins, p.1 ≠ C
section
variable {X : Cx} {N : List Str} {n : Nat} {fr : List Nat} {scope : Scope}
theorem wpAny_noE {α : Type} {M : Model} {A : Around} {m : Sem α} {Q : α → Shared → Prop} {E : Value → Shared → Prop} {s : Shared} (h : wpAny M A m Q (fun _ _ => False) s) : wpAny M A m Q E s := wpAny_mono h (fun _ _ q => q) fun _ _ z => z.elim
/-- the block's run, then what stands behind it -/
theorem comp_run {tg iter elt : Expr} {ifs : List Expr} {pos : Pos} {g : Blk TG} {tt : Blk TT} {te : Blk TE} {pins : List (Addr × Obj)} {σ : L2.St} {H2 : Hp} {s2 : Shared} {it : Addr} {fp : List Addr} {tn : Nat → Heap → Prop} {J : It} {Q : VK}
    {RR : Value → Addr → Result → Shared → Prop} {E : Value → Shared → Prop}
    (hc : X.calm = true) (O : CompOk X N n fr scope)
    (hg : ∀ C ex s H, PG (cxComp X N scope C ex s H) tg (g C ex s H)) (ht : ∀ C ex s H, PIf (cxComp X N scope C ex s H) ifs (tt C ex s H)) (he : ∀ C ex s H, PE (cxComp X N scope C ex s H) elt (te C ex s H))
    (I2 : Inv X pins σ H2 s2) (T : Turn X.prog X.w X.K tg J fp it tn) (st2 : tn 0 s2.heap) (f2 : ∀ b ∈ fp, FpOk X pins H2 b)
    (hW : ∀ D, H2 D = none → ∀ C ex s0 H0, ∃ W : Nat → Nat → List V → Hp → Prop, (∃ m, W 0 m [] (upd H2 D (.lst []))) ∧ ∀ i m ys H2, W i m ys H2 → H2 D = some (.lst ys) ∧
      ((J.stop i H2 ∧ Q (.ref D) H2) ∨ (J.go i H2 ∧ ∀ x H3, J.yld i H2 x H3 → g C ex s0 H0 x (List.replicate n none ++ frσ σ fr) H3 fun σ4 H4 => σ4.drop n = frσ σ fr ∧ tt C ex s0 H0 σ4 H4 fun b H5 =>
        if b = true then te C ex s0 H0 σ4 H5 fun y H6 => H6 D = some (.lst ys) ∧ ys.length < sizeLine ∧ ∃ m', m' < m ∧ W (i + 1) m' (ys ++ [y]) (upd H6 D (.lst (ys ++ [y])))
        else ∃ m', m' < m ∧ W (i + 1) m' ys H5)))
    (hR : ∀ (D C : Addr) (H' : Hp) (s' : Shared), Q (.ref D) H' → (∃ m, s'.heap.Ns C m) → Side X pins H' C → Inv X pins σ H' s' → RR (.ref D) C (.ok .next) s') :
    wpAny (model X.prog X.w) X.A (newList []) (fun acc s₃ => wpAny (model X.prog X.w) X.A (newFunctionEnv scope X.env.globals (closOf X.env.cells scope.names []) [] X.env.qual none .none (some X.env)) (fun cenv s₄ =>
      codeAny (model X.prog X.w) X.A (.compStart (.ListComp elt [⟨tg, iter, ifs, 0⟩] scope pos) 0 (.ref it) acc { cenv with scope := relabel scope X.env }) (RR acc cenv.locals) s₄) E s₃) E s2 := by
  have nocell : ∀ y ∈ scope.names, y.2 ≠ .cell := fun y hy => of_decide_eq_true (List.all_eq_true.mp O.nocell y hy)
  refine wpAny_newObj_type (wpAny_newFunctionEnv nocell (by intro y hy; simp at hy) (fun h₁ hns₁ hsb₁ => ?_) O.kind)
  have hDn : H2 s2.heap.objs.size = none := I2.fresh
  have I3 : Inv X pins σ (upd H2 s2.heap.objs.size (.lst [])) { s2 with heap := s2.heap.push { cls := .type "list", data := .seq ([] : List Value).toArray }, toks := s2.toks } := I2.lnew (its := []) .nil (Nat.zero_le _)
  generalize hD : s2.heap.objs.size = D at *
  dsimp only at hns₁ hsb₁ ⊢
  generalize hs3 : s2.heap.push { cls := .type "list", dict := none, data := .seq ([] : List Value).toArray } = hp3 at *
  have k23 : ∀ b o, s2.heap.get? b = some o → hp3.get? b = some o := fun b o e => by rw [← hs3]; exact Heap.get?_push_of_some _ e
  have sz3 : hp3.objs.size = D + 1 := by rw [← hs3, Heap.size_push, hD]
  have keep : ∀ b o, hp3.get? b = some o → h₁.get? b = some o := fun b o e => hsb₁.extBut b o (Nat.ne_of_lt (Heap.lt_size e)) (Heap.get?_push_of_some _ e)
  have flt : ∀ b ∈ fp, b < D := fun b hb => by
    obtain ⟨o, ho, _⟩ := T.obj _ _ st2 b hb
    rw [← hD]
    exact Heap.lt_size ho
  have f3 : ∀ b ∈ fp, FpOk X pins (upd H2 D (.lst [])) b := fun b hb => ⟨by rw [upd_ne (Nat.ne_of_lt (flt b hb))]; exact (f2 b hb).1, (f2 b hb).2⟩
  have IY := comp_start (tk := s2.toks + ([] : List (Str × Value)).length) O I3 f3 (fun b hb => by show b < hp3.objs.size; rw [sz3]; exact Nat.lt_succ_of_lt (flt b hb)) hns₁ keep
  obtain ⟨W, ⟨m0, w0⟩, turn⟩ := hW _ hDn hp3.objs.size fp { s2 with heap := hp3, toks := s2.toks } (upd H2 D (.lst []))
  have st4 : tn 0 h₁ := T.keep _ _ _ st2 fun b hb o e => keep b o (k23 b o e)
  -- the context of the block
  generalize hY : cxComp X N scope hp3.objs.size fp { s2 with heap := hp3, toks := s2.toks } (upd H2 D (.lst [])) = Y at *
  have eEnv : Y.env = compEnvC scope (closOf X.env.cells scope.names []) hp3.objs.size X.env := by rw [← hY]; rfl
  have hgY := hg hp3.objs.size fp { s2 with heap := hp3, toks := s2.toks } (upd H2 D (.lst []))
  have htY := ht hp3.objs.size fp { s2 with heap := hp3, toks := s2.toks } (upd H2 D (.lst []))
  have heY := he hp3.objs.size fp { s2 with heap := hp3, toks := s2.toks } (upd H2 D (.lst []))
  rw [hY] at hgY htY heY
  have eP : Y.prog = X.prog := by rw [← hY]; rfl
  have eW : Y.w = X.w := by rw [← hY]; rfl
  have eK : Y.K = X.K := by rw [← hY]; rfl
  have eA : Y.A = X.A := by rw [← hY]; rfl
  have eC : Y.calm = true := by rw [← hY]; exact hc
  have eX : Y.xe = fun _ _ => False := by rw [← hY]; rfl
  have fY : ∀ {H' : Hp}, (∀ b ∈ fp, H' b = none) → ∀ b ∈ fp, FpOk Y [] H' b := fun {H'} hn b hb => by
    have h1 := IY.ok.exf b (by rw [← hY]; exact hb)
    refine ⟨hn b hb, h1.1, IY.ok.exfs b (by rw [← hY]; exact hb), .inl (by rw [← hY]; exact hb), h1.2, fun p hp => absurd hp (by rw [← hY]; simp [cxComp])⟩
  have loop : codeAny (model X.prog X.w) X.A (.compLoop (.ListComp elt [⟨tg, iter, ifs, 0⟩] scope pos) 0 (.ref it) (.ref D) (compEnvC scope (closOf X.env.cells scope.names []) hp3.objs.size X.env))
      (RR (.ref D) hp3.objs.size) { s2 with heap := h₁, toks := s2.toks + ([] : List (Str × Value)).length } := by
    refine codeAny_loop rfl (fun k s' => ∃ i ys H', Inv Y [] (List.replicate n none ++ frσ σ fr) H' s' ∧ tn i s'.heap ∧ (∀ b ∈ fp, H' b = none) ∧ W i k ys H') (fun k s5 hI => ?_) m0 ⟨0, [], _, IY, st4, fun b hb => (f3 b hb).1, w0⟩
    obtain ⟨i, ys, H5, I5, st5, fr5, w5⟩ := hI
    show wpAny _ X.A ((compTurn (.ListComp elt [⟨tg, iter, ifs, 0⟩] scope pos) 0 (.ref it) (.ref D) _).onRaise (fun x => do noteFrame x _; theTreesLotGoes x)) _ _ s5
    refine wpAny_noted ?_
    rw [compTurn_list, ← eEnv]
    refine wpAny_bind (wpAny_standAt (wpAny_bind ?_))
    obtain ⟨hDl, step⟩ := turn i k ys H5 w5
    rcases step with ⟨stop, qn⟩ | ⟨go, step⟩
    · have d := T.done Y eP eW eK eC i [] s5 _ H5 (fun _ _ => False) I5 (fY fr5) st5 stop
      rw [eA] at d
      refine wpAny_noE (thn d fun r s6 ⟨hr, I6⟩ => ?_)
      subst hr
      refine wpAny_pure ?_
      have hC : H5 hp3.objs.size = none := by have := I6.free; rw [eEnv] at this; exact this
      have hns6 : ∃ m, s6.heap.Ns hp3.objs.size m := by
        have := I6.loc
        rw [eEnv] at this
        obtain ⟨m, hm, _⟩ := this
        exact ⟨m, hm⟩
      have sd : Side X pins H5 hp3.objs.size := ⟨hC, Nat.ne_of_gt I3.lt, I3.sz, fun x c e => Nat.ne_of_lt (let ⟨v, o, ho, _⟩ := I3.cell x c e; Heap.lt_size ho), fun p hp => Nat.ne_of_lt (Heap.lt_size (I3.pin p hp).1)⟩
      refine hR D hp3.objs.size H5 s6 qn hns6 sd ?_
      have un := I6.base
      have e0 : Y.s₀.heap = hp3 := by rw [← hY]; rfl
      have eH0 : Y.H₀ = upd H2 D (.lst []) := by rw [← hY]; rfl
      have eF : Y.fs = frs X.stack := by rw [← hY]; rfl
      have eEx : Y.ex = fp := by rw [← hY]; rfl
      rw [e0, eH0, eF, eEx] at un
      have hok' : HOk X.prog X.w H5 s6.heap := by have := I6.hok; rw [eP, eW] at this; exact this
      have os6 : s6.os = s2.os := I6.os.trans (by rw [← hY]; rfl)
      exact I3.call' (s' := s6) (ch := fp) os6 un hok' I6.bare fun b hb => ⟨(f2 b hb).2.2.2.1, (f2 b hb).2.1, (f2 b hb).2.2.2.2.1, (f2 b hb).2.2.2.2.2⟩
    · have d := T.item Y eP eW eK eC i [] s5 _ H5 (fun _ _ => False) I5 (fY fr5) st5 go
      rw [eA] at d
      refine wpAny_noE (thn d fun r s6 ⟨u, hr, h6⟩ => ?_)
      subst hr
      refine wpAny_bind (wpAny_noE (thn h6 fun _ s7 ⟨x, H7, I7, r7, y7, st7, fr7⟩ => ?_))
      have I7' := I7.pinned (fY fr7) (T.obj _ _ st7)
      have g7 := hgY _ s7 _ H7 x u _ I7' r7 (step x H7 y7)
      rw [eA, eP, eW, eX] at g7
      refine wpAny_bind (wpAny_noE (thn g7 fun _ s8 ⟨σ8, H8, I8, ed, q8⟩ => ?_))
      have t8 := htY _ s8 σ8 H8 _ I8 q8
      rw [eA, eP, eW, eX] at t8
      refine wpAny_bind (wpAny_noE (thn t8 fun b s9 ⟨H9, I9, q9⟩ => ?_))
      have back : ∀ {s' : Shared} {H' : Hp} {ys' : List V} {m' : Nat}, Inv Y ([] ++ pinsAt fp s7.heap) σ8 H' s' → m' < k → W (i + 1) m' ys' H' → ∃ m, m < k ∧ ∃ i ys H', Inv Y [] (List.replicate n none ++ frσ σ fr) H' s' ∧ tn i s'.heap ∧ (∀ b ∈ fp, H' b = none) ∧ W i m ys H' := fun {s' H' ys' m'} I' hm w' => by
        refine ⟨m', hm, i + 1, ys', H', ?_, T.keep _ _ _ st7 fun b hb o e => (I'.pin (b, o) (List.mem_append_right _ (List.mem_append_right _ (mem_pinsAt hb e)))).1, fun b hb => ?_, w'⟩
        · refine (Inv.unpinned I').weak ?_ fun j v hj => ?_
          · exact IY.len.trans I'.len.symm
          · by_cases hjn : j < n
            · rw [List.getElem?_append_left (by simpa using hjn), List.getElem?_replicate, if_pos hjn] at hj
              cases hj
            · rw [List.getElem?_append_right (by simpa using hjn), List.length_replicate, ← ed, List.getElem?_drop, show n + (j - n) = j by omega] at hj
              exact hj
        · obtain ⟨o, e, d⟩ := T.obj _ _ st7 b hb
          exact (I'.pin (b, o) (List.mem_append_right _ (List.mem_append_right _ (mem_pinsAt hb e)))).2.1
      cases b with
      | false =>
        obtain ⟨m', hm, w9⟩ := q9
        exact wpAny_pure ⟨rfl, back I9 hm w9⟩
      | true =>
        have e9 := heY _ s9 σ8 H9 _ I9 q9
        rw [eA, eP, eW, eX] at e9
        refine wpAny_bind (wpAny_bind (wpAny_noE (thn e9 fun v s10 ⟨y, H10, I10, r10, hD10, hz, m', hm, w10⟩ => ?_)))
        have a10 := mt_append _ s10 σ8 H10 (.ref D) [y] (.ref D) [v] (fun _ H' => H' = upd H10 D (.lst (ys ++ [y]))) I10 rfl (.cons r10 .nil) ⟨D, ys, y, rfl, rfl, hD10, hz, rfl⟩
        rw [eA, eP, eW, eX] at a10
        refine wpAny_bind (wpAny_noE (thn a10 fun _ s11 ⟨_, H11, I11, _, e11⟩ => ?_))
        subst e11
        exact wpAny_pure (wpAny_pure ⟨rfl, back I11 hm w10⟩)
  exact codeAny_compStart_list loop (T.self _ _ _ _ _ st4 loop)
theorem pe_comp {tg iter elt : Expr} {ifs : List Expr} {pos : Pos} {wi : TI} {g : Blk TG} {tt : Blk TT} {te : Blk TE}
    (hc : X.calm = true) (O : CompOk X N n fr scope) (hi : PI X tg iter wi)
    (hg : ∀ C ex s H, PG (cxComp X N scope C ex s H) tg (g C ex s H)) (ht : ∀ C ex s H, PIf (cxComp X N scope C ex s H) ifs (tt C ex s H)) (he : ∀ C ex s H, PE (cxComp X N scope C ex s H) elt (te C ex s H))
    (hs : ∀ x, foldedSetIterable iter X.env x = pure x := by intro _; rfl) :
    PE X (.ListComp elt [⟨tg, iter, ifs, 0⟩] scope pos) (tComp n fr wi g tt te) := by
  intro pins s σ H Q I h
  rw [eval_ListComp]
  refine wpAny_comprehension_free (use := none) rfl hs (closureFor_eq (O.cells I)) O.kind (fun y hy => of_decide_eq_true (List.all_eq_true.mp O.loc y hy)) (thn (hi pins s σ H _ I h) fun v s1 h1 => thn h1 fun itv s2 h2 => ?_)
  obtain ⟨it, fp, tn, J, H2, e, I2, T, st2, f2, hW⟩ := h2
  subst e
  refine comp_run (RR := fun acc C => compPost (model X.prog X.w) X.A X.xe none (EP X pins σ Q) acc C) hc O hg ht he I2 T st2 f2 hW ?_
  intro D C H' s' q ⟨m, hm⟩ sd inv
  exact ⟨m, hm, fun h' hs' => ⟨.ref D, H', inv.turned (t' := s'.toks) (it := C) (fun b o hb e => hs'.extBut b o hb e) sd.nt sd.nl (.inr sd.ab) sd.nc sd.np, rfl, q⟩⟩
/-- name = [.. for ..], the name a plain local -/
theorem ps_setComp {i : Nat} {x : Str} {px : Pos} {tg iter elt : Expr} {ifs : List Expr} {pos spos : Pos} {wi : TI} {g : Blk TG} {tt : Blk TT} {te : Blk TE}
    (hN : X.N.Nodup) (hx : X.N[i]? = some x) (hk : X.env.scope.names.lookup x = some .local)
    (hc : X.calm = true) (O : CompOk X N n fr scope) (hi : PI X tg iter wi)
    (hg : ∀ C ex s H, PG (cxComp X N scope C ex s H) tg (g C ex s H)) (ht : ∀ C ex s H, PIf (cxComp X N scope C ex s H) ifs (tt C ex s H)) (he : ∀ C ex s H, PE (cxComp X N scope C ex s H) elt (te C ex s H))
    (hsw : swapsWith (.ListComp elt [⟨tg, iter, ifs, 0⟩] scope pos) (some (.Name x px)) spos.line X.env = pure true := by rfl)
    (hs : ∀ x, foldedSetIterable iter X.env x = pure x := by intro _; rfl) :
    PS X (.Assign [.Name x px] (.ListComp elt [⟨tg, iter, ifs, 0⟩] scope pos) spos) (tAsg (tComp n fr wi g tt te) (gName i)) := by
  intro pins s σ H D I h
  rw [exec_Assign_Name_used _ _ _ _ hsw]
  refine wpAny_bind (wpAny_standAt (wpAny_bind ?_))
  show wpAny _ X.A (do let _ ← comprehension (.ListComp elt [⟨tg, iter, ifs, 0⟩] scope pos) scope X.env _ (newList []) false (eval iter X.env) (some (assign (.Name x px) X.env))) _ _ s
  refine wpAny_bind (wpAny_mono (wpAny_comprehension_free (use := some (assign (.Name x px) X.env)) (Q := fun _ s' => SP X pins D .next s') rfl hs (closureFor_eq (O.cells I)) O.kind (fun y hy => of_decide_eq_true (List.all_eq_true.mp O.loc y hy))
    (thn (hi pins s σ H _ I h) fun v s1 h1 => thn h1 fun itv s2 h2 => ?_)) (fun _ s' hq => wpAny_pure (wpAny_pure hq)) fun _ _ e => e)
  obtain ⟨it, fp, tn, J, H2, e, I2, T, st2, f2, hW⟩ := h2
  subst e
  refine comp_run (Q := fun x H1 => gName i x σ H1 D.nx) (RR := fun acc C => compPost (model X.prog X.w) X.A X.xe (some (assign (.Name x px) X.env)) (fun _ s' => SP X pins D .next s') acc C) hc O hg ht he I2 T st2 f2 hW ?_
  intro Dl C H' s' q ⟨m, hm⟩ sd inv
  show wpAny _ X.A (assign (.Name x px) X.env (.ref Dl)) _ _ _
  refine wpAny_assign_Name (store_ok2 (i := i) (v := .ref Dl) inv hN hx (.inl hk) rfl (fun s6 I6 ⟨a, hsb, ha⟩ => ?_) (.inr hk))
  have hCa : C ≠ a := by
    rcases ha with z | z
    · rw [z]; exact sd.nl
    · exact fun e => sd.nc x a z e.symm
  refine ⟨m, hm.sameBut hsb hCa, fun h' hs' => ?_⟩
  refine ⟨_, H', I6.turned (t' := s6.toks) (it := C) (fun b o hb e => hs'.extBut b o hb e) sd.nt sd.nl (.inr sd.ab) sd.nc sd.np, q⟩
end
end S

namespace S
open PySem PySem.Spec PyProof.Rows L2
open PySem.AutoSeq1 (wpAny_loadPart')

/-! ### an iterator over a list (true) or a tuple (false), at the heap -/
def ItB (b : Bool) (h : Heap) (it a : Addr) (i : Nat) : Prop := match b with | true => h.IsListIter it a i | false => h.IsTupleIter it a i
def SeB (b : Bool) (h : Heap) (a : Addr) (items : Array Value) : Prop := match b with | true => h.IsList a items | false => h.IsTuple a items
def SqB (b : Bool) (K : PySem.W.Frag) (H : Hp) (a : Addr) (xs : List V) : Prop := match b with | true => SqL K H a xs | false => SqT K H a xs
theorem ItB.at {b : Bool} {h h' : Heap} {it a : Addr} {i : Nat} (x : ItB b h it a i) (k : ∀ o, h.get? it = some o → h'.get? it = some o) : ItB b h' it a i := by
  cases b with
  | true => obtain ⟨o, ho, r⟩ := x; exact ⟨o, k o ho, r⟩
  | false => obtain ⟨o, ho, r⟩ := x; exact ⟨o, k o ho, r⟩
theorem ItB.obj {b : Bool} {h : Heap} {it a : Addr} {i : Nat} (x : ItB b h it a i) : ∃ o, h.get? it = some o ∧ ∀ v, o.data ≠ .cell v := by
  cases b with
  | true => obtain ⟨o, ho, c, d⟩ := x; exact ⟨o, ho, fun v z => by rw [d] at z; cases z⟩
  | false => obtain ⟨o, ho, c, d⟩ := x; exact ⟨o, ho, fun v z => by rw [d] at z; cases z⟩
theorem SeB.at {b : Bool} {h h' : Heap} {a : Addr} {items : Array Value} (x : SeB b h a items) (k : ∀ o, h.get? a = some o → h'.get? a = some o) : SeB b h' a items := by
  cases b with
  | true => obtain ⟨o, ho, r⟩ := x; exact ⟨o, k o ho, r⟩
  | false => obtain ⟨o, ho, r⟩ := x; exact ⟨o, k o ho, r⟩
theorem SeB.obj {b : Bool} {h : Heap} {a : Addr} {items : Array Value} (x : SeB b h a items) : ∃ o, h.get? a = some o := by
  cases b with
  | true => obtain ⟨o, ho, r⟩ := x; exact ⟨o, ho⟩
  | false => obtain ⟨o, ho, r⟩ := x; exact ⟨o, ho⟩
section
variable {X : Cx} {pins : List (Addr × Obj)} {σ : L2.St} {H : Hp} {s : Shared} {a : Addr} {xs ys : List V} {b : Bool}
theorem seB (I : Inv X pins σ H s) (h : SqB b X.K H a xs) : ∃ its : List Value, Vals xs its ∧ SeB b s.heap a its.toArray ∧ xs.length ≤ sizeLine := by
  cases b with
  | true => obtain ⟨its, r, p, z⟩ := I.list h; exact ⟨its, r, p.isList, z⟩
  | false => obtain ⟨its, r, p, z⟩ := I.tuple h; exact ⟨its, r, p, z⟩
theorem seB_inj (I : Inv X pins σ H s) (h : SqB b X.K H a xs) (h' : SqB b X.K H a ys) : xs = ys := by
  cases b with
  | true => exact I.list_inj h h'
  | false => exact I.tuple_inj h h'
end
section
variable {prog : Program} {w : World} {A : Around} {E : Value → Shared → Prop} {s : Shared}
theorem nextOf_tuple_item {it t : Addr} {i : Nat} {items} {x : Value} {Q : Value → Shared → Prop} (hit : s.heap.IsTupleIter it t i)
    (ht : s.heap.IsTuple t items) (hx : items[i]? = some x)
    (hQ : ∀ h', h'.IsTupleIter it t (i + 1) → Heap.SameBut it s.heap h' → Q x { s with heap := h' }) :
    wpAny (model prog w) A (Builtin.SmallTypes.nextOf (.ref it)) Q E s := by
  obtain ⟨o, ho, hc, hd⟩ := id hit
  obtain ⟨ol, hol, _, nl, hdl⟩ := ht
  unfold Builtin.SmallTypes.nextOf
  refine wpAny_bind (wpAny_callSpecial?_slot (name := Str.ofString "__next__") hit.typeIs F.slot_tuple_iterator_next
    (wpAny_call_entry F.slot_tuple_iterator_next hit.typeIs F.entry_tuple_iterator_next ?_ (F.args_tuple_iterator_next_1 _)))
  show wpAny _ _ (field (.ref it) 0 >>= _) _ _ s
  refine wpAny_bind (wpAny_field ho hd (x := .ref t) rfl ?_)
  show wpAny _ _ (if (Value.ref t == Value.none) = true then _ else _) _ _ s
  rw [if_neg (show ¬ ((Value.ref t == Value.none) = true) from Bool.false_ne_true)]
  show wpAny _ _ (field (.ref it) 1 >>= _) _ _ s
  refine wpAny_bind (wpAny_field ho hd (x := .int i 0) rfl ?_)
  show wpAny _ _ (seqItems? (.ref t) >>= _) _ _ s
  refine wpAny_bind (wpAny_seqItems hol hdl ?_)
  simp only [Int.toNat_natCast, hx]
  refine wpAny_bind (wpAny_setField ho hd (by simp) (wpAny_pure ⟨x, rfl, wpAny_pure (hQ _ ?_ (Heap.SameBut.update ..))⟩))
  exact ⟨_, Heap.get?_update_self _ ho (Obj.isFreed_of_fields (Obj.data_mapFields hd _)), (Obj.cls_mapFields ..).trans hc, by
    rw [Obj.data_mapFields hd]; simp [rawInt]⟩
theorem nextOf_tuple_end {it t : Addr} {i : Nat} {items} {Q : Value → Shared → Prop} (hh : A.handled = none)
    (hit : s.heap.IsTupleIter it t i) (ht : s.heap.IsTuple t items) (hx : items[i]? = none)
    (hE : ∀ h' e, Heap.ExtBut it s.heap h' → (∃ o, h'.get? e = some o ∧ o.cls = .type "StopIteration") → E (.ref e) { s with heap := h' }) :
    wpAny (model prog w) A (Builtin.SmallTypes.nextOf (.ref it)) Q E s := by
  obtain ⟨o, ho, hc, hd⟩ := id hit
  obtain ⟨ol, hol, _, nl, hdl⟩ := ht
  unfold Builtin.SmallTypes.nextOf
  refine wpAny_bind (wpAny_callSpecial?_slot (name := Str.ofString "__next__") hit.typeIs F.slot_tuple_iterator_next
    (wpAny_call_entry F.slot_tuple_iterator_next hit.typeIs F.entry_tuple_iterator_next ?_ (F.args_tuple_iterator_next_1 _)))
  show wpAny _ _ (field (.ref it) 0 >>= _) _ _ s
  refine wpAny_bind (wpAny_field ho hd (x := .ref t) rfl ?_)
  show wpAny _ _ (if (Value.ref t == Value.none) = true then _ else _) _ _ s
  rw [if_neg (show ¬ ((Value.ref t == Value.none) = true) from Bool.false_ne_true)]
  show wpAny _ _ (field (.ref it) 1 >>= _) _ _ s
  refine wpAny_bind (wpAny_field ho hd (x := .int i 0) rfl ?_)
  show wpAny _ _ (seqItems? (.ref t) >>= _) _ _ s
  refine wpAny_bind (wpAny_seqItems hol hdl ?_)
  simp only [Int.toNat_natCast, hx]
  refine wpAny_bind (wpAny_rule (wpAny_bind (wpAny_setField ho hd (by simp) ?_)))
  show wpAny _ _ (newExc (.type "StopIteration") [] >>= _) _ _ _
  refine wpAny_bind ?_
  simp only [newExc, newTuple]
  refine wpAny_bind (wpAny_newObj_type ?_ (by size_fits))
  refine wpAny_bind (m := firstArgMember _ _) (wpAny_of_eq (a := Value.none) (by first | rfl | (simp only [firstArgMember]; rfl)) ?_)
  refine wpAny_newObj_type ?_ (by size_fits)
  simp only [raiseNew]
  refine wpAny_bind (wpAny_handled ?_)
  first | rw [show A.in1.handled = none from hh] | rw [hh]
  refine wpAny_bind (wpAny_pure (wpAny_throw ?_))
  exact hE _ _ (((Heap.SameBut.update ..).extBut.push _).push _) ⟨_, Heap.get?_push_size _ rfl, rfl⟩
theorem nextB_item {b : Bool} {it a : Addr} {i : Nat} {items} {x : Value} {Q : Value → Shared → Prop} (hit : ItB b s.heap it a i) (hl : SeB b s.heap a items) (hx : items[i]? = some x)
    (hQ : ∀ h', ItB b h' it a (i + 1) → Heap.SameBut it s.heap h' → Q x { s with heap := h' }) : wpAny (model prog w) A (Builtin.SmallTypes.nextOf (.ref it)) Q E s := by
  cases b with
  | true => exact wpAny_nextOf_list_item hit hl hx hQ
  | false => exact nextOf_tuple_item hit hl hx hQ
theorem nextB_end {b : Bool} {it a : Addr} {i : Nat} {items} {Q : Value → Shared → Prop} (hh : A.handled = none) (hit : ItB b s.heap it a i) (hl : SeB b s.heap a items) (hx : items[i]? = none)
    (hE : ∀ h' e, Heap.ExtBut it s.heap h' → (∃ o, h'.get? e = some o ∧ o.cls = .type "StopIteration") → E (.ref e) { s with heap := h' }) :
    wpAny (model prog w) A (Builtin.SmallTypes.nextOf (.ref it)) Q E s := by
  cases b with
  | true => exact wpAny_nextOf_list_end hh hit hl hx hE
  | false => exact nextOf_tuple_end hh hit hl hx hE
end
theorem drawsB {prog : Program} {w : World} {A : Around} (hh : A.handled = none) (b : Bool) (it a : Addr) (hne : a ≠ it) (items : Array Value) :
    Draws prog w A it [it, a] items.size (fun i x => items[i]? = some x) (fun i h => ItB b h it a i ∧ SeB b h a items) where
  live := fun i h hst => by obtain ⟨o, ho, _⟩ := hst.1.obj; exact ⟨o, ho⟩
  frame := fun i h h' hst hk => ⟨hst.1.at fun o e => hk _ (by simp) o e, hst.2.at fun o e => hk _ (by simp) o e⟩
  item := fun i s Q E hi hst hQ => nextB_item hst.1 hst.2 (Array.getElem?_eq_getElem hi) fun h' hit' hs' => hQ _ h' s.toks (Array.getElem?_eq_getElem hi) ⟨hit', hst.2.at fun o e => (hs'.2 _ hne).trans e⟩ hs'
  done := fun s Q E hst hE => nextB_end hh hst.1 hst.2 (by simp) hE
/-- several untracked records have turned, one new object is laid -/
theorem Inv_turnedNew {X : Cx} {pins : List (Addr × Obj)} {σ : L2.St} {H : Hp} {s : Shared} {h' : Heap} {t' : Nat} {ch : List Addr} {a : Addr} {o : HO} (I : Inv X pins σ H s) (hf : ∀ b ∈ ch, FpOk X pins H b)
    (k : ∀ b o, b ∉ ch → s.heap.get? b = some o → h'.get? b = some o) (th : ∀ b ∈ ch, ∃ o, h'.get? b = some o) (ha : s.heap.objs.size ≤ a) (new : ObjOk X.prog X.w (upd H a o) h' a o) :
    Inv X pins σ (upd H a o) { s with heap := h', toks := t' } := by
  have hna : H a = none := I.hok.fresh ha
  have same : Same H (upd H a o) := Same.new hna o
  refine I.step (g' := s.gens) (d' := s.drawn) (ch := ch) (fun b hb => ⟨(hf b hb).2.2.2.1, (hf b hb).2.1, (hf b hb).2.2.2.2.1, (hf b hb).2.2.2.2.2⟩) (fun b u _ _ hc e _ => k b u hc e) (fun b u _ _ hc e _ => ⟨u.slots, k b u hc e⟩)
    (fun b u hc e n => by rw [upd_ne (Nat.ne_of_lt (Nat.lt_of_lt_of_le (Heap.lt_size e) ha))]; exact n) (fun b u hc e => ⟨u, k b u hc e⟩) (fun b xs e => same _ _ e) (fun b u v e => same _ _ e) (fun b ps e => ⟨#[], by rw [same _ _ e]; simp⟩) (fun m hm => ?_) (fun b u e => ?_) I.bare
  · obtain ⟨ob, es, ep, ho, r⟩ := hm
    exact ⟨ob, es, ep, k _ ob (fun z => (hf _ z).2.1 rfl) ho, r⟩
  · by_cases hb : b = a
    · subst hb; rw [upd_same] at e; cases e; exact new
    · rw [upd_ne hb] at e
      refine (I.hok b u e).stay (fun c v hc q => k c v ?_ q) (fun _ q => same _ _ q) fun _ _ q => same _ _ q
      intro z
      rcases hc with q | q
      · rw [q] at z; rw [(hf b z).1] at e; cases e
      · rw [(hf c z).1] at q; cases q

/-! ### enumerate(list or tuple), unpacked -/
def ItE (b : Bool) (K : PySem.W.Frag) (a : Addr) : It :=
  ⟨fun i H => ∃ xs x, SqB b K H a xs ∧ xs[i]? = some x, fun i H v H' => ∃ p x, (∀ xs, SqB b K H a xs → xs[i]? = some x) ∧ H p = none ∧ v = .ref p ∧ H' = upd H p (.tup [.int i, x]), fun i H => ∃ xs, SqB b K H a xs ∧ xs.length ≤ i⟩
theorem sq_small2 : (2 : Nat) ≤ sizeLine := by decide
theorem turn_enum {P : Program} {w : World} {K : PySem.W.Frag} {elts : List Expr} {k : Nat} {pos : Pos} (b : Bool) (a e it : Addr) (hae : a ≠ it) (hei : e ≠ it) (hea : e ≠ a) :
    Turn P w K (.Tuple elts k pos) (ItE b K a) [e, it] e (fun i h => (∃ old, IsEnum h e it i old) ∧ ItB b h it a i) where
  mem := by simp
  obj := fun i h st c hc => by
    rcases List.mem_cons.mp hc with rfl | hc
    · obtain ⟨old, z⟩ := st.1
      exact ⟨_, z, fun v q => by cases q⟩
    · obtain rfl : c = it := by simpa using hc
      exact st.2.obj
  keep := fun i h h' st kk => by
    obtain ⟨⟨old, z⟩, y⟩ := st
    exact ⟨⟨old, kk e (by simp) _ z⟩, y.at fun o q => kk it (by simp) o q⟩
  item := by
    intro X hP hw hK hc i pins s σ H E I hf st hg
    subst hP hw hK
    obtain ⟨⟨old, he⟩, hit⟩ := st
    obtain ⟨xs, x, hq, hx⟩ := hg
    obtain ⟨its, rv, p, hz⟩ := seB I hq
    obtain ⟨u, hu, ru⟩ := rv.get hx
    have hh := I.ok.hd hc
    have hi : i < its.toArray.size := by have := (List.getElem?_eq_some_iff.mp hu).1; simpa using this
    refine wpAny_pyNext_enum_itemD (drawsB (A := X.A.in1) hh b it a hae its.toArray) he ⟨hit, p⟩ hi hei (by simp only [List.mem_cons, List.not_mem_nil, or_false, not_or]; exact ⟨hei, hea⟩) fun x' h' tk hP ho hst hT hsz hk => ?_
    have ex : x' = u := by
      have hP' : its[i]? = some x' := by simpa using hP
      rw [hu] at hP'
      exact (Option.some.inj hP').symm
    subst ex
    refine ⟨_, rfl, wpAny_letOwnedTupleGo_enum ho fun h'' he'' hs'' => ?_⟩
    have helt : e < s.heap.objs.size := Heap.lt_size he
    have hilt : it < s.heap.objs.size := by obtain ⟨o, z, _⟩ := hit.obj; exact Heap.lt_size z
    have hT'' : h''.get? s.heap.objs.size = some { cls := .type "tuple", data := .seq #[.int i tk, x'] } := (hs''.2 _ (Nat.ne_of_gt helt)).trans hT
    refine ⟨.ref s.heap.objs.size, upd H s.heap.objs.size (.tup [.int i, x]), ?_, rfl, ⟨_, x, fun ys hy => by rw [seB_inj I hy hq]; exact hx, I.fresh, rfl, rfl⟩, ⟨⟨x', by simpa using he''⟩, hst.1.at fun o q => (hs''.2 _ hei.symm).trans q⟩, fun c hc => ?_⟩
    · refine Inv_turnedNew (s := s) (t' := tk + 1) (ch := [e, it]) I hf (fun c o hcn q => (hs''.2 c (fun z => hcn (by simp [z]))).trans (hk c o (fun z => hcn (by simp [z])) (fun z => hcn (by simp [z])) q)) (fun c hc => ?_) (Nat.le_refl _) ⟨sq_small2, [.int i tk, x'], .cons ⟨tk, rfl⟩ (.cons ru .nil), ⟨_, hT'', rfl, _, rfl⟩⟩
      rcases List.mem_cons.mp hc with rfl | hc
      · exact ⟨_, he''⟩
      · obtain rfl : c = it := by simpa using hc
        obtain ⟨o, z, _⟩ := hst.1.obj
        exact ⟨o, (hs''.2 _ hei.symm).trans z⟩
    · have hlt : c < s.heap.objs.size := by
        rcases List.mem_cons.mp hc with rfl | hc
        · exact helt
        · obtain rfl : c = it := by simpa using hc
          exact hilt
      rw [upd_ne (Nat.ne_of_lt hlt)]
      exact (hf c hc).1
  done := by
    intro X hP hw hK hc i pins s σ H E I hf st hg
    subst hP hw hK
    obtain ⟨⟨old, he⟩, hit⟩ := st
    obtain ⟨xs, hq, hx⟩ := hg
    obtain ⟨its, rv, p, hz⟩ := seB I hq
    have hh := I.ok.hd hc
    have hl := rv.length
    obtain ⟨f0, f1, f2, f3, f4, f5⟩ := hf it (by simp)
    have hT : s.TypeIs (.ref e) "enumerate" := ⟨_, he, rfl⟩
    unfold pyNext
    refine wpAny_bind (wpAny_attempt (wpAny_callSpecial?_slot (name := Str.ofString "__next__") hT F.slot_enumerate_next (wpAny_call_entry F.slot_enumerate_next hT F.entry_enumerate_next ?_ (F.args_enumerate_next_1 _))))
    show wpAny _ _ (field (.ref e) 2 >>= _) _ _ _
    refine wpAny_bind (wpAny_field he rfl (x := .ref it) rfl ?_)
    refine wpAny_bind (nextB_end (A := X.A.in1) hh hit p (by simp; omega) fun h' y he' hx' => ?_)
    obtain ⟨o, ho, hcl⟩ := hx'
    refine wpAny_bind (wpAny_isInstance (T := "StopIteration") (b := true) ⟨o, ho, hcl⟩ isSubtype_stop ?_)
    exact wpAny_pure ⟨rfl, I.turned (t' := s.toks) (fun c o hb e => he' c o hb e) f0 f1 f3 f4 f5⟩
  self := fun _ _ _ _ _ st h => by
    obtain ⟨⟨old, he⟩, _⟩ := st
    exact wpAny_pyIter_enum he h
theorem meets_enum_T (l : Addr) (items : Array Value) (n : Nat) (dct : Option Addr) (sl : Array (Option Value)) :
    Meets (Builtin.«enumerate.__new__» ⟨[.type "enumerate", .ref l], []⟩) (fun _ R s => s.heap.get? l = some { cls := .type "tuple", dict := dct, data := .seq items n, slots := sl } ∧
      R (.ok (.ret (.ref (s.heap.push { cls := .type "tuple_iterator", data := .fields #[.ref l, .int 0 0] }).objs.size)))
        { s with heap := (s.heap.push { cls := .type "tuple_iterator", data := .fields #[.ref l, .int 0 0] }).push { cls := .type "enumerate", data := .fields #[.none, .bool false, .ref s.heap.objs.size, rawInt 0, .none, .none] } }) :=
  .of_wp fun prog w A R s h => by
    obtain ⟨hp, g, d, tk, os⟩ := s; obtain ⟨hl, h⟩ := h
    have hsub := sub_enumerate
    have hL : Heap.IsTuple (Shared.heap ⟨hp, g, d, tk, os⟩) l items := ⟨_, hl, rfl, n, rfl⟩
    wp_walk using wpAny_loadPart' hl
    refine wpAny_stack_any fun st => wpAny_pure ?_
    split
    · rename_i c _ _ _ _ _
      cases (c == Value.type "enumerate")
      · wp_walk using wpAny_loadPart' hl, wpAny_pyIter_tuple hL
        exact ⟨_, rfl, h⟩
      · wp_walk using wpAny_loadPart' hl, wpAny_pyIter_tuple hL
        exact ⟨_, rfl, h⟩
    · wp_walk using wpAny_loadPart' hl, wpAny_pyIter_tuple hL
      exact ⟨_, rfl, h⟩
theorem call_enumB {prog : Program} {w : World} {A : Around} {E : Value → Shared → Prop} {s : Shared} {b : Bool} {l : Addr} {items : Array Value} {Q : Value → Shared → Prop} (hL : SeB b s.heap l items)
    (h : ∀ h', IsEnum h' (s.heap.objs.size + 1) s.heap.objs.size 0 .none → ItB b h' s.heap.objs.size l 0 → h'.objs.size = s.heap.objs.size + 2 →
      (∀ b o, s.heap.get? b = some o → h'.get? b = some o) → Q (.ref (s.heap.objs.size + 1)) { s with heap := h' }) :
    wpAny (model prog w) A (call (.type "enumerate") [.ref l]) Q E s := by
  cases b with
  | true => exact call_enumerate_list hL h
  | false =>
    obtain ⟨⟨c, dct, dt, sl⟩, hl, hc, n, hd⟩ := hL
    replace hc : c = .type "tuple" := hc
    replace hd : dt = .seq items n := hd
    subst hc hd
    refine callType_new F.called_enumerate (by decide) (F.typeCall_enumerate_1 _) (F.newCall_enumerate_1 _) (fun obj => F.args_object_init_2 obj _) F.entry_enumerate_new
      (meets_enum_T l items n dct sl) ⟨hl, ?_⟩
    have hz : (s.heap.push { cls := .type "tuple_iterator", data := .fields #[.ref l, .int 0 0] }).objs.size = s.heap.objs.size + 1 := Heap.size_push ..
    show _ ∧ _
    rw [hz]
    have he : IsEnum ((s.heap.push { cls := .type "tuple_iterator", data := .fields #[.ref l, .int 0 0] }).push
        { cls := .type "enumerate", data := .fields #[.none, .bool false, .ref s.heap.objs.size, rawInt 0, .none, .none] }) (s.heap.objs.size + 1) s.heap.objs.size 0 .none := by
      have := Heap.get?_push_size (s.heap.push { cls := .type "tuple_iterator", data := .fields #[.ref l, .int 0 0] })
        (o := { cls := .type "enumerate", data := .fields #[.none, .bool false, .ref s.heap.objs.size, rawInt 0, .none, .none] }) rfl
      rw [hz] at this; exact this
    refine ⟨⟨_, he, rfl⟩, h _ he ⟨_, Heap.get?_push_of_some _ (Heap.get?_push_size _ rfl), rfl, rfl⟩ (by rw [Heap.size_push, hz]) fun b o x => Heap.get?_push_of_some _ (Heap.get?_push_of_some _ x)⟩
section
variable {X : Cx}
def iEnum (b : Bool) (K : PySem.W.Frag) (ta : TA) : TI := fun σ H R => ta σ H fun vs H1 => ∃ a, vs = [.ref a] ∧ (∃ xs, SqB b K H1 a xs) ∧ R (ItE b K a) H1
theorem pi_enum (b : Bool) {elts : List Expr} {k : Nat} {tpos : Pos} {a : Expr} {ta : TA} {p pos : Pos} (hg : Gl X "enumerate") (hm : X.mg "enumerate" = none) (ha : PA X [a] ta) (hs : starEach [a] X.env = [(false, eval a X.env)] := by rfl) :
    PI X (.Tuple elts k tpos) (.Call (.Name "enumerate" p) [a] [] pos) (iEnum b X.K ta) := by
  intro pins s σ H R I h
  refine Call_ (ld_blt I hg hm bt_enumerate (PyProof.Rows.callWith_type1 (thn (ha pos pins s σ H _ I h) fun us s1 ⟨vs, H1, I1, r1, q1⟩ => ?_) hs rfl))
  obtain ⟨l, e, ⟨xs, hq⟩, q⟩ := q1
  subst e
  obtain ⟨u, rfl, ru⟩ := vals1 r1
  cases (show u = Value.ref l from ru)
  obtain ⟨its, rv, p1, hz⟩ := seB I1 hq
  refine call_enumB p1 fun h' he hit hsz hk => wpAny_pyIter_enum he ?_
  have I2 : Inv X pins σ H1 { s1 with heap := h' } := I1.kept (t' := s1.toks) hk
  have hl : l < s1.heap.objs.size := by obtain ⟨o, z⟩ := p1.obj; exact Heap.lt_size z
  refine ⟨s1.heap.objs.size + 1, [s1.heap.objs.size + 1, s1.heap.objs.size], _, _, H1, rfl, I2, turn_enum b l _ _ (Nat.ne_of_lt hl) (Nat.succ_ne_self _) (Nat.ne_of_gt (Nat.lt_succ_of_lt hl)), ⟨⟨_, he⟩, hit⟩, fun c hc => ?_, q⟩
  rcases List.mem_cons.mp hc with rfl | hc
  · exact I1.fpOk (Nat.le_succ _) (I1.hok.fresh (Nat.le_succ _))
  · obtain rfl : c = s1.heap.objs.size := by simpa using hc
    exact I1.fpOk (Nat.le_refl _) (I1.hok.fresh (Nat.le_refl _))
end

/-! ### zip of two, each a list or a tuple -/
theorem ItB.extBut {b : Bool} {h h' : Heap} {it a c : Addr} {i : Nat} (x : ItB b h it a i) (hs : Heap.ExtBut c h h') (hne : it ≠ c) : ItB b h' it a i := x.at fun o e => hs _ o hne e
theorem SeB.extBut {b : Bool} {h h' : Heap} {a c : Addr} {items : Array Value} (x : SeB b h a items) (hs : Heap.ExtBut c h h') (hne : a ≠ c) : SeB b h' a items := x.at fun o e => hs _ o hne e
section
variable {prog : Program} {w : World} {A : Around} {E : Value → Shared → Prop} {s : Shared}
open PySem
theorem zipB_item {c1 c2 : Bool} {z TI TO i1 i2 l1 l2 : Addr} {k1 k2 : Nat} {xs ys : Array Value} {x y a b : Value} {Q : Value → Shared → Prop} (D : ZipApart z TI TO i1 i2 l1 l2)
    (hz : IsZip s.heap z TI TO .none) (hTI : IsPair s.heap TI (.ref i1) (.ref i2)) (hTO : IsPair s.heap TO a b)
    (h1 : ItB c1 s.heap i1 l1 k1) (h2 : ItB c2 s.heap i2 l2 k2) (hl1 : SeB c1 s.heap l1 xs) (hl2 : SeB c2 s.heap l2 ys) (hx : xs[k1]? = some x) (hy : ys[k2]? = some y)
    (hQ : ∀ h', IsZip h' z TI TO (rawInt s.heap.objs.size) → IsPair h' TO x y → ItB c1 h' i1 l1 (k1 + 1) → ItB c2 h' i2 l2 (k2 + 1) → IsPair h' s.heap.objs.size x y → h'.objs.size = s.heap.objs.size + 1 →
      (∀ c o, c ≠ z → c ≠ TO → c ≠ i1 → c ≠ i2 → s.heap.get? c = some o → h'.get? c = some o) → Q (.ref s.heap.objs.size) { s with heap := h' }) :
    wpAny (model prog w) A (Builtin.«zip.__next__» ⟨[.ref z], []⟩) (fun fin s' => ∃ v, fin = .done (.ret v) ∧ Q v s') E s := by
  show wpAny _ _ (field (.ref z) 2 >>= _) _ _ _
  refine wpAny_bind (wpAny_field hz rfl (x := .bool false) rfl ?_)
  show wpAny _ _ (field (.ref z) 3 >>= _) _ _ _
  refine wpAny_bind (wpAny_field hz rfl (x := .ref TI) rfl ?_)
  refine wpAny_bind (wpAny_seqItems hTI rfl ?_)
  show wpAny _ _ (Builtin.SmallTypes.ownedTupleIsFree (.ref z) >>= _) _ _ _
  refine wpAny_bind ?_
  unfold Builtin.SmallTypes.ownedTupleIsFree
  refine wpAny_bind (wpAny_field hz rfl (x := .none) rfl (wpAny_pure ?_))
  simp only [if_true]
  refine wpAny_bind (wpAny_rule ?_)
  refine wpAny_bind (wpAny_field hz rfl (x := .ref TO) rfl ?_)
  refine wpAny_bind (wpAny_setField_rec hz (by simp) fun h₁ hz₁ hs₁ => ?_)
  replace hz₁ : IsZip h₁ z TI TO .ellipsis := hz₁
  refine wpAny_bind ?_
  simp only [List.zipIdx_cons, List.zipIdx_nil, List.forIn_cons, List.forIn_nil]

  refine wpAny_bind (wpAny_bind (wpAny_onRaise ?_))
  show wpAny _ _ (Builtin.SmallTypes.nextOf (.ref i1) >>= _) _ _ _
  refine wpAny_bind (nextB_item (h1.extBut hs₁.extBut D.i1z) (hl1.extBut hs₁.extBut D.l1z) hx fun h₂ h1₂ hs₂ => wpAny_pure ?_)
  have hTO₂ : IsPair h₂ TO a b := hs₂.extBut _ _ D.TOi1 (hs₁.extBut _ _ D.TOz hTO)
  refine wpAny_bind (wpAny_seqItems hTO₂ rfl ?_)
  refine wpAny_bind (wpAny_updateSeq_pair hTO₂ fun h₃ hTO₃ hs₃ => ?_)
  replace hTO₃ : IsPair h₃ TO x b := hTO₃
  refine wpAny_bind (wpAny_letGo (wpAny_pure ?_))

  refine wpAny_bind (wpAny_bind (wpAny_onRaise ?_))
  show wpAny _ _ (Builtin.SmallTypes.nextOf (.ref i2) >>= _) _ _ _
  refine wpAny_bind (nextB_item (((h2.extBut hs₁.extBut D.i2z).extBut hs₂.extBut D.i12.symm).extBut hs₃.extBut D.TOi2.symm)
    (((hl2.extBut hs₁.extBut D.l2z).extBut hs₂.extBut D.l2i1).extBut hs₃.extBut D.l2TO) hy fun h₄ h2₄ hs₄ => wpAny_pure ?_)
  have hTO₄ : IsPair h₄ TO x b := hs₄.extBut _ _ D.TOi2 hTO₃
  refine wpAny_bind (wpAny_seqItems hTO₄ rfl ?_)
  refine wpAny_bind (wpAny_updateSeq_pair hTO₄ fun h₅ hTO₅ hs₅ => ?_)
  replace hTO₅ : IsPair h₅ TO x y := hTO₅
  refine wpAny_bind (wpAny_letGo (wpAny_pure (wpAny_pure ?_)))

  refine wpAny_bind (wpAny_seqItems hTO₅ rfl ?_)
  refine wpAny_bind (wpAny_newTuple ?_)
  have hsz : h₅.objs.size = s.heap.objs.size := by rw [hs₅.1, hs₄.1, hs₃.1, hs₂.1, hs₁.1]
  have hz₅ : IsZip h₅ z TI TO .ellipsis := hs₅.extBut _ _ D.TOz.symm (hs₄.extBut _ _ D.i2z.symm (hs₃.extBut _ _ D.TOz.symm (hs₂.extBut _ _ D.i1z.symm hz₁)))
  have hk₅ : ∀ c o, c ≠ z → c ≠ TO → c ≠ i1 → c ≠ i2 → s.heap.get? c = some o → h₅.get? c = some o := fun c o c1 c2 c3 c4 e =>
    hs₅.extBut _ _ c2 (hs₄.extBut _ _ c4 (hs₃.extBut _ _ c2 (hs₂.extBut _ _ c3 (hs₁.extBut _ _ c1 e))))
  have h1₅ : ItB c1 h₅ i1 l1 (k1 + 1) := ((h1₂.extBut hs₃.extBut D.TOi1.symm).extBut hs₄.extBut D.i12).extBut hs₅.extBut D.TOi1.symm
  have h2₅ : ItB c2 h₅ i2 l2 (k2 + 1) := h2₄.extBut hs₅.extBut D.TOi2.symm
  have hzlt : z < h₅.objs.size := Heap.lt_size hz₅
  have hTOlt : TO < h₅.objs.size := Heap.lt_size hTO₅
  have hi1lt : i1 < h₅.objs.size := by obtain ⟨_, e, _⟩ := h1₅.obj; exact Heap.lt_size e
  have hi2lt : i2 < h₅.objs.size := by obtain ⟨_, e, _⟩ := h2₅.obj; exact Heap.lt_size e
  show wpAny _ _ (Builtin.SmallTypes.ownedTupleHandOut (.ref z) (.ref h₅.objs.size) >>= _) _ _ _
  refine wpAny_bind ?_
  unfold Builtin.SmallTypes.ownedTupleHandOut
  have hz₆ : IsZip (h₅.push { cls := .type "tuple", data := .seq #[x, y] }) z TI TO .ellipsis := Heap.get?_push_of_some _ hz₅
  refine wpAny_bind (wpAny_setField_rec hz₆ (by simp) fun h₇ hz₇ hs₇ => ?_)
  replace hz₇ : IsZip h₇ z TI TO (rawInt h₅.objs.size) := hz₇
  refine wpAny_setField_rec hz₇ (by simp) fun h₈ hz₈ hs₈ => ?_
  replace hz₈ : IsZip h₈ z TI TO (rawInt h₅.objs.size) := hz₈
  have up : ∀ c o, c ≠ z → h₅.get? c = some o → h₈.get? c = some o := fun c o c1 e => hs₈.extBut _ _ c1 (hs₇.extBut _ _ c1 (Heap.get?_push_of_some _ e))
  have hT₈ : IsPair h₈ h₅.objs.size x y := hs₈.extBut _ _ (Nat.ne_of_gt hzlt) (hs₇.extBut _ _ (Nat.ne_of_gt hzlt) (Heap.get?_push_size _ rfl))
  have hz8 : h₈.objs.size = h₅.objs.size + 1 := by rw [hs₈.1, hs₇.1, Heap.size_push]
  rw [hsz] at hz₈ hT₈ hz8
  refine wpAny_pure ⟨_, rfl, ?_⟩
  show Q (.ref h₅.objs.size) _
  rw [hsz]
  exact hQ h₈ hz₈ (up _ _ D.TOz hTO₅) (h1₅.at fun o e => up _ o D.i1z e) (h2₅.at fun o e => up _ o D.i2z e) hT₈ hz8 fun c o c1 c2 c3 c4 e => up c o c1 (hk₅ c o c1 c2 c3 c4 e)

theorem zipB_end {c1 c2 : Bool} {z TI TO i1 i2 l1 l2 : Addr} {k1 k2 : Nat} {xs ys : Array Value} {a b : Value} {Q : Fin → Shared → Prop} (hh : A.handled = none) (D : ZipApart z TI TO i1 i2 l1 l2)
    (hz : IsZip s.heap z TI TO .none) (hTI : IsPair s.heap TI (.ref i1) (.ref i2)) (hTO : IsPair s.heap TO a b)
    (h1 : ItB c1 s.heap i1 l1 k1) (h2 : ItB c2 s.heap i2 l2 k2) (hl1 : SeB c1 s.heap l1 xs) (hl2 : SeB c2 s.heap l2 ys) (hend : xs[k1]? = none ∨ ys[k2]? = none)
    (hE : ∀ h' e, (∀ c o, c ≠ z → c ≠ TO → c ≠ i1 → c ≠ i2 → s.heap.get? c = some o → h'.get? c = some o) → (∃ o, h'.get? e = some o ∧ o.cls = .type "StopIteration") → E (.ref e) { s with heap := h' }) :
    wpAny (model prog w) A (Builtin.«zip.__next__» ⟨[.ref z], []⟩) Q E s := by
  show wpAny _ _ (field (.ref z) 2 >>= _) _ _ _
  refine wpAny_bind (wpAny_field hz rfl (x := .bool false) rfl ?_)
  show wpAny _ _ (field (.ref z) 3 >>= _) _ _ _
  refine wpAny_bind (wpAny_field hz rfl (x := .ref TI) rfl ?_)
  refine wpAny_bind (wpAny_seqItems hTI rfl ?_)
  show wpAny _ _ (Builtin.SmallTypes.ownedTupleIsFree (.ref z) >>= _) _ _ _
  refine wpAny_bind ?_
  unfold Builtin.SmallTypes.ownedTupleIsFree
  refine wpAny_bind (wpAny_field hz rfl (x := .none) rfl (wpAny_pure ?_))
  simp only [if_true]
  refine wpAny_bind (wpAny_rule ?_)
  refine wpAny_bind (wpAny_field hz rfl (x := .ref TO) rfl ?_)
  refine wpAny_bind (wpAny_setField_rec hz (by simp) fun h₁ hz₁ hs₁ => ?_)
  replace hz₁ : IsZip h₁ z TI TO .ellipsis := hz₁
  refine wpAny_bind ?_
  simp only [List.zipIdx_cons, List.zipIdx_nil, List.forIn_cons, List.forIn_nil]
  refine wpAny_bind (wpAny_bind (wpAny_onRaise ?_))
  show wpAny _ _ (Builtin.SmallTypes.nextOf (.ref i1) >>= _) _ _ _
  cases hx : xs[k1]? with
  | none =>
    refine wpAny_bind (nextB_end hh (h1.extBut hs₁.extBut D.i1z) (hl1.extBut hs₁.extBut D.l1z) hx fun h₂ e hs₂ he => ?_)
    obtain ⟨oe, hoe, hce⟩ := he
    have hz₂ : IsZip h₂ z TI TO .ellipsis := hs₂ _ _ D.i1z.symm hz₁
    have hez : e ≠ z := fun x => by subst x; rw [hz₂] at hoe; cases hoe; simp at hce
    refine wpAny_setField_rec hz₂ (by simp) fun h₃ _ hs₃ => hE h₃ e (fun c o c1 _ c3 _ x => hs₃.extBut _ _ c1 (hs₂ _ _ c3 (hs₁.extBut _ _ c1 x))) ⟨oe, hs₃.extBut _ _ hez hoe, hce⟩
  | some x =>
    have hy : ys[k2]? = none := by rcases hend with h | h; rw [hx] at h; cases h; exact h
    refine wpAny_bind (nextB_item (h1.extBut hs₁.extBut D.i1z) (hl1.extBut hs₁.extBut D.l1z) hx fun h₂ h1₂ hs₂ => wpAny_pure ?_)
    have hTO₂ : IsPair h₂ TO a b := hs₂.extBut _ _ D.TOi1 (hs₁.extBut _ _ D.TOz hTO)
    refine wpAny_bind (wpAny_seqItems hTO₂ rfl ?_)
    refine wpAny_bind (wpAny_updateSeq_pair hTO₂ fun h₃ hTO₃ hs₃ => ?_)
    refine wpAny_bind (wpAny_letGo (wpAny_pure ?_))
    refine wpAny_bind (wpAny_bind (wpAny_onRaise ?_))
    show wpAny _ _ (Builtin.SmallTypes.nextOf (.ref i2) >>= _) _ _ _
    refine wpAny_bind (nextB_end hh (((h2.extBut hs₁.extBut D.i2z).extBut hs₂.extBut D.i12.symm).extBut hs₃.extBut D.TOi2.symm)
      (((hl2.extBut hs₁.extBut D.l2z).extBut hs₂.extBut D.l2i1).extBut hs₃.extBut D.l2TO) hy fun h₄ e hs₄ he => ?_)
    obtain ⟨oe, hoe, hce⟩ := he
    have hz₄ : IsZip h₄ z TI TO .ellipsis := hs₄ _ _ D.i2z.symm (hs₃.extBut _ _ D.TOz.symm (hs₂.extBut _ _ D.i1z.symm hz₁))
    have hez : e ≠ z := fun x => by subst x; rw [hz₄] at hoe; cases hoe; simp at hce
    refine wpAny_setField_rec hz₄ (by simp) fun h₅ _ hs₅ => hE h₅ e (fun c o c1 c2 c3 c4 x => hs₅.extBut _ _ c1 (hs₄ _ _ c4 (hs₃.extBut _ _ c2 (hs₂.extBut _ _ c3 (hs₁.extBut _ _ c1 x))))) ⟨oe, hs₅.extBut _ _ hez hoe, hce⟩

end
def ItZ (c1 c2 : Bool) (K : PySem.W.Frag) (a1 a2 : Addr) : It :=
  ⟨fun i H => ∃ xs ys x y, SqB c1 K H a1 xs ∧ SqB c2 K H a2 ys ∧ xs[i]? = some x ∧ ys[i]? = some y,
   fun i H v H' => ∃ p x y, (∀ xs, SqB c1 K H a1 xs → xs[i]? = some x) ∧ (∀ ys, SqB c2 K H a2 ys → ys[i]? = some y) ∧ H p = none ∧ v = .ref p ∧ H' = upd H p (.tup [x, y]),
   fun i H => ∃ xs ys, SqB c1 K H a1 xs ∧ SqB c2 K H a2 ys ∧ (xs.length ≤ i ∨ ys.length ≤ i)⟩
theorem turn_zip {P : Program} {w : World} {K : PySem.W.Frag} {elts : List Expr} {k : Nat} {pos : Pos} (c1 c2 : Bool) (z TI TO i1 i2 l1 l2 : Addr) (D : ZipApart z TI TO i1 i2 l1 l2) :
    Turn P w K (.Tuple elts k pos) (ItZ c1 c2 K l1 l2) [z, TI, TO, i1, i2] z (fun i h => IsZip h z TI TO .none ∧ IsPair h TI (.ref i1) (.ref i2) ∧ (∃ a b, IsPair h TO a b) ∧ ItB c1 h i1 l1 i ∧ ItB c2 h i2 l2 i) where
  mem := by simp
  obj := fun i h st c hc => by
    obtain ⟨hz, hTI, ⟨a, b, hTO⟩, h1, h2⟩ := st
    simp only [List.mem_cons, List.not_mem_nil, or_false] at hc
    rcases hc with rfl | rfl | rfl | rfl | rfl
    · exact ⟨_, hz, fun v q => by cases q⟩
    · exact ⟨_, hTI, fun v q => by cases q⟩
    · exact ⟨_, hTO, fun v q => by cases q⟩
    · exact h1.obj
    · exact h2.obj
  keep := fun i h h' st kk => by
    obtain ⟨hz, hTI, ⟨a, b, hTO⟩, h1, h2⟩ := st
    exact ⟨kk z (by simp) _ hz, kk TI (by simp) _ hTI, ⟨a, b, kk TO (by simp) _ hTO⟩, h1.at fun o e => kk i1 (by simp) o e, h2.at fun o e => kk i2 (by simp) o e⟩
  item := by
    intro X hP hw hK hc i pins s σ H E I hf st hg
    subst hP hw hK
    obtain ⟨hz, hTI, ⟨a, b, hTO⟩, h1, h2⟩ := st
    obtain ⟨xs, ys, x, y, hq1, hq2, hx, hy⟩ := hg
    obtain ⟨its1, rv1, p1, _⟩ := seB I hq1
    obtain ⟨its2, rv2, p2, _⟩ := seB I hq2
    obtain ⟨u1, hu1, ru1⟩ := rv1.get hx
    obtain ⟨u2, hu2, ru2⟩ := rv2.get hy
    have hT : s.TypeIs (.ref z) "zip" := ⟨_, hz, rfl⟩
    unfold pyNext
    refine wpAny_bind (wpAny_attempt (wpAny_callSpecial?_slot (name := Str.ofString "__next__") hT F.slot_zip_next (wpAny_call_entry F.slot_zip_next hT F.entry_zip_next
      (zipB_item D hz hTI hTO h1 h2 p1 p2 (x := u1) (y := u2) (by simpa using hu1) (by simpa using hu2) fun h' a1 a2 a3 a4 a5 a6 hk => wpAny_pure ?_) (F.args_zip_next_1 _))))
    refine ⟨_, rfl, wpAny_letOwnedTupleGo_zip a1 fun h'' hz'' hs'' => ?_⟩
    have lt : ∀ {c o}, s.heap.get? c = some o → c < s.heap.objs.size := fun e => Heap.lt_size e
    have i1lt : i1 < s.heap.objs.size := by obtain ⟨_, e, _⟩ := h1.obj; exact lt e
    have i2lt : i2 < s.heap.objs.size := by obtain ⟨_, e, _⟩ := h2.obj; exact lt e
    have hTI' : IsPair h' TI (.ref i1) (.ref i2) := hk _ _ D.TIz D.TITO D.TIi1 D.TIi2 hTI
    have up : ∀ c o, c ≠ z → h'.get? c = some o → h''.get? c = some o := fun c o hc e => (hs''.2 c hc).trans e
    have hT'' : h''.get? s.heap.objs.size = some { cls := .type "tuple", data := .seq #[u1, u2] } := up _ _ (Nat.ne_of_gt (lt hz)) a5
    have st'' : IsZip h'' z TI TO .none ∧ IsPair h'' TI (.ref i1) (.ref i2) ∧ (∃ a b, IsPair h'' TO a b) ∧ ItB c1 h'' i1 l1 (i + 1) ∧ ItB c2 h'' i2 l2 (i + 1) :=
      ⟨hz'', up _ _ D.TIz hTI', ⟨u1, u2, up _ _ D.TOz a2⟩, a3.at fun o e => up _ o D.i1z e, a4.at fun o e => up _ o D.i2z e⟩
    refine ⟨.ref s.heap.objs.size, upd H s.heap.objs.size (.tup [x, y]), ?_, rfl, ⟨_, x, y, fun zs hy => by rw [seB_inj I hy hq1]; exact hx, fun zs hy' => by rw [seB_inj I hy' hq2]; exact hy, I.fresh, rfl, rfl⟩, st'', fun c hc => ?_⟩
    · refine Inv_turnedNew (s := s) (t' := s.toks) (ch := [z, TI, TO, i1, i2]) I hf (fun c o hcn q => ?_) (fun c hc => ?_) (Nat.le_refl _) ⟨sq_small2, [u1, u2], .cons ru1 (.cons ru2 .nil), ⟨_, hT'', rfl, _, rfl⟩⟩
      · have n1 : c ≠ z := fun e => hcn (by simp [e])
        exact up c o n1 (hk c o n1 (fun e => hcn (by simp [e])) (fun e => hcn (by simp [e])) (fun e => hcn (by simp [e])) q)
      · obtain ⟨z1, z2, ⟨_, _, z3⟩, z4, z5⟩ := st''
        simp only [List.mem_cons, List.not_mem_nil, or_false] at hc
        rcases hc with rfl | rfl | rfl | rfl | rfl
        · exact ⟨_, z1⟩
        · exact ⟨_, z2⟩
        · exact ⟨_, z3⟩
        · obtain ⟨o, e, _⟩ := z4.obj; exact ⟨o, e⟩
        · obtain ⟨o, e, _⟩ := z5.obj; exact ⟨o, e⟩
    · have hlt : c < s.heap.objs.size := by
        simp only [List.mem_cons, List.not_mem_nil, or_false] at hc
        rcases hc with rfl | rfl | rfl | rfl | rfl
        · exact lt hz
        · exact lt hTI
        · exact lt hTO
        · exact i1lt
        · exact i2lt
      rw [upd_ne (Nat.ne_of_lt hlt)]
      exact (hf c hc).1
  done := by
    intro X hP hw hK hc i pins s σ H E I hf st hg
    subst hP hw hK
    obtain ⟨hz, hTI, ⟨a, b, hTO⟩, h1, h2⟩ := st
    obtain ⟨xs, ys, hq1, hq2, hend⟩ := hg
    obtain ⟨its1, rv1, p1, _⟩ := seB I hq1
    obtain ⟨its2, rv2, p2, _⟩ := seB I hq2
    have e1 := rv1.length
    have e2 := rv2.length
    have hh := I.ok.hd hc
    have hT : s.TypeIs (.ref z) "zip" := ⟨_, hz, rfl⟩
    unfold pyNext
    refine wpAny_bind (wpAny_attempt (wpAny_callSpecial?_slot (name := Str.ofString "__next__") hT F.slot_zip_next (wpAny_call_entry F.slot_zip_next hT F.entry_zip_next
      (zipB_end (A := X.A.in1) hh D hz hTI hTO h1 h2 p1 p2 (by simp only [List.getElem?_toArray]; rcases hend with q | q; exact .inl (List.getElem?_eq_none (by omega)); exact .inr (List.getElem?_eq_none (by omega))) fun h' e hk he => ?_) (F.args_zip_next_1 _))))
    obtain ⟨o, ho, hcl⟩ := he
    refine wpAny_bind (wpAny_isInstance (T := "StopIteration") (b := true) ⟨o, ho, hcl⟩ isSubtype_stop ?_)
    refine wpAny_pure ⟨rfl, ?_⟩
    refine I.step (g' := s.gens) (d' := s.drawn) (t' := s.toks) (H' := H) (ch := [z, TO, i1, i2]) (fun b hb => ?_) (fun b u _ _ hcn e _ => hk b u (fun q => hcn (by simp [q])) (fun q => hcn (by simp [q])) (fun q => hcn (by simp [q])) (fun q => hcn (by simp [q])) e)
      (fun b u _ _ hcn e _ => ⟨u.slots, hk b u (fun q => hcn (by simp [q])) (fun q => hcn (by simp [q])) (fun q => hcn (by simp [q])) (fun q => hcn (by simp [q])) e⟩) (fun _ _ _ _ n => n)
      (fun b u hcn e => ⟨u, hk b u (fun q => hcn (by simp [q])) (fun q => hcn (by simp [q])) (fun q => hcn (by simp [q])) (fun q => hcn (by simp [q])) e⟩) (fun _ _ e => e) (fun _ _ _ e => e) (fun b ps e => ⟨#[], by rw [e]; simp⟩) (fun m hm => ?_) (fun b u e => ?_) I.bare
    · have hb' : b ∈ [z, TI, TO, i1, i2] := by
        simp only [List.mem_cons, List.not_mem_nil, or_false] at hb ⊢
        rcases hb with q | q | q | q <;> simp [q]
      exact ⟨(hf b hb').2.2.2.1, (hf b hb').2.1, (hf b hb').2.2.2.2.1, (hf b hb').2.2.2.2.2⟩
    · obtain ⟨ob, es, ep, ho, r⟩ := hm
      exact ⟨ob, es, ep, hk _ ob (fun q => (hf z (by simp)).2.1 q.symm) (fun q => (hf TO (by simp)).2.1 q.symm) (fun q => (hf i1 (by simp)).2.1 q.symm) (fun q => (hf i2 (by simp)).2.1 q.symm) ho, r⟩
    · refine (I.hok b u e).stay (fun c v hcc q => ?_) (fun _ q => q) fun _ _ q => q
      have nf : ∀ d ∈ [z, TI, TO, i1, i2], c ≠ d := fun d hd z => by
        subst z
        rcases hcc with q | q
        · rw [← q, (hf _ hd).1] at e; cases e
        · rw [(hf _ hd).1] at q; cases q
      exact hk c v (nf z (by simp)) (nf TO (by simp)) (nf i1 (by simp)) (nf i2 (by simp)) q
  self := fun _ _ _ _ _ st h => wpAny_pyIter_zip st.1 h

def itObj (b : Bool) (l : Addr) : Obj := { cls := .type (match b with | true => "list_iterator" | false => "tuple_iterator"), data := .fields #[.ref l, .int 0 0] }
abbrev zB1 (c1 : Bool) (h : Heap) (l1 : Addr) : Heap := h.push (itObj c1 l1)
abbrev zB2 (c1 c2 : Bool) (h : Heap) (l1 l2 : Addr) : Heap := (zB1 c1 h l1).push (itObj c2 l2)
abbrev zB3 (c1 c2 : Bool) (h : Heap) (l1 l2 : Addr) : Heap := (zB2 c1 c2 h l1 l2).push { cls := .type "tuple", data := .seq #[.ref h.objs.size, .ref (zB1 c1 h l1).objs.size] }
abbrev zB4 (c1 c2 : Bool) (h : Heap) (l1 l2 : Addr) : Heap := (zB3 c1 c2 h l1 l2).push { cls := .type "tuple", data := .seq #[.none, .none] }
abbrev zB5 (c1 c2 : Bool) (h : Heap) (l1 l2 : Addr) : Heap := (zB4 c1 c2 h l1 l2).push { cls := .type "zip", data := .fields #[.none, .bool false, .bool false, .ref (zB2 c1 c2 h l1 l2).objs.size, .ref (zB3 c1 c2 h l1 l2).objs.size] }
theorem SeB.push {b : Bool} {h : Heap} {a : Addr} {items : Array Value} (x : SeB b h a items) (o : Obj) : SeB b (h.push o) a items := x.at fun _ e => Heap.get?_push_of_some _ e
theorem meets_zipB (c1 c2 : Bool) (l1 l2 : Addr) (xs ys : Array Value) :
    Meets (Builtin.«zip.__new__» ⟨[.type "zip", .ref l1, .ref l2], []⟩) (fun _ R s => SeB c1 s.heap l1 xs ∧ SeB c2 s.heap l2 ys ∧
      R (.ok (.ret (.ref (zB4 c1 c2 s.heap l1 l2).objs.size))) { s with heap := zB5 c1 c2 s.heap l1 l2 }) :=
  .of_wp fun prog w A R s h => by
    obtain ⟨hp, g, d, tk, os⟩ := s; obtain ⟨hl1, hl2, h⟩ := h
    have hsub := sub_zip
    cases c1 with
    | true =>
      have hL1 : Heap.IsList (Shared.heap ⟨hp, g, d, tk, os⟩) l1 xs := hl1
      cases c2 with
      | true =>
        have hL2 : Heap.IsList (Shared.heap ⟨hp.push { cls := .type "list_iterator", data := .fields #[.ref l1, .int 0 0] }, g, d, tk, os⟩) l2 ys := SeB.push (b := true) hl2 _
        wp_walk using wpAny_pyIter_list hL1, wpAny_pyIter_list hL2
        exact ⟨_, rfl, h⟩
      | false =>
        have hL2 : Heap.IsTuple (Shared.heap ⟨hp.push { cls := .type "list_iterator", data := .fields #[.ref l1, .int 0 0] }, g, d, tk, os⟩) l2 ys := SeB.push (b := false) hl2 _
        wp_walk using wpAny_pyIter_list hL1, wpAny_pyIter_tuple hL2
        exact ⟨_, rfl, h⟩
    | false =>
      have hL1 : Heap.IsTuple (Shared.heap ⟨hp, g, d, tk, os⟩) l1 xs := hl1
      cases c2 with
      | true =>
        have hL2 : Heap.IsList (Shared.heap ⟨hp.push { cls := .type "tuple_iterator", data := .fields #[.ref l1, .int 0 0] }, g, d, tk, os⟩) l2 ys := SeB.push (b := true) hl2 _
        wp_walk using wpAny_pyIter_tuple hL1, wpAny_pyIter_list hL2
        exact ⟨_, rfl, h⟩
      | false =>
        have hL2 : Heap.IsTuple (Shared.heap ⟨hp.push { cls := .type "tuple_iterator", data := .fields #[.ref l1, .int 0 0] }, g, d, tk, os⟩) l2 ys := SeB.push (b := false) hl2 _
        wp_walk using wpAny_pyIter_tuple hL1, wpAny_pyIter_tuple hL2
        exact ⟨_, rfl, h⟩
theorem itObj_at {b : Bool} {h : Heap} {it l : Addr} (e : h.get? it = some (itObj b l)) : ItB b h it l 0 := by
  cases b with
  | true => exact ⟨_, e, rfl, rfl⟩
  | false => exact ⟨_, e, rfl, rfl⟩
theorem itObj_free (b : Bool) (l : Addr) : (itObj b l).isFreed = false := by cases b <;> rfl
theorem call_zipB {prog : Program} {w : World} {A : Around} {E : Value → Shared → Prop} {s : Shared} {c1 c2 : Bool} {l1 l2 : Addr} {xs ys : Array Value} {Q : Value → Shared → Prop} (hl1 : SeB c1 s.heap l1 xs) (hl2 : SeB c2 s.heap l2 ys)
    (h : ∀ h', IsZip h' (s.heap.objs.size + 4) (s.heap.objs.size + 2) (s.heap.objs.size + 3) .none → IsPair h' (s.heap.objs.size + 2) (.ref s.heap.objs.size) (.ref (s.heap.objs.size + 1)) →
      IsPair h' (s.heap.objs.size + 3) .none .none → ItB c1 h' s.heap.objs.size l1 0 → ItB c2 h' (s.heap.objs.size + 1) l2 0 →
      (∀ c o, s.heap.get? c = some o → h'.get? c = some o) → Q (.ref (s.heap.objs.size + 4)) { s with heap := h' }) :
    wpAny (model prog w) A (call (.type "zip") [.ref l1, .ref l2]) Q E s := by
  refine callType_new F.called_zip (by decide) (F.typeCall_zip_2 _ _) (F.newCall_zip_2 _ _) (fun obj => F.args_object_init_3 obj _ _) F.entry_zip_new
    (meets_zipB c1 c2 l1 l2 xs ys) ⟨hl1, hl2, ?_⟩
  have z1 : (zB1 c1 s.heap l1).objs.size = s.heap.objs.size + 1 := Heap.size_push ..
  have z2 : (zB2 c1 c2 s.heap l1 l2).objs.size = s.heap.objs.size + 2 := by rw [Heap.size_push, z1]
  have z3 : (zB3 c1 c2 s.heap l1 l2).objs.size = s.heap.objs.size + 3 := by rw [Heap.size_push, z2]
  have z4 : (zB4 c1 c2 s.heap l1 l2).objs.size = s.heap.objs.size + 4 := by rw [Heap.size_push, z3]
  have g5 : (zB5 c1 c2 s.heap l1 l2).get? (zB4 c1 c2 s.heap l1 l2).objs.size = some _ := Heap.get?_push_size _ rfl
  have g4 : (zB5 c1 c2 s.heap l1 l2).get? (zB3 c1 c2 s.heap l1 l2).objs.size = some _ := Heap.get?_push_of_some _ (Heap.get?_push_size _ rfl)
  have g3 : (zB5 c1 c2 s.heap l1 l2).get? (zB2 c1 c2 s.heap l1 l2).objs.size = some _ := Heap.get?_push_of_some _ (Heap.get?_push_of_some _ (Heap.get?_push_size _ rfl))
  have g2 : (zB5 c1 c2 s.heap l1 l2).get? (zB1 c1 s.heap l1).objs.size = some _ := Heap.get?_push_of_some _ (Heap.get?_push_of_some _ (Heap.get?_push_of_some _ (Heap.get?_push_size _ (itObj_free c2 l2))))
  have g1 : (zB5 c1 c2 s.heap l1 l2).get? s.heap.objs.size = some _ := Heap.get?_push_of_some _ (Heap.get?_push_of_some _ (Heap.get?_push_of_some _ (Heap.get?_push_of_some _ (Heap.get?_push_size _ (itObj_free c1 l1)))))
  show _ ∧ _
  rw [z2, z3, z4] at g5
  rw [z1, z2] at g3
  rw [z3] at g4
  rw [z1] at g2
  rw [z4]
  exact ⟨⟨_, g5, rfl⟩, h _ g5 g3 g4 (itObj_at g1) (itObj_at g2) fun c o x => Heap.get?_push_of_some _ (Heap.get?_push_of_some _ (Heap.get?_push_of_some _ (Heap.get?_push_of_some _ (Heap.get?_push_of_some _ x))))⟩
section
variable {X : Cx}
def iZip (c1 c2 : Bool) (K : PySem.W.Frag) (ta : TA) : TI := fun σ H R => ta σ H fun vs H1 => ∃ a1 a2, vs = [.ref a1, .ref a2] ∧ (∃ xs, SqB c1 K H1 a1 xs) ∧ (∃ ys, SqB c2 K H1 a2 ys) ∧ R (ItZ c1 c2 K a1 a2) H1
theorem pi_zip (c1 c2 : Bool) {elts : List Expr} {k : Nat} {tpos : Pos} {a b : Expr} {ta : TA} {p pos : Pos} (hg : Gl X "zip") (hm : X.mg "zip" = none) (ha : PA X [a, b] ta) (hs : starEach [a, b] X.env = [(false, eval a X.env), (false, eval b X.env)] := by rfl) (hs2 : starEach [b] X.env = [(false, eval b X.env)] := by rfl) :
    PI X (.Tuple elts k tpos) (.Call (.Name "zip" p) [a, b] [] pos) (iZip c1 c2 X.K ta) := by
  intro pins s σ H R I h
  refine Call_ (ld_blt I hg hm bt_zip (PyProof.Rows.callWith_type1 (thn (ha pos pins s σ H _ I h) fun us s1 ⟨vs, H1, I1, r1, q1⟩ => ?_) (by rw [hs, hs2]) (by rw [hs2]; rfl)))
  obtain ⟨l1, l2, e, ⟨xs, hq1⟩, ⟨ys, hq2⟩, q⟩ := q1
  subst e
  obtain ⟨u1, u2, rfl, ru1, ru2⟩ := vals2 r1
  cases (show u1 = Value.ref l1 from ru1)
  cases (show u2 = Value.ref l2 from ru2)
  obtain ⟨its1, rv1, p1, _⟩ := seB I1 hq1
  obtain ⟨its2, rv2, p2, _⟩ := seB I1 hq2
  have lt1 : l1 < s1.heap.objs.size := by obtain ⟨o, z⟩ := p1.obj; exact Heap.lt_size z
  have lt2 : l2 < s1.heap.objs.size := by obtain ⟨o, z⟩ := p2.obj; exact Heap.lt_size z
  refine call_zipB p1 p2 fun h' a1 a2 a3 a4 a5 hk => wpAny_pyIter_zip a1 ?_
  have I2 : Inv X pins σ H1 { s1 with heap := h' } := I1.kept (t' := s1.toks) hk
  refine ⟨s1.heap.objs.size + 4, [s1.heap.objs.size + 4, s1.heap.objs.size + 2, s1.heap.objs.size + 3, s1.heap.objs.size, s1.heap.objs.size + 1], _, _, H1, rfl, I2, turn_zip c1 c2 _ _ _ _ _ l1 l2 (zipApart_new lt1 lt2), ⟨a1, a2, ⟨_, _, a3⟩, a4, a5⟩, fun c hc => ?_, q⟩
  have hle : s1.heap.objs.size ≤ c := by
    simp only [List.mem_cons, List.not_mem_nil, or_false] at hc
    rcases hc with z | z | z | z | z <;> rw [z] <;> first | exact Nat.le_add_right _ _ | exact Nat.le_refl _
  exact I1.fpOk hle (I1.hok.fresh hle)
end
end S

namespace S
open PySem PySem.Spec PyProof.Rows L2
/-! ### lists of fractions, by place -/
def FrsAt (H : Hp) (qs : List Rat) (vs : List V) : Prop := qs.length = vs.length ∧ ∀ (i : Nat) (q : Rat) (v : V), qs[i]? = some q → vs[i]? = some v → FrAt H q v
theorem FrsAt.nil (H : Hp) : FrsAt H [] [] := ⟨rfl, fun i q v h _ => by simp at h⟩
theorem FrsAt.mono {H H' : Hp} {qs : List Rat} {vs : List V} (h : FrsAt H qs vs) (e : Same H H') : FrsAt H' qs vs := ⟨h.1, fun i q v a b => (h.2 i q v a b).mono e⟩
theorem FrsAt.snoc {H : Hp} {qs : List Rat} {vs : List V} {q : Rat} {v : V} (h : FrsAt H qs vs) (g : FrAt H q v) : FrsAt H (qs ++ [q]) (vs ++ [v]) := by
  refine ⟨by simp [h.1], fun i a b ha hb => ?_⟩
  rw [List.getElem?_append] at ha hb
  rw [← h.1] at hb
  split at ha
  · rename_i c
    rw [if_pos c] at hb
    exact h.2 i a b ha hb
  · rename_i c
    rw [if_neg c] at hb
    cases e : i - qs.length with
    | zero =>
      rw [e] at ha hb
      cases (show q = a by simpa using ha)
      cases (show v = b by simpa using hb)
      exact g
    | succ n => rw [e] at ha; simp at ha
theorem FrsAt.get {H : Hp} {qs : List Rat} {vs : List V} (h : FrsAt H qs vs) {i : Nat} {q : Rat} (e : qs[i]? = some q) : ∃ v, vs[i]? = some v ∧ FrAt H q v := by
  have hi : i < qs.length := (List.getElem?_eq_some_iff.mp e).1
  have hv : i < vs.length := by rw [← h.1]; exact hi
  exact ⟨vs[i], List.getElem?_eq_getElem hv, h.2 i q _ e (List.getElem?_eq_getElem hv)⟩
theorem atI_of {α : Type} {xs : List α} {k : Int} {v : α} (h0 : 0 ≤ k) (h : xs[k.toNat]? = some v) : atI xs k = some v := by
  have ek : k = ((k.toNat : Nat) : Int) := by omega
  rw [ek]
  exact atI_nat h
theorem eqv_fr (p q : Rat) : PyData.eqv (frD p) (frD q) = decide (p = q) := by
  unfold frD
  simp only [PyData.eqv, PyData.eqvAll, Bool.and_true]
  by_cases h : p = q
  · subst h; simp
  · rw [decide_eq_false h]
    by_cases h1 : p.num = q.num
    · have h2 : p.den ≠ q.den := fun z => h (Rat.ext h1 z)
      have h3 : ((p.den : Int) == (q.den : Int)) = false := beq_eq_false_iff_ne.mpr (fun z => h2 (Int.ofNat.inj z))
      rw [h3, Bool.and_false]
    · have h3 : (p.num == q.num) = false := beq_eq_false_iff_ne.mpr h1
      rw [h3, Bool.false_and]
end S

namespace S
open PySem PySem.Spec PyProof.Rows L2
/-! ### parts, corners, paths at the abstract heap -/
abbrev Corner := Rat × List Rat
def PartsAt (H : Hp) (qs : List Rat) (v : V) : Prop := ∃ a vs, v = .ref a ∧ H a = some (.tup vs) ∧ FrsAt H qs vs
def CornAt (H : Hp) (c : Corner) (v : V) : Prop := ∃ a u1 u2, v = .ref a ∧ H a = some (.tup [u1, u2]) ∧ FrAt H c.1 u1 ∧ PartsAt H c.2 u2
def CornsAt (H : Hp) (cs : List Corner) (vs : List V) : Prop := cs.length = vs.length ∧ ∀ (i : Nat) (c : Corner) (v : V), cs[i]? = some c → vs[i]? = some v → CornAt H c v
def PathAt (H : Hp) (cs : List Corner) (v : V) : Prop := ∃ a vs, v = .ref a ∧ H a = some (.lst vs) ∧ CornsAt H cs vs
section
variable {H H' : Hp} {qs : List Rat} {c : Corner} {cs : List Corner} {v : V} {vs : List V} {l : Addr} {xs : List V} {o : HO}
theorem PartsAt.mono (h : PartsAt H qs v) (e : Same H H') : PartsAt H' qs v := let ⟨a, vs, x, y, z⟩ := h; ⟨a, vs, x, e _ _ y, z.mono e⟩
theorem CornAt.mono (h : CornAt H c v) (e : Same H H') : CornAt H' c v := let ⟨a, u1, u2, x, y, z, w⟩ := h; ⟨a, u1, u2, x, e _ _ y, z.mono e, w.mono e⟩
theorem CornsAt.mono (h : CornsAt H cs vs) (e : Same H H') : CornsAt H' cs vs := ⟨h.1, fun i c v a b => (h.2 i c v a b).mono e⟩
theorem PathAt.mono (h : PathAt H cs v) (e : Same H H') : PathAt H' cs v := let ⟨a, vs, x, y, z⟩ := h; ⟨a, vs, x, e _ _ y, z.mono e⟩
theorem CornsAt.nil : CornsAt H [] [] := ⟨rfl, fun i c v a _ => by simp at a⟩
theorem CornsAt.get {i : Nat} (h : CornsAt H cs vs) (e : cs[i]? = some c) : ∃ v, vs[i]? = some v ∧ CornAt H c v := by
  have hi : i < cs.length := (List.getElem?_eq_some_iff.mp e).1
  have hv : i < vs.length := by rw [← h.1]; exact hi
  exact ⟨vs[i], List.getElem?_eq_getElem hv, h.2 i c _ e (List.getElem?_eq_getElem hv)⟩
end
/-- lists pointwise related: one more -/
theorem pw_snoc {α β : Type} {R : α → β → Prop} {xs : List α} {ys : List β} (hl : xs.length = ys.length) (h : ∀ (i : Nat) (x : α) (y : β), xs[i]? = some x → ys[i]? = some y → R x y) {a : α} {b : β} (g : R a b) :
    (xs ++ [a]).length = (ys ++ [b]).length ∧ ∀ (i : Nat) (x : α) (y : β), (xs ++ [a])[i]? = some x → (ys ++ [b])[i]? = some y → R x y := by
  refine ⟨by simp [hl], fun i x y hx hy => ?_⟩
  rw [List.getElem?_append] at hx hy
  rw [← hl] at hy
  split at hx
  · rename_i c
    rw [if_pos c] at hy
    exact h i x y hx hy
  · rename_i c
    rw [if_neg c] at hy
    cases e : i - xs.length with
    | zero =>
      rw [e] at hx hy
      cases (show a = x by simpa using hx)
      cases (show b = y by simpa using hy)
      exact g
    | succ n => rw [e] at hx; simp at hx
theorem CornsAt.snoc {H : Hp} {cs : List Corner} {vs : List V} {c : Corner} {v : V} (h : CornsAt H cs vs) (g : CornAt H c v) : CornsAt H (cs ++ [c]) (vs ++ [v]) := pw_snoc h.1 h.2 g
/-! ### as data -/
def partsD (qs : List Rat) : PyData := .tuple (qs.map frD)
def cornD (c : Corner) : PyData := .tuple [frD c.1, partsD c.2]
def pathD (cs : List Corner) : PyData := .list (cs.map cornD)
theorem isAll_of {H : Hp} {α : Type} {R : α → V → Prop} {f : α → PyData} (hR : ∀ a v, R a v → Is H (f a) v) : ∀ {xs : List α} {vs : List V}, xs.length = vs.length → (∀ (i : Nat) (x : α) (v : V), xs[i]? = some x → vs[i]? = some v → R x v) → IsAll H (xs.map f) vs
  | [], [], _, _ => by rw [List.map_nil, IsAll]
  | [], _ :: _, h, _ => by simp at h
  | _ :: _, [], h, _ => by simp at h
  | x :: xs, v :: vs, hl, h => by
    rw [List.map_cons, IsAll]
    exact ⟨v, vs, rfl, hR x v (h 0 x v rfl rfl), isAll_of hR (by simpa using hl) fun i a b ha hb => h (i + 1) a b (by simpa using ha) (by simpa using hb)⟩
theorem PartsAt.is {H : Hp} {qs : List Rat} {v : V} (h : PartsAt H qs v) : Is H (partsD qs) v := by
  obtain ⟨a, vs, e, x, y⟩ := h
  unfold partsD
  rw [Is]
  exact ⟨a, vs, e, x, isAll_of (R := fun q v => FrAt H q v) (fun q v z => z.is) y.1 y.2⟩
theorem CornAt.is {H : Hp} {c : Corner} {v : V} (h : CornAt H c v) : Is H (cornD c) v := by
  obtain ⟨a, u1, u2, e, x, y, z⟩ := h
  unfold cornD
  rw [Is]
  exact ⟨a, _, e, x, by rw [IsAll]; exact ⟨u1, [u2], rfl, y.is, by rw [IsAll]; exact ⟨u2, [], rfl, z.is, by rw [IsAll]⟩⟩⟩
theorem PathAt.is {H : Hp} {cs : List Corner} {v : V} (h : PathAt H cs v) : Is H (pathD cs) v := by
  obtain ⟨a, vs, e, x, y⟩ := h
  unfold pathD
  rw [Is]
  exact ⟨a, vs, e, x, isAll_of (R := fun c v => CornAt H c v) (fun q v z => z.is) y.1 y.2⟩
theorem lay_all {α : Type} {f : α → PyData} (h : ∀ a, (f a).canLay0 = true) : ∀ xs : List α, PyData.canLayAll0 (xs.map f) = true
  | [] => rfl
  | x :: xs => by rw [List.map_cons, PyData.canLayAll0, h x, lay_all h xs]; rfl
theorem dep_all {α : Type} {f : α → PyData} {n : Nat} (h : ∀ a, (f a).depth ≤ n) : ∀ xs : List α, PyData.depthAll (xs.map f) ≤ n
  | [] => by rw [List.map_nil, PyData.depthAll]; exact Nat.zero_le _
  | x :: xs => by rw [List.map_cons, PyData.depthAll]; exact Nat.max_le.mpr ⟨h x, dep_all h xs⟩
theorem lay_fr (q : Rat) : (frD q).canLay0 = true := by unfold frD; simp [PyData.canLay0, PyData.canLayAll0]
theorem dep_fr (q : Rat) : (frD q).depth ≤ 2 := by unfold frD; simp [PyData.depth, PyData.depthAll]
theorem lay_parts (qs : List Rat) : (partsD qs).canLay0 = true := by unfold partsD; rw [PyData.canLay0]; exact lay_all lay_fr qs
theorem dep_parts (qs : List Rat) : (partsD qs).depth ≤ 3 := by unfold partsD; rw [PyData.depth]; exact Nat.succ_le_succ (dep_all dep_fr qs)
theorem lay_corn (c : Corner) : (cornD c).canLay0 = true := by unfold cornD; rw [PyData.canLay0, PyData.canLayAll0, PyData.canLayAll0, PyData.canLayAll0, lay_fr, lay_parts]; rfl
theorem dep_corn (c : Corner) : (cornD c).depth ≤ 4 := by
  unfold cornD
  rw [PyData.depth, PyData.depthAll, PyData.depthAll, PyData.depthAll]
  have h1 := dep_fr c.1
  have h2 := dep_parts c.2
  omega
theorem lay_path (cs : List Corner) : (pathD cs).canLay0 = true := by unfold pathD; rw [PyData.canLay0]; exact lay_all lay_corn cs
theorem dep_path (cs : List Corner) : (pathD cs).depth ≤ 5 := by unfold pathD; rw [PyData.depth]; exact Nat.succ_le_succ (dep_all dep_corn cs)
theorem shaped_path (cs : List Corner) : SeqAt.shaped (pathD cs) = true := by
  unfold SeqAt.shaped
  rw [lay_path, decide_eq_true (Nat.le_trans (dep_path cs) (by decide))]; rfl
/-! ### straight -/
def straight (c0 c1 c2 : Corner) : Prop := ∀ (i : Nat) (a b c : Rat), c0.2[i]? = some a → c1.2[i]? = some b → c2.2[i]? = some c → (b - a) * (c2.1 - c0.1) = (c - a) * (c1.1 - c0.1)
/-- two numbers, not in lowest terms -/
def PairAt (H : Hp) (t b : Int) (v : V) : Prop := ∃ p, v = .ref p ∧ H p = some (.tup [.int t, .int b])
theorem PairAt.mono {H H' : Hp} {t b : Int} {v : V} (h : PairAt H t b v) (e : Same H H') : PairAt H' t b v := let ⟨p, a, c⟩ := h; ⟨p, a, e _ _ c⟩
theorem gap_rat (p q : Rat) : Rat.divInt (q.num * p.den - p.num * q.den) (p.den * q.den) = q - p := by
  rw [Rat.sub_def', Int.mul_comm (p.den : Int), ← Int.natCast_mul, Rat.divInt_ofNat]
end S

namespace S
open PySem PySem.Spec PyProof.Rows L2

/-! ### the state of a run: lists that may change (cells), and data -/
abbrev Cells := List (Addr × List PyData)
abbrev Dat := List (PyData × V)
def AllIs (G : Hp) (ds : Dat) : Prop := ∀ p ∈ ds, Is G p.1 p.2
def Has (ds : Dat) (x : PyData) (v : V) : Prop := ∀ G, AllIs G ds → Is G x v
def HasAll (ds : Dat) (xs : List PyData) (vs : List V) : Prop := ∀ G, AllIs G ds → IsAll G xs vs
/-- B: the heap at the entry; G0: the data at the entry -/
def StaG (B G0 H : Hp) (cs : Cells) (ds : Dat) (G : Hp) : Prop :=
  Same G0 G ∧ Same G H ∧ Same B H ∧ (∀ p, B p ≠ none → G p = G0 p) ∧ (∀ c ∈ cs, B c.1 = none ∧ G c.1 = none ∧ ∃ vs, H c.1 = some (.lst vs) ∧ IsAll G c.2 vs) ∧ (cs.map (·.1)).Nodup ∧ AllIs G ds
def Sta (B G0 H : Hp) (cs : Cells) (ds : Dat) : Prop := ∃ G, StaG B G0 H cs ds G
/-- what a call may do -/
structure Grow (G H G' H' : Hp) : Prop where
  h : Same H H'
  g : Same G G'
  sub : Same G' H'
  old : ∀ p, H p ≠ none → G' p = G p

theorem AllIs.mono {G G' : Hp} {ds : Dat} (h : AllIs G ds) (e : Same G G') : AllIs G' ds := fun p hp => Is.mono e _ _ (h p hp)
theorem AllIs.cons {G : Hp} {ds : Dat} {x : PyData} {v : V} (h : AllIs G ds) (g : Is G x v) : AllIs G ((x, v) :: ds) := fun p hp => by
  rcases List.mem_cons.mp hp with rfl | hp
  · exact g
  · exact h p hp
theorem Has.int {ds : Dat} {i : Int} : Has ds (.int i) (.int i) := fun _ _ => by rw [Is]
theorem Has.bl {ds : Dat} {i : Bool} : Has ds (.bool i) (.bl i) := fun _ _ => by rw [Is]
theorem Has.non {ds : Dat} : Has ds .none .non := fun _ _ => by rw [Is]
theorem Has.str {ds : Dat} {i : Str} : Has ds (.str i) (.str i) := fun _ _ => by rw [Is]
theorem Has.mem {ds : Dat} {x : PyData} {v : V} (h : (x, v) ∈ ds) : Has ds x v := fun _ a => a _ h
theorem Has.weak {ds ds' : Dat} {x : PyData} {v : V} (h : Has ds x v) (k : ∀ p ∈ ds, Has ds' p.1 p.2) : Has ds' x v := fun G a => h G fun p hp => k p hp G a
theorem Has.tail {ds : Dat} {x : PyData} {v : V} {p : PyData × V} (h : Has ds x v) : Has (p :: ds) x v := h.weak fun q hq => .mem (List.mem_cons_of_mem _ hq)
theorem HasAll.nil {ds : Dat} : HasAll ds [] [] := fun _ _ => by rw [IsAll]
theorem HasAll.cons {ds : Dat} {x : PyData} {v : V} {xs : List PyData} {vs : List V} (h : Has ds x v) (g : HasAll ds xs vs) : HasAll ds (x :: xs) (v :: vs) := fun G a => by
  rw [IsAll]; exact ⟨v, vs, rfl, h G a, g G a⟩
theorem IsAll.len {H : Hp} : ∀ {xs : List PyData} {vs : List V}, IsAll H xs vs → xs.length = vs.length
  | [], vs, h => by rw [IsAll] at h; subst h; rfl
  | x :: xs, vs, h => by
    rw [IsAll] at h
    obtain ⟨v, r, rfl, _, g⟩ := h
    rw [List.length_cons, List.length_cons, IsAll.len g]
theorem IsAll.at {H : Hp} : ∀ {xs : List PyData} {vs : List V} {i : Nat} {x : PyData}, IsAll H xs vs → xs[i]? = some x → ∃ v, vs[i]? = some v ∧ Is H x v
  | [], _, _, _, _, e => by simp at e
  | y :: xs, vs, i, x, h, e => by
    rw [IsAll] at h
    obtain ⟨v, r, rfl, h1, g⟩ := h
    cases i with
    | zero => simp at e; subst e; exact ⟨v, rfl, h1⟩
    | succ i => simpa using IsAll.at g (by simpa using e)
theorem IsAll.app {H : Hp} : ∀ {xs ys : List PyData} {vs ws : List V}, IsAll H xs vs → IsAll H ys ws → IsAll H (xs ++ ys) (vs ++ ws)
  | [], ys, vs, ws, h, g => by rw [IsAll] at h; subst h; exact g
  | x :: xs, ys, vs, ws, h, g => by
    rw [IsAll] at h
    obtain ⟨v, r, rfl, h1, h2⟩ := h
    rw [List.cons_append, List.cons_append, IsAll]
    exact ⟨v, _, rfl, h1, IsAll.app h2 g⟩
theorem isAll_iff {H : Hp} {xs : List PyData} {vs : List V} : IsAll H xs vs ↔ xs.length = vs.length ∧ ∀ (i : Nat) (x : PyData) (v : V), xs[i]? = some x → vs[i]? = some v → Is H x v := by
  constructor
  · intro h
    refine ⟨h.len, fun i x v hx hv => ?_⟩
    obtain ⟨w, hw, g⟩ := h.at hx
    rw [hv] at hw; cases hw; exact g
  · rintro ⟨h1, h2⟩
    have := isAll_of (R := fun (a : PyData) v => Is H a v) (f := id) (fun _ _ z => z) h1 h2
    simpa using this
theorem IsAll.take {H : Hp} {xs : List PyData} {vs : List V} (h : IsAll H xs vs) (n : Nat) : IsAll H (xs.take n) (vs.take n) := by
  rw [isAll_iff] at h ⊢
  refine ⟨by rw [List.length_take, List.length_take, h.1], fun i x v hx hv => ?_⟩
  rw [List.getElem?_take] at hx hv
  split at hx
  · rename_i c; rw [if_pos c] at hv; exact h.2 i x v hx hv
  · cases hx
theorem IsAll.drop {H : Hp} {xs : List PyData} {vs : List V} (h : IsAll H xs vs) (n : Nat) : IsAll H (xs.drop n) (vs.drop n) := by
  rw [isAll_iff] at h ⊢
  refine ⟨by rw [List.length_drop, List.length_drop, h.1], fun i x v hx hv => ?_⟩
  rw [List.getElem?_drop] at hx hv
  exact h.2 _ x v hx hv
theorem IsAll.set {H : Hp} {xs : List PyData} {vs : List V} {x : PyData} {v : V} (h : IsAll H xs vs) (g : Is H x v) (n : Nat) : IsAll H (xs.set n x) (vs.set n v) := by
  rw [isAll_iff] at h ⊢
  refine ⟨by rw [List.length_set, List.length_set, h.1], fun i y w hx hv => ?_⟩
  rw [List.getElem?_set] at hx hv
  rw [← h.1] at hv
  split at hx
  · rename_i c
    rw [if_pos c] at hv
    split at hx
    · rename_i c2; rw [if_pos c2] at hv; cases hx; cases hv; exact g
    · cases hx
  · rename_i c
    rw [if_neg c] at hv
    exact h.2 i y w hx hv
section
variable {B G0 H H' : Hp} {cs cs' : Cells} {ds ds' : Dat} {x y : PyData} {v w : V} {xs ys : List PyData} {vs : List V} {D : Addr} {p : Addr}
theorem Sta.enter {G : Hp} (e : Same G H) (h : AllIs G ds) : Sta H G H [] ds :=
  ⟨G, Same.refl _, e, Same.refl _, fun _ _ => rfl, fun c hc => absurd hc (List.not_mem_nil), List.nodup_nil, h⟩
theorem Sta.base (S : Sta B G0 H cs ds) : Same B H := let ⟨_, _, _, b, _⟩ := S; b
theorem Sta.push (S : Sta B G0 H cs ds) (h : Has ds x v) : Sta B G0 H cs ((x, v) :: ds) :=
  let ⟨G, a, b, c, d, e, f, g⟩ := S; ⟨G, a, b, c, d, e, f, g.cons (h G g)⟩
theorem Sta.weak (S : Sta B G0 H cs ds) (hc : cs'.Sublist cs) (hd : ∀ p ∈ ds', Has ds p.1 p.2) : Sta B G0 H cs' ds' :=
  let ⟨G, a, b, c, d, e, f, g⟩ := S; ⟨G, a, b, c, d, fun q hq => e q (hc.subset hq), f.sublist (hc.map _), fun p hp => hd p hp G g⟩
theorem Sta.dat (S : Sta B G0 H cs ds) (hd : ∀ p ∈ ds', Has ds p.1 p.2) : Sta B G0 H cs ds' := S.weak (List.Sublist.refl _) hd
theorem Sta.drop1 {q : PyData × V} (S : Sta B G0 H cs (q :: ds)) : Sta B G0 H cs ds := S.dat fun p hp => .mem (List.mem_cons_of_mem _ hp)
theorem Sta.dropC {q : Addr × List PyData} (S : Sta B G0 H (q :: cs) ds) : Sta B G0 H cs ds := S.weak (List.sublist_cons_self _ _) fun p hp => .mem hp
theorem Sta.permC (S : Sta B G0 H cs ds) (h : cs.Perm cs') : Sta B G0 H cs' ds :=
  let ⟨G, a, b, c, d, e, f, g⟩ := S; ⟨G, a, b, c, d, fun q hq => e q (h.mem_iff.mpr hq), (h.map _).nodup_iff.mp f, g⟩
theorem Sta.swap {c1 c2 : Addr × List PyData} (S : Sta B G0 H (c1 :: c2 :: cs) ds) : Sta B G0 H (c2 :: c1 :: cs) ds := S.permC (List.Perm.swap _ _ _)
theorem Sta.same (S : Sta B G0 H cs ds) (h : Same H H') : Sta B G0 H' cs ds :=
  let ⟨G, a, b, c, d, e, f, g⟩ := S; ⟨G, a, b.trans h, c.trans h, d, fun q hq => let ⟨x, y, vs, z, u⟩ := e q hq; ⟨x, y, vs, h _ _ z, u⟩, f, g⟩
/-- behind a call -/
theorem StaG.grow {G G' : Hp} (S : StaG B G0 H cs ds G) (h : Grow G H G' H') : StaG B G0 H' cs ds G' := by
  obtain ⟨a, b, c, d, e, f, g⟩ := S
  refine ⟨a.trans h.g, h.sub, c.trans h.h, fun p hp => ?_, fun q hq => ?_, f, g.mono h.g⟩
  · rw [h.old p fun z => ?_, d p hp]
    cases hb : B p with
    | none => exact hp hb
    | some o => rw [c _ _ hb] at z; cases z
  · obtain ⟨x, y, vs, z, u⟩ := e q hq
    exact ⟨x, by rw [h.old q.1 (by rw [z]; simp)]; exact y, vs, h.h _ _ z, IsAll.mono h.g _ _ u⟩
theorem Sta.leave {G : Hp} (S : Sta H G H' cs ds) : ∃ G', Grow G H G' H' ∧ AllIs G' ds :=
  let ⟨G', a, b, c, d, _, _, g⟩ := S; ⟨G', ⟨c, a, b, d⟩, g⟩
theorem Sta.newT (S : Sta B G0 H cs ds) (hp : H p = none) (h : HasAll ds xs vs) : Sta B G0 (upd H p (.tup vs)) cs ((.tuple xs, .ref p) :: ds) := by
  obtain ⟨G, a, b, c, d, e, f, g⟩ := S
  have hG : G p = none := b.free hp
  have eG := Same.new hG (.tup vs)
  refine ⟨upd G p (.tup vs), a.trans eG, fun q o hq => ?_, c.trans (Same.new hp _), fun q hq => ?_, fun q hq => ?_, f, (g.mono eG).cons ?_⟩
  · by_cases hqp : q = p
    · subst hqp; rw [upd_same] at hq ⊢; exact hq
    · rw [upd_ne hqp] at hq ⊢; exact b _ _ hq
  · have hqp : q ≠ p := fun z => by subst z; exact hq (c.free hp)
    rw [upd_ne hqp]; exact d q hq
  · obtain ⟨x, y, ws, z, u⟩ := e q hq
    have hqp : q.1 ≠ p := ne_of_none z hp
    exact ⟨x, by rw [upd_ne hqp]; exact y, ws, by rw [upd_ne hqp]; exact z, IsAll.mono eG _ _ u⟩
  · rw [Is]
    exact ⟨p, vs, rfl, upd_same, IsAll.mono eG _ _ (h G g)⟩
theorem Sta.newL (S : Sta B G0 H cs ds) (hp : H p = none) (h : HasAll ds xs vs) : Sta B G0 (upd H p (.lst vs)) ((p, xs) :: cs) ds := by
  obtain ⟨G, a, b, c, d, e, f, g⟩ := S
  have hG : G p = none := b.free hp
  refine ⟨G, a, b.trans (Same.new hp _), c.trans (Same.new hp _), d, fun q hq => ?_, ?_, g⟩
  · rcases List.mem_cons.mp hq with rfl | hq
    · exact ⟨c.free hp, hG, vs, upd_same, h G g⟩
    · obtain ⟨x, y, ws, z, u⟩ := e q hq
      have hqp : q.1 ≠ p := ne_of_none z hp
      exact ⟨x, y, ws, by rw [upd_ne hqp]; exact z, u⟩
  · rw [List.map_cons, List.nodup_cons]
    refine ⟨fun z => ?_, f⟩
    obtain ⟨q, hq, hqp⟩ := List.mem_map.mp z
    obtain ⟨_, _, ws, z, _⟩ := e q hq
    rw [hqp, hp] at z; cases z
theorem Sta.freeze (S : Sta B G0 H ((D, xs) :: cs) ds) : Sta B G0 H cs ((.list xs, .ref D) :: ds) := by
  obtain ⟨G, a, b, c, d, e, f, g⟩ := S
  obtain ⟨x, y, vs, z, u⟩ := e _ (List.mem_cons_self ..)
  have eG := Same.new y (.lst vs)
  rw [List.map_cons, List.nodup_cons] at f
  refine ⟨upd G D (.lst vs), a.trans eG, fun q o hq => ?_, c, fun q hq => ?_, fun q hq => ?_, f.2, (g.mono eG).cons ?_⟩
  · by_cases hqp : q = D
    · subst hqp; rw [upd_same] at hq; rw [← hq]; exact z
    · rw [upd_ne hqp] at hq; exact b _ _ hq
  · have hqp : q ≠ D := fun z => by subst z; exact hq x
    rw [upd_ne hqp]; exact d q hq
  · obtain ⟨x', y', ws, z', u'⟩ := e q (List.mem_cons_of_mem _ hq)
    have hqp : q.1 ≠ D := fun z => f.1 (List.mem_map.mpr ⟨q, hq, z⟩)
    exact ⟨x', by rw [upd_ne hqp]; exact y', ws, z', IsAll.mono eG _ _ u'⟩
  · rw [Is]
    exact ⟨D, vs, rfl, upd_same, IsAll.mono eG _ _ u⟩
/-- a cell, opened -/
theorem Sta.cell (S : Sta B G0 H cs ds) (h : (D, xs) ∈ cs) : ∃ vs, H D = some (.lst vs) ∧ xs.length = vs.length ∧ ∀ (i : Nat) (x : PyData), xs[i]? = some x → ∃ v, vs[i]? = some v ∧ Sta B G0 H cs ((x, v) :: ds) := by
  obtain ⟨G, a, b, c, d, e, f, g⟩ := S
  obtain ⟨_, _, vs, z, u⟩ := e _ h
  refine ⟨vs, z, u.len, fun i x hx => ?_⟩
  obtain ⟨v, hv, k⟩ := u.at hx
  exact ⟨v, hv, G, a, b, c, d, e, f, g.cons k⟩
/-- the first cell, rewritten -/
theorem Sta.put (S : Sta B G0 H ((D, xs) :: cs) ds) : ∃ vs, H D = some (.lst vs) ∧ xs.length = vs.length ∧ ∀ ys ws, (∀ G, AllIs G ds → IsAll G xs vs → IsAll G ys ws) → Sta B G0 (upd H D (.lst ws)) ((D, ys) :: cs) ds := by
  obtain ⟨G, a, b, c, d, e, f, g⟩ := S
  obtain ⟨x, y, vs, z, u⟩ := e _ (List.mem_cons_self ..)
  refine ⟨vs, z, u.len, fun ys ws h => ?_⟩
  have key : ∀ {A : Hp}, Same A H → A D = none → Same A (upd H D (.lst ws)) := fun {A} s n q o hq => by
    rw [upd_ne (ne_of_none hq n)]; exact s _ _ hq
  have f' := f
  rw [List.map_cons, List.nodup_cons] at f'
  refine ⟨G, a, key b y, key c x, d, fun q hq => ?_, f, g⟩
  rcases List.mem_cons.mp hq with rfl | hq
  · exact ⟨x, y, ws, upd_same, h G g u⟩
  · obtain ⟨x', y', ws', z', u'⟩ := e q (List.mem_cons_of_mem _ hq)
    have hqp : q.1 ≠ D := fun z => f'.1 (List.mem_map.mpr ⟨q, hq, z⟩)
    exact ⟨x', y', ws', by rw [upd_ne hqp]; exact z', u'⟩
/-- a tuple of the data, opened -/
theorem Sta.tup (S : Sta B G0 H cs ds) (h : Has ds (.tuple xs) v) : ∃ p vs, v = .ref p ∧ H p = some (.tup vs) ∧ xs.length = vs.length ∧ ∀ (i : Nat) (x : PyData), xs[i]? = some x → ∃ w, vs[i]? = some w ∧ Sta B G0 H cs ((x, w) :: ds) := by
  obtain ⟨G, a, b, c, d, e, f, g⟩ := S
  have q := h G g
  rw [Is] at q
  obtain ⟨p, vs, hv, hp, u⟩ := q
  refine ⟨p, vs, hv, b _ _ hp, u.len, fun i x hx => ?_⟩
  obtain ⟨v, hv, k⟩ := u.at hx
  exact ⟨v, hv, G, a, b, c, d, e, f, g.cons k⟩
theorem Sta.lst (S : Sta B G0 H cs ds) (h : Has ds (.list xs) v) : ∃ p vs, v = .ref p ∧ H p = some (.lst vs) ∧ xs.length = vs.length ∧ ∀ (i : Nat) (x : PyData), xs[i]? = some x → ∃ w, vs[i]? = some w ∧ Sta B G0 H cs ((x, w) :: ds) := by
  obtain ⟨G, a, b, c, d, e, f, g⟩ := S
  have q := h G g
  rw [Is] at q
  obtain ⟨p, vs, hv, hp, u⟩ := q
  refine ⟨p, vs, hv, b _ _ hp, u.len, fun i x hx => ?_⟩
  obtain ⟨v, hv, k⟩ := u.at hx
  exact ⟨v, hv, G, a, b, c, d, e, f, g.cons k⟩
/-- .. all its items at once -/
theorem Sta.tupAll (S : Sta B G0 H cs ds) (h : Has ds (.tuple xs) v) : ∃ p vs, v = .ref p ∧ H p = some (.tup vs) ∧ xs.length = vs.length ∧ Sta B G0 H cs (xs.zip vs ++ ds) ∧ ∀ G, AllIs G (xs.zip vs ++ ds) → IsAll G xs vs := by
  obtain ⟨G, a, b, c, d, e, f, g⟩ := S
  have q := h G g
  rw [Is] at q
  obtain ⟨p, vs, hv, hp, u⟩ := q
  refine ⟨p, vs, hv, b _ _ hp, u.len, ⟨G, a, b, c, d, e, f, fun q hq => ?_⟩, fun G' hG => ?_⟩
  · rcases List.mem_append.mp hq with hq | hq
    · obtain ⟨i, hi⟩ := List.mem_iff_getElem?.mp hq
      rw [List.getElem?_zip_eq_some] at hi
      exact (isAll_iff.mp u).2 i _ _ hi.1 hi.2
    · exact g q hq
  · refine isAll_iff.mpr ⟨u.len, fun i x v hx hv => ?_⟩
    exact hG (x, v) (List.mem_append_left _ (List.mem_iff_getElem?.mpr ⟨i, List.getElem?_zip_eq_some.mpr ⟨hx, hv⟩⟩))
theorem Sta.lstAll (S : Sta B G0 H cs ds) (h : Has ds (.list xs) v) : ∃ p vs, v = .ref p ∧ H p = some (.lst vs) ∧ xs.length = vs.length ∧ Sta B G0 H cs (xs.zip vs ++ ds) ∧ ∀ G, AllIs G (xs.zip vs ++ ds) → IsAll G xs vs := by
  obtain ⟨G, a, b, c, d, e, f, g⟩ := S
  have q := h G g
  rw [Is] at q
  obtain ⟨p, vs, hv, hp, u⟩ := q
  refine ⟨p, vs, hv, b _ _ hp, u.len, ⟨G, a, b, c, d, e, f, fun q hq => ?_⟩, fun G' hG => ?_⟩
  · rcases List.mem_append.mp hq with hq | hq
    · obtain ⟨i, hi⟩ := List.mem_iff_getElem?.mp hq
      rw [List.getElem?_zip_eq_some] at hi
      exact (isAll_iff.mp u).2 i _ _ hi.1 hi.2
    · exact g q hq
  · refine isAll_iff.mpr ⟨u.len, fun i x v hx hv => ?_⟩
    exact hG (x, v) (List.mem_append_left _ (List.mem_iff_getElem?.mpr ⟨i, List.getElem?_zip_eq_some.mpr ⟨hx, hv⟩⟩))
theorem Sta.cellAll (S : Sta B G0 H cs ds) (h : (D, xs) ∈ cs) : ∃ vs, H D = some (.lst vs) ∧ xs.length = vs.length ∧ Sta B G0 H cs (xs.zip vs ++ ds) ∧ ∀ G, AllIs G (xs.zip vs ++ ds) → IsAll G xs vs := by
  obtain ⟨G, a, b, c, d, e, f, g⟩ := S
  obtain ⟨_, _, vs, z, u⟩ := e _ h
  refine ⟨vs, z, u.len, ⟨G, a, b, c, d, e, f, fun q hq => ?_⟩, fun G' hG => ?_⟩
  · rcases List.mem_append.mp hq with hq | hq
    · obtain ⟨i, hi⟩ := List.mem_iff_getElem?.mp hq
      rw [List.getElem?_zip_eq_some] at hi
      exact (isAll_iff.mp u).2 i _ _ hi.1 hi.2
    · exact g q hq
  · refine isAll_iff.mpr ⟨u.len, fun i x v hx hv => ?_⟩
    exact hG (x, v) (List.mem_append_left _ (List.mem_iff_getElem?.mpr ⟨i, List.getElem?_zip_eq_some.mpr ⟨hx, hv⟩⟩))
theorem Sta.hp (S : Sta B G0 H cs ds) (h : Has ds x v) : Is H x v := by
  obtain ⟨G, a, b, c, d, e, f, g⟩ := S
  exact Is.mono b _ _ (h G g)
theorem Sta.hpC (S : Sta B G0 H cs ds) (h : (D, xs) ∈ cs) : Is H (.list xs) (.ref D) := by
  obtain ⟨G, a, b, c, d, e, f, g⟩ := S
  obtain ⟨_, _, vs, z, u⟩ := e _ h
  rw [Is]; exact ⟨D, vs, rfl, z, IsAll.mono b _ _ u⟩
end

/-! ### steps of a reading -/
def mkD (D : Ends) (u : L2.St → Hp → Prop) : Ends := { D with nx := u }
def mkL (D : Ends) (u : L2.St → Hp → Prop) : Ends := { D with nx := u, ct := u, bk := D.nx }
def endD (Q : VK) : Ends := { nx := fun _ H' => Q .non H', rt := Q }
section
variable {B G0 H : Hp} {cs : Cells} {ds : Dat} {D : Ends} {σ : L2.St} {Q : VK} {x y : PyData} {v w : V} {xs : List PyData} {vs : List V} {K : PySem.W.Frag} {X : Cx}
theorem rd_seq {t u : TS} (h : t (mkD D (u D)) σ H) : tSeq t u D σ H := h
theorem rd_asg {te : TE} {g : TG} (h : te σ H fun x H1 => g x σ H1 D.nx) : tAsg te g D σ H := h
theorem rd_name {i : Nat} {N : L2.St → Hp → Prop} (h : N (σ.set i (some v)) H) : gName i v σ H N := h
theorem rd_start {t : TS} (h : t (endD Q) σ H) : t { nx := fun _ H' => Q .non H', rt := Q } σ H := h
theorem rd_nx {u : L2.St → Hp → Prop} (h : u σ H) : Ends.nx (mkD D u) σ H := h
theorem rd_rt {u : L2.St → Hp → Prop} (h : Ends.rt D v H) : Ends.rt (mkD D u) v H := h
theorem rd_ct {u : L2.St → Hp → Prop} (h : Ends.ct D σ H) : Ends.ct (mkD D u) σ H := h
theorem rd_bk {u : L2.St → Hp → Prop} (h : Ends.bk D σ H) : Ends.bk (mkD D u) σ H := h
theorem rd_nx0 (h : Q .non H) : Ends.nx (endD Q) σ H := h
theorem rd_rt0 (h : Q v H) : Ends.rt (endD Q) v H := h
theorem rd_nxL {u : L2.St → Hp → Prop} (h : u σ H) : Ends.nx (mkL D u) σ H := h
theorem rd_ctL {u : L2.St → Hp → Prop} (h : u σ H) : Ends.ct (mkL D u) σ H := h
theorem rd_bkL {u : L2.St → Hp → Prop} (h : Ends.nx D σ H) : Ends.bk (mkL D u) σ H := h
theorem rd_rtL {u : L2.St → Hp → Prop} (h : Ends.rt D v H) : Ends.rt (mkL D u) v H := h
theorem rd_next (h : D.nx σ H) : tNext D σ H := h
theorem rd_ret {te : TE} (h : te σ H D.rt) : tRet te D σ H := h
theorem rd_retN (h : D.rt .non H) : tRetN D σ H := h
theorem rd_drop {te : TE} (h : te σ H fun _ H1 => D.nx σ H1) : tDrop te D σ H := h
theorem rd_if {c : TT} {t u : TS} (h : c σ H fun b H1 => if b = true then t D σ H1 else u D σ H1) : tIfS c t u D σ H := h
theorem rd_var {i : Nat} (e : σ[i]? = some (some v)) (h : Q v H) : tVar i σ H Q := ⟨v, e, h⟩
theorem rd_c (h : Q v H) : tC v σ H Q := h
theorem rd_op {r : R2} {ta tb : TE} (h : ta σ H fun x H1 => tb σ H1 fun y H2 => r x y H2 Q) : tOp r ta tb σ H Q := h
theorem rd_un {r : V → Hp → VK → Prop} {ta : TE} (h : ta σ H fun x H1 => r x H1 Q) : tUn r ta σ H Q := h
theorem rd_rI0 {g : Int → Int → V} {i j : Int} (h : Q (g i j) H) : rI0 g (.int i) (.int j) H Q := ⟨i, j, rfl, rfl, h⟩
theorem rd_mulB {i j : Int} (c : IntMulOk i j) (h : Q (.int (i * j)) H) : rI IntMulOk (fun i j => .int (i * j)) (.int i) (.int j) H Q := ⟨i, j, rfl, rfl, c, h⟩
theorem rd_modL {i j : Int} (c : 0 < j) (h : Q (.int (i % j)) H) : rI (fun _ j => 0 < j) (fun i j => .int (i % j)) (.int i) (.int j) H Q := ⟨i, j, rfl, rfl, c, h⟩
theorem rd_modN {i j : Int} (c : j ≠ 0) (h : Q (.int (i.fmod j)) H) : rI (fun _ j => j ≠ 0) (fun i j => .int (i.fmod j)) (.int i) (.int j) H Q := ⟨i, j, rfl, rfl, c, h⟩
theorem rd_fdivL {i j : Int} (c : CDiv i j) (h : Q (.int (i / j)) H) : rI CDiv (fun i j => .int (i / j)) (.int i) (.int j) H Q := ⟨i, j, rfl, rfl, c, h⟩
theorem rd_fdivB {i j : Int} (c : CDv i j) (h : Q (.int (i.fdiv j)) H) : rI CDv (fun i j => .int (i.fdiv j)) (.int i) (.int j) H Q := ⟨i, j, rfl, rfl, c, h⟩
theorem rd_pow {i j : Int} (c : CPow i j) (h : Q (.int (i ^ j.toNat)) H) : rI CPow (fun i j => .int (i ^ j.toNat)) (.int i) (.int j) H Q := ⟨i, j, rfl, rfl, c, h⟩
theorem rd_rU {g : Int → V} {i : Int} (h : Q (g i) H) : rU g (.int i) H Q := ⟨i, rfl, h⟩
theorem rd_test {t : TE} {R : Bool → Hp → Prop} (h : t σ H fun x H' => ∃ k, x = .bl k ∧ R k H') : tTest t σ H R := h
theorem rd_tB {t : TE} {R : Bool → Hp → Prop} (h : t σ H fun x H' => ∃ k, x = .bl k ∧ R k H') : tB t σ H R := h
theorem rd_isbl {k : Bool} {R : Bool → Prop} (h : R k) : ∃ k', V.bl k = .bl k' ∧ R k' := ⟨k, rfl, h⟩
theorem rd_not {t : TT} {R : Bool → Hp → Prop} (h : t σ H fun c H1 => R (!c) H1) : tNot t σ H R := h
theorem rd_and {t u : TT} {R : Bool → Hp → Prop} (h : t σ H fun c H1 => if c = true then u σ H1 R else R false H1) : tAnd t u σ H R := h
theorem rd_or {t u : TT} {R : Bool → Hp → Prop} (h : t σ H fun c H1 => if c = true then R true H1 else u σ H1 R) : tOr t u σ H R := h
theorem rd_andV {ta tb : TE} (h : ta σ H fun x H1 => ∃ c, x = .bl c ∧ if c = true then tb σ H1 Q else Q (.bl false) H1) : tAndV ta tb σ H Q := h
theorem rd_orV {ta tb : TE} (h : ta σ H fun x H1 => ∃ c, x = .bl c ∧ if c = true then Q (.bl true) H1 else tb σ H1 Q) : tOrV ta tb σ H Q := h
theorem rd_notV {ta : TE} (h : ta σ H fun x H1 => ∃ c, x = .bl c ∧ Q (.bl (!c)) H1) : tNotV ta σ H Q := h
theorem rd_ifE {t : TT} {ta tb : TE} (h : t σ H fun c H1 => if c = true then ta σ H1 Q else tb σ H1 Q) : tIf t ta tb σ H Q := h
theorem rd_nil {R : List V → Hp → Prop} (h : R [] H) : tNil σ H R := h
theorem rd_cons {ta : TE} {tr : TA} {R : List V → Hp → Prop} (h : ta σ H fun x H1 => tr σ H1 fun xs H2 => R (x :: xs) H2) : tCons ta tr σ H R := h
theorem rd_call {sp : Sp} {E : XK} {t : TA} (h : t σ H fun vs H1 => sp vs H1 Q E) : tCall sp [] E t σ H Q := by
  unfold tCall
  simpa only [List.append_nil] using h
theorem rd_cb {r : List V → Hp → VK → Prop} {t : TA} (h : t σ H fun vs H1 => r vs H1 Q) : tCB r t σ H Q := h
theorem rd_aug {i : Nat} {te : TE} {ti : TIp} (e : σ[i]? = some (some v)) (h : te σ H fun y H1 => ti v y H1 fun z H2 => D.nx (σ.set i (some z)) H2) : tAug i te ti D σ H := ⟨v, e, h⟩
theorem rd_ipI {f : Int → Int → Int} {i j : Int} (h : Q (.int (f i j)) H) : ipI f (.int i) (.int j) H Q := ⟨i, j, rfl, rfl, h⟩
theorem rd_par {i j : Nat} {ta : TA} (h : ta σ H fun vs H1 => ∃ v w, vs = [v, w] ∧ D.nx ((σ.set i (some v)).set j (some w)) H1) : tPar i j ta D σ H := h
theorem rd_is2 {R : V → V → Prop} (h : R v w) : ∃ v' w', [v, w] = [v', w'] ∧ R v' w' := ⟨v, w, rfl, h⟩
/-- comparisons -/
def rEqA : R2 := fun x y H Q => rEq x y H Q ∨ rEqD x y H Q
def rNeA : R2 := fun x y H Q => rNe x y H Q ∨ rNeD x y H Q
theorem op_eqA (hu : X.A.units + 64 < cLine) : OpR X (compareOp .Eq) rEqA := op_eq.or (op_eqD hu)
theorem op_neA (hu : X.A.units + 64 < cLine) : OpR X (compareOp .NotEq) rNeA := op_ne.or (op_neD hu)
theorem dec_congr {a b : Prop} [Decidable a] [Decidable b] (h : a ↔ b) : decide a = decide b := by
  by_cases ha : a
  · rw [decide_eq_true ha, decide_eq_true (h.mp ha)]
  · rw [decide_eq_false ha, decide_eq_false (fun z => ha (h.mpr z))]
theorem rd_eqI {i j : Int} (h : Q (.bl (decide (i = j))) H) : rEqA (.int i) (.int j) H Q := .inl ⟨rfl, by
  rw [dec_congr (show V.int i = V.int j ↔ i = j from ⟨V.int.inj, congrArg _⟩)]; exact h⟩
theorem rd_neI {i j : Int} (h : Q (.bl (!decide (i = j))) H) : rNeA (.int i) (.int j) H Q := .inl ⟨rfl, by
  rw [dec_congr (show V.int i = V.int j ↔ i = j from ⟨V.int.inj, congrArg _⟩)]; exact h⟩
theorem rd_eqB {i j : Bool} (h : Q (.bl (decide (i = j))) H) : rEqA (.bl i) (.bl j) H Q := .inl ⟨rfl, by
  rw [dec_congr (show V.bl i = V.bl j ↔ i = j from ⟨V.bl.inj, congrArg _⟩)]; exact h⟩
theorem rd_neB {i j : Bool} (h : Q (.bl (!decide (i = j))) H) : rNeA (.bl i) (.bl j) H Q := .inl ⟨rfl, by
  rw [dec_congr (show V.bl i = V.bl j ↔ i = j from ⟨V.bl.inj, congrArg _⟩)]; exact h⟩
theorem rd_eqD (h1 : Is H x v) (h2 : Is H y w) (s1 : SeqAt.shaped x = true) (s2 : SeqAt.shaped y = true) (h : Q (.bl (PyData.eqv x y)) H) : rEqA v w H Q := .inr ⟨x, y, h1, h2, s1, s2, h⟩
theorem rd_neD (h1 : Is H x v) (h2 : Is H y w) (s1 : SeqAt.shaped x = true) (s2 : SeqAt.shaped y = true) (h : Q (.bl (!PyData.eqv x y)) H) : rNeA v w H Q := .inr ⟨x, y, h1, h2, s1, s2, h⟩
/-- displays -/
def kTup (Q : VK) (xs : List V) (H : Hp) : Prop := xs.length ≤ sizeLine ∧ ∀ p, H p = none → Q (.ref p) (upd H p (.tup xs))
def kLst (Q : VK) (xs : List V) (H : Hp) : Prop := xs.length ≤ sizeLine ∧ ∀ p, H p = none → Q (.ref p) (upd H p (.lst xs))
theorem rd_tup {t : TA} (h : t σ H (kTup Q)) : tTup t σ H Q := h
theorem rd_lst {t : TA} (h : t σ H (kLst Q)) : tLst t σ H Q := h
theorem rd_kTup (S : Sta B G0 H cs ds) (h : HasAll ds xs vs) (hl : vs.length ≤ 1000) (k : ∀ p H', Same H H' → Sta B G0 H' cs ((.tuple xs, .ref p) :: ds) → Q (.ref p) H') : kTup Q vs H :=
  ⟨Nat.le_of_lt (small1000 hl), fun p hp => k p _ (Same.new hp _) (S.newT hp h)⟩
theorem rd_kLst (S : Sta B G0 H cs ds) (h : HasAll ds xs vs) (hl : vs.length ≤ 1000) (k : ∀ p H', Same H H' → Sta B G0 H' ((p, xs) :: cs) ds → Q (.ref p) H') : kLst Q vs H :=
  ⟨Nat.le_of_lt (small1000 hl), fun p hp => k p _ (Same.new hp _) (S.newL hp h)⟩
/-- subscripts -/
theorem atI_at {α β : Type} {xs : List α} {ys : List β} {i : Int} {x : α} (hl : xs.length = ys.length) (h : atI xs i = some x) : ∃ j : Nat, xs[j]? = some x ∧ ∀ y, ys[j]? = some y → atI ys i = some y := by
  unfold atI at h ⊢
  rw [← hl]
  cases e : ixN xs.length i with
  | none => rw [e] at h; cases h
  | some j => rw [e] at h; exact ⟨j, h, fun y hy => hy⟩
theorem rd_ixT {i : Int} (S : Sta B G0 H cs ds) (hx : Has ds (.tuple xs) v) (hi : atI xs i = some x) (k : ∀ w, Sta B G0 H cs ((x, w) :: ds) → Q w H) : rIx K v (.int i) H Q := by
  obtain ⟨p, vs, rfl, hp, hl, z⟩ := S.tup hx
  obtain ⟨j, hj, hy⟩ := atI_at hl hi
  obtain ⟨w, hw, S'⟩ := z j x hj
  exact .inr (.inl ⟨p, vs, i, w, rfl, rfl, SqT.of hp, hy _ hw, k w S'⟩)
theorem Sta.top {n : PyData} (S : Sta B G0 H cs ((n, v) :: ds)) : Is H n v := S.hp (.mem (List.mem_cons_self ..))
theorem rd_ixTI {i n : Int} (S : Sta B G0 H cs ds) (hx : Has ds (.tuple xs) v) (hi : atI xs i = some (.int n)) (k : Q (.int n) H) : rIx K v (.int i) H Q :=
  rd_ixT S hx hi fun w S' => by have := S'.top; rw [Is] at this; subst this; exact k
theorem rd_ixL {i : Int} (S : Sta B G0 H cs ds) (hx : Has ds (.list xs) v) (hi : atI xs i = some x) (k : ∀ w, Sta B G0 H cs ((x, w) :: ds) → Q w H) : rIx K v (.int i) H Q := by
  obtain ⟨p, vs, rfl, hp, hl, z⟩ := S.lst hx
  obtain ⟨j, hj, hy⟩ := atI_at hl hi
  obtain ⟨w, hw, S'⟩ := z j x hj
  exact .inl ⟨p, vs, i, w, rfl, rfl, SqL.of hp, hy _ hw, k w S'⟩
theorem rd_ixLI {i n : Int} (S : Sta B G0 H cs ds) (hx : Has ds (.list xs) v) (hi : atI xs i = some (.int n)) (k : Q (.int n) H) : rIx K v (.int i) H Q :=
  rd_ixL S hx hi fun w S' => by have := S'.top; rw [Is] at this; subst this; exact k
theorem rd_ixC {i : Int} {L : Addr} (S : Sta B G0 H cs ds) (hx : (L, xs) ∈ cs) (hi : atI xs i = some x) (k : ∀ w, Sta B G0 H cs ((x, w) :: ds) → Q w H) : rIx K (.ref L) (.int i) H Q := by
  obtain ⟨vs, hp, hl, z⟩ := S.cell hx
  obtain ⟨j, hj, hy⟩ := atI_at hl hi
  obtain ⟨w, hw, S'⟩ := z j x hj
  exact .inl ⟨L, vs, i, w, rfl, rfl, SqL.of hp, hy _ hw, k w S'⟩
theorem rd_ixCI {i n : Int} {L : Addr} (S : Sta B G0 H cs ds) (hx : (L, xs) ∈ cs) (hi : atI xs i = some (.int n)) (k : Q (.int n) H) : rIx K (.ref L) (.int i) H Q :=
  rd_ixC S hx hi fun w S' => by have := S'.top; rw [Is] at this; subst this; exact k
theorem rd_ixS {i : Int} {a : Addr} {ns : List Int} (hS : SqL K H a (ns.map V.int)) (h0 : 0 ≤ i) (h1 : i < (ns.length : Int)) (k : Q (.int (ns.getD i.toNat 0)) H) : rIx K (.ref a) (.int i) H Q :=
  .inl ⟨a, _, i, _, rfl, rfl, hS, atI_ints h0 h1, k⟩
/-- len -/
def rLen (K : PySem.W.Frag) : List V → Hp → VK → Prop := fun xs H Q => ∃ p ys, xs = [.ref p] ∧ (SqL K H p ys ∨ SqT K H p ys) ∧ Q (.int ys.length) H
theorem call_lenA : CallR X (.builtin "len") (rLen X.K) := call_len_seq
theorem rd_lenT (S : Sta B G0 H cs ds) (hx : Has ds (.tuple xs) v) (k : Q (.int xs.length) H) : rLen K [v] H Q := by
  obtain ⟨p, vs, rfl, hp, hl, _⟩ := S.tup hx
  exact ⟨p, vs, rfl, .inr (SqT.of hp), by rw [← hl]; exact k⟩
theorem rd_lenL (S : Sta B G0 H cs ds) (hx : Has ds (.list xs) v) (k : Q (.int xs.length) H) : rLen K [v] H Q := by
  obtain ⟨p, vs, rfl, hp, hl, _⟩ := S.lst hx
  exact ⟨p, vs, rfl, .inl (SqL.of hp), by rw [← hl]; exact k⟩
theorem rd_lenC {L : Addr} (S : Sta B G0 H cs ds) (hx : (L, xs) ∈ cs) (k : Q (.int xs.length) H) : rLen K [.ref L] H Q := by
  obtain ⟨vs, hp, hl, _⟩ := S.cell hx
  exact ⟨L, vs, rfl, .inl (SqL.of hp), by rw [← hl]; exact k⟩
theorem rd_lenS {a : Addr} {ns : List Int} (hS : SqL K H a (ns.map V.int)) (k : Q (.int ns.length) H) : rLen K [.ref a] H Q :=
  ⟨a, _, rfl, .inl hS, by rw [List.length_map]; exact k⟩
/-- abs, min, max -/
def rAbs : List V → Hp → VK → Prop := fun xs H Q => ∃ i, xs = [.int i] ∧ Q (.int (if i < 0 then -i else i)) H
theorem call_absA : CallR X (.builtin "abs") rAbs := call_abs
theorem rd_abs {i : Int} (k : Q (.int (i.natAbs : Int)) H) : rAbs [.int i] H Q := ⟨i, rfl, by
  rw [show (if i < 0 then -i else i) = (i.natAbs : Int) by split <;> omega]; exact k⟩
def rMin : List V → Hp → VK → Prop := fun xs H Q => ∃ i j, xs = [.int i, .int j] ∧ Q (.int (if j < i then j else i)) H
theorem rd_min {i j : Int} (k : Q (.int (min i j)) H) : rMin [.int i, .int j] H Q := ⟨i, j, rfl, by
  rw [show (if j < i then j else i) = min i j by split <;> omega]; exact k⟩
def rMax : List V → Hp → VK → Prop := fun xs H Q => ∃ i j, xs = [.int i, .int j] ∧ Q (.int (if j > i then j else i)) H
theorem rd_max {i j : Int} (k : Q (.int (max i j)) H) : rMax [.int i, .int j] H Q := ⟨i, j, rfl, by
  rw [show (if j > i then j else i) = max i j by split <;> omega]; exact k⟩
/-- list(x), tuple(x) -/
def rListOf (K : PySem.W.Frag) : List V → Hp → VK → Prop := fun xs H Q => ∃ p ys, xs = [.ref p] ∧ (SqL K H p ys ∨ SqT K H p ys) ∧ ∀ l, H l = none → Q (.ref l) (upd H l (.lst ys))
theorem call_listA : CallR X (.type "list") (rListOf X.K) := call_list_of
def rTupleOf (K : PySem.W.Frag) : List V → Hp → VK → Prop := fun xs H Q => ∃ p ys, xs = [.ref p] ∧ ((SqL K H p ys ∧ ∀ l, H l = none → Q (.ref l) (upd H l (.tup ys))) ∨ (SqT K H p ys ∧ Q (.ref p) H))
theorem call_tupleA : CallR X (.type "tuple") (rTupleOf X.K) := call_tuple_of
theorem rd_listL (S : Sta B G0 H cs ds) (hx : Has ds (.list xs) v) (k : ∀ l H', Same H H' → Sta B G0 H' ((l, xs) :: cs) ds → Q (.ref l) H') : rListOf K [v] H Q := by
  obtain ⟨p, vs, rfl, hp, hl, S', hA⟩ := S.lstAll hx
  exact ⟨p, vs, rfl, .inl (SqL.of hp), fun l hl => k l _ (Same.new hl _) ((S'.newL hl hA).dat fun q hq => .mem (List.mem_append_right _ hq))⟩
theorem rd_listT (S : Sta B G0 H cs ds) (hx : Has ds (.tuple xs) v) (k : ∀ l H', Same H H' → Sta B G0 H' ((l, xs) :: cs) ds → Q (.ref l) H') : rListOf K [v] H Q := by
  obtain ⟨p, vs, rfl, hp, hl, S', hA⟩ := S.tupAll hx
  exact ⟨p, vs, rfl, .inr (SqT.of hp), fun l hl => k l _ (Same.new hl _) ((S'.newL hl hA).dat fun q hq => .mem (List.mem_append_right _ hq))⟩
theorem rd_listC {L : Addr} (S : Sta B G0 H cs ds) (hx : (L, xs) ∈ cs) (k : ∀ l H', Same H H' → Sta B G0 H' ((l, xs) :: cs) ds → Q (.ref l) H') : rListOf K [.ref L] H Q := by
  obtain ⟨vs, hp, hl, S', hA⟩ := S.cellAll hx
  exact ⟨L, vs, rfl, .inl (SqL.of hp), fun l hl => k l _ (Same.new hl _) ((S'.newL hl hA).dat fun q hq => .mem (List.mem_append_right _ hq))⟩
theorem rd_tupleL (S : Sta B G0 H cs ds) (hx : Has ds (.list xs) v) (k : ∀ l H', Same H H' → Sta B G0 H' cs ((.tuple xs, .ref l) :: ds) → Q (.ref l) H') : rTupleOf K [v] H Q := by
  obtain ⟨p, vs, rfl, hp, hl, S', hA⟩ := S.lstAll hx
  exact ⟨p, vs, rfl, .inl ⟨SqL.of hp, fun l hl => k l _ (Same.new hl _) ((S'.newT hl hA).dat fun q hq => .mem (by
    rcases List.mem_cons.mp hq with rfl | hq
    · exact List.mem_cons_self ..
    · exact List.mem_cons_of_mem _ (List.mem_append_right _ hq)))⟩⟩
theorem rd_tupleC {L : Addr} (S : Sta B G0 H cs ds) (hx : (L, xs) ∈ cs) (k : ∀ l H', Same H H' → Sta B G0 H' cs ((.tuple xs, .ref l) :: ds) → Q (.ref l) H') : rTupleOf K [.ref L] H Q := by
  obtain ⟨vs, hp, hl, S', hA⟩ := S.cellAll hx
  exact ⟨L, vs, rfl, .inl ⟨SqL.of hp, fun l hl => k l _ (Same.new hl _) ((S'.newT hl hA).dat fun q hq => .mem (by
    rcases List.mem_cons.mp hq with rfl | hq
    · exact List.mem_cons_self ..
    · exact List.mem_cons_of_mem _ (List.mem_append_right _ hq)))⟩⟩
/-- methods of lists -/
def kBM (K : PySem.W.Frag) (T : String) (r : V → List V → Hp → VK → Prop) (t : TA) (σ : L2.St) (Q : VK) : VK := fun x H1 => tyV K T x H1 ∧ t σ H1 fun xs H2 => r x xs H2 Q
def kBM0 (K : PySem.W.Frag) (T : String) (r : V → List V → Hp → VK → Prop) (Q : VK) : VK := fun x H1 => tyV K T x H1 ∧ r x [] H1 Q
theorem rd_bm {T : String} {r : V → List V → Hp → VK → Prop} {to : TE} {t : TA} (h : to σ H (kBM K T r t σ Q)) : tBM K T r to t σ H Q := h
theorem rd_bm0 {T : String} {r : V → List V → Hp → VK → Prop} {to : TE} (h : to σ H (kBM0 K T r Q)) : tBM0 K T r to σ H Q := h
theorem rd_kBM {L : Addr} {r : V → List V → Hp → VK → Prop} {t : TA} (S : Sta B G0 H cs ds) (hx : (L, xs) ∈ cs) (h : t σ H fun ys H2 => r (.ref L) ys H2 Q) : kBM K "list" r t σ Q (.ref L) H := by
  obtain ⟨vs, hp, hl, _⟩ := S.cell hx
  exact ⟨.inl ⟨rfl, _, SqL.of hp⟩, h⟩
theorem rd_kBM0 {L : Addr} {r : V → List V → Hp → VK → Prop} (S : Sta B G0 H cs ds) (hx : (L, xs) ∈ cs) (h : r (.ref L) [] H Q) : kBM0 K "list" r Q (.ref L) H := by
  obtain ⟨vs, hp, hl, _⟩ := S.cell hx
  exact ⟨.inl ⟨rfl, _, SqL.of hp⟩, h⟩
theorem rd_append {L : Addr} (S : Sta B G0 H ((L, xs) :: cs) ds) (hy : Has ds y w) (hz : xs.length ≤ 1000) (k : ∀ H', Sta B G0 H' ((L, xs ++ [y]) :: cs) ds → Q .non H') : rAppend (.ref L) [w] H Q := by
  obtain ⟨vs, hp, hl, put⟩ := S.put
  exact ⟨L, vs, w, rfl, rfl, hp, small1000 (by omega), k _ (put _ _ fun G a u => u.app (by rw [IsAll]; exact ⟨w, [], rfl, hy G a, by rw [IsAll]⟩))⟩
theorem rd_clear {L : Addr} (S : Sta B G0 H ((L, xs) :: cs) ds) (k : ∀ H', Sta B G0 H' ((L, []) :: cs) ds → Q .non H') : rClear (.ref L) [] H Q := by
  obtain ⟨vs, hp, hl, put⟩ := S.put
  exact ⟨L, vs, rfl, rfl, hp, k _ (put _ _ fun G a u => by rw [IsAll])⟩
theorem rd_setL {L : Addr} {i : Int} {j : Nat} {R : Hp → Prop} (S : Sta B G0 H ((L, xs) :: cs) ds) (hy : Has ds y w) (hi : ixN xs.length i = some j) (k : ∀ H', Sta B G0 H' ((L, xs.set j y) :: cs) ds → R H') : rSetL (.ref L) (.int i) w H R := by
  obtain ⟨vs, hp, hl, put⟩ := S.put
  exact ⟨L, vs, i, j, rfl, rfl, hp, by rw [← hl]; exact hi, k _ (put _ _ fun G a u => u.set (hy G a) j)⟩
def cutD (xs : List PyData) (lo hi : Option Int) : List PyData := (xs.drop (HT.sIx xs.length 0 lo)).take (HT.sIx xs.length xs.length hi - HT.sIx xs.length 0 lo)
theorem rd_slL {lo hi : Option Int} (S : Sta B G0 H cs ds) (hx : Has ds (.list xs) v) (k : ∀ l H', Same H H' → Sta B G0 H' ((l, cutD xs lo hi) :: cs) ds → Q (.ref l) H') : rSlL K v lo hi H Q := by
  obtain ⟨p, vs, rfl, hp, hl, S', hA⟩ := S.lstAll hx
  refine ⟨p, vs, rfl, SqL.of hp, fun l hn => k l _ (Same.new hn _) ((S'.newL hn fun G a => ?_).dat fun q hq => .mem (List.mem_append_right _ hq))⟩
  unfold cutD cutV
  rw [hl]
  exact ((hA G a).drop _).take _
end
/-! ### sizes, +, sum -/
theorem Sz.add' {m n : Nat} {x y : Int} (h : Sz m x) (g : Sz n y) : Sz (m + n + 1) (x + y) := (Sz.add (h.mono (Nat.le_add_right m n)) (g.mono (Nat.le_add_left n m)))
theorem Sz.sub' {m n : Nat} {x y : Int} (h : Sz m x) (g : Sz n y) : Sz (m + n + 1) (x - y) := (Sz.sub (h.mono (Nat.le_add_right m n)) (g.mono (Nat.le_add_left n m)))
theorem Sz.lit {x : Int} (h : x.natAbs < 2 ^ 200) : Sz 200 x := h
theorem mulModOk {a b m n : Int} (h : (0 < m ∧ m < 2 ^ 64) ∧ (0 < n ∧ n < 2 ^ 64)) : IntMulOk (a % m) (b % n) := by
  have h1 := Int.emod_nonneg a (show m ≠ 0 by omega)
  have h2 := Int.emod_lt_of_pos a h.1.1
  have h3 := Int.emod_nonneg b (show n ≠ 0 by omega)
  have h4 := Int.emod_lt_of_pos b h.2.1
  have e : (2 : Nat) ^ 64 = 18446744073709551616 := by decide
  have e' : (2 : Int) ^ 64 = 18446744073709551616 := by decide
  rw [e'] at h
  exact Sz.mulOk (m := 64) (n := 64) (by unfold Sz; rw [e]; omega) (by unfold Sz; rw [e]; omega) (by decide)
theorem iteNF {A B : Prop} (h : A) : if (!false) = true then A else B := h
theorem iteNT {A B : Prop} (h : B) : if (!true) = true then A else B := h
theorem SzQ.num {n : Nat} {q : Rat} (h : SzQ n q) : Sz n q.num := h.1
theorem SzQ.den {n : Nat} {q : Rat} (h : SzQ n q) : Sz n (q.den : Int) := h.2
section
variable {B G0 H : Hp} {cs : Cells} {ds : Dat} {Q : VK} {v : V} {xs zs : List PyData} {K : PySem.W.Frag} {X : Cx} {L M : Addr}
def rAddA : R2 := fun x y H Q => rI0 (fun i j => .int (i + j)) x y H Q ∨ rCat x y H Q
theorem op_addA : OpR X (binaryOp .Add) rAddA := op_add.or op_cat
theorem rd_addI {i j : Int} (h : Q (.int (i + j)) H) : rAddA (.int i) (.int j) H Q := .inl ⟨i, j, rfl, rfl, h⟩
/-- a list that is seen -/
def Vw (B G0 H : Hp) (cs : Cells) (ds : Dat) (L : Addr) (xs : List PyData) : Prop := ∃ vs, H L = some (.lst vs) ∧ ∀ G, StaG B G0 H cs ds G → IsAll G xs vs
theorem Sta.vwL (S : Sta B G0 H cs ds) (h : Has ds (.list xs) (.ref L)) : Vw B G0 H cs ds L xs := by
  obtain ⟨G, S⟩ := S
  have q := h G S.2.2.2.2.2.2
  rw [Is] at q
  obtain ⟨p, vs, e, hp, u⟩ := q
  cases e
  have hp' := S.2.1 _ _ hp
  refine ⟨vs, hp', fun G' S' => ?_⟩
  have q := h G' S'.2.2.2.2.2.2
  rw [Is] at q
  obtain ⟨p, vs', e, hp2, u'⟩ := q
  cases e
  have := S'.2.1 _ _ hp2
  rw [hp'] at this; cases this
  exact u'
theorem Sta.vwC (S : Sta B G0 H cs ds) (h : (L, xs) ∈ cs) : Vw B G0 H cs ds L xs := by
  obtain ⟨G, S⟩ := S
  obtain ⟨_, _, vs, z, u⟩ := S.2.2.2.2.1 _ h
  refine ⟨vs, z, fun G' S' => ?_⟩
  obtain ⟨_, _, vs', z', u'⟩ := S'.2.2.2.2.1 _ h
  rw [z] at z'; cases z'
  exact u'
theorem rd_addL (S : Sta B G0 H cs ds) (v1 : Vw B G0 H cs ds L xs) (v2 : Vw B G0 H cs ds M zs) (hz : xs.length + zs.length ≤ 1000)
    (k : ∀ p H', Same H H' → Sta B G0 H' ((p, xs ++ zs) :: cs) ds → Q (.ref p) H') : rAddA (.ref L) (.ref M) H Q := by
  obtain ⟨us, h1, u1⟩ := v1
  obtain ⟨ws, h2, u2⟩ := v2
  obtain ⟨G, S'⟩ := id S
  refine .inr ⟨L, M, us, ws, rfl, rfl, h1, h2, Nat.le_of_lt (small1000 (by rw [← (u1 G S').len, ← (u2 G S').len]; exact hz)), fun p hp => k p _ (Same.new hp _) ?_⟩
  obtain ⟨a, b, c, d, e, f, g⟩ := id S'
  have hG : G p = none := b.free hp
  refine ⟨G, a, b.trans (Same.new hp _), c.trans (Same.new hp _), d, fun q hq => ?_, ?_, g⟩
  · rcases List.mem_cons.mp hq with rfl | hq
    · exact ⟨c.free hp, hG, _, upd_same, (u1 G S').app (u2 G S')⟩
    · obtain ⟨x, y, ws, z, u⟩ := e q hq
      have hqp : q.1 ≠ p := ne_of_none z hp
      exact ⟨x, y, ws, by rw [upd_ne hqp]; exact z, u⟩
  · rw [List.map_cons, List.nodup_cons]
    refine ⟨fun z => ?_, f⟩
    obtain ⟨q, hq, hqp⟩ := List.mem_map.mp z
    obtain ⟨_, _, ws, z, _⟩ := e q hq
    rw [hqp, hp] at z; cases z
def rSum (K : PySem.W.Frag) : List V → Hp → VK → Prop := fun xs H Q => ∃ (p : Addr) (ns : List Int), xs = [.ref p] ∧ SqL K H p (ns.map V.int) ∧ Q (.int ns.sum) H
theorem call_sumA (hc : X.calm = true) : CallR X (.builtin "sum") (rSum X.K) := by
  intro pins s σ H xs us Q I r h
  obtain ⟨p, ns, rfl, hq, q⟩ := h
  obtain ⟨u, rfl, rx⟩ := vals1 r
  cases rx
  obtain ⟨its, rv, pl, _⟩ := I.list hq
  have hi := intsAre_of rv
  obtain ⟨ys, e⟩ := hi.allInts.items
  have hl : s.heap.IsList p (intItems ys) := e ▸ pl.isList
  have en : ys.toList.map (·.1) = ns := by rw [← nums_intItems, ← e]; exact hi.numsOf
  refine sum_intListG (I.ok.hd hc) hl fun h' tk t' hk => ?_
  refine ⟨.int ns.sum, H, I.kept (t' := tk) hk, ⟨t', ?_⟩, q⟩
  rw [preSum_eq, en, List.take_of_length_le (by rw [← en]; simp)]
theorem isAll_ints {G : Hp} : ∀ {ns : List Int} {vs : List V}, IsAll G (ns.map PyData.int) vs → vs = ns.map V.int
  | [], vs, h => by rw [List.map_nil, IsAll] at h; exact h
  | n :: ns, vs, h => by
    rw [List.map_cons, IsAll] at h
    obtain ⟨v, r, rfl, h1, h2⟩ := h
    rw [Is] at h1
    subst h1
    rw [isAll_ints h2, List.map_cons]
theorem rd_sumC {ns : List Int} (S : Sta B G0 H cs ds) (h : (L, ns.map PyData.int) ∈ cs) (k : Q (.int ns.sum) H) : rSum K [.ref L] H Q := by
  obtain ⟨vs, hp, u⟩ := S.vwC h
  obtain ⟨G, S'⟩ := id S
  rw [isAll_ints (u G S')] at hp
  exact ⟨L, ns, rfl, SqL.of hp, k⟩
theorem rd_sumL {ns : List Int} (S : Sta B G0 H cs ds) (h : Has ds (.list (ns.map PyData.int)) v) (k : Q (.int ns.sum) H) : rSum K [v] H Q := by
  obtain ⟨p, vs, rfl, _⟩ := S.lst h
  obtain ⟨vs, hp, u⟩ := S.vwL h
  obtain ⟨G, S'⟩ := id S
  rw [isAll_ints (u G S')] at hp
  exact ⟨_, ns, rfl, SqL.of hp, k⟩
end
end S

namespace S
open PySem PySem.Spec PyProof.Rows L2

/-- a list of the callers' that is read -/
def Ro (B G0 : Hp) (L : Addr) (xs : List PyData) : Prop := G0 L = none ∧ ∃ vs, B L = some (.lst vs) ∧ IsAll G0 xs vs
/-- where items are drawn from -/
def Src (B G0 : Hp) (b : Bool) (K : PySem.W.Frag) (a : Addr) (xs : List PyData) (P : Cells → Dat → Prop) : Prop := ∀ {H : Hp} {cs : Cells} {ds : Dat}, Sta B G0 H cs ds → P cs ds →
  ∃ vs, SqB b K H a vs ∧ xs.length = vs.length ∧ ∀ (i : Nat) (x : PyData), xs[i]? = some x → ∃ v, vs[i]? = some v ∧ Sta B G0 H cs ((x, v) :: ds)
structure Wk (B G0 : Hp) (J : It) (xs : List PyData) (P : Cells → Dat → Prop) : Prop where
  go : ∀ {H : Hp} {cs : Cells} {ds : Dat} {i : Nat}, Sta B G0 H cs ds → P cs ds → i < xs.length → J.go i H
  stop : ∀ {H : Hp} {cs : Cells} {ds : Dat} {i : Nat}, Sta B G0 H cs ds → P cs ds → xs.length ≤ i → J.stop i H
  yld : ∀ {H H' : Hp} {cs : Cells} {ds : Dat} {i : Nat} {x : PyData} {v : V}, Sta B G0 H cs ds → P cs ds → xs[i]? = some x → J.yld i H v H' → Same H H' ∧ Sta B G0 H' cs ((x, v) :: ds)
section
variable {B G0 H : Hp} {cs : Cells} {ds : Dat} {K : PySem.W.Frag} {a : Addr} {xs ys : List PyData} {P P' : Cells → Dat → Prop} {b c : Bool} {v : V}
theorem Sta.ro {L : Addr} (S : Sta B G0 H cs ds) (h : Ro B G0 L xs) : ∃ vs, H L = some (.lst vs) ∧ xs.length = vs.length ∧ ∀ (i : Nat) (x : PyData), xs[i]? = some x → ∃ v, vs[i]? = some v ∧ Sta B G0 H cs ((x, v) :: ds) := by
  obtain ⟨_, vs, hb, hi⟩ := h
  have hb' := S.base _ _ hb
  obtain ⟨G, a, b, c, d, e, f, g⟩ := S
  refine ⟨vs, hb', hi.len, fun i x hx => ?_⟩
  obtain ⟨v, hv, k⟩ := hi.at hx
  exact ⟨v, hv, G, a, b, c, d, e, f, g.cons (Is.mono a _ _ k)⟩
theorem rd_ixR {Q : VK} {x : PyData} {i : Int} {L : Addr} (S : Sta B G0 H cs ds) (hx : Ro B G0 L xs) (hi : atI xs i = some x) (k : ∀ w, Sta B G0 H cs ((x, w) :: ds) → Q w H) : rIx K (.ref L) (.int i) H Q := by
  obtain ⟨vs, hp, hl, z⟩ := S.ro hx
  obtain ⟨j, hj, hy⟩ := atI_at hl hi
  obtain ⟨w, hw, S'⟩ := z j x hj
  exact .inl ⟨L, vs, i, w, rfl, rfl, SqL.of hp, hy _ hw, k w S'⟩
theorem rd_ixRI {Q : VK} {i n : Int} {L : Addr} (S : Sta B G0 H cs ds) (hx : Ro B G0 L xs) (hi : atI xs i = some (.int n)) (k : Q (.int n) H) : rIx K (.ref L) (.int i) H Q :=
  rd_ixR S hx hi fun w S' => by have := S'.top; rw [Is] at this; subst this; exact k
theorem src_list : Src B G0 true K a xs (fun _ ds => Has ds (.list xs) (.ref a)) := fun S h => by
  obtain ⟨p, vs, e, hp, hl, z⟩ := S.lst h
  cases e
  exact ⟨vs, SqL.of hp, hl, z⟩
theorem src_tup : Src B G0 false K a xs (fun _ ds => Has ds (.tuple xs) (.ref a)) := fun S h => by
  obtain ⟨p, vs, e, hp, hl, z⟩ := S.tup h
  cases e
  exact ⟨vs, SqT.of hp, hl, z⟩
theorem src_cell : Src B G0 true K a xs (fun cs _ => (a, xs) ∈ cs) := fun S h => by
  obtain ⟨vs, hp, hl, z⟩ := S.cell h
  exact ⟨vs, SqL.of hp, hl, z⟩
theorem wk_list (s : Src B G0 true K a xs P) : Wk B G0 (Itl K a) xs P where
  go := fun {H cs ds i} S h hi => by
    obtain ⟨vs, q, hl, _⟩ := s S h
    exact ⟨vs, vs[i]'(by omega), q, List.getElem?_eq_getElem _⟩
  stop := fun {H cs ds i} S h hi => by
    obtain ⟨vs, q, hl, _⟩ := s S h
    exact ⟨vs, q, by omega⟩
  yld := fun {H H' cs ds i x v} S h hx y => by
    obtain ⟨e, y⟩ := y
    subst e
    obtain ⟨vs, q, hl, z⟩ := s S h
    obtain ⟨w, hw, S'⟩ := z i x hx
    have := y vs q
    rw [hw] at this; cases this
    exact ⟨Same.refl _, S'⟩
theorem wk_tup (s : Src B G0 false K a xs P) : Wk B G0 (Itt K a) xs P where
  go := fun {H cs ds i} S h hi => by
    obtain ⟨vs, q, hl, _⟩ := s S h
    exact ⟨vs, vs[i]'(by omega), q, List.getElem?_eq_getElem _⟩
  stop := fun {H cs ds i} S h hi => by
    obtain ⟨vs, q, hl, _⟩ := s S h
    exact ⟨vs, q, by omega⟩
  yld := fun {H H' cs ds i x v} S h hx y => by
    obtain ⟨e, y⟩ := y
    subst e
    obtain ⟨vs, q, hl, z⟩ := s S h
    obtain ⟨w, hw, S'⟩ := z i x hx
    have := y vs q
    rw [hw] at this; cases this
    exact ⟨Same.refl _, S'⟩
def rangeD (lo : Int) (n : Nat) : List PyData := (List.range n).map fun i => .int (lo + (i : Nat))
theorem rangeD_len (lo : Int) (n : Nat) : (rangeD lo n).length = n := by unfold rangeD; rw [List.length_map, List.length_range]
theorem rangeD_at {lo : Int} {n i : Nat} {x : PyData} (h : (rangeD lo n)[i]? = some x) : i < n ∧ x = .int (lo + (i : Nat)) := by
  have hi : i < n := by have := (List.getElem?_eq_some_iff.mp h).1; rwa [rangeD_len] at this
  unfold rangeD at h
  rw [List.getElem?_map, List.getElem?_range hi] at h
  exact ⟨hi, (Option.some.inj h).symm⟩
theorem wk_range {lo : Int} {n : Nat} : Wk B G0 (Itr lo n) (rangeD lo n) (fun _ _ => True) where
  go := fun {H cs ds i} S h hi => by rw [rangeD_len] at hi; exact hi
  stop := fun {H cs ds i} S h hi => by rw [rangeD_len] at hi; exact hi
  yld := fun {H H' cs ds i x v} S h hx y => by
    obtain ⟨e, y⟩ := y
    obtain ⟨_, rfl⟩ := rangeD_at hx
    subst e y
    exact ⟨Same.refl _, S.push Has.int⟩
def enumD (xs : List PyData) : List PyData := xs.mapIdx fun i x => .tuple [.int (i : Nat), x]
theorem enumD_len (xs : List PyData) : (enumD xs).length = xs.length := by unfold enumD; rw [List.length_mapIdx]
theorem enumD_at {xs : List PyData} {i : Nat} {y : PyData} (h : (enumD xs)[i]? = some y) : ∃ x, xs[i]? = some x ∧ y = .tuple [.int (i : Nat), x] := by
  unfold enumD at h
  rw [List.getElem?_mapIdx] at h
  cases e : xs[i]? with
  | none => rw [e] at h; cases h
  | some x => rw [e] at h; exact ⟨x, rfl, (Option.some.inj h).symm⟩
theorem wk_enum (s : Src B G0 b K a xs P) : Wk B G0 (ItE b K a) (enumD xs) P where
  go := fun {H cs ds i} S h hi => by
    rw [enumD_len] at hi
    obtain ⟨vs, q, hl, _⟩ := s S h
    exact ⟨vs, vs[i]'(by omega), q, List.getElem?_eq_getElem _⟩
  stop := fun {H cs ds i} S h hi => by
    rw [enumD_len] at hi
    obtain ⟨vs, q, hl, _⟩ := s S h
    exact ⟨vs, q, by omega⟩
  yld := fun {H H' cs ds i x v} S h hx y => by
    obtain ⟨x0, hx0, rfl⟩ := enumD_at hx
    obtain ⟨p, u, hu, hp, rfl, rfl⟩ := y
    obtain ⟨vs, q, hl, z⟩ := s S h
    obtain ⟨w, hw, S'⟩ := z i x0 hx0
    have := hu vs q
    rw [hw] at this; cases this
    refine ⟨Same.new hp _, (S'.newT hp (xs := [.int (i : Nat), x0]) (vs := [.int (i : Nat), u]) (.cons Has.int (.cons (.mem (List.mem_cons_self ..)) .nil))).dat fun r hr => .mem ?_⟩
    rcases List.mem_cons.mp hr with rfl | hr
    · exact List.mem_cons_self ..
    · exact List.mem_cons_of_mem _ (List.mem_cons_of_mem _ hr)
def zipD (xs ys : List PyData) : List PyData := List.zipWith (fun x y => .tuple [x, y]) xs ys
theorem zipD_len (xs ys : List PyData) : (zipD xs ys).length = min xs.length ys.length := by unfold zipD; rw [List.length_zipWith]
theorem zipD_at {xs ys : List PyData} {i : Nat} {z : PyData} (h : (zipD xs ys)[i]? = some z) : ∃ x y, xs[i]? = some x ∧ ys[i]? = some y ∧ z = .tuple [x, y] := by
  unfold zipD at h
  rw [List.getElem?_zipWith] at h
  cases e : xs[i]? with
  | none => rw [e] at h; cases h
  | some x =>
    cases e2 : ys[i]? with
    | none => rw [e, e2] at h; cases h
    | some y => rw [e, e2] at h; exact ⟨x, y, rfl, rfl, (Option.some.inj h).symm⟩
theorem wk_zip {a2 : Addr} (s : Src B G0 b K a xs P) (s2 : Src B G0 c K a2 ys P') : Wk B G0 (ItZ b c K a a2) (zipD xs ys) (fun cs ds => P cs ds ∧ (∀ x v, P' cs ds → P' cs ((x, v) :: ds)) ∧ P' cs ds) where
  go := fun {H cs ds i} S h hi => by
    rw [zipD_len] at hi
    obtain ⟨vs, q, hl, _⟩ := s S h.1
    obtain ⟨ws, q2, hl2, _⟩ := s2 S h.2.2
    exact ⟨vs, ws, vs[i]'(by omega), ws[i]'(by omega), q, q2, List.getElem?_eq_getElem _, List.getElem?_eq_getElem _⟩
  stop := fun {H cs ds i} S h hi => by
    rw [zipD_len] at hi
    obtain ⟨vs, q, hl, _⟩ := s S h.1
    obtain ⟨ws, q2, hl2, _⟩ := s2 S h.2.2
    exact ⟨vs, ws, q, q2, by omega⟩
  yld := fun {H H' cs ds i x v} S h hx y => by
    obtain ⟨x0, y0, hx0, hy0, rfl⟩ := zipD_at hx
    obtain ⟨p, u, u2, hu, hu2, hp, rfl, rfl⟩ := y
    obtain ⟨vs, q, hl, z⟩ := s S h.1
    obtain ⟨w, hw, S'⟩ := z i x0 hx0
    obtain ⟨ws, q2, hl2, z2⟩ := s2 S' (h.2.1 _ _ h.2.2)
    obtain ⟨w2, hw2, S''⟩ := z2 i y0 hy0
    have := hu vs q
    rw [hw] at this; cases this
    have := hu2 ws q2
    rw [hw2] at this; cases this
    refine ⟨Same.new hp _, (S''.newT hp (xs := [x0, y0]) (vs := [u, u2]) (.cons (.mem (List.mem_cons_of_mem _ (List.mem_cons_self ..))) (.cons (.mem (List.mem_cons_self ..)) .nil))).dat fun r hr => .mem ?_⟩
    rcases List.mem_cons.mp hr with rfl | hr
    · exact List.mem_cons_self ..
    · exact List.mem_cons_of_mem _ (List.mem_cons_of_mem _ (List.mem_cons_of_mem _ hr))
/-! ### iterables in a reading -/
def kIL (K : PySem.W.Frag) (R : It → Hp → Prop) : VK := fun x H1 => ∃ a, x = .ref a ∧ (∃ xs, SqL K H1 a xs) ∧ R (Itl K a) H1
def kIT (K : PySem.W.Frag) (R : It → Hp → Prop) : VK := fun x H1 => ∃ a, x = .ref a ∧ (∃ xs, SqT K H1 a xs) ∧ R (Itt K a) H1
def kR1 (R : It → Hp → Prop) : List V → Hp → Prop := fun vs H1 => ∃ j : Int, vs = [.int j] ∧ -(2 ^ 62) ≤ j ∧ j < 2 ^ 62 ∧ R (Itr 0 j.toNat) H1
def kR2 (R : It → Hp → Prop) : List V → Hp → Prop := fun vs H1 => ∃ i j : Int, vs = [.int i, .int j] ∧ (-(2 ^ 62) ≤ i ∧ i < 2 ^ 62 ∧ -(2 ^ 62) ≤ j ∧ j < 2 ^ 62) ∧ R (Itr i (j - i).toNat) H1
def kEn (b : Bool) (K : PySem.W.Frag) (R : It → Hp → Prop) : List V → Hp → Prop := fun vs H1 => ∃ a, vs = [.ref a] ∧ (∃ xs, SqB b K H1 a xs) ∧ R (ItE b K a) H1
def kZi (b c : Bool) (K : PySem.W.Frag) (R : It → Hp → Prop) : List V → Hp → Prop := fun vs H1 => ∃ a1 a2, vs = [.ref a1, .ref a2] ∧ (∃ xs, SqB b K H1 a1 xs) ∧ (∃ ys, SqB c K H1 a2 ys) ∧ R (ItZ b c K a1 a2) H1
section
variable {σ : L2.St} {R : It → Hp → Prop} {tl : TE} {ta : TA}
theorem rd_iList (h : tl σ H (kIL K R)) : iList K tl σ H R := h
theorem rd_iTup (h : tl σ H (kIT K R)) : iTup K tl σ H R := h
theorem rd_iR1 (h : ta σ H (kR1 R)) : iRng1 ta σ H R := h
theorem rd_iR2 (h : ta σ H (kR2 R)) : iRng2 ta σ H R := h
theorem rd_iEn (h : ta σ H (kEn b K R)) : iEnum b K ta σ H R := h
theorem rd_iZi (h : ta σ H (kZi b c K R)) : iZip b c K ta σ H R := h
theorem rd_kR1 {j : Int} (B G0 : Hp) (h1 : -1000 ≤ j) (h2 : j ≤ 1000000) (k : ∀ J, Wk B G0 J (rangeD 0 j.toNat) (fun _ _ => True) → R J H) : kR1 R [.int j] H := ⟨j, rfl, by omega, by omega, k _ wk_range⟩
theorem rd_kR2 {i j : Int} (B G0 : Hp) (h1 : -1000 ≤ i ∧ i ≤ 1000000) (h2 : -1000 ≤ j ∧ j ≤ 1000000) (k : ∀ J, Wk B G0 J (rangeD i (j - i).toNat) (fun _ _ => True) → R J H) : kR2 R [.int i, .int j] H := ⟨i, j, rfl, ⟨by omega, by omega, by omega, by omega⟩, k _ wk_range⟩
theorem rd_kZi {a2 : Addr} (S : Sta B G0 H cs ds) (s : Src B G0 b K a xs P) (hP : P cs ds) (s2 : Src B G0 c K a2 ys P') (hP' : P' cs ds) (k : ∀ J, Wk B G0 J (zipD xs ys) (fun cs ds => P cs ds ∧ (∀ x v, P' cs ds → P' cs ((x, v) :: ds)) ∧ P' cs ds) → R J H) : kZi b c K R [.ref a, .ref a2] H := by
  obtain ⟨vs, q, _⟩ := s S hP
  obtain ⟨ws, q2, _⟩ := s2 S hP'
  exact ⟨a, a2, rfl, ⟨_, q⟩, ⟨_, q2⟩, k _ (wk_zip s s2)⟩
end
/-- unpacking -/
def kGT (K : PySem.W.Frag) (n : Nat) (t : TGs) (σ : L2.St) (N : L2.St → Hp → Prop) : VK := fun v H => ∃ a xs, v = .ref a ∧ SqT K H a xs ∧ xs.length = n ∧ t xs σ H N
theorem rd_gTup {n : Nat} {t : TGs} {σ : L2.St} {N : L2.St → Hp → Prop} (h : kGT K n t σ N v H) : gTup K n t v σ H N := h
theorem rd_kGT {n : Nat} {t : TGs} {σ : L2.St} {N : L2.St → Hp → Prop} (S : Sta B G0 H cs ds) (h : Has ds (.tuple xs) v) (hn : xs.length = n) (k : ∀ vs, xs.length = vs.length → Sta B G0 H cs (xs.zip vs ++ ds) → t vs σ H N) : kGT K n t σ N v H := by
  obtain ⟨p, vs, rfl, hp, hl, S', _⟩ := S.tupAll h
  exact ⟨p, vs, rfl, SqT.of hp, by omega, k vs hl S'⟩
theorem rd_kGT2 {t : TGs} {σ : L2.St} {N : L2.St → Hp → Prop} {x y : PyData} (S : Sta B G0 H cs ds) (h : Has ds (.tuple [x, y]) v) (k : ∀ w1 w2, Sta B G0 H cs ((x, w1) :: (y, w2) :: ds) → t [w1, w2] σ H N) : kGT K 2 t σ N v H := by
  refine rd_kGT S h rfl fun vs hl S' => ?_
  match vs, hl with
  | [w1, w2], _ => exact k w1 w2 S'
theorem rd_kGT3 {t : TGs} {σ : L2.St} {N : L2.St → Hp → Prop} {x y z : PyData} (S : Sta B G0 H cs ds) (h : Has ds (.tuple [x, y, z]) v) (k : ∀ w1 w2 w3, Sta B G0 H cs ((x, w1) :: (y, w2) :: (z, w3) :: ds) → t [w1, w2, w3] σ H N) : kGT K 3 t σ N v H := by
  refine rd_kGT S h rfl fun vs hl S' => ?_
  match vs, hl with
  | [w1, w2, w3], _ => exact k w1 w2 w3 S'
theorem rd_gCons {t : TG} {u : TGs} {σ : L2.St} {N : L2.St → Hp → Prop} {vs : List V} (h : t v σ H fun σ' H' => u vs σ' H' N) : gCons t u (v :: vs) σ H N := ⟨v, vs, rfl, h⟩
theorem rd_gNil {σ : L2.St} {N : L2.St → Hp → Prop} (h : N σ H) : gNil [] σ H N := ⟨rfl, h⟩
/-! ### for -/
def kFor (g : TG) (tb : TS) (D : Ends) (σ : L2.St) : It → Hp → Prop := fun J H1 => ∃ W : Nat → Nat → L2.St → Hp → Prop, (∃ m, W 0 m σ H1) ∧ ∀ i m σ H, W i m σ H →
  (J.stop i H ∧ D.nx σ H) ∨ (J.go i H ∧ ∃ N : L2.St → Hp → Prop, (∀ σ' H', N σ' H' → ∃ m', m' < m ∧ W (i + 1) m' σ' H') ∧ ∀ x H', J.yld i H x H' → g x σ H' fun σ2 H2 => tb { D with nx := N, ct := N, bk := D.nx } σ2 H2)
theorem rd_for {wi : TI} {g : TG} {tb : TS} {D : Ends} {σ : L2.St} (h : wi σ H (kFor g tb D σ)) : tFor wi g tb D σ H := h
def AtP (B G0 : Hp) (Pv : L2.St → Cells → Dat → Prop) : L2.St → Hp → Prop := fun σ H => ∃ cs ds, Sta B G0 H cs ds ∧ Pv σ cs ds
theorem rd_at {Pv : L2.St → Cells → Dat → Prop} {σ : L2.St} (S : Sta B G0 H cs ds) (h : Pv σ cs ds) : AtP B G0 Pv σ H := ⟨cs, ds, S, h⟩
theorem for_wk {J : It} {g : TG} {tb : TS} {D : Ends} {σ : L2.St} (w : Wk B G0 J xs P) (Pv : Nat → L2.St → Cells → Dat → Prop) (S : Sta B G0 H cs ds) (h0 : Pv 0 σ cs ds) (hP : ∀ i σ cs ds, Pv i σ cs ds → P cs ds)
    (hs : ∀ (i : Nat) (x : PyData) (v : V) (σ : L2.St) (H : Hp) (cs : Cells) (ds : Dat), xs[i]? = some x → Pv i σ cs ds → Sta B G0 H cs ((x, v) :: ds) → g v σ H fun σ2 H2 => tb (mkL D (AtP B G0 (Pv (i + 1)))) σ2 H2)
    (hd : ∀ (σ : L2.St) (H : Hp) (cs : Cells) (ds : Dat), Pv xs.length σ cs ds → Sta B G0 H cs ds → D.nx σ H) : kFor g tb D σ J H := by
  refine ⟨fun i m σ H => m = xs.length - i ∧ i ≤ xs.length ∧ AtP B G0 (Pv i) σ H, ⟨xs.length, by simp, Nat.zero_le _, cs, ds, S, h0⟩, ?_⟩
  rintro i m σ H ⟨rfl, hi, cs, ds, S, p⟩
  by_cases hlt : i < xs.length
  · refine .inr ⟨w.go S (hP _ _ _ _ p) hlt, AtP B G0 (Pv (i + 1)), fun σ' H' p' => ⟨xs.length - (i + 1), by omega, rfl, hlt, p'⟩, fun x H' y => ?_⟩
    exact hs i _ x σ H' cs ds (List.getElem?_eq_getElem hlt) p (w.yld S (hP _ _ _ _ p) (List.getElem?_eq_getElem hlt) y).2
  · have e : i = xs.length := by omega
    subst e
    exact .inl ⟨w.stop S (hP _ _ _ _ p) (Nat.le_refl _), hd σ H cs ds p S⟩
/-! ### while -/
def WP (B G0 : Hp) (Pv : Nat → L2.St → Cells → Dat → Prop) : Nat → L2.St → Hp → Prop := fun m σ H => AtP B G0 (Pv m) σ H
def kWh (W : Nat → L2.St → Hp → Prop) (tb : TS) (D : Ends) (m : Nat) (σ : L2.St) : Bool → Hp → Prop := fun b H1 => if b = true then ∃ N : L2.St → Hp → Prop, (∀ σ' H', N σ' H' → ∃ m', m' < m ∧ W m' σ' H') ∧ tb { D with nx := N, ct := N, bk := D.nx } σ H1 else D.nx σ H1
theorem rd_wh {tb : TS} {D : Ends} {m : Nat} {σ : L2.St} {b : Bool} {W : Nat → L2.St → Hp → Prop} (h1 : b = true → tb (mkL D (fun σ' H' => ∃ m', m' < m ∧ W m' σ' H')) σ H)
    (h2 : b = false → D.nx σ H) : kWh W tb D m σ b H := by
  cases b with
  | true => exact ⟨_, fun σ' H' q => q, h1 rfl⟩
  | false => exact h2 rfl
theorem while_h {c : TT} {tb : TS} {D : Ends} {σ : L2.St} (W : Nat → L2.St → Hp → Prop) (m : Nat) (h0 : W m σ H) (hs : ∀ (m : Nat) (σ : L2.St) (H : Hp), W m σ H → c σ H (kWh W tb D m σ)) : tWhile c tb D σ H := ⟨W, ⟨m, h0⟩, hs⟩
theorem while_sta {c : TT} {tb : TS} {D : Ends} {σ : L2.St} (Pv : Nat → L2.St → Cells → Dat → Prop) (m : Nat) (S : Sta B G0 H cs ds) (h0 : Pv m σ cs ds)
    (hs : ∀ (m : Nat) (σ : L2.St) (H : Hp) (cs : Cells) (ds : Dat), Pv m σ cs ds → Sta B G0 H cs ds → c σ H (kWh (WP B G0 Pv) tb D m σ)) : tWhile c tb D σ H :=
  ⟨WP B G0 Pv, ⟨m, cs, ds, S, h0⟩, fun m σ H ⟨cs, ds, S, p⟩ => hs m σ H cs ds p S⟩
/-! ### comprehensions -/
def kComp (n : Nat) (fr : List Nat) (g : Blk TG) (tt : Blk TT) (te : Blk TE) (σ : L2.St) (Q : VK) : It → Hp → Prop := fun J H1 => ∀ D, H1 D = none → ∀ C ex s0 H0,
  ∃ W : Nat → Nat → List V → Hp → Prop, (∃ m, W 0 m [] (upd H1 D (.lst []))) ∧ ∀ i m ys H2, W i m ys H2 → H2 D = some (.lst ys) ∧
    ((J.stop i H2 ∧ Q (.ref D) H2) ∨ (J.go i H2 ∧ ∀ x H3, J.yld i H2 x H3 → g C ex s0 H0 x (List.replicate n none ++ frσ σ fr) H3 fun σ4 H4 => σ4.drop n = frσ σ fr ∧ tt C ex s0 H0 σ4 H4 fun b H5 =>
      if b = true then te C ex s0 H0 σ4 H5 fun y H6 => H6 D = some (.lst ys) ∧ ys.length < sizeLine ∧ ∃ m', m' < m ∧ W (i + 1) m' (ys ++ [y]) (upd H6 D (.lst (ys ++ [y])))
      else ∃ m', m' < m ∧ W (i + 1) m' ys H5))
theorem rd_comp {n : Nat} {fr : List Nat} {wi : TI} {g : Blk TG} {tt : Blk TT} {te : Blk TE} {σ : L2.St} {Q : VK} (h : wi σ H (kComp n fr g tt te σ Q)) : tComp n fr wi g tt te σ H Q := h
/-- the state of a turn -/
structure Turn1 (B G0 : Hp) (cs : Cells) (B' G' : Hp) : Prop where
  b : Same B B'
  ro : ∀ c ∈ cs, Ro B' G' c.1 c.2
  old : ∀ {L : Addr} {xs : List PyData}, Ro B G0 L xs → Ro B' G' L xs
theorem comp_wk {J : It} {n : Nat} {fr : List Nat} {g : Blk TG} {tt : Blk TT} {te : Blk TE} {σ : L2.St} {Q : VK} (w : Wk B G0 J xs P) (f : Nat → Option PyData) (S : Sta B G0 H cs ds) (hPm : ∀ D ys, P ((D, ys) :: cs) ds) (hn : xs.length ≤ 1000)
    (hs : ∀ (i : Nat) (x : PyData) (v : V) (B' G' : Hp) (Kd : VK) (Kn : Hp → Prop), xs[i]? = some x → Turn1 B G0 cs B' G' → Sta B' G' B' [] ((x, v) :: ds) →
      (∀ {z : PyData} {y : V} {H6 : Hp} {cs' : Cells} {ds' : Dat}, f i = some z → Sta B' G' H6 cs' ds' → Has ds' z y → Kd y H6) → (∀ {H5 : Hp} {cs' : Cells} {ds' : Dat}, f i = none → Sta B' G' H5 cs' ds' → Kn H5) →
      ∀ C ex s0 H0, g C ex s0 H0 v (List.replicate n none ++ frσ σ fr) B' fun σ4 H4 => σ4.drop n = frσ σ fr ∧ tt C ex s0 H0 σ4 H4 fun b H5 => if b = true then te C ex s0 H0 σ4 H5 Kd else Kn H5)
    (k : ∀ D H', Same H H' → Sta B G0 H' ((D, (List.range xs.length).filterMap f) :: cs) ds → Q (.ref D) H') : kComp n fr g tt te σ Q J H := by
  intro D hD C ex s0 H0
  have len : ∀ i, ((List.range i).filterMap f).length ≤ i := fun i => Nat.le_trans (List.length_filterMap_le _ _) (by rw [List.length_range]; exact Nat.le_refl _)
  refine ⟨fun i m ys H2 => m = xs.length - i ∧ i ≤ xs.length ∧ H2 D = some (.lst ys) ∧ Same H H2 ∧ Sta B G0 H2 ((D, (List.range i).filterMap f) :: cs) ds, ⟨xs.length, by simp, Nat.zero_le _, upd_same, Same.new hD _, S.newL hD .nil⟩, ?_⟩
  rintro i m ys H2 ⟨rfl, hi, hDl, hS, S2⟩
  refine ⟨hDl, ?_⟩
  by_cases hlt : i < xs.length
  · refine .inr ⟨w.go S2 (hPm _ _) hlt, fun v H3 y => ?_⟩
    obtain ⟨e3, G3, S3⟩ := w.yld S2 (hPm _ _) (List.getElem?_eq_getElem hlt) y
    obtain ⟨a, b, c, d, e, f', g'⟩ := id S3
    have h3D : H3 D = some (.lst ys) := e3 _ _ hDl
    have t1 : Turn1 B G0 cs H3 G3 := by
      refine ⟨c, fun q hq => ?_, fun {L zs} ⟨r1, vs, r2, r3⟩ => ?_⟩
      · obtain ⟨_, y', vs, z', u'⟩ := e q (List.mem_cons_of_mem _ hq)
        exact ⟨y', vs, z', u'⟩
      · exact ⟨by rw [d L (by rw [r2]; simp)]; exact r1, vs, c _ _ r2, IsAll.mono a _ _ r3⟩
    have up : ∀ {H6 : Hp} {cs' : Cells} {ds' : Dat} {o : HO}, Same H H3 → H D = none → Same H H6 → Same H (upd H6 D o) := fun {H6 cs' ds' o} _ hn h q u hq => by
      rw [upd_ne (ne_of_none hq hn)]; exact h _ _ hq
    refine hs i _ v H3 G3 _ _ (List.getElem?_eq_getElem hlt) t1 (Sta.enter b g') ?_ ?_ C ex s0 H0
    · intro z y6 H6 cs' ds' fz S6 hz
      obtain ⟨G6, gr, al⟩ := S6.leave
      have h6D : H6 D = some (.lst ys) := gr.h _ _ h3D
      have S6' : StaG B G0 H6 ((D, (List.range i).filterMap f) :: cs) ((xs[i], v) :: ds) G6 := S3.grow gr
      have S7 : Sta B G0 H6 ((D, (List.range i).filterMap f) :: cs) ((z, y6) :: ds) := by
        obtain ⟨a', b', c', d', e', f'', g''⟩ := S6'
        exact ⟨G6, a', b', c', d', e', f'', AllIs.cons (fun p hp => g'' p (List.mem_cons_of_mem _ hp)) (hz G6 al)⟩
      obtain ⟨vs, hv, hl, put⟩ := S7.put
      rw [h6D] at hv
      cases hv
      refine ⟨h6D, small1000 (by have := len i; omega), xs.length - (i + 1), by omega, rfl, hlt, upd_same, up (cs' := cs') (ds' := ds') (hS.trans e3) hD ((hS.trans e3).trans gr.h), ?_⟩
      have er : (List.range (i + 1)).filterMap f = (List.range i).filterMap f ++ [z] := by
        rw [List.range_succ, List.filterMap_append]; simp [fz]
      rw [er]
      exact (put _ _ fun G a u => u.app (by rw [IsAll]; exact ⟨y6, [], rfl, a _ (List.mem_cons_self ..), by rw [IsAll]⟩)).drop1
    · intro H5 cs' ds' fz S5
      obtain ⟨G5, gr, al⟩ := S5.leave
      have S5' : Sta B G0 H5 ((D, (List.range i).filterMap f) :: cs) ((xs[i], v) :: ds) := ⟨G5, S3.grow gr⟩
      have er : (List.range (i + 1)).filterMap f = (List.range i).filterMap f := by
        rw [List.range_succ, List.filterMap_append]; simp [fz]
      exact ⟨xs.length - (i + 1), by omega, rfl, hlt, gr.h _ _ h3D, (hS.trans e3).trans gr.h, by rw [er]; exact S5'.drop1⟩
  · have e : i = xs.length := by omega
    subst e
    exact .inl ⟨w.stop S2 (hPm _ _) (Nat.le_refl _), k D H2 hS S2⟩
/-- without an if: a map -/
theorem fm_some {α β : Type} (g : α → β) (l : List α) : l.filterMap (fun i => some (g i)) = l.map g := by
  induction l with
  | nil => rfl
  | cons a l ih => simp [ih]
theorem comp_map {J : It} {n : Nat} {fr : List Nat} {g : Blk TG} {tt : Blk TT} {te : Blk TE} {σ : L2.St} {Q : VK} (w : Wk B G0 J xs P) (f : Nat → PyData) (hy : (List.range xs.length).map f = ys) (S : Sta B G0 H cs ds) (hPm : ∀ D ys, P ((D, ys) :: cs) ds) (hn : xs.length ≤ 1000)
    (hs : ∀ (i : Nat) (x : PyData) (v : V) (B' G' : Hp) (Kd : VK) (Kn : Hp → Prop), xs[i]? = some x → Turn1 B G0 cs B' G' → Sta B' G' B' [] ((x, v) :: ds) →
      (∀ {y : V} {H6 : Hp} {cs' : Cells} {ds' : Dat}, Sta B' G' H6 cs' ds' → Has ds' (f i) y → Kd y H6) →
      ∀ C ex s0 H0, g C ex s0 H0 v (List.replicate n none ++ frσ σ fr) B' fun σ4 H4 => σ4.drop n = frσ σ fr ∧ tt C ex s0 H0 σ4 H4 fun b H5 => if b = true then te C ex s0 H0 σ4 H5 Kd else Kn H5)
    (k : ∀ D H', Same H H' → Sta B G0 H' ((D, ys) :: cs) ds → Q (.ref D) H') : kComp n fr g tt te σ Q J H := by
  refine comp_wk w (fun i => some (f i)) S hPm hn (fun i x v B' G' Kd Kn hx t1 S' hd _ => hs i x v B' G' Kd Kn hx t1 S' fun {y H6 cs' ds'} a b => hd rfl a b) fun D H' e S' => k D H' e ?_
  rw [fm_some, hy] at S'
  exact S'
theorem rd_kILd {R : It → Hp → Prop} (S : Sta B G0 H cs ds) (h : Has ds (.list xs) v) (k : ∀ J, Wk B G0 J xs (fun _ ds => Has ds (.list xs) v) → R J H) : kIL K R v H := by
  obtain ⟨p, vs, rfl, hp, _⟩ := S.lst h
  exact ⟨p, rfl, ⟨_, SqL.of hp⟩, k _ (wk_list src_list)⟩
theorem rd_kITd {R : It → Hp → Prop} (S : Sta B G0 H cs ds) (h : Has ds (.tuple xs) v) (k : ∀ J, Wk B G0 J xs (fun _ ds => Has ds (.tuple xs) v) → R J H) : kIT K R v H := by
  obtain ⟨p, vs, rfl, hp, _⟩ := S.tup h
  exact ⟨p, rfl, ⟨_, SqT.of hp⟩, k _ (wk_tup src_tup)⟩
theorem rd_kILc {R : It → Hp → Prop} {L : Addr} (S : Sta B G0 H cs ds) (h : (L, xs) ∈ cs) (k : ∀ J, Wk B G0 J xs (fun cs _ => (L, xs) ∈ cs) → R J H) : kIL K R (.ref L) H := by
  obtain ⟨vs, hp, _⟩ := S.cell h
  exact ⟨L, rfl, ⟨_, SqL.of hp⟩, k _ (wk_list src_cell)⟩
theorem rd_kEnL {R : It → Hp → Prop} (S : Sta B G0 H cs ds) (h : Has ds (.list xs) v) (k : ∀ J, Wk B G0 J (enumD xs) (fun _ ds => Has ds (.list xs) v) → R J H) : kEn true K R [v] H := by
  obtain ⟨p, vs, rfl, hp, _⟩ := S.lst h
  exact ⟨p, rfl, ⟨_, SqL.of hp⟩, k _ (wk_enum src_list)⟩
theorem rd_kZiTT {R : It → Hp → Prop} {w : V} (S : Sta B G0 H cs ds) (h : Has ds (.tuple xs) v) (h2 : Has ds (.tuple ys) w) (k : ∀ J, Wk B G0 J (zipD xs ys) (fun cs ds => Has ds (.tuple xs) v ∧ (∀ x u, Has ds (.tuple ys) w → Has ((x, u) :: ds) (.tuple ys) w) ∧ Has ds (.tuple ys) w) → R J H) : kZi false false K R [v, w] H := by
  obtain ⟨p, vs, rfl, hp, _⟩ := S.tup h
  obtain ⟨q, ws, rfl, hq, _⟩ := S.tup h2
  exact ⟨p, q, rfl, ⟨_, SqT.of hp⟩, ⟨_, SqT.of hq⟩, k _ (wk_zip src_tup src_tup)⟩
theorem Sta.refL (S : Sta B G0 H cs ds) (h : Has ds (.list xs) v) : ∃ a, v = .ref a := let ⟨p, _, e, _⟩ := S.lst h; ⟨p, e⟩
/-! ### what a def promises -/
section
variable {α : Type}
/-- data in, data out -/
def spT (enc : α → List PyData) (dom : α → Prop) (res : α → PyData) : Sp := fun vs H Q _ => ∃ (G : Hp) (a : α), Same G H ∧ IsAll G (enc a) vs ∧ dom a ∧ ∀ v H' G', Grow G H G' H' → Is G' (res a) v → Q v H'
/-- .. a new list -/
def spL (enc : α → List PyData) (dom : α → Prop) (res : α → List PyData) : Sp := fun vs H Q _ => ∃ (G : Hp) (a : α), Same G H ∧ IsAll G (enc a) vs ∧ dom a ∧ ∀ p H' G' us, Grow G H G' H' → H p = none → G' p = none → H' p = some (.lst us) → IsAll G' (res a) us → Q (.ref p) H'
/-- .. a bool, an int -/
def spB (enc : α → List PyData) (dom : α → Prop) (res : α → V) : Sp := fun vs H Q _ => ∃ (a : α), IsAll H (enc a) vs ∧ dom a ∧ ∀ H', Same H H' → Q (res a) H'
variable {enc : α → List PyData} {dom : α → Prop} {res : α → PyData} {resL : α → List PyData} {resB : α → V} {Q : VK} {E : XK} {vs : List V}
theorem rd_spT (a : α) (S : Sta B G0 H cs ds) (hx : HasAll ds (enc a) vs) (hd : dom a) (k : ∀ v H', Same H H' → Sta B G0 H' cs ((res a, v) :: ds) → Q v H') : spT enc dom res vs H Q E := by
  obtain ⟨G, S⟩ := S
  refine ⟨G, a, S.2.1, hx G S.2.2.2.2.2.2, hd, fun v H' G' gr hv => k v H' gr.h ?_⟩
  obtain ⟨a', b', c', d', e', f', g'⟩ := S.grow gr
  exact ⟨G', a', b', c', d', e', f', g'.cons hv⟩
theorem rd_spL (a : α) (S : Sta B G0 H cs ds) (hx : HasAll ds (enc a) vs) (hd : dom a) (k : ∀ p H', Same H H' → Sta B G0 H' ((p, resL a) :: cs) ds → Q (.ref p) H') : spL enc dom resL vs H Q E := by
  obtain ⟨G, S⟩ := S
  refine ⟨G, a, S.2.1, hx G S.2.2.2.2.2.2, hd, fun p H' G' us gr hp hg hu hv => k p H' gr.h ?_⟩
  have hc := S.2.2.1.free hp
  obtain ⟨_, _, _, _, e0, _, _⟩ := id S
  obtain ⟨a', b', c', d', e', f', g'⟩ := S.grow gr
  refine ⟨G', a', b', c', d', fun q hq => ?_, ?_, g'⟩
  · rcases List.mem_cons.mp hq with rfl | hq
    · exact ⟨hc, hg, us, hu, hv⟩
    · exact e' q hq
  · rw [List.map_cons, List.nodup_cons]
    refine ⟨fun z => ?_, f'⟩
    obtain ⟨q, hq, hqp⟩ := List.mem_map.mp z
    obtain ⟨_, _, ws, z, _⟩ := e0 q hq
    rw [hqp, hp] at z; cases z
theorem rd_spB (a : α) (hx : IsAll H (enc a) vs) (hd : dom a) (k : ∀ H', Same H H' → Q (resB a) H') : spB enc dom resB vs H Q E := ⟨a, hx, hd, k⟩
theorem Sta.hpAll (S : Sta B G0 H cs ds) {xs : List PyData} (h : HasAll ds xs vs) : IsAll H xs vs := by
  obtain ⟨G, a, b, c, d, e, f, g⟩ := S
  exact IsAll.mono b _ _ (h G g)
/-- the end of a def -/
theorem ret_T {G H' : Hp} {r : PyData} {v : V} (S : Sta H G H' cs ds) (k : ∀ v H' G', Grow G H G' H' → Is G' r v → Q v H') (h : Has ds r v) : Q v H' :=
  let ⟨G', gr, al⟩ := S.leave; k v H' G' gr (h G' al)
theorem ret_L {G H' : Hp} {r : List PyData} {p : Addr} (S : Sta H G H' ((p, r) :: cs) ds) (k : ∀ p H' G' us, Grow G H G' H' → H p = none → G' p = none → H' p = some (.lst us) → IsAll G' r us → Q (.ref p) H') : Q (.ref p) H' := by
  obtain ⟨G', a, b, c, d, e, f, g⟩ := S
  obtain ⟨x, y, us, z, u⟩ := e _ (List.mem_cons_self ..)
  exact k p H' G' us ⟨c, a, b, d⟩ x y z u
theorem ret_B {G H' : Hp} {r : V} (S : Sta H G H' cs ds) (k : ∀ H', Same H H' → Q r H') : Q r H' := k H' S.base
/-- the start of a def -/
theorem isAll1 {G : Hp} {x : PyData} {vs : List V} (h : IsAll G [x] vs) : ∃ v, vs = [v] ∧ AllIs G [(x, v)] := by
  simp only [IsAll] at h
  obtain ⟨v, _, rfl, h1, rfl⟩ := h
  exact ⟨v, rfl, fun p hp => by simp at hp; subst hp; exact h1⟩
theorem isAll2 {G : Hp} {x y : PyData} {vs : List V} (h : IsAll G [x, y] vs) : ∃ v w, vs = [v, w] ∧ AllIs G [(x, v), (y, w)] := by
  simp only [IsAll] at h
  obtain ⟨v, _, rfl, h1, w, _, rfl, h2, rfl⟩ := h
  exact ⟨v, w, rfl, fun p hp => by simp at hp; rcases hp with rfl | rfl <;> assumption⟩
theorem isAll3 {G : Hp} {x y z : PyData} {vs : List V} (h : IsAll G [x, y, z] vs) : ∃ v w u, vs = [v, w, u] ∧ AllIs G [(x, v), (y, w), (z, u)] := by
  simp only [IsAll] at h
  obtain ⟨v, _, rfl, h1, w, _, rfl, h2, u, _, rfl, h3, rfl⟩ := h
  exact ⟨v, w, u, rfl, fun p hp => by simp at hp; rcases hp with rfl | rfl | rfl <;> assumption⟩
theorem Is.int_of {G : Hp} {i : Int} {v : V} (h : Is G (.int i) v) : v = .int i := by rw [Is] at h; exact h
end
end
end S

namespace S
open PySem PySem.Spec PyProof.Rows L2
/-! ### a list comprehension whose own name is read by one within it: it is held in a cell -/
theorem newEnv_one {M : Model} {A : Around} {E : Value → Shared → Prop} {s : Shared} {scope : Scope} {globals : Addr} {closure : List (Str × Addr)} {qual y : Str} {func : Option Addr} {code : Value} {env : Env} {builtins : Addr} {Q : Env → Shared → Prop}
    (one : ∀ n acc, cellsFrom n scope.names acc = (y, n) :: acc) (push : ∀ h, pushCells h scope.names = h.push { cls := .type "cell", data := .cell none })
    (hQ : Q (newEnv scope s.heap.objs.size globals ((y, s.heap.objs.size + 1) :: closure) qual func code (some env) builtins) { s with heap := (s.heap.push { cls := .type "dict", data := .dict #[] }).push { cls := .type "cell", data := .cell none } }) :
    wpAny M A (newFunctionEnv scope globals closure [] qual func code (some env) builtins) Q E s := by
  simp only [newFunctionEnv, Option.isSome_some, if_true]
  refine wpAny_bind (wpAny_alloc ?_)
  refine wpAny_bind (wpAny_layCells _ (fun name kind cells => by cases hkc : kind == NameKind.cell <;> simp [hkc]) _ _ _ _ ?_)
  rw [one, push, show ({ s with heap := s.heap.push { cls := .type "dict", data := .dict #[] } } : Shared).heap.objs.size = s.heap.objs.size + 1 from Heap.size_push ..]
  refine wpAny_bind ?_
  rw [List.forIn_nil]
  exact wpAny_pure (wpAny_pure hQ)
def cxComp1 (X : Cx) (N : List Str) (scope : Scope) (y : Str) (C : Addr) (ex : List Addr) (s : Shared) (H : Hp) : Cx where
  prog := X.prog
  w := X.w
  K := X.K
  mg := X.mg
  base := X.base
  A := X.A
  N := N
  s₀ := s
  H₀ := H
  env := compEnvC scope ((y, C + 1) :: closOf X.env.cells scope.names []) C X.env
  outer := X.stack
  stack := X.stack
  ex := ex
  fn := fun x => x == y
  calm := X.calm
  pn := []
  xe := fun _ _ => False
structure CompOk1 (X : Cx) (N : List Str) (n : Nat) (fr : List Nat) (scope : Scope) (y : Str) : Prop where
  kind : scope.kind = .function
  nd : N.Nodup
  names : (N.drop n) = fr.map (fun j => (X.N[j]?).getD ("" : Str))
  own : n ≤ N.length
  inx : (fr.all fun j => decide (j < X.N.length)) = true
  free : ((N.drop n).all fun x => decide (scope.names.lookup x = some .free)) = true
  one : ∀ n acc, cellsFrom n scope.names acc = (y, n) :: acc
  push : ∀ h, pushCells h scope.names = h.push { cls := .type "cell", data := .cell none }
  oth : (scope.names.all fun z => decide (z.2 = .cell → z.1 = y)) = true
  yfree : (scope.names.all fun z => decide (z.2 = .free → z.1 ≠ y)) = true
  loc : (scope.names.all fun y => decide (y.2 = .local → scope.names.lookup y.1 = some .local)) = true
  seen : (scope.names.all fun y => decide (y.2 = .free → (X.env.kindOf y.1 = some .cell ∨ X.env.kindOf y.1 = some .free))) = true
theorem relabel_kinds1 {scope : Scope} {env : Env} {x y : Str} {k : NameKind} (h : (relabel scope env).names.lookup x = some k) (hk : k = .cell ∨ k = .free) (hc : (scope.names.all fun z => decide (z.2 = .cell → z.1 = y)) = true) : x = y ∨ (x, NameKind.free) ∈ scope.names := by
  unfold relabel at h
  dsimp only at h
  have key : ∀ names : List (Str × NameKind), (names.all fun z => decide (z.2 = .cell → z.1 = y)) = true →
      (names.map fun (n, k) => if (k == NameKind.free && env.scope.kind == .function && env.kindOf n == some .cell) = true then (n, NameKind.cell) else (n, k)).lookup x = some k → x = y ∨ (x, NameKind.free) ∈ names := by
    intro names
    induction names with
    | nil => intro _ h; simp at h
    | cons z r ih =>
      intro ha h
      obtain ⟨n, j⟩ := z
      rw [List.all_cons, Bool.and_eq_true] at ha
      rw [List.map_cons] at h
      have e1 : ∀ (b : Bool) (k1 : NameKind), ((if b = true then (n, NameKind.cell) else (n, k1)) : Str × NameKind) = (n, if b = true then NameKind.cell else k1) := by intro b k1; cases b <;> rfl
      dsimp only at h
      rw [e1, List.lookup_cons] at h
      cases hx : x == n with
      | false =>
        rw [hx] at h
        exact (ih ha.2 h).imp id (List.mem_cons_of_mem _)
      | true =>
        rw [hx] at h
        have e : x = n := by simpa using hx
        subst e
        have h' := Option.some.inj h
        have hj : j = .cell → x = y := of_decide_eq_true ha.1
        cases hb : (j == NameKind.free && env.scope.kind == .function && env.kindOf x == some .cell) with
        | true =>
          rw [Bool.and_eq_true, Bool.and_eq_true] at hb
          have : j = .free := by simpa using hb.1.1
          subst this
          exact .inr (List.mem_cons_self ..)
        | false =>
          rw [hb] at h'
          simp only [Bool.false_eq_true, if_false] at h'
          subst h'
          rcases hk with z | z
          · exact .inl (hj z)
          · subst z; exact .inr (List.mem_cons_self ..)
  exact key _ hc h
section
variable {X : Cx} {N : List Str} {n : Nat} {fr : List Nat} {scope : Scope} {pins : List (Addr × Obj)} {σ : L2.St} {H : Hp} {s : Shared} {y : Str}
theorem CompOk1.cells (O : CompOk1 X N n fr scope y) (I : Inv X pins σ H s) : ∀ y ∈ scope.names, y.2 = .free → ∃ c, X.env.cells.lookup y.1 = some c := fun y hy hf => I.ok.has y.1 (of_decide_eq_true (List.all_eq_true.mp O.seen y hy) hf)
theorem lookup_y {y x : Str} {a : Addr} {l : List (Str × Addr)} : ((y, a) :: l).lookup x = if x = y then some a else l.lookup x := by
  rw [List.lookup_cons]
  cases h : x == y with
  | true => rw [if_pos (by simpa using h)]
  | false => rw [if_neg (by simpa using h)]
theorem comp_start1 {fp : List Addr} {h' : Heap} {tk : Nat} {m : Str → Option Value} (O : CompOk1 X N n fr scope y) (I : Inv X pins σ H s) (hf : ∀ b ∈ fp, FpOk X pins H b) (hfl : ∀ b ∈ fp, b < s.heap.objs.size)
    (hns : h'.Ns s.heap.objs.size m) (hcl1 : h'.IsCell (s.heap.objs.size + 1) none) (keep : ∀ b o, s.heap.get? b = some o → h'.get? b = some o) :
    Inv (cxComp1 X N scope y s.heap.objs.size fp s H) [] (List.replicate n none ++ frσ σ fr) H { s with heap := h', toks := tk } := by
  have hcl := O.cells I
  have lk : ∀ x c, (closOf X.env.cells scope.names []).lookup x = some c → X.env.cells.lookup x = some c := fun x c h => closOf_lookup hcl (fun c h => by simp at h) h
  have cne : ∀ x c, (closOf X.env.cells scope.names []).lookup x = some c → ∃ v, s.heap.IsCell c v := fun x c h => I.cell x c (lk x c h)
  have clt : ∀ x c, (closOf X.env.cells scope.names []).lookup x = some c → c < s.heap.objs.size := fun x c h => by
    obtain ⟨v, o, ho, _⟩ := cne x c h
    exact Heap.lt_size ho
  have cases1 : ∀ x c, ((y, s.heap.objs.size + 1) :: closOf X.env.cells scope.names []).lookup x = some c → (x = y ∧ c = s.heap.objs.size + 1) ∨ (closOf X.env.cells scope.names []).lookup x = some c := fun x c h => by
    rw [lookup_y] at h
    by_cases e : x = y
    · rw [if_pos e] at h; exact .inl ⟨e, (Option.some.inj h).symm⟩
    · rw [if_neg e] at h; exact .inr h
  have injY : ∀ x x' c, ((y, s.heap.objs.size + 1) :: closOf X.env.cells scope.names []).lookup x = some c → ((y, s.heap.objs.size + 1) :: closOf X.env.cells scope.names []).lookup x' = some c → x = x' := fun x x' c h1 h2 => by
    rcases cases1 x c h1 with ⟨a, b⟩ | a
    · rcases cases1 x' c h2 with ⟨a', _⟩ | a'
      · rw [a, a']
      · have := clt x' c a'
        rw [b] at this
        exact absurd (Nat.lt_trans (Nat.lt_succ_self _) this) (Nat.lt_irrefl _)
    · rcases cases1 x' c h2 with ⟨_, b⟩ | a'
      · have := clt x c a
        rw [b] at this
        exact absurd (Nat.lt_trans (Nat.lt_succ_self _) this) (Nat.lt_irrefl _)
      · exact I.ok.inj x x' c (lk x c a) (lk x' c a')
  have cabY : ∀ x c, (x == y) = true → ((y, s.heap.objs.size + 1) :: closOf X.env.cells scope.names []).lookup x = some c → s.heap.objs.size ≤ c := fun x c hx h => by
    rcases cases1 x c h with ⟨_, b⟩ | a
    · rw [b]; exact Nat.le_succ _
    · rw [lookup_y, if_pos (by simpa using hx)] at h
      cases h
      exact Nat.le_succ _
  refine ⟨⟨I.mod, O.kind, I.ok.glob, I.ok.blt, Nat.le_refl _, injY, fun x hx => ?_, cabY, I.ok.hd, I.ok.frames, .inl rfl, fun b hb => ⟨Nat.ne_of_lt (hfl b hb), fun x c h => by
      rcases cases1 x c h with ⟨_, z⟩ | z
      · rw [z]; exact fun e => absurd (hfl b hb) (by rw [← e]; exact Nat.not_lt.mpr (Nat.le_succ _))
      · exact (hf b hb).2.2.2.2.1 x c (lk x c z)⟩, I.bs, Nat.le_trans I.ok.bsz I.sz, fun b o e hb => ?_, fun b hb z => ?_, I.stack, I.stkFree⟩,
    rfl, I.bare, Un.kept keep, ⟨m, hns, fun i x v h1 h2 h3 => ?_⟩, fun x c h => ?_, I.hok.fresh (Nat.le_refl _), fun x c h => by
      rcases cases1 x c h with ⟨_, z⟩ | z
      · rw [z]; exact I.hok.fresh (Nat.le_succ _)
      · exact I.freeC x c (lk x c z), fun p hp => absurd hp (by simp [cxComp1]), I.hok.kept keep, ?_⟩
  · have hx' : x = y ∨ (x, NameKind.free) ∈ scope.names := by
      rcases hx with hx | hx
      · exact relabel_kinds1 hx (.inl rfl) O.oth
      · exact relabel_kinds1 hx (.inr rfl) O.oth
    show ∃ c, ((y, s.heap.objs.size + 1) :: closOf X.env.cells scope.names []).lookup x = some c
    rw [lookup_y]
    by_cases e : x = y
    · exact ⟨_, if_pos e⟩
    · rw [if_neg e]
      exact Option.isSome_iff_exists.mp (closOf_has (.inl (hx'.resolve_left e)))
  · rcases (hf b hb).2.2.2.1 with z | z
    · exact I.ok.noex b o e z
    · exact absurd (Nat.lt_of_lt_of_le (Heap.lt_size (I.ok.bs b o e).1) z) (Nat.lt_irrefl _)
  · rcases List.mem_cons.mp (I.stkSub b z) with q | q
    · exact (hf b hb).2.1 q
    · exact (hf b hb).2.2.1 q
  · by_cases hi : i < n
    · rw [List.getElem?_append_left (by simpa using hi), List.getElem?_replicate, if_pos hi] at h2
      cases h2
    · have h1' : (N.drop n)[i - n]? = some x := by rw [List.getElem?_drop, show n + (i - n) = i by omega]; exact h1
      rw [List.getElem?_append_right (by simpa using hi), List.length_replicate] at h2
      unfold frσ at h2
      rw [List.getElem?_map] at h2
      rw [O.names, List.getElem?_map] at h1'
      cases ej : fr[i - n]? with
      | none => rw [ej] at h2; cases h2
      | some j =>
        rw [ej] at h2 h1'
        have hjl : j < X.N.length := of_decide_eq_true (List.all_eq_true.mp O.inx j (List.mem_of_getElem? ej))
        have hx : X.N[j]? = some x := by
          have e := Option.some.inj h1'
          dsimp only at e
          rw [List.getElem?_eq_getElem hjl] at e ⊢
          exact congrArg some e
        have hv : σ[j]? = some (some v) := by
          have e := Option.some.inj h2
          dsimp only at e
          cases es : σ[j]? with
          | none => rw [es] at e; cases e
          | some o => rw [es] at e; rw [show o = some v from e]
        have hfl' : scope.names.lookup x = some .free := by
          refine of_decide_eq_true (List.all_eq_true.mp O.free x ?_)
          exact List.mem_of_getElem? (i := i - n) (by rw [List.getElem?_drop, show n + (i - n) = i by omega]; exact h1)
        have hfx : (x, NameKind.free) ∈ scope.names := PySem.mem_of_lookup hfl'
        have hkX := of_decide_eq_true (List.all_eq_true.mp O.seen _ hfx) rfl
        obtain ⟨mX, hnX, hlX⟩ := I.loc
        obtain ⟨u, ru, lu⟩ := hlX j x v hx hv (hkX.elim (fun z => .inr (.inl z)) fun z => .inr (.inr z))
        refine ⟨u, ru, .inr ⟨?_, ?_⟩⟩
        · exact relabel_free hfl'
        · obtain ⟨c, hc⟩ := Option.isSome_iff_exists.mp (closOf_has (cells := X.env.cells) (acc := []) (.inl hfx))
          refine ⟨c, (by
            show ((y, s.heap.objs.size + 1) :: closOf X.env.cells scope.names []).lookup x = some c
            rw [lookup_y, if_neg (of_decide_eq_true (List.all_eq_true.mp O.yfree _ hfx) rfl)]
            exact hc), ?_⟩
          rcases lu with ⟨k, _⟩ | ⟨_, c', hc', z⟩
          · rcases hkX with q | q
            · rw [show X.env.kindOf x = _ from k] at q; cases q
            · rw [show X.env.kindOf x = _ from k] at q; cases q
          · have := lk x c hc
            rw [hc'] at this
            cases this
            obtain ⟨o, ho, hd⟩ := z
            exact ⟨o, keep _ _ ho, hd⟩
  · rcases cases1 x c h with ⟨_, z⟩ | z
    · rw [z]; exact ⟨_, hcl1⟩
    · obtain ⟨v, o, ho, hd⟩ := cne x c z
      exact ⟨v, o, keep _ _ ho, hd⟩
  · rw [List.length_append, List.length_replicate]
    unfold frσ
    have e := congrArg List.length O.names
    rw [List.length_drop, List.length_map] at e
    have := O.own
    show _ = N.length
    rw [List.length_map]
    omega
end
section
variable {X : Cx} {N : List Str} {n : Nat} {fr : List Nat} {scope : Scope} {y : Str}
theorem comp_run1 {tg iter elt : Expr} {ifs : List Expr} {pos : Pos} {g : Blk TG} {tt : Blk TT} {te : Blk TE} {pins : List (Addr × Obj)} {σ : L2.St} {H2 : Hp} {s2 : Shared} {it : Addr} {fp : List Addr} {tn : Nat → Heap → Prop} {J : It} {Q : VK}
    {RR : Value → Addr → Result → Shared → Prop} {E : Value → Shared → Prop}
    (hc : X.calm = true) (O : CompOk1 X N n fr scope y)
    (hg : ∀ C ex s H, PG (cxComp1 X N scope y C ex s H) tg (g C ex s H)) (ht : ∀ C ex s H, PIf (cxComp1 X N scope y C ex s H) ifs (tt C ex s H)) (he : ∀ C ex s H, PE (cxComp1 X N scope y C ex s H) elt (te C ex s H))
    (I2 : Inv X pins σ H2 s2) (T : Turn X.prog X.w X.K tg J fp it tn) (st2 : tn 0 s2.heap) (f2 : ∀ b ∈ fp, FpOk X pins H2 b)
    (hW : ∀ D, H2 D = none → ∀ C ex s0 H0, ∃ W : Nat → Nat → List V → Hp → Prop, (∃ m, W 0 m [] (upd H2 D (.lst []))) ∧ ∀ i m ys H2, W i m ys H2 → H2 D = some (.lst ys) ∧
      ((J.stop i H2 ∧ Q (.ref D) H2) ∨ (J.go i H2 ∧ ∀ x H3, J.yld i H2 x H3 → g C ex s0 H0 x (List.replicate n none ++ frσ σ fr) H3 fun σ4 H4 => σ4.drop n = frσ σ fr ∧ tt C ex s0 H0 σ4 H4 fun b H5 =>
        if b = true then te C ex s0 H0 σ4 H5 fun y H6 => H6 D = some (.lst ys) ∧ ys.length < sizeLine ∧ ∃ m', m' < m ∧ W (i + 1) m' (ys ++ [y]) (upd H6 D (.lst (ys ++ [y])))
        else ∃ m', m' < m ∧ W (i + 1) m' ys H5)))
    (hR : ∀ (D C : Addr) (H' : Hp) (s' : Shared), Q (.ref D) H' → (∃ m, s'.heap.Ns C m) → Side X pins H' C → Inv X pins σ H' s' → RR (.ref D) C (.ok .next) s') :
    wpAny (model X.prog X.w) X.A (newList []) (fun acc s₃ => wpAny (model X.prog X.w) X.A (newFunctionEnv scope X.env.globals (closOf X.env.cells scope.names []) [] X.env.qual none .none (some X.env)) (fun cenv s₄ =>
      codeAny (model X.prog X.w) X.A (.compStart (.ListComp elt [⟨tg, iter, ifs, 0⟩] scope pos) 0 (.ref it) acc { cenv with scope := relabel scope X.env }) (RR acc cenv.locals) s₄) E s₃) E s2 := by
  refine wpAny_newObj_type (newEnv_one O.one O.push ?_)
  have hDn : H2 s2.heap.objs.size = none := I2.fresh
  have I3 : Inv X pins σ (upd H2 s2.heap.objs.size (.lst [])) { s2 with heap := s2.heap.push { cls := .type "list", data := .seq ([] : List Value).toArray }, toks := s2.toks } := I2.lnew (its := []) .nil (Nat.zero_le _)
  generalize hD : s2.heap.objs.size = D at *
  dsimp only
  generalize hs3 : s2.heap.push { cls := .type "list", dict := none, data := .seq ([] : List Value).toArray } = hp3 at *
  have k23 : ∀ b o, s2.heap.get? b = some o → hp3.get? b = some o := fun b o e => by rw [← hs3]; exact Heap.get?_push_of_some _ e
  have sz3 : hp3.objs.size = D + 1 := by rw [← hs3, Heap.size_push, hD]
  have hns₁ : ((hp3.push { cls := .type "dict", dict := none, data := .dict #[], slots := #[] }).push { cls := .type "cell", dict := none, data := .cell none, slots := #[] }).Ns hp3.objs.size (fun _ => none) := (Heap.Ns.new hp3 (.type "dict")).keeps fun b o e => Heap.get?_push_of_some _ e
  have hcl₁ : ((hp3.push { cls := .type "dict", dict := none, data := .dict #[], slots := #[] }).push { cls := .type "cell", dict := none, data := .cell none, slots := #[] }).IsCell (hp3.objs.size + 1) none := ⟨_, by
    have := Heap.get?_push_size (hp3.push { cls := .type "dict", dict := none, data := .dict #[], slots := #[] }) (o := { cls := .type "cell", dict := none, data := .cell none, slots := #[] }) rfl
    rw [Heap.size_push] at this
    exact this, rfl⟩
  have keep : ∀ b o, hp3.get? b = some o → ((hp3.push { cls := .type "dict", dict := none, data := .dict #[], slots := #[] }).push { cls := .type "cell", dict := none, data := .cell none, slots := #[] }).get? b = some o := fun b o e => Heap.get?_push_of_some _ (Heap.get?_push_of_some _ e)
  generalize (hp3.push { cls := .type "dict", dict := none, data := .dict #[], slots := #[] }).push { cls := .type "cell", dict := none, data := .cell none, slots := #[] } = h₁ at *
  have flt : ∀ b ∈ fp, b < D := fun b hb => by
    obtain ⟨o, ho, _⟩ := T.obj _ _ st2 b hb
    rw [← hD]
    exact Heap.lt_size ho
  have f3 : ∀ b ∈ fp, FpOk X pins (upd H2 D (.lst [])) b := fun b hb => ⟨by rw [upd_ne (Nat.ne_of_lt (flt b hb))]; exact (f2 b hb).1, (f2 b hb).2⟩
  have IY := comp_start1 (tk := s2.toks) O I3 f3 (fun b hb => by show b < hp3.objs.size; rw [sz3]; exact Nat.lt_succ_of_lt (flt b hb)) hns₁ hcl₁ keep
  obtain ⟨W, ⟨m0, w0⟩, turn⟩ := hW _ hDn hp3.objs.size fp { s2 with heap := hp3, toks := s2.toks } (upd H2 D (.lst []))
  have st4 : tn 0 h₁ := T.keep _ _ _ st2 fun b hb o e => keep b o (k23 b o e)
  -- the context of the block
  generalize hY : cxComp1 X N scope y hp3.objs.size fp { s2 with heap := hp3, toks := s2.toks } (upd H2 D (.lst [])) = Y at *
  have eEnv : Y.env = compEnvC scope ((y, hp3.objs.size + 1) :: closOf X.env.cells scope.names []) hp3.objs.size X.env := by rw [← hY]; rfl
  have hgY := hg hp3.objs.size fp { s2 with heap := hp3, toks := s2.toks } (upd H2 D (.lst []))
  have htY := ht hp3.objs.size fp { s2 with heap := hp3, toks := s2.toks } (upd H2 D (.lst []))
  have heY := he hp3.objs.size fp { s2 with heap := hp3, toks := s2.toks } (upd H2 D (.lst []))
  rw [hY] at hgY htY heY
  have eP : Y.prog = X.prog := by rw [← hY]; rfl
  have eW : Y.w = X.w := by rw [← hY]; rfl
  have eK : Y.K = X.K := by rw [← hY]; rfl
  have eA : Y.A = X.A := by rw [← hY]; rfl
  have eC : Y.calm = true := by rw [← hY]; exact hc
  have eX : Y.xe = fun _ _ => False := by rw [← hY]; rfl
  have fY : ∀ {H' : Hp}, (∀ b ∈ fp, H' b = none) → ∀ b ∈ fp, FpOk Y [] H' b := fun {H'} hn b hb => by
    have h1 := IY.ok.exf b (by rw [← hY]; exact hb)
    refine ⟨hn b hb, h1.1, IY.ok.exfs b (by rw [← hY]; exact hb), .inl (by rw [← hY]; exact hb), h1.2, fun p hp => absurd hp (by rw [← hY]; simp [cxComp1])⟩
  have loop : codeAny (model X.prog X.w) X.A (.compLoop (.ListComp elt [⟨tg, iter, ifs, 0⟩] scope pos) 0 (.ref it) (.ref D) (compEnvC scope ((y, hp3.objs.size + 1) :: closOf X.env.cells scope.names []) hp3.objs.size X.env))
      (RR (.ref D) hp3.objs.size) { s2 with heap := h₁, toks := s2.toks } := by
    refine codeAny_loop rfl (fun k s' => ∃ i ys H', Inv Y [] (List.replicate n none ++ frσ σ fr) H' s' ∧ tn i s'.heap ∧ (∀ b ∈ fp, H' b = none) ∧ W i k ys H') (fun k s5 hI => ?_) m0 ⟨0, [], _, IY, st4, fun b hb => (f3 b hb).1, w0⟩
    obtain ⟨i, ys, H5, I5, st5, fr5, w5⟩ := hI
    show wpAny _ X.A ((compTurn (.ListComp elt [⟨tg, iter, ifs, 0⟩] scope pos) 0 (.ref it) (.ref D) _).onRaise (fun x => do noteFrame x _; theTreesLotGoes x)) _ _ s5
    refine wpAny_noted ?_
    rw [compTurn_list, ← eEnv]
    refine wpAny_bind (wpAny_standAt (wpAny_bind ?_))
    obtain ⟨hDl, step⟩ := turn i k ys H5 w5
    rcases step with ⟨stop, qn⟩ | ⟨go, step⟩
    · have d := T.done Y eP eW eK eC i [] s5 _ H5 (fun _ _ => False) I5 (fY fr5) st5 stop
      rw [eA] at d
      refine wpAny_noE (thn d fun r s6 ⟨hr, I6⟩ => ?_)
      subst hr
      refine wpAny_pure ?_
      have hC : H5 hp3.objs.size = none := by have := I6.free; rw [eEnv] at this; exact this
      have hns6 : ∃ m, s6.heap.Ns hp3.objs.size m := by
        have := I6.loc
        rw [eEnv] at this
        obtain ⟨m, hm, _⟩ := this
        exact ⟨m, hm⟩
      have sd : Side X pins H5 hp3.objs.size := ⟨hC, Nat.ne_of_gt I3.lt, I3.sz, fun x c e => Nat.ne_of_lt (let ⟨v, o, ho, _⟩ := I3.cell x c e; Heap.lt_size ho), fun p hp => Nat.ne_of_lt (Heap.lt_size (I3.pin p hp).1)⟩
      refine hR D hp3.objs.size H5 s6 qn hns6 sd ?_
      have un := I6.base
      have e0 : Y.s₀.heap = hp3 := by rw [← hY]; rfl
      have eH0 : Y.H₀ = upd H2 D (.lst []) := by rw [← hY]; rfl
      have eF : Y.fs = frs X.stack := by rw [← hY]; rfl
      have eEx : Y.ex = fp := by rw [← hY]; rfl
      rw [e0, eH0, eF, eEx] at un
      have hok' : HOk X.prog X.w H5 s6.heap := by have := I6.hok; rw [eP, eW] at this; exact this
      have os6 : s6.os = s2.os := I6.os.trans (by rw [← hY]; rfl)
      exact I3.call' (s' := s6) (ch := fp) os6 un hok' I6.bare fun b hb => ⟨(f2 b hb).2.2.2.1, (f2 b hb).2.1, (f2 b hb).2.2.2.2.1, (f2 b hb).2.2.2.2.2⟩
    · have d := T.item Y eP eW eK eC i [] s5 _ H5 (fun _ _ => False) I5 (fY fr5) st5 go
      rw [eA] at d
      refine wpAny_noE (thn d fun r s6 ⟨u, hr, h6⟩ => ?_)
      subst hr
      refine wpAny_bind (wpAny_noE (thn h6 fun _ s7 ⟨x, H7, I7, r7, y7, st7, fr7⟩ => ?_))
      have I7' := I7.pinned (fY fr7) (T.obj _ _ st7)
      have g7 := hgY _ s7 _ H7 x u _ I7' r7 (step x H7 y7)
      rw [eA, eP, eW, eX] at g7
      refine wpAny_bind (wpAny_noE (thn g7 fun _ s8 ⟨σ8, H8, I8, ed, q8⟩ => ?_))
      have t8 := htY _ s8 σ8 H8 _ I8 q8
      rw [eA, eP, eW, eX] at t8
      refine wpAny_bind (wpAny_noE (thn t8 fun b s9 ⟨H9, I9, q9⟩ => ?_))
      have back : ∀ {s' : Shared} {H' : Hp} {ys' : List V} {m' : Nat}, Inv Y ([] ++ pinsAt fp s7.heap) σ8 H' s' → m' < k → W (i + 1) m' ys' H' → ∃ m, m < k ∧ ∃ i ys H', Inv Y [] (List.replicate n none ++ frσ σ fr) H' s' ∧ tn i s'.heap ∧ (∀ b ∈ fp, H' b = none) ∧ W i m ys H' := fun {s' H' ys' m'} I' hm w' => by
        refine ⟨m', hm, i + 1, ys', H', ?_, T.keep _ _ _ st7 fun b hb o e => (I'.pin (b, o) (List.mem_append_right _ (List.mem_append_right _ (mem_pinsAt hb e)))).1, fun b hb => ?_, w'⟩
        · refine (Inv.unpinned I').weak ?_ fun j v hj => ?_
          · exact IY.len.trans I'.len.symm
          · by_cases hjn : j < n
            · rw [List.getElem?_append_left (by simpa using hjn), List.getElem?_replicate, if_pos hjn] at hj
              cases hj
            · rw [List.getElem?_append_right (by simpa using hjn), List.length_replicate, ← ed, List.getElem?_drop, show n + (j - n) = j by omega] at hj
              exact hj
        · obtain ⟨o, e, d⟩ := T.obj _ _ st7 b hb
          exact (I'.pin (b, o) (List.mem_append_right _ (List.mem_append_right _ (mem_pinsAt hb e)))).2.1
      cases b with
      | false =>
        obtain ⟨m', hm, w9⟩ := q9
        exact wpAny_pure ⟨rfl, back I9 hm w9⟩
      | true =>
        have e9 := heY _ s9 σ8 H9 _ I9 q9
        rw [eA, eP, eW, eX] at e9
        refine wpAny_bind (wpAny_bind (wpAny_noE (thn e9 fun v s10 ⟨y, H10, I10, r10, hD10, hz, m', hm, w10⟩ => ?_)))
        have a10 := mt_append _ s10 σ8 H10 (.ref D) [y] (.ref D) [v] (fun _ H' => H' = upd H10 D (.lst (ys ++ [y]))) I10 rfl (.cons r10 .nil) ⟨D, ys, y, rfl, rfl, hD10, hz, rfl⟩
        rw [eA, eP, eW, eX] at a10
        refine wpAny_bind (wpAny_noE (thn a10 fun _ s11 ⟨_, H11, I11, _, e11⟩ => ?_))
        subst e11
        exact wpAny_pure (wpAny_pure ⟨rfl, back I11 hm w10⟩)
  exact codeAny_compStart_list loop (T.self _ _ _ _ _ st4 loop)
theorem pe_comp1 {tg iter elt : Expr} {ifs : List Expr} {pos : Pos} {wi : TI} {g : Blk TG} {tt : Blk TT} {te : Blk TE}
    (hc : X.calm = true) (O : CompOk1 X N n fr scope y) (hi : PI X tg iter wi)
    (hg : ∀ C ex s H, PG (cxComp1 X N scope y C ex s H) tg (g C ex s H)) (ht : ∀ C ex s H, PIf (cxComp1 X N scope y C ex s H) ifs (tt C ex s H)) (he : ∀ C ex s H, PE (cxComp1 X N scope y C ex s H) elt (te C ex s H))
    (hs : ∀ x, foldedSetIterable iter X.env x = pure x := by intro _; rfl) :
    PE X (.ListComp elt [⟨tg, iter, ifs, 0⟩] scope pos) (tComp n fr wi g tt te) := by
  intro pins s σ H Q I h
  rw [eval_ListComp]
  refine wpAny_comprehension_free (use := none) rfl hs (closureFor_eq (O.cells I)) O.kind (fun y hy => of_decide_eq_true (List.all_eq_true.mp O.loc y hy)) (thn (hi pins s σ H _ I h) fun v s1 h1 => thn h1 fun itv s2 h2 => ?_)
  obtain ⟨it, fp, tn, J, H2, e, I2, T, st2, f2, hW⟩ := h2
  subst e
  refine comp_run1 (RR := fun acc C => compPost (model X.prog X.w) X.A X.xe none (EP X pins σ Q) acc C) hc O hg ht he I2 T st2 f2 hW ?_
  intro D C H' s' q ⟨m, hm⟩ sd inv
  exact ⟨m, hm, fun h' hs' => ⟨.ref D, H', inv.turned (t' := s'.toks) (it := C) (fun b o hb e => hs'.extBut b o hb e) sd.nt sd.nl (.inr sd.ab) sd.nc sd.np, rfl, q⟩⟩
theorem ps_setComp1 {i : Nat} {x : Str} {px : Pos} {tg iter elt : Expr} {ifs : List Expr} {pos spos : Pos} {wi : TI} {g : Blk TG} {tt : Blk TT} {te : Blk TE}
    (hN : X.N.Nodup) (hx : X.N[i]? = some x) (hk : X.env.scope.names.lookup x = some .local)
    (hc : X.calm = true) (O : CompOk1 X N n fr scope y) (hi : PI X tg iter wi)
    (hg : ∀ C ex s H, PG (cxComp1 X N scope y C ex s H) tg (g C ex s H)) (ht : ∀ C ex s H, PIf (cxComp1 X N scope y C ex s H) ifs (tt C ex s H)) (he : ∀ C ex s H, PE (cxComp1 X N scope y C ex s H) elt (te C ex s H))
    (hsw : swapsWith (.ListComp elt [⟨tg, iter, ifs, 0⟩] scope pos) (some (.Name x px)) spos.line X.env = pure true := by rfl)
    (hs : ∀ x, foldedSetIterable iter X.env x = pure x := by intro _; rfl) :
    PS X (.Assign [.Name x px] (.ListComp elt [⟨tg, iter, ifs, 0⟩] scope pos) spos) (tAsg (tComp n fr wi g tt te) (gName i)) := by
  intro pins s σ H D I h
  rw [exec_Assign_Name_used _ _ _ _ hsw]
  refine wpAny_bind (wpAny_standAt (wpAny_bind ?_))
  show wpAny _ X.A (do let _ ← comprehension (.ListComp elt [⟨tg, iter, ifs, 0⟩] scope pos) scope X.env _ (newList []) false (eval iter X.env) (some (assign (.Name x px) X.env))) _ _ s
  refine wpAny_bind (wpAny_mono (wpAny_comprehension_free (use := some (assign (.Name x px) X.env)) (Q := fun _ s' => SP X pins D .next s') rfl hs (closureFor_eq (O.cells I)) O.kind (fun y hy => of_decide_eq_true (List.all_eq_true.mp O.loc y hy))
    (thn (hi pins s σ H _ I h) fun v s1 h1 => thn h1 fun itv s2 h2 => ?_)) (fun _ s' hq => wpAny_pure (wpAny_pure hq)) fun _ _ e => e)
  obtain ⟨it, fp, tn, J, H2, e, I2, T, st2, f2, hW⟩ := h2
  subst e
  refine comp_run1 (Q := fun x H1 => gName i x σ H1 D.nx) (RR := fun acc C => compPost (model X.prog X.w) X.A X.xe (some (assign (.Name x px) X.env)) (fun _ s' => SP X pins D .next s') acc C) hc O hg ht he I2 T st2 f2 hW ?_
  intro Dl C H' s' q ⟨m, hm⟩ sd inv
  show wpAny _ X.A (assign (.Name x px) X.env (.ref Dl)) _ _ _
  refine wpAny_assign_Name (store_ok2 (i := i) (v := .ref Dl) inv hN hx (.inl hk) rfl (fun s6 I6 ⟨a, hsb, ha⟩ => ?_) (.inr hk))
  have hCa : C ≠ a := by
    rcases ha with z | z
    · rw [z]; exact sd.nl
    · exact fun e => sd.nc x a z e.symm
  refine ⟨m, hm.sameBut hsb hCa, fun h' hs' => ?_⟩
  refine ⟨_, H', I6.turned (t' := s6.toks) (it := C) (fun b o hb e => hs'.extBut b o hb e) sd.nt sd.nl (.inr sd.ab) sd.nc sd.np, q⟩
end
end S

namespace S
def addV (a b : List Int) : List Int := List.zipWith (· + ·) a b
def cornAt (B : Int) (h : List Int) : Rat × List Rat := (Rat.divInt h.sum B, h.map fun x => Rat.divInt x B)
def cornersFrom (B : Int) : List Int → List (List Int) → List (Rat × List Rat)
  | _, [] => []
  | h, s :: r => cornAt B (addV h s) :: cornersFrom B (addV h s) r
def par (c t : List Int) : Prop := c.map (· * t.sum) = t.map (· * c.sum)
instance (c t : List Int) : Decidable (par c t) := inferInstanceAs (Decidable (_ = _))
def thinFrom : List Int → List (List Int) → List (List Int)
  | c, [] => [c]
  | c, s :: r => if par c s then thinFrom (addV c s) r else c :: thinFrom s r
def thinS : List (List Int) → List (List Int)
  | [] => []
  | s :: r => thinFrom s r
open Classical in
noncomputable def keepFrom (a : Rat × List Rat) : List (Rat × List Rat) → List (Rat × List Rat)
  | [] => []
  | [b] => [b]
  | b :: c :: r => if straight a b c then keepFrom b (c :: r) else b :: keepFrom b (c :: r)
theorem addV_len {a b : List Int} {m : Nat} (ha : a.length = m) (hb : b.length = m) : (addV a b).length = m := by
  unfold addV; rw [List.length_zipWith]; omega
theorem addV_get {a b : List Int} {i : Nat} {x y : Int} (ha : a[i]? = some x) (hb : b[i]? = some y) : (addV a b)[i]? = some (x + y) := by
  unfold addV; rw [List.getElem?_zipWith, ha, hb]
theorem addV_sum : ∀ {a b : List Int}, a.length = b.length → (addV a b).sum = a.sum + b.sum
  | [], [], _ => by simp [addV]
  | x :: a, y :: b, h => by
    have ih := addV_sum (a := a) (b := b) (by simpa using h)
    unfold addV at *
    simp only [List.zipWith_cons_cons, List.sum_cons, ih]
    omega
  | [], _ :: _, h => by simp at h
  | _ :: _, [], h => by simp at h
theorem par_iff {c t : List Int} (h : c.length = t.length) : par c t ↔ ∀ (i : Nat) (a b : Int), c[i]? = some a → t[i]? = some b → a * t.sum = b * c.sum := by
  unfold par
  constructor
  · intro e i a b ha hb
    have := congrArg (fun l => l[i]?) e
    simp only [List.getElem?_map, ha, hb, Option.map_some, Option.some.injEq] at this
    exact this
  · intro e
    apply List.ext_getElem?
    intro i
    simp only [List.getElem?_map]
    cases ha : c[i]? with
    | none =>
      have : t[i]? = none := by rw [List.getElem?_eq_none_iff] at ha ⊢; omega
      rw [this]; rfl
    | some a =>
      have hi : i < t.length := by rw [← h]; exact (List.getElem?_eq_some_iff.mp ha).1
      rw [List.getElem?_eq_getElem hi]
      simp only [Option.map_some, Option.some.injEq]
      exact e i a _ ha (List.getElem?_eq_getElem hi)
theorem par_refl (c : List Int) : par c c := rfl
theorem par_swap {c s t : List Int} (h1 : c.length = s.length) (h2 : c.length = t.length) (hc : 0 < c.sum) (hs : 0 < s.sum) (h : par c s) : par c t ↔ par s t := by
  rw [par_iff h1] at h
  rw [par_iff h2, par_iff (h1 ▸ h2)]
  constructor
  · intro g i a b ha hb
    have hi : i < c.length := by rw [h1]; exact (List.getElem?_eq_some_iff.mp ha).1
    have e1 := h i _ a (List.getElem?_eq_getElem hi) ha
    have e2 := g i _ b (List.getElem?_eq_getElem hi) hb
    generalize c[i] = x at *
    have : (a * t.sum) * c.sum = (b * s.sum) * c.sum := by grind
    exact Int.eq_of_mul_eq_mul_right (by omega) this
  · intro g i a b ha hb
    have hi : i < s.length := by rw [← h1]; exact (List.getElem?_eq_some_iff.mp ha).1
    have e1 := h i a _ ha (List.getElem?_eq_getElem hi)
    have e2 := g i _ b (List.getElem?_eq_getElem hi) hb
    generalize s[i] = x at *
    have : (a * t.sum) * s.sum = (b * c.sum) * s.sum := by grind
    exact Int.eq_of_mul_eq_mul_right (by omega) this
theorem par_add {c t : List Int} (h : c.length = t.length) (g : par c t) : par (addV c t) t := by
  have hl : (addV c t).length = t.length := addV_len h rfl
  rw [par_iff h] at g
  rw [par_iff hl, addV_sum h]
  intro i a b ha hb
  have hi : i < c.length := by rw [h]; exact (List.getElem?_eq_some_iff.mp hb).1
  have e := g i _ b (List.getElem?_eq_getElem hi) hb
  rw [addV_get (List.getElem?_eq_getElem hi) hb] at ha
  have ha' : c[i] + b = a := Option.some.inj ha
  generalize c[i] = x at *
  subst ha'
  grind
theorem div_c (x B : Int) : Rat.divInt x B = (x : Rat) * (B : Rat)⁻¹ := by rw [Rat.divInt_eq_div, Rat.div_def]
theorem str_iff {B : Int} (hB : 0 < B) {q s t : List Int} {m : Nat} (hq : q.length = m) (hs : s.length = m) (ht : t.length = m) :
    straight (cornAt B q) (cornAt B (addV q s)) (cornAt B (addV (addV q s) t)) ↔ par s t := by
  have hqs := addV_len hq hs
  have hk : (B : Rat)⁻¹ ≠ 0 := by
    have : (B : Rat) ≠ 0 := fun z => by
      have := Rat.intCast_inj.mp (z.trans Rat.intCast_zero.symm); omega
    exact fun z => this (by rw [← Rat.inv_inv (B : Rat), z]; exact Rat.inv_zero)
  have e1 : (addV q s).sum = q.sum + s.sum := addV_sum (by omega)
  have e2 : (addV (addV q s) t).sum = q.sum + s.sum + t.sum := by rw [addV_sum (by omega), e1]
  have key : ∀ (x y z : Int), (Rat.divInt (x + y) B - Rat.divInt x B) * (Rat.divInt (q.sum + s.sum + t.sum) B - Rat.divInt q.sum B) = (Rat.divInt (x + y + z) B - Rat.divInt x B) * (Rat.divInt (q.sum + s.sum) B - Rat.divInt q.sum B) ↔ y * t.sum = z * s.sum := by
    intro x y z
    simp only [div_c, Rat.intCast_add]
    generalize (B : Rat)⁻¹ = k at *
    have : (y * t.sum = z * s.sum) ↔ ((y : Rat) * (t.sum : Rat) = (z : Rat) * (s.sum : Rat)) := by
      rw [← Rat.intCast_mul, ← Rat.intCast_mul, Rat.intCast_inj]
    rw [this]
    generalize (x : Rat) = x, (y : Rat) = y, (z : Rat) = z, (q.sum : Rat) = a, (s.sum : Rat) = b, (t.sum : Rat) = c
    constructor
    · intro h
      have : k * k * (y * c) = k * k * (z * b) := by grind
      have hkk : k * k ≠ 0 := by grind
      grind
    · intro h
      grind
  rw [par_iff (by omega)]
  unfold straight cornAt
  simp only [e1, e2, List.getElem?_map]
  constructor
  · intro h i y z hy hz
    have hi : i < q.length := by rw [hq, ← hs]; exact (List.getElem?_eq_some_iff.mp hy).1
    have f1 := addV_get (List.getElem?_eq_getElem hi) hy
    have f2 := addV_get f1 hz
    exact (key q[i] y z).mp (h i _ _ _ (by rw [List.getElem?_eq_getElem hi]; rfl) (by rw [f1]; rfl) (by rw [f2]; rfl))
  · intro h i a b c ha hb hc
    have hi : i < q.length := by
      cases e : q[i]? with
      | none => rw [e] at ha; cases ha
      | some _ => exact (List.getElem?_eq_some_iff.mp e).1
    have his : i < s.length := by omega
    have hit : i < t.length := by omega
    have f1 := addV_get (List.getElem?_eq_getElem hi) (List.getElem?_eq_getElem his)
    have f2 := addV_get f1 (List.getElem?_eq_getElem hit)
    rw [List.getElem?_eq_getElem hi] at ha
    rw [f1] at hb
    rw [f2] at hc
    cases ha; cases hb; cases hc
    exact (key _ _ _).mpr (h i _ _ (List.getElem?_eq_getElem his) (List.getElem?_eq_getElem hit))
structure GoodS (m : Nat) (s : List Int) : Prop where
  len : s.length = m
  pos : 0 < s.sum
/-! ### thinning, step by step -/
theorem thinFrom_ne (c : List Int) : ∀ r, thinFrom c r ≠ [] 
  | [] => by simp [thinFrom]
  | s :: r => by
    rw [thinFrom]; split
    · exact thinFrom_ne _ r
    · simp
def snocT (t : List (List Int)) (s : List Int) : List (List Int) :=
  match t.getLast? with
  | none => [s]
  | some l => if par l s then t.dropLast ++ [addV l s] else t ++ [s]
theorem snocT_cons {c : List Int} {t : List (List Int)} {s : List Int} (h : t ≠ []) : snocT (c :: t) s = c :: snocT t s := by
  unfold snocT
  rw [List.getLast?_cons_of_ne_nil h]
  cases e : t.getLast? with
  | none => rw [List.getLast?_eq_none_iff] at e; exact absurd e h
  | some l =>
    dsimp only
    split
    · rw [List.dropLast_cons_of_ne_nil h, List.cons_append]
    · rw [List.cons_append]
theorem thinFrom_snoc (s : List Int) : ∀ (r : List (List Int)) (c : List Int), thinFrom c (r ++ [s]) = snocT (thinFrom c r) s
  | [], c => by
    simp only [List.nil_append, thinFrom, snocT, List.getLast?_singleton, List.dropLast_singleton]
    split <;> rfl
  | t :: r, c => by
    rw [List.cons_append, thinFrom, thinFrom]
    split
    · exact thinFrom_snoc s r _
    · rw [thinFrom_snoc s r t, snocT_cons (thinFrom_ne t r)]
theorem thinS_snoc (r : List (List Int)) (s : List Int) : thinS (r ++ [s]) = snocT (thinS r) s := by
  cases r with
  | nil => rfl
  | cons c r => exact thinFrom_snoc s r c
theorem thinFrom_len : ∀ (r : List (List Int)) (c : List Int), (thinFrom c r).length ≤ r.length + 1
  | [], c => by simp [thinFrom]
  | t :: r, c => by
    rw [thinFrom]; split
    · have := thinFrom_len r (addV c t); rw [List.length_cons]; omega
    · have := thinFrom_len r t; rw [List.length_cons, List.length_cons]; omega
theorem thinS_len (r : List (List Int)) : (thinS r).length ≤ r.length := by
  cases r with
  | nil => simp [thinS]
  | cons c r => exact thinFrom_len r c
/-- a bound of all that may come of rows -/
def BRows (m : Nat) (b : Int) (rows : List (List Int)) : Prop := ∀ r ∈ rows, r.length = m ∧ 0 < r.sum ∧ ∀ x ∈ r, 0 ≤ x ∧ x ≤ b
structure InR (m : Nat) (b : Int) (r : List Int) : Prop where
  len : r.length = m
  pos : 0 < r.sum
  bnd : ∀ x ∈ r, 0 ≤ x ∧ x ≤ b
theorem InR.good {m : Nat} {b : Int} {r : List Int} (h : InR m b r) : GoodS m r := ⟨h.len, h.pos⟩
theorem InR.add {m : Nat} {b c : Int} {r s : List Int} (h : InR m b r) (g : InR m c s) : InR m (b + c) (addV r s) := by
  refine ⟨addV_len h.len g.len, by rw [addV_sum (by rw [h.len, g.len])]; have := h.pos; have := g.pos; omega, fun x hx => ?_⟩
  obtain ⟨i, hi⟩ := List.mem_iff_getElem?.mp hx
  have hlt : i < m := by have := (List.getElem?_eq_some_iff.mp hi).1; rwa [addV_len h.len g.len] at this
  rw [addV_get (List.getElem?_eq_getElem (by rw [h.len]; exact hlt)) (List.getElem?_eq_getElem (by rw [g.len]; exact hlt))] at hi
  cases hi
  have := h.bnd _ (List.getElem_mem (show i < r.length by rw [h.len]; exact hlt))
  have := g.bnd _ (List.getElem_mem (show i < s.length by rw [g.len]; exact hlt))
  omega
theorem InR.mono {m : Nat} {b c : Int} {r : List Int} (h : InR m b r) (l : b ≤ c) : InR m c r := ⟨h.len, h.pos, fun x hx => by have := h.bnd x hx; omega⟩
theorem thinFrom_in {m : Nat} {b : Int} (hb : 0 ≤ b) : ∀ (r : List (List Int)) (c : List Int) (d : Int), InR m d c → b ≤ d → (∀ t ∈ r, InR m b t) → ∀ t ∈ thinFrom c r, InR m (d + r.length * b) t
  | [], c, d, hc, _, _, t, ht => by
    simp only [thinFrom, List.mem_singleton] at ht
    subst ht
    simpa using hc
  | s :: r, c, d, hc, hbd, hr, t, ht => by
    have hs := hr s (List.mem_cons_self ..)
    have hr' := fun u hu => hr u (List.mem_cons_of_mem _ hu)
    have e : d + ((s :: r).length : Nat) * b = (d + b) + r.length * b := by rw [List.length_cons]; push_cast; grind
    rw [thinFrom] at ht
    rw [e]
    have hrb : 0 ≤ (r.length : Int) * b := Int.mul_nonneg (Int.natCast_nonneg _) hb
    split at ht
    · exact thinFrom_in hb r _ (d + b) (hc.add hs) (by omega) hr' t ht
    · rcases List.mem_cons.mp ht with rfl | ht
      · exact hc.mono (by omega)
      · exact (thinFrom_in hb r s d (hs.mono hbd) hbd hr' t ht).mono (by omega)
theorem thinS_in {m : Nat} {b : Int} (hb : 0 ≤ b) {r : List (List Int)} (hr : ∀ t ∈ r, InR m b t) : ∀ t ∈ thinS r, InR m (r.length * b) t := by
  cases r with
  | nil => intro t ht; simp [thinS] at ht
  | cons s r =>
    intro t ht
    have := thinFrom_in hb r s b (hr s (List.mem_cons_self ..)) (Int.le_refl _) (fun t ht => hr t (List.mem_cons_of_mem _ ht)) t ht
    refine this.mono ?_
    rw [List.length_cons]; push_cast; grind
/-! ### which corners are left, by places -/
open Classical in
noncomputable def keptAt (cs : List Corner) (i : Nat) : Bool := decide (i = 0 ∨ i + 1 = cs.length ∨ ¬ ∀ (a b c : Corner), cs[i - 1]? = some a → cs[i]? = some b → cs[i + 1]? = some c → straight a b c)
open Classical in
open Classical in
noncomputable def keepAll : List Corner → List Corner
  | [] => []
  | c :: r => c :: keepFrom c r
end S

namespace S
open PySem PySem.Spec PyProof.Rows L2
section
variable {α : Type} {enc : α → List PyData} {dom : α → Prop} {res : α → V} {B G0 H : Hp} {cs : Cells} {ds : Dat} {Q : VK} {E : XK} {vs : List V} {v w : V}
/-- nothing is made -/
def spP (enc : α → List PyData) (dom : α → Prop) (res : α → V) : Sp := fun vs H Q _ => ∃ (a : α), IsAll H (enc a) vs ∧ dom a ∧ Q (res a) H
theorem rd_spP (a : α) (S : Sta B G0 H cs ds) (hx : HasAll ds (enc a) vs) (hd : dom a) (k : Q (res a) H) : spP enc dom res vs H Q E := ⟨a, S.hpAll hx, hd, k⟩
/-! ### the contracts of the fractions -/
theorem SzQ.of_div {n : Nat} {q : Rat} {a b : Int} (e : q = Rat.divInt a b) (ha : Sz n a) (hb : Sz n b) (h0 : b ≠ 0) : SzQ n q := by rw [e]; exact SzQ.divInt ha hb h0
theorem den_mul_ne (p q : Rat) : (p.den : Int) * (q.den : Int) ≠ 0 := Int.ne_of_gt (Int.mul_pos (den_pos p) (den_pos q))
theorem add_div (p q : Rat) : Rat.divInt (p.num * (q.den : Int) + q.num * (p.den : Int)) ((p.den : Int) * (q.den : Int)) = p + q := by
  rw [Rat.add_def', ← Int.natCast_mul, Rat.divInt_ofNat]
theorem sub_div (p q : Rat) : Rat.divInt (p.num * (q.den : Int) - q.num * (p.den : Int)) ((p.den : Int) * (q.den : Int)) = p - q := by
  rw [Rat.sub_def', ← Int.natCast_mul, Rat.divInt_ofNat]
theorem mul_div (p q : Rat) : Rat.divInt (p.num * q.num) ((p.den : Int) * (q.den : Int)) = p * q := by
  rw [Rat.mul_def', ← Int.natCast_mul, Rat.divInt_ofNat]
theorem num_ne {q : Rat} (h : q ≠ 0) : q.num ≠ 0 := fun z => h (Rat.num_eq_zero.mp z)
theorem div_div (p q : Rat) (h : q ≠ 0) : Rat.divInt (p.num * (q.den : Int)) ((p.den : Int) * q.num) = p / q := by
  rw [← Rat.divInt_mul_divInt, Rat.num_divInt_den, Rat.div_def, Rat.inv_def]
section
variable {m n : Nat} {p q : Rat}
theorem SzQ.add (hp : SzQ m p) (hq : SzQ n q) : SzQ (m + n + 1) (p + q) :=
  SzQ.of_div (add_div p q).symm (((hp.1.mul hq.2).add ((hq.1.mul hp.2).mono (Nat.le_of_eq (Nat.add_comm n m))))) ((hp.2.mul hq.2).mono (Nat.le_succ _)) (den_mul_ne p q)
theorem SzQ.sub (hp : SzQ m p) (hq : SzQ n q) : SzQ (m + n + 1) (p - q) :=
  SzQ.of_div (sub_div p q).symm (((hp.1.mul hq.2).sub ((hq.1.mul hp.2).mono (Nat.le_of_eq (Nat.add_comm n m))))) ((hp.2.mul hq.2).mono (Nat.le_succ _)) (den_mul_ne p q)
theorem SzQ.mul (hp : SzQ m p) (hq : SzQ n q) : SzQ (m + n) (p * q) :=
  SzQ.of_div (mul_div p q).symm (hp.1.mul hq.1) (hp.2.mul hq.2) (den_mul_ne p q)
theorem SzQ.div (hp : SzQ m p) (hq : SzQ n q) : SzQ (m + n) (p / q) := by
  by_cases h : q = 0
  · subst h
    rw [Rat.div_def, Rat.inv_zero, Rat.mul_zero]
    have hm : 1 ≤ m := by
      cases m with
      | zero =>
        have h1 : (p.den : Int).natAbs < 2 ^ 0 := hp.2
        have h2 := den_pos p
        simp at h1
        omega
      | succ m => omega
    exact ⟨sz_small (n := m + n) (by omega) (show (-2 : Int) < 0 by decide) (show (0 : Int) < 2 by decide), sz_small (n := m + n) (by omega) (show (-2 : Int) < 1 by decide) (show (1 : Int) < 2 by decide)⟩
  · exact SzQ.of_div (div_div p q h).symm (hp.1.mul hq.2) (hp.2.mul hq.1) (Int.mul_ne_zero (Int.ne_of_gt (den_pos p)) (num_ne h))
theorem SzQ.int {x : Int} (h : Sz n x) (h1 : 1 ≤ n) : SzQ n (x : Rat) := ⟨h, sz_small h1 (show (-2 : Int) < 1 by decide) (show (1 : Int) < 2 by decide)⟩
end
/-- two numbers to a fraction -/
def spLowest : Sp := spT (α := Int × Int) (fun a => [.int a.1, .int a.2]) (fun a => a.2 ≠ 0 ∧ Sz 8999 a.2) (fun a => frD (Rat.divInt a.1 a.2))
theorem rd_lowest {i j : Int} (S : Sta B G0 H cs ds) (h0 : j ≠ 0) (hz : Sz 8999 j) (k : ∀ r H', Same H H' → Sta B G0 H' cs ((frD (Rat.divInt i j), r) :: ds) → Q r H') : spLowest [.int i, .int j] H Q E :=
  rd_spT (i, j) S (.cons Has.int (.cons Has.int .nil)) ⟨h0, hz⟩ k
def spQ2 (dom : Rat → Rat → Prop) (g : Rat → Rat → Rat) : Sp := spT (α := Rat × Rat) (fun a => [frD a.1, frD a.2]) (fun a => (∃ m n, SzQ m a.1 ∧ SzQ n a.2 ∧ m + n ≤ 8999) ∧ dom a.1 a.2) (fun a => frD (g a.1 a.2))
theorem rd_q2 {dm : Rat → Rat → Prop} {g : Rat → Rat → Rat} {p q : Rat} {m n : Nat} (S : Sta B G0 H cs ds) (h1 : Has ds (frD p) v) (h2 : Has ds (frD q) w) (s1 : SzQ m p) (s2 : SzQ n q) (hmn : m + n ≤ 8999) (hd : dm p q)
    (k : ∀ r H', Same H H' → Sta B G0 H' cs ((frD (g p q), r) :: ds) → Q r H') : spQ2 dm g [v, w] H Q E :=
  rd_spT (p, q) S (.cons h1 (.cons h2 .nil)) ⟨⟨m, n, s1, s2, hmn⟩, hd⟩ k
abbrev domT : Rat → Rat → Prop := fun _ _ => True
abbrev spPlus : Sp := spQ2 domT fun p q => p + q
abbrev spMinus : Sp := spQ2 domT fun p q => p - q
abbrev spTimes : Sp := spQ2 domT fun p q => p * q
abbrev spOver : Sp := spQ2 (fun _ q => q ≠ 0) fun p q => p / q
def spBefore : Sp := spP (α := Rat × Rat) (fun a => [frD a.1, frD a.2]) (fun a => ∃ m n, SzQ m a.1 ∧ SzQ n a.2 ∧ m + n ≤ 100000000) (fun a => .bl (decide (a.1 < a.2)))
theorem rd_before {p q : Rat} {m n : Nat} (S : Sta B G0 H cs ds) (h1 : Has ds (frD p) v) (h2 : Has ds (frD q) w) (s1 : SzQ m p) (s2 : SzQ n q) (hmn : m + n ≤ 100000000) (k : Q (.bl (decide (p < q))) H) : spBefore [v, w] H Q E :=
  rd_spP (p, q) S (.cons h1 (.cons h2 .nil)) ⟨m, n, s1, s2, hmn⟩ k
/-! ### the contracts of what laws read -/
def cellAt (ns : List Int) (k : Int) : Int := if k < (ns.length : Int) then ns.getD k.toNat 0 else 0
def spCell (K : PySem.W.Frag) : Sp := fun vs H Q _ => ∃ (a : Addr) (ns : List Int) (k : Int), vs = [.ref a, .int k] ∧ SqL K H a (ns.map V.int) ∧ 0 ≤ k ∧ Q (.int (cellAt ns k)) H
theorem rd_cell {K : PySem.W.Frag} {a : Addr} {ns : List Int} {k : Int} (hS : SqL K H a (ns.map V.int)) (h0 : 0 ≤ k) (h : Q (.int (cellAt ns k)) H) : spCell K [.ref a, .int k] H Q E := ⟨a, ns, k, rfl, hS, h0, h⟩
def spDiv2 : Sp := fun vs H Q _ => ∃ a b : Int, vs = [.int a, .int b] ∧ 0 ≤ b ∧ Q (.int (Int.gcd a b : Nat)) H
theorem rd_div2 {a b : Int} (h0 : 0 ≤ b) (h : Q (.int (Int.gcd a b : Nat)) H) : spDiv2 [.int a, .int b] H Q E := ⟨a, b, rfl, h0, h⟩
def spLawLow : Sp := spT (α := Int × Int) (fun a => [.int a.1, .int a.2]) (fun a => 0 < a.2 ∧ Sz 8999 a.2) (fun a => frD (Rat.divInt a.1 a.2))
theorem rd_lawlow {i j : Int} (S : Sta B G0 H cs ds) (h0 : 0 < j) (hz : Sz 8999 j) (k : ∀ r H', Same H H' → Sta B G0 H' cs ((frD (Rat.divInt i j), r) :: ds) → Q r H') : spLawLow [.int i, .int j] H Q E :=
  rd_spT (i, j) S (.cons Has.int (.cons Has.int .nil)) ⟨h0, hz⟩ k
def mixV (c p : Int) : Int := (((c % 2147483629 * 16807 + 69621 * p + 11) % 2147483629) * ((c % 2147483629 * 16807 + 69621 * p + 11) % 2147483629) + 48271 * p + 7) % 2147483629 * 69621 % 2147483587
theorem mixV_le (c p : Int) : 0 ≤ mixV c p ∧ mixV c p < 2147483587 := by unfold mixV; omega
def spMix : Sp := fun vs H Q _ => ∃ c p : Int, vs = [.int c, .int p] ∧ Q (.int (mixV c p)) H
theorem rd_mix {c p : Int} (h : Q (.int (mixV c p)) H) : spMix [.int c, .int p] H Q E := ⟨c, p, rfl, h⟩
/-! ### rows of steps -/
def rowD (r : List Int) : PyData := .list (r.map PyData.int)
def rowsD (rs : List (List Int)) : PyData := .list (rs.map rowD)
/-- the bound of the i-th row -/
def BR (i : Nat) (r : List Int) : Prop := ∀ x ∈ r, 0 ≤ x ∧ x ≤ 10 ^ 21 * 3 ^ i
structure RowsOk (m : Nat) (rows : List (List Int)) : Prop where
  len : ∀ r ∈ rows, r.length = m
  pos : ∀ r ∈ rows, 0 < r.sum
  bnd : ∀ (i : Nat) (r : List Int), rows[i]? = some r → BR i r
def spSteps (K : PySem.W.Frag) : Sp := fun vs H Q _ => ∃ (G : Hp) (a : Addr) (ns : List Int) (at' many parts : Int), vs = [.ref a, .int at', .int many, .int parts] ∧ Same G H ∧ SqL K H a (ns.map V.int) ∧ (0 ≤ at' ∧ 0 ≤ many ∧ many ≤ 70 ∧ 1 ≤ parts ∧ parts ≤ 8) ∧
  ∀ (rows : List (List Int)) (p : Addr) (H' G' : Hp) (us : List V), rows.length = many.toNat → RowsOk parts.toNat rows → Grow G H G' H' → H p = none → G' p = none → H' p = some (.lst us) → IsAll G' (rows.map rowD) us → Q (.ref p) H'
theorem Sta.put_call {G G' H' : Hp} {p : Addr} {us : List V} {xs : List PyData} (S : StaG B G0 H cs ds G) (gr : Grow G H G' H') (hp : H p = none) (hg : G' p = none) (hu : H' p = some (.lst us)) (hv : IsAll G' xs us) : Sta B G0 H' ((p, xs) :: cs) ds := by
  have hc := S.2.2.1.free hp
  obtain ⟨_, _, _, _, e0, _, _⟩ := id S
  obtain ⟨a', b', c', d', e', f', g'⟩ := S.grow gr
  refine ⟨G', a', b', c', d', fun q hq => ?_, ?_, g'⟩
  · rcases List.mem_cons.mp hq with rfl | hq
    · exact ⟨hc, hg, us, hu, hv⟩
    · exact e' q hq
  · rw [List.map_cons, List.nodup_cons]
    refine ⟨fun z => ?_, f'⟩
    obtain ⟨q, hq, hqp⟩ := List.mem_map.mp z
    obtain ⟨_, _, ws, z, _⟩ := e0 q hq
    rw [hqp, hp] at z; cases z
theorem rd_steps {K : PySem.W.Frag} {a : Addr} {ns : List Int} {at' many parts : Int} (S : Sta B G0 H cs ds) (hS : SqL K H a (ns.map V.int)) (hb : 0 ≤ at' ∧ 0 ≤ many ∧ many ≤ 70 ∧ 1 ≤ parts ∧ parts ≤ 8)
    (k : ∀ (rows : List (List Int)) (p : Addr) (H' : Hp), rows.length = many.toNat → RowsOk parts.toNat rows → Same H H' → Sta B G0 H' ((p, rows.map rowD) :: cs) ds → Q (.ref p) H') : spSteps K [.ref a, .int at', .int many, .int parts] H Q E := by
  obtain ⟨G, S⟩ := S
  exact ⟨G, a, ns, at', many, parts, rfl, S.2.1, hS, hb, fun rows p H' G' us h1 h2 gr hp hg hu hv => k rows p H' h1 h2 gr.h (Sta.put_call S gr hp hg hu hv)⟩
theorem rd_true {σ : L2.St} {R : Bool → Hp → Prop} (h : R true H) : tTrue σ H R := h
def zeroV (m : Nat) : List Int := List.replicate m 0
theorem zeroV_len (m : Nat) : (zeroV m).length = m := List.length_replicate
def cornersV (b : Int) (m : Nat) (rows : List (List Int)) : List Corner := cornAt b (zeroV m) :: cornersFrom b (zeroV m) rows
def spCorners : Sp := spL (α := List (List Int) × Int × Int) (fun a => [rowsD a.1, .int a.2.1, .int a.2.2]) (fun a => (1 ≤ a.2.1 ∧ a.2.1 ≤ 8) ∧ (1 ≤ a.2.2 ∧ a.2.2 ≤ 200) ∧ a.1.length ≤ 200 ∧ ∀ r ∈ a.1, r.length = a.2.1.toNat) (fun a => (cornersV a.2.2 a.2.1.toNat a.1).map cornD)
theorem rd_corners {rows : List (List Int)} {parts bottom : Int} (S : Sta B G0 H cs ds) (h : Has ds (rowsD rows) v) (hp : 1 ≤ parts ∧ parts ≤ 8) (hb : 1 ≤ bottom ∧ bottom ≤ 200) (hl : rows.length ≤ 200) (hr : ∀ r ∈ rows, r.length = parts.toNat)
    (k : ∀ p H', Same H H' → Sta B G0 H' ((p, (cornersV bottom parts.toNat rows).map cornD) :: cs) ds → Q (.ref p) H') : spCorners [v, .int parts, .int bottom] H Q E :=
  rd_spL (rows, parts, bottom) S (.cons h (.cons Has.int (.cons Has.int .nil))) ⟨hp, hb, hl, hr⟩ k
/-- along -/
def SzR (r : List Int) : Prop := Sz 100000 r.sum ∧ ∀ x ∈ r, Sz 100000 x
def spAlong : Sp := spB (α := List Int × List Int) (fun a => [rowD a.1, rowD a.2]) (fun a => SzR a.1 ∧ SzR a.2 ∧ a.1.length ≤ 100 ∧ a.2.length ≤ 100) (fun a => .bl (decide (par a.1 a.2)))
theorem rd_along {l r : List Int} (S : Sta B G0 H cs ds) (h1 : Has ds (rowD l) v) (h2 : Has ds (rowD r) w) (s1 : SzR l) (s2 : SzR r) (hl : l.length ≤ 100) (hr : r.length ≤ 100) (k : ∀ H', Sta B G0 H' cs ds → Q (.bl (decide (par l r))) H') : spAlong [v, w] H Q E :=
  rd_spB (l, r) (S.hpAll (.cons h1 (.cons h2 .nil))) ⟨s1, s2, hl, hr⟩ fun H' e => k H' (S.same e)
theorem sum_le {b : Int} : ∀ {r : List Int}, (∀ x ∈ r, 0 ≤ x ∧ x ≤ b) → 0 ≤ r.sum ∧ r.sum ≤ r.length * b
  | [], _ => by simp
  | x :: r, h => by
    have h1 := h x (List.mem_cons_self ..)
    have h2 := sum_le (r := r) fun y hy => h y (List.mem_cons_of_mem _ hy)
    have e : ((x :: r).length : Int) * b = b + r.length * b := by rw [List.length_cons]; push_cast; grind
    rw [e, List.sum_cons]
    omega
theorem sz_of_le {x : Int} {n : Nat} (h0 : 0 ≤ x) (h : x < 2 ^ n) : Sz n x := by
  unfold Sz
  have e : ((2 ^ n : Nat) : Int) = 2 ^ n := by push_cast; rfl
  omega
theorem InR.sz {m : Nat} {b : Int} {r : List Int} (h : InR m b r) (hm : m ≤ 8) (hb : b ≤ 2 ^ 400) : SzR r := by
  have h1 := sum_le h.bnd
  have h0 : 0 ≤ b := by
    cases r with
    | nil => have := h.pos; simp at this
    | cons x r => have := h.bnd x (List.mem_cons_self ..); omega
  have e4 : (2 : Int) ^ 404 = 16 * 2 ^ 400 := by decide
  have hl : (r.length : Int) ≤ 8 := by have := h.len; omega
  have h2 : (r.length : Int) * b ≤ 8 * b := Int.mul_le_mul_of_nonneg_right hl h0
  refine ⟨(sz_of_le (n := 404) h1.1 (by rw [e4]; omega)).mono (by decide), fun x hx => ?_⟩
  have := h.bnd x hx
  exact (sz_of_le (n := 404) this.1 (by rw [e4]; omega)).mono (by decide)
def spThinL : Sp := spL (α := List (List Int)) (fun a => [rowsD a]) (fun a => a.length ≤ 200 ∧ ∃ (m : Nat) (b : Int), (1 ≤ m ∧ m ≤ 8) ∧ (0 ≤ b ∧ b ≤ 2 ^ 300) ∧ ∀ r ∈ a, InR m b r) (fun a => (thinS a).map rowD)
theorem rd_thin {rows : List (List Int)} {m : Nat} {b : Int} (S : Sta B G0 H cs ds) (h : Has ds (rowsD rows) v) (hl : rows.length ≤ 200) (hm : 1 ≤ m ∧ m ≤ 8) (hb : 0 ≤ b ∧ b ≤ 2 ^ 300) (hr : ∀ r ∈ rows, InR m b r)
    (k : ∀ p H', Same H H' → Sta B G0 H' ((p, (thinS rows).map rowD) :: cs) ds → Q (.ref p) H') : spThinL [v] H Q E :=
  rd_spL rows S (.cons h .nil) ⟨hl, m, b, hm, hb, hr⟩ k
/-! ### equality of data -/
theorem eqvAll_map {β : Type} [DecidableEq β] {f : β → PyData} (hf : ∀ a b, PyData.eqv (f a) (f b) = decide (a = b)) : ∀ xs ys : List β, PyData.eqvAll (xs.map f) (ys.map f) = decide (xs = ys)
  | [], [] => by rw [List.map_nil, PyData.eqvAll]; rfl
  | [], _ :: _ => by rw [List.map_nil, List.map_cons, PyData.eqvAll, decide_eq_false (by simp)]
  | _ :: _, [] => by rw [List.map_nil, List.map_cons, PyData.eqvAll, decide_eq_false (by simp)]
  | x :: xs, y :: ys => by
    rw [List.map_cons, List.map_cons, PyData.eqvAll, hf, eqvAll_map hf xs ys, ← Bool.decide_and]
    exact dec_congr (by simp)
theorem eqv_int (a b : Int) : PyData.eqv (.int a) (.int b) = decide (a = b) := by rw [PyData.eqv]; rfl
theorem eqv_row (a b : List Int) : PyData.eqv (rowD a) (rowD b) = decide (a = b) := by unfold rowD; rw [PyData.eqv]; exact eqvAll_map eqv_int a b
theorem eqv_frD (p q : Rat) : PyData.eqv (frD p) (frD q) = decide (p = q) := eqv_fr p q
theorem eqv_partsD (p q : List Rat) : PyData.eqv (partsD p) (partsD q) = decide (p = q) := by unfold partsD; rw [PyData.eqv]; exact eqvAll_map eqv_frD p q
theorem eqv_cornD (p q : Corner) : PyData.eqv (cornD p) (cornD q) = decide (p = q) := by
  unfold cornD
  rw [PyData.eqv, PyData.eqvAll, PyData.eqvAll, PyData.eqvAll, eqv_frD, eqv_partsD, Bool.and_true, ← Bool.decide_and]
  exact dec_congr ⟨fun ⟨h1, h2⟩ => Prod.ext h1 h2, fun h => by subst h; exact ⟨rfl, rfl⟩⟩
theorem eqv_pathD (p q : List Corner) : PyData.eqv (pathD p) (pathD q) = decide (p = q) := by unfold pathD; rw [PyData.eqv]; exact eqvAll_map eqv_cornD p q
theorem lay_int (a : Int) : (PyData.int a).canLay0 = true := by rw [PyData.canLay0]
theorem dep_int (a : Int) : (PyData.int a).depth ≤ 1 := by rw [PyData.depth]; exact Nat.zero_le _
theorem lay_row (a : List Int) : (rowD a).canLay0 = true := by unfold rowD; rw [PyData.canLay0]; exact lay_all lay_int a
theorem dep_row (a : List Int) : (rowD a).depth ≤ 2 := by unfold rowD; rw [PyData.depth]; exact Nat.succ_le_succ (dep_all dep_int a)
theorem shaped_of {d : PyData} {n : Nat} (h : d.canLay0 = true) (g : d.depth ≤ n) (l : n ≤ 64) : SeqAt.shaped d = true := by
  unfold SeqAt.shaped
  rw [h, decide_eq_true (Nat.le_trans g l)]; rfl
theorem shaped_row (a : List Int) : SeqAt.shaped (rowD a) = true := shaped_of (lay_row a) (dep_row a) (by decide)
theorem shaped_frD (a : Rat) : SeqAt.shaped (frD a) = true := shaped_of (lay_fr a) (dep_fr a) (by decide)
theorem shaped_partsD (a : List Rat) : SeqAt.shaped (partsD a) = true := shaped_of (lay_parts a) (dep_parts a) (by decide)
theorem shaped_cornD (a : Corner) : SeqAt.shaped (cornD a) = true := shaped_of (lay_corn a) (dep_corn a) (by decide)
/-! ### same -/
def plainD : Nat → PyData → Prop
  | 0, _ => False
  | n + 1, d => match d with
    | .int _ => True
    | .tuple xs => xs.length ≤ 1000 ∧ ∀ x ∈ xs, plainD n x
    | .list xs => xs.length ≤ 1000 ∧ ∀ x ∈ xs, plainD n x
    | .none => False
    | .bool _ => False
    | .str _ => False
    | .dict _ => False
def spSame (n : Nat) : Sp := spB (α := PyData) (fun d => [d, d]) (fun d => plainD n d) (fun _ => .bl true)
/-! ### isinstance of data -/
def tyD : PyData → String
  | .none => "NoneType"
  | .bool _ => "bool"
  | .int _ => "int"
  | .str _ => "str"
  | .list _ => "list"
  | .tuple _ => "tuple"
  | .dict _ => "dict"
theorem Is.ty {K : PySem.W.Frag} {d : PyData} (h : Is H d v) : TyOf K H v (.type (tyD d)) := by
  cases d with
  | none => rw [Is] at h; subst h; exact .non
  | bool b => rw [Is] at h; subst h; exact .bl b
  | int b => rw [Is] at h; subst h; exact .int b
  | str b => rw [Is] at h; subst h; exact .str b
  | list xs => rw [Is] at h; obtain ⟨p, vs, rfl, e, _⟩ := h; exact .lst e
  | tuple xs => rw [Is] at h; obtain ⟨p, vs, rfl, e, _⟩ := h; exact .tup e
  | dict _ => rw [Is] at h; exact h.elim
theorem rd_isi {K : PySem.W.Frag} {d : PyData} {T : String} {b : Bool} (h : Is H d v) (e : PySem.W.kitOne K (.type (tyD d)) (.type T) = some b) (k : Q (.bl b) H) : rIsi K [v, .ty T] H Q := ⟨v, T, _, b, rfl, h.ty, e, k⟩
section
variable {K : PySem.W.Frag}
theorem kit_tt : PySem.W.kitOne K (.type "tuple") (.type "tuple") = some true := by rfl
theorem kit_tl : PySem.W.kitOne K (.type "tuple") (.type "list") = some false := by rfl
theorem kit_lt : PySem.W.kitOne K (.type "list") (.type "tuple") = some false := by rfl
theorem kit_ll : PySem.W.kitOne K (.type "list") (.type "list") = some true := by rfl
theorem kit_it : PySem.W.kitOne K (.type "int") (.type "tuple") = some false := by rfl
theorem kit_il : PySem.W.kitOne K (.type "int") (.type "list") = some false := by rfl
theorem kit_ib : PySem.W.kitOne K (.type "int") (.type "bool") = some false := by rfl
theorem kit_ii : PySem.W.kitOne K (.type "int") (.type "int") = some true := by rfl
end
/-! ### lists of ints, by places -/
theorem mapAt {α β : Type} {f : α → β} {l : List α} {i : Nat} {x : β} (h : (l.map f)[i]? = some x) : ∃ n, l[i]? = some n ∧ x = f n := by
  rw [List.getElem?_map] at h
  cases e : l[i]? with
  | none => rw [e] at h; cases h
  | some n => rw [e] at h; exact ⟨n, rfl, (Option.some.inj h).symm⟩
theorem range_getD {α β : Type} (g : α → β) (d : α) : ∀ l : List α, (List.range l.length).map (fun i => g (l.getD i d)) = l.map g := by
  intro l
  apply List.ext_getElem?
  intro i
  rw [List.getElem?_map, List.getElem?_map]
  by_cases h : i < l.length
  · rw [List.getElem?_range h, List.getElem?_eq_getElem h]
    simp [h]
  · rw [List.getElem?_eq_none (by simpa using Nat.le_of_not_lt h), List.getElem?_eq_none (by omega)]; rfl
theorem getD_of {α : Type} {l : List α} {i : Nat} {n d : α} (h : l[i]? = some n) : l.getD i d = n := by rw [List.getD_eq_getElem?_getD, h]; rfl
theorem Sta.int1 {n : Int} (S : Sta B G0 H cs ((.int n, v) :: ds)) : v = .int n := S.top.int_of
theorem rd_gsub {to ti : TE} {t : TSet} {σ : L2.St} {N : L2.St → Hp → Prop} (h : to σ H fun o H1 => ti σ H1 fun i H2 => t o i v H2 fun H3 => N σ H3) : gSub to ti t v σ H N := h
theorem atI_neg1 {α : Type} {xs : List α} {x : α} (h : xs.getLast? = some x) : atI xs (-1) = some x := by
  obtain ⟨ys, rfl⟩ : ∃ ys, xs = ys ++ [x] := by
    have hne : xs ≠ [] := by intro e; subst e; simp at h
    refine ⟨xs.dropLast, ?_⟩
    rw [List.getLast?_eq_some_getLast hne] at h
    rw [← Option.some.inj h, List.dropLast_concat_getLast]
  exact atI_last ys x
theorem ixN_neg1 {n : Nat} (h : 0 < n) : ixN n (-1) = some (n - 1) := by
  unfold ixN
  rw [if_neg (by omega), if_pos (by omega)]
  congr 1
  omega
theorem set_last {α : Type} {xs : List α} (h : xs ≠ []) (y : α) : xs.set (xs.length - 1) y = xs.dropLast ++ [y] := by
  obtain ⟨ys, x, rfl⟩ : ∃ ys x, xs = ys ++ [x] := ⟨xs.dropLast, xs.getLast h, (List.dropLast_concat_getLast h).symm⟩
  simp
theorem Dats.nil : ∀ p ∈ ([] : Dat), Has ds p.1 p.2 := fun p hp => absurd hp List.not_mem_nil
theorem Dats.cons {x : PyData} {r : Dat} (h : Has ds x v) (g : ∀ p ∈ r, Has ds p.1 p.2) : ∀ p ∈ (x, v) :: r, Has ds p.1 p.2 := fun p hp => by
  rcases List.mem_cons.mp hp with rfl | hp
  · exact h
  · exact g p hp
theorem sum_pos {r : List Int} (h : ∀ x ∈ r, 0 ≤ x) (g : ∃ x ∈ r, 0 < x) : 0 < r.sum := by
  induction r with
  | nil => obtain ⟨x, hx, _⟩ := g; simp at hx
  | cons y r ih =>
    rw [List.sum_cons]
    have hy := h y (List.mem_cons_self ..)
    have hs : 0 ≤ r.sum := by
      have : ∀ (l : List Int), (∀ x ∈ l, 0 ≤ x) → 0 ≤ l.sum := by
        intro l
        induction l with
        | nil => intro _; simp
        | cons z l ih2 => intro hz; rw [List.sum_cons]; have := hz z (List.mem_cons_self ..); have := ih2 fun x hx => hz x (List.mem_cons_of_mem _ hx); omega
      exact this r fun x hx => h x (List.mem_cons_of_mem _ hx)
    obtain ⟨x, hx, hp⟩ := g
    rcases List.mem_cons.mp hx with rfl | hx
    · omega
    · have := ih (fun x hx => h x (List.mem_cons_of_mem _ hx)) ⟨x, hx, hp⟩; omega
theorem RowsOk.snoc {m : Nat} {rows : List (List Int)} {r : List Int} (h : RowsOk m rows) (h1 : r.length = m) (h2 : 0 < r.sum) (h3 : BR rows.length r) : RowsOk m (rows ++ [r]) := by
  refine ⟨fun t ht => ?_, fun t ht => ?_, fun i t ht => ?_⟩
  · rcases List.mem_append.mp ht with ht | ht
    · exact h.len t ht
    · simp at ht; subst ht; exact h1
  · rcases List.mem_append.mp ht with ht | ht
    · exact h.pos t ht
    · simp at ht; subst ht; exact h2
  · rw [List.getElem?_append] at ht
    split at ht
    · exact h.bnd i t ht
    · rename_i c
      have hi : i = rows.length := by
        have := (List.getElem?_eq_some_iff.mp ht).1
        simp at this; omega
      subst hi
      simp at ht
      subst ht
      exact h3
/-- where steps lead -/
def endV : List Int → List (List Int) → List Int
  | h, [] => h
  | h, s :: r => endV (addV h s) r
theorem endV_snoc (s : List Int) : ∀ (r : List (List Int)) (h : List Int), endV h (r ++ [s]) = addV (endV h r) s
  | [], h => rfl
  | t :: r, h => by rw [List.cons_append, endV, endV, endV_snoc s r]
theorem cornersFrom_snoc (b : Int) (s : List Int) : ∀ (r : List (List Int)) (h : List Int), cornersFrom b h (r ++ [s]) = cornersFrom b h r ++ [cornAt b (addV (endV h r) s)]
  | [], h => by simp [cornersFrom, endV]
  | t :: r, h => by rw [List.cons_append, cornersFrom, cornersFrom, endV, cornersFrom_snoc b s r, List.cons_append]
theorem endV_len {m : Nat} : ∀ {r : List (List Int)} {h : List Int}, h.length = m → (∀ s ∈ r, s.length = m) → (endV h r).length = m
  | [], h, hh, _ => hh
  | t :: r, h, hh, hr => by
    rw [endV]
    exact endV_len (addV_len hh (hr t (List.mem_cons_self ..))) fun s hs => hr s (List.mem_cons_of_mem _ hs)
theorem cornersFrom_length (b : Int) : ∀ (r : List (List Int)) (h : List Int), (cornersFrom b h r).length = r.length
  | [], h => rfl
  | t :: r, h => by rw [cornersFrom, List.length_cons, List.length_cons, cornersFrom_length b r]
theorem cornAt_zero (b : Int) (m : Nat) : cornAt b (zeroV m) = (0, List.replicate m 0) := by
  unfold cornAt zeroV
  have h : (List.replicate m (0 : Int)).sum = 0 := by
    induction m with
    | zero => rfl
    | succ m ih => rw [List.replicate_succ, List.sum_cons, ih]; rfl
  rw [h, Rat.zero_divInt, List.map_replicate, Rat.zero_divInt]
/-! ### tests of two parts, cuts -/
theorem rd_ifand {p q : Bool} {A X Y : Prop} (hA : (if q = true then X else Y) → A) (h1 : (p && q) = true → X) (h2 : (p && q) = false → Y) : if p = true then A else (if false = true then X else Y) := by
  cases p with
  | false => exact h2 rfl
  | true =>
    refine hA ?_
    cases q with
    | false => exact h2 rfl
    | true => exact h1 rfl
theorem seq_cut' {t u : TS} {D : Ends} {σ : L2.St} (M : L2.St → Hp → Prop) (h2 : ∀ σ' H', M σ' H' → u D σ' H') (h1 : (∀ σ' H', M σ' H' → u D σ' H') → t (mkD D (u D)) σ H) : tSeq t u D σ H := h1 h2
theorem atI_mapD {r : List Int} {k : Int} (h0 : 0 ≤ k) (h : k < (r.length : Int)) : atI (r.map PyData.int) k = some (.int (r.getD k.toNat 0)) := by
  refine atI_of h0 ?_
  have hk : k.toNat < r.length := by omega
  rw [List.getElem?_map, List.getElem?_eq_getElem hk, List.getD_eq_getElem?_getD, List.getElem?_eq_getElem hk]; rfl
theorem ixN_of {n : Nat} {k : Int} (h0 : 0 ≤ k) (h : k < (n : Int)) : ixN n k = some k.toNat := by
  unfold ixN
  rw [if_pos h0, if_pos h]
theorem pow3_pos (i : Nat) : (1 : Int) ≤ 3 ^ i := by
  have : (1 : Nat) ≤ 3 ^ i := Nat.one_le_pow _ _ (by decide)
  exact_mod_cast this
theorem sum_mulL (c : Int) : ∀ l : List Int, (l.map (c * ·)).sum = c * l.sum
  | [] => by simp
  | x :: l => by rw [List.map_cons, List.sum_cons, List.sum_cons, sum_mulL c l]; grind
theorem fmod_le {x n : Int} (h : 0 < n) : 0 ≤ x.fmod n ∧ x.fmod n < n := by
  rw [Int.fmod_eq_emod_of_nonneg x (by omega)]
  exact ⟨Int.emod_nonneg x (by omega), Int.emod_lt_of_pos x h⟩
/-! ### gap, straight, thinned -/
def gapD (p q : Rat) : PyData := .tuple [.int (q.num * (p.den : Int) - p.num * (q.den : Int)), .int ((p.den : Int) * (q.den : Int))]
def spGap : Sp := spT (α := Rat × Rat) (fun a => [frD a.1, frD a.2]) (fun a => SzQ 2000 a.1 ∧ SzQ 2000 a.2) (fun a => gapD a.1 a.2)
def SzC (n : Nat) (c : Corner) : Prop := SzQ n c.1 ∧ ∀ q ∈ c.2, SzQ n q
open Classical in
noncomputable def spStr : Sp := spB (α := Corner × Corner × Corner) (fun a => [cornD a.1, cornD a.2.1, cornD a.2.2]) (fun a => SzC 2000 a.1 ∧ SzC 2000 a.2.1 ∧ SzC 2000 a.2.2 ∧ a.2.1.2.length = a.1.2.length ∧ a.2.2.2.length = a.1.2.length ∧ a.1.2.length ≤ 1000) (fun a => .bl (decide (straight a.1 a.2.1 a.2.2)))
open Classical in
structure PathOk (m : Nat) (cs : List Corner) : Prop where
  sz : ∀ c ∈ cs, SzC 2000 c
  len : ∀ c ∈ cs, c.2.length = m
  m : m ≤ 1000
  few : cs.length ≤ 900
noncomputable def spThinned : Sp := spL (α := List Corner) (fun a => [pathD a]) (fun a => ∃ m, PathOk m a) (fun a => (keepAll a).map cornD)
/-! ### slices -/
def kPart (R : Option Int → Hp → Prop) : VK := fun x H1 => ∃ i, x = .int i ∧ R (some i) H1
section
variable {σ : L2.St} {R : Option Int → Hp → Prop} {K : PySem.W.Frag}
theorem rd_sl {r : V → Option Int → Option Int → Hp → VK → Prop} {te : TE} {tl th : TO} (h : te σ H fun x H1 => tl σ H1 fun l H2 => th σ H2 fun u H3 => r x l u H3 Q) : tSl r te tl th σ H Q := h
theorem rd_noPart (h : R none H) : tNoPart σ H R := h
theorem rd_part {t : TE} (h : t σ H (kPart R)) : tPart t σ H R := h
theorem rd_kPart {i : Int} (h : R (some i) H) : kPart R (.int i) H := ⟨i, rfl, h⟩
def cutI (ns : List Int) (lo hi : Option Int) : List Int := (ns.drop (HT.sIx ns.length 0 lo)).take (HT.sIx ns.length ns.length hi - HT.sIx ns.length 0 lo)
theorem isAll_of_ints {G : Hp} : ∀ ns : List Int, IsAll G (ns.map PyData.int) (ns.map V.int)
  | [] => by rw [List.map_nil, List.map_nil, IsAll]
  | n :: ns => by rw [List.map_cons, List.map_cons, IsAll]; exact ⟨_, _, rfl, by rw [Is], isAll_of_ints ns⟩
theorem rd_slS {a : Addr} {ns : List Int} {lo hi : Option Int} (S : Sta B G0 H cs ds) (hS : SqL K H a (ns.map V.int)) (k : ∀ l H', Same H H' → Sta B G0 H' ((l, (cutI ns lo hi).map PyData.int) :: cs) ds → Q (.ref l) H') : rSlL K (.ref a) lo hi H Q := by
  refine ⟨a, _, rfl, hS, fun l hl => k l _ (Same.new hl _) ?_⟩
  have e : cutV (ns.map V.int) lo hi = (cutI ns lo hi).map V.int := by
    unfold cutV cutI
    rw [List.length_map, ← List.map_drop, ← List.map_take]
  rw [e]
  exact S.newL hl fun G _ => isAll_of_ints _
end
/-! ### sizes of corners -/
end
end S

namespace S
open PySem PySem.Spec PyProof.Rows L2
/-! ### reversed(list) -/
def ItRev (K : PySem.W.Frag) (a : Addr) (n : Nat) : It :=
  ⟨fun i H => i < n ∧ ∃ xs x, SqL K H a xs ∧ xs[n - 1 - i]? = some x, fun i H x H' => H' = H ∧ ∀ xs, SqL K H a xs → xs[n - 1 - i]? = some x, fun i _ => n ≤ i⟩
def iRev (K : PySem.W.Frag) (ta : TA) : TI := fun σ H R => ta σ H fun vs H1 => ∃ a xs, vs = [.ref a] ∧ SqL K H1 a xs ∧ R (ItRev K a xs.length) H1
section
variable {X : Cx}
end
def kRv (K : PySem.W.Frag) (R : It → Hp → Prop) : List V → Hp → Prop := fun vs H1 => ∃ a xs, vs = [.ref a] ∧ SqL K H1 a xs ∧ R (ItRev K a xs.length) H1
section
variable {B G0 H : Hp} {cs : Cells} {ds : Dat} {K : PySem.W.Frag} {a : Addr} {xs ys : List PyData} {P : Cells → Dat → Prop} {v : V} {σ : L2.St} {R : It → Hp → Prop} {ta : TA}
theorem rd_iRv (h : ta σ H (kRv K R)) : iRev K ta σ H R := h
end
end S

namespace S
open PySem PySem.Spec PyProof.Rows L2
/-! ### corners less and plus one another -/
def turnC (l c : Corner) : Corner := (l.1 - c.1, List.zipWith (· - ·) l.2 c.2)
def plusC (l c : Corner) : Corner := (l.1 + c.1, List.zipWith (· + ·) l.2 c.2)
def lastC (a : List Corner) : Corner := a.getLast?.getD (0, [])
def turnedV (a : List Corner) : List Corner := a.reverse.map (turnC (lastC a))
def scaledV (p : Rat) (a : List Corner) : List Corner := a.map fun c => (c.1 * p, c.2.map (· * p))
def movedV (a b : List Corner) : List Corner := b.tail.map (plusC (lastC a))
def posL : List Int → List (List Int) → List (List Int)
  | h, [] => [h]
  | h, s :: r => h :: posL (addV h s) r
theorem corners_pos (b : Int) : ∀ (r : List (List Int)) (h : List Int), cornAt b h :: cornersFrom b h r = (posL h r).map (cornAt b)
  | [], h => rfl
  | s :: r, h => by rw [posL, List.map_cons, ← corners_pos b r, cornersFrom]
theorem cornersV_pos (b : Int) (m : Nat) (r : List (List Int)) : cornersV b m r = (posL (zeroV m) r).map (cornAt b) := corners_pos b r _
theorem posL_len : ∀ (r : List (List Int)) (h : List Int), (posL h r).length = r.length + 1
  | [], h => rfl
  | s :: r, h => by rw [posL, List.length_cons, posL_len r, List.length_cons]
theorem posL_get : ∀ (r : List (List Int)) (h : List Int) (i : Nat), i ≤ r.length → (posL h r)[i]? = some (endV h (r.take i))
  | [], h, i, hi => by
    have : i = 0 := by simpa using hi
    subst this; rfl
  | s :: r, h, i, hi => by
    cases i with
    | zero => rfl
    | succ i =>
      rw [posL, List.getElem?_cons_succ, posL_get r _ i (by simpa using hi), List.take_succ_cons, endV]
theorem addV_comm : ∀ (a b : List Int), addV a b = addV b a
  | [], b => by simp [addV]
  | _ :: _, [] => by simp [addV]
  | x :: a, y :: b => by
    have ih := addV_comm a b
    unfold addV at *
    rw [List.zipWith_cons_cons, List.zipWith_cons_cons, ih, Int.add_comm]
theorem divInt_add' (x y b : Int) : Rat.divInt (x + y) b = Rat.divInt x b + Rat.divInt y b := by
  simp only [div_c, Rat.intCast_add]
  rw [Rat.add_mul]
/-! ### another bottom -/
theorem cornersV_head (b : Int) (m : Nat) (r : List (List Int)) : ∃ t, cornersV b m r = cornAt b (zeroV m) :: t := ⟨_, rfl⟩
theorem lay_paths (a : List (List Corner)) : (PyData.list (a.map pathD)).canLay0 = true := by rw [PyData.canLay0]; exact lay_all lay_path a
/-! ### contracts -/
section
variable {B G0 H : Hp} {cs : Cells} {ds : Dat} {Q : VK} {E : XK} {v w : V}
def spEach (g : Rat → Rat → Rat) : Sp := spT (α := List Rat × List Rat) (fun a => [partsD a.1, partsD a.2]) (fun a => (∀ q ∈ a.1, SzQ 4000 q) ∧ (∀ q ∈ a.2, SzQ 4000 q) ∧ a.1.length ≤ 1000) (fun a => partsD (List.zipWith g a.1 a.2))
structure PathIn (a : List Corner) : Prop where
  ne : a ≠ []
  sz : ∀ c ∈ a, SzC 4000 c
  len : ∀ c ∈ a, c.2.length ≤ 1000
  few : a.length ≤ 450
theorem PathIn.last {a : List Corner} (h : PathIn a) : a.getLast? = some (lastC a) ∧ lastC a ∈ a := by
  obtain ⟨l, hl⟩ : ∃ l, a.getLast? = some l := ⟨_, List.getLast?_eq_some_getLast h.ne⟩
  have e : lastC a = l := by unfold lastC; rw [hl]; rfl
  rw [e]
  exact ⟨hl, List.mem_of_getLast? hl⟩
theorem SzC.mono {m n : Nat} {c : Corner} (h : SzC m c) (l : m ≤ n) : SzC n c := ⟨h.1.mono l, fun q hq => (h.2 q hq).mono l⟩
def spTurned : Sp := spL (α := List Corner) (fun a => [pathD a]) PathIn (fun a => (turnedV a).map cornD)
def spScaled : Sp := spL (α := List Corner × Rat) (fun a => [pathD a.1, frD a.2]) (fun a => PathIn a.1 ∧ SzQ 4000 a.2) (fun a => (scaledV a.2 a.1).map cornD)
noncomputable def spBehind : Sp := spL (α := List Corner × List Corner) (fun a => [pathD a.1, pathD a.2]) (fun a => PathIn a.1 ∧ PathIn a.2 ∧ ∃ m, PathOk m (a.1 ++ movedV a.1 a.2)) (fun a => (keepAll (a.1 ++ movedV a.1 a.2)).map cornD)
def spLawTimes : Sp := spT (α := Rat × Rat) (fun a => [frD a.1, frD a.2]) (fun a => SzQ 4000 a.1 ∧ SzQ 4000 a.2) (fun a => frD (a.1 * a.2))
end
end S

namespace S
open PySem PySem.Spec PyProof.Rows L2
/-! ### parts at a purse -/
def mixR (t x y : Rat) : Rat := x + t * (y - x)
def betw (c d : Corner) (E : Rat) : List Rat := List.zipWith (mixR ((E - c.1) / (d.1 - c.1))) c.2 d.2
def partsV : List Corner → Rat → List Rat
  | [], _ => []
  | [c], _ => c.2
  | c :: d :: r, E => if E < d.1 then betw c d E else partsV (d :: r) E
def Rising (a : List Corner) : Prop := a.Pairwise fun c d => c.1 < d.1
theorem partsV_at {E : Rat} : ∀ {a : List Corner} {i : Nat} {c : Corner}, Rising a → a[i]? = some c → c.1 ≤ E → (i + 1 = a.length ∨ ∃ d, a[i + 1]? = some d ∧ E < d.1) → partsV a E = match a[i + 1]? with | none => c.2 | some d => betw c d E
  | [], i, c, _, h, _, _ => by simp at h
  | [b], i, c, _, h, _, _ => by
    cases i with
    | zero => cases h; rfl
    | succ i => simp at h
  | b :: d :: r, i, c, hr, h, hc, hE => by
    cases i with
    | zero =>
      cases h
      rcases hE with hE | ⟨d', hd', hE⟩
      · simp at hE
      · cases hd'
        rw [partsV, if_pos hE]
        rfl
    | succ i =>
      have hr' : Rising (d :: r) := (List.pairwise_cons.mp hr).2
      have h' : (d :: r)[i]? = some c := by simpa using h
      have hd : d.1 ≤ c.1 := by
        cases i with
        | zero => cases h'; exact Rat.le_refl
        | succ i => exact Rat.le_of_lt ((List.pairwise_cons.mp hr').1 c (List.mem_of_getElem? (by simpa using h')))
      have hnd : ¬ E < d.1 := Rat.not_lt.mpr (Rat.le_trans hd hc)
      rw [partsV, if_neg hnd]
      have := partsV_at (a := d :: r) (i := i) (c := c) hr' h' hc (by
        rcases hE with hE | ⟨d', hd', hE⟩
        · left; simpa using hE
        · right; exact ⟨d', by simpa using hd', hE⟩)
      rw [this]
      simp
/-! ### as the law reckons it -/
def lawAtV : List Corner → Rat → List Rat
  | [], _ => []
  | [c], _ => c.2
  | c :: d :: r, E => if E ≤ d.1 then betw c d E else lawAtV (d :: r) E
theorem lawAtV_at {E : Rat} : ∀ {a : List Corner} {i : Nat} {c d : Corner}, (∀ (j : Nat) (x : Corner), j < i → a[j + 1]? = some x → x.1 < E) → a[i]? = some c → a[i + 1]? = some d → E ≤ d.1 → lawAtV a E = betw c d E
  | [], i, c, d, _, h, _, _ => by simp at h
  | [b], i, c, d, _, _, h, _ => by simp at h
  | b :: b' :: r, 0, c, d, _, h, h', hE => by
    cases h; cases h'
    rw [lawAtV, if_pos hE]
  | b :: b' :: r, i + 1, c, d, hlt, h, h', hE => by
    have h0 := hlt 0 b' (by omega) rfl
    rw [lawAtV, if_neg (Rat.not_le.mpr h0)]
    exact lawAtV_at (i := i) (fun j x hj hx => hlt (j + 1) x (by omega) (by simpa using hx)) (by simpa using h) (by simpa using h') hE
theorem lawAtV_end {E : Rat} : ∀ {a : List Corner} {c : Corner}, (∀ (j : Nat) (x : Corner), a[j + 1]? = some x → x.1 < E) → a.getLast? = some c → lawAtV a E = c.2
  | [], c, _, h => by simp at h
  | [b], c, _, h => by cases h; rfl
  | b :: b' :: r, c, hlt, h => by
    have h0 := hlt 0 b' rfl
    rw [lawAtV, if_neg (Rat.not_le.mpr h0)]
    exact lawAtV_end (fun j x hx => hlt (j + 1) x (by simpa using hx)) (by simpa using h)
theorem mixR_zero (x y : Rat) : mixR 0 x y = x := by unfold mixR; grind
theorem mixR_one (x y : Rat) : mixR 1 x y = y := by unfold mixR; grind
theorem zipW_left {f : Rat → Rat → Rat} (hf : ∀ x y, f x y = x) : ∀ {l r : List Rat}, l.length = r.length → List.zipWith f l r = l
  | [], [], _ => rfl
  | x :: l, y :: r, h => by rw [List.zipWith_cons_cons, hf, zipW_left hf (by simpa using h)]
  | [], _ :: _, h => by simp at h
  | _ :: _, [], h => by simp at h
theorem zipW_right {f : Rat → Rat → Rat} (hf : ∀ x y, f x y = y) : ∀ {l r : List Rat}, l.length = r.length → List.zipWith f l r = r
  | [], [], _ => rfl
  | x :: l, y :: r, h => by rw [List.zipWith_cons_cons, hf, zipW_right hf (by simpa using h)]
  | [], _ :: _, h => by simp at h
  | _ :: _, [], h => by simp at h
theorem betw_start {c d : Corner} (h : c.2.length = d.2.length) : betw c d c.1 = c.2 := by
  unfold betw
  have : (c.1 - c.1) / (d.1 - c.1) = 0 := by rw [Rat.sub_self, Rat.div_def, Rat.zero_mul]
  rw [this]
  exact zipW_left mixR_zero h
theorem betw_end {c d : Corner} (h : c.2.length = d.2.length) (hlt : c.1 < d.1) : betw c d d.1 = d.2 := by
  unfold betw
  have hne : d.1 - c.1 ≠ 0 := fun z => by
    have : d.1 = c.1 := by grind
    rw [this] at hlt
    exact Rat.lt_irrefl hlt
  have : (d.1 - c.1) / (d.1 - c.1) = 1 := by rw [Rat.div_def]; exact Rat.mul_inv_cancel _ hne
  rw [this]
  exact zipW_right mixR_one h
theorem law_parts {m : Nat} {E : Rat} : ∀ {a : List Corner}, Rising a → (∀ c ∈ a, c.2.length = m) → lawAtV a E = partsV a E
  | [], _, _ => rfl
  | [c], _, _ => rfl
  | c :: d :: r, hr, hl => by
    have hr' : Rising (d :: r) := (List.pairwise_cons.mp hr).2
    have hl' := fun x hx => hl x (List.mem_cons_of_mem _ hx)
    have hcd : c.1 < d.1 := (List.pairwise_cons.mp hr).1 d (List.mem_cons_self ..)
    have lcd : c.2.length = d.2.length := by rw [hl c (List.mem_cons_self ..), hl d (List.mem_cons_of_mem _ (List.mem_cons_self ..))]
    rw [lawAtV, partsV]
    by_cases h1 : E < d.1
    · rw [if_pos h1, if_pos (Rat.le_of_lt h1)]
    · rw [if_neg h1]
      by_cases h2 : E ≤ d.1
      · have e : E = d.1 := Rat.le_antisymm h2 (Rat.not_lt.mp h1)
        subst e
        rw [if_pos h2, betw_end lcd hcd]
        cases r with
        | nil => rfl
        | cons f r =>
          have hdf : d.1 < f.1 := (List.pairwise_cons.mp hr').1 f (List.mem_cons_self ..)
          rw [partsV, if_pos hdf, betw_start]
          rw [hl' d (List.mem_cons_self ..), hl' f (List.mem_cons_of_mem _ (List.mem_cons_self ..))]
      · rw [if_neg h2]
        exact law_parts hr' hl'
theorem inv_mul' (a b : Rat) : (a * b)⁻¹ = a⁻¹ * b⁻¹ := by
  by_cases ha : a = 0
  · subst ha; rw [Rat.zero_mul, Rat.inv_zero, Rat.zero_mul]
  · by_cases hb : b = 0
    · subst hb; rw [Rat.mul_zero, Rat.inv_zero, Rat.mul_zero]
    · have h1 := Rat.mul_inv_cancel a ha
      have h2 := Rat.mul_inv_cancel b hb
      have h3 : (a * b) * (a * b)⁻¹ = 1 := Rat.mul_inv_cancel _ (by grind)
      grind
theorem mix_field {a1 a2 a3 a4 a5 b1 b2 b3 b4 : Rat} (n1 : a1 ≠ 0) (n2 : a2 ≠ 0) (n3 : a3 ≠ 0) (n4 : a4 ≠ 0) (n5 : a5 ≠ 0) (n6 : b4 ≠ 0) :
    (b1 * a2 * (b4 * a5 - b3 * a4) + b2 * a1 * (b3 * a4)) / (a1 * a2 * (b4 * a5)) = b1 / a1 + b3 / (a3 * a5) / (b4 / (a3 * a4)) * (b2 / a2 - b1 / a1) := by
  have i1 := Rat.mul_inv_cancel a1 n1
  have i2 := Rat.mul_inv_cancel a2 n2
  have i3 := Rat.mul_inv_cancel a3 n3
  have i4 := Rat.mul_inv_cancel a4 n4
  have i5 := Rat.mul_inv_cancel a5 n5
  have i6 := Rat.mul_inv_cancel b4 n6
  simp only [Rat.div_def, inv_mul', Rat.inv_inv]
  generalize a1⁻¹ = c1 at *
  generalize a2⁻¹ = c2 at *
  generalize a3⁻¹ = c3 at *
  generalize a4⁻¹ = c4 at *
  generalize a5⁻¹ = c5 at *
  generalize b4⁻¹ = c6 at *
  grind
/-- the law's own reckoning between two corners -/
theorem law_mix {x y l h e : Rat} (hlt : l < h) :
    Rat.divInt (x.num * (y.den : Int) * ((h.num * (l.den : Int) - l.num * (h.den : Int)) * (e.den : Int) - (e.num * (l.den : Int) - l.num * (e.den : Int)) * (h.den : Int)) + y.num * (x.den : Int) * ((e.num * (l.den : Int) - l.num * (e.den : Int)) * (h.den : Int)))
      ((x.den : Int) * (y.den : Int) * ((h.num * (l.den : Int) - l.num * (h.den : Int)) * (e.den : Int))) = mixR ((e - l) / (h - l)) x y ∧ 0 < (h.num * (l.den : Int) - l.num * (h.den : Int)) * (e.den : Int) := by
  have hH : 0 < h.num * (l.den : Int) - l.num * (h.den : Int) := by
    have := (Rat.lt_iff l h).mp hlt
    omega
  refine ⟨?_, Int.mul_pos hH (den_pos e)⟩
  have g1 : e - l = (e.num * (l.den : Int) - l.num * (e.den : Int) : Int) / (((l.den : Int) * (e.den : Int) : Int) : Rat) := by rw [← gap_rat, Rat.divInt_eq_div]
  have g2 : h - l = (h.num * (l.den : Int) - l.num * (h.den : Int) : Int) / (((l.den : Int) * (h.den : Int) : Int) : Rat) := by rw [← gap_rat, Rat.divInt_eq_div]
  have hx : x = (x.num : Rat) / ((x.den : Int) : Rat) := by rw [← Rat.divInt_eq_div, Rat.num_divInt_den]
  have hy : y = (y.num : Rat) / ((y.den : Int) : Rat) := by rw [← Rat.divInt_eq_div, Rat.num_divInt_den]
  have nz : ∀ q : Rat, ((q.den : Int) : Rat) ≠ 0 := fun q z => by
    have := Rat.intCast_inj.mp (z.trans Rat.intCast_zero.symm)
    have := den_pos q
    omega
  have nH : ((h.num * (l.den : Int) - l.num * (h.den : Int) : Int) : Rat) ≠ 0 := fun z => by
    have := Rat.intCast_inj.mp (z.trans Rat.intCast_zero.symm)
    omega
  unfold mixR
  rw [g1, g2, Rat.divInt_eq_div]
  generalize e.num * (l.den : Int) - l.num * (e.den : Int) = EN at *
  generalize h.num * (l.den : Int) - l.num * (h.den : Int) = HN at *
  conv => rhs; rw [hx, hy]
  have n1 := nz x
  have n2 := nz y
  have n3 := nz l
  have n4 := nz h
  have n5 := nz e
  simp only [Rat.intCast_mul, Rat.intCast_add, Rat.intCast_sub]
  exact mix_field n1 n2 n3 n4 n5 nH
/-! ### contracts -/
section
variable {B G0 H : Hp} {cs : Cells} {ds : Dat} {Q : VK} {E : XK} {v w u : V}
def spLast : Sp := fun vs H Q _ => ∃ (qs : List Rat) (e : Rat) (n : Nat), IsAll H [.list (qs.map frD), frD e] vs ∧ (0 < qs.length ∧ qs.length ≤ 1000000 ∧ (∀ q ∈ qs, SzQ n q) ∧ SzQ n e ∧ n ≤ 40000000 ∧ ∀ q, qs[0]? = some q → q ≤ e) ∧
  ∀ (i : Nat) (q : Rat), qs[i]? = some q → q ≤ e → (i + 1 = qs.length ∨ ∃ r, qs[i + 1]? = some r ∧ e < r) → Q (.int (i : Nat)) H
theorem rd_last {qs : List Rat} {e : Rat} {n : Nat} (S : Sta B G0 H cs ds) (h1 : Is H (.list (qs.map frD)) v) (h2 : Is H (frD e) w) (hd : 0 < qs.length ∧ qs.length ≤ 1000000 ∧ (∀ q ∈ qs, SzQ n q) ∧ SzQ n e ∧ n ≤ 40000000 ∧ ∀ q, qs[0]? = some q → q ≤ e)
    (k : ∀ (i : Nat) (q : Rat), qs[i]? = some q → q ≤ e → (i + 1 = qs.length ∨ ∃ r, qs[i + 1]? = some r ∧ e < r) → Q (.int (i : Nat)) H) : spLast [v, w] H Q E :=
  ⟨qs, e, n, by simp only [IsAll]; exact ⟨_, _, rfl, h1, _, _, rfl, h2, rfl⟩, hd, k⟩
/-- over(minus(amount, start), minus(end, start)) -/
def spPortion : Sp := spT (α := Rat × Rat × Rat) (fun a => [frD a.1, frD a.2.1, frD a.2.2]) (fun a => (∃ m n, SzQ n a.1 ∧ SzQ n a.2.1 ∧ SzQ m a.2.2 ∧ m + 3 * n + 2 ≤ 8999) ∧ a.2.1 ≠ a.1) (fun a => frD ((a.2.2 - a.1) / (a.2.1 - a.1)))
theorem rd_portion {s e x : Rat} {m n : Nat} (S : Sta B G0 H cs ds) (h1 : Has ds (frD s) v) (h2 : Has ds (frD e) w) (h3 : Has ds (frD x) u) (z1 : SzQ n s) (z2 : SzQ n e) (z3 : SzQ m x) (hz : m + 3 * n + 2 ≤ 8999) (hne : e ≠ s)
    (k : ∀ r H', Same H H' → Sta B G0 H' cs ((frD ((x - s) / (e - s)), r) :: ds) → Q r H') : spPortion [v, w, u] H Q E :=
  rd_spT (s, e, x) S (.cons h1 (.cons h2 (.cons h3 .nil))) ⟨⟨m, n, z1, z2, z3, hz⟩, hne⟩ k
def spAmount : Sp := spT (α := Rat × Rat × Rat) (fun a => [frD a.1, frD a.2.1, frD a.2.2]) (fun a => ∃ m n, SzQ n a.1 ∧ SzQ n a.2.1 ∧ SzQ m a.2.2 ∧ m + 3 * n + 2 ≤ 8999) (fun a => frD (mixR a.2.2 a.1 a.2.1))
theorem rd_amount {s e t : Rat} {m n : Nat} (S : Sta B G0 H cs ds) (h1 : Has ds (frD s) v) (h2 : Has ds (frD e) w) (h3 : Has ds (frD t) u) (z1 : SzQ n s) (z2 : SzQ n e) (z3 : SzQ m t) (hz : m + 3 * n + 2 ≤ 8999)
    (k : ∀ r H', Same H H' → Sta B G0 H' cs ((frD (mixR t s e), r) :: ds) → Q r H') : spAmount [v, w, u] H Q E :=
  rd_spT (s, e, t) S (.cons h1 (.cons h2 (.cons h3 .nil))) ⟨m, n, z1, z2, z3, hz⟩ k
def spBetween : Sp := spT (α := Corner × Corner × Rat) (fun a => [cornD a.1, cornD a.2.1, frD a.2.2]) (fun a => (∃ m n, SzC n a.1 ∧ SzC n a.2.1 ∧ SzQ m a.2.2 ∧ m + 6 * n + 4 ≤ 8999) ∧ a.1.1 < a.2.1.1 ∧ a.1.2.length ≤ 1000) (fun a => partsD (betw a.1 a.2.1 a.2.2))
theorem rd_between {c d : Corner} {e : Rat} {m n : Nat} (S : Sta B G0 H cs ds) (h1 : Has ds (cornD c) v) (h2 : Has ds (cornD d) w) (h3 : Has ds (frD e) u) (z1 : SzC n c) (z2 : SzC n d) (z3 : SzQ m e) (hz : m + 6 * n + 4 ≤ 8999) (hlt : c.1 < d.1) (hl : c.2.length ≤ 1000)
    (k : ∀ r H', Same H H' → Sta B G0 H' cs ((partsD (betw c d e), r) :: ds) → Q r H') : spBetween [v, w, u] H Q E :=
  rd_spT (c, d, e) S (.cons h1 (.cons h2 (.cons h3 .nil))) ⟨⟨m, n, z1, z2, z3, hz⟩, hlt, hl⟩ k
/-- what is asked of a path that is read -/
structure PathR (n : Nat) (a : List Corner) : Prop where
  ne : a ≠ []
  sz : ∀ c ∈ a, SzC n c
  len : ∀ c ∈ a, c.2.length ≤ 1000
  few : a.length ≤ 900
  rise : Rising a
  zero : ∀ c, a[0]? = some c → c.1 = 0
def spLess : Sp := spP (α := Rat × Rat) (fun a => [frD a.1, frD a.2]) (fun a => ∃ m n, SzQ m a.1 ∧ SzQ n a.2 ∧ m + n ≤ 100000000) (fun a => .bl (decide (a.1 < a.2)))
theorem rd_less {p q : Rat} {m n : Nat} (S : Sta B G0 H cs ds) (h1 : Has ds (frD p) v) (h2 : Has ds (frD q) w) (s1 : SzQ m p) (s2 : SzQ n q) (hmn : m + n ≤ 100000000) (k : Q (.bl (decide (p < q))) H) : spLess [v, w] H Q E :=
  rd_spP (p, q) S (.cons h1 (.cons h2 .nil)) ⟨m, n, s1, s2, hmn⟩ k
def spLawAt : Sp := spT (α := List Corner × Rat) (fun a => [pathD a.1, frD a.2]) (fun a => ∃ m n, PathR n a.1 ∧ SzQ m a.2 ∧ m + 4 * n + 1 ≤ 8999) (fun a => partsD (lawAtV a.1 a.2))
def spPartsAt : Sp := spT (α := List Corner × Rat) (fun a => [pathD a.1, frD a.2]) (fun a => ∃ m n, PathR n a.1 ∧ SzQ m a.2 ∧ m + 6 * n + 4 ≤ 8999 ∧ 0 ≤ a.2) (fun a => partsD (partsV a.1 a.2))
theorem rd_partsat {a : List Corner} {e : Rat} {m n : Nat} (S : Sta B G0 H cs ds) (h1 : Has ds (pathD a) v) (h2 : Has ds (frD e) w) (ok : PathR n a) (z : SzQ m e) (hz : m + 6 * n + 4 ≤ 8999) (h0 : 0 ≤ e)
    (k : ∀ r H', Same H H' → Sta B G0 H' cs ((partsD (partsV a e), r) :: ds) → Q r H') : spPartsAt [v, w] H Q E :=
  rd_spT (a, e) S (.cons h1 (.cons h2 .nil)) ⟨m, n, ok, z, hz, h0⟩ k
end
end S

namespace S
open PySem PySem.Spec PyProof.Rows L2
/-! ### paths are told by their parts -/
theorem rat_mul_zero {a b : Rat} (h : a * b = 0) (hb : b ≠ 0) : a = 0 := by
  have h1 := Rat.mul_inv_cancel b hb
  have : a = a * b * b⁻¹ := by rw [Rat.mul_assoc, h1, Rat.mul_one]
  rw [this, h, Rat.zero_mul]
theorem sub_ne {a b : Rat} (h : a < b) : b - a ≠ 0 := fun z => by
  have : b = a := by grind
  rw [this] at h
  exact Rat.lt_irrefl h
theorem mixR_line {s e x y E : Rat} (h : s < e) : (mixR ((E - s) / (e - s)) x y - x) * (e - s) = (E - s) * (y - x) := by
  have h1 := Rat.mul_inv_cancel _ (sub_ne h)
  unfold mixR
  rw [Rat.div_def]
  generalize (e - s)⁻¹ = i at *
  grind
theorem betw_get {c d : Corner} {E : Rat} {i : Nat} {z : Rat} (h : (betw c d E)[i]? = some z) : ∃ x y, c.2[i]? = some x ∧ d.2[i]? = some y ∧ z = mixR ((E - c.1) / (d.1 - c.1)) x y := by
  unfold betw at h
  rw [List.getElem?_zipWith] at h
  cases hx : c.2[i]? with
  | none => rw [hx] at h; cases h
  | some x =>
    cases hy : d.2[i]? with
    | none => rw [hx, hy] at h; cases h
    | some y => rw [hx, hy] at h; exact ⟨x, y, rfl, rfl, (Option.some.inj h).symm⟩
structure PathT (m : Nat) (a : List Corner) : Prop where
  rise : Rising a
  len : ∀ c ∈ a, c.2.length = m
  thin : ∀ (i : Nat) (x y z : Corner), a[i]? = some x → a[i + 1]? = some y → a[i + 2]? = some z → ¬ straight x y z
theorem PathT.tail {m : Nat} {c : Corner} {a : List Corner} (h : PathT m (c :: a)) : PathT m a :=
  ⟨(List.pairwise_cons.mp h.rise).2, fun x hx => h.len x (List.mem_cons_of_mem _ hx), fun i x y z hx hy hz => h.thin (i + 1) x y z (by simpa using hx) (by simpa using hy) (by simpa using hz)⟩
theorem partsV_skip {c d : Corner} {r : List Corner} {E : Rat} (h : d.1 ≤ E) : partsV (c :: d :: r) E = partsV (d :: r) E := by
  rw [partsV, if_neg (Rat.not_lt.mpr h)]
theorem partsV_head {m : Nat} {c : Corner} {r : List Corner} (h : PathT m (c :: r)) : partsV (c :: r) c.1 = c.2 := by
  cases r with
  | nil => rfl
  | cons d r =>
    rw [partsV, if_pos ((List.pairwise_cons.mp h.rise).1 d (List.mem_cons_self ..)), betw_start]
    rw [h.len c (List.mem_cons_self ..), h.len d (List.mem_cons_of_mem _ (List.mem_cons_self ..))]
theorem last_ge {m : Nat} : ∀ {c : Corner} {r : List Corner}, PathT m (c :: r) → c.1 ≤ (lastC (c :: r)).1
  | c, [], _ => Rat.le_refl
  | c, d :: r, h => by
    have h1 := (List.pairwise_cons.mp h.rise).1 d (List.mem_cons_self ..)
    have h2 := last_ge h.tail
    have e : lastC (c :: d :: r) = lastC (d :: r) := by unfold lastC; rw [List.getLast?_cons_cons]
    rw [e]
    exact Rat.le_trans (Rat.le_of_lt h1) h2
theorem lastC_cons (c d : Corner) (r : List Corner) : lastC (c :: d :: r) = lastC (d :: r) := by unfold lastC; rw [List.getLast?_cons_cons]
/-! ### between two purses without a corner -/
theorem partsV_lin {m : Nat} {u v E : Rat} (huE : u ≤ E) (hEv : E ≤ v) (huv : u < v) : ∀ {c : Corner} {r : List Corner}, PathT m (c :: r) → c.1 ≤ u → (∀ x ∈ r, ¬ (u < x.1 ∧ x.1 < v)) →
    ∀ (i : Nat) (x y z : Rat), (partsV (c :: r) u)[i]? = some x → (partsV (c :: r) v)[i]? = some y → (partsV (c :: r) E)[i]? = some z → (z - x) * (v - u) = (y - x) * (E - u)
  | c, [], _, _, _, i, x, y, z, hx, hy, hz => by
    have e1 : c.2[i]? = some x := hx
    have e2 : c.2[i]? = some y := hy
    have e3 : c.2[i]? = some z := hz
    rw [e1] at e2 e3
    cases e2; cases e3
    grind
  | c, d :: r, h, hc, hno, i, x, y, z, hx, hy, hz => by
    have hcd := (List.pairwise_cons.mp h.rise).1 d (List.mem_cons_self ..)
    by_cases hd : d.1 ≤ u
    · rw [partsV_skip hd] at hx
      rw [partsV_skip (Rat.le_trans hd (Rat.le_of_lt huv))] at hy
      rw [partsV_skip (Rat.le_trans hd huE)] at hz
      exact partsV_lin huE hEv huv h.tail hd (fun x hx => hno x (List.mem_cons_of_mem _ hx)) i x y z hx hy hz
    · have hud : u < d.1 := Rat.not_le.mp hd
      have hvd : v ≤ d.1 := Rat.not_lt.mp fun hlt => hno d (List.mem_cons_self ..) ⟨hud, hlt⟩
      have key : ∀ t : Rat, t ≤ d.1 → partsV (c :: d :: r) t = betw c d t := by
        intro t ht
        by_cases h1 : t < d.1
        · rw [partsV, if_pos h1]
        · have e : t = d.1 := Rat.le_antisymm ht (Rat.not_lt.mp h1)
          rw [e, partsV_skip Rat.le_refl, partsV_head h.tail, betw_end (by rw [h.len c (List.mem_cons_self ..), h.len d (List.mem_cons_of_mem _ (List.mem_cons_self ..))]) hcd]
      rw [key u (Rat.le_of_lt hud)] at hx
      rw [key v hvd] at hy
      rw [key E (Rat.le_trans hEv hvd)] at hz
      obtain ⟨p, q, hp, hq, ex⟩ := betw_get hx
      obtain ⟨p', q', hp', hq', ey⟩ := betw_get hy
      obtain ⟨p'', q'', hp'', hq'', ez⟩ := betw_get hz
      rw [hp] at hp' hp''
      rw [hq] at hq' hq''
      cases hp'; cases hp''; cases hq'; cases hq''
      have l1 := mixR_line (x := p) (y := q) (E := u) hcd
      have l2 := mixR_line (x := p) (y := q) (E := v) hcd
      have l3 := mixR_line (x := p) (y := q) (E := E) hcd
      rw [← ex] at l1
      rw [← ey] at l2
      rw [← ez] at l3
      have k : ((z - x) * (v - u) - (y - x) * (E - u)) * (d.1 - c.1) = 0 := by grind
      have := rat_mul_zero k (sub_ne hcd)
      grind
theorem partsV_len {m : Nat} {E : Rat} : ∀ {c : Corner} {r : List Corner}, (∀ x ∈ c :: r, x.2.length = m) → (partsV (c :: r) E).length = m
  | c, [], h => h c (List.mem_cons_self ..)
  | c, d :: r, h => by
    rw [partsV]
    split
    · unfold betw
      rw [List.length_zipWith, h c (List.mem_cons_self ..), h d (List.mem_cons_of_mem _ (List.mem_cons_self ..)), Nat.min_self]
    · exact partsV_len fun x hx => h x (List.mem_cons_of_mem _ hx)
end S

namespace S
open PySem PySem.Spec PyProof.Rows L2
/-! ### two rising rows of purses, merged -/
def mergeV : List Rat → List Rat → List Rat
  | [], ys => ys
  | x :: xs, [] => x :: xs
  | x :: xs, y :: ys => if x < y then x :: mergeV xs (y :: ys) else if x = y then y :: mergeV xs ys else y :: mergeV (x :: xs) ys
termination_by xs ys => xs.length + ys.length
theorem mergeV_nilr : ∀ xs : List Rat, mergeV xs [] = xs
  | [] => by rw [mergeV]
  | x :: xs => by rw [mergeV]
theorem mem_merge {e : Rat} : ∀ {xs ys : List Rat}, e ∈ mergeV xs ys ↔ e ∈ xs ∨ e ∈ ys
  | [], ys => by rw [mergeV]; simp
  | x :: xs, [] => by rw [mergeV]; simp
  | x :: xs, y :: ys => by
    rw [mergeV]
    split
    · rw [List.mem_cons, mem_merge (xs := xs) (ys := y :: ys), List.mem_cons, List.mem_cons]
      constructor <;> intro h <;> grind
    · split
      · rename_i h1 h2
        subst h2
        rw [List.mem_cons, mem_merge (xs := xs) (ys := ys), List.mem_cons, List.mem_cons]
        constructor <;> intro h <;> grind
      · rw [List.mem_cons, mem_merge (xs := x :: xs) (ys := ys), List.mem_cons, List.mem_cons]
        constructor <;> intro h <;> grind
termination_by xs ys => xs.length + ys.length
theorem rat_lt_trans {a b c : Rat} (h : a < b) (g : b < c) : a < c := by grind
def RiseQ (l : List Rat) : Prop := l.Pairwise (· < ·)
theorem rise_merge : ∀ {xs ys : List Rat}, RiseQ xs → RiseQ ys → RiseQ (mergeV xs ys)
  | [], ys, _, hy => by rw [mergeV]; exact hy
  | x :: xs, [], hx, _ => by rw [mergeV]; exact hx
  | x :: xs, y :: ys, hx, hy => by
    obtain ⟨hx1, hx2⟩ := List.pairwise_cons.mp hx
    obtain ⟨hy1, hy2⟩ := List.pairwise_cons.mp hy
    rw [mergeV]
    split
    · rename_i h
      refine List.pairwise_cons.mpr ⟨fun e he => ?_, rise_merge hx2 hy⟩
      rcases mem_merge.mp he with h1 | h1
      · exact hx1 e h1
      · rcases List.mem_cons.mp h1 with rfl | h1
        · exact h
        · exact rat_lt_trans h (hy1 e h1)
    · split
      · rename_i h1 h2
        subst h2
        refine List.pairwise_cons.mpr ⟨fun e he => ?_, rise_merge hx2 hy2⟩
        rcases mem_merge.mp he with h | h
        · exact hx1 e h
        · exact hy1 e h
      · rename_i h1 h2
        have hyx : y < x := by
          rcases Rat.le_iff_lt_or_eq.mp (Rat.not_lt.mp h1) with h | h
          · exact h
          · exact absurd h.symm h2
        refine List.pairwise_cons.mpr ⟨fun e he => ?_, rise_merge hx hy2⟩
        rcases mem_merge.mp he with h | h
        · rcases List.mem_cons.mp h with rfl | h
          · exact hyx
          · exact rat_lt_trans hyx (hx1 e h)
        · exact hy1 e h
termination_by xs ys => xs.length + ys.length
theorem merge_len : ∀ (xs ys : List Rat), (mergeV xs ys).length ≤ xs.length + ys.length
  | [], ys => by rw [mergeV]; simp
  | x :: xs, [] => by rw [mergeV]; simp
  | x :: xs, y :: ys => by
    rw [mergeV]
    split
    · have := merge_len xs (y :: ys); simp only [List.length_cons] at *; omega
    · split
      · have := merge_len xs ys; simp only [List.length_cons] at *; omega
      · have := merge_len (x :: xs) ys; simp only [List.length_cons] at *; omega
termination_by xs ys => xs.length + ys.length
/-! ### contracts -/
section
variable {B G0 H : Hp} {cs : Cells} {ds : Dat} {Q : VK} {E : XK} {v w u : V}
def spMerged : Sp := spL (α := List Rat × List Rat) (fun a => [.list (a.1.map frD), .list (a.2.map frD)]) (fun a => (∃ n, (∀ q ∈ a.1, SzQ n q) ∧ (∀ q ∈ a.2, SzQ n q) ∧ n ≤ 40000000) ∧ a.1.length ≤ 450 ∧ a.2.length ≤ 450) (fun a => (mergeV a.1 a.2).map frD)
theorem rd_merged {p q : List Rat} {n : Nat} (S : Sta B G0 H cs ds) (h1 : Has ds (.list (p.map frD)) v) (h2 : Has ds (.list (q.map frD)) w) (z1 : ∀ x ∈ p, SzQ n x) (z2 : ∀ x ∈ q, SzQ n x) (hn : n ≤ 40000000) (l1 : p.length ≤ 450) (l2 : q.length ≤ 450)
    (k : ∀ r H', Same H H' → Sta B G0 H' ((r, (mergeV p q).map frD) :: cs) ds → Q (.ref r) H') : spMerged [v, w] H Q E :=
  rd_spL (p, q) S (.cons h1 (.cons h2 .nil)) ⟨⟨n, z1, z2, hn⟩, l1, l2⟩ k
def spUnlike : Sp := fun vs H Q _ => ∃ p q : List Rat, IsAll H [partsD p, partsD q] vs ∧ (p.length = q.length ∧ p.length ≤ 1000) ∧ ∀ H', Same H H' → (p = q → Q .non H') ∧ ∀ (i : Nat) (x y : Rat), p[i]? = some x → q[i]? = some y → x ≠ y → Q (.int (i : Nat)) H'
/-- what parted tells -/
def pursesV (a : List Corner) : List Rat := a.map fun c => c.1
def spParted : Sp := fun vs H Q _ => ∃ (G : Hp) (a b : List Corner) (n m : Nat), Same G H ∧ IsAll G [pathD a, pathD b] vs ∧ (PathR n a ∧ PathR n b ∧ 7 * n + 4 ≤ 8999 ∧ (∀ c ∈ a, c.2.length = m) ∧ (∀ c ∈ b, c.2.length = m) ∧ a.length ≤ 450 ∧ b.length ≤ 450) ∧
  (∀ H' G', Grow G H G' H' → (∀ e ∈ mergeV (pursesV a) (pursesV b), partsV a e = partsV b e) → Q .non H') ∧
  ∀ v H' G' (k i : Nat) (s e x y : Rat), Grow G H G' H' → Is G' (.tuple [frD s, frD e, .int (i : Nat)]) v → (mergeV (pursesV a) (pursesV b))[k]? = some e → (∀ (j : Nat) (d : Rat), j < k → (mergeV (pursesV a) (pursesV b))[j]? = some d → partsV a d = partsV b d) →
    (k = 0 ∨ (mergeV (pursesV a) (pursesV b))[k - 1]? = some s) → (partsV a e)[i]? = some x → (partsV b e)[i]? = some y → x ≠ y → Q v H'
end
end S

namespace S
open PySem PySem.Spec PyProof.Rows L2
/-! ### thinned steps -/
theorem par_symm {c t : List Int} (h : c.length = t.length) (g : par c t) : par t c := by
  rw [par_iff h] at g
  rw [par_iff h.symm]
  intro i a b ha hb
  exact (g i b a hb ha).symm
theorem thinFrom_head {m : Nat} : ∀ (r : List (List Int)) (c : List Int), GoodS m c → (∀ t ∈ r, GoodS m t) → ∃ h t, thinFrom c r = h :: t ∧ par h c ∧ GoodS m h
  | [], c, hc, _ => ⟨c, [], rfl, par_refl c, hc⟩
  | s :: r, c, hc, hr => by
    have hs := hr s (List.mem_cons_self ..)
    have lcs : c.length = s.length := by rw [hc.len, hs.len]
    rw [thinFrom]
    split
    · rename_i hp
      have gs : GoodS m (addV c s) := ⟨addV_len hc.len hs.len, by rw [addV_sum lcs]; have := hc.pos; have := hs.pos; omega⟩
      obtain ⟨h, t, e, hpar, gh⟩ := thinFrom_head r (addV c s) gs fun t ht => hr t (List.mem_cons_of_mem _ ht)
      refine ⟨h, t, e, ?_, gh⟩
      have l1 : h.length = (addV c s).length := by rw [gh.len, gs.len]
      have l2 : h.length = c.length := by rw [gh.len, hc.len]
      refine (par_swap l1 l2 gh.pos gs.pos hpar).mpr ?_
      have k := par_add (c := s) (t := c) lcs.symm (par_symm lcs hp)
      rwa [addV_comm] at k
    · exact ⟨c, _, rfl, par_refl c, hc⟩
theorem thinFrom_nopar {m : Nat} : ∀ (r : List (List Int)) (c : List Int), GoodS m c → (∀ t ∈ r, GoodS m t) → ∀ (i : Nat) (x y : List Int), (thinFrom c r)[i]? = some x → (thinFrom c r)[i + 1]? = some y → ¬ par x y
  | [], c, _, _, i, x, y, _, hy => by simp [thinFrom] at hy
  | s :: r, c, hc, hr, i, x, y, hx, hy => by
    have hs := hr s (List.mem_cons_self ..)
    have hr' := fun t ht => hr t (List.mem_cons_of_mem _ ht)
    have lcs : c.length = s.length := by rw [hc.len, hs.len]
    rw [thinFrom] at hx hy
    split at hx
    · rename_i hp
      rw [if_pos hp] at hy
      exact thinFrom_nopar r (addV c s) ⟨addV_len hc.len hs.len, by rw [addV_sum lcs]; have := hc.pos; have := hs.pos; omega⟩ hr' i x y hx hy
    · rename_i hp
      rw [if_neg hp] at hy
      cases i with
      | zero =>
        cases hx
        obtain ⟨h, t, e, hpar, gh⟩ := thinFrom_head r s hs hr'
        rw [e] at hy
        cases hy
        intro z
        have lh := hc.len.trans gh.len.symm
        have lhs := gh.len.trans hs.len.symm
        have := (par_swap lhs lh.symm gh.pos hs.pos hpar).mp (par_symm lh z)
        exact hp (par_symm lcs.symm this)
      | succ i => exact thinFrom_nopar r s hs hr' i x y (by simpa using hx) (by simpa using hy)
theorem thinS_nopar {m : Nat} {r : List (List Int)} (hr : ∀ t ∈ r, GoodS m t) : ∀ (i : Nat) (x y : List Int), (thinS r)[i]? = some x → (thinS r)[i + 1]? = some y → ¬ par x y := by
  cases r with
  | nil => intro i x y hx; simp [thinS] at hx
  | cons c r => exact thinFrom_nopar r c (hr c (List.mem_cons_self ..)) fun t ht => hr t (List.mem_cons_of_mem _ ht)
def totV (r : List (List Int)) : Int := (r.map List.sum).sum
theorem zeroV_sum (m : Nat) : (zeroV m).sum = 0 := by
  unfold zeroV
  induction m with
  | zero => rfl
  | succ m ih => rw [List.replicate_succ, List.sum_cons, ih]; rfl
/-! ### sizes -/
/-! ### rising -/
theorem divInt_lt {x y b : Int} (hb : 0 < b) (h : x < y) : Rat.divInt x b < Rat.divInt y b := by
  rw [div_c, div_c]
  exact Rat.mul_lt_mul_of_pos_right (Rat.intCast_lt_intCast.mpr h) (Rat.inv_pos.mpr (by
    have := Rat.intCast_lt_intCast.mpr hb
    simpa using this))
theorem rise_from {b : Int} (hb : 0 < b) {m : Nat} : ∀ (r : List (List Int)) (h : List Int), h.length = m → (∀ s ∈ r, GoodS m s) → (∀ x ∈ cornersFrom b h r, (cornAt b h).1 < x.1) ∧ Rising (cornersFrom b h r)
  | [], h, _, _ => ⟨fun x hx => by simp [cornersFrom] at hx, List.Pairwise.nil⟩
  | s :: r, h, lh, hr => by
    have gs := hr s (List.mem_cons_self ..)
    obtain ⟨k1, k2⟩ := rise_from hb r (addV h s) (addV_len lh gs.len) fun t ht => hr t (List.mem_cons_of_mem _ ht)
    have lt : (cornAt b h).1 < (cornAt b (addV h s)).1 := by
      unfold cornAt
      refine divInt_lt hb ?_
      rw [addV_sum (by rw [lh, gs.len])]
      have := gs.pos
      omega
    rw [cornersFrom]
    refine ⟨fun x hx => ?_, List.pairwise_cons.mpr ⟨k1, k2⟩⟩
    rcases List.mem_cons.mp hx with rfl | hx
    · exact lt
    · exact rat_lt_trans lt (k1 x hx)
theorem corners_thin {b : Int} {m : Nat} {T : List (List Int)} (hb : 0 < b) (hr : ∀ s ∈ T, GoodS m s) (np : ∀ (i : Nat) (x y : List Int), T[i]? = some x → T[i + 1]? = some y → ¬ par x y) : PathT m (cornersV b m T) := by
  refine ⟨?_, ?_, ?_⟩
  · obtain ⟨k1, k2⟩ := rise_from hb T (zeroV m) (zeroV_len m) hr
    exact List.pairwise_cons.mpr ⟨k1, k2⟩
  · intro c hc
    rw [cornersV_pos] at hc
    obtain ⟨h, hh, rfl⟩ := List.mem_map.mp hc
    obtain ⟨i, hi⟩ := List.mem_iff_getElem?.mp hh
    have hlt := (List.getElem?_eq_some_iff.mp hi).1
    rw [posL_len] at hlt
    rw [posL_get _ _ _ (by omega)] at hi
    cases hi
    unfold cornAt
    rw [List.length_map, endV_len (zeroV_len m) fun s hs => (hr s (List.mem_of_mem_take hs)).len]
  · intro i x y z hx hy hz
    have hlt := (List.getElem?_eq_some_iff.mp hz).1
    unfold cornersV at hlt
    rw [List.length_cons, cornersFrom_length] at hlt
    rw [cornersV_pos, List.getElem?_map, posL_get _ _ _ (by omega)] at hx hy hz
    have g1 := List.getElem?_eq_getElem (l := T) (i := i) (by omega)
    have g2 := List.getElem?_eq_getElem (l := T) (i := i + 1) (by omega)
    have t1 : T.take (i + 1) = T.take i ++ [T[i]] := by rw [List.take_add_one, g1]; rfl
    have t2 : T.take (i + 2) = T.take i ++ [T[i]] ++ [T[i + 1]] := by rw [List.take_add_one, t1, g2]; rfl
    rw [t1, endV_snoc] at hy
    rw [t2, endV_snoc, endV_snoc] at hz
    cases hx; cases hy; cases hz
    intro st
    exact np i _ _ g1 g2 ((str_iff hb (endV_len (zeroV_len m) fun s hs => (hr s (List.mem_of_mem_take hs)).len) (hr _ (List.mem_of_getElem? g1)).len (hr _ (List.mem_of_getElem? g2)).len).mp st)
/-! ### alike up to a purse -/
theorem merge_gap {M : List Rat} (hM : RiseQ M) {j : Nat} {u v e : Rat} (hu : M[j]? = some u) (hv : M[j + 1]? = some v) (he : e ∈ M) : ¬ (u < e ∧ e < v) := by
  rintro ⟨h1, h2⟩
  obtain ⟨i, hi⟩ := List.mem_iff_getElem?.mp he
  obtain ⟨li, ei⟩ := List.getElem?_eq_some_iff.mp hi
  obtain ⟨lu, eu⟩ := List.getElem?_eq_some_iff.mp hu
  obtain ⟨lv, ev⟩ := List.getElem?_eq_some_iff.mp hv
  have pw := List.pairwise_iff_getElem.mp hM
  by_cases c : i ≤ j
  · rcases Nat.lt_or_eq_of_le c with c | c
    · have := pw i j li lu c
      rw [ei, eu] at this
      grind
    · subst c
      rw [ei] at eu
      subst eu
      grind
  · by_cases c2 : i = j + 1
    · subst c2
      rw [ei] at ev
      subst ev
      grind
    · have := pw (j + 1) i lv li (by omega)
      rw [ei, ev] at this
      grind
/-! ### what parted's answer means -/
theorem purses_rise {a : List Corner} (h : Rising a) : RiseQ (pursesV a) := by
  unfold RiseQ pursesV
  rw [List.pairwise_map]
  exact h
theorem part_of {s : Rat} {r : Int} (h0 : 0 ≤ s) (hr : 0 ≤ r ∧ r ≤ 997) : 0 ≤ Rat.divInt (s.num * r) ((s.den : Int) * 997) ∧ Rat.divInt (s.num * r) ((s.den : Int) * 997) ≤ s := by
  have e : Rat.divInt (s.num * r) ((s.den : Int) * 997) = s * Rat.divInt r 997 := by
    conv => rhs; rw [← Rat.num_divInt_den s]
    rw [Rat.divInt_mul_divInt]
  have t0 : 0 ≤ Rat.divInt r 997 := Rat.divInt_nonneg hr.1 (by decide)
  have t1 : Rat.divInt r 997 ≤ 1 := by
    have one : Rat.divInt 997 997 = 1 := Rat.divInt_self' (by decide)
    rcases Int.lt_or_eq_of_le hr.2 with h | h
    · have := divInt_lt (b := 997) (by decide) h
      rw [one] at this
      exact Rat.le_of_lt this
    · rw [h, one]
      exact Rat.le_refl
  rw [e]
  refine ⟨Rat.mul_nonneg h0 t0, ?_⟩
  have := Rat.mul_le_mul_of_nonneg_left t1 h0
  rwa [Rat.mul_one] at this
section
variable {B G0 H : Hp} {cs : Cells} {ds : Dat} {Q : VK} {E : XK} {v w u : V}
def spWhole : Sp := fun vs H Q _ => ∃ n : Int, vs = [.int n] ∧ Q (.bl true) H
theorem rd_whole {n : Int} (k : Q (.bl true) H) : spWhole [.int n] H Q E := ⟨n, rfl, k⟩
def spFrac : Sp := spB (α := Rat) (fun a => [frD a]) (fun _ => True) (fun _ => .bl true)
theorem rd_frac {q : Rat} (S : Sta B G0 H cs ds) (h : Has ds (frD q) v) (k : ∀ H', Sta B G0 H' cs ds → Q (.bl true) H') : spFrac [v] H Q E :=
  rd_spB q (S.hpAll (.cons h .nil)) trivial fun H' e => k H' (S.same e)
def spOther : Sp := fun vs H Q _ => ∃ (G : Hp) (rows : List (List Int)) (kind cell : Int), Same G H ∧ IsAll G [rowsD rows, .int kind, .int cell] vs ∧ (0 ≤ kind ∧ rows.length ≤ 100) ∧ ∀ v H' G' (R : List (List Int)), Grow G H G' H' → Is G' (rowsD R) v → R.Perm rows → Q v H'
def spBeyond : Sp := spB (α := (List Corner × List Corner) × Rat × Rat) (fun a => [pathD a.1.1, pathD a.1.2, frD a.2.1, frD a.2.2]) (fun a => (∃ n, PathR n a.1.1 ∧ PathR n a.1.2 ∧ SzQ n a.2.1 ∧ SzQ n a.2.2 ∧ 5 * n + 1 ≤ 8999) ∧ a.1.1.length ≤ 400 ∧ a.1.2.length ≤ 400 ∧ (∀ x ∈ a.1.1 ++ a.1.2, ¬ (a.2.1 < x.1 ∧ x.1 < a.2.2)) ∧ lawAtV a.1.1 a.2.2 ≠ lawAtV a.1.2 a.2.2) (fun _ => .bl true)
end
end S

namespace S
open PySem PySem.Spec PyProof.Rows L2
/-! ### sums -/
def sumQ : List Rat → Rat
  | [] => 0
  | x :: r => x + sumQ r
theorem sumQ_append : ∀ x y : List Rat, sumQ (x ++ y) = sumQ x + sumQ y
  | [], y => by rw [List.nil_append, sumQ]; grind
  | a :: x, y => by rw [List.cons_append, sumQ, sumQ, sumQ_append x y]; grind
theorem sumQ_zeros (m : Nat) : sumQ (List.replicate m 0) = 0 := by
  induction m with
  | zero => rfl
  | succ m ih => rw [List.replicate_succ, sumQ, ih]; grind
theorem sumQ_mix (t : Rat) : ∀ x y : List Rat, x.length = y.length → sumQ (List.zipWith (mixR t) x y) = mixR t (sumQ x) (sumQ y)
  | [], [], _ => by rw [List.zipWith_nil_left, sumQ]; unfold mixR; grind
  | a :: x, b :: y, h => by
    rw [List.zipWith_cons_cons, sumQ, sumQ, sumQ, sumQ_mix t x y (by simpa using h)]
    unfold mixR; grind
  | [], _ :: _, h => by simp at h
  | _ :: _, [], h => by simp at h
/-! ### paths with sums -/
def LeV (x y : List Rat) : Prop := ∀ (i : Nat) (a b : Rat), x[i]? = some a → y[i]? = some b → a ≤ b
structure PathM (m : Nat) (a : List Corner) : Prop where
  t : PathT m a
  sums : ∀ c ∈ a, sumQ c.2 = c.1
  mono : a.Pairwise fun c d => LeV c.2 d.2
theorem PathM.tail {m : Nat} {c : Corner} {a : List Corner} (h : PathM m (c :: a)) : PathM m a :=
  ⟨h.t.tail, fun x hx => h.sums x (List.mem_cons_of_mem _ hx), (List.pairwise_cons.mp h.mono).2⟩
theorem mix_mono {s e x y u v : Rat} (h : s < e) (huv : u ≤ v) (hxy : x ≤ y) : mixR ((u - s) / (e - s)) x y ≤ mixR ((v - s) / (e - s)) x y := by
  have l1 := mixR_line (x := x) (y := y) (E := u) h
  have l2 := mixR_line (x := x) (y := y) (E := v) h
  have hp : 0 < e - s := by grind
  have h0 : 0 ≤ (v - u) * (y - x) := Rat.mul_nonneg (by grind) (by grind)
  refine Rat.le_of_mul_le_mul_left (c := e - s) ?_ hp
  grind
theorem partsV_mono {m : Nat} {u v : Rat} (huv : u ≤ v) : ∀ {c : Corner} {r : List Corner}, PathM m (c :: r) → c.1 ≤ u → LeV (partsV (c :: r) u) (partsV (c :: r) v)
  | c, [], _, _ => fun i a b ha hb => by
    have e1 : c.2[i]? = some a := ha
    have e2 : c.2[i]? = some b := hb
    rw [e1] at e2; cases e2; exact Rat.le_refl
  | c, d :: r, h, hc => fun i a b ha hb => by
    have hcd := (List.pairwise_cons.mp h.t.rise).1 d (List.mem_cons_self ..)
    have hm := (List.pairwise_cons.mp h.mono).1 d (List.mem_cons_self ..)
    by_cases hd : d.1 ≤ u
    · rw [partsV_skip hd] at ha
      rw [partsV_skip (Rat.le_trans hd huv)] at hb
      exact partsV_mono huv h.tail hd i a b ha hb
    · have hud : u < d.1 := Rat.not_le.mp hd
      rw [partsV, if_pos hud] at ha
      obtain ⟨x, y, hx, hy, ea⟩ := betw_get ha
      have hxy := hm i x y hx hy
      by_cases hv : v < d.1
      · rw [partsV, if_pos hv] at hb
        obtain ⟨x', y', hx', hy', eb⟩ := betw_get hb
        rw [hx] at hx'; cases hx'
        rw [hy] at hy'; cases hy'
        rw [ea, eb]
        exact mix_mono hcd huv hxy
      · have hdv : d.1 ≤ v := Rat.not_lt.mp hv
        rw [partsV_skip hdv] at hb
        have h2 := partsV_mono hdv h.tail Rat.le_refl i y b (by rw [partsV_head h.t.tail]; exact hy) hb
        have h1 := mix_mono (x := x) (y := y) hcd (Rat.le_of_lt hud) hxy
        rw [← ea] at h1
        have e1 : mixR ((d.1 - c.1) / (d.1 - c.1)) x y = y := by
          rw [Rat.div_def, Rat.mul_inv_cancel _ (sub_ne hcd), mixR_one]
        rw [e1] at h1
        exact Rat.le_trans h1 h2
theorem partsV_sum {m : Nat} {e : Rat} : ∀ {c : Corner} {r : List Corner}, PathM m (c :: r) → c.1 ≤ e → e ≤ (lastC (c :: r)).1 → sumQ (partsV (c :: r) e) = e
  | c, [], h, hc, hl => by
    have e1 : e = c.1 := Rat.le_antisymm hl hc
    rw [e1]
    exact h.sums c (List.mem_cons_self ..)
  | c, d :: r, h, hc, hl => by
    have hcd := (List.pairwise_cons.mp h.t.rise).1 d (List.mem_cons_self ..)
    by_cases hd : d.1 ≤ e
    · rw [partsV_skip hd]
      exact partsV_sum h.tail hd (by rw [← lastC_cons c]; exact hl)
    · have hud : e < d.1 := Rat.not_le.mp hd
      rw [partsV, if_pos hud]
      unfold betw
      rw [sumQ_mix _ _ _ (by rw [h.t.len c (List.mem_cons_self ..), h.t.len d (List.mem_cons_of_mem _ (List.mem_cons_self ..))]), h.sums c (List.mem_cons_self ..), h.sums d (List.mem_cons_of_mem _ (List.mem_cons_self ..))]
      have l1 := mixR_line (x := c.1) (y := d.1) (E := e) hcd
      have := rat_mul_zero (a := mixR ((e - c.1) / (d.1 - c.1)) c.1 d.1 - e) (b := d.1 - c.1) (by grind) (sub_ne hcd)
      grind
theorem partsV_last {m : Nat} : ∀ {c : Corner} {r : List Corner}, PathT m (c :: r) → partsV (c :: r) (lastC (c :: r)).1 = (lastC (c :: r)).2
  | c, [], h => rfl
  | c, d :: r, h => by
    rw [lastC_cons, partsV_skip (last_ge h.tail)]
    exact partsV_last h.tail
/-! ### the purse at which a part reaches a level -/
def reach1 : List Corner → Nat → Rat → Option Rat
  | c :: d :: r, k, L => if L < d.2.getD k 0 then some (mixR ((L - c.2.getD k 0) / (d.2.getD k 0 - c.2.getD k 0)) c.1 d.1) else reach1 (d :: r) k L
  | _, _, _ => none
theorem reach1_form {m : Nat} {k : Nat} {L e : Rat} (hk : k < m) : ∀ {c : Corner} {r : List Corner}, PathM m (c :: r) → c.2.getD k 0 ≤ L → reach1 (c :: r) k L = some e →
    ∃ (i : Nat) (a b : Corner) (x y : Rat), (c :: r)[i]? = some a ∧ (c :: r)[i + 1]? = some b ∧ a.2[k]? = some x ∧ b.2[k]? = some y ∧ x ≤ L ∧ L < y ∧ e = mixR ((L - x) / (y - x)) a.1 b.1 ∧ a.1 ≤ e ∧ e < b.1 ∧ (e - a.1) / (b.1 - a.1) = (L - x) / (y - x) ∧ partsV (c :: r) e = List.zipWith (mixR ((L - x) / (y - x))) a.2 b.2
  | c, [], _, _, h => by simp [reach1] at h
  | c, d :: r, h, hc, hr => by
    have hcd := (List.pairwise_cons.mp h.t.rise).1 d (List.mem_cons_self ..)
    have lc : k < c.2.length := by rw [h.t.len c (List.mem_cons_self ..)]; exact hk
    have ld : k < d.2.length := by rw [h.t.len d (List.mem_cons_of_mem _ (List.mem_cons_self ..))]; exact hk
    have gc : c.2[k]? = some (c.2.getD k 0) := by rw [List.getD_eq_getElem?_getD, List.getElem?_eq_getElem lc]; rfl
    have gd : d.2[k]? = some (d.2.getD k 0) := by rw [List.getD_eq_getElem?_getD, List.getElem?_eq_getElem ld]; rfl
    rw [reach1] at hr
    by_cases hL : L < d.2.getD k 0
    · rw [if_pos hL] at hr
      cases hr
      generalize c.2.getD k 0 = x at *
      generalize d.2.getD k 0 = y at *
      have hxy : x < y := by grind
      have l1 := mixR_line (x := c.1) (y := d.1) (E := L) hxy
      have hp : 0 < y - x := by grind
      have hq : 0 < d.1 - c.1 := by grind
      have h1 : 0 ≤ (L - x) * (d.1 - c.1) := Rat.mul_nonneg (by grind) (by grind)
      have h2 : 0 < (y - L) * (d.1 - c.1) := Rat.mul_pos (by grind) hq
      have ge1 : c.1 ≤ mixR ((L - x) / (y - x)) c.1 d.1 := Rat.le_of_mul_le_mul_left (c := y - x) (by grind) hp
      have lt1 : mixR ((L - x) / (y - x)) c.1 d.1 < d.1 := by
        refine Rat.not_le.mp fun hle => ?_
        have h3 : 0 ≤ (mixR ((L - x) / (y - x)) c.1 d.1 - d.1) * (y - x) := Rat.mul_nonneg (by grind) (by grind)
        grind
      have et : (mixR ((L - x) / (y - x)) c.1 d.1 - c.1) / (d.1 - c.1) = (L - x) / (y - x) := by
        unfold mixR
        generalize (L - x) / (y - x) = t
        have hi := Rat.mul_inv_cancel _ (sub_ne hcd)
        rw [Rat.div_def]
        generalize (d.1 - c.1)⁻¹ = j at *
        grind
      refine ⟨0, c, d, x, y, rfl, rfl, gc, gd, hc, hL, rfl, ge1, lt1, et, ?_⟩
      rw [partsV, if_pos lt1]
      unfold betw
      rw [et]
    · rw [if_neg hL] at hr
      obtain ⟨i, a, b, x, y, h1, h2, h3, h4, h5, h6, h7, h8, h9, h10, h11⟩ := reach1_form hk h.tail (Rat.not_lt.mp hL) hr
      refine ⟨i + 1, a, b, x, y, by simpa using h1, by simpa using h2, h3, h4, h5, h6, h7, h8, h9, h10, ?_⟩
      have hda : d.1 ≤ a.1 := by
        cases i with
        | zero => cases h1; exact Rat.le_refl
        | succ i => exact Rat.le_of_lt ((List.pairwise_cons.mp h.t.tail.rise).1 a (List.mem_of_getElem? (by simpa using h1)))
      rw [partsV_skip (Rat.le_trans hda h8)]
      exact h11
theorem reach1_none {m : Nat} {k : Nat} {L : Rat} (hk : k < m) : ∀ {c : Corner} {r : List Corner}, PathM m (c :: r) → c.2.getD k 0 ≤ L → reach1 (c :: r) k L = none → (lastC (c :: r)).2.getD k 0 ≤ L
  | c, [], _, hc, h => hc
  | c, d :: r, h, hc, hr => by
    rw [reach1] at hr
    by_cases hL : L < d.2.getD k 0
    · rw [if_pos hL] at hr; cases hr
    · rw [if_neg hL] at hr
      rw [lastC_cons]
      exact reach1_none hk h.tail (Rat.not_lt.mp hL) hr
/-- as the program finds it -/
theorem reach1_at {m : Nat} {k : Nat} {L : Rat} (hk : k < m) : ∀ {c : Corner} {r : List Corner} {i : Nat} {a b : Corner}, PathM m (c :: r) → (c :: r)[i]? = some a → (c :: r)[i + 1]? = some b → a.2.getD k 0 ≤ L → L < b.2.getD k 0 →
    reach1 (c :: r) k L = some (mixR ((L - a.2.getD k 0) / (b.2.getD k 0 - a.2.getD k 0)) a.1 b.1)
  | c, [], i, a, b, _, _, hb, _, _ => by simp at hb
  | c, d :: r, 0, a, b, _, ha, hb, _, hL => by
    cases ha; cases hb
    rw [reach1, if_pos hL]
  | c, d :: r, i + 1, a, b, h, ha, hb, hLa, hL => by
    have ha' : (d :: r)[i]? = some a := by simpa using ha
    have hda : d.2.getD k 0 ≤ a.2.getD k 0 := by
      cases i with
      | zero => cases ha'; exact Rat.le_refl
      | succ i =>
        have hm := (List.pairwise_cons.mp h.tail.mono).1 a (List.mem_of_getElem? (by simpa using ha'))
        have ld : k < d.2.length := by rw [h.t.len d (List.mem_cons_of_mem _ (List.mem_cons_self ..))]; exact hk
        have la : k < a.2.length := by rw [h.t.len a (List.mem_of_getElem? ha)]; exact hk
        exact hm k _ _ (by rw [List.getD_eq_getElem?_getD, List.getElem?_eq_getElem ld]; rfl) (by rw [List.getD_eq_getElem?_getD, List.getElem?_eq_getElem la]; rfl)
    rw [reach1, if_neg (Rat.not_lt.mpr (Rat.le_trans hda hLa))]
    exact reach1_at hk h.tail ha' (by simpa using hb) hLa hL
theorem reach1_end {m : Nat} {k : Nat} {L : Rat} (hk : k < m) : ∀ {c : Corner} {r : List Corner}, PathM m (c :: r) → (∀ l, (c :: r).getLast? = some l → l.2.getD k 0 ≤ L) → reach1 (c :: r) k L = none
  | c, [], _, _ => rfl
  | c, d :: r, h, hl => by
    have hd : d.2.getD k 0 ≤ L := by
      obtain ⟨l, hl1⟩ : ∃ l, (c :: d :: r).getLast? = some l := ⟨_, List.getLast?_eq_some_getLast (by simp)⟩
      have hle := hl l hl1
      rw [List.getLast?_cons_cons] at hl1
      cases r with
      | nil => cases hl1; exact hle
      | cons f r =>
        rw [List.getLast?_cons_cons] at hl1
        have hm := (List.pairwise_cons.mp h.tail.mono).1 l (List.mem_of_getLast? hl1)
        have ld : k < d.2.length := by rw [h.t.len d (List.mem_cons_of_mem _ (List.mem_cons_self ..))]; exact hk
        have la : k < l.2.length := by rw [h.t.len l (List.mem_cons_of_mem _ (List.mem_cons_of_mem _ (List.mem_of_getLast? hl1)))]; exact hk
        exact Rat.le_trans (hm k _ _ (by rw [List.getD_eq_getElem?_getD, List.getElem?_eq_getElem ld]; rfl) (by rw [List.getD_eq_getElem?_getD, List.getElem?_eq_getElem la]; rfl)) hle
    rw [reach1, if_neg (Rat.not_lt.mpr hd)]
    exact reach1_end hk h.tail fun l hl' => hl l (by rw [List.getLast?_cons_cons]; exact hl')
end S

namespace S
open PySem PySem.Spec PyProof.Rows L2
theorem partsV_corner {m : Nat} {a : Corner} : ∀ {c : Corner} {r : List Corner}, PathT m (c :: r) → a ∈ c :: r → partsV (c :: r) a.1 = a.2
  | c, [], _, ha => by
    rcases List.mem_cons.mp ha with rfl | h
    · rfl
    · simp at h
  | c, d :: r, h, ha => by
    rcases List.mem_cons.mp ha with rfl | h'
    · exact partsV_head h
    · have : d.1 ≤ a.1 := by
        rcases List.mem_cons.mp h' with rfl | h2
        · exact Rat.le_refl
        · exact Rat.le_of_lt ((List.pairwise_cons.mp h.tail.rise).1 a h2)
      rw [partsV_skip this]
      exact partsV_corner h.tail h'
theorem mem_last {m : Nat} : ∀ {c : Corner} {r : List Corner}, PathT m (c :: r) → lastC (c :: r) ∈ c :: r ∧ ∀ x ∈ c :: r, x.1 ≤ (lastC (c :: r)).1
  | c, [], _ => ⟨List.mem_cons_self .., fun x hx => by
      rcases List.mem_cons.mp hx with rfl | h
      · exact Rat.le_refl
      · simp at h⟩
  | c, d :: r, h => by
    have ih := mem_last h.tail
    rw [lastC_cons]
    refine ⟨List.mem_cons_of_mem _ ih.1, fun x hx => ?_⟩
    rcases List.mem_cons.mp hx with rfl | h'
    · exact Rat.le_trans (Rat.le_of_lt ((List.pairwise_cons.mp h.rise).1 d (List.mem_cons_self ..))) (ih.2 d (List.mem_cons_self ..))
    · exact ih.2 x h'
theorem first_le {m : Nat} {c : Corner} {r : List Corner} (h : PathT m (c :: r)) : ∀ x ∈ c :: r, c.1 ≤ x.1 := fun x hx => by
  rcases List.mem_cons.mp hx with rfl | h'
  · exact Rat.le_refl
  · exact Rat.le_of_lt ((List.pairwise_cons.mp h.rise).1 x h')
theorem next_gap {a : List Corner} (h : Rising a) {i : Nat} {x y z : Corner} (hx : a[i]? = some x) (hy : a[i + 1]? = some y) (hz : z ∈ a) : ¬ (x.1 < z.1 ∧ z.1 < y.1) :=
  merge_gap (M := pursesV a) (purses_rise h) (j := i) (by unfold pursesV; rw [List.getElem?_map, hx]; rfl) (by unfold pursesV; rw [List.getElem?_map, hy]; rfl) (by unfold pursesV; exact List.mem_map.mpr ⟨z, hz, rfl⟩)
/-! ### lists that lie on a line -/
def linV (x y z : List Rat) (a b : Rat) : Prop := ∀ (i : Nat) (p q r : Rat), x[i]? = some p → y[i]? = some q → z[i]? = some r → (r - p) * b = (q - p) * a
theorem linV_cons {x y z : List Rat} {p q r a b : Rat} : linV (p :: x) (q :: y) (r :: z) a b ↔ (r - p) * b = (q - p) * a ∧ linV x y z a b := by
  constructor
  · intro h
    exact ⟨h 0 p q r rfl rfl rfl, fun i p' q' r' h1 h2 h3 => h (i + 1) p' q' r' (by simpa using h1) (by simpa using h2) (by simpa using h3)⟩
  · rintro ⟨h0, h⟩ i p' q' r' h1 h2 h3
    cases i with
    | zero => cases h1; cases h2; cases h3; exact h0
    | succ i => exact h i p' q' r' (by simpa using h1) (by simpa using h2) (by simpa using h3)
theorem linV_app {a b : Rat} {x' y' z' : List Rat} : ∀ {x y z : List Rat}, x.length = y.length → x.length = z.length → (linV (x ++ x') (y ++ y') (z ++ z') a b ↔ linV x y z a b ∧ linV x' y' z' a b)
  | [], [], [], _, _ => by
    simp only [List.nil_append]
    exact ⟨fun h => ⟨fun i p q r h1 => by simp at h1, h⟩, fun h => h.2⟩
  | p :: x, q :: y, r :: z, h1, h2 => by
    rw [List.cons_append, List.cons_append, List.cons_append, linV_cons, linV_cons, linV_app (by simpa using h1) (by simpa using h2), and_assoc]
  | [], _ :: _, _, h, _ => by simp at h
  | _ :: _, [], _, h, _ => by simp at h
  | [], [], _ :: _, _, h => by simp at h
  | _ :: _, _ :: _, [], _, h => by simp at h
theorem linV_sum {a b : Rat} : ∀ {x y z : List Rat}, x.length = y.length → x.length = z.length → linV x y z a b → (sumQ z - sumQ x) * b = (sumQ y - sumQ x) * a
  | [], [], [], _, _, _ => by simp only [sumQ]; grind
  | p :: x, q :: y, r :: z, h1, h2, h => by
    rw [linV_cons] at h
    have := linV_sum (by simpa using h1) (by simpa using h2) h.2
    have h0 := h.1
    simp only [sumQ]
    grind
  | [], _ :: _, _, h, _, _ => by simp at h
  | _ :: _, [], _, h, _, _ => by simp at h
  | [], [], _ :: _, _, h, _ => by simp at h
  | _ :: _, _ :: _, [], _, h, _ => by simp at h
theorem LeV_cons {x y : List Rat} {p q : Rat} : LeV (p :: x) (q :: y) ↔ p ≤ q ∧ LeV x y := by
  constructor
  · intro h
    exact ⟨h 0 p q rfl rfl, fun i p' q' h1 h2 => h (i + 1) p' q' (by simpa using h1) (by simpa using h2)⟩
  · rintro ⟨h0, h⟩ i p' q' h1 h2
    cases i with
    | zero => cases h1; cases h2; exact h0
    | succ i => exact h i p' q' (by simpa using h1) (by simpa using h2)
theorem LeV_app {x' y' : List Rat} : ∀ {x y : List Rat}, x.length = y.length → LeV x y → LeV x' y' → LeV (x ++ x') (y ++ y')
  | [], [], _, _, h => h
  | p :: x, q :: y, hl, h, h' => by
    rw [LeV_cons] at h
    rw [List.cons_append, List.cons_append, LeV_cons]
    exact ⟨h.1, LeV_app (by simpa using hl) h.2 h'⟩
  | [], _ :: _, h, _, _ => by simp at h
  | _ :: _, [], h, _, _ => by simp at h
/-! ### several paths at once -/
def flatQ (Qs : List (List Corner)) (ps : List Rat) : List Rat := (List.zipWith partsV Qs ps).flatten
theorem flatQ_cons (Q : List Corner) (Qs : List (List Corner)) (p : Rat) (ps : List Rat) : flatQ (Q :: Qs) (p :: ps) = partsV Q p ++ flatQ Qs ps := by
  unfold flatQ; rw [List.zipWith_cons_cons, List.flatten_cons]
def Wid (Q : List Corner) : Prop := ∃ (m : Nat) (c : Corner) (r : List Corner), Q = c :: r ∧ ∀ x ∈ c :: r, x.2.length = m
theorem Wid.len {Q : List Corner} (h : Wid Q) (p q : Rat) : (partsV Q p).length = (partsV Q q).length := by
  obtain ⟨m, c, r, rfl, h⟩ := h
  rw [partsV_len h, partsV_len h]
theorem lin_flat {a b : Rat} : ∀ {Qs : List (List Corner)} {pu pv pE : List Rat}, pu.length = Qs.length → pv.length = Qs.length → pE.length = Qs.length → (∀ Q ∈ Qs, Wid Q) →
    (linV (flatQ Qs pu) (flatQ Qs pv) (flatQ Qs pE) a b ↔ ∀ (k : Nat) (Q : List Corner) (p q r : Rat), Qs[k]? = some Q → pu[k]? = some p → pv[k]? = some q → pE[k]? = some r → linV (partsV Q p) (partsV Q q) (partsV Q r) a b)
  | [], [], [], [], _, _, _, _ => ⟨fun _ k Q p q r h => by simp at h, fun _ i p q r h => by simp [flatQ] at h⟩
  | Q :: Qs, p :: pu, q :: pv, r :: pE, h1, h2, h3, hw => by
    have w := hw Q (List.mem_cons_self ..)
    rw [flatQ_cons, flatQ_cons, flatQ_cons, linV_app (w.len _ _) (w.len _ _), lin_flat (by simpa using h1) (by simpa using h2) (by simpa using h3) fun Q hQ => hw Q (List.mem_cons_of_mem _ hQ)]
    constructor
    · rintro ⟨h, h'⟩ k Q' p' q' r' a1 a2 a3 a4
      cases k with
      | zero => cases a1; cases a2; cases a3; cases a4; exact h
      | succ k => exact h' k Q' p' q' r' (by simpa using a1) (by simpa using a2) (by simpa using a3) (by simpa using a4)
    · intro h
      exact ⟨h 0 Q p q r rfl rfl rfl rfl, fun k Q' p' q' r' a1 a2 a3 a4 => h (k + 1) Q' p' q' r' (by simpa using a1) (by simpa using a2) (by simpa using a3) (by simpa using a4)⟩
  | [], _ :: _, _, _, h, _, _, _ => by simp at h
  | [], [], _ :: _, _, _, h, _, _ => by simp at h
  | [], [], [], _ :: _, _, _, h, _ => by simp at h
  | _ :: _, [], _, _, h, _, _, _ => by simp at h
  | _ :: _, _ :: _, [], _, _, h, _, _ => by simp at h
  | _ :: _, _ :: _, _ :: _, [], _, _, h, _ => by simp at h
theorem le_flat : ∀ {Qs : List (List Corner)} {pu pv : List Rat}, pu.length = Qs.length → pv.length = Qs.length → (∀ Q ∈ Qs, Wid Q) →
    (∀ (k : Nat) (Q : List Corner) (p q : Rat), Qs[k]? = some Q → pu[k]? = some p → pv[k]? = some q → LeV (partsV Q p) (partsV Q q)) → LeV (flatQ Qs pu) (flatQ Qs pv)
  | [], [], [], _, _, _, _ => fun i p q h => by simp [flatQ] at h
  | Q :: Qs, p :: pu, q :: pv, h1, h2, hw, h => by
    rw [flatQ_cons, flatQ_cons]
    exact LeV_app ((hw Q (List.mem_cons_self ..)).len _ _) (h 0 Q p q rfl rfl rfl) (le_flat (by simpa using h1) (by simpa using h2) (fun Q hQ => hw Q (List.mem_cons_of_mem _ hQ)) fun k Q' p' q' a1 a2 a3 => h (k + 1) Q' p' q' (by simpa using a1) (by simpa using a2) (by simpa using a3))
  | [], _ :: _, _, h, _, _, _ => by simp at h
  | [], [], _ :: _, _, h, _, _ => by simp at h
  | _ :: _, [], _, h, _, _, _ => by simp at h
  | _ :: _, _ :: _, [], _, h, _, _ => by simp at h
theorem sum_flat : ∀ {Qs : List (List Corner)} {ps : List Rat}, ps.length = Qs.length → (∀ (k : Nat) (Q : List Corner) (p : Rat), Qs[k]? = some Q → ps[k]? = some p → sumQ (partsV Q p) = p) → sumQ (flatQ Qs ps) = sumQ ps
  | [], [], _, _ => rfl
  | Q :: Qs, p :: ps, h, g => by
    rw [flatQ_cons, sumQ_append, g 0 Q p rfl rfl, sumQ, sum_flat (by simpa using h) fun k Q' p' a1 a2 => g (k + 1) Q' p' (by simpa using a1) (by simpa using a2)]
  | [], _ :: _, h, _ => by simp at h
  | _ :: _, [], h, _ => by simp at h
theorem len_flat : ∀ {Qs : List (List Corner)} {pu pv : List Rat}, pu.length = Qs.length → pv.length = Qs.length → (∀ Q ∈ Qs, Wid Q) → (flatQ Qs pu).length = (flatQ Qs pv).length
  | [], [], [], _, _, _ => rfl
  | Q :: Qs, p :: pu, q :: pv, h1, h2, hw => by
    rw [flatQ_cons, flatQ_cons, List.length_append, List.length_append, (hw Q (List.mem_cons_self ..)).len p q, len_flat (by simpa using h1) (by simpa using h2) fun Q hQ => hw Q (List.mem_cons_of_mem _ hQ)]
  | [], _ :: _, _, h, _, _ => by simp at h
  | [], [], _ :: _, _, h, _ => by simp at h
  | _ :: _, [], _, h, _, _ => by simp at h
  | _ :: _, _ :: _, [], _, h, _ => by simp at h
theorem mem_flat {x : Rat} : ∀ {Qs : List (List Corner)} {ps : List Rat}, x ∈ flatQ Qs ps → ∃ (k : Nat) (Q : List Corner) (p : Rat), Qs[k]? = some Q ∧ ps[k]? = some p ∧ x ∈ partsV Q p
  | [], ps, h => by simp [flatQ] at h
  | Q :: Qs, [], h => by simp [flatQ] at h
  | Q :: Qs, p :: ps, h => by
    rw [flatQ_cons, List.mem_append] at h
    rcases h with h | h
    · exact ⟨0, Q, p, rfl, rfl, h⟩
    · obtain ⟨k, Q', p', a, b, c⟩ := mem_flat h
      exact ⟨k + 1, Q', p', by simpa using a, by simpa using b, c⟩
/-! ### a corner is a bend -/
theorem bend {m : Nat} {c : Corner} {r : List Corner} (h : PathM m (c :: r)) {u v w : Rat} {y : Corner} (hy : y ∈ c :: r) (ev : y.1 = v) (huv : u < v) (hvw : v < w) (hc : c.1 ≤ u) (hw : w ≤ (lastC (c :: r)).1)
    (n1 : ∀ x ∈ c :: r, ¬ (u < x.1 ∧ x.1 < v)) (n2 : ∀ x ∈ c :: r, ¬ (v < x.1 ∧ x.1 < w)) (hl : linV (partsV (c :: r) u) (partsV (c :: r) w) (partsV (c :: r) v) (v - u) (w - u)) : False := by
  obtain ⟨j, hj, ej⟩ := List.getElem_of_mem hy
  have gy : (c :: r)[j]? = some y := by rw [List.getElem?_eq_getElem hj, ej]
  have hj1 : j ≠ 0 := fun z => by
    subst z
    cases gy
    rw [← ev] at huv
    exact Rat.not_lt.mpr hc huv
  obtain ⟨i, rfl⟩ : ∃ i, j = i + 1 := ⟨j - 1, by omega⟩
  have hR := h.t.rise
  unfold Rising at hR
  rw [List.pairwise_iff_getElem] at hR
  have hj2 : i + 2 < (c :: r).length := by
    refine Nat.lt_of_not_le fun hle => ?_
    have e1 : lastC (c :: r) = y := by
      unfold lastC
      rw [List.getLast?_eq_getElem?, show (c :: r).length - 1 = i + 1 by omega, gy]
      rfl
    rw [e1, ev] at hw
    exact Rat.not_lt.mpr hw hvw
  have gx : (c :: r)[i]? = some (c :: r)[i] := List.getElem?_eq_getElem (by omega)
  have gz : (c :: r)[i + 2]? = some (c :: r)[i + 2] := List.getElem?_eq_getElem hj2
  have xy := hR i (i + 1) (by omega) hj (by omega)
  have yz := hR (i + 1) (i + 2) hj hj2 (by omega)
  rw [ej] at xy yz
  generalize (c :: r)[i] = x at *
  generalize (c :: r)[i + 2] = z at *
  have mx := List.mem_of_getElem? gx
  have mz := List.mem_of_getElem? gz
  rw [ev] at xy yz
  have hxu : x.1 ≤ u := Rat.not_lt.mp fun hlt => n1 x mx ⟨hlt, xy⟩
  have hwz : w ≤ z.1 := Rat.not_lt.mp fun hlt => n2 z mz ⟨yz, hlt⟩
  have px := partsV_corner h.t mx
  have py := partsV_corner h.t hy
  have pz := partsV_corner h.t mz
  rw [ev] at py
  have hcx := first_le h.t x mx
  have no1 : ∀ s ∈ r, ¬ (x.1 < s.1 ∧ s.1 < v) := fun s hs => by
    have := next_gap h.t.rise gx gy (List.mem_cons_of_mem c hs)
    rw [ev] at this
    exact this
  have no2 : ∀ s ∈ r, ¬ (v < s.1 ∧ s.1 < z.1) := fun s hs => by
    have := next_gap h.t.rise gy gz (List.mem_cons_of_mem c hs)
    rw [ev] at this
    exact this
  refine h.t.thin i x y z gx gy gz fun k a b d ha hb hd => ?_
  have lk : k < m := by rw [← h.t.len x mx]; exact (List.getElem?_eq_some_iff.mp ha).1
  have g : ∀ e, ∃ q, (partsV (c :: r) e)[k]? = some q := fun e => ⟨_, List.getElem?_eq_getElem (by rw [partsV_len h.t.len]; exact lk)⟩
  obtain ⟨pu, hpu⟩ := g u
  obtain ⟨pw, hpw⟩ := g w
  have l1 := partsV_lin hxu (Rat.le_of_lt huv) xy h.t hcx no1 k a b pu (by rw [px]; exact ha) (by rw [py]; exact hb) hpu
  have l2 := partsV_lin (Rat.le_of_lt hvw) hwz yz h.t (Rat.le_trans hc (Rat.le_of_lt huv)) no2 k b d pw (by rw [py]; exact hb) (by rw [pz]; exact hd) hpw
  have l3 := hl k pu pw b hpu hpw (by rw [py]; exact hb)
  rw [ev]
  have nuv := sub_ne huv
  have nvw := sub_ne hvw
  have nuw : w - u ≠ 0 := sub_ne (rat_lt_trans huv hvw)
  -- all by one slope
  have e1 : ((b - a) * (v - u) - (b - pu) * (v - x.1)) * 1 = 0 := by grind
  have e2 : (pw - b) * (v - u) = (b - pu) * (w - v) := by grind
  have e3 : ((d - b) * (w - v) - (pw - b) * (z.1 - v)) = 0 := by grind
  have e4 : ((d - b) * (v - u) - (b - pu) * (z.1 - v)) * (w - v) = 0 := by grind
  have e5 := rat_mul_zero e4 nvw
  have e6 : ((b - a) * (z.1 - x.1) - (d - a) * (v - x.1)) * (v - u) = 0 := by grind
  have := rat_mul_zero e6 nuv
  grind
end S

namespace S
open PySem PySem.Spec PyProof.Rows L2
def reachV (P : List Corner) (k : Nat) (Q : List Corner) : List Rat := (pursesV Q).filterMap (reach1 P k)
def wpF (P : List Corner) : Nat → List (List Corner) → List Rat → List Rat
  | _, [], M => M
  | k, Q :: Qs, M => wpF P (k + 1) Qs (mergeV M (reachV P k Q))
theorem wpF_snoc (P Q : List Corner) : ∀ (Qs : List (List Corner)) (k : Nat) (M : List Rat), wpF P k (Qs ++ [Q]) M = mergeV (wpF P k Qs M) (reachV P (k + Qs.length) Q)
  | [], k, M => by rw [List.nil_append, wpF, wpF, wpF]; rfl
  | Q' :: Qs, k, M => by rw [List.cons_append, wpF, wpF, wpF_snoc P Q Qs (k + 1), List.length_cons]; congr 2; omega
theorem mem_wpF {P : List Corner} {e : Rat} : ∀ {Qs : List (List Corner)} {k : Nat} {M : List Rat}, e ∈ wpF P k Qs M ↔ e ∈ M ∨ ∃ (j : Nat) (Q : List Corner), Qs[j]? = some Q ∧ e ∈ reachV P (k + j) Q
  | [], k, M => by
    rw [wpF]
    exact ⟨.inl, fun h => h.elim id fun ⟨j, Q, h, _⟩ => by simp at h⟩
  | Q :: Qs, k, M => by
    rw [wpF, mem_wpF, mem_merge]
    constructor
    · rintro ((h | h) | ⟨j, Q', h1, h2⟩)
      · exact .inl h
      · exact .inr ⟨0, Q, rfl, h⟩
      · exact .inr ⟨j + 1, Q', by simpa using h1, by rw [show k + (j + 1) = k + 1 + j by omega]; exact h2⟩
    · rintro (h | ⟨j, Q', h1, h2⟩)
      · exact .inl (.inl h)
      · cases j with
        | zero => cases h1; exact .inl (.inr h2)
        | succ j => exact .inr ⟨j, Q', by simpa using h1, by rw [show k + 1 + j = k + (j + 1) by omega]; exact h2⟩
theorem rise_wpF {P : List Corner} : ∀ {Qs : List (List Corner)} {k : Nat} {M : List Rat}, RiseQ M → (∀ (j : Nat) (Q : List Corner), Qs[j]? = some Q → RiseQ (reachV P (k + j) Q)) → RiseQ (wpF P k Qs M)
  | [], _, _, h, _ => by rw [wpF]; exact h
  | Q :: Qs, k, M, h, g => by
    rw [wpF]
    exact rise_wpF (rise_merge h (g 0 Q rfl)) fun j Q' hj => by rw [show k + 1 + j = k + (j + 1) by omega]; exact g (j + 1) Q' (by simpa using hj)
theorem len_wpF {P : List Corner} {b : Nat} : ∀ {Qs : List (List Corner)} {k : Nat} {M : List Rat}, (∀ Q ∈ Qs, Q.length ≤ b) → (wpF P k Qs M).length ≤ M.length + b * Qs.length
  | [], k, M, _ => by rw [wpF]; simp
  | Q :: Qs, k, M, h => by
    rw [wpF]
    have h1 := len_wpF (P := P) (k := k + 1) (M := mergeV M (reachV P k Q)) fun Q' hQ => h Q' (List.mem_cons_of_mem _ hQ)
    have h2 := merge_len M (reachV P k Q)
    have h3 : (reachV P k Q).length ≤ b := by
      unfold reachV
      have := List.length_filterMap_le (reach1 P k) (pursesV Q)
      have hq := h Q (List.mem_cons_self ..)
      unfold pursesV at this ⊢
      rw [List.length_map] at this
      omega
    rw [List.length_cons, Nat.mul_succ]
    omega
structure Nest (P : List Corner) (Qs : List (List Corner)) : Prop where
  pm : PathM Qs.length P
  p0 : ∃ r, P = (0, List.replicate Qs.length 0) :: r
  q : ∀ (k : Nat) (Q : List Corner), Qs[k]? = some Q → ∃ (m : Nat) (r : List Corner), Q = ((0 : Rat), List.replicate m 0) :: r ∧ PathM m Q ∧ (lastC P).2[k]? = some (lastC Q).1
section
variable {P : List Corner} {Qs : List (List Corner)}
theorem Nest.wid (h : Nest P Qs) : ∀ Q ∈ Qs, Wid Q := fun Q hQ => by
  obtain ⟨k, hk⟩ := List.mem_iff_getElem?.mp hQ
  obtain ⟨m, r, rfl, pm, _⟩ := h.q k Q hk
  exact ⟨m, _, r, rfl, pm.t.len⟩
theorem Nest.plen (h : Nest P Qs) (e : Rat) : (partsV P e).length = Qs.length := by
  obtain ⟨r, rfl⟩ := h.p0
  exact partsV_len h.pm.t.len
theorem Nest.get (h : Nest P Qs) (e : Rat) {k : Nat} {Q : List Corner} (hk : Qs[k]? = some Q) : ∃ p, (partsV P e)[k]? = some p :=
  ⟨_, List.getElem?_eq_getElem (by rw [h.plen]; exact (List.getElem?_eq_some_iff.mp hk).1)⟩
theorem Nest.mono (h : Nest P Qs) {u v : Rat} (h0 : 0 ≤ u) (huv : u ≤ v) : LeV (partsV P u) (partsV P v) := by
  obtain ⟨r, rfl⟩ := h.p0
  exact partsV_mono huv h.pm h0
theorem Nest.range (h : Nest P Qs) {e p : Rat} {k : Nat} {Q : List Corner} (h0 : 0 ≤ e) (hl : e ≤ (lastC P).1) (hk : Qs[k]? = some Q) (hp : (partsV P e)[k]? = some p) : 0 ≤ p ∧ p ≤ (lastC Q).1 := by
  obtain ⟨m, rq, eQ, pq, hq⟩ := h.q k Q hk
  have m1 := h.mono Rat.le_refl h0
  have m2 := h.mono h0 hl
  obtain ⟨r, eP⟩ := h.p0
  subst eP
  have e0 : partsV ((0, List.replicate Qs.length 0) :: r) 0 = List.replicate Qs.length 0 := partsV_head h.pm.t
  rw [e0] at m1
  rw [partsV_last h.pm.t] at m2
  refine ⟨m1 k 0 p ?_ hp, m2 k p _ hp hq⟩
  rw [List.getElem?_replicate, if_pos (List.getElem?_eq_some_iff.mp hk).1]
/-- where a part reaches a level -/
theorem Nest.reach (h : Nest P Qs) {k : Nat} {Q : List Corner} {L e : Rat} (hk : Qs[k]? = some Q) (hL : 0 ≤ L) (hr : reach1 P k L = some e) :
    (0 ≤ e ∧ e < (lastC P).1) ∧ (partsV P e)[k]? = some L ∧ ∀ e' q, e < e' → (partsV P e')[k]? = some q → L < q := by
  have hkn : k < Qs.length := (List.getElem?_eq_some_iff.mp hk).1
  obtain ⟨r, eP⟩ := h.p0
  have pm := h.pm
  have mon := fun (u v : Rat) (a : 0 ≤ u) (b : u ≤ v) => h.mono a b
  have plen := h.plen
  rw [eP] at hr pm mon plen ⊢
  obtain ⟨i, a, b, x, y, g1, g2, g3, g4, hxL, hLy, ee, hae, heb, et, ep⟩ := reach1_form hkn pm (by
    rw [List.getD_eq_getElem?_getD, List.getElem?_replicate, if_pos hkn]; exact hL) hr
  have ma := List.mem_of_getElem? g1
  have mb := List.mem_of_getElem? g2
  have ha0 : (0 : Rat) ≤ a.1 := first_le pm.t a ma
  have hbl := (mem_last pm.t).2 b mb
  have hxy : x < y := by grind
  have eL : mixR ((L - x) / (y - x)) x y = L := by
    have l := mixR_line (x := x) (y := y) (E := L) hxy
    have := rat_mul_zero (a := mixR ((L - x) / (y - x)) x y - L) (b := y - x) (by grind) (sub_ne hxy)
    grind
  have pe : (partsV ((0, List.replicate Qs.length 0) :: r) e)[k]? = some L := by
    rw [ep, List.getElem?_zipWith, g3, g4]
    show some (mixR _ x y) = _
    rw [eL]
  refine ⟨⟨Rat.le_trans ha0 hae, by grind⟩, pe, fun e' q he' hq => ?_⟩
  have hab : a.1 < b.1 := by grind
  have no : ∀ s ∈ r, ¬ (a.1 < s.1 ∧ s.1 < b.1) := fun s hs => next_gap pm.t.rise g1 g2 (List.mem_cons_of_mem _ hs)
  have key : ∀ e2 q2, e < e2 → e2 ≤ b.1 → (partsV ((0, List.replicate Qs.length 0) :: r) e2)[k]? = some q2 → L < q2 := by
    intro e2 q2 h1 h2 h3
    have l1 := partsV_lin (Rat.le_of_lt (by grind : a.1 < e2)) h2 hab pm.t ha0 no k x y q2 (by rw [partsV_corner pm.t ma]; exact g3) (by rw [partsV_corner pm.t mb]; exact g4) h3
    have l2 := partsV_lin hae (Rat.le_of_lt heb) hab pm.t ha0 no k x y L (by rw [partsV_corner pm.t ma]; exact g3) (by rw [partsV_corner pm.t mb]; exact g4) pe
    refine Rat.not_le.mp fun hle => ?_
    have p1 : 0 < (y - x) * (e2 - e) := Rat.mul_pos (by grind) (by grind)
    have p2 : 0 ≤ (L - q2) * (b.1 - a.1) := Rat.mul_nonneg (by grind) (by grind)
    grind
  by_cases hb : e' ≤ b.1
  · exact key e' q he' hb hq
  · have h1 := key b.1 y heb Rat.le_refl (by rw [partsV_corner pm.t mb]; exact g4)
    have h2 := mon b.1 e' (by grind) (by grind) k y q (by rw [partsV_corner pm.t mb]; exact g4) hq
    grind
theorem Nest.reach_none (h : Nest P Qs) {k : Nat} {Q : List Corner} {L : Rat} (hk : Qs[k]? = some Q) (hL : 0 ≤ L) (hr : reach1 P k L = none) : (lastC Q).1 ≤ L := by
  have hkn : k < Qs.length := (List.getElem?_eq_some_iff.mp hk).1
  obtain ⟨m, rq, eQ, pq, hq⟩ := h.q k Q hk
  obtain ⟨r, eP⟩ := h.p0
  have pm := h.pm
  rw [eP] at hr pm hq
  have := reach1_none hkn pm (by rw [List.getD_eq_getElem?_getD, List.getElem?_replicate, if_pos hkn]; exact hL) hr
  rw [List.getD_eq_getElem?_getD, hq] at this
  exact this
theorem Nest.qpos (h : Nest P Qs) {k : Nat} {Q : List Corner} (hk : Qs[k]? = some Q) : ∀ c ∈ Q, 0 ≤ c.1 ∧ c.1 ≤ (lastC Q).1 := fun c hc => by
  obtain ⟨m, rq, eQ, pq, hq⟩ := h.q k Q hk
  subst eQ
  exact ⟨first_le pq.t c hc, (mem_last pq.t).2 c hc⟩
def wpV (P : List Corner) (Qs : List (List Corner)) : List Rat := wpF P 0 Qs (pursesV P)
def withinV (P : List Corner) (Qs : List (List Corner)) : List Corner := (wpV P Qs).map fun e => (e, flatQ Qs (partsV P e))
theorem Nest.rise (h : Nest P Qs) : RiseQ (wpV P Qs) := by
  refine rise_wpF (purses_rise h.pm.t.rise) fun k Q hk => ?_
  rw [Nat.zero_add]
  obtain ⟨m, rq, eQ, pq, hq⟩ := h.q k Q hk
  have hr := purses_rise pq.t.rise
  unfold RiseQ reachV
  rw [List.pairwise_filterMap]
  unfold RiseQ at hr
  refine hr.imp_of_mem fun {L L'} hL hL' hlt e he e' he' => ?_
  obtain ⟨c, hc, rfl⟩ := List.mem_map.mp hL
  obtain ⟨c', hc', rfl⟩ := List.mem_map.mp hL'
  have r1 := h.reach hk (h.qpos hk c hc).1 he
  have r2 := h.reach hk (h.qpos hk c' hc').1 he'
  refine Rat.not_le.mp fun hle => ?_
  have := h.mono r2.1.1 hle k _ _ r2.2.1 r1.2.1
  grind
theorem Nest.mem (h : Nest P Qs) {e : Rat} : e ∈ wpV P Qs ↔ (∃ c ∈ P, c.1 = e) ∨ ∃ (k : Nat) (Q : List Corner), Qs[k]? = some Q ∧ ∃ c ∈ Q, reach1 P k c.1 = some e := by
  unfold wpV
  rw [mem_wpF]
  constructor
  · rintro (h1 | ⟨j, Q, h1, h2⟩)
    · obtain ⟨c, hc, rfl⟩ := List.mem_map.mp h1
      exact .inl ⟨c, hc, rfl⟩
    · rw [Nat.zero_add] at h2
      unfold reachV at h2
      obtain ⟨L, hL, hr⟩ := List.mem_filterMap.mp h2
      obtain ⟨c, hc, rfl⟩ := List.mem_map.mp hL
      exact .inr ⟨j, Q, h1, c, hc, hr⟩
  · rintro (⟨c, hc, rfl⟩ | ⟨k, Q, h1, c, hc, hr⟩)
    · exact .inl (List.mem_map.mpr ⟨c, hc, rfl⟩)
    · refine .inr ⟨k, Q, h1, ?_⟩
      rw [Nat.zero_add]
      exact List.mem_filterMap.mpr ⟨c.1, List.mem_map.mpr ⟨c, hc, rfl⟩, hr⟩
theorem Nest.in_range (h : Nest P Qs) {e : Rat} (he : e ∈ wpV P Qs) : 0 ≤ e ∧ e ≤ (lastC P).1 := by
  rcases h.mem.mp he with ⟨c, hc, rfl⟩ | ⟨k, Q, hk, c, hc, hr⟩
  · have pm := h.pm
    obtain ⟨r, eP⟩ := h.p0
    subst eP
    exact ⟨first_le pm.t c hc, (mem_last pm.t).2 c hc⟩
  · have := (h.reach hk (h.qpos hk c hc).1 hr).1
    exact ⟨this.1, Rat.le_of_lt this.2⟩
/-- no level between two neighbours -/
theorem Nest.no_level (h : Nest P Qs) {j k : Nat} {u v p q : Rat} {Q : List Corner} (hu : (wpV P Qs)[j]? = some u) (hv : (wpV P Qs)[j + 1]? = some v) (hk : Qs[k]? = some Q) (hp : (partsV P u)[k]? = some p) (hq : (partsV P v)[k]? = some q) :
    ∀ x ∈ Q, ¬ (p < x.1 ∧ x.1 < q) := by
  rintro x hx ⟨h1, h2⟩
  have ru := h.in_range (List.mem_of_getElem? hu)
  have rv := h.in_range (List.mem_of_getElem? hv)
  have hx0 := (h.qpos hk x hx).1
  cases hr : reach1 P k x.1 with
  | none =>
    have := h.reach_none hk hx0 hr
    have := (h.range rv.1 rv.2 hk hq).2
    grind
  | some e =>
    have re := h.reach hk hx0 hr
    have me : e ∈ wpV P Qs := h.mem.mpr (.inr ⟨k, Q, hk, x, hx, hr⟩)
    refine merge_gap h.rise hu hv me ⟨Rat.not_le.mp fun hle => ?_, Rat.not_le.mp fun hle => ?_⟩
    · have := h.mono re.1.1 hle k _ _ re.2.1 hp
      grind
    · have := h.mono rv.1 hle k _ _ hq re.2.1
      grind
theorem rise_at {M : List Rat} (hM : RiseQ M) {j : Nat} {u v : Rat} (hu : M[j]? = some u) (hv : M[j + 1]? = some v) : u < v := by
  obtain ⟨lu, eu⟩ := List.getElem?_eq_some_iff.mp hu
  obtain ⟨lv, ev⟩ := List.getElem?_eq_some_iff.mp hv
  have := List.pairwise_iff_getElem.mp hM j (j + 1) lu lv (by omega)
  rw [eu, ev] at this
  exact this
theorem Nest.pgap (h : Nest P Qs) {j : Nat} {u v : Rat} (hu : (wpV P Qs)[j]? = some u) (hv : (wpV P Qs)[j + 1]? = some v) : ∀ x ∈ P, ¬ (u < x.1 ∧ x.1 < v) := fun x hx =>
  merge_gap h.rise hu hv (h.mem.mpr (.inl ⟨x, hx, rfl⟩))
/-- between two neighbours all goes straight -/
theorem Nest.line (h : Nest P Qs) {j : Nat} {u v E : Rat} (hu : (wpV P Qs)[j]? = some u) (hv : (wpV P Qs)[j + 1]? = some v) (huE : u ≤ E) (hEv : E ≤ v) :
    linV (flatQ Qs (partsV P u)) (flatQ Qs (partsV P v)) (flatQ Qs (partsV P E)) (E - u) (v - u) := by
  have huv := rise_at h.rise hu hv
  have ru := h.in_range (List.mem_of_getElem? hu)
  have rv := h.in_range (List.mem_of_getElem? hv)
  rw [lin_flat (h.plen u) (h.plen v) (h.plen E) h.wid]
  intro k Q p q r hk hp hq hr
  have lP : (r - p) * (v - u) = (q - p) * (E - u) := by
    have gap := h.pgap hu hv
    obtain ⟨rP, eP⟩ := h.p0
    have pm := h.pm
    rw [eP] at hp hq hr pm gap
    exact partsV_lin huE hEv huv pm.t ru.1 (fun x hx => gap x (List.mem_cons_of_mem _ hx)) k p q r hp hq hr
  have hpr := h.mono ru.1 huE k p r hp hr
  have hrq := h.mono (Rat.le_trans ru.1 huE) hEv k r q hr hq
  have lev := h.no_level hu hv hk hp hq
  have rp := h.range ru.1 ru.2 hk hp
  obtain ⟨m, rq, eQ, pq, _⟩ := h.q k Q hk
  subst eQ
  intro i x y z hx hy hz
  by_cases hpq : p = q
  · have : r = p := by grind
    subst this
    subst hpq
    rw [hx] at hy hz
    cases hy; cases hz
    grind
  · have hlt : p < q := by grind
    have lQ := partsV_lin hpr hrq hlt pq.t rp.1 (fun s hs => lev s (List.mem_cons_of_mem _ hs)) i x y z hx hy hz
    have k0 : ((z - x) * (v - u) - (y - x) * (E - u)) * (q - p) = 0 := by grind
    have := rat_mul_zero k0 (sub_ne hlt)
    grind
theorem Nest.qsum (h : Nest P Qs) {e : Rat} (h0 : 0 ≤ e) (hl : e ≤ (lastC P).1) {k : Nat} {Q : List Corner} {p : Rat} (hk : Qs[k]? = some Q) (hp : (partsV P e)[k]? = some p) : sumQ (partsV Q p) = p := by
  have rp := h.range h0 hl hk hp
  obtain ⟨m, rq, eQ, pq, _⟩ := h.q k Q hk
  subst eQ
  exact partsV_sum pq rp.1 rp.2
theorem Nest.sum (h : Nest P Qs) {e : Rat} (h0 : 0 ≤ e) (hl : e ≤ (lastC P).1) : sumQ (flatQ Qs (partsV P e)) = e := by
  rw [sum_flat (h.plen e) fun k Q p hk hp => h.qsum h0 hl hk hp]
  have pm := h.pm
  obtain ⟨r, eP⟩ := h.p0
  rw [eP] at pm hl ⊢
  exact partsV_sum pm h0 hl
theorem Nest.rises (h : Nest P Qs) {u v : Rat} (h0 : 0 ≤ u) (huv : u ≤ v) (hl : v ≤ (lastC P).1) : LeV (flatQ Qs (partsV P u)) (flatQ Qs (partsV P v)) := by
  refine le_flat (h.plen u) (h.plen v) h.wid fun k Q p q hk hp hq => ?_
  have hpq := h.mono h0 huv k p q hp hq
  have rp := h.range h0 (Rat.le_trans huv hl) hk hp
  obtain ⟨m, rq, eQ, pq, _⟩ := h.q k Q hk
  subst eQ
  exact partsV_mono hpq pq rp.1
/-- none of them lies on a line -/
theorem Nest.thin (h : Nest P Qs) {j : Nat} {u v w : Rat} (hu : (wpV P Qs)[j]? = some u) (hv : (wpV P Qs)[j + 1]? = some v) (hw : (wpV P Qs)[j + 2]? = some w)
    (hl : linV (flatQ Qs (partsV P u)) (flatQ Qs (partsV P w)) (flatQ Qs (partsV P v)) (v - u) (w - u)) : False := by
  have huv := rise_at h.rise hu hv
  have hvw := rise_at h.rise hv hw
  have ru := h.in_range (List.mem_of_getElem? hu)
  have rv := h.in_range (List.mem_of_getElem? hv)
  have rw' := h.in_range (List.mem_of_getElem? hw)
  rw [lin_flat (h.plen u) (h.plen w) (h.plen v) h.wid] at hl
  have each : ∀ (k : Nat) (Q : List Corner) (p q r : Rat), Qs[k]? = some Q → (partsV P u)[k]? = some p → (partsV P w)[k]? = some q → (partsV P v)[k]? = some r → (r - p) * (w - u) = (q - p) * (v - u) := by
    intro k Q p q r hk hp hq hr
    have wd := h.wid Q (List.mem_of_getElem? hk)
    have := linV_sum (wd.len _ _) (wd.len _ _) (hl k Q p q r hk hp hq hr)
    rw [h.qsum ru.1 ru.2 hk hp, h.qsum rw'.1 rw'.2 hk hq, h.qsum rv.1 rv.2 hk hr] at this
    exact this
  rcases h.mem.mp (List.mem_of_getElem? hv) with ⟨y, hy, ey⟩ | ⟨k, Q, hk, y, hy, hr⟩
  · have g1 := h.pgap hu hv
    have g2 := h.pgap hv hw
    have pl := fun e => h.plen e
    have lin : linV (partsV P u) (partsV P w) (partsV P v) (v - u) (w - u) := fun k p q r hp hq hr => by
      have lk : k < Qs.length := by rw [← h.plen u]; exact (List.getElem?_eq_some_iff.mp hp).1
      exact each k _ p q r (List.getElem?_eq_getElem lk) hp hq hr
    obtain ⟨r, eP⟩ := h.p0
    have pm := h.pm
    rw [eP] at g1 g2 lin pm hy rw'
    exact bend pm hy ey huv hvw ru.1 rw'.2 g1 g2 lin
  · have re := h.reach hk (h.qpos hk y hy).1 hr
    obtain ⟨p, hp⟩ := h.get u hk
    obtain ⟨q, hq⟩ := h.get w hk
    have e1 := each k Q p q y.1 hk hp hq re.2.1
    have hq1 := re.2.2 w q hvw hq
    have hp1 := h.mono ru.1 (Rat.le_of_lt huv) k p y.1 hp re.2.1
    have hp2 : p < y.1 := by
      refine Rat.not_le.mp fun hle => ?_
      have e : p = y.1 := Rat.le_antisymm hp1 hle
      have p1 : 0 < (q - p) * (v - u) := Rat.mul_pos (by grind) (by grind)
      grind
    have lv1 := h.no_level hu hv hk hp re.2.1
    have lv2 := h.no_level hv hw hk re.2.1 hq
    have lin := hl k Q p q y.1 hk hp hq re.2.1
    have rp := h.range ru.1 ru.2 hk hp
    have rq := h.range rw'.1 rw'.2 hk hq
    obtain ⟨m, r, eQ, pq, _⟩ := h.q k Q hk
    subst eQ
    refine bend pq hy rfl hp2 hq1 rp.1 rq.2 lv1 lv2 fun i a b c ha hb hc => ?_
    have l0 := lin i a b c ha hb hc
    have k0 : ((c - a) * (q - p) - (b - a) * (y.1 - p)) * (w - u) = 0 := by grind
    have := rat_mul_zero k0 (sub_ne (rat_lt_trans huv hvw))
    grind
end
end S

namespace S
open PySem PySem.Spec PyProof.Rows PyProof L2
section
variable {X : Cx}
/-! ### sorted(list of ints) -/
def rSorted (K : PySem.W.Frag) : List V → Hp → VK → Prop := fun xs H Q => ∃ (p : Addr) (ns : List Int), xs = [.ref p] ∧ SqL K H p (ns.map V.int) ∧ ns.length < 64 ∧ ∀ (ns' : List Int) (l : Addr), ns'.Perm ns → ns'.Pairwise (· ≤ ·) → H l = none → Q (.ref l) (upd H l (.lst (ns'.map V.int)))
theorem call_sortedA : CallR X (.builtin "sorted") (rSorted X.K) := by
  intro pins s σ H xs us Q I r h
  obtain ⟨p, ns, rfl, hq, h64, q⟩ := h
  obtain ⟨u, rfl, rx⟩ := vals1 r
  cases rx
  obtain ⟨its, rv, pl, hz⟩ := I.list hq
  have hi := intsAre_of rv
  have hl := rv.length
  rw [List.length_map] at hl
  refine sorted_ints (vs := its) pl.isList hi (by omega) fun out ns' a1 a2 a3 => ?_
  have ⟨e, he⟩ := sortedAll_at s.heap its out
  have hn' := a2.length_eq
  refine ⟨.ref (s.heap.objs.size + 1), _, I.laid (t' := s.toks) (fun _ _ => sortedAll_old) (Nat.le_succ _) (show ObjOk X.prog X.w _ _ _ (.lst (ns'.map V.int)) from ⟨?_, out.toList, e, vals_ints a1, ?_⟩), rfl, q ns' _ a2 a3 (I.hok.fresh (Nat.le_succ _))⟩
  · rw [List.length_map] at hz ⊢; omega
  · exact he
/-! ### all(list of bools) -/
theorem boolsAre_of : ∀ {bs : List Bool} {us : List Value}, Vals (bs.map V.bl) us → LSm.BoolsAre us bs
  | [], us, r => by rw [List.map_nil] at r; cases r; exact .nil
  | b :: bs, us, r => by
    rw [List.map_cons] at r
    cases r with
    | cons r1 r2 =>
      cases r1
      exact .cons b (boolsAre_of r2)
def rAll (K : PySem.W.Frag) : List V → Hp → VK → Prop := fun xs H Q => ∃ (p : Addr) (bs : List Bool), xs = [.ref p] ∧ SqL K H p (bs.map V.bl) ∧ Q (.bl (bs.all id)) H
theorem call_allA (hc : X.calm = true) : CallR X (.builtin "all") (rAll X.K) := by
  intro pins s σ H xs us Q I r h
  obtain ⟨p, bs, rfl, hq, q⟩ := h
  obtain ⟨u, rfl, rx⟩ := vals1 r
  cases rx
  obtain ⟨its, rv, pl, hz⟩ := I.list hq
  have hB := boolsAre_of rv
  have hL := pl.isList
  have below : p ≠ s.heap.objs.size := let ⟨_, e, _⟩ := hL; Nat.ne_of_lt (Heap.lt_size e)
  have at0 : (s.heap.push { cls := .type "list_iterator", data := .fields #[.ref p, .int 0 0] }).IsListIter s.heap.objs.size p 0 := ⟨_, Heap.get?_push_size _ rfl, rfl, rfl⟩
  refine call_all_walk (wpAny_pyIter_list hL ⟨s.heap.objs.size, [s.heap.objs.size, p], [s.heap.objs.size], its.toArray.size, _, _, fun i => bs[i]?.getD true, rfl, Walks.list (A := X.A.in1) (I.ok.hd hc) _ p below.symm.symm its.toArray, ⟨at0, hL.push _⟩, ?_, ?_⟩)
  · intro j x s2 Q2 E2 hx hQ2
    have ⟨b, hb, ex⟩ := hB.get j x (by simpa using hx)
    rw [ex]
    have hQ3 : Q2 (bs[j]?.getD true) s2 := hQ2
    rw [hb] at hQ3
    exact wpAny_truthy_bool hQ3
  · intro h2 tk keep
    have sum : (List.range its.toArray.size).all (fun i => bs[i]?.getD true) = bs.all id := by
      rw [show its.toArray.size = bs.length from hB.length]
      exact LSm.range_all bs
    rw [sum]
    exact ⟨.bl (bs.all id), H, I.kept (t' := tk) (LSm.kept_iter keep), rfl, q⟩
/-! ### xs.extend(tuple) -/
theorem list_extend_tup (l : Addr) (items : Array Value) (n : Nat) (b : Addr) (o2 : Obj) (items2 : Array Value) (n2 : Nat) (hc2 : o2.cls = .type "tuple") (hd2 : o2.data = .seq items2 n2) (hs0 : ¬(!items.isEmpty && Builtin.List.listTooLong (items.size + items2.size)) = true) (hs1 : items.size ≤ sizeLine) (hs2 : items.size + items2.size ≤ sizeLine + 1) :
    Meets (Builtin.«list.extend» ⟨[.ref l, .ref b], []⟩) (fun _ R s => s.heap.get? l = some { cls := .type "list", dict := none, data := .seq items n, slots := #[] } ∧ s.heap.get? b = some o2 ∧ R (.ok (.ret Value.none)) { s with heap := s.heap.update l (Obj.mapSeq fun x => x ++ items2), toks := s.toks }) :=
  .of_wp fun prog w A R s h => by
    obtain ⟨cls, dict, data, slots⟩ := o2
    dsimp only at hc2 hd2
    subst hc2
    subst hd2
    have g1 := AutoSeq1.idx_int
    have g2 := AutoSeq1.sub_tuple_tuple
    have g3 := AutoSeq1.sub_list_list
    have g4 := AutoSeq1.sub_tuple_list
    have g5 := AutoSeq1.sub_list_tuple
    obtain ⟨hp, g, d, tk, os⟩ := s
    obtain ⟨hA, hT, hR⟩ := h
    have fits : (items ++ items2).size ≤ sizeLine + 1 := by simpa using hs2
    wp_walk using (wpAny_updateSeq hA rfl (hz := hs1) (_hz' := fits)), AutoSeq1.wpAny_loadPart' hA, AutoSeq1.wpAny_loadPart' hT
    exact ⟨_, rfl, hR⟩
def rExtendT (K : PySem.W.Frag) : V → List V → Hp → VK → Prop := fun x vs H Q => ∃ l b xs zs, x = .ref l ∧ vs = [.ref b] ∧ H l = some (.lst xs) ∧ H b = some (.tup zs) ∧ xs.length + zs.length ≤ sizeLine ∧ Q .non (upd H l (.lst (xs ++ zs)))
theorem mt_extendT : MtM X "list.extend" (rExtendT X.K) := by
  intro pins s σ H x vs v us Q I rx rv h
  obtain ⟨l, b, xs, zs, rfl, rfl, hH, hB, hz, q⟩ := h
  cases rx
  have ⟨u, eu, ru⟩ := rv.one
  subst eu
  cases ru
  have ⟨z, its, n, r, hl, e⟩ := I.lstM hH
  have ⟨its2, r2, ht, hz2⟩ := I.tuple (SqT.of hB)
  have hl2 := r2.length
  have ⟨o2, e2, hc2, n2, hd2⟩ := ht
  have room : its.toArray.size + its2.toArray.size ≤ sizeLine := by
    rw [List.size_toArray, List.size_toArray, ← hl, ← hl2]
    exact hz
  have ok : ¬ (!its.toArray.isEmpty && Builtin.List.listTooLong (its.toArray.size + its2.toArray.size)) = true := by
    rw [notLongL room, Bool.and_false]
    decide
  refine call_meets F.slot_list_extend ⟨_, e, rfl⟩ F.entry_list_extend (F.args_list_extend_2 _ _) (list_extend_tup l its.toArray n b o2 its2.toArray n2 hc2 hd2 ok (by rw [List.size_toArray, ← hl]; exact z) (by omega)) ⟨e, e2, .non, _, I.lset (its' := its ++ its2) hH e (by simp) (r.append r2) ?_, rfl, q⟩
  simpa using hz
/-! ### a, b, c = a list -/
theorem draw_lst {prog : Program} {w : World} {A : Around} {E : Value → Shared → Prop} {it t : Addr} {items : Array Value} (ne : t ≠ it) : ∀ (n i : Nat) (s : Shared) (Q : List Value → Shared → Prop), s.heap.IsListIter it t i → s.heap.IsList t items → i + n ≤ items.size →
    (∀ h2, h2.IsListIter it t (i + n) → Heap.SameBut it s.heap h2 → Q ((items.toList.drop i).take n) { s with heap := h2 }) → wpAny (model prog w) A (draw (.ref it) n) Q E s
  | 0, i, s, Q, hit, _, _, k => by
    show wpAny _ _ (pure []) Q E s
    exact wpAny_pure (by simpa using k s.heap hit (Heap.SameBut.refl ..))
  | n + 1, i, s, Q, hit, hl, le, k => by
    have lt : i < items.size := by omega
    show wpAny _ _ (pyNext (.ref it) >>= _) Q E s
    refine wpAny_bind (wpAny_pyNext_list_item hit hl (x := items[i]) (by simp [lt]) fun h3 hit3 s3 => wpAny_bind (wpAny_holding (draw_lst ne n (i + 1) _ _ hit3 (hl.extBut s3.extBut ne) (by omega) fun h4 hit4 s4 => wpAny_pure ?_)))
    have res := k h4 (by rw [show i + (n + 1) = i + 1 + n by omega]; exact hit4) (s3.trans s4)
    rw [List.drop_eq_getElem_cons (by simpa using lt), List.take_succ_cons, Array.getElem_toList] at res
    exact res
theorem unpack_lst {prog : Program} {w : World} {A : Around} {E : Value → Shared → Prop} {s : Shared} {t : Addr} {items : Array Value} {targets : List (Bool × (Value → Sem Unit))} {Q : Unit → Shared → Prop} (quiet : A.handled = none) (hl : s.heap.IsList t items)
    (hn : targets.length = items.size) (none1 : targets.findIdx? (·.1) = none) (k : ∀ h2, Heap.ExtBut s.heap.objs.size s.heap h2 → wpAny (model prog w) A (assignInOrder (targets.map (·.2)) items.toList) Q E { s with heap := h2 }) :
    wpAny (model prog w) A (unpack (.ref t) targets) Q E s := by
  have ne : t ≠ s.heap.objs.size := let ⟨_, e, _⟩ := hl; Nat.ne_of_lt (Heap.lt_size e)
  unfold unpack
  rw [hn, none1]
  refine wpAny_bind (wpAny_holding ?_)
  unfold unpackItems notIterableAtAll
  refine wpAny_bind (wpAny_bind (wpAny_specialOf hl.typeIs slot_list_iter.lookup (wpAny_pure ?_)))
  rw [if_neg (by decide)]
  refine wpAny_bind (wpAny_holding (wpAny_pyIter_list hl (wpAny_bind (wpAny_holding (draw_lst ne items.size 0 _ _ ⟨_, Heap.get?_push_size _ rfl, rfl, rfl⟩ (hl.push _) (by omega) fun h3 hit3 s3 => ?_)))))
  rw [List.drop_zero, List.take_of_length_le (by simp), if_neg (by simp)]
  refine wpAny_bind (wpAny_holding (wpAny_pyNext_list_end quiet hit3 ((hl.push _).extBut s3.extBut ne) (by simp) fun h4 s4 => ?_))
  rw [Option.isSome_none, if_neg (by decide)]
  exact wpAny_pure (k h4 fun b o hb e => s4 b o hb (s3.extBut b o hb (Heap.get?_push_of_some _ e)))
def gLst (K : PySem.W.Frag) (n : Nat) (t : TGs) : TG := fun v σ H N => ∃ a xs, v = .ref a ∧ SqL K H a xs ∧ xs.length = n ∧ t xs σ H N
theorem pg_lst {es : List Expr} {k : Nat} {t : TGs} {n : Nat} {pos : Pos} (hc : X.calm = true) (h : PGs X es t) (hn : (assignEach es X.env).length = n := by rfl) (hst : (assignEach es X.env).findIdx? (·.1) = none := by rfl) : PG X (.Tuple es k pos) (gLst X.K n t) := by
  intro pins s σ H v u Q I r hw
  have ⟨a, xs, ev, hq, hl, hw2⟩ := hw
  subst ev
  cases r
  have ⟨its, rv, pl, hz⟩ := I.list hq
  have hlen := rv.length
  rw [assign_Tuple]
  refine wpAny_bind (wpAny_standAt (unpack_lst (I.ok.hd hc) pl.isList (by rw [hn, ← hl, hlen, List.size_toArray]) hst fun h2 ext => ?_))
  exact h pins _ σ H xs _ Q (I.kept (t' := s.toks) fun b o e => ext b o (Nat.ne_of_lt (Heap.lt_size e)) e) (by simpa using rv) hw2
end
theorem bt_sorted : bootBuiltins "sorted" = some (.builtin "sorted") := by decide +kernel
theorem bt_all : bootBuiltins "all" = some (.builtin "all") := by decide +kernel
structure Bl2 (mg : Str → Option Value) : Prop where
  sorted : mg "sorted" = none
  all : mg "all" = none
/-! ### readings -/
section
variable {B G0 H : Hp} {cs : Cells} {ds : Dat} {Q : VK} {v w : V} {xs zs : List PyData} {K : PySem.W.Frag} {L M : Addr}
theorem isAll_bools {G : Hp} : ∀ {ns : List Bool} {vs : List V}, IsAll G (ns.map PyData.bool) vs → vs = ns.map V.bl
  | [], vs, h => by rw [List.map_nil, IsAll] at h; exact h
  | n :: ns, vs, h => by
    rw [List.map_cons, IsAll] at h
    obtain ⟨v, r, rfl, h1, h2⟩ := h
    rw [Is] at h1
    subst h1
    rw [isAll_bools h2, List.map_cons]
theorem rd_sortedC {ns : List Int} (S : Sta B G0 H cs ds) (h : (L, ns.map PyData.int) ∈ cs) (h64 : ns.length < 64) (k : ∀ (ns' : List Int) (l : Addr) (H' : Hp), ns'.Perm ns → ns'.Pairwise (· ≤ ·) → Same H H' → Sta B G0 H' ((l, ns'.map PyData.int) :: cs) ds → Q (.ref l) H') : rSorted K [.ref L] H Q := by
  obtain ⟨vs, hp, u⟩ := S.vwC h
  obtain ⟨G, S'⟩ := id S
  rw [isAll_ints (u G S')] at hp
  refine ⟨L, ns, rfl, SqL.of hp, h64, fun ns' l hP hs hl => k ns' l _ hP hs (Same.new hl _) (S.newL hl fun G _ => isAll_of_ints ns')⟩
theorem rd_allC {bs : List Bool} (S : Sta B G0 H cs ds) (h : (L, bs.map PyData.bool) ∈ cs) (k : Q (.bl (bs.all id)) H) : rAll K [.ref L] H Q := by
  obtain ⟨vs, hp, u⟩ := S.vwC h
  obtain ⟨G, S'⟩ := id S
  rw [isAll_bools (u G S')] at hp
  exact ⟨L, bs, rfl, SqL.of hp, k⟩
theorem rd_extendT {ys : List PyData} (S : Sta B G0 H ((L, xs) :: cs) ds) (hy : Has ds (.tuple ys) w) (hz : xs.length + ys.length ≤ 1000) (k : ∀ H', Sta B G0 H' ((L, xs ++ ys) :: cs) ds → Q .non H') : rExtendT K (.ref L) [w] H Q := by
  have ⟨p, us, e, hp, hl, S2, al⟩ := S.tupAll hy
  have ⟨vs, hL, hl2, put⟩ := S2.put
  subst e
  refine ⟨L, p, vs, us, rfl, rfl, hL, hp, ?_, k _ ((put (xs ++ ys) (vs ++ us) fun G a b => b.app (al G a)).weak (List.Sublist.refl _) fun q hq => .mem (List.mem_append_right _ hq))⟩
  rw [← hl, ← hl2]
  exact Nat.le_trans hz (Nat.le_of_ble_eq_true rfl)
def kGL (K : PySem.W.Frag) (n : Nat) (t : TGs) (σ : L2.St) (N : L2.St → Hp → Prop) : VK := fun v H => ∃ a xs, v = .ref a ∧ SqL K H a xs ∧ xs.length = n ∧ t xs σ H N
theorem rd_gLst {n : Nat} {t : TGs} {σ : L2.St} {N : L2.St → Hp → Prop} (h : kGL K n t σ N v H) : gLst K n t v σ H N := h
theorem rd_kGL3 {t : TGs} {σ : L2.St} {N : L2.St → Hp → Prop} {x y z : PyData} (S : Sta B G0 H cs ds) (h : (L, [x, y, z]) ∈ cs) (k : ∀ w1 w2 w3, Sta B G0 H cs ((x, w1) :: (y, w2) :: (z, w3) :: ds) → t [w1, w2, w3] σ H N) : kGL K 3 t σ N (.ref L) H := by
  have ⟨vs, hL, hl, S2, _⟩ := S.cellAll h
  match vs, hl with
  | [w1, w2, w3], _ => exact ⟨L, [w1, w2, w3], rfl, SqL.of hL, rfl, k w1 w2 w3 S2⟩
end
end S

namespace S
open PySem PySem.Spec PyProof.Rows L2
theorem find_at {E : Rat} : ∀ {M : List Rat} {z : Rat}, M[0]? = some z → z ≤ E → ∃ (i : Nat) (q : Rat), M[i]? = some q ∧ q ≤ E ∧ (i + 1 = M.length ∨ ∃ r, M[i + 1]? = some r ∧ E < r)
  | [], z, h, _ => by simp at h
  | [a], z, h, hz => by
    cases h
    exact ⟨0, a, rfl, hz, .inl rfl⟩
  | a :: b :: M, z, h, hz => by
    cases h
    by_cases hb : b ≤ E
    · obtain ⟨i, q, h1, h2, h3⟩ := find_at (M := b :: M) (z := b) rfl hb
      refine ⟨i + 1, q, by simpa using h1, h2, ?_⟩
      rcases h3 with h3 | ⟨r, h3, h4⟩
      · left; simp only [List.length_cons] at h3 ⊢; omega
      · right; exact ⟨r, by simpa using h3, h4⟩
    · exact ⟨0, a, rfl, hz, .inr ⟨b, rfl, Rat.not_le.mp hb⟩⟩
theorem rise_first {M : List Rat} (h : RiseQ M) {z : Rat} (hz : z ∈ M) (hle : ∀ e ∈ M, z ≤ e) : M[0]? = some z := by
  cases M with
  | nil => simp at hz
  | cons a M =>
    have h1 := hle a (List.mem_cons_self ..)
    rcases List.mem_cons.mp hz with e | e
    · rw [e]; rfl
    · have := (List.pairwise_cons.mp h).1 z e
      grind
theorem rise_last {M : List Rat} (h : RiseQ M) {z : Rat} (hz : z ∈ M) (hle : ∀ e ∈ M, e ≤ z) {i : Nat} {q : Rat} (hq : M[i]? = some q) (hi : i + 1 = M.length) : q = z := by
  obtain ⟨j, hj, ej⟩ := List.getElem_of_mem hz
  obtain ⟨li, ei⟩ := List.getElem?_eq_some_iff.mp hq
  have h1 := hle q (List.mem_of_getElem? hq)
  by_cases c : j = i
  · subst c; rw [← ei, ← ej]
  · have := List.pairwise_iff_getElem.mp h j i hj li (by omega)
    rw [ej, ei] at this
    grind
theorem betw_of_lin {c d : Corner} {E : Rat} {w : List Rat} (hlt : c.1 < d.1) (l1 : c.2.length = d.2.length) (l2 : c.2.length = w.length) (h : linV c.2 d.2 w (E - c.1) (d.1 - c.1)) : betw c d E = w := by
  apply List.ext_getElem?
  intro i
  by_cases hi : i < c.2.length
  · have e1 := List.getElem?_eq_getElem hi
    have e2 := List.getElem?_eq_getElem (l := d.2) (i := i) (by omega)
    have e3 := List.getElem?_eq_getElem (l := w) (i := i) (by omega)
    have := h i _ _ _ e1 e2 e3
    unfold betw
    rw [List.getElem?_zipWith, e1, e2, e3]
    show some (mixR _ _ _) = _
    have l := mixR_line (x := c.2[i]) (y := d.2[i]) (E := E) hlt
    have k := rat_mul_zero (a := mixR ((E - c.1) / (d.1 - c.1)) c.2[i] d.2[i] - w[i]) (b := d.1 - c.1) (by grind) (sub_ne hlt)
    have : mixR ((E - c.1) / (d.1 - c.1)) c.2[i] d.2[i] = w[i] := by grind
    rw [this]
  · unfold betw
    rw [List.getElem?_eq_none (by rw [List.length_zipWith]; omega), List.getElem?_eq_none (by omega)]
def headLen : List Corner → Nat
  | [] => 0
  | c :: _ => c.2.length
def nQ : List (List Corner) → Nat
  | [] => 0
  | Q :: Qs => headLen Q + nQ Qs
theorem flat_zero : ∀ {Qs : List (List Corner)}, (∀ Q ∈ Qs, ∃ (m : Nat) (r : List Corner), Q = ((0 : Rat), List.replicate m 0) :: r ∧ PathM m Q) → flatQ Qs (List.replicate Qs.length 0) = List.replicate (nQ Qs) 0
  | [], _ => rfl
  | Q :: Qs, h => by
    obtain ⟨m, r, e, pm⟩ := h Q (List.mem_cons_self ..)
    rw [List.length_cons, List.replicate_succ, flatQ_cons, flat_zero fun Q' hQ => h Q' (List.mem_cons_of_mem _ hQ), nQ, ← List.replicate_append_replicate]
    congr 1
    subst e
    have := partsV_head pm.t
    dsimp only at this
    rw [this, headLen, List.length_replicate]
structure PathR0 (n : Nat) (a : List Corner) : Prop where
  ne : a ≠ []
  sz : ∀ c ∈ a, SzC n c
  len : ∀ c ∈ a, c.2.length ≤ 1000
  few : a.length ≤ 900
  rise : Rising a
structure IsP (n N : Nat) (F : List Corner) : Prop where
  pr : PathR0 n F
  len : ∀ c ∈ F, c.2.length = N
  head : F[0]? = some (0, List.replicate N 0)
  le : ∀ (i : Nat) (c d : Corner), F[i]? = some c → F[i + 1]? = some d → LeV c.2 d.2
  sums : ∀ c ∈ F, sumQ c.2 = c.1
  str : ∀ (i : Nat) (x y z : Corner), F[i]? = some x → F[i + 1]? = some y → F[i + 2]? = some z → ¬ straight x y z
section
variable {P : List Corner} {Qs : List (List Corner)}
theorem Nest.zeroM (h : Nest P Qs) : (wpV P Qs)[0]? = some 0 := by
  refine rise_first h.rise (h.mem.mpr (.inl ?_)) fun e he => (h.in_range he).1
  obtain ⟨r, eP⟩ := h.p0
  rw [eP]
  exact ⟨_, List.mem_cons_self .., rfl⟩
theorem Nest.last_mem (h : Nest P Qs) : (lastC P).1 ∈ wpV P Qs := by
  refine h.mem.mpr (.inl ⟨lastC P, ?_, rfl⟩)
  have pm := h.pm
  obtain ⟨r, eP⟩ := h.p0
  rw [eP] at pm ⊢
  exact (mem_last pm.t).1
theorem Nest.last0 (h : Nest P Qs) : 0 ≤ (lastC P).1 := (h.in_range h.last_mem).1
theorem Nest.flen (h : Nest P Qs) (e : Rat) : (flatQ Qs (partsV P e)).length = nQ Qs := by
  rw [len_flat (h.plen e) (pv := List.replicate Qs.length 0) List.length_replicate h.wid, flat_zero fun Q hQ => ?_, List.length_replicate]
  obtain ⟨k, hk⟩ := List.mem_iff_getElem?.mp hQ
  obtain ⟨m, r, e, pm, _⟩ := h.q k Q hk
  exact ⟨m, r, e, pm⟩
theorem Nest.flat0 (h : Nest P Qs) : flatQ Qs (partsV P 0) = List.replicate (nQ Qs) 0 := by
  have e0 : partsV P 0 = List.replicate Qs.length 0 := by
    have pm := h.pm
    obtain ⟨r, eP⟩ := h.p0
    rw [eP] at pm ⊢
    exact partsV_head pm.t
  rw [e0, flat_zero fun Q hQ => ?_]
  obtain ⟨k, hk⟩ := List.mem_iff_getElem?.mp hQ
  obtain ⟨m, r, e, pm, _⟩ := h.q k Q hk
  exact ⟨m, r, e, pm⟩
theorem Nest.F_at {i : Nat} {c : Corner} (hc : (withinV P Qs)[i]? = some c) : (wpV P Qs)[i]? = some c.1 ∧ c.2 = flatQ Qs (partsV P c.1) := by
  unfold withinV at hc
  obtain ⟨e, he, rfl⟩ := mapAt hc
  exact ⟨he, rfl⟩
theorem Nest.F_of {i : Nat} {e : Rat} (he : (wpV P Qs)[i]? = some e) : (withinV P Qs)[i]? = some (e, flatQ Qs (partsV P e)) := by
  unfold withinV; rw [List.getElem?_map, he]; rfl
theorem Nest.riseF (h : Nest P Qs) : Rising (withinV P Qs) := by
  unfold Rising withinV
  rw [List.pairwise_map]
  exact h.rise
/-- the told path has everywhere the parts of the others -/
theorem Nest.at (h : Nest P Qs) {E : Rat} (h0 : 0 ≤ E) (hl : E ≤ (lastC P).1) : partsV (withinV P Qs) E = flatQ Qs (partsV P E) := by
  obtain ⟨i, q, hq, hqE, nx⟩ := find_at h.zeroM h0
  have hlen : (withinV P Qs).length = (wpV P Qs).length := by unfold withinV; rw [List.length_map]
  have key := partsV_at (E := E) h.riseF (Nest.F_of hq) hqE (by
    rcases nx with nx | ⟨r, hr, hE⟩
    · left; rw [hlen]; exact nx
    · right; exact ⟨_, Nest.F_of hr, hE⟩)
  rw [key]
  rcases nx with nx | ⟨r, hr, hE⟩
  · rw [List.getElem?_eq_none (by rw [hlen]; omega)]
    have e1 := rise_last h.rise h.last_mem (fun e he => (h.in_range he).2) hq nx
    have : q = E := by grind
    rw [this]
  · rw [Nest.F_of hr]
    exact betw_of_lin (rise_at h.rise hq hr) (by rw [h.flen, h.flen]) (by rw [h.flen, h.flen]) (h.line hq hr hqE (Rat.le_of_lt hE))
theorem Nest.getLast (h : Nest P Qs) : (withinV P Qs).getLast? = some ((lastC P).1, flatQ Qs (partsV P (lastC P).1)) := by
  have ne : 0 < (wpV P Qs).length := List.length_pos_of_mem h.last_mem
  have hlen : (withinV P Qs).length = (wpV P Qs).length := by unfold withinV; rw [List.length_map]
  rw [List.getLast?_eq_getElem?, hlen]
  have hq := List.getElem?_eq_getElem (l := wpV P Qs) (i := (wpV P Qs).length - 1) (by omega)
  rw [Nest.F_of hq, rise_last h.rise h.last_mem (fun e he => (h.in_range he).2) hq (by omega)]
/-! ### sizes -/
theorem SzQ.mix {m n : Nat} {t x y : Rat} (ht : SzQ m t) (hx : SzQ n x) (hy : SzQ n y) : SzQ (m + 3 * n + 2) (mixR t x y) := by
  unfold mixR
  exact (hx.add (ht.mul (hy.sub hx))).mono (by omega)
theorem SzQ.port {m n : Nat} {L x y : Rat} (hL : SzQ m L) (hx : SzQ n x) (hy : SzQ n y) : SzQ (m + 3 * n + 2) ((L - x) / (y - x)) := ((hL.sub hx).div (hy.sub hx)).mono (by omega)
theorem partsV_sz {m n : Nat} {e : Rat} (he : SzQ m e) : ∀ {a : List Corner}, (∀ c ∈ a, SzC n c) → ∀ x ∈ partsV a e, SzQ (m + 6 * n + 4) x
  | [], _, x, hx => by simp [partsV] at hx
  | [c], h, x, hx => ((h c (List.mem_cons_self ..)).2 x hx).mono (by omega)
  | c :: d :: r, h, x, hx => by
    rw [partsV] at hx
    split at hx
    · obtain ⟨i, hi⟩ := List.mem_iff_getElem?.mp hx
      obtain ⟨p, q, hp, hq, rfl⟩ := betw_get hi
      have hc := h c (List.mem_cons_self ..)
      have hd := h d (List.mem_cons_of_mem _ (List.mem_cons_self ..))
      exact (SzQ.mix (SzQ.port he hc.1 hd.1) (hc.2 p (List.mem_of_getElem? hp)) (hd.2 q (List.mem_of_getElem? hq))).mono (by omega)
    · exact partsV_sz he (fun c hc => h c (List.mem_cons_of_mem _ hc)) x hx
theorem Nest.szM (h : Nest P Qs) {a b : Nat} (ha : ∀ c ∈ P, SzC a c) (hb : ∀ Q ∈ Qs, ∀ c ∈ Q, SzC b c) {e : Rat} (he : e ∈ wpV P Qs) : SzQ (b + 6 * a + 4) e ∧ ∀ p ∈ partsV P e, SzQ (b + 6 * a + 4) p := by
  rcases h.mem.mp he with ⟨c, hc, rfl⟩ | ⟨k, Q, hk, c, hc, hr⟩
  · refine ⟨(ha c hc).1.mono (by omega), fun p hp => ?_⟩
    have pm := h.pm
    obtain ⟨r, eP⟩ := h.p0
    rw [eP] at pm hp hc
    rw [partsV_corner pm.t hc] at hp
    exact ((ha c (by rw [eP]; exact hc)).2 p hp).mono (by omega)
  · have hL := (hb Q (List.mem_of_getElem? hk) c hc).1
    have h0 := (h.qpos hk c hc).1
    have pm := h.pm
    have hkn : k < Qs.length := (List.getElem?_eq_some_iff.mp hk).1
    obtain ⟨r, eP⟩ := h.p0
    rw [eP] at pm hr ha ⊢
    obtain ⟨i, c1, d1, x, y, g1, g2, g3, g4, _, _, ee, _, _, _, ep⟩ := reach1_form hkn pm (by
      rw [List.getD_eq_getElem?_getD, List.getElem?_replicate, if_pos hkn]; exact h0) hr
    have z1 := ha c1 (List.mem_of_getElem? g1)
    have z2 := ha d1 (List.mem_of_getElem? g2)
    have zt := SzQ.port hL (z1.2 x (List.mem_of_getElem? g3)) (z2.2 y (List.mem_of_getElem? g4))
    rw [ep]
    refine ⟨by rw [ee]; exact (SzQ.mix zt z1.1 z2.1).mono (by omega), fun p hp => ?_⟩
    obtain ⟨j, hj⟩ := List.mem_iff_getElem?.mp hp
    rw [List.getElem?_zipWith] at hj
    cases e1 : c1.2[j]? with
    | none => rw [e1] at hj; cases hj
    | some p1 =>
      cases e2 : d1.2[j]? with
      | none => rw [e1, e2] at hj; cases hj
      | some p2 =>
        rw [e1, e2] at hj
        cases hj
        exact (SzQ.mix zt (z1.2 p1 (List.mem_of_getElem? e1)) (z2.2 p2 (List.mem_of_getElem? e2))).mono (by omega)
theorem Nest.isP (h : Nest P Qs) {a b n : Nat} (ha : ∀ c ∈ P, SzC a c) (hb : ∀ Q ∈ Qs, ∀ c ∈ Q, SzC b c) (hn : b + 6 * a + 4 + 6 * b + 4 ≤ n) (hN : nQ Qs ≤ 1000) (few : (wpV P Qs).length ≤ 900) : IsP n (nQ Qs) (withinV P Qs) := by
  have memF : ∀ c ∈ withinV P Qs, c.1 ∈ wpV P Qs ∧ c.2 = flatQ Qs (partsV P c.1) := fun c hc => by
    obtain ⟨i, hi⟩ := List.mem_iff_getElem?.mp hc
    exact ⟨List.mem_of_getElem? (Nest.F_at hi).1, (Nest.F_at hi).2⟩
  have hlen : (withinV P Qs).length = (wpV P Qs).length := by unfold withinV; rw [List.length_map]
  refine ⟨⟨?_, fun c hc => ?_, fun c hc => ?_, by rw [hlen]; exact few, h.riseF⟩, fun c hc => ?_, ?_, fun i c d hc hd => ?_, fun c hc => ?_, fun i x y z hx hy hz st => ?_⟩
  · intro e
    have := List.length_pos_of_mem h.last_mem
    rw [← hlen, e] at this
    simp at this
  · obtain ⟨h1, h2⟩ := memF c hc
    have z := h.szM ha hb h1
    refine ⟨z.1.mono (by omega), fun x hx => ?_⟩
    rw [h2] at hx
    obtain ⟨k, Q, p, hk, hp, hxq⟩ := mem_flat hx
    exact (partsV_sz (z.2 p (List.mem_of_getElem? hp)) (hb Q (List.mem_of_getElem? hk)) x hxq).mono (by omega)
  · rw [(memF c hc).2, h.flen]; exact hN
  · rw [(memF c hc).2, h.flen]
  · rw [Nest.F_of h.zeroM, h.flat0]
  · have c1 := Nest.F_at hc
    have d1 := Nest.F_at hd
    rw [c1.2, d1.2]
    exact h.rises (h.in_range (List.mem_of_getElem? c1.1)).1 (Rat.le_of_lt (rise_at h.rise c1.1 d1.1)) (h.in_range (List.mem_of_getElem? d1.1)).2
  · obtain ⟨h1, h2⟩ := memF c hc
    rw [h2]
    exact h.sum (h.in_range h1).1 (h.in_range h1).2
  · have x1 := Nest.F_at hx
    have y1 := Nest.F_at hy
    have z1 := Nest.F_at hz
    refine h.thin x1.1 y1.1 z1.1 fun k p q r hp hq hr => ?_
    rw [← x1.2] at hp
    rw [← z1.2] at hq
    rw [← y1.2] at hr
    exact st k p r q hp hr hq
end
theorem not_straight {x y z : Corner} (h : ¬ straight x y z) (hxz : x.1 < z.1) (hl : x.2.length = z.2.length) (hm : x.2.length = y.2.length) : betw x z y.1 ≠ y.2 := fun e => by
  refine h fun i a b c ha hb hc => ?_
  rw [← e] at hb
  obtain ⟨p, q, hp, hq, eb⟩ := betw_get hb
  rw [ha] at hp; cases hp
  rw [hc] at hq; cases hq
  have l := mixR_line (x := a) (y := c) (E := y.1) hxz
  rw [← eb] at l
  grind
theorem straight_of {x y z : Corner} (e : betw x z y.1 = y.2) (hxz : x.1 < z.1) : straight x y z := fun i a b c ha hb hc => by
  rw [← e] at hb
  obtain ⟨p, q, hp, hq, eb⟩ := betw_get hb
  rw [ha] at hp; cases hp
  rw [hc] at hq; cases hq
  have l := mixR_line (x := a) (y := c) (E := y.1) hxz
  rw [← eb] at l
  grind
/-! ### sorted lists -/
theorem sorted_uniq : ∀ {a b : List Int}, a.Perm b → a.Pairwise (· ≤ ·) → b.Pairwise (· ≤ ·) → a = b
  | [], b, p, _, _ => by rw [List.nil_perm.mp p]
  | x :: a, [], p, _, _ => by have := p.length_eq; simp at this
  | x :: a, y :: b, p, ha, hb => by
    obtain ⟨h1, h2⟩ := List.pairwise_cons.mp ha
    obtain ⟨h3, h4⟩ := List.pairwise_cons.mp hb
    have e : x = y := by
      have m1 : x ∈ y :: b := p.mem_iff.mp (List.mem_cons_self ..)
      have m2 : y ∈ x :: a := p.mem_iff.mpr (List.mem_cons_self ..)
      rcases List.mem_cons.mp m1 with e | m1
      · exact e
      · rcases List.mem_cons.mp m2 with e | m2
        · exact e.symm
        · have := h3 x m1
          have := h1 y m2
          omega
    subst e
    rw [sorted_uniq (p.cons_inv) h2 h4]
end S

namespace S
open PySem PySem.Spec PyProof.Rows L2
/-! ### a row of corners without those that lie on a line -/
theorem straight_back {m : Nat} {a b p c : Corner} (hbc : b.1 < c.1) (lb : b.2.length = m) (lc : c.2.length = m) (h1 : straight b p c) (h2 : straight a b c) : straight a b p := fun i A B P hA hB hP => by
  have hi : i < m := by rw [← lb]; exact (List.getElem?_eq_some_iff.mp hB).1
  have hC := List.getElem?_eq_getElem (l := c.2) (i := i) (by omega)
  have e1 := h1 i B P _ hB hP hC
  have e2 := h2 i A B _ hA hB hC
  generalize c.2[i] = C at *
  have e3 : (B - A) * (c.1 - b.1) = (C - B) * (b.1 - a.1) := by grind
  have e4 : ((B - A) * (p.1 - a.1) - (P - A) * (b.1 - a.1)) * (c.1 - b.1) = 0 := by
    have : ((B - A) * (p.1 - a.1) - (P - A) * (b.1 - a.1)) * (c.1 - b.1) = ((B - A) * (c.1 - b.1)) * (p.1 - b.1) - ((P - B) * (c.1 - b.1)) * (b.1 - a.1) := by grind
    rw [this, e3, e1]; grind
  have := rat_mul_zero e4 (sub_ne hbc)
  grind
def Thn (F : List Corner) : Prop := ∀ (i : Nat) (x y z : Corner), F[i]? = some x → F[i + 1]? = some y → F[i + 2]? = some z → ¬ straight x y z
theorem app_two {α : Type} {F : List α} {i : Nat} {x y : α} (hx : F[i]? = some x) (hy : F[i + 1]? = some y) (hl : F.length = i + 2) : F = F.take i ++ [x, y] := by
  obtain ⟨lx, ex⟩ := List.getElem?_eq_some_iff.mp hx
  obtain ⟨ly, ey⟩ := List.getElem?_eq_some_iff.mp hy
  conv => lhs; rw [← List.take_append_drop i F]
  rw [List.drop_eq_getElem_cons lx, List.drop_eq_getElem_cons ly, List.drop_of_length_le (by omega), ex, ey]
theorem Thn.app {F : List Corner} {c : Corner} (h : Thn F) (k : ∀ G x y, F = G ++ [x, y] → ¬ straight x y c) : Thn (F ++ [c]) := by
  intro i x y z hx hy hz
  by_cases hi : i + 2 < F.length
  · rw [List.getElem?_append_left (show i < F.length by omega)] at hx
    rw [List.getElem?_append_left (show i + 1 < F.length by omega)] at hy
    rw [List.getElem?_append_left hi] at hz
    exact h i x y z hx hy hz
  · have hl : i + 2 < (F ++ [c]).length := (List.getElem?_eq_some_iff.mp hz).1
    rw [List.length_append, List.length_singleton] at hl
    have e : F.length = i + 2 := by omega
    rw [List.getElem?_append_left (show i < F.length by omega)] at hx
    rw [List.getElem?_append_left (show i + 1 < F.length by omega)] at hy
    rw [List.getElem?_append_right (by omega), e, Nat.sub_self] at hz
    cases hz
    exact k _ x y (app_two hx hy e)
theorem Thn.pre {F G : List Corner} (h : Thn (F ++ G)) : Thn F := fun i x y z hx hy hz => by
  have lx := (List.getElem?_eq_some_iff.mp hx).1
  have ly := (List.getElem?_eq_some_iff.mp hy).1
  have lz := (List.getElem?_eq_some_iff.mp hz).1
  exact h i x y z (by rw [List.getElem?_append_left lx]; exact hx) (by rw [List.getElem?_append_left ly]; exact hy) (by rw [List.getElem?_append_left lz]; exact hz)
structure ThinOf (C F : List Corner) : Prop where
  sub : F.Sublist C
  head : F[0]? = C[0]?
  last : F.getLast? = C.getLast?
  thin : Thn F
theorem ThinOf.zero : ThinOf [] [] := ⟨List.Sublist.refl _, rfl, rfl, fun i x y z hx => by simp at hx⟩
section
variable {C F G D : List Corner} {c x y : Corner} {m : Nat}
theorem ThinOf.mk2 (h : ThinOf C F) (hs : D.Sublist F) (hd : D[0]? = F[0]?) (ht : Thn (D ++ [c])) : ThinOf (C ++ [c]) (D ++ [c]) := by
  refine ⟨(hs.trans h.sub).append (List.Sublist.refl _), ?_, by simp, ht⟩
  have e := hd.trans h.head
  cases D with
  | nil =>
    cases C with
    | nil => rfl
    | cons a C => simp at e
  | cons d D =>
    cases C with
    | nil => simp at e
    | cons a C => simpa using e
theorem ThinOf.few (h : ThinOf C F) (hl : F.length ≤ 1) : ThinOf (C ++ [c]) (F ++ [c]) := h.mk2 (List.Sublist.refl _) rfl (h.thin.app fun G x y e => by rw [e] at hl; simp at hl)
theorem ThinOf.at2 (h : ThinOf C F) (e : F = G ++ [x, y]) (hr : Rising (C ++ [c])) (hm : ∀ d ∈ C ++ [c], d.2.length = m) : x.1 < y.1 ∧ y.1 < c.1 ∧ x.2.length = m ∧ y.2.length = m ∧ c.2.length = m := by
  have hs : (F ++ [c]).Sublist (C ++ [c]) := h.sub.append (List.Sublist.refl _)
  have hr2 : Rising (F ++ [c]) := List.Pairwise.sublist hs hr
  have mx : x ∈ F := by rw [e]; simp
  have my : y ∈ F := by rw [e]; simp
  have hyc := (List.pairwise_append.mp hr2).2.2 y my c (by simp)
  have hF := (List.pairwise_append.mp hr2).1
  rw [e] at hF
  have hxy := (List.pairwise_append.mp hF).2.1
  have hxy := (List.pairwise_cons.mp hxy).1 y (by simp)
  exact ⟨hxy, hyc, hm x (hs.subset (List.mem_append_left _ mx)), hm y (hs.subset (List.mem_append_left _ my)), hm c (by simp)⟩
theorem ThinOf.keep (h : ThinOf C F) (e : F = G ++ [x, y]) (hr : Rising (C ++ [c])) (hm : ∀ d ∈ C ++ [c], d.2.length = m) (hne : betw x c y.1 ≠ y.2) : ThinOf (C ++ [c]) (F ++ [c]) := by
  refine h.mk2 (List.Sublist.refl _) rfl (h.thin.app fun G' x' y' e' st => hne ?_)
  have e2 : G ++ [x, y] = G' ++ [x', y'] := e.symm.trans e'
  obtain ⟨e3, e4⟩ := List.append_inj' e2 rfl
  cases e4
  obtain ⟨h1, h2, lx, ly, lc⟩ := h.at2 e hr hm
  exact betw_of_lin (rat_lt_trans h1 h2) (by rw [lx, lc]) (by rw [lx, ly]) fun i p q r hp hq hr' => st i p r q hp hr' hq
theorem ThinOf.drop (h : ThinOf C F) (e : F = G ++ [x, y]) (hr : Rising (C ++ [c])) (hm : ∀ d ∈ C ++ [c], d.2.length = m) (hst : betw x c y.1 = y.2) : ThinOf (C ++ [c]) ((G ++ [x]) ++ [c]) := by
  have e1 : F = (G ++ [x]) ++ [y] := by rw [e]; simp
  obtain ⟨h1, h2, lx, ly, lc⟩ := h.at2 e hr hm
  have hxc := rat_lt_trans h1 h2
  have st : straight x y c := straight_of hst hxc
  have hT : Thn ((G ++ [x]) ++ [y]) := by rw [← e1]; exact h.thin
  refine h.mk2 (by rw [e1]; exact List.sublist_append_left _ _) (by rw [e1]; cases G <;> simp) (hT.pre.app fun G' w x' e' st2 => ?_)
  have e2 : G ++ [x] = (G' ++ [w]) ++ [x'] := by rw [e']; simp
  obtain ⟨e3, e4⟩ := List.append_inj' e2 rfl
  cases e4
  subst e3
  exact hT G'.length w x y (by simp) (by simp) (by simp) (straight_back (m := m) hxc lx lc st st2)
end
/-! ### corners of whole rows -/
theorem sumQ_corn (b : Int) : ∀ h : List Int, sumQ (h.map fun x => Rat.divInt x b) = Rat.divInt h.sum b
  | [] => by rw [List.map_nil, sumQ, List.sum_nil, Rat.zero_divInt]
  | x :: h => by rw [List.map_cons, sumQ, List.sum_cons, divInt_add', sumQ_corn b h]
theorem divInt_le {x y b : Int} (hb : 0 < b) (h : x ≤ y) : Rat.divInt x b ≤ Rat.divInt y b := by
  rcases Int.lt_or_eq_of_le h with h | h
  · exact Rat.le_of_lt (divInt_lt hb h)
  · rw [h]; exact Rat.le_refl
def LeI (h k : List Int) : Prop := ∀ (i : Nat) (x y : Int), h[i]? = some x → k[i]? = some y → x ≤ y
theorem LeI.trans {m : Nat} {a b c : List Int} (lb : b.length = m) (la : a.length = m) (h : LeI a b) (g : LeI b c) : LeI a c := fun i x z hx hz => by
  have hi : i < b.length := by rw [lb, ← la]; exact (List.getElem?_eq_some_iff.mp hx).1
  have hy := List.getElem?_eq_getElem hi
  exact Int.le_trans (h i x _ hx hy) (g i _ z hy hz)
theorem LeI.refl (a : List Int) : LeI a a := fun i x y hx hy => by rw [hx] at hy; cases hy; exact Int.le_refl _
theorem LeV_corn {b : Int} (hb : 0 < b) {h k : List Int} (hk : LeI h k) : LeV (cornAt b h).2 (cornAt b k).2 := fun i p q hp hq => by
  unfold cornAt at hp hq
  obtain ⟨x, hx, rfl⟩ := mapAt hp
  obtain ⟨y, hy, rfl⟩ := mapAt hq
  exact divInt_le hb (hk i x y hx hy)
theorem LeI_add {m : Nat} {h s : List Int} (lh : h.length = m) (ls : s.length = m) (h0 : ∀ x ∈ s, 0 ≤ x) : LeI h (addV h s) := fun i x y hx hy => by
  have hi : i < s.length := by rw [ls, ← lh]; exact (List.getElem?_eq_some_iff.mp hx).1
  have hs := List.getElem?_eq_getElem hi
  rw [addV_get hx hs] at hy
  cases hy
  have := h0 _ (List.mem_of_getElem? hs)
  omega
theorem corn_mono {b : Int} (hb : 0 < b) {m : Nat} : ∀ (r : List (List Int)) (h : List Int), h.length = m → (∀ s ∈ r, s.length = m ∧ ∀ x ∈ s, 0 ≤ x) →
    (∀ k ∈ cornersFrom b h r, ∃ g, k = cornAt b g ∧ g.length = m ∧ LeI h g) ∧ (cornersFrom b h r).Pairwise (fun c d => LeV c.2 d.2)
  | [], h, _, _ => ⟨fun k hk => by simp [cornersFrom] at hk, List.Pairwise.nil⟩
  | s :: r, h, lh, hr => by
    have gs := hr s (List.mem_cons_self ..)
    have la := addV_len lh gs.1
    have le := LeI_add lh gs.1 gs.2
    obtain ⟨k1, k2⟩ := corn_mono hb r (addV h s) la fun t ht => hr t (List.mem_cons_of_mem _ ht)
    rw [cornersFrom]
    refine ⟨fun k hk => ?_, List.pairwise_cons.mpr ⟨fun k hk => ?_, k2⟩⟩
    · rcases List.mem_cons.mp hk with rfl | hk
      · exact ⟨_, rfl, la, le⟩
      · obtain ⟨g, e, lg, hg⟩ := k1 k hk
        exact ⟨g, e, lg, le.trans la lh hg⟩
    · obtain ⟨g, e, lg, hg⟩ := k1 k hk
      rw [e]
      exact LeV_corn hb hg
theorem corn_zero (b : Int) (m : Nat) : cornAt b (zeroV m) = (0, List.replicate m 0) := by
  unfold cornAt
  rw [zeroV_sum, Rat.zero_divInt]
  unfold zeroV
  rw [List.map_replicate, Rat.zero_divInt]
theorem corners_pathM {b : Int} {m : Nat} {T : List (List Int)} (hb : 0 < b) (ht : PathT m (cornersV b m T)) (hT : ∀ s ∈ T, s.length = m ∧ ∀ x ∈ s, 0 ≤ x) : PathM m (cornersV b m T) := by
  obtain ⟨k1, k2⟩ := corn_mono hb T (zeroV m) (zeroV_len m) hT
  refine ⟨ht, fun c hc => ?_, ?_⟩
  · unfold cornersV at hc
    rcases List.mem_cons.mp hc with rfl | hc
    · exact sumQ_corn b _
    · obtain ⟨g, rfl, _⟩ := k1 c hc
      exact sumQ_corn b g
  · unfold cornersV
    refine List.pairwise_cons.mpr ⟨fun k hk => ?_, k2⟩
    obtain ⟨g, rfl, _, hg⟩ := k1 k hk
    exact LeV_corn hb hg
theorem corners_form {b : Int} {m : Nat} {d : Int} (hd : 0 ≤ d) : ∀ (rows : List (List Int)) (h : List Int) (c : Int), (∀ r ∈ rows, InR m d r) → h.length = m → (∀ x ∈ h, 0 ≤ x ∧ x ≤ c) →
    ∀ k ∈ cornAt b h :: cornersFrom b h rows, ∃ g, k = cornAt b g ∧ g.length = m ∧ ∀ x ∈ g, 0 ≤ x ∧ x ≤ c + rows.length * d
  | rows, h, c, hr, lh, hx, k, hk => by
    have hrd : 0 ≤ (rows.length : Int) * d := Int.mul_nonneg (Int.natCast_nonneg _) hd
    rcases List.mem_cons.mp hk with rfl | hk
    · exact ⟨h, rfl, lh, fun x hx' => by have := hx x hx'; omega⟩
    cases rows with
    | nil => simp [cornersFrom] at hk
    | cons r rows =>
      have gr := hr r (List.mem_cons_self ..)
      have e : c + ((r :: rows).length : Nat) * d = (c + d) + rows.length * d := by rw [List.length_cons]; push_cast; grind
      rw [e]
      have la := addV_len lh gr.len
      have ha : ∀ x ∈ addV h r, 0 ≤ x ∧ x ≤ c + d := by
        intro x hx'
        obtain ⟨i, hi⟩ := List.mem_iff_getElem?.mp hx'
        have hlt : i < m := by have := (List.getElem?_eq_some_iff.mp hi).1; rwa [la] at this
        rw [addV_get (List.getElem?_eq_getElem (by rw [lh]; exact hlt)) (List.getElem?_eq_getElem (by rw [gr.len]; exact hlt))] at hi
        cases hi
        have := hx _ (List.getElem_mem (show i < h.length by rw [lh]; exact hlt))
        have := gr.bnd _ (List.getElem_mem (show i < r.length by rw [gr.len]; exact hlt))
        omega
      rw [cornersFrom] at hk
      exact corners_form hd rows (addV h r) (c + d) (fun t ht => hr t (List.mem_cons_of_mem _ ht)) la ha k hk
termination_by rows => rows.length
/-! ### the others: at most four steps of at most two parts -/
structure OthOk (m : Nat) (Q : List Corner) : Prop where
  head : ∃ r, Q = ((0 : Rat), List.replicate m 0) :: r
  pm : PathM m Q
  m2 : m ≤ 2
  few : Q.length ≤ 5
  sz : ∀ c ∈ Q, SzC 84 c
  last : ∃ M : Int, 0 ≤ M ∧ M < 2 ^ 84 ∧ (lastC Q).1 = Rat.divInt M 12
theorem twelve {M b : Int} (hb : 1 ≤ b ∧ b ≤ 4) (h0 : 0 ≤ M) (h1 : M ≤ 2 ^ 80) : ∃ N : Int, 0 ≤ N ∧ N < 2 ^ 84 ∧ Rat.divInt M b = Rat.divInt N 12 := by
  have e : (2 : Int) ^ 84 = 16 * 2 ^ 80 := by decide
  have p : (0 : Int) < 2 ^ 80 := by decide
  have key : ∀ k : Int, b * k = 12 → 0 < k → k ≤ 12 → ∃ N : Int, 0 ≤ N ∧ N < 2 ^ 84 ∧ Rat.divInt M b = Rat.divInt N 12 := fun k hk k0 k1 => by
    refine ⟨M * k, Int.mul_nonneg h0 (by omega), ?_, ?_⟩
    · have : M * k ≤ 2 ^ 80 * 12 := Int.le_trans (Int.mul_le_mul_of_nonneg_right h1 (by omega)) (Int.mul_le_mul_of_nonneg_left k1 (by omega))
      omega
    · rw [← hk]
      exact (Rat.divInt_mul_right (by omega)).symm
  have : b = 1 ∨ b = 2 ∨ b = 3 ∨ b = 4 := by omega
  rcases this with rfl | rfl | rfl | rfl
  · exact key 12 rfl (by decide) (by decide)
  · exact key 6 rfl (by decide) (by decide)
  · exact key 4 rfl (by decide) (by decide)
  · exact key 3 rfl (by decide) (by decide)
theorem RowsOk.in4 {m : Nat} {rows : List (List Int)} (h : RowsOk m rows) (hl : rows.length ≤ 4) : ∀ r ∈ rows, InR m (10 ^ 21 * 27) r := fun r hr => by
  refine ⟨h.len r hr, h.pos r hr, fun x hx => ?_⟩
  obtain ⟨i, hi⟩ := List.mem_iff_getElem?.mp hr
  have := h.bnd i r hi x hx
  refine ⟨this.1, Int.le_trans this.2 ?_⟩
  have hi4 : i < 4 := by have := (List.getElem?_eq_some_iff.mp hi).1; omega
  have : i = 0 ∨ i = 1 ∨ i = 2 ∨ i = 3 := by omega
  rcases this with rfl | rfl | rfl | rfl <;> decide
theorem othOk {b : Int} {m : Nat} {rows : List (List Int)} (hb : 1 ≤ b ∧ b ≤ 4) (hm : m ≤ 2) (h : RowsOk m rows) (hl : rows.length ≤ 4) : OthOk m (cornersV b m (thinS rows)) := by
  have hin := h.in4 hl
  have tl := thinS_len rows
  have d0 : (0 : Int) ≤ 10 ^ 21 * 27 := by decide
  have hti : ∀ r ∈ thinS rows, InR m (4 * (10 ^ 21 * 27)) r := fun r hr => (thinS_in d0 hin r hr).mono (Int.mul_le_mul_of_nonneg_right (by omega) d0)
  have form := corners_form (b := b) (m := m) (d := 4 * (10 ^ 21 * 27)) (by decide) (thinS rows) (zeroV m) 0 hti (zeroV_len m) (fun x hx => by have := List.eq_of_mem_replicate hx; omega)
  have pT : PathT m (cornersV b m (thinS rows)) := corners_thin (by omega) (fun r hr => (hti r hr).good) (thinS_nopar fun r hr => (hin r hr).good)
  have pm := corners_pathM (by omega) pT fun s hs => ⟨(hti s hs).len, fun x hx => ((hti s hs).bnd x hx).1⟩
  have big : ∀ g : List Int, g.length = m → (∀ x ∈ g, 0 ≤ x ∧ x ≤ 0 + ((thinS rows).length : Int) * (4 * (10 ^ 21 * 27))) → (0 ≤ g.sum ∧ g.sum ≤ 2 ^ 80) ∧ ∀ x ∈ g, 0 ≤ x ∧ x ≤ 2 ^ 80 := fun g lg hg => by
    have b1 : ((thinS rows).length : Int) * (4 * (10 ^ 21 * 27)) ≤ 4 * (4 * (10 ^ 21 * 27)) := Int.mul_le_mul_of_nonneg_right (by omega) (by decide)
    have b2 : (2 : Int) * (4 * (4 * (10 ^ 21 * 27))) ≤ 2 ^ 80 := by decide
    have b0 : (0 : Int) ≤ 4 * (4 * (10 ^ 21 * 27)) := by decide
    have hx : ∀ x ∈ g, 0 ≤ x ∧ x ≤ 4 * (4 * (10 ^ 21 * 27)) := fun x hx => by have := hg x hx; omega
    have s := sum_le hx
    have s2 : (g.length : Int) * (4 * (4 * (10 ^ 21 * 27))) ≤ 2 * (4 * (4 * (10 ^ 21 * 27))) := Int.mul_le_mul_of_nonneg_right (by omega) b0
    exact ⟨⟨s.1, by omega⟩, fun x hx' => by have := hx x hx'; omega⟩
  have e84 : (2 : Int) ^ 84 = 16 * 2 ^ 80 := by decide
  have p80 : (0 : Int) < 2 ^ 80 := by decide
  have zb : Sz 84 b := sz_of_le (by omega) (by rw [e84]; have : (4 : Int) < 2 ^ 80 := by decide
                                               omega)
  refine ⟨?_, pm, hm, ?_, fun c hc => ?_, ?_⟩
  · obtain ⟨r, e⟩ := cornersV_head b m (thinS rows)
    rw [corn_zero] at e
    exact ⟨r, e⟩
  · unfold cornersV; rw [List.length_cons, cornersFrom_length]; omega
  · obtain ⟨g, rfl, lg, hg⟩ := form c hc
    have bg := big g lg hg
    unfold cornAt
    refine ⟨SzQ.divInt (sz_of_le bg.1.1 (by rw [e84]; omega)) zb (by omega), fun q hq => ?_⟩
    obtain ⟨x, hx, rfl⟩ := List.mem_map.mp hq
    have := bg.2 x hx
    exact SzQ.divInt (sz_of_le this.1 (by rw [e84]; omega)) zb (by omega)
  · have ml : lastC (cornersV b m (thinS rows)) ∈ cornersV b m (thinS rows) := by
      obtain ⟨r, e⟩ := cornersV_head b m (thinS rows)
      rw [e] at pT ⊢
      exact (mem_last pT).1
    obtain ⟨g, e, lg, hg⟩ := form _ ml
    have bg := big g lg hg
    rw [e]
    exact twelve hb bg.1.1 bg.1.2
/-! ### the outer path: some twelfths of each end -/
def twl (e : Rat) (s : Int) : Rat := Rat.divInt (e.num * s) ((e.den : Int) * 12)
theorem twl_mul (e : Rat) (s : Int) : twl e s = e * Rat.divInt s 12 := by
  unfold twl
  rw [← Rat.divInt_mul_divInt, Rat.num_divInt_den]
theorem twl_le {e : Rat} {s t : Int} (he : 0 ≤ e) (h : s ≤ t) : twl e s ≤ twl e t := by
  rw [twl_mul, twl_mul]
  have := divInt_le (b := 12) (by decide) h
  have := Rat.mul_nonneg he (show 0 ≤ Rat.divInt t 12 - Rat.divInt s 12 by grind)
  grind
theorem twl_lt {e : Rat} {s t : Int} (he : 0 < e) (h : s < t) : twl e s < twl e t := by
  rw [twl_mul, twl_mul]
  have := divInt_lt (b := 12) (by decide) h
  have := Rat.mul_pos he (show 0 < Rat.divInt t 12 - Rat.divInt s 12 by grind)
  grind
theorem twl_12 (e : Rat) : twl e 12 = e := by rw [twl_mul, Rat.divInt_self' (by decide), Rat.mul_one]
theorem twl_0 (e : Rat) : twl e 0 = 0 := by rw [twl_mul, Rat.zero_divInt, Rat.mul_zero]
theorem twl_z (s : Int) : twl 0 s = 0 := by rw [twl_mul, Rat.zero_mul]
def outP (es : List Rat) (h : List Int) : List Rat := List.zipWith twl es h
def outC (es : List Rat) (h : List Int) : Corner := (sumQ (outP es h), outP es h)
theorem outP_get {es : List Rat} {h : List Int} {i : Nat} {q : Rat} (hq : (outP es h)[i]? = some q) : ∃ e s, es[i]? = some e ∧ h[i]? = some s ∧ q = twl e s := by
  unfold outP at hq
  rw [List.getElem?_zipWith] at hq
  cases e1 : es[i]? with
  | none => rw [e1] at hq; cases hq
  | some e =>
    cases e2 : h[i]? with
    | none => rw [e1, e2] at hq; cases hq
    | some s => rw [e1, e2] at hq; cases hq; exact ⟨e, s, rfl, rfl, rfl⟩
theorem outP_le {es : List Rat} {h k : List Int} (h0 : ∀ e ∈ es, 0 ≤ e) (hk : LeI h k) : LeV (outP es h) (outP es k) := fun i p q hp hq => by
  obtain ⟨e, s, h1, h2, rfl⟩ := outP_get hp
  obtain ⟨e', t, h3, h4, rfl⟩ := outP_get hq
  rw [h1] at h3; cases h3
  exact twl_le (h0 e (List.mem_of_getElem? h1)) (hk i s t h2 h4)
theorem LeI.tail {x y : Int} {h k : List Int} (g : LeI (x :: h) (y :: k)) : x ≤ y ∧ LeI h k := ⟨g 0 x y rfl rfl, fun i a b ha hb => g (i + 1) a b (by simpa using ha) (by simpa using hb)⟩
theorem outS_le : ∀ {es : List Rat} {h k : List Int}, (∀ e ∈ es, 0 ≤ e) → h.length = es.length → k.length = es.length → LeI h k → sumQ (outP es h) ≤ sumQ (outP es k)
  | [], [], [], _, _, _, _ => Rat.le_refl
  | e :: es, x :: h, y :: k, h0, h1, h2, g => by
    have ih := outS_le (fun e he => h0 e (List.mem_cons_of_mem _ he)) (by simpa using h1) (by simpa using h2) g.tail.2
    have := twl_le (h0 e (List.mem_cons_self ..)) g.tail.1
    unfold outP at ih ⊢
    rw [List.zipWith_cons_cons, List.zipWith_cons_cons, sumQ, sumQ]
    grind
  | [], _ :: _, _, _, h, _, _ => by simp at h
  | [], [], _ :: _, _, _, h, _ => by simp at h
  | _ :: _, [], _, _, h, _, _ => by simp at h
  | _ :: _, _ :: _, [], _, _, h, _ => by simp at h
theorem outS_lt : ∀ {es : List Rat} {h k : List Int} {i : Nat} {e : Rat} {x y : Int}, (∀ e ∈ es, 0 ≤ e) → h.length = es.length → k.length = es.length → LeI h k → es[i]? = some e → h[i]? = some x → k[i]? = some y → 0 < e → x < y → sumQ (outP es h) < sumQ (outP es k)
  | [], _, _, i, e, x, y, _, _, _, _, h, _, _, _, _ => by simp at h
  | e' :: es, a :: h, b :: k, i, e, x, y, h0, h1, h2, g, he, hx, hy, ep, hxy => by
    cases i with
    | zero =>
      cases he; cases hx; cases hy
      have ih := outS_le (fun e he => h0 e (List.mem_cons_of_mem _ he)) (by simpa using h1) (by simpa using h2) g.tail.2
      have := twl_lt ep hxy
      unfold outP at ih ⊢
      rw [List.zipWith_cons_cons, List.zipWith_cons_cons, sumQ, sumQ]
      grind
    | succ i =>
      have ih := outS_lt (i := i) (fun e he => h0 e (List.mem_cons_of_mem _ he)) (by simpa using h1) (by simpa using h2) g.tail.2 (by simpa using he) (by simpa using hx) (by simpa using hy) ep hxy
      have := twl_le (h0 e' (List.mem_cons_self ..)) g.tail.1
      unfold outP at ih ⊢
      rw [List.zipWith_cons_cons, List.zipWith_cons_cons, sumQ, sumQ]
      grind
  | _ :: _, [], _, _, _, _, _, _, h, _, _, _, _, _, _, _ => by simp at h
  | _ :: _, _ :: _, [], _, _, _, _, _, _, h, _, _, _, _, _, _ => by simp at h
structure EndsOk (es : List Rat) : Prop where
  few : es.length ≤ 8
  q : ∀ e ∈ es, ∃ M : Int, 0 ≤ M ∧ M < 2 ^ 84 ∧ e = Rat.divInt M 12
theorem EndsOk.nonneg {es : List Rat} (h : EndsOk es) : ∀ e ∈ es, 0 ≤ e := fun e he => by
  obtain ⟨M, h0, _, rfl⟩ := h.q e he
  exact Rat.divInt_nonneg h0 (by decide)
theorem out_num : ∀ {es : List Rat} {h : List Int}, (∀ e ∈ es, ∃ M : Int, 0 ≤ M ∧ M < 2 ^ 84 ∧ e = Rat.divInt M 12) → (∀ x ∈ h, 0 ≤ x ∧ x ≤ 12) →
    (∀ q ∈ outP es h, ∃ N : Int, 0 ≤ N ∧ N ≤ 2 ^ 88 ∧ q = Rat.divInt N 144) ∧ ∃ N : Int, 0 ≤ N ∧ N ≤ (es.length : Int) * 2 ^ 88 ∧ sumQ (outP es h) = Rat.divInt N 144
  | [], h, _, _ => by
    refine ⟨fun q hq => by simp [outP] at hq, 0, Int.le_refl _, by simp, ?_⟩
    unfold outP
    rw [List.zipWith_nil_left, sumQ, Rat.zero_divInt]
  | e :: es, [], _, _ => by
    refine ⟨fun q hq => by simp [outP] at hq, 0, Int.le_refl _, ?_, ?_⟩
    · exact Int.mul_nonneg (Int.natCast_nonneg _) (by decide)
    · unfold outP
      rw [List.zipWith_nil_right, sumQ, Rat.zero_divInt]
  | e :: es, x :: h, hq, hx => by
    obtain ⟨k1, N, n0, n1, k2⟩ := out_num (fun e he => hq e (List.mem_cons_of_mem _ he)) fun x hx' => hx x (List.mem_cons_of_mem _ hx')
    obtain ⟨M, m0, m1, rfl⟩ := hq e (List.mem_cons_self ..)
    have hx0 := hx x (List.mem_cons_self ..)
    have e1 : twl (Rat.divInt M 12) x = Rat.divInt (M * x) 144 := by rw [twl_mul, Rat.divInt_mul_divInt]; rfl
    have b0 : 0 ≤ M * x := Int.mul_nonneg m0 hx0.1
    have e88 : (2 : Int) ^ 88 = 16 * 2 ^ 84 := by decide
    have b1 : M * x ≤ 2 ^ 88 := by
      have : M * x ≤ 2 ^ 84 * 12 := Int.le_trans (Int.mul_le_mul_of_nonneg_right (Int.le_of_lt m1) hx0.1) (Int.mul_le_mul_of_nonneg_left hx0.2 (by decide))
      have p : (0 : Int) < 2 ^ 84 := by decide
      omega
    unfold outP at *
    rw [List.zipWith_cons_cons, e1]
    refine ⟨fun q hq' => ?_, M * x + N, Int.add_nonneg b0 n0, ?_, ?_⟩
    · rcases List.mem_cons.mp hq' with rfl | hq'
      · exact ⟨_, b0, b1, rfl⟩
      · exact k1 q hq'
    · have : ((Rat.divInt M 12 :: es).length : Int) * 2 ^ 88 = (es.length : Int) * 2 ^ 88 + 2 ^ 88 := by rw [List.length_cons]; push_cast; grind
      omega
    · rw [sumQ, k2, divInt_add']
theorem sz144 {N : Int} (h0 : 0 ≤ N) (h1 : N ≤ 8 * 2 ^ 88) : SzQ 92 (Rat.divInt N 144) := by
  have e : (2 : Int) ^ 92 = 16 * 2 ^ 88 := by decide
  have p : (0 : Int) < 2 ^ 88 := by decide
  have p2 : (144 : Int) < 2 ^ 88 := by decide
  exact SzQ.divInt (sz_of_le h0 (by rw [e]; omega)) (sz_of_le (by decide) (by rw [e]; omega)) (by decide)
theorem EndsOk.sz {es : List Rat} (h : EndsOk es) {g : List Int} (hg : ∀ x ∈ g, 0 ≤ x ∧ x ≤ 12) : SzC 92 (outC es g) := by
  obtain ⟨k1, N, n0, n1, k2⟩ := out_num h.q hg
  have p : (0 : Int) < 2 ^ 88 := by decide
  have few := h.few
  refine ⟨?_, fun q hq => ?_⟩
  · show SzQ 92 (sumQ (outP es g))
    rw [k2]
    exact sz144 n0 (Int.le_trans n1 (Int.mul_le_mul_of_nonneg_right (by omega) (by decide)))
  · obtain ⟨N, n0, n1, rfl⟩ := k1 q hq
    exact sz144 n0 (by omega)
theorem EndsOk.szT {es : List Rat} (h : EndsOk es) {g : List Int} (hg : ∀ x ∈ g, 0 ≤ x ∧ x ≤ 12) (i : Nat) : SzQ 92 (sumQ ((outP es g).take i)) := by
  have e : (outP es g).take i = outP (es.take i) (g.take i) := by unfold outP; rw [List.take_zipWith]
  rw [e]
  have h' : EndsOk (es.take i) := ⟨by rw [List.length_take]; have := h.few; omega, fun e he => h.q e (List.mem_of_mem_take he)⟩
  exact (h'.sz fun x hx => hg x (List.mem_of_mem_take hx)).1
structure OutI (es : List Rat) (hs : List (List Int)) (h : List Int) : Prop where
  head : hs[0]? = some (zeroV es.length)
  last : hs.getLast? = some h
  len : ∀ g ∈ hs, g.length = es.length
  bnd : ∀ g ∈ hs, ∀ x ∈ g, 0 ≤ x ∧ x ≤ 12
  mono : hs.Pairwise LeI
  rise : hs.Pairwise fun g k => sumQ (outP es g) < sumQ (outP es k)
theorem OutI.mem {es : List Rat} {hs : List (List Int)} {h : List Int} (o : OutI es hs h) : h ∈ hs := List.mem_of_getLast? o.last
theorem OutI.start (es : List Rat) : OutI es [zeroV es.length] (zeroV es.length) := by
  refine ⟨rfl, rfl, fun g hg => ?_, fun g hg x hx => ?_, List.pairwise_singleton _ _, List.pairwise_singleton _ _⟩
  · rw [List.mem_singleton.mp hg, zeroV_len]
  · rw [List.mem_singleton.mp hg] at hx
    have := List.eq_of_mem_replicate hx
    omega
theorem OutI.step {es : List Rat} {hs : List (List Int)} {h k : List Int} (o : OutI es hs h) (h0 : ∀ e ∈ es, 0 ≤ e) (lk : k.length = es.length) (hk : ∀ x ∈ k, 0 ≤ x ∧ x ≤ 12) (le : LeI h k) {i : Nat} {e : Rat} {x y : Int} (he : es[i]? = some e) (hx : h[i]? = some x) (hy : k[i]? = some y) (ep : 0 < e) (hxy : x < y) : OutI es (hs ++ [k]) k := by
  obtain ⟨ini, ei⟩ := List.getLast?_eq_some_iff.mp o.last
  have lt := outS_lt h0 (o.len h o.mem) lk le he hx hy ep hxy
  refine ⟨?_, by simp, fun g hg => ?_, fun g hg => ?_, ?_, ?_⟩
  · rw [List.getElem?_append_left (by rw [ei]; simp)]; exact o.head
  · rcases List.mem_append.mp hg with hg | hg
    · exact o.len g hg
    · rw [List.mem_singleton.mp hg]; exact lk
  · rcases List.mem_append.mp hg with hg | hg
    · exact o.bnd g hg
    · rw [List.mem_singleton.mp hg]; exact hk
  · refine List.pairwise_append.mpr ⟨o.mono, List.pairwise_singleton _ _, fun g hg k' hk' => ?_⟩
    rw [List.mem_singleton.mp hk']
    have lg := o.len g hg
    have m := o.mono
    rw [ei] at m hg
    rcases List.mem_append.mp hg with hg | hg
    · exact ((List.pairwise_append.mp m).2.2 g hg h (by simp)).trans (o.len h o.mem) lg le
    · rw [List.mem_singleton.mp hg]; exact le
  · refine List.pairwise_append.mpr ⟨o.rise, List.pairwise_singleton _ _, fun g hg k' hk' => ?_⟩
    rw [List.mem_singleton.mp hk']
    have m := o.rise
    rw [ei] at m hg
    rcases List.mem_append.mp hg with hg | hg
    · exact rat_lt_trans ((List.pairwise_append.mp m).2.2 g hg h (by simp)) lt
    · rw [List.mem_singleton.mp hg]; exact lt
structure OuterOk (es : List Rat) (P : List Corner) : Prop where
  head : P[0]? = some (0, List.replicate es.length 0)
  last : ∃ l, P.getLast? = some l ∧ l.2 = es
  len : ∀ c ∈ P, c.2.length = es.length
  sums : ∀ c ∈ P, sumQ c.2 = c.1
  mono : P.Pairwise fun c d => LeV c.2 d.2
  rise : Rising P
  sz : ∀ c ∈ P, SzC 92 c
  few : P.length ≤ 6
theorem outP_zero : ∀ es : List Rat, outP es (zeroV es.length) = List.replicate es.length 0
  | [] => rfl
  | e :: es => by
    have := outP_zero es
    unfold outP zeroV at *
    rw [List.length_cons, List.replicate_succ, List.replicate_succ, List.zipWith_cons_cons, this, twl_0]
theorem outC_zero (es : List Rat) : outC es (zeroV es.length) = (0, List.replicate es.length 0) := by
  unfold outC
  rw [outP_zero, sumQ_zeros]
theorem OutI.ok {es : List Rat} {hs : List (List Int)} {h : List Int} (o : OutI es hs h) (he : EndsOk es) (few : hs.length ≤ 6) (e : outP es h = es) : OuterOk es (hs.map (outC es)) := by
  refine ⟨?_, ⟨outC es h, by rw [List.getLast?_map, o.last]; rfl, e⟩, fun c hc => ?_, fun c hc => ?_, ?_, ?_, fun c hc => ?_, by rw [List.length_map]; exact few⟩
  · rw [List.getElem?_map, o.head]
    show some (outC es _) = _
    rw [outC_zero]
  · obtain ⟨g, hg, rfl⟩ := List.mem_map.mp hc
    show (outP es g).length = _
    unfold outP
    rw [List.length_zipWith, o.len g hg]
    exact Nat.min_self _
  · obtain ⟨g, hg, rfl⟩ := List.mem_map.mp hc
    rfl
  · rw [List.pairwise_map]
    exact o.mono.imp fun {a b} h => outP_le he.nonneg h
  · unfold Rising
    rw [List.pairwise_map]
    exact o.rise
  · obtain ⟨g, hg, rfl⟩ := List.mem_map.mp hc
    exact he.sz (o.bnd g hg)
theorem outP_twelves : ∀ es : List Rat, outP es (List.replicate es.length 12) = es
  | [] => rfl
  | e :: es => by
    have := outP_twelves es
    unfold outP at *
    rw [List.length_cons, List.replicate_succ, List.zipWith_cons_cons, this, twl_12]
theorem outP_still : ∀ {es : List Rat} {h : List Int}, h.length = es.length → (∀ (i : Nat) (e : Rat) (x : Int), es[i]? = some e → h[i]? = some x → e = 0 ∨ x = 12) → outP es h = es
  | [], [], _, _ => rfl
  | e :: es, x :: h, hl, g => by
    have ih := outP_still (by simpa using hl) fun i e' x' h1 h2 => g (i + 1) e' x' (by simpa using h1) (by simpa using h2)
    unfold outP at *
    rw [List.zipWith_cons_cons, ih]
    rcases g 0 e x rfl rfl with h | h
    · rw [h, twl_z]
    · rw [h, twl_12]
  | [], _ :: _, h, _ => by simp at h
  | _ :: _, [], h, _ => by simp at h
/-! ### the sorted rows -/
def insI (x : Int) : List Int → List Int
  | [] => [x]
  | y :: l => if x ≤ y then x :: y :: l else y :: insI x l
def srtI : List Int → List Int
  | [] => []
  | x :: l => insI x (srtI l)
theorem insI_perm (x : Int) : ∀ l : List Int, (insI x l).Perm (x :: l)
  | [] => List.Perm.refl _
  | y :: l => by
    rw [insI]
    split
    · exact List.Perm.refl _
    · exact ((insI_perm x l).cons y).trans (List.Perm.swap _ _ _)
theorem srtI_perm : ∀ l : List Int, (srtI l).Perm l
  | [] => List.Perm.refl _
  | x :: l => (insI_perm x _).trans ((srtI_perm l).cons x)
theorem insI_sort (x : Int) : ∀ {l : List Int}, l.Pairwise (· ≤ ·) → (insI x l).Pairwise (· ≤ ·)
  | [], _ => List.pairwise_singleton _ _
  | y :: l, h => by
    obtain ⟨h1, h2⟩ := List.pairwise_cons.mp h
    rw [insI]
    split
    · rename_i c
      refine List.pairwise_cons.mpr ⟨fun z hz => ?_, h⟩
      rcases List.mem_cons.mp hz with rfl | hz
      · exact c
      · have := h1 z hz; omega
    · rename_i c
      refine List.pairwise_cons.mpr ⟨fun z hz => ?_, insI_sort x h2⟩
      rcases List.mem_cons.mp ((insI_perm x l).mem_iff.mp hz) with rfl | hz
      · omega
      · exact h1 z hz
theorem srtI_sort : ∀ l : List Int, (srtI l).Pairwise (· ≤ ·)
  | [] => List.Pairwise.nil
  | x :: l => insI_sort x (srtI_sort l)
theorem srtI_of {a l : List Int} (p : a.Perm l) (h : a.Pairwise (· ≤ ·)) : a = srtI l := sorted_uniq (p.trans (srtI_perm l).symm) h (srtI_sort l)
/-- rows of four, sorted, from 0 to 12 -/
def Row4 (r : List Int) : Prop := r.length = 4 ∧ r.Pairwise (· ≤ ·) ∧ ∀ x ∈ r, 0 ≤ x ∧ x ≤ 12
theorem Row4.at {r : List Int} (h : Row4 r) {j : Nat} (hj : j < 4) : 0 ≤ r.getD j 0 ∧ r.getD j 0 ≤ 12 := by
  rw [List.getD_eq_getElem?_getD, List.getElem?_eq_getElem (by rw [h.1]; exact hj)]
  exact h.2.2 _ (List.getElem_mem _)
theorem Row4.up {r : List Int} (h : Row4 r) {j : Nat} (hj : j + 1 < 4) : r.getD j 0 ≤ r.getD (j + 1) 0 := by
  rw [List.getD_eq_getElem?_getD, List.getElem?_eq_getElem (show j < r.length by rw [h.1]; omega), List.getD_eq_getElem?_getD, List.getElem?_eq_getElem (show j + 1 < r.length by rw [h.1]; omega)]
  exact List.pairwise_iff_getElem.mp h.2.1 j (j + 1) (by rw [h.1]; omega) (by rw [h.1]; omega) (by omega)
def thV (R : List (List Int)) (j : Nat) : List Int := if j < 4 then R.map (fun r => r.getD j 0) else List.replicate R.length 12
theorem thV_len (R : List (List Int)) (j : Nat) : (thV R j).length = R.length := by
  unfold thV
  split
  · rw [List.length_map]
  · rw [List.length_replicate]
theorem thV_bnd {R : List (List Int)} (h : ∀ r ∈ R, Row4 r) (j : Nat) : ∀ x ∈ thV R j, 0 ≤ x ∧ x ≤ 12 := fun x hx => by
  unfold thV at hx
  split at hx
  · rename_i c
    obtain ⟨r, hr, rfl⟩ := List.mem_map.mp hx
    exact (h r hr).at c
  · have := List.eq_of_mem_replicate hx
    omega
theorem thV_up {R : List (List Int)} (h : ∀ r ∈ R, Row4 r) (j : Nat) : LeI (thV R j) (thV R (j + 1)) := fun i x y hx hy => by
  by_cases c : j + 1 < 4
  · unfold thV at hx hy
    rw [if_pos (by omega)] at hx
    rw [if_pos c] at hy
    obtain ⟨r, hr, rfl⟩ := mapAt hx
    obtain ⟨r', hr', rfl⟩ := mapAt hy
    rw [hr] at hr'; cases hr'
    exact (h r (List.mem_of_getElem? hr)).up c
  · have h1 := (thV_bnd h j x (List.mem_of_getElem? hx)).2
    unfold thV at hy
    rw [if_neg c] at hy
    have := List.eq_of_mem_replicate (List.mem_of_getElem? hy)
    omega
theorem LeI_zero {k : List Int} (h : ∀ x ∈ k, 0 ≤ x) (m : Nat) : LeI (zeroV m) k := fun i x y hx hy => by
  have := List.eq_of_mem_replicate (List.mem_of_getElem? hx)
  have := h y (List.mem_of_getElem? hy)
  omega
/-! ### one within the other -/
theorem nest_of {C P : List Corner} {Qs : List (List Corner)} (ho : OuterOk (Qs.map fun Q => (lastC Q).1) C) (ht : ThinOf C P) (hq : ∀ Q ∈ Qs, ∃ m, OthOk m Q) : Nest P Qs := by
  have el : (Qs.map fun Q => (lastC Q).1).length = Qs.length := List.length_map _
  obtain ⟨l, hl, e2⟩ := ho.last
  have hP0 := ht.head.trans ho.head
  rw [el] at hP0
  refine ⟨⟨⟨List.Pairwise.sublist ht.sub ho.rise, fun c hc => by rw [ho.len c (ht.sub.subset hc), el], ht.thin⟩, fun c hc => ho.sums c (ht.sub.subset hc), List.Pairwise.sublist ht.sub ho.mono⟩, ?_, fun k Q hk => ?_⟩
  · cases P with
    | nil => simp at hP0
    | cons c r =>
      have : c = (0, List.replicate Qs.length 0) := by simpa using hP0
      exact ⟨r, by rw [this]⟩
  · obtain ⟨m, o⟩ := hq Q (List.mem_of_getElem? hk)
    obtain ⟨r, er⟩ := o.head
    refine ⟨m, r, er, o.pm, ?_⟩
    have : lastC P = l := by
      unfold lastC
      rw [ht.last, hl]; rfl
    rw [this, e2, List.getElem?_map, hk]
    rfl
end S

namespace S
open PySem PySem.Spec PyProof.Rows L2
theorem partsV_le {n : Nat} {e : Rat} : ∀ {a : List Corner}, (∀ c ∈ a, c.2.length ≤ n) → (partsV a e).length ≤ n
  | [], _ => by simp [partsV]
  | [c], h => h c (List.mem_cons_self ..)
  | c :: d :: r, h => by
    rw [partsV]
    split
    · unfold betw
      rw [List.length_zipWith]
      have := h c (List.mem_cons_self ..)
      omega
    · exact partsV_le fun x hx => h x (List.mem_cons_of_mem _ hx)
theorem flat_le {n : Nat} : ∀ {Qs : List (List Corner)} {ps : List Rat} (i : Nat), (∀ Q ∈ Qs, ∀ c ∈ Q, c.2.length ≤ n) → ((List.zipWith partsV Qs ps).take i).flatten.length ≤ n * Qs.length
  | [], ps, i, _ => by simp
  | Q :: Qs, [], i, _ => by simp
  | Q :: Qs, p :: ps, 0, _ => by simp
  | Q :: Qs, p :: ps, i + 1, h => by
    have ih := flat_le (ps := ps) i fun Q' hQ => h Q' (List.mem_cons_of_mem _ hQ)
    have := partsV_le (e := p) (h Q (List.mem_cons_self ..))
    rw [List.zipWith_cons_cons, List.take_succ_cons, List.flatten_cons, List.length_append, List.length_cons, Nat.mul_succ]
    omega
theorem getD_some {l : List Rat} {k : Nat} (h : k < l.length) : l[k]? = some (l.getD k 0) := by rw [List.getD_eq_getElem?_getD, List.getElem?_eq_getElem h]; rfl
theorem wpF_take {P : List Corner} {Qs : List (List Corner)} {M : List Rat} {i : Nat} {e : Rat} (h : e ∈ wpF P 0 (Qs.take i) M) : e ∈ wpF P 0 Qs M := by
  rcases mem_wpF.mp h with h | ⟨j, Q, h1, h2⟩
  · exact mem_wpF.mpr (.inl h)
  · refine mem_wpF.mpr (.inr ⟨j, Q, ?_, h2⟩)
    rw [List.getElem?_take] at h1
    split at h1
    · exact h1
    · cases h1
theorem den_mul (q : Rat) : q * ((q.den : Int) : Rat) = (q.num : Rat) := by
  have h : q = (q.num : Rat) * (((q.den : Int)) : Rat)⁻¹ := by rw [← div_c, Rat.num_divInt_den]
  have hd : ((q.den : Int) : Rat) ≠ 0 := fun z => by
    have := Rat.intCast_eq_zero_iff.mp z
    have := q.den_pos
    omega
  have hi := Rat.inv_mul_cancel _ hd
  generalize ((q.den : Int) : Rat) = D at *
  generalize (q.num : Rat) = N at *
  rw [h, Rat.mul_assoc, hi, Rat.mul_one]
theorem num_pos_iff {q : Rat} : 0 < q.num ↔ 0 < q := by
  constructor
  · intro h
    have h0 : 0 ≤ q := Rat.num_nonneg.mp (Int.le_of_lt h)
    refine Rat.not_le.mp fun hle => ?_
    have e : q = 0 := Rat.le_antisymm hle h0
    rw [e] at h
    exact absurd h (by decide)
  · intro h
    have h0 := Rat.num_nonneg.mpr (Rat.le_of_lt h)
    have h1 : q.num ≠ 0 := fun z => by
      have := Rat.num_eq_zero.mp z
      rw [this] at h
      exact Rat.lt_irrefl h
    omega
theorem sumQ_one (x : Rat) : sumQ [x] = x := by rw [sumQ, sumQ]; grind
theorem sumQ_take {l : List Rat} {i : Nat} {q : Rat} (h : l[i]? = some q) : sumQ (l.take (i + 1)) = sumQ (l.take i) + q := by
  rw [List.take_add_one, h, sumQ_append]
  show _ + sumQ [q] = _
  rw [sumQ_one]
theorem atI_neg2 {α : Type} {G : List α} {x y : α} : atI (G ++ [x, y]) (-2) = some x := by
  unfold atI ixN
  rw [if_neg (by decide), if_pos (by simp; omega)]
  show (G ++ [x, y])[_]? = _
  rw [show ((-2 : Int) + ((G ++ [x, y]).length : Nat)).toNat = G.length by simp; omega]
  simp
theorem cut3 {xs : List PyData} {j : Nat} {x y z : PyData} (hx : xs[j]? = some x) (hy : xs[j + 1]? = some y) (hz : xs[j + 2]? = some z) : cutD xs (some (j : Nat)) (some ((j + 3 : Nat) : Int)) = [x, y, z] := by
  obtain ⟨lx, ex⟩ := List.getElem?_eq_some_iff.mp hx
  obtain ⟨ly, ey⟩ := List.getElem?_eq_some_iff.mp hy
  obtain ⟨lz, ez⟩ := List.getElem?_eq_some_iff.mp hz
  unfold cutD
  rw [HT.sIx_nat, HT.sIx_nat, Nat.min_eq_left (by omega), Nat.min_eq_left (by omega), Nat.add_sub_cancel_left, List.drop_eq_getElem_cons lx, List.drop_eq_getElem_cons ly, List.drop_eq_getElem_cons lz, ex, ey, ez]
  rfl
theorem EndsOk.szE {es : List Rat} (h : EndsOk es) : ∀ e ∈ es, SzQ 84 e := fun e he => by
  obtain ⟨M, h0, h1, rfl⟩ := h.q e he
  exact SzQ.divInt (sz_of_le h0 h1) (sz_of_le (by decide) (by decide)) (by decide)
def rowO (ns : List Int) (k : Nat) : List Int := srtI ((List.range 4).map fun (j : Nat) => mixV (cellAt ns (24 + (0 + (j : Int)))) (0 + (k : Int)) % 13)
theorem rowO_ok (ns : List Int) (k : Nat) : Row4 (rowO ns k) := by
  refine ⟨?_, srtI_sort _, fun x hx => ?_⟩
  · unfold rowO
    rw [(srtI_perm _).length_eq]
    rfl
  · have := (srtI_perm _).mem_iff.mp hx
    obtain ⟨j, _, rfl⟩ := List.mem_map.mp this
    omega
theorem map_const {β : Type} (n : Nat) (x : β) : (List.range n).map (fun _ => x) = List.replicate n x := by
  rw [List.map_const', List.length_range]
theorem lay_hand (P : List Corner) (Qs : List (List Corner)) : (PyData.list [pathD P, .list (Qs.map pathD)]).canLay0 = true := by
  rw [PyData.canLay0, PyData.canLayAll0, PyData.canLayAll0, PyData.canLayAll0, lay_path, lay_paths]; rfl
theorem shaped_hand (P : List Corner) (Qs : List (List Corner)) : SeqAt.shaped (.list [pathD P, .list (Qs.map pathD)]) = true := shaped_of (lay_hand P Qs) (n := 7) (by
  have h1 := dep_path P
  have h2 : (PyData.list (Qs.map pathD)).depth ≤ 6 := by rw [PyData.depth]; exact Nat.succ_le_succ (dep_all dep_path Qs)
  rw [PyData.depth, PyData.depthAll, PyData.depthAll, PyData.depthAll]
  omega) (by decide)
theorem last_some {Q : List Corner} (h : Q ≠ []) : Q.getLast? = some (lastC Q) := by
  unfold lastC
  rw [List.getLast?_eq_some_getLast h]; rfl
theorem sum_nQ : ∀ Qs : List (List Corner), (Qs.map fun Q => (headLen Q : Int)).sum = (nQ Qs : Nat)
  | [] => rfl
  | Q :: Qs => by rw [List.map_cons, List.sum_cons, sum_nQ Qs, nQ]; omega
section
variable {B G0 H : Hp} {cs : Cells} {ds : Dat} {Q : VK} {E : XK} {v w u : V} {K : PySem.W.Frag} {xs ys : List PyData} {vs : List V} {R : It → Hp → Prop}
theorem rd_kZiLL (S : Sta B G0 H cs ds) (h : Has ds (.list xs) v) (h2 : Has ds (.list ys) w) (k : ∀ J, Wk B G0 J (zipD xs ys) (fun cs ds => Has ds (.list xs) v ∧ (∀ x u, Has ds (.list ys) w → Has ((x, u) :: ds) (.list ys) w) ∧ Has ds (.list ys) w) → R J H) : kZi true true K R [v, w] H := by
  obtain ⟨p, vs, rfl, hp, _⟩ := S.lst h
  obtain ⟨q, ws, rfl, hq, _⟩ := S.lst h2
  exact ⟨p, q, rfl, ⟨_, SqL.of hp⟩, ⟨_, SqL.of hq⟩, k _ (wk_zip src_list src_list)⟩
theorem rd_kZiTL (S : Sta B G0 H cs ds) (h : Has ds (.tuple xs) v) (h2 : Has ds (.list ys) w) (k : ∀ J, Wk B G0 J (zipD xs ys) (fun cs ds => Has ds (.tuple xs) v ∧ (∀ x u, Has ds (.list ys) w → Has ((x, u) :: ds) (.list ys) w) ∧ Has ds (.list ys) w) → R J H) : kZi false true K R [v, w] H := by
  obtain ⟨p, vs, rfl, hp, _⟩ := S.tup h
  obtain ⟨q, ws, rfl, hq, _⟩ := S.lst h2
  exact ⟨p, q, rfl, ⟨_, SqT.of hp⟩, ⟨_, SqL.of hq⟩, k _ (wk_zip src_tup src_list)⟩
theorem rd_kZiLT (S : Sta B G0 H cs ds) (h : Has ds (.list xs) v) (h2 : Has ds (.tuple ys) w) (k : ∀ J, Wk B G0 J (zipD xs ys) (fun cs ds => Has ds (.list xs) v ∧ (∀ x u, Has ds (.tuple ys) w → Has ((x, u) :: ds) (.tuple ys) w) ∧ Has ds (.tuple ys) w) → R J H) : kZi true false K R [v, w] H := by
  obtain ⟨p, vs, rfl, hp, _⟩ := S.lst h
  obtain ⟨q, ws, rfl, hq, _⟩ := S.tup h2
  exact ⟨p, q, rfl, ⟨_, SqL.of hp⟩, ⟨_, SqT.of hq⟩, k _ (wk_zip src_list src_tup)⟩
/-- the last of a list is taken off -/
theorem rd_popL {x : PyData} {L : Addr} (S : Sta B G0 H ((L, xs ++ [x]) :: cs) ds) (k : ∀ v H', Sta B G0 H' ((L, xs) :: cs) ((x, v) :: ds) → Q v H') : rPop (.ref L) [] H Q := by
  obtain ⟨G, a, b, c, d, e, f, g⟩ := S
  obtain ⟨z1, z2, vs, z, u⟩ := e _ (List.mem_cons_self ..)
  have hl := u.len
  rw [List.length_append, List.length_singleton] at hl
  obtain ⟨y, hy, hi⟩ := u.at (i := xs.length) (x := x) (by simp)
  have S' : Sta B G0 H ((L, xs ++ [x]) :: cs) ((x, y) :: ds) := ⟨G, a, b, c, d, e, f, g.cons hi⟩
  obtain ⟨vs', hv', _, put⟩ := S'.put
  rw [z] at hv'
  cases hv'
  refine ⟨L, vs, y, rfl, rfl, z, by rw [show vs.length - 1 = xs.length by omega]; exact hy, k y _ (put xs vs.dropLast fun G' _ h => ?_)⟩
  have h' := h.take xs.length
  rw [List.take_left'] at h'
  · rw [List.dropLast_eq_take, show vs.length - 1 = xs.length by omega]
    exact h'
  · rfl
/-- a def that answers a new list, of which only a part is told -/
def spLx {α : Type} (enc : α → List PyData) (dom : α → Prop) (res : α → List PyData → Prop) : Sp := fun vs H Q _ => ∃ (G : Hp) (a : α), Same G H ∧ IsAll G (enc a) vs ∧ dom a ∧ ∀ r p H' G' us, res a r → Grow G H G' H' → H p = none → G' p = none → H' p = some (.lst us) → IsAll G' r us → Q (.ref p) H'
theorem rd_spLx {α : Type} {enc : α → List PyData} {dom : α → Prop} {res : α → List PyData → Prop} (a : α) (S : Sta B G0 H cs ds) (hx : HasAll ds (enc a) vs) (hd : dom a) (k : ∀ r p H', res a r → Same H H' → Sta B G0 H' ((p, r) :: cs) ds → Q (.ref p) H') : spLx enc dom res vs H Q E := by
  obtain ⟨G, S⟩ := S
  exact ⟨G, a, S.2.1, hx G S.2.2.2.2.2.2, hd, fun r p H' G' us hr gr hp hg hu hv => k r p H' hr gr.h (Sta.put_call S gr hp hg hu hv)⟩
theorem ret_Lx {G H' : Hp} {r : List PyData} {p : Addr} {res : List PyData → Prop} (S : Sta H G H' ((p, r) :: cs) ds) (hr : res r) (k : ∀ r p H' G' us, res r → Grow G H G' H' → H p = none → G' p = none → H' p = some (.lst us) → IsAll G' r us → Q (.ref p) H') : Q (.ref p) H' := by
  obtain ⟨G', a, b, c, d, e, f, g⟩ := S
  obtain ⟨x, y, us, z, u⟩ := e _ (List.mem_cons_self ..)
  exact k r p H' G' us hr ⟨c, a, b, d⟩ x y z u
/-! ### the contracts -/
def spLawAt0 : Sp := spT (α := List Corner × Rat) (fun a => [pathD a.1, frD a.2]) (fun a => ∃ m n, PathR0 n a.1 ∧ SzQ m a.2 ∧ m + 4 * n + 1 ≤ 8999) (fun a => partsD (lawAtV a.1 a.2))
theorem rd_lawat0 {a : List Corner} {e : Rat} {m n : Nat} (S : Sta B G0 H cs ds) (h1 : Has ds (pathD a) v) (h2 : Has ds (frD e) w) (ok : PathR0 n a) (z : SzQ m e) (hz : m + 4 * n + 1 ≤ 8999)
    (k : ∀ r H', Same H H' → Sta B G0 H' cs ((partsD (lawAtV a e), r) :: ds) → Q r H') : spLawAt0 [v, w] H Q E :=
  rd_spT (a, e) S (.cons h1 (.cons h2 .nil)) ⟨m, n, ok, z, hz⟩ k
structure ReachOk (m k n b : Nat) (P : List Corner) (L : List Rat) : Prop where
  pm : PathM m P
  pr : PathR0 n P
  kn : k < m
  lev : ∀ l ∈ L, SzQ b l ∧ ∀ c, P[0]? = some c → c.2.getD k 0 ≤ l
  sz : b + 6 * n + 4 ≤ 8999
  few : L.length ≤ 450
def spReach : Sp := spL (α := List Corner × Nat × List Rat) (fun a => [pathD a.1, .int (a.2.1 : Nat), .list (a.2.2.map frD)]) (fun a => ∃ m n b, ReachOk m a.2.1 n b a.1 a.2.2) (fun a => (a.2.2.filterMap (reach1 a.1 a.2.1)).map frD)
theorem rd_reach {P : List Corner} {k m n b : Nat} {L : List Rat} (S : Sta B G0 H cs ds) (h1 : Has ds (pathD P) v) (h3 : Has ds (.list (L.map frD)) u) (ok : ReachOk m k n b P L)
    (q : ∀ p H', Same H H' → Sta B G0 H' ((p, (L.filterMap (reach1 P k)).map frD) :: cs) ds → Q (.ref p) H') : spReach [v, .int (k : Nat), u] H Q E :=
  rd_spL (P, k, L) S (.cons h1 (.cons .int (.cons h3 .nil))) ⟨m, n, b, ok⟩ q
structure PWOk (a b m m2 : Nat) (P : List Corner) (Qs : List (List Corner)) (e : Rat) : Prop where
  p : PathR a P
  q : ∀ Q ∈ Qs, PathR b Q ∧ ∀ c ∈ Q, c.2.length ≤ 2
  len : (partsV P e).length = Qs.length
  few : Qs.length ≤ 8
  ez : SzQ m e
  e0 : 0 ≤ e
  z1 : m + 6 * a + 4 ≤ 8999
  part : ∀ p ∈ partsV P e, SzQ m2 p ∧ 0 ≤ p
  z2 : m2 + 6 * b + 4 ≤ 8999
def spPWithin : Sp := spT (α := List Corner × List (List Corner) × Rat) (fun a => [pathD a.1, .list (a.2.1.map pathD), frD a.2.2]) (fun a => ∃ x y m m2, PWOk x y m m2 a.1 a.2.1 a.2.2) (fun a => partsD (flatQ a.2.1 (partsV a.1 a.2.2)))
theorem rd_pwithin {P : List Corner} {Qs : List (List Corner)} {e : Rat} {a b m m2 : Nat} (S : Sta B G0 H cs ds) (h1 : Has ds (pathD P) v) (h2 : Has ds (.list (Qs.map pathD)) w) (h3 : Has ds (frD e) u) (ok : PWOk a b m m2 P Qs e)
    (k : ∀ r H', Same H H' → Sta B G0 H' cs ((partsD (flatQ Qs (partsV P e)), r) :: ds) → Q r H') : spPWithin [v, w, u] H Q E :=
  rd_spT (P, Qs, e) S (.cons h1 (.cons h2 (.cons h3 .nil))) ⟨a, b, m, m2, ok⟩ k
structure WithOk (P : List Corner) (Qs : List (List Corner)) : Prop where
  nest : Nest P Qs
  pz : ∀ c ∈ P, SzC 92 c
  qz : ∀ Q ∈ Qs, ∀ c ∈ Q, SzC 84 c
  ql : ∀ Q ∈ Qs, (∀ c ∈ Q, c.2.length ≤ 2) ∧ Q.length ≤ 5
  pl : P.length ≤ 6
  few : Qs.length ≤ 8
def spWithin : Sp := spL (α := List Corner × List (List Corner)) (fun a => [pathD a.1, .list (a.2.map pathD)]) (fun a => WithOk a.1 a.2) (fun a => (withinV a.1 a.2).map cornD)
theorem rd_within {P : List Corner} {Qs : List (List Corner)} (S : Sta B G0 H cs ds) (h1 : Has ds (pathD P) v) (h2 : Has ds (.list (Qs.map pathD)) w) (ok : WithOk P Qs)
    (k : ∀ p H', Same H H' → Sta B G0 H' ((p, (withinV P Qs).map cornD) :: cs) ds → Q (.ref p) H') : spWithin [v, w] H Q E :=
  rd_spL (P, Qs) S (.cons h1 (.cons h2 .nil)) ok k
def spSums : Sp := spB (α := Corner) (fun c => [cornD c]) (fun c => (∃ n, SzC n c ∧ n ≤ 9000) ∧ c.2.length ≤ 1000 ∧ sumQ c.2 = c.1) (fun _ => .bl true)
theorem rd_sums {c : Corner} {n : Nat} (S : Sta B G0 H cs ds) (h : Has ds (cornD c) v) (z : SzC n c) (hn : n ≤ 9000) (hl : c.2.length ≤ 1000) (hs : sumQ c.2 = c.1) (k : ∀ H', Sta B G0 H' cs ds → Q (.bl true) H') : spSums [v] H Q E :=
  rd_spB c (S.hpAll (.cons h .nil)) ⟨⟨n, z, hn⟩, hl, hs⟩ fun H' e => k H' (S.same e)
def spAll : Sp := spT (α := List Rat) (fun a => [.list (a.map frD)]) (fun a => ∃ n, (∀ i, SzQ n (sumQ (a.take i))) ∧ (∀ q ∈ a, SzQ n q) ∧ n + n ≤ 8999) (fun a => frD (sumQ a))
theorem rd_all {a : List Rat} {n : Nat} (S : Sta B G0 H cs ds) (h : Has ds (.list (a.map frD)) v) (h1 : ∀ i, SzQ n (sumQ (a.take i))) (h2 : ∀ q ∈ a, SzQ n q) (hn : n + n ≤ 8999) (k : ∀ r H', Same H H' → Sta B G0 H' cs ((frD (sumQ a), r) :: ds) → Q r H') : spAll [v] H Q E :=
  rd_spT a S (.cons h .nil) ⟨n, h1, h2, hn⟩ k
def spIsPath : Sp := spB (α := Nat × List Corner) (fun a => [pathD a.2, .int (a.1 : Nat)]) (fun a => ∃ n, IsP n a.1 a.2 ∧ 5 * n + 1 ≤ 8999 ∧ a.1 ≤ 1000) (fun _ => .bl true)
theorem isAll_two {x y : PyData} (h1 : Is H x v) (h2 : Is H y w) : IsAll H [x, y] [v, w] := by
  simp only [IsAll]; exact ⟨_, _, rfl, h1, _, _, rfl, h2, rfl⟩
theorem rd_ispath {F : List Corner} {N n : Nat} (S : Sta B G0 H cs ds) (h : Is H (pathD F) v) (ok : IsP n N F) (hn : 5 * n + 1 ≤ 8999) (hN : N ≤ 1000) (k : ∀ H', Same H H' → Sta B G0 H' cs ds → Q (.bl true) H') : spIsPath [v, .int (N : Nat)] H Q E :=
  rd_spB (N, F) (isAll_two h (by rw [Is])) ⟨n, ok, hn, hN⟩ fun H' e => k H' e (S.same e)
def spThinRow : Sp := spLx (α := List Corner) (fun C => [pathD C]) (fun C => ∃ m n, Rising C ∧ (∀ c ∈ C, c.2.length = m) ∧ (∀ c ∈ C, SzC n c) ∧ 5 * n + 1 ≤ 8999 ∧ m ≤ 1000 ∧ C.length ≤ 900) (fun C r => ∃ F, ThinOf C F ∧ r = F.map cornD)
theorem rd_thinrow {C : List Corner} {m n : Nat} (S : Sta B G0 H cs ds) (h : Has ds (pathD C) v) (hr : Rising C) (hm : ∀ c ∈ C, c.2.length = m) (hz : ∀ c ∈ C, SzC n c) (hn : 5 * n + 1 ≤ 8999) (m1 : m ≤ 1000) (few : C.length ≤ 900)
    (k : ∀ F p H', ThinOf C F → Same H H' → Sta B G0 H' ((p, F.map cornD) :: cs) ds → Q (.ref p) H') : spThinRow [v] H Q E :=
  rd_spLx C S (.cons h .nil) ⟨m, n, hr, hm, hz, hn, m1, few⟩ fun r p H' ⟨F, t, e⟩ hs S' => k F p H' t hs (by rw [← e]; exact S')
def spOuter (K : PySem.W.Frag) : Sp := fun vs H Q _ => ∃ (G : Hp) (a : Addr) (ns : List Int) (v : V) (es : List Rat), vs = [.ref a, v] ∧ Same G H ∧ SqL K H a (ns.map V.int) ∧ Is G (.list (es.map frD)) v ∧ EndsOk es ∧
  ∀ r p H' G' us, (∃ P, OuterOk es P ∧ r = P.map cornD) → Grow G H G' H' → H p = none → G' p = none → H' p = some (.lst us) → IsAll G' r us → Q (.ref p) H'
theorem rd_outer {a : Addr} {ns : List Int} {es : List Rat} (S : Sta B G0 H cs ds) (hS : SqL K H a (ns.map V.int)) (h : Has ds (.list (es.map frD)) v) (he : EndsOk es)
    (k : ∀ P p H', OuterOk es P → Same H H' → Sta B G0 H' ((p, P.map cornD) :: cs) ds → Q (.ref p) H') : spOuter K [.ref a, v] H Q E := by
  obtain ⟨G, S⟩ := S
  exact ⟨G, a, ns, v, es, rfl, S.2.1, hS, h G S.2.2.2.2.2.2, he, fun r p H' G' us ⟨P, o, e⟩ gr hp hg hu hv => k P p H' o gr.h (by rw [← e]; exact Sta.put_call S gr hp hg hu hv)⟩
end
/-! ### what within asks, from what it is given -/
section
variable {P : List Corner} {Qs : List (List Corner)}
theorem WithOk.pr (h : WithOk P Qs) : PathR 92 P := by
  obtain ⟨r, e⟩ := h.nest.p0
  refine ⟨by rw [e]; simp, h.pz, fun c hc => by rw [h.nest.pm.t.len c hc]; have := h.few; omega, by have := h.pl; omega, h.nest.pm.t.rise, fun c hc => ?_⟩
  rw [e] at hc
  cases hc
  rfl
theorem WithOk.qr (h : WithOk P Qs) {Q : List Corner} (hQ : Q ∈ Qs) : PathR 84 Q := by
  obtain ⟨k, hk⟩ := List.mem_iff_getElem?.mp hQ
  obtain ⟨m, r, e, pm, _⟩ := h.nest.q k Q hk
  refine ⟨by rw [e]; simp, h.qz Q hQ, fun c hc => by have := (h.ql Q hQ).1 c hc; omega, by have := (h.ql Q hQ).2; omega, pm.t.rise, fun c hc => ?_⟩
  rw [e] at hc
  cases hc
  rfl
theorem PathR.r0 {n : Nat} {a : List Corner} (h : PathR n a) : PathR0 n a := ⟨h.ne, h.sz, h.len, h.few, h.rise⟩
theorem WithOk.szM (h : WithOk P Qs) {e : Rat} (he : e ∈ wpV P Qs) : SzQ 640 e ∧ ∀ p ∈ partsV P e, SzQ 640 p := h.nest.szM h.pz h.qz he
theorem WithOk.len (h : WithOk P Qs) (i : Nat) : (wpF P 0 (Qs.take i) (pursesV P)).length ≤ 46 := by
  have h1 := len_wpF (P := P) (b := 5) (Qs := Qs.take i) (k := 0) (M := pursesV P) fun Q hQ => (h.ql Q (List.mem_of_mem_take hQ)).2
  have h2 : (Qs.take i).length ≤ Qs.length := by rw [List.length_take]; omega
  have h3 := h.few
  have h4 := h.pl
  unfold pursesV at h1
  rw [List.length_map] at h1
  unfold pursesV
  omega
theorem WithOk.lenV (h : WithOk P Qs) : (wpV P Qs).length ≤ 46 := by
  have := h.len Qs.length
  rw [List.take_length] at this
  exact this
theorem WithOk.pw (h : WithOk P Qs) {e : Rat} (he : e ∈ wpV P Qs) : PWOk 92 84 640 640 P Qs e := by
  have r := h.nest.in_range he
  refine ⟨h.pr, fun Q hQ => ⟨h.qr hQ, (h.ql Q hQ).1⟩, h.nest.plen e, h.few, (h.szM he).1, r.1, by decide, fun p hp => ⟨(h.szM he).2 p hp, ?_⟩, by decide⟩
  obtain ⟨k, hk⟩ := List.mem_iff_getElem?.mp hp
  have hkl : k < Qs.length := by rw [← h.nest.plen e]; exact (List.getElem?_eq_some_iff.mp hk).1
  exact (h.nest.range r.1 r.2 (List.getElem?_eq_getElem hkl) hk).1
theorem WithOk.reach (h : WithOk P Qs) {k : Nat} {Q : List Corner} (hk : Qs[k]? = some Q) : ReachOk Qs.length k 92 84 P (pursesV Q) := by
  have hQ := List.mem_of_getElem? hk
  have hkl : k < Qs.length := (List.getElem?_eq_some_iff.mp hk).1
  refine ⟨h.nest.pm, h.pr.r0, hkl, fun l hl => ?_, by decide, by unfold pursesV; rw [List.length_map]; have := (h.ql Q hQ).2; omega⟩
  obtain ⟨c, hc, rfl⟩ := List.mem_map.mp hl
  refine ⟨(h.qz Q hQ c hc).1, fun d hd => ?_⟩
  obtain ⟨r, e⟩ := h.nest.p0
  rw [e] at hd
  cases hd
  rw [List.getD_eq_getElem?_getD, List.getElem?_replicate, if_pos hkl]
  exact (h.nest.qpos hk c hc).1
theorem nQ_le {n : Nat} : ∀ {Qs : List (List Corner)}, (∀ Q ∈ Qs, ∀ c ∈ Q, c.2.length ≤ n) → nQ Qs ≤ n * Qs.length
  | [], _ => by simp [nQ]
  | Q :: Qs, h => by
    have ih := nQ_le fun Q' hQ => h Q' (List.mem_cons_of_mem _ hQ)
    rw [nQ, List.length_cons, Nat.mul_succ]
    have : headLen Q ≤ n := by
      cases Q with
      | nil => simp [headLen]
      | cons c r => exact h _ (List.mem_cons_self ..) c (List.mem_cons_self ..)
    omega
theorem WithOk.isP (h : WithOk P Qs) : IsP 1148 (nQ Qs) (withinV P Qs) := by
  have := nQ_le fun Q hQ => (h.ql Q hQ).1
  have := h.few
  exact h.nest.isP h.pz h.qz (by decide) (by omega) (by have := h.lenV; omega)
end
end S

namespace K
open PySem L2 S
local macro_rules | `(tactic| walk_at "mem") => `(tactic| first | exact List.Mem.head _ | (refine List.Mem.tail _ ?_; walk_at "mem"))
local macro_rules | `(tactic| walk_at "has") => `(tactic| first | exact Has.int | exact Has.bl | exact Has.non | exact Has.str | exact Has.mem (by walk_at "mem"))
local macro_rules | `(tactic| walk_at "hasall") => `(tactic| first | exact HasAll.nil | ((refine' HasAll.cons ?a ?b); (case a => walk_at "has"); (case b => walk_at "hasall")))
local macro_rules | `(tactic| walk_at "sz") => `(tactic| first | assumption | exact SzQ.num (by assumption) | exact SzQ.den (by assumption) | exact Sz.mul (by walk_at "sz") (by walk_at "sz") | exact Sz.add' (by walk_at "sz") (by walk_at "sz") | exact Sz.sub' (by walk_at "sz") (by walk_at "sz") | exact Sz.lit (by decide))
local macro_rules | `(tactic| walk_at "mul") => `(tactic| first | assumption | exact IntMulOk.of_left (by decide) | exact IntMulOk.of_right (by decide) | exact mulModOk (by decide) | exact Sz.mulOk (by walk_at "sz") (by walk_at "sz") (by decide))
local macro_rules | `(tactic| walk_at "div") => `(tactic| exact ⟨by decide, by decide⟩)
local macro_rules | `(tactic| walk_at "mod") => `(tactic| first | (show (0 : Int) < _; decide) | (show (0 : Int) < _; omega) | decide | assumption)
local macro_rules | `(tactic| walk_at "rd") => `(tactic| first
  | ((with_reducible refine' rd_var ?e ?k); (case e => exact rfl))
  | with_reducible refine' rd_c ?_ | with_reducible refine' rd_op ?_ | with_reducible refine' rd_rI0 ?_ | with_reducible refine' rd_addI ?_
  | ((with_reducible refine' rd_ixTI ?S ?h ?i ?k); (case S => assumption); (case h => walk_at "has"); (case i => exact rfl))
  | ((with_reducible refine' rd_ixT ?S ?h ?i ?k); (case S => assumption); (case h => walk_at "has"); (case i => exact rfl); intro w S)
  | ((with_reducible refine' rd_ixLI ?S ?h ?i ?k); (case S => assumption); (case h => walk_at "has"); (case i => exact rfl))
  | ((with_reducible refine' rd_ixL ?S ?h ?i ?k); (case S => assumption); (case h => walk_at "has"); (case i => exact rfl); intro w S)
  | ((with_reducible refine' rd_mulB ?c ?k); (case c => walk_at "mul"))
  | ((with_reducible refine' rd_modL ?c ?k); (case c => first | decide | omega))
  | ((with_reducible refine' rd_modN ?c ?k); (case c => first | assumption | omega))
  | ((with_reducible refine' rd_fdivL ?c ?k); (case c => exact ⟨by decide, by decide⟩))
  | ((with_reducible refine' rd_fdivB ?c ?k); (case c => assumption))
  | ((with_reducible refine' rd_pow ?c ?k); (case c => exact ⟨by decide, by decide, by decide⟩))
  | with_reducible refine' rd_seq ?_ | with_reducible refine' rd_asg ?_ | with_reducible refine' rd_name ?_ | with_reducible refine' rd_nx ?_ | with_reducible refine' rd_rt ?_ | with_reducible refine' rd_ret ?_ | with_reducible refine' rd_rt0 ?_ | with_reducible refine' rd_nxL ?_ | with_reducible refine' rd_rtL ?_
  | with_reducible refine' rd_cons ?_ | with_reducible refine' rd_nil ?_ | with_reducible refine' rd_call ?_ | with_reducible refine' rd_cb ?_ | with_reducible refine' rd_tup ?_ | with_reducible refine' rd_lst ?_
  | ((with_reducible refine' rd_kTup ?S ?h ?l ?k); (case S => assumption); (case h => walk_at "hasall"); (case l => exact Nat.le_of_ble_eq_true rfl); intro p H' e S)
  | ((with_reducible refine' rd_kLst ?S ?h ?l ?k); (case S => assumption); (case h => walk_at "hasall"); (case l => exact Nat.le_of_ble_eq_true rfl); intro p H' e S)
  | with_reducible refine' rd_if ?_ | with_reducible refine' rd_test ?_ | with_reducible refine' rd_tB ?_ | with_reducible refine' rd_isbl ?_ | with_reducible refine' rd_eqI ?_ | with_reducible refine' rd_neI ?_
  | with_reducible refine' rd_not ?_ | with_reducible refine' rd_and ?_ | with_reducible refine' rd_or ?_ | with_reducible refine' rd_andV ?_ | with_reducible refine' rd_orV ?_ | with_reducible refine' rd_notV ?_ | with_reducible refine' rd_ifE ?_
  | with_reducible refine' rd_un ?_ | with_reducible refine' rd_rU ?_ | with_reducible refine' rd_drop ?_ | with_reducible refine' rd_next ?_ | with_reducible refine' rd_retN ?_
  | ((with_reducible refine' rd_lenT ?S ?h ?k); (case S => assumption); (case h => walk_at "has"))
  | ((with_reducible refine' rd_lenL ?S ?h ?k); (case S => assumption); (case h => walk_at "has"))
  | ((with_reducible refine' rd_lenC ?S ?h ?k); (case S => assumption); (case h => walk_at "mem"))
  | with_reducible refine' rd_abs ?_ | with_reducible refine' rd_min ?_ | with_reducible refine' rd_max ?_
  | with_reducible refine' rd_for ?_ | with_reducible refine' rd_comp ?_ | with_reducible refine' rd_iList ?_ | with_reducible refine' rd_iTup ?_ | with_reducible refine' rd_iR1 ?_ | with_reducible refine' rd_iR2 ?_ | with_reducible refine' rd_iEn ?_ | with_reducible refine' rd_iZi ?_
  | with_reducible refine' rd_gTup ?_ | with_reducible refine' rd_gCons ?_ | with_reducible refine' rd_gNil ?_
  | ((with_reducible refine' rd_kGT2 ?S ?h ?k); (case S => assumption); (case h => walk_at "has"); intro w1 w2 S)
  | ((with_reducible refine' rd_kGT3 ?S ?h ?k); (case S => assumption); (case h => walk_at "has"); intro w1 w2 w3 S)
  | with_reducible refine' rd_bm ?_ | with_reducible refine' rd_bm0 ?_
  | ((with_reducible refine' rd_kBM ?S ?h ?k); (case S => assumption); (case h => walk_at "mem"))
  | ((with_reducible refine' rd_kBM0 ?S ?h ?k); (case S => assumption); (case h => walk_at "mem"))
  | ((with_reducible refine' rd_listL ?S ?h ?k); (case S => assumption); (case h => walk_at "has"); intro p H' e S)
  | ((with_reducible refine' rd_listC ?S ?h ?k); (case S => assumption); (case h => walk_at "mem"); intro p H' e S)
  | ((with_reducible refine' rd_listT ?S ?h ?k); (case S => assumption); (case h => walk_at "has"); intro p H' e S)
  | ((with_reducible refine' rd_tupleL ?S ?h ?k); (case S => assumption); (case h => walk_at "has"); intro p H' e S)
  | ((with_reducible refine' rd_tupleC ?S ?h ?k); (case S => assumption); (case h => walk_at "mem"); intro p H' e S)
  | with_reducible refine' rd_par ?_ | with_reducible refine' rd_is2 ?_
  | ((with_reducible refine' rd_aug ?e ?k); (case e => exact rfl)) | with_reducible refine' rd_ipI ?_
  | with_reducible refine' iteT ?_ | with_reducible refine' iteF ?_ | with_reducible refine' iteNF ?_ | with_reducible refine' iteNT ?_
  | with_reducible refine' rd_nx0 ?_ | with_reducible refine' rd_ctL ?_ | with_reducible refine' rd_bkL ?_ | with_reducible refine' rd_ct ?_ | with_reducible refine' rd_bk ?_ | with_reducible refine' rd_eqB ?_ | with_reducible refine' rd_neB ?_)
local macro_rules | `(tactic| walk_at "sub") => `(tactic| first | exact List.Sublist.refl _ | exact List.nil_sublist _ | (refine List.Sublist.cons₂ _ ?_; walk_at "sub") | (refine List.Sublist.cons _ ?_; walk_at "sub"))
local macro_rules | `(tactic| walk_at "dats") => `(tactic| first | exact Dats.nil | ((refine' Dats.cons ?a ?b); (case a => walk_at "has"); (case b => walk_at "dats")))
local macro_rules | `(tactic| walk_at "walk") => `(tactic| repeat walk_at "rd")
local macro_rules | `(tactic| walk_at "szq") => `(tactic| first | assumption | exact SzQ.add (by walk_at "szq") (by walk_at "szq") | exact SzQ.sub (by walk_at "szq") (by walk_at "szq") | exact SzQ.mul (by walk_at "szq") (by walk_at "szq") | exact SzQ.div (by walk_at "szq") (by walk_at "szq"))
local macro_rules | `(tactic| walk_at "dom") => `(tactic| first | exact True.intro | assumption)
local macro_rules | `(tactic| walk_at "rd") => `(tactic| first
  | ((with_reducible refine' rd_q2 ?S ?h1 ?h2 ?s1 ?s2 ?l ?d ?k); (case S => assumption); (case h1 => walk_at "has"); (case h2 => walk_at "has"); (case s1 => walk_at "szq"); (case s2 => walk_at "szq"); (case l => decide); (case d => walk_at "dom"); intro r H' e S)
  | ((with_reducible refine' rd_before ?S ?h1 ?h2 ?s1 ?s2 ?l ?k); (case S => assumption); (case h1 => walk_at "has"); (case h2 => walk_at "has"); (case s1 => walk_at "szq"); (case s2 => walk_at "szq"); (case l => decide))
  | ((with_reducible refine' rd_cell ?S ?h ?k); (case S => assumption); (case h => omega))
  | ((with_reducible refine' rd_div2 ?h ?k); (case h => omega))
  | ((with_reducible refine' rd_isi ?h ?e ?k); (case h => assumption); (case e => first | exact kit_tt | exact kit_tl | exact kit_lt | exact kit_ll | exact kit_it | exact kit_il | exact kit_ib | exact kit_ii))
  | with_reducible refine' rd_sl ?_ | with_reducible refine' rd_noPart ?_ | with_reducible refine' rd_part ?_ | with_reducible refine' rd_kPart ?_
  | with_reducible refine' rd_iRv ?_
  | with_reducible refine' rd_true ?_ | with_reducible refine' rd_gsub ?_ | with_reducible refine' rd_mix ?_
  | ((with_reducible refine' rd_sumL ?S ?h ?k); (case S => assumption); (case h => walk_at "has"))
  | ((with_reducible refine' rd_sumC ?S ?h ?k); (case S => assumption); (case h => walk_at "mem")))
def spLaw (K : PySem.W.Frag) : Sp := fun vs H Q _ => ∃ (a : Addr) (ns : List Int), vs = [.ref a] ∧ SqL K H a (ns.map V.int) ∧ ns.length ≤ 63 ∧ Only H ∧ ∀ H', Q (.bl true) H'
theorem cal_mk {P : Program} {w : World} {K : PySem.W.Frag} {mg : Str → Option Value} {base : Heap} {f : Addr} {fd : FuncData} {k : Nat} {x : Str} {st : Stmt} {ps : List Str} {sp : Sp} (F : Fun K x x st f fd) (G : FnOk P w K mg base CX0 k f fd ps sp) (hm : mg x = some (.ref f)) (b : Binds K fd ps []) : Cal P w K mg base CX0 k x ps sp := ⟨f, fd, G, hm, F.kp, b⟩
section
variable {P : Program} {w : World} {K : PySem.W.Frag} {mg : Str → Option Value} {base : Heap} {f : Addr} {fd : FuncData}

def top (i : Nat) : Stmt := PySem.Challenge.pw_shortpurse_k15_one_path_within_another.main.body.getD i (.Pass ⟨0, 0, 0, 0⟩)
abbrev s_greatest_divisor : Stmt := top 11
theorem sc_greatest_divisor : FnScope ["one", "two", "rest"] ["one", "two"] (defScope s_greatest_divisor) := ⟨rfl, rfl, rfl, by decide +kernel, rfl, by decide +kernel, by decide +kernel⟩
abbrev s_lowest : Stmt := top 10
theorem sc_lowest : FnScope ["top", "bottom", "divisor"] ["top", "bottom"] (defScope s_lowest) := ⟨rfl, rfl, rfl, by decide +kernel, rfl, by decide +kernel, by decide +kernel⟩
def spGcd : Sp := fun vs H Q _ => ∃ a b : Int, vs = [.int a, .int b] ∧ 0 ≤ a ∧ 0 ≤ b ∧ Q (.int (Int.gcd a b : Nat)) H
theorem ok_gcd (F : Fun K "greatest_divisor" "greatest_divisor" s_greatest_divisor f fd) : FnOk P w K mg base CX0 1 f fd ["one", "two"] spGcd := by
  refine F.ok sc_greatest_divisor (fun vs H Q E h => ?_) (fun cdv A outer s H vs Q E hr h => ?_)
  · obtain ⟨a, b, rfl, _⟩ := h
    rfl
  obtain ⟨a, b, rfl, ha, hb, q⟩ := h
  refine ⟨_, (pss_cons (ps_while PassesOwn.never (pt_cmpR (op_neA (units_of hr)) (pv 1) pe_int (nomark _)) (pss_cons (ps_set (i := 2) sc_greatest_divisor.nd rfl (by first | exact Or.inl rfl | exact Or.inr rfl) (pe_op op_modN (pv 0) (pv 1))) (pss_cons (ps_set (i := 0) sc_greatest_divisor.nd rfl (by first | exact Or.inl rfl | exact Or.inr rfl) (pv 1)) (pss_one (ps_set (i := 1) sc_greatest_divisor.nd rfl (by first | exact Or.inl rfl | exact Or.inr rfl) (pv 2)))))) (pss_one (ps_ret (pv 0)))), rd_start ?_⟩
  refine while_h (fun m σ H2 => ∃ (x y : Int) (v : Option V), σ = [some (.int x), some (.int y), v] ∧ 0 ≤ x ∧ 0 ≤ y ∧ Int.gcd x y = Int.gcd a b ∧ H2 = H ∧ m = y.toNat) _ ⟨a, b, none, rfl, ha, hb, rfl, rfl, rfl⟩ ?_
  rintro m σ H2 ⟨x, y, v, rfl, hx, hy, hg, rfl, rfl⟩
  walk_at "walk"
  refine rd_wh (fun c => ?_) (fun c => ?_)
  · have c : y ≠ 0 := by simpa using c
    walk_at "walk"
    have e : x.fmod y = x % y := Int.fmod_eq_emod_of_nonneg x hy
    have l1 := Int.emod_nonneg x c
    have l2 := Int.emod_lt_of_pos x (show 0 < y by omega)
    refine ⟨(x.fmod y).toNat, by rw [e]; omega, y, x.fmod y, _, rfl, hy, by rw [e]; exact l1, ?_, rfl, rfl⟩
    rw [e, gcd_step, hg]
  · have c : y = 0 := by simpa using c
    subst c
    walk_at "walk"
    have e : x = ((Int.gcd a b : Nat) : Int) := by rw [← hg, Int.gcd_zero]; omega
    show Q (.int x) H2
    rw [e]
    exact q
theorem ok_lowest (B : Bl mg) (C_greatest_divisor : Cal P w K mg base CX0 1 "greatest_divisor" ["one", "two"] spGcd) (F : Fun K "lowest" "lowest" s_lowest f fd) : FnOk P w K mg base CX0 2 f fd ["top", "bottom"] spLowest := by
  refine F.ok sc_lowest (fun vs H Q E h => ?_) (fun cdv A outer s H vs Q E hr h => ?_)
  · obtain ⟨G, a, _, h, _⟩ := h
    rw [← h.len]; rfl
  obtain ⟨G, ⟨a, b⟩, eG, hA, ⟨hb, sb⟩, k⟩ := h
  cases (isAll_ints (ns := [a, b]) hA)
  have S : Sta H G H [] [] := Sta.enter eG fun p hp => absurd hp List.not_mem_nil
  dsimp only at hb sb k
  refine ⟨_, (pss_cons (ps_set (i := 2) sc_lowest.nd rfl (by first | exact Or.inl rfl | exact Or.inr rfl) (pe_cal C_greatest_divisor hr (by first | decide | exact Nat.le_refl _ | omega) pass0 rfl (pa_cons (pe_callB call_absA rfl B.abs bt_abs (pa_cons (pv 0) pa_nil)) (pa_cons (pe_callB call_absA rfl B.abs bt_abs (pa_cons (pv 1) pa_nil)) pa_nil)))) (pss_cons (ps_if (pt_cmpR op_lt (pv 1) pe_int (nomark _)) (pss_one (ps_set (i := 2) sc_lowest.nd rfl (by first | exact Or.inl rfl | exact Or.inr rfl) (pe_un un_neg (pv 2)))) pss_nil) (pss_one (ps_ret (pe_tup (pa_cons (pe_op op_fdivB (pv 0) (pv 2)) (pa_cons (pe_op op_fdivB (pv 1) (pv 2)) pa_nil))))))), rd_start ?_⟩
  walk_at "walk"
  refine ⟨_, _, rfl, by omega, by omega, ?_⟩
  rw [show Int.gcd (a.natAbs : Int) (b.natAbs : Int) = Int.gcd a b by simp; rfl]
  have gp : 0 < Int.gcd a b := Int.gcd_pos_of_ne_zero_right a hb
  have gs : Sz 8999 (Int.gcd a b : Nat) := by
    refine Sz.le sb ?_
    have := Nat.le_of_dvd (by omega) (Int.gcd_dvd_natAbs_right a b)
    omega
  walk_at "walk"
  refine iteD (fun c => ?_) (fun c => ?_)
  · have hc : CDv a (-((Int.gcd a b : Nat) : Int)) := ⟨by omega, gs.le (by omega)⟩
    walk_at "walk"
    refine ret_T (by assumption) k (.mem ?_)
    rw [show frD (Rat.divInt a b) = .tuple [.int (a.fdiv (-((Int.gcd a b : Nat) : Int))), .int (b.fdiv (-((Int.gcd a b : Nat) : Int)))] by unfold frD; rw [← (low_neg c).1, ← (low_neg c).2]]
    walk_at "mem"
  · have hc : CDv a ((Int.gcd a b : Nat) : Int) := ⟨by omega, gs⟩
    walk_at "walk"
    refine ret_T (by assumption) k (.mem ?_)
    rw [show frD (Rat.divInt a b) = .tuple [.int (a.fdiv ((Int.gcd a b : Nat) : Int)), .int (b.fdiv ((Int.gcd a b : Nat) : Int))] by unfold frD; rw [← (low_pos (show 0 < b by omega)).1, ← (low_pos (show 0 < b by omega)).2]]
    walk_at "mem"

abbrev s_plus : Stmt := top 5
theorem sc_plus : FnScope ["one", "two"] ["one", "two"] (defScope s_plus) := ⟨rfl, rfl, rfl, by decide +kernel, rfl, by decide +kernel, by decide +kernel⟩
theorem ok_plus (C_lowest : Cal P w K mg base CX0 2 "lowest" ["top", "bottom"] spLowest) (F : Fun K "plus" "plus" s_plus f fd) : FnOk P w K mg base CX0 3 f fd ["one", "two"] spPlus := by
  refine F.ok sc_plus (fun vs H Q E h => ?_) (fun cdv A outer s H vs Q E hr h => ?_)
  · obtain ⟨G, a, _, h, _⟩ := h
    rw [← h.len]; rfl
  obtain ⟨G, ⟨p, q⟩, eG, hA, ⟨⟨m, n, hp, hq, hmn⟩, _⟩, k⟩ := h
  obtain ⟨v, w', rfl, al⟩ := isAll2 hA
  have S : Sta H G H [] _ := Sta.enter eG al
  dsimp only at hp hq k S
  have o1 : IntMulOk p.num (q.den : Int) := hp.1.mulOk hq.2 (by omega)
  have o2 : IntMulOk q.num (p.den : Int) := hq.1.mulOk hp.2 (by omega)
  have o3 : IntMulOk (p.den : Int) (q.den : Int) := hp.2.mulOk hq.2 (by omega)
  have o4 : IntMulOk p.num q.num := hp.1.mulOk hq.1 (by omega)
  refine ⟨_, (pss_one (ps_ret (pe_cal C_lowest hr (by first | decide | exact Nat.le_refl _ | omega) pass0 rfl (pa_cons (pe_op op_addA (pe_op op_mulB (pe_ix ix_seq (pv 0) pe_int (fun _ _ => rfl)) (pe_ix ix_seq (pv 1) pe_int (fun _ _ => rfl))) (pe_op op_mulB (pe_ix ix_seq (pv 1) pe_int (fun _ _ => rfl)) (pe_ix ix_seq (pv 0) pe_int (fun _ _ => rfl)))) (pa_cons (pe_op op_mulB (pe_ix ix_seq (pv 0) pe_int (fun _ _ => rfl)) (pe_ix ix_seq (pv 1) pe_int (fun _ _ => rfl))) pa_nil))))), rd_start ?_⟩
  walk_at "walk"
  refine rd_lowest (by assumption) (den_mul_ne p q) ((hp.2.mul hq.2).mono hmn) fun r H' e S => ?_
  rw [add_div] at S
  exact ret_T S k (.mem (by walk_at "mem"))

abbrev s_minus : Stmt := top 6
theorem sc_minus : FnScope ["one", "two"] ["one", "two"] (defScope s_minus) := ⟨rfl, rfl, rfl, by decide +kernel, rfl, by decide +kernel, by decide +kernel⟩
theorem ok_minus (C_lowest : Cal P w K mg base CX0 2 "lowest" ["top", "bottom"] spLowest) (F : Fun K "minus" "minus" s_minus f fd) : FnOk P w K mg base CX0 3 f fd ["one", "two"] spMinus := by
  refine F.ok sc_minus (fun vs H Q E h => ?_) (fun cdv A outer s H vs Q E hr h => ?_)
  · obtain ⟨G, a, _, h, _⟩ := h
    rw [← h.len]; rfl
  obtain ⟨G, ⟨p, q⟩, eG, hA, ⟨⟨m, n, hp, hq, hmn⟩, _⟩, k⟩ := h
  obtain ⟨v, w', rfl, al⟩ := isAll2 hA
  have S : Sta H G H [] _ := Sta.enter eG al
  dsimp only at hp hq k S
  have o1 : IntMulOk p.num (q.den : Int) := hp.1.mulOk hq.2 (by omega)
  have o2 : IntMulOk q.num (p.den : Int) := hq.1.mulOk hp.2 (by omega)
  have o3 : IntMulOk (p.den : Int) (q.den : Int) := hp.2.mulOk hq.2 (by omega)
  have o4 : IntMulOk p.num q.num := hp.1.mulOk hq.1 (by omega)
  refine ⟨_, (pss_one (ps_ret (pe_cal C_lowest hr (by first | decide | exact Nat.le_refl _ | omega) pass0 rfl (pa_cons (pe_op op_sub (pe_op op_mulB (pe_ix ix_seq (pv 0) pe_int (fun _ _ => rfl)) (pe_ix ix_seq (pv 1) pe_int (fun _ _ => rfl))) (pe_op op_mulB (pe_ix ix_seq (pv 1) pe_int (fun _ _ => rfl)) (pe_ix ix_seq (pv 0) pe_int (fun _ _ => rfl)))) (pa_cons (pe_op op_mulB (pe_ix ix_seq (pv 0) pe_int (fun _ _ => rfl)) (pe_ix ix_seq (pv 1) pe_int (fun _ _ => rfl))) pa_nil))))), rd_start ?_⟩
  walk_at "walk"
  refine rd_lowest (by assumption) (den_mul_ne p q) ((hp.2.mul hq.2).mono hmn) fun r H' e S => ?_
  rw [sub_div] at S
  exact ret_T S k (.mem (by walk_at "mem"))

abbrev s_times : Stmt := top 7
theorem sc_times : FnScope ["one", "two"] ["one", "two"] (defScope s_times) := ⟨rfl, rfl, rfl, by decide +kernel, rfl, by decide +kernel, by decide +kernel⟩
theorem ok_times (C_lowest : Cal P w K mg base CX0 2 "lowest" ["top", "bottom"] spLowest) (F : Fun K "times" "times" s_times f fd) : FnOk P w K mg base CX0 3 f fd ["one", "two"] spTimes := by
  refine F.ok sc_times (fun vs H Q E h => ?_) (fun cdv A outer s H vs Q E hr h => ?_)
  · obtain ⟨G, a, _, h, _⟩ := h
    rw [← h.len]; rfl
  obtain ⟨G, ⟨p, q⟩, eG, hA, ⟨⟨m, n, hp, hq, hmn⟩, _⟩, k⟩ := h
  obtain ⟨v, w', rfl, al⟩ := isAll2 hA
  have S : Sta H G H [] _ := Sta.enter eG al
  dsimp only at hp hq k S
  have o1 : IntMulOk p.num (q.den : Int) := hp.1.mulOk hq.2 (by omega)
  have o2 : IntMulOk q.num (p.den : Int) := hq.1.mulOk hp.2 (by omega)
  have o3 : IntMulOk (p.den : Int) (q.den : Int) := hp.2.mulOk hq.2 (by omega)
  have o4 : IntMulOk p.num q.num := hp.1.mulOk hq.1 (by omega)
  refine ⟨_, (pss_one (ps_ret (pe_cal C_lowest hr (by first | decide | exact Nat.le_refl _ | omega) pass0 rfl (pa_cons (pe_op op_mulB (pe_ix ix_seq (pv 0) pe_int (fun _ _ => rfl)) (pe_ix ix_seq (pv 1) pe_int (fun _ _ => rfl))) (pa_cons (pe_op op_mulB (pe_ix ix_seq (pv 0) pe_int (fun _ _ => rfl)) (pe_ix ix_seq (pv 1) pe_int (fun _ _ => rfl))) pa_nil))))), rd_start ?_⟩
  walk_at "walk"
  refine rd_lowest (by assumption) (den_mul_ne p q) ((hp.2.mul hq.2).mono hmn) fun r H' e S => ?_
  rw [mul_div] at S
  exact ret_T S k (.mem (by walk_at "mem"))

abbrev s_over : Stmt := top 8
theorem sc_over : FnScope ["one", "two"] ["one", "two"] (defScope s_over) := ⟨rfl, rfl, rfl, by decide +kernel, rfl, by decide +kernel, by decide +kernel⟩
theorem ok_over (C_lowest : Cal P w K mg base CX0 2 "lowest" ["top", "bottom"] spLowest) (F : Fun K "over" "over" s_over f fd) : FnOk P w K mg base CX0 3 f fd ["one", "two"] spOver := by
  refine F.ok sc_over (fun vs H Q E h => ?_) (fun cdv A outer s H vs Q E hr h => ?_)
  · obtain ⟨G, a, _, h, _⟩ := h
    rw [← h.len]; rfl
  obtain ⟨G, ⟨p, q⟩, eG, hA, ⟨⟨m, n, hp, hq, hmn⟩, h0⟩, k⟩ := h
  obtain ⟨v, w', rfl, al⟩ := isAll2 hA
  have S : Sta H G H [] _ := Sta.enter eG al
  dsimp only at hp hq k S h0
  have o1 : IntMulOk p.num (q.den : Int) := hp.1.mulOk hq.2 (by omega)
  have o2 : IntMulOk (p.den : Int) q.num := hp.2.mulOk hq.1 (by omega)
  have h1 := num_ne h0
  refine ⟨_, (pss_cons (ps_if (pt_cmpR (op_eqA (units_of hr)) (pe_ix ix_seq (pv 1) pe_int (fun _ _ => rfl)) pe_int (nomark _)) (pss_one ps_never) pss_nil) (pss_one (ps_ret (pe_cal C_lowest hr (by first | decide | exact Nat.le_refl _ | omega) pass0 rfl (pa_cons (pe_op op_mulB (pe_ix ix_seq (pv 0) pe_int (fun _ _ => rfl)) (pe_ix ix_seq (pv 1) pe_int (fun _ _ => rfl))) (pa_cons (pe_op op_mulB (pe_ix ix_seq (pv 0) pe_int (fun _ _ => rfl)) (pe_ix ix_seq (pv 1) pe_int (fun _ _ => rfl))) pa_nil)))))), rd_start ?_⟩
  walk_at "walk"
  refine iteD (fun c => absurd c h1) (fun _ => ?_)
  walk_at "walk"
  refine rd_lowest (by assumption) (Int.mul_ne_zero (Int.ne_of_gt (den_pos p)) h1) ((hp.2.mul hq.1).mono hmn) fun r H' e S => ?_
  rw [div_div p q h0] at S
  exact ret_T S k (.mem (by walk_at "mem"))

abbrev s_before : Stmt := top 9
theorem sc_before : FnScope ["one", "two"] ["one", "two"] (defScope s_before) := ⟨rfl, rfl, rfl, by decide +kernel, rfl, by decide +kernel, by decide +kernel⟩
theorem ok_before (F : Fun K "before" "before" s_before f fd) : FnOk P w K mg base CX0 1 f fd ["one", "two"] spBefore := by
  refine F.ok sc_before (fun vs H Q E h => ?_) (fun cdv A outer s H vs Q E hr h => ?_)
  · obtain ⟨a, h, _⟩ := h
    rw [← h.len]; rfl
  obtain ⟨⟨p, q⟩, hA, ⟨m, n, hp, hq, hmn⟩, k⟩ := h
  obtain ⟨v, w', rfl, al⟩ := isAll2 hA
  have S : Sta H H H [] _ := Sta.enter (Same.refl _) al
  dsimp only at hp hq k S
  have o1 : IntMulOk p.num (q.den : Int) := hp.1.mulOk hq.2 (by omega)
  have o2 : IntMulOk q.num (p.den : Int) := hq.1.mulOk hp.2 (by omega)
  refine ⟨_, (pss_one (ps_ret (pe_cmpR op_lt (pe_op op_mulB (pe_ix ix_seq (pv 0) pe_int (fun _ _ => rfl)) (pe_ix ix_seq (pv 1) pe_int (fun _ _ => rfl))) (pe_op op_mulB (pe_ix ix_seq (pv 1) pe_int (fun _ _ => rfl)) (pe_ix ix_seq (pv 0) pe_int (fun _ _ => rfl))) (nomark _)))), rd_start ?_⟩
  walk_at "walk"
  rw [show decide (p < q) = decide (p.num * (q.den : Int) < q.num * (p.den : Int)) from decide_eq_decide.mpr (Rat.lt_iff p q)] at k
  exact k

abbrev s_last_reached : Stmt := top 18
theorem sc_last_reached : FnScope ["amounts", "amount", "low", "high", "middle"] ["amounts", "amount"] (defScope s_last_reached) := ⟨rfl, rfl, rfl, by decide +kernel, rfl, by decide +kernel, by decide +kernel⟩
theorem ok_last (B : Bl mg) (C_before : Cal P w K mg base CX0 1 "before" ["one", "two"] spBefore) (F : Fun K "last_reached" "last_reached" s_last_reached f fd) : FnOk P w K mg base CX0 2 f fd ["amounts", "amount"] spLast := by
  refine F.ok sc_last_reached (fun vs H Q E h => ?_) (fun cdv A outer s H vs Q E hr h => ?_)
  · obtain ⟨qs, e, n, h, _⟩ := h
    rw [← h.len]; rfl
  obtain ⟨qs, e, n, hA, ⟨hq0, hq1, zq, ze, hn, hfst⟩, k⟩ := h
  obtain ⟨va, ve, rfl, al⟩ := isAll2 hA
  have S : Sta H H H [] [(.list (qs.map frD), va), (frD e, ve)] := Sta.enter (Same.refl _) al
  have h2n : n + n ≤ 100000000 := by omega
  refine ⟨_, (pss_cons (ps_set (i := 2) sc_last_reached.nd rfl (by first | exact Or.inl rfl | exact Or.inr rfl) pe_int) (pss_cons (ps_set (i := 3) sc_last_reached.nd rfl (by first | exact Or.inl rfl | exact Or.inr rfl) (pe_callB call_lenA rfl B.len bt_len (pa_cons (pv 0) pa_nil))) (pss_cons (ps_while PassesOwn.never (pt_cmpR op_gt (pe_op op_sub (pv 3) (pv 2)) pe_int (nomark _)) (pss_cons (ps_set (i := 4) sc_last_reached.nd rfl (by first | exact Or.inl rfl | exact Or.inr rfl) (pe_op op_fdiv (pe_op op_addA (pv 2) (pv 3)) pe_int)) (pss_one (ps_if (pt_val (pe_cal C_before hr (by first | decide | exact Nat.le_refl _ | omega) pass0 rfl (pa_cons (pv 1) (pa_cons (pe_ix ix_seq (pv 0) (pv 4) (fun _ _ => rfl)) pa_nil)))) (pss_one (ps_set (i := 3) sc_last_reached.nd rfl (by first | exact Or.inl rfl | exact Or.inr rfl) (pv 4))) (pss_one (ps_set (i := 2) sc_last_reached.nd rfl (by first | exact Or.inl rfl | exact Or.inr rfl) (pv 4))))))) (pss_one (ps_ret (pv 2)))))), rd_start ?_⟩
  walk_at "walk"
  refine while_h (fun m σ H2 => ∃ (low high : Nat) (x4 : Option V) (q : Rat), σ = [some va, some ve, some (.int (low : Nat)), some (.int (high : Nat)), x4] ∧ H2 = H ∧ low < high ∧ high ≤ qs.length ∧ qs[low]? = some q ∧ q ≤ e ∧ (high = qs.length ∨ ∃ r, qs[high]? = some r ∧ e < r) ∧ m = high - low) (qs.length - 0) ⟨0, qs.length, none, qs[0], by
    rw [List.length_map]; rfl, rfl, hq0, Nat.le_refl _, List.getElem?_eq_getElem hq0, hfst _ (List.getElem?_eq_getElem hq0), .inl rfl, rfl⟩ ?_
  rintro m σ H2 ⟨low, high, x4, q, rfl, rfl, hlh, hhn, hq, hqe, hhi, rfl⟩
  walk_at "walk"
  refine rd_wh (fun c => ?_) (fun c => ?_)
  · have c : 1 < (high : Int) - low := by simpa using c
    have em : ((low : Int) + high) / 2 = (((low + high) / 2 : Nat) : Int) := by omega
    have hm1 : low < (low + high) / 2 := by omega
    have hm2 : (low + high) / 2 < high := by omega
    walk_at "walk"
    rw [em]
    generalize (low + high) / 2 = mid at *
    have hmq : qs[mid]? = some (qs[mid]'(by omega)) := List.getElem?_eq_getElem _
    generalize (qs[mid]'(by omega)) = p at *
    refine rd_ixL (xs := qs.map frD) (x := frD p) S (.mem (by walk_at "mem")) (atI_nat (by rw [List.getElem?_map, hmq]; rfl)) fun wp S2 => ?_
    have zp := zq p (List.mem_of_getElem? hmq)
    refine rd_before (m := n) (n := n) S2 (.mem (by walk_at "mem")) (.mem (by walk_at "mem")) ze zp h2n ?_
    walk_at "walk"
    refine iteD (fun c1 => ?_) (fun c1 => ?_)
    · walk_at "walk"
      exact ⟨mid - low, by omega, low, mid, _, q, rfl, rfl, hm1, by omega, hq, hqe, .inr ⟨p, hmq, c1⟩, rfl⟩
    · walk_at "walk"
      exact ⟨high - mid, by omega, mid, high, _, p, rfl, rfl, hm2, hhn, hmq, Rat.not_lt.mp c1, hhi, rfl⟩
  · have c : ¬ 1 < (high : Int) - low := by simpa using c
    have e1 : high = low + 1 := by omega
    subst e1
    walk_at "walk"
    exact k low q hq hqe hhi
abbrev s_portion_reached : Stmt := top 16
theorem sc_portion_reached : FnScope ["start", "end", "amount"] ["start", "end", "amount"] (defScope s_portion_reached) := ⟨rfl, rfl, rfl, by decide +kernel, rfl, by decide +kernel, by decide +kernel⟩
theorem ok_portion (C_minus : Cal P w K mg base CX0 3 "minus" ["one", "two"] spMinus) (C_over : Cal P w K mg base CX0 3 "over" ["one", "two"] spOver) (F : Fun K "portion_reached" "portion_reached" s_portion_reached f fd) : FnOk P w K mg base CX0 4 f fd ["start", "end", "amount"] spPortion := by
  refine F.ok sc_portion_reached (fun vs H Q E h => ?_) (fun cdv A outer s H vs Q E hr h => ?_)
  · obtain ⟨G, a, _, h, _⟩ := h
    rw [← h.len]; rfl
  obtain ⟨G, ⟨s', e', x⟩, eG, hA, ⟨⟨m, n, z1, z2, z3, hz⟩, hne⟩, k⟩ := h
  obtain ⟨v1, v2, v3, rfl, al⟩ := isAll3 hA
  have S : Sta H G H [] _ := Sta.enter eG al
  dsimp only at z1 z2 z3 hne k S
  refine ⟨_, (pss_one (ps_ret (pe_cal C_over hr (by first | decide | exact Nat.le_refl _ | omega) pass0 rfl (pa_cons (pe_cal C_minus hr (by first | decide | exact Nat.le_refl _ | omega) pass0 rfl (pa_cons (pv 2) (pa_cons (pv 0) pa_nil))) (pa_cons (pe_cal C_minus hr (by first | decide | exact Nat.le_refl _ | omega) pass0 rfl (pa_cons (pv 1) (pa_cons (pv 0) pa_nil))) pa_nil))))), rd_start ?_⟩
  walk_at "walk"
  refine rd_q2 S (.mem (by walk_at "mem")) (.mem (by walk_at "mem")) z3 z1 (by omega) True.intro fun r1 H1 e1 S1 => ?_
  walk_at "walk"
  refine rd_q2 S1 (.mem (by walk_at "mem")) (.mem (by walk_at "mem")) z2 z1 (by omega) True.intro fun r2 H2 e2 S2 => ?_
  walk_at "walk"
  refine rd_q2 S2 (.mem (by walk_at "mem")) (.mem (by walk_at "mem")) (z3.sub z1) (z2.sub z1) (by omega) (fun z => hne (by grind)) fun r3 H3 e3 S3 => ?_
  exact ret_T S3 k (.mem (by walk_at "mem"))
abbrev s_amount_at : Stmt := top 17
theorem sc_amount_at : FnScope ["start", "end", "portion"] ["start", "end", "portion"] (defScope s_amount_at) := ⟨rfl, rfl, rfl, by decide +kernel, rfl, by decide +kernel, by decide +kernel⟩
theorem ok_amount (C_plus : Cal P w K mg base CX0 3 "plus" ["one", "two"] spPlus) (C_minus : Cal P w K mg base CX0 3 "minus" ["one", "two"] spMinus) (C_times : Cal P w K mg base CX0 3 "times" ["one", "two"] spTimes) (F : Fun K "amount_at" "amount_at" s_amount_at f fd) : FnOk P w K mg base CX0 4 f fd ["start", "end", "portion"] spAmount := by
  refine F.ok sc_amount_at (fun vs H Q E h => ?_) (fun cdv A outer s H vs Q E hr h => ?_)
  · obtain ⟨G, a, _, h, _⟩ := h
    rw [← h.len]; rfl
  obtain ⟨G, ⟨s', e', t⟩, eG, hA, ⟨m, n, z1, z2, z3, hz⟩, k⟩ := h
  obtain ⟨v1, v2, v3, rfl, al⟩ := isAll3 hA
  have S : Sta H G H [] _ := Sta.enter eG al
  dsimp only at z1 z2 z3 k S
  refine ⟨_, (pss_one (ps_ret (pe_cal C_plus hr (by first | decide | exact Nat.le_refl _ | omega) pass0 rfl (pa_cons (pv 0) (pa_cons (pe_cal C_times hr (by first | decide | exact Nat.le_refl _ | omega) pass0 rfl (pa_cons (pv 2) (pa_cons (pe_cal C_minus hr (by first | decide | exact Nat.le_refl _ | omega) pass0 rfl (pa_cons (pv 1) (pa_cons (pv 0) pa_nil))) pa_nil))) pa_nil))))), rd_start ?_⟩
  walk_at "walk"
  refine rd_q2 S (.mem (by walk_at "mem")) (.mem (by walk_at "mem")) z2 z1 (by omega) True.intro fun r1 H1 e1 S1 => ?_
  walk_at "walk"
  refine rd_q2 S1 (.mem (by walk_at "mem")) (.mem (by walk_at "mem")) z3 (z2.sub z1) (by omega) True.intro fun r2 H2 e2 S2 => ?_
  walk_at "walk"
  refine rd_q2 S2 (.mem (by walk_at "mem")) (.mem (by walk_at "mem")) z1 (z3.mul (z2.sub z1)) (by omega) True.intro fun r3 H3 e3 S3 => ?_
  exact ret_T S3 k (.mem (by walk_at "mem"))
abbrev s_parts_between : Stmt := top 15
theorem sc_parts_between : FnScope ["start", "end", "purse", "portion"] ["start", "end", "purse"] (defScope s_parts_between) := ⟨rfl, rfl, rfl, by decide +kernel, rfl, by decide +kernel, by decide +kernel⟩
theorem ok_between (B : Bl mg) (C_portion_reached : Cal P w K mg base CX0 4 "portion_reached" ["start", "end", "amount"] spPortion) (C_amount_at : Cal P w K mg base CX0 4 "amount_at" ["start", "end", "portion"] spAmount) (F : Fun K "parts_between" "parts_between" s_parts_between f fd) : FnOk P w K mg base CX0 5 f fd ["start", "end", "purse"] spBetween := by
  refine F.ok sc_parts_between (fun vs H Q E h => ?_) (fun cdv A outer s H vs Q E hr h => ?_)
  · obtain ⟨G, a, _, h, _⟩ := h
    rw [← h.len]; rfl
  obtain ⟨G, ⟨c, d, e⟩, eG, hA, ⟨⟨m, n, z1, z2, z3, hz⟩, hlt, hl⟩, k⟩ := h
  obtain ⟨v1, v2, v3, rfl, al⟩ := isAll3 hA
  have S : Sta H G H [] _ := Sta.enter eG al
  dsimp only at z1 z2 z3 hlt hl k S
  refine ⟨_, (pss_cons (ps_set (i := 3) sc_parts_between.nd rfl (by first | exact Or.inl rfl | exact Or.inr rfl) (pe_cal C_portion_reached hr (by first | decide | exact Nat.le_refl _ | omega) pass0 rfl (pa_cons (pe_ix ix_seq (pv 0) pe_int (fun _ _ => rfl)) (pa_cons (pe_ix ix_seq (pv 1) pe_int (fun _ _ => rfl)) (pa_cons (pv 2) pa_nil))))) (pss_one (ps_ret (pe_callTy call_tupleA rfl B.tuple bt_tuple (pa_cons (pe_comp (N := ["one", "two", "portion"]) (n := 2) (fr := [3]) rfl ⟨rfl, by decide +kernel, rfl, by decide, rfl, rfl, rfl, rfl, rfl⟩ (pi_zip false false rfl B.zip (pa_cons (pe_ix ix_seq (pv 0) pe_int (fun _ _ => rfl)) (pa_cons (pe_ix ix_seq (pv 1) pe_int (fun _ _ => rfl)) pa_nil))) (fun _ _ _ _ => (pg_tup rfl (pgs_cons (pg_name (i := 0) (show (["one", "two", "portion"] : List Str).Nodup from by decide +kernel) rfl (by first | exact Or.inl rfl | exact Or.inr rfl)) (pgs_cons (pg_name (i := 1) (show (["one", "two", "portion"] : List Str).Nodup from by decide +kernel) rfl (by first | exact Or.inl rfl | exact Or.inr rfl)) pgs_nil)))) (fun _ _ _ _ => pif_nil) (fun _ _ _ _ => (pe_cal C_amount_at hr (by first | decide | exact Nat.le_refl _ | omega) pass0 rfl (pa_cons (pv 0) (pa_cons (pv 1) (pa_cons (pv 2) pa_nil)))))) pa_nil))))), rd_start ?_⟩
  walk_at "walk"
  rename_i w1 S1 w2 S2
  refine rd_portion S2 (.mem (by walk_at "mem")) (.mem (by walk_at "mem")) (.mem (by walk_at "mem")) z1.1 z2.1 z3 (by omega) (fun z => by rw [z] at hlt; exact Rat.lt_irrefl hlt) fun r3 H3 e3 S3 => ?_
  have zt : SzQ (m + 3 * n + 2) ((e - c.1) / (d.1 - c.1)) := ((z3.sub z1.1).div (z2.1.sub z1.1)).mono (by omega)
  walk_at "walk"
  rename_i w4 S4 w5 S5
  unfold betw at k
  generalize (e - c.1) / (d.1 - c.1) = t at *
  refine rd_kZiTT (xs := c.2.map frD) (ys := d.2.map frD) S5 (.mem (by walk_at "mem")) (.mem (by walk_at "mem")) fun J wk => ?_
  refine comp_map wk (fun j => frD ((List.zipWith (mixR t) c.2 d.2).getD j 0)) (ys := (List.zipWith (mixR t) c.2 d.2).map frD) ?_ S5 (fun _ _ => ⟨.mem (by walk_at "mem"), fun _ _ h => h.tail, .mem (by walk_at "mem")⟩) (by rw [zipD_len, List.length_map, List.length_map]; omega) (fun j x v B' G' Kd Kn hx t1 S hd C ex s0 H0 => ?_) fun D H1 e1 S1 => ?_
  · rw [zipD_len, List.length_map, List.length_map, show min c.2.length d.2.length = (List.zipWith (mixR t) c.2 d.2).length by rw [List.length_zipWith]]
    exact range_getD frD 0 _
  · obtain ⟨x1, x2, h1, h2, rfl⟩ := zipD_at hx
    obtain ⟨n1, hn1, rfl⟩ := mapAt h1
    obtain ⟨n2, hn2, rfl⟩ := mapAt h2
    refine rd_gTup (rd_kGT2 S (.mem (by walk_at "mem")) fun w1 w2 S => ?_)
    refine rd_gCons (rd_name (rd_gCons (rd_name (rd_gNil ⟨rfl, ?_⟩))))
    walk_at "walk"
    refine rd_amount S (.mem (by walk_at "mem")) (.mem (by walk_at "mem")) (.mem (by walk_at "mem")) (z1.2 n1 (List.mem_of_getElem? hn1)) (z2.2 n2 (List.mem_of_getElem? hn2)) zt (by omega) fun r6 H6 e6 S6 => ?_
    refine hd S6 ?_
    rw [getD_of (n := mixR t n1 n2) (by rw [List.getElem?_zipWith, hn1, hn2])]
    exact .mem (by walk_at "mem")
  walk_at "walk"
  exact ret_T (by assumption) k (.mem (by walk_at "mem"))
abbrev s_parts_at : Stmt := top 13
theorem sc_parts_at : FnScope ["path", "purse", "place"] ["path", "purse"] (defScope s_parts_at) := ⟨rfl, rfl, rfl, by decide +kernel, rfl, by decide +kernel, by decide +kernel⟩
theorem ok_partsat (B : Bl mg) (C_last_reached : Cal P w K mg base CX0 2 "last_reached" ["amounts", "amount"] spLast) (C_parts_between : Cal P w K mg base CX0 5 "parts_between" ["start", "end", "purse"] spBetween) (F : Fun K "parts_at" "parts_at" s_parts_at f fd) : FnOk P w K mg base CX0 6 f fd ["path", "purse"] spPartsAt := by
  refine F.ok sc_parts_at (fun vs H Q E h => ?_) (fun cdv A outer s H vs Q E hr h => ?_)
  · obtain ⟨G, a, _, h, _⟩ := h
    rw [← h.len]; rfl
  obtain ⟨G, ⟨a, e⟩, eG, hA, ⟨m, n, ok, ze, hz, h0⟩, k⟩ := h
  obtain ⟨v1, v2, rfl, al⟩ := isAll2 hA
  have S : Sta H G H [] _ := Sta.enter eG al
  dsimp only at ok ze h0 k S
  have few := ok.few
  have hn0 : ¬ e.num < 0 := by
    have := Rat.num_nonneg.mpr h0
    omega
  have la : 0 < a.length := List.length_pos_iff.mpr ok.ne
  refine ⟨_, (pss_cons (ps_if (pt_cmpR op_lt (pe_ix ix_seq (pv 1) pe_int (fun _ _ => rfl)) pe_int (nomark _)) (pss_one ps_never) pss_nil) (pss_cons (ps_set (i := 2) sc_parts_at.nd rfl (by first | exact Or.inl rfl | exact Or.inr rfl) (pe_cal C_last_reached hr (by first | decide | exact Nat.le_refl _ | omega) pass0 rfl (pa_cons (pe_comp (N := ["corner"]) (n := 1) (fr := []) rfl ⟨rfl, by decide +kernel, rfl, by decide, rfl, rfl, rfl, rfl, rfl⟩ (pi_list (pv 0)) (fun _ _ _ _ => (pg_name (i := 0) (show (["corner"] : List Str).Nodup from by decide +kernel) rfl (by first | exact Or.inl rfl | exact Or.inr rfl))) (fun _ _ _ _ => pif_nil) (fun _ _ _ _ => (pe_ix ix_seq (pv 0) pe_int (fun _ _ => rfl)))) (pa_cons (pv 1) pa_nil)))) (pss_cons (ps_if (pt_cmpR (op_eqA (units_of hr)) (pv 2) (pe_op op_sub (pe_callB call_lenA rfl B.len bt_len (pa_cons (pv 0) pa_nil)) pe_int) (nomark _)) (pss_one (ps_ret (pe_ix ix_seq (pe_ix ix_seq (pv 0) (pv 2) (fun _ _ => rfl)) pe_int (fun _ _ => rfl)))) pss_nil) (pss_one (ps_ret (pe_cal C_parts_between hr (by first | decide | exact Nat.le_refl _ | omega) pass0 rfl (pa_cons (pe_ix ix_seq (pv 0) (pv 2) (fun _ _ => rfl)) (pa_cons (pe_ix ix_seq (pv 0) (pe_op op_addA (pv 2) pe_int) (fun _ _ => rfl)) (pa_cons (pv 1) pa_nil))))))))), rd_start ?_⟩
  walk_at "walk"
  refine iteD (fun c => absurd c hn0) (fun _ => ?_)
  walk_at "walk"
  refine rd_kILd (xs := a.map cornD) S (.mem (by walk_at "mem")) fun J wk => ?_
  refine comp_map wk (fun j => frD ((fun c : Corner => c.1) (a.getD j (0, [])))) (ys := (a.map fun c => c.1).map frD) (by rw [List.length_map, List.map_map]; exact range_getD (fun c : Corner => frD c.1) (0, []) a) S (fun _ _ => .mem (by walk_at "mem")) (by rw [List.length_map]; omega) (fun j x v B' G' Kd Kn hx t1 S hd C ex s0 H0 => ?_) fun D H1 e1 S1 => ?_
  · obtain ⟨c, hc, rfl⟩ := mapAt hx
    refine rd_name ⟨rfl, ?_⟩
    walk_at "walk"
    refine hd (by assumption) ?_
    rw [getD_of hc]
    exact .mem (by walk_at "mem")
  walk_at "walk"
  refine rd_last (qs := a.map fun c => c.1) (e := e) (n := 9000) S1 (S1.hpC (by walk_at "mem")) (S1.hp (.mem (by walk_at "mem"))) ⟨by rw [List.length_map]; exact la, by rw [List.length_map]; omega, fun q hq => ?_, ze.mono (by omega), by decide, fun q hq => ?_⟩ fun i q hi hqe hnx => ?_
  · obtain ⟨c, hc, rfl⟩ := List.mem_map.mp hq
    exact (ok.sz c hc).1.mono (by omega)
  · obtain ⟨c, hc, rfl⟩ := mapAt hq
    rw [ok.zero c hc]
    exact h0
  obtain ⟨c, hc, rfl⟩ := mapAt hi
  have hil : i < a.length := (List.getElem?_eq_some_iff.mp hc).1
  have key := partsV_at (E := e) ok.rise hc hqe (by
    rcases hnx with h | ⟨r, hr', h⟩
    · left; simpa using h
    · obtain ⟨d, hd, rfl⟩ := mapAt hr'
      exact .inr ⟨d, hd, h⟩)
  walk_at "walk"
  refine iteD (fun c1 => ?_) (fun c1 => ?_)
  · rw [List.length_map] at c1
    rw [List.getElem?_eq_none (show a.length ≤ i + 1 by omega)] at key
    walk_at "walk"
    refine rd_ixL (xs := a.map cornD) (x := cornD c) S1 (.mem (by walk_at "mem")) (atI_nat (by rw [List.getElem?_map, hc]; rfl)) fun wc S2 => ?_
    walk_at "walk"
    rw [key] at k
    exact ret_T (by assumption) k (.mem (by walk_at "mem"))
  · rw [List.length_map] at c1
    have hlt : i + 1 < a.length := by omega
    have hd := List.getElem?_eq_getElem hlt
    have hr' := ok.rise
    unfold Rising at hr'
    rw [List.pairwise_iff_getElem] at hr'
    have hcd := hr' i (i + 1) hil hlt (by omega)
    rw [List.getElem_eq_iff hil |>.mpr hc] at hcd
    generalize a[i + 1] = d at *
    rw [hd] at key
    walk_at "walk"
    refine rd_ixL (xs := a.map cornD) (x := cornD c) S1 (.mem (by walk_at "mem")) (atI_nat (by rw [List.getElem?_map, hc]; rfl)) fun wc S2 => ?_
    walk_at "walk"
    refine rd_ixL (xs := a.map cornD) (x := cornD d) S2 (.mem (by walk_at "mem")) (by rw [show ((i : Nat) : Int) + 1 = ((i + 1 : Nat) : Int) by omega]; exact atI_nat (by rw [List.getElem?_map, hd]; rfl)) fun wd S3 => ?_
    walk_at "walk"
    refine rd_between S3 (.mem (by walk_at "mem")) (.mem (by walk_at "mem")) (.mem (by walk_at "mem")) (ok.sz c (List.mem_of_getElem? hc)) (ok.sz d (List.mem_of_getElem? hd)) ze hz hcd (ok.len c (List.mem_of_getElem? hc)) fun r4 H4 e4 S4 => ?_
    rw [key] at k
    exact ret_T S4 k (.mem (by walk_at "mem"))

abbrev s_merged : Stmt := top 21
theorem sc_merged : FnScope ["ones", "twos", "numbers", "one", "two"] ["ones", "twos"] (defScope s_merged) := ⟨rfl, rfl, rfl, by decide +kernel, rfl, by decide +kernel, by decide +kernel⟩
theorem ok_merged (B : Bl mg) (C_before : Cal P w K mg base CX0 1 "before" ["one", "two"] spBefore) (F : Fun K "merged" "merged" s_merged f fd) : FnOk P w K mg base CX0 2 f fd ["ones", "twos"] spMerged := by
  refine F.ok sc_merged (fun vs H Q E h => ?_) (fun cdv A outer s H vs Q E hr h => ?_)
  · obtain ⟨G, a, _, h, _⟩ := h
    rw [← h.len]; rfl
  obtain ⟨G, ⟨p, q⟩, eG, hA, ⟨⟨n, z1, z2, hn⟩, l1, l2⟩, k⟩ := h
  obtain ⟨v1, v2, rfl, al⟩ := isAll2 hA
  have S : Sta H G H [] [(.list (p.map frD), v1), (.list (q.map frD), v2)] := Sta.enter eG al
  dsimp only at z1 z2 l1 l2 k
  have h2n : n + n ≤ 100000000 := by omega
  refine ⟨_, (pss_cons (ps_set (i := 2) sc_merged.nd rfl (by first | exact Or.inl rfl | exact Or.inr rfl) (pe_lst pa_nil)) (pss_cons (ps_set (i := 3) sc_merged.nd rfl (by first | exact Or.inl rfl | exact Or.inr rfl) pe_int) (pss_cons (ps_set (i := 4) sc_merged.nd rfl (by first | exact Or.inl rfl | exact Or.inr rfl) pe_int) (pss_cons (ps_while PassesOwn.never (PW.pt (pw_and (pt_cmpR op_lt (pv 3) (pe_callB call_lenA rfl B.len bt_len (pa_cons (pv 0) pa_nil)) (nomark _)) (pw_and1 (pt_cmpR op_lt (pv 4) (pe_callB call_lenA rfl B.len bt_len (pa_cons (pv 1) pa_nil)) (nomark _))))) (pss_one (ps_if (pt_val (pe_cal C_before hr (by first | decide | exact Nat.le_refl _ | omega) pass0 rfl (pa_cons (pe_ix ix_seq (pv 0) (pv 3) (fun _ _ => rfl)) (pa_cons (pe_ix ix_seq (pv 1) (pv 4) (fun _ _ => rfl)) pa_nil)))) (pss_cons (ps_expr (pe_bm PySem.F.plainAttrs_list PySem.F.slot_list_append PySem.F.type_list_append mt_append (pv 2) (pa_cons (pe_ix ix_seq (pv 0) (pv 3) (fun _ _ => rfl)) pa_nil))) (pss_one (ps_aug (i := 3) sc_merged.nd rfl (by first | exact Or.inl rfl | exact Or.inr rfl) pe_int ip_add))) (pss_cons (ps_if (pt_cmpR (op_eqA (units_of hr)) (pe_ix ix_seq (pv 0) (pv 3) (fun _ _ => rfl)) (pe_ix ix_seq (pv 1) (pv 4) (fun _ _ => rfl)) (nomark _)) (pss_one (ps_aug (i := 3) sc_merged.nd rfl (by first | exact Or.inl rfl | exact Or.inr rfl) pe_int ip_add)) pss_nil) (pss_cons (ps_expr (pe_bm PySem.F.plainAttrs_list PySem.F.slot_list_append PySem.F.type_list_append mt_append (pv 2) (pa_cons (pe_ix ix_seq (pv 1) (pv 4) (fun _ _ => rfl)) pa_nil))) (pss_one (ps_aug (i := 4) sc_merged.nd rfl (by first | exact Or.inl rfl | exact Or.inr rfl) pe_int ip_add))))))) (pss_one (ps_ret (pe_op op_addA (pe_op op_addA (pv 2) (pe_slice sl_list (pv 0) (po_some (pv 3)) po_none)) (pe_slice sl_list (pv 1) (po_some (pv 4)) po_none)))))))), rd_start ?_⟩
  walk_at "walk"
  rename_i pn H1 e1 S1
  refine while_sta (fun m σ cs ds => ∃ (i j : Nat) (ns : List Rat), σ = [some v1, some v2, some (.ref pn), some (.int (i : Nat)), some (.int (j : Nat))] ∧ cs = [(pn, ns.map frD)] ∧ ds = [(.list (p.map frD), v1), (.list (q.map frD), v2)] ∧ i ≤ p.length ∧ j ≤ q.length ∧ ns.length ≤ i + j ∧ ns ++ mergeV (p.drop i) (q.drop j) = mergeV p q ∧ m = (p.length - i) + (q.length - j)) ((p.length - 0) + (q.length - 0)) S1 ⟨0, 0, [], rfl, rfl, rfl, Nat.zero_le _, Nat.zero_le _, Nat.zero_le _, rfl, rfl⟩ ?_
  rintro m σ H2 cs ds ⟨i, j, ns, rfl, rfl, rfl, hi, hj, hns, hmg, rfl⟩ S2
  have cd : ∀ (l : List Rat) (t : Nat), t ≤ l.length → cutD (l.map frD) (some ((t : Nat) : Int)) none = (l.drop t).map frD := by
    intro l t ht
    unfold cutD
    rw [HT.sIx_none, HT.sIx_nat, List.length_map, Nat.min_eq_left ht, List.take_of_length_le (by rw [List.length_drop, List.length_map]; exact Nat.le_refl _), ← List.map_drop]
  walk_at "walk"
  refine iteD (fun c1 => ?_) (fun c1 => ?_)
  · rw [List.length_map] at c1
    walk_at "walk"
    refine rd_wh (fun c2 => ?_) (fun c2 => ?_)
    · rw [List.length_map, decide_eq_true_eq] at c2
      have hi' : i < p.length := by omega
      have hj' : j < q.length := by omega
      have gi := List.getElem?_eq_getElem hi'
      have gj := List.getElem?_eq_getElem hj'
      have di := List.drop_eq_getElem_cons hi'
      have dj := List.drop_eq_getElem_cons hj'
      have zi := z1 _ (List.getElem_mem hi')
      have zj := z2 _ (List.getElem_mem hj')
      generalize p[i] = x at *
      generalize q[j] = y at *
      have ix : atI (p.map frD) ((i : Nat) : Int) = some (frD x) := atI_nat (by rw [List.getElem?_map, gi]; rfl)
      have iy : atI (q.map frD) ((j : Nat) : Int) = some (frD y) := atI_nat (by rw [List.getElem?_map, gj]; rfl)
      rw [di, dj, mergeV] at hmg
      walk_at "walk"
      refine rd_ixL (xs := p.map frD) (x := frD x) S2 (.mem (by walk_at "mem")) ix fun w3 S3 => ?_
      walk_at "walk"
      refine rd_ixL (xs := q.map frD) (x := frD y) S3 (.mem (by walk_at "mem")) iy fun w4 S4 => ?_
      walk_at "walk"
      refine rd_before S4 (.mem (by walk_at "mem")) (.mem (by walk_at "mem")) zi zj h2n ?_
      walk_at "walk"
      refine iteD (fun c3 => ?_) (fun c3 => ?_)
      · rw [if_pos c3] at hmg
        walk_at "walk"
        refine rd_ixL (xs := p.map frD) (x := frD x) S4 (.mem (by walk_at "mem")) ix fun w5 S5 => ?_
        walk_at "walk"
        refine rd_append (y := frD x) S5 (.mem (by walk_at "mem")) (by rw [List.length_map]; omega) fun H6 S6 => ?_
        walk_at "walk"
        refine ⟨_, ?_, _, _, S6.dat (by walk_at "dats"), i + 1, j, ns ++ [x], rfl, by rw [List.map_append]; rfl, rfl, hi', hj, by rw [List.length_append, List.length_singleton]; omega, ?_, rfl⟩
        · omega
        · rw [← hmg, dj, List.append_assoc]; rfl
      · rw [if_neg c3] at hmg
        walk_at "walk"
        refine rd_ixL (xs := p.map frD) (x := frD x) S4 (.mem (by walk_at "mem")) ix fun w5 S5 => ?_
        walk_at "walk"
        refine rd_ixL (xs := q.map frD) (x := frD y) S5 (.mem (by walk_at "mem")) iy fun w6 S6 => ?_
        refine rd_eqD (x := frD x) (y := frD y) (S6.hp (.mem (by walk_at "mem"))) (S6.hp (.mem (by walk_at "mem"))) (shaped_frD _) (shaped_frD _) ?_
        rw [eqv_frD]
        walk_at "walk"
        refine iteD (fun c4 => ?_) (fun c4 => ?_)
        · rw [if_pos c4] at hmg
          walk_at "walk"
          refine rd_ixL (xs := q.map frD) (x := frD y) S6 (.mem (by walk_at "mem")) iy fun w7 S7 => ?_
          walk_at "walk"
          refine rd_append (y := frD y) S7 (.mem (by walk_at "mem")) (by rw [List.length_map]; omega) fun H8 S8 => ?_
          walk_at "walk"
          refine ⟨_, ?_, _, _, S8.dat (by walk_at "dats"), i + 1, j + 1, ns ++ [y], rfl, by rw [List.map_append]; rfl, rfl, hi', hj', by rw [List.length_append, List.length_singleton]; omega, ?_, rfl⟩
          · omega
          · rw [← hmg, List.append_assoc]; rfl
        · rw [if_neg c4] at hmg
          walk_at "walk"
          refine rd_ixL (xs := q.map frD) (x := frD y) S6 (.mem (by walk_at "mem")) iy fun w7 S7 => ?_
          walk_at "walk"
          refine rd_append (y := frD y) S7 (.mem (by walk_at "mem")) (by rw [List.length_map]; omega) fun H8 S8 => ?_
          walk_at "walk"
          refine ⟨_, ?_, _, _, S8.dat (by walk_at "dats"), i, j + 1, ns ++ [y], rfl, by rw [List.map_append]; rfl, rfl, hi, hj', by rw [List.length_append, List.length_singleton]; omega, ?_, rfl⟩
          · omega
          · rw [← hmg, di, List.append_assoc]; rfl
    · rw [List.length_map, decide_eq_false_iff_not] at c2
      have hend : p.length ≤ i ∨ q.length ≤ j := .inr (by omega)
      walk_at "walk"
      refine rd_slL (xs := p.map frD) S2 (.mem (by walk_at "mem")) fun l3 H3 e3 S3 => ?_
      rw [cd p i hi] at S3
      refine rd_addL S3 (S3.vwC (by walk_at "mem")) (S3.vwC (by walk_at "mem")) (by rw [List.length_map, List.length_map, List.length_drop]; omega) fun p4 H4 e4 S4 => ?_
      walk_at "walk"
      refine rd_slL (xs := q.map frD) S4 (.mem (by walk_at "mem")) fun l5 H5 e5 S5 => ?_
      rw [cd q j hj] at S5
      refine rd_addL S5 (S5.vwC (by walk_at "mem")) (S5.vwC (by walk_at "mem")) (by rw [List.length_append, List.length_map, List.length_map, List.length_map, List.length_drop, List.length_drop]; omega) fun p6 H6 e6 S6 => ?_
      refine rd_rt0 ?_
      have em : (ns.map frD ++ (p.drop i).map frD) ++ (q.drop j).map frD = (mergeV p q).map frD := by
        rw [← hmg, List.map_append, List.append_assoc]
        congr 1
        rcases hend with h | h
        · rw [List.drop_eq_nil_of_le h, mergeV]; simp
        · rw [List.drop_eq_nil_of_le h, mergeV_nilr]; simp
      rw [em] at S6
      exact ret_L (S6.weak (cs' := [_]) (by walk_at "sub") Dats.nil) k
  · rw [List.length_map] at c1
    have hend : p.length ≤ i ∨ q.length ≤ j := .inl (by omega)
    refine rd_wh (fun h => by cases h) (fun _ => ?_)
    walk_at "walk"
    refine rd_slL (xs := p.map frD) S2 (.mem (by walk_at "mem")) fun l3 H3 e3 S3 => ?_
    rw [cd p i hi] at S3
    refine rd_addL S3 (S3.vwC (by walk_at "mem")) (S3.vwC (by walk_at "mem")) (by rw [List.length_map, List.length_map, List.length_drop]; omega) fun p4 H4 e4 S4 => ?_
    walk_at "walk"
    refine rd_slL (xs := q.map frD) S4 (.mem (by walk_at "mem")) fun l5 H5 e5 S5 => ?_
    rw [cd q j hj] at S5
    refine rd_addL S5 (S5.vwC (by walk_at "mem")) (S5.vwC (by walk_at "mem")) (by rw [List.length_append, List.length_map, List.length_map, List.length_map, List.length_drop, List.length_drop]; omega) fun p6 H6 e6 S6 => ?_
    refine rd_rt0 ?_
    have em : (ns.map frD ++ (p.drop i).map frD) ++ (q.drop j).map frD = (mergeV p q).map frD := by
      rw [← hmg, List.map_append, List.append_assoc]
      congr 1
      rcases hend with h | h
      · rw [List.drop_eq_nil_of_le h, mergeV]; simp
      · rw [List.drop_eq_nil_of_le h, mergeV_nilr]; simp
    rw [em] at S6
    exact ret_L (S6.weak (cs' := [_]) (by walk_at "sub") Dats.nil) k

abbrev s_purses_reaching : Stmt := top 19
theorem sc_purses_reaching : FnScope ["path", "place", "levels", "amounts", "purses", "level", "reached", "portion"] ["path", "place", "levels"] (defScope s_purses_reaching) := ⟨rfl, rfl, rfl, by decide +kernel, rfl, by decide +kernel, by decide +kernel⟩
theorem ok_reach (B : Bl mg) (C_last_reached : Cal P w K mg base CX0 2 "last_reached" ["amounts", "amount"] spLast) (C_portion_reached : Cal P w K mg base CX0 4 "portion_reached" ["start", "end", "amount"] spPortion) (C_amount_at : Cal P w K mg base CX0 4 "amount_at" ["start", "end", "portion"] spAmount) (F : Fun K "purses_reaching" "purses_reaching" s_purses_reaching f fd) : FnOk P w K mg base CX0 5 f fd ["path", "place", "levels"] spReach := by
  refine F.ok sc_purses_reaching (fun vs H Q E h => ?_) (fun cdv A outer s H vs Q E hr h => ?_)
  · obtain ⟨G, a, _, h, _⟩ := h
    rw [← h.len]; rfl
  obtain ⟨G, ⟨a, kk, L⟩, eG, hA, ⟨m, n, b, ok⟩, k⟩ := h
  obtain ⟨v1, v2, v3, rfl, al⟩ := isAll3 hA
  have S : Sta H G H [] [(pathD a, v1), (.int (kk : Nat), v2), (.list (L.map frD), v3)] := Sta.enter eG al
  dsimp only at ok k
  cases (S.hp (x := .int (kk : Nat)) (v := v2) (.mem (by walk_at "mem"))).int_of
  have la : 0 < a.length := List.length_pos_iff.mpr ok.pr.ne
  have fa := ok.pr.few
  have fl := ok.few
  have hz := ok.sz
  refine ⟨_, (pss_cons (ps_setComp (i := 3) (N := ["corner", "place"]) (n := 1) (fr := [1]) sc_purses_reaching.nd rfl rfl rfl ⟨rfl, by decide +kernel, rfl, by decide, rfl, rfl, rfl, rfl, rfl⟩ (pi_list (pv 0)) (fun _ _ _ _ => (pg_name (i := 0) (show (["corner", "place"] : List Str).Nodup from by decide +kernel) rfl (by first | exact Or.inl rfl | exact Or.inr rfl))) (fun _ _ _ _ => pif_nil) (fun _ _ _ _ => (pe_ix ix_seq (pe_ix ix_seq (pv 0) pe_int (fun _ _ => rfl)) (pv 1) (fun _ _ => rfl)))) (pss_cons (ps_set (i := 4) sc_purses_reaching.nd rfl (by first | exact Or.inl rfl | exact Or.inr rfl) (pe_lst pa_nil)) (pss_cons (ps_for PassesOwn.never rfl (pi_list (pv 2)) (pg_name (i := 5) sc_purses_reaching.nd rfl (by first | exact Or.inl rfl | exact Or.inr rfl)) (pss_cons (ps_set (i := 6) sc_purses_reaching.nd rfl (by first | exact Or.inl rfl | exact Or.inr rfl) (pe_cal C_last_reached hr (by first | decide | exact Nat.le_refl _ | omega) pass0 rfl (pa_cons (pv 3) (pa_cons (pv 5) pa_nil)))) (pss_one (ps_if (pt_cmpR op_lt (pv 6) (pe_op op_sub (pe_callB call_lenA rfl B.len bt_len (pa_cons (pv 0) pa_nil)) pe_int) (nomark _)) (pss_cons (ps_set (i := 7) sc_purses_reaching.nd rfl (by first | exact Or.inl rfl | exact Or.inr rfl) (pe_cal C_portion_reached hr (by first | decide | exact Nat.le_refl _ | omega) pass0 rfl (pa_cons (pe_ix ix_seq (pv 3) (pv 6) (fun _ _ => rfl)) (pa_cons (pe_ix ix_seq (pv 3) (pe_op op_addA (pv 6) pe_int) (fun _ _ => rfl)) (pa_cons (pv 5) pa_nil))))) (pss_one (ps_expr (pe_bm PySem.F.plainAttrs_list PySem.F.slot_list_append PySem.F.type_list_append mt_append (pv 4) (pa_cons (pe_cal C_amount_at hr (by first | decide | exact Nat.le_refl _ | omega) pass0 rfl (pa_cons (pe_ix ix_seq (pe_ix ix_seq (pv 0) (pv 6) (fun _ _ => rfl)) pe_int (fun _ _ => rfl)) (pa_cons (pe_ix ix_seq (pe_ix ix_seq (pv 0) (pe_op op_addA (pv 6) pe_int) (fun _ _ => rfl)) pe_int (fun _ _ => rfl)) (pa_cons (pv 7) pa_nil)))) pa_nil))))) pss_nil)))) (pss_one (ps_ret (pv 4)))))), rd_start ?_⟩
  walk_at "walk"
  refine rd_kILd (xs := a.map cornD) S (.mem (by walk_at "mem")) fun J wk => ?_
  refine comp_map wk (fun j => frD ((fun c : Corner => c.2.getD kk 0) (a.getD j (0, [])))) (ys := (a.map fun c => c.2.getD kk 0).map frD) (by rw [List.length_map, List.map_map]; exact range_getD (fun c : Corner => frD (c.2.getD kk 0)) (0, []) a) S (fun _ _ => .mem (by walk_at "mem")) (by rw [List.length_map]; omega) (fun j x v B' G' Kd Kn hx t1 S hd C ex s0 H0 => ?_) fun D H1 e1 S1 => ?_
  · obtain ⟨c, hc, rfl⟩ := mapAt hx
    have gc := getD_some (l := c.2) (k := kk) (by rw [ok.pm.t.len c (List.mem_of_getElem? hc)]; exact ok.kn)
    refine rd_name ⟨rfl, ?_⟩
    walk_at "walk"
    rename_i w2 S2
    refine rd_ixT (xs := c.2.map frD) (x := frD (c.2.getD kk 0)) S2 (.mem (by walk_at "mem")) (atI_nat (by rw [List.getElem?_map, gc]; rfl)) fun w3 S3 => ?_
    refine hd S3 ?_
    rw [getD_of hc]
    exact .mem (by walk_at "mem")
  have S2 := S1.freeze
  clear S1
  walk_at "walk"
  rename_i pp H3 e3 S3
  have S4 : Sta H G H3 [(pp, [])] [(.list ((a.map fun c => c.2.getD kk 0).map frD), .ref D), (pathD a, v1), (.list (L.map frD), v3)] := S3.dat (by walk_at "dats")
  refine rd_kILd (xs := L.map frD) S4 (.mem (by walk_at "mem")) fun J wk => ?_
  refine for_wk wk (fun i σ cs ds => ∃ (x5 x6 x7 : Option V), σ = [some v1, some (.int (kk : Nat)), some v3, some (.ref D), some (.ref pp), x5, x6, x7] ∧ cs = [(pp, ((L.take i).filterMap (reach1 a kk)).map frD)] ∧ ds = [(.list ((a.map fun c => c.2.getD kk 0).map frD), .ref D), (pathD a, v1), (.list (L.map frD), v3)]) S4 ⟨none, none, none, rfl, rfl, rfl⟩ (fun i σ cs ds h => ?_) ?_ ?_
  · obtain ⟨_, _, _, _, _, rfl⟩ := h
    exact .mem (by walk_at "mem")
  · rintro i x u σ H5 cs ds hx ⟨x5, x6, x7, rfl, rfl, rfl⟩ S5
    obtain ⟨l, hl, rfl⟩ := mapAt hx
    obtain ⟨zl, l0⟩ := ok.lev l (List.mem_of_getElem? hl)
    have hil : i < L.length := (List.getElem?_eq_some_iff.mp hl).1
    have zq : ∀ c ∈ a, SzQ n (c.2.getD kk 0) := fun c hc => (ok.pr.sz c hc).2 _ (List.mem_of_getElem? (getD_some (l := c.2) (k := kk) (by rw [ok.pm.t.len c hc]; exact ok.kn)))
    have stepL : ∀ o : Option Rat, reach1 a kk l = o → ((L.take (i + 1)).filterMap (reach1 a kk)).map frD = ((L.take i).filterMap (reach1 a kk)).map frD ++ (o.toList.map frD) := fun o ho => by
      rw [List.take_add_one, hl, List.filterMap_append, List.map_append]
      congr 1
      cases o with
      | none => simp [ho]
      | some y => simp [ho]
    walk_at "walk"
    refine rd_last (qs := a.map fun c => c.2.getD kk 0) (e := l) (n := 9000) S5 (S5.hp (.mem (by walk_at "mem"))) (S5.hp (.mem (by walk_at "mem"))) ⟨by rw [List.length_map]; exact la, by rw [List.length_map]; omega, fun q hq => ?_, zl.mono (by omega), by decide, fun q hq => ?_⟩ fun r q hi hqe hnx => ?_
    · obtain ⟨c, hc, rfl⟩ := List.mem_map.mp hq
      exact (zq c hc).mono (by omega)
    · obtain ⟨c, hc, rfl⟩ := mapAt hq
      exact l0 c hc
    obtain ⟨c, hc, rfl⟩ := mapAt hi
    have hra : r < a.length := (List.getElem?_eq_some_iff.mp hc).1
    rw [List.length_map] at hnx
    walk_at "walk"
    refine iteD (fun c1 => ?_) (fun c1 => ?_)
    · rw [List.length_map] at c1
      obtain ⟨y, hy, hly⟩ : ∃ y, (a.map fun c => c.2.getD kk 0)[r + 1]? = some y ∧ l < y := by
        rcases hnx with h | h
        · omega
        · exact h
      obtain ⟨d, hd, rfl⟩ := mapAt hy
      have key : reach1 a kk l = some (mixR ((l - c.2.getD kk 0) / (d.2.getD kk 0 - c.2.getD kk 0)) c.1 d.1) := by
        have pm := ok.pm
        have okk := ok.kn
        obtain ⟨c0, r0, e0⟩ : ∃ c r, a = c :: r := by
          cases a with
          | nil => simp at hra
          | cons c r => exact ⟨c, r, rfl⟩
        rw [e0] at pm hc hd ⊢
        exact reach1_at okk pm hc hd hqe hly
      have zc := zq c (List.mem_of_getElem? hc)
      have zd := zq d (List.mem_of_getElem? hd)
      have z1 := (ok.pr.sz c (List.mem_of_getElem? hc)).1
      have z2 := (ok.pr.sz d (List.mem_of_getElem? hd)).1
      have er : ((r : Nat) : Int) + 1 = ((r + 1 : Nat) : Int) := by omega
      have hne : d.2.getD kk 0 ≠ c.2.getD kk 0 := fun z => by rw [z] at hly; exact Rat.not_le.mpr hly hqe
      have zt := SzQ.port zl zc zd
      have st := stepL _ key
      walk_at "walk"
      refine rd_ixL (xs := (a.map fun c => c.2.getD kk 0).map frD) (x := frD (c.2.getD kk 0)) S5 (.mem (by walk_at "mem")) (atI_nat (by rw [List.getElem?_map, hi]; rfl)) fun w6 S6 => ?_
      walk_at "walk"
      refine rd_ixL (xs := (a.map fun c => c.2.getD kk 0).map frD) (x := frD (d.2.getD kk 0)) S6 (.mem (by walk_at "mem")) (by rw [er]; exact atI_nat (by rw [List.getElem?_map, hy]; rfl)) fun w7 S7 => ?_
      walk_at "walk"
      generalize c.2.getD kk 0 = x0 at *
      generalize d.2.getD kk 0 = y0 at *
      refine rd_portion S7 (.mem (by walk_at "mem")) (.mem (by walk_at "mem")) (.mem (by walk_at "mem")) zc zd zl (by omega) hne fun r8 H8 e8 S8 => ?_
      generalize (l - x0) / (y0 - x0) = t at *
      walk_at "walk"
      refine rd_ixL (xs := a.map cornD) (x := cornD c) S8 (.mem (by walk_at "mem")) (atI_nat (by rw [List.getElem?_map, hc]; rfl)) fun w9 S9 => ?_
      walk_at "walk"
      rename_i w10 S10
      refine rd_ixL (xs := a.map cornD) (x := cornD d) S10 (.mem (by walk_at "mem")) (by rw [er]; exact atI_nat (by rw [List.getElem?_map, hd]; rfl)) fun w11 S11 => ?_
      walk_at "walk"
      rename_i w12 S12
      refine rd_amount S12 (.mem (by walk_at "mem")) (.mem (by walk_at "mem")) (.mem (by walk_at "mem")) z1 z2 zt (by omega) fun r13 H13 e13 S13 => ?_
      walk_at "walk"
      refine rd_append (y := frD (mixR t c.1 d.1)) S13 (.mem (by walk_at "mem")) ?_ fun H14 S14 => ?_
      · rw [List.length_map]
        have := List.length_filterMap_le (reach1 a kk) (L.take i)
        rw [List.length_take] at this
        omega
      walk_at "walk"
      exact rd_at (S14.dat (by walk_at "dats")) ⟨_, _, _, rfl, by rw [st]; rfl, rfl⟩
    · rw [List.length_map] at c1
      have hrl : r + 1 = a.length := by omega
      have key : reach1 a kk l = none := by
        have pm := ok.pm
        have okk := ok.kn
        obtain ⟨c0, r0, e0⟩ : ∃ c r, a = c :: r := by
          cases a with
          | nil => simp at hra
          | cons c r => exact ⟨c, r, rfl⟩
        rw [e0] at pm hc hrl ⊢
        refine reach1_end okk pm fun l' hl' => ?_
        rw [List.getLast?_eq_getElem?, ← hrl, Nat.add_sub_cancel, hc] at hl'
        cases hl'
        exact hqe
      have st := stepL _ key
      walk_at "walk"
      exact rd_at (S5.dat (by walk_at "dats")) ⟨_, _, _, rfl, by rw [st]; simp, rfl⟩
  · rintro σ H5 cs ds ⟨x5, x6, x7, rfl, rfl, rfl⟩ S5
    rw [List.length_map, List.take_length] at S5
    walk_at "walk"
    exact ret_L S5 k
abbrev s_parts_within : Stmt := top 20
theorem sc_parts_within : FnScope ["path", "others", "purse", "parts", "part", "other"] ["path", "others", "purse"] (defScope s_parts_within) := ⟨rfl, rfl, rfl, by decide +kernel, rfl, by decide +kernel, by decide +kernel⟩
theorem ok_pwithin (B : Bl mg) (C_parts_at : Cal P w K mg base CX0 6 "parts_at" ["path", "purse"] spPartsAt) (F : Fun K "parts_within" "parts_within" s_parts_within f fd) : FnOk P w K mg base CX0 7 f fd ["path", "others", "purse"] spPWithin := by
  refine F.ok sc_parts_within (fun vs H Q E h => ?_) (fun cdv A outer s H vs Q E hr h => ?_)
  · obtain ⟨G, a, _, h, _⟩ := h
    rw [← h.len]; rfl
  obtain ⟨G, ⟨a, Qs, e⟩, eG, hA, ⟨x, y, m, m2, ok⟩, k⟩ := h
  obtain ⟨v1, v2, v3, rfl, al⟩ := isAll3 hA
  have S : Sta H G H [] [(pathD a, v1), (.list (Qs.map pathD), v2), (frD e, v3)] := Sta.enter eG al
  dsimp only at ok k
  unfold flatQ at k
  have few := ok.few
  have len := ok.len
  have part := ok.part
  refine ⟨_, (pss_cons (ps_set (i := 3) sc_parts_within.nd rfl (by first | exact Or.inl rfl | exact Or.inr rfl) (pe_lst pa_nil)) (pss_cons (ps_for PassesOwn.never rfl (pi_zip false true rfl B.zip (pa_cons (pe_cal C_parts_at hr (by first | decide | exact Nat.le_refl _ | omega) pass0 rfl (pa_cons (pv 0) (pa_cons (pv 2) pa_nil))) (pa_cons (pv 1) pa_nil))) (pg_tup rfl (pgs_cons (pg_name (i := 4) sc_parts_within.nd rfl (by first | exact Or.inl rfl | exact Or.inr rfl)) (pgs_cons (pg_name (i := 5) sc_parts_within.nd rfl (by first | exact Or.inl rfl | exact Or.inr rfl)) pgs_nil))) (pss_one (ps_expr (pe_bm PySem.F.plainAttrs_list PySem.F.slot_list_extend PySem.F.type_list_extend mt_extendT (pv 3) (pa_cons (pe_cal C_parts_at hr (by first | decide | exact Nat.le_refl _ | omega) pass0 rfl (pa_cons (pv 5) (pa_cons (pv 4) pa_nil))) pa_nil))))) (pss_one (ps_ret (pe_callTy call_tupleA rfl B.tuple bt_tuple (pa_cons (pv 3) pa_nil)))))), rd_start ?_⟩
  walk_at "walk"
  rename_i pp H1 e1 S1
  refine rd_partsat (a := a) (e := e) (m := m) (n := x) S1 (.mem (by walk_at "mem")) (.mem (by walk_at "mem")) ok.p ok.ez ok.z1 ok.e0 fun r2 H2 e2 S2 => ?_
  walk_at "walk"
  generalize partsV a e = ps at *
  have S3 : Sta H G H2 [(pp, [])] [(partsD ps, r2), (.list (Qs.map pathD), v2)] := S2.dat (by walk_at "dats")
  refine rd_kZiTL (xs := ps.map frD) (ys := Qs.map pathD) S3 (.mem (by walk_at "mem")) (.mem (by walk_at "mem")) fun J wk => ?_
  refine for_wk wk (fun i σ cs ds => ∃ (x4 x5 : Option V), σ = [some v1, some v2, some v3, some (.ref pp), x4, x5] ∧ cs = [(pp, (((List.zipWith partsV Qs ps).take i).flatten).map frD)] ∧ ds = [(partsD ps, r2), (.list (Qs.map pathD), v2)]) S3 ⟨none, none, rfl, rfl, rfl⟩ (fun i σ cs ds h => ?_) ?_ ?_
  · obtain ⟨_, _, _, _, rfl⟩ := h
    exact ⟨.mem (by walk_at "mem"), fun _ _ h => h.tail, .mem (by walk_at "mem")⟩
  · rintro i z u σ H4 cs ds hz ⟨x4, x5, rfl, rfl, rfl⟩ S4
    obtain ⟨z1, z2, h1, h2, rfl⟩ := zipD_at hz
    obtain ⟨p, hp, rfl⟩ := mapAt h1
    obtain ⟨Q', hQ, rfl⟩ := mapAt h2
    have op := part p (List.mem_of_getElem? hp)
    obtain ⟨oq, ql⟩ := ok.q Q' (List.mem_of_getElem? hQ)
    refine rd_gTup (rd_kGT2 S4 (.mem (by walk_at "mem")) fun w4 w5 S5 => ?_)
    walk_at "walk"
    refine rd_partsat (a := Q') (e := p) (m := m2) (n := y) S5 (.mem (by walk_at "mem")) (.mem (by walk_at "mem")) oq op.1 ok.z2 op.2 fun r6 H6 e6 S6 => ?_
    walk_at "walk"
    refine rd_extendT (ys := (partsV Q' p).map frD) S6 (.mem (by walk_at "mem")) ?_ fun H7 S7 => ?_
    · rw [List.length_map, List.length_map]
      have l1 := flat_le (ps := ps) i fun Q hQ c hc => (ok.q Q hQ).2 c hc
      have l2 := partsV_le (e := p) ql
      omega
    walk_at "walk"
    refine rd_at (S7.dat (by walk_at "dats")) ⟨_, _, rfl, ?_, rfl⟩
    rw [List.take_add_one, List.getElem?_zipWith, hQ, hp]
    simp
  · rintro σ H4 cs ds ⟨x4, x5, rfl, rfl, rfl⟩ S4
    rw [zipD_len, List.length_map, List.length_map, List.take_of_length_le (by rw [List.length_zipWith]; omega)] at S4
    walk_at "walk"
    exact ret_T (by assumption) k (.mem (by walk_at "mem"))
abbrev s_within : Stmt := top 14
theorem sc_within : FnScope ["path", "others", "purses", "place", "other"] ["path", "others"] (defScope s_within) := ⟨rfl, rfl, rfl, by decide +kernel, rfl, by decide +kernel, by decide +kernel⟩
theorem ok_within (B : Bl mg) (C_merged : Cal P w K mg base CX0 2 "merged" ["ones", "twos"] spMerged) (C_purses_reaching : Cal P w K mg base CX0 5 "purses_reaching" ["path", "place", "levels"] spReach) (C_parts_within : Cal P w K mg base CX0 7 "parts_within" ["path", "others", "purse"] spPWithin) (F : Fun K "within" "within" s_within f fd) : FnOk P w K mg base CX0 8 f fd ["path", "others"] spWithin := by
  refine F.ok sc_within (fun vs H Q E h => ?_) (fun cdv A outer s H vs Q E hr h => ?_)
  · obtain ⟨G, a, _, h, _⟩ := h
    rw [← h.len]; rfl
  obtain ⟨G, ⟨a, Qs⟩, eG, hA, ok, k⟩ := h
  obtain ⟨v1, v2, rfl, al⟩ := isAll2 hA
  have S : Sta H G H [] [(pathD a, v1), (.list (Qs.map pathD), v2)] := Sta.enter eG al
  dsimp only at ok k
  have pl := ok.pl
  have few := ok.few
  refine ⟨_, (pss_cons (ps_setComp (i := 2) (N := ["corner"]) (n := 1) (fr := []) sc_within.nd rfl rfl rfl ⟨rfl, by decide +kernel, rfl, by decide, rfl, rfl, rfl, rfl, rfl⟩ (pi_list (pv 0)) (fun _ _ _ _ => (pg_name (i := 0) (show (["corner"] : List Str).Nodup from by decide +kernel) rfl (by first | exact Or.inl rfl | exact Or.inr rfl))) (fun _ _ _ _ => pif_nil) (fun _ _ _ _ => (pe_ix ix_seq (pv 0) pe_int (fun _ _ => rfl)))) (pss_cons (ps_for PassesOwn.never rfl (pi_enum true rfl B.enumerate (pa_cons (pv 1) pa_nil)) (pg_tup rfl (pgs_cons (pg_name (i := 3) sc_within.nd rfl (by first | exact Or.inl rfl | exact Or.inr rfl)) (pgs_cons (pg_name (i := 4) sc_within.nd rfl (by first | exact Or.inl rfl | exact Or.inr rfl)) pgs_nil))) (pss_one (ps_set (i := 2) sc_within.nd rfl (by first | exact Or.inl rfl | exact Or.inr rfl) (pe_cal C_merged hr (by first | decide | exact Nat.le_refl _ | omega) pass0 rfl (pa_cons (pv 2) (pa_cons (pe_cal C_purses_reaching hr (by first | decide | exact Nat.le_refl _ | omega) pass0 rfl (pa_cons (pv 0) (pa_cons (pv 3) (pa_cons (pe_comp (N := ["corner"]) (n := 1) (fr := []) rfl ⟨rfl, by decide +kernel, rfl, by decide, rfl, rfl, rfl, rfl, rfl⟩ (pi_list (pv 4)) (fun _ _ _ _ => (pg_name (i := 0) (show (["corner"] : List Str).Nodup from by decide +kernel) rfl (by first | exact Or.inl rfl | exact Or.inr rfl))) (fun _ _ _ _ => pif_nil) (fun _ _ _ _ => (pe_ix ix_seq (pv 0) pe_int (fun _ _ => rfl)))) pa_nil)))) pa_nil)))))) (pss_one (ps_ret (pe_comp (N := ["purse", "path", "others"]) (n := 1) (fr := [0, 1]) rfl ⟨rfl, by decide +kernel, rfl, by decide, rfl, rfl, rfl, rfl, rfl⟩ (pi_list (pv 2)) (fun _ _ _ _ => (pg_name (i := 0) (show (["purse", "path", "others"] : List Str).Nodup from by decide +kernel) rfl (by first | exact Or.inl rfl | exact Or.inr rfl))) (fun _ _ _ _ => pif_nil) (fun _ _ _ _ => (pe_tup (pa_cons (pv 0) (pa_cons (pe_cal C_parts_within hr (by first | decide | exact Nat.le_refl _ | omega) pass0 rfl (pa_cons (pv 1) (pa_cons (pv 2) (pa_cons (pv 0) pa_nil)))) pa_nil))))))))), rd_start ?_⟩
  walk_at "walk"
  refine rd_kILd (xs := a.map cornD) S (.mem (by walk_at "mem")) fun J wk => ?_
  refine comp_map wk (fun j => frD ((fun c : Corner => c.1) (a.getD j (0, [])))) (ys := (pursesV a).map frD) (by unfold pursesV; rw [List.length_map, List.map_map]; exact range_getD (fun c : Corner => frD c.1) (0, []) a) S (fun _ _ => .mem (by walk_at "mem")) (by rw [List.length_map]; omega) (fun j x v B' G' Kd Kn hx t1 S hd C ex s0 H0 => ?_) fun D H1 e1 S1 => ?_
  · obtain ⟨c, hc, rfl⟩ := mapAt hx
    refine rd_name ⟨rfl, ?_⟩
    walk_at "walk"
    refine hd (by assumption) ?_
    rw [getD_of hc]
    exact .mem (by walk_at "mem")
  have S2 := S1.freeze
  clear S1
  walk_at "walk"
  refine rd_kEnL (xs := Qs.map pathD) S2 (.mem (by walk_at "mem")) fun J wk => ?_
  refine for_wk wk (fun i σ cs ds => ∃ (pp : Addr) (x3 x4 : Option V), σ = [some v1, some v2, some (.ref pp), x3, x4] ∧ cs = [] ∧ ds = [(.list ((wpF a 0 (Qs.take i) (pursesV a)).map frD), .ref pp), (pathD a, v1), (.list (Qs.map pathD), v2)]) S2 ⟨D, none, none, rfl, rfl, rfl⟩ (fun i σ cs ds h => ?_) ?_ ?_
  · obtain ⟨_, _, _, _, _, rfl⟩ := h
    exact .mem (by walk_at "mem")
  · rintro i x u σ H3 cs ds hx ⟨pp, x3, x4, rfl, rfl, rfl⟩ S3
    obtain ⟨x0, hx0, rfl⟩ := enumD_at hx
    obtain ⟨Q', hQ, rfl⟩ := mapAt hx0
    have hil : i < Qs.length := (List.getElem?_eq_some_iff.mp hQ).1
    have ql := ok.ql Q' (List.mem_of_getElem? hQ)
    refine rd_gTup (rd_kGT2 S3 (.mem (by walk_at "mem")) fun w3 w4 S4 => ?_)
    cases S4.int1
    walk_at "walk"
    refine rd_kILd (xs := Q'.map cornD) S4 (.mem (by walk_at "mem")) fun J2 wk2 => ?_
    refine comp_map wk2 (fun j => frD ((fun c : Corner => c.1) (Q'.getD j (0, [])))) (ys := (pursesV Q').map frD) (by unfold pursesV; rw [List.length_map, List.map_map]; exact range_getD (fun c : Corner => frD c.1) (0, []) Q') S4 (fun _ _ => .mem (by walk_at "mem")) (by rw [List.length_map]; omega) (fun j x v B' G' Kd Kn hx t1 S hd C ex s0 H0 => ?_) fun D5 H5 e5 S5 => ?_
    · obtain ⟨c, hc, rfl⟩ := mapAt hx
      refine rd_name ⟨rfl, ?_⟩
      walk_at "walk"
      refine hd (by assumption) ?_
      rw [getD_of hc]
      exact .mem (by walk_at "mem")
    have S6 := S5.freeze
    clear S5
    walk_at "walk"
    refine rd_reach (P := a) (k := i) (L := pursesV Q') S6 (.mem (by walk_at "mem")) (.mem (by walk_at "mem")) (ok.reach hQ) fun p7 H7 e7 S7 => ?_
    have S8 : Sta H G H7 [] [(.list ((reachV a i Q').map frD), .ref p7), (.list ((wpF a 0 (Qs.take i) (pursesV a)).map frD), .ref pp), (pathD a, v1), (.list (Qs.map pathD), v2)] := S7.freeze.dat (by walk_at "dats")
    clear S7
    walk_at "walk"
    refine rd_merged (p := wpF a 0 (Qs.take i) (pursesV a)) (q := reachV a i Q') (n := 640) S8 (.mem (by walk_at "mem")) (.mem (by walk_at "mem")) (fun q hq => (ok.szM (wpF_take hq)).1) (fun q hq => (ok.szM (mem_wpF.mpr (.inr ⟨i, Q', hQ, by rw [Nat.zero_add]; exact hq⟩))).1) (by decide) (by have := ok.len i; omega) ?_ fun pm H9 e9 S9 => ?_
    · unfold reachV
      have := List.length_filterMap_le (reach1 a i) (pursesV Q')
      have e : (pursesV Q').length = Q'.length := by unfold pursesV; rw [List.length_map]
      omega
    walk_at "walk"
    have et : Qs.take (i + 1) = Qs.take i ++ [Q'] := by rw [List.take_add_one, hQ]; rfl
    have ew : wpF a 0 (Qs.take (i + 1)) (pursesV a) = mergeV (wpF a 0 (Qs.take i) (pursesV a)) (reachV a i Q') := by
      rw [et, wpF_snoc, Nat.zero_add, List.length_take, Nat.min_eq_left (by omega)]
    refine rd_at (S9.freeze.dat (ds' := [(.list ((mergeV (wpF a 0 (Qs.take i) (pursesV a)) (reachV a i Q')).map frD), .ref pm), (pathD a, v1), (.list (Qs.map pathD), v2)]) (by walk_at "dats")) ⟨pm, _, _, rfl, rfl, by rw [ew]⟩
  · rintro σ H3 cs ds ⟨pp, x3, x4, rfl, rfl, rfl⟩ S3
    rw [enumD_len, List.length_map, List.take_length] at S3
    walk_at "walk"
    refine rd_kILd (xs := (wpV a Qs).map frD) S3 (.mem (by walk_at "mem")) fun J2 wk2 => ?_
    refine comp_map wk2 (fun j => cornD ((fun e : Rat => (e, flatQ Qs (partsV a e))) ((wpV a Qs).getD j 0))) (ys := (withinV a Qs).map cornD) (by unfold withinV; rw [List.length_map, List.map_map]; exact range_getD (fun e : Rat => cornD (e, flatQ Qs (partsV a e))) 0 (wpV a Qs)) S3 (fun _ _ => .mem (by walk_at "mem")) (by rw [List.length_map]; have := ok.lenV; omega) (fun j x v B' G' Kd Kn hx t1 S hd C ex s0 H0 => ?_) fun D5 H5 e5 S5 => ?_
    · obtain ⟨e, he, rfl⟩ := mapAt hx
      refine rd_name ⟨rfl, ?_⟩
      walk_at "walk"
      refine rd_pwithin (P := a) (Qs := Qs) (e := e) S (.mem (by walk_at "mem")) (.mem (by walk_at "mem")) (.mem (by walk_at "mem")) (ok.pw (List.mem_of_getElem? he)) fun r6 H6 e6 S6 => ?_
      walk_at "walk"
      refine hd (by assumption) ?_
      rw [getD_of he]
      exact .mem (by walk_at "mem")
    walk_at "walk"
    exact ret_L S5 k

abbrev s_law_cell_at : Stmt := top 23
theorem sc_law_cell_at : FnScope ["_law_script", "_law_k"] ["_law_script", "_law_k"] (defScope s_law_cell_at) := ⟨rfl, rfl, rfl, by decide +kernel, rfl, by decide +kernel, by decide +kernel⟩
theorem ok_cell (B : Bl mg) (F : Fun K "_law_cell_at" "_law_cell_at" s_law_cell_at f fd) : FnOk P w K mg base CX0 1 f fd ["_law_script", "_law_k"] (spCell K) := by
  refine F.ok sc_law_cell_at (fun vs H Q E h => ?_) (fun cdv A outer s H vs Q E hr h => ?_)
  · obtain ⟨a, ns, k, rfl, _⟩ := h
    rfl
  obtain ⟨a, ns, k, rfl, hS, h0, q⟩ := h
  refine ⟨_, (pss_cons (ps_if (pt_cmpR op_lt (pv 1) (pe_callB call_lenA rfl B.len bt_len (pa_cons (pv 0) pa_nil)) (nomark _)) (pss_one (ps_ret (pe_ix ix_seq (pv 0) (pv 1) (fun _ _ => rfl)))) pss_nil) (pss_one (ps_ret pe_int))), rd_start ?_⟩
  walk_at "walk"
  refine rd_lenS hS ?_
  walk_at "walk"
  refine iteD (fun c => ?_) (fun c => ?_)
  · walk_at "walk"
    refine rd_ixS hS h0 c ?_
    unfold cellAt at q
    rw [if_pos c] at q
    exact q
  · walk_at "walk"
    unfold cellAt at q
    rw [if_neg c] at q
    exact q

abbrev s_law_mixed : Stmt := top 24
theorem sc_law_mixed : FnScope ["_law_cell", "_law_place", "_law_number"] ["_law_cell", "_law_place"] (defScope s_law_mixed) := ⟨rfl, rfl, rfl, by decide +kernel, rfl, by decide +kernel, by decide +kernel⟩
theorem ok_mixed (F : Fun K "_law_mixed" "_law_mixed" s_law_mixed f fd) : FnOk P w K mg base CX0 1 f fd ["_law_cell", "_law_place"] spMix := by
  refine F.ok sc_law_mixed (fun vs H Q E h => ?_) (fun cdv A outer s H vs Q E hr h => ?_)
  · obtain ⟨c, p, rfl, _⟩ := h
    rfl
  obtain ⟨c, p, rfl, q⟩ := h
  refine ⟨_, (pss_cons (ps_set (i := 2) sc_law_mixed.nd rfl (by first | exact Or.inl rfl | exact Or.inr rfl) (pe_op op_mod (pe_op op_addA (pe_op op_addA (pe_op op_mulB (pe_op op_mod (pv 0) pe_int) pe_int) (pe_op op_mulB pe_int (pv 1))) pe_int) pe_int)) (pss_cons (ps_set (i := 2) sc_law_mixed.nd rfl (by first | exact Or.inl rfl | exact Or.inr rfl) (pe_op op_mod (pe_op op_addA (pe_op op_addA (pe_op op_mulB (pv 2) (pv 2)) (pe_op op_mulB pe_int (pv 1))) pe_int) pe_int)) (pss_one (ps_ret (pe_op op_mod (pe_op op_mulB (pv 2) pe_int) pe_int))))), rd_start ?_⟩
  walk_at "walk"
  exact q

abbrev s_law_divisor : Stmt := top 25
theorem sc_law_divisor : FnScope ["_law_one", "_law_two"] ["_law_one", "_law_two"] (defScope s_law_divisor) := ⟨rfl, rfl, rfl, by decide +kernel, rfl, by decide +kernel, by decide +kernel⟩
theorem ok_divisor (B : Bl mg) (F : Fun K "_law_divisor" "_law_divisor" s_law_divisor f fd) : FnOk P w K mg base CX0 1 f fd ["_law_one", "_law_two"] spDiv2 := by
  refine F.ok sc_law_divisor (fun vs H Q E h => ?_) (fun cdv A outer s H vs Q E hr h => ?_)
  · obtain ⟨a, b, rfl, _⟩ := h
    rfl
  obtain ⟨a, b, rfl, hb, q⟩ := h
  refine ⟨_, (pss_cons (ps_while PassesOwn.never (pt_cmpR (op_neA (units_of hr)) (pv 1) pe_int (nomark _)) (pss_one (ps_par (i := 0) (j := 1) rfl sc_law_divisor.nd rfl rfl (by decide) rfl rfl (pa_cons (pv 1) (pa_cons (pe_op op_modN (pv 0) (pv 1)) pa_nil)) rfl))) (pss_one (ps_ret (pe_callB call_absA rfl B.abs bt_abs (pa_cons (pv 0) pa_nil))))), rd_start ?_⟩
  refine while_h (fun m σ H2 => ∃ (x y : Int), σ = [some (.int x), some (.int y)] ∧ 0 ≤ y ∧ Int.gcd x y = Int.gcd a b ∧ H2 = H ∧ m = y.toNat) _ ⟨a, b, rfl, hb, rfl, rfl, rfl⟩ ?_
  rintro m σ H2 ⟨x, y, rfl, hy, hg, rfl, rfl⟩
  walk_at "walk"
  refine rd_wh (fun c => ?_) (fun c => ?_)
  · have c : y ≠ 0 := by simpa using c
    walk_at "walk"
    have e : x.fmod y = x % y := Int.fmod_eq_emod_of_nonneg x hy
    have l1 := Int.emod_nonneg x c
    have l2 := Int.emod_lt_of_pos x (show 0 < y by omega)
    refine ⟨(x.fmod y).toNat, by rw [e]; omega, y, x.fmod y, rfl, by rw [e]; exact l1, ?_, rfl, rfl⟩
    rw [e, gcd_step, hg]
  · have c : y = 0 := by simpa using c
    subst c
    walk_at "walk"
    have e : (x.natAbs : Int) = ((Int.gcd a b : Nat) : Int) := by
      rw [← hg, Int.gcd_zero]
    rw [e]
    exact q
abbrev s_law_lowest : Stmt := top 26
theorem sc_law_lowest : FnScope ["_law_top", "_law_bottom", "_law_by"] ["_law_top", "_law_bottom"] (defScope s_law_lowest) := ⟨rfl, rfl, rfl, by decide +kernel, rfl, by decide +kernel, by decide +kernel⟩
theorem ok_lawlow (C_law_divisor : Cal P w K mg base CX0 1 "_law_divisor" ["_law_one", "_law_two"] spDiv2) (F : Fun K "_law_lowest" "_law_lowest" s_law_lowest f fd) : FnOk P w K mg base CX0 2 f fd ["_law_top", "_law_bottom"] spLawLow := by
  refine F.ok sc_law_lowest (fun vs H Q E h => ?_) (fun cdv A outer s H vs Q E hr h => ?_)
  · obtain ⟨G, a, _, h, _⟩ := h
    rw [← h.len]; rfl
  obtain ⟨G, ⟨a, b⟩, eG, hA, ⟨hb, sb⟩, k⟩ := h
  cases (isAll_ints (ns := [a, b]) hA)
  have S : Sta H G H [] [] := Sta.enter eG fun p hp => absurd hp List.not_mem_nil
  dsimp only at hb sb k
  have gp : 0 < Int.gcd a b := Int.gcd_pos_of_ne_zero_right a (by omega)
  have hc : CDv a ((Int.gcd a b : Nat) : Int) := ⟨by omega, by
    refine Sz.le sb ?_
    have := Nat.le_of_dvd (by omega) (Int.gcd_dvd_natAbs_right a b)
    omega⟩
  refine ⟨_, (pss_cons (ps_set (i := 2) sc_law_lowest.nd rfl (by first | exact Or.inl rfl | exact Or.inr rfl) (pe_cal C_law_divisor hr (by first | decide | exact Nat.le_refl _ | omega) pass0 rfl (pa_cons (pv 0) (pa_cons (pv 1) pa_nil)))) (pss_one (ps_ret (pe_tup (pa_cons (pe_op op_fdivB (pv 0) (pv 2)) (pa_cons (pe_op op_fdivB (pv 1) (pv 2)) pa_nil)))))), rd_start ?_⟩
  walk_at "walk"
  refine ret_T (by assumption) k (.mem ?_)
  rw [show frD (Rat.divInt a b) = .tuple [.int (a.fdiv ((Int.gcd a b : Nat) : Int)), .int (b.fdiv ((Int.gcd a b : Nat) : Int))] by unfold frD; rw [← (low_pos hb).1, ← (low_pos hb).2]]
  walk_at "mem"

abbrev s_law_steps : Stmt := top 27
theorem sc_law_steps : FnScope ["_law_script", "_law_at_here", "_law_many", "_law_parts", "_law_found", "_law_k", "_law_cell", "_law_size", "_law_row"] ["_law_script", "_law_at_here", "_law_many", "_law_parts"] (defScope s_law_steps) := ⟨rfl, rfl, rfl, by decide +kernel, rfl, by decide +kernel, by decide +kernel⟩
theorem ok_steps (B : Bl mg) (C_law_cell_at : Cal P w K mg base CX0 1 "_law_cell_at" ["_law_script", "_law_k"] (spCell K)) (C_law_mixed : Cal P w K mg base CX0 1 "_law_mixed" ["_law_cell", "_law_place"] spMix) (F : Fun K "_law_steps" "_law_steps" s_law_steps f fd) : FnOk P w K mg base CX0 2 f fd ["_law_script", "_law_at_here", "_law_many", "_law_parts"] (spSteps K) := by
  refine F.ok sc_law_steps (fun vs H Q E h => ?_) (fun cdv A outer s H vs Q E hr h => ?_)
  · obtain ⟨G, a, ns, at', many, parts, rfl, _⟩ := h
    rfl
  obtain ⟨G, a, ns, at', many, parts, rfl, eG, hS, ⟨ha0, hm0, hm1, hp1, hp8⟩, k⟩ := h
  have S : Sta H G H [] [] := Sta.enter eG fun p hp => absurd hp List.not_mem_nil
  refine ⟨_, (pss_cons (ps_set (i := 4) sc_law_steps.nd rfl (by first | exact Or.inl rfl | exact Or.inr rfl) (pe_lst pa_nil)) (pss_cons (ps_for PassesOwn.never rfl (pi_range1 rfl B.range (pa_cons (pv 2) pa_nil)) (pg_name (i := 5) sc_law_steps.nd rfl (by first | exact Or.inl rfl | exact Or.inr rfl)) (pss_cons (ps_set (i := 6) sc_law_steps.nd rfl (by first | exact Or.inl rfl | exact Or.inr rfl) (pe_cal C_law_cell_at hr (by first | decide | exact Nat.le_refl _ | omega) pass0 rfl (pa_cons (pv 0) (pa_cons (pe_op op_addA (pv 1) (pv 5)) pa_nil)))) (pss_cons (ps_set (i := 7) sc_law_steps.nd rfl (by first | exact Or.inl rfl | exact Or.inr rfl) (pe_ix ix_seq (pe_lst (pa_cons pe_int (pa_cons pe_int (pa_cons (pe_op op_pow pe_int pe_int) (pa_cons (pe_op op_pow pe_int pe_int) pa_nil))))) (pe_op op_mod (pv 6) pe_int) (fun _ _ => rfl))) (pss_one (ps_if (PW.pt (pw_and (pt_cmpR op_gt (pv 5) pe_int (nomark _)) (pw_and1 (pt_cmpR (op_eqA (units_of hr)) (pe_op op_mod (pe_op op_fdiv (pv 6) pe_int) pe_int) pe_int (nomark _))))) (pss_one (ps_expr (pe_bm PySem.F.plainAttrs_list PySem.F.slot_list_append PySem.F.type_list_append mt_append (pv 4) (pa_cons (pe_comp (N := ["_law_step", "_law_cell"]) (n := 1) (fr := [6]) rfl ⟨rfl, by decide +kernel, rfl, by decide, rfl, rfl, rfl, rfl, rfl⟩ (pi_list (pe_ix ix_seq (pv 4) (pe_un un_neg pe_int) (fun _ _ => rfl))) (fun _ _ _ _ => (pg_name (i := 0) (show (["_law_step", "_law_cell"] : List Str).Nodup from by decide +kernel) rfl (by first | exact Or.inl rfl | exact Or.inr rfl))) (fun _ _ _ _ => pif_nil) (fun _ _ _ _ => (pe_op op_mulB (pe_op op_addA pe_int (pe_op op_mod (pe_op op_fdiv (pv 1) pe_int) pe_int)) (pv 0)))) pa_nil)))) (pss_cons (ps_set (i := 8) sc_law_steps.nd rfl (by first | exact Or.inl rfl | exact Or.inr rfl) (pe_comp (N := ["_law_j", "_law_cell", "_law_size"]) (n := 1) (fr := [6, 7]) rfl ⟨rfl, by decide +kernel, rfl, by decide, rfl, rfl, rfl, rfl, rfl⟩ (pi_range1 rfl B.range (pa_cons (pv 3) pa_nil)) (fun _ _ _ _ => (pg_name (i := 0) (show (["_law_j", "_law_cell", "_law_size"] : List Str).Nodup from by decide +kernel) rfl (by first | exact Or.inl rfl | exact Or.inr rfl))) (fun _ _ _ _ => pif_nil) (fun _ _ _ _ => (pe_op op_modN (pe_cal C_law_mixed hr (by first | decide | exact Nat.le_refl _ | omega) pass0 rfl (pa_cons (pe_op op_fdiv (pv 1) pe_int) (pa_cons (pv 0) pa_nil))) (pv 2))))) (pss_cons (ps_if (pt_cmpR op_gt (pv 7) (pe_op op_pow pe_int pe_int) (nomark _)) (pss_one (ps_set (i := 8) sc_law_steps.nd rfl (by first | exact Or.inl rfl | exact Or.inr rfl) (pe_comp (N := ["_law_j", "_law_cell", "_law_row"]) (n := 1) (fr := [6, 8]) rfl ⟨rfl, by decide +kernel, rfl, by decide, rfl, rfl, rfl, rfl, rfl⟩ (pi_range1 rfl B.range (pa_cons (pv 3) pa_nil)) (fun _ _ _ _ => (pg_name (i := 0) (show (["_law_j", "_law_cell", "_law_row"] : List Str).Nodup from by decide +kernel) rfl (by first | exact Or.inl rfl | exact Or.inr rfl))) (fun _ _ _ _ => pif_nil) (fun _ _ _ _ => (pe_op op_addA (pe_op op_mulB (pe_cal C_law_mixed hr (by first | decide | exact Nat.le_refl _ | omega) pass0 rfl (pa_cons (pe_op op_fdiv (pv 1) pe_int) (pa_cons (pe_op op_addA (pv 0) pe_int) pa_nil))) (pe_op op_pow pe_int pe_int)) (pe_ix ix_seq (pv 2) (pv 0) (fun _ _ => rfl))))))) pss_nil) (pss_cons (ps_if (pt_cmpR (op_eqA (units_of hr)) (pe_callB (call_sumA rfl) rfl B.sum bt_sum (pa_cons (pv 8) pa_nil)) pe_int (nomark _)) (pss_one (ps_asg pe_int (pg_sub (pv 8) (pe_op op_modN (pe_op op_fdiv (pv 6) pe_int) (pv 3)) set_list))) pss_nil) (pss_one (ps_expr (pe_bm PySem.F.plainAttrs_list PySem.F.slot_list_append PySem.F.type_list_append mt_append (pv 4) (pa_cons (pv 8) pa_nil)))))))))))) (pss_one (ps_ret (pv 4))))), rd_start ?_⟩
  walk_at "walk"
  rename_i p H1 e1 S1
  refine rd_kR1 H G (by omega) (by omega) fun J wk => ?_
  refine for_wk wk (fun i σ cs ds => ∃ (rows : List (List Int)) (x5 x6 x7 x8 : Option V), σ = [some (.ref a), some (.int at'), some (.int many), some (.int parts), some (.ref p), x5, x6, x7, x8] ∧ cs = [(p, rows.map rowD)] ∧ ds = [] ∧ rows.length = i ∧ RowsOk parts.toNat rows) S1
    ⟨[], none, none, none, none, rfl, rfl, rfl, rfl, ⟨fun r hr => absurd hr List.not_mem_nil, fun r hr => absurd hr List.not_mem_nil, fun i r hr => by simp at hr⟩⟩ (fun _ _ _ _ _ => trivial) ?_ ?_
  · rintro i x v σ H2 cs ds hx ⟨rows, x5, x6, x7, x8, rfl, rfl, rfl, hlen, hok⟩ S
    obtain ⟨hi, rfl⟩ := rangeD_at hx
    cases S.int1
    have hS2 : SqL K H2 a (ns.map V.int) := S.base.seq hS
    have S := S.drop1
    have hi70 : i < 70 := by omega
    walk_at "walk"
    generalize cellAt ns (at' + (0 + (i : Int))) = c at *
    rename_i q H3 e3 S3
    obtain ⟨n, hn, hn1, hn2⟩ : ∃ n : Int, atI [PyData.int 3, .int 10, .int (10 ^ Int.toNat 6), .int (10 ^ Int.toNat 20)] (c % 4) = some (.int n) ∧ 3 ≤ n ∧ n ≤ 10 ^ 20 := by
      rcases (by omega : c % 4 = 0 ∨ c % 4 = 1 ∨ c % 4 = 2 ∨ c % 4 = 3) with h | h | h | h <;> rw [h]
      · exact ⟨3, rfl, by decide, by decide⟩
      · exact ⟨10, rfl, by decide, by decide⟩
      · exact ⟨10 ^ Int.toNat 6, rfl, by decide, by decide⟩
      · exact ⟨10 ^ Int.toNat 20, rfl, by decide, by decide⟩
    refine rd_ixCI S3 (by walk_at "mem") hn ?_
    have S4 : Sta H G H3 [(p, rows.map rowD)] [] := S3.dropC
    have hn0 : n ≠ 0 := by omega
    clear S3
    -- a new row, whatever it is
    have fin : ∀ (r : List Int) (σ' : L2.St) (H5 : Hp) (D : Addr) (y5 y6 y7 y8 : Option V), σ' = [some (.ref a), some (.int at'), some (.int many), some (.int parts), some (.ref p), y5, y6, y7, y8] → r.length = parts.toNat → 0 < r.sum → BR i r → Sta H G H5 [(p, rows.map rowD ++ [rowD r])] [] →
        AtP H G (fun σ cs ds => ∃ (rows : List (List Int)) (x5 x6 x7 x8 : Option V), σ = [some (.ref a), some (.int at'), some (.int many), some (.int parts), some (.ref p), x5, x6, x7, x8] ∧ cs = [(p, rows.map rowD)] ∧ ds = [] ∧ rows.length = i + 1 ∧ RowsOk parts.toNat rows) σ' H5 := by
      rintro r σ' H5 D y5 y6 y7 y8 rfl h1 h2 h3 S5
      exact rd_at S5 ⟨rows ++ [r], y5, y6, y7, y8, rfl, by rw [List.map_append]; rfl, rfl, by rw [List.length_append, hlen]; rfl, hok.snoc h1 h2 (hlen ▸ h3)⟩
    walk_at "walk"
    refine' rd_ifand (fun h => ?_) (fun cc => ?_) (fun cc => ?_)
    rotate_left
    · walk_at "walk"
      exact h
    · rw [Bool.and_eq_true, decide_eq_true_eq, decide_eq_true_eq] at cc
      obtain ⟨ls, l, hl⟩ : ∃ ls l, rows = ls ++ [l] := ⟨rows.dropLast, rows.getLast (by intro z; subst z; simp at hlen; omega), (List.dropLast_concat_getLast _).symm⟩
      have hlast : rows.getLast? = some l := by rw [hl]; simp
      have bl := hok.bnd (i - 1) l (by
        have hl' := hlen
        rw [hl, List.length_append, List.length_singleton] at hl'
        rw [hl, show i - 1 = ls.length by omega]
        simp)
      have ll := hok.len l (List.mem_of_getLast? hlast)
      have lp := hok.pos l (List.mem_of_getLast? hlast)
      have cb : 1 ≤ 1 + c / 16 % 3 ∧ 1 + c / 16 % 3 ≤ 3 := by omega
      walk_at "walk"
      refine rd_ixC (x := rowD l) S4 (by walk_at "mem") (atI_neg1 (by rw [List.getLast?_map, hlast]; rfl)) fun wl S5 => ?_
      refine rd_kILd (xs := l.map PyData.int) S5 (.mem (by walk_at "mem")) fun J2 wk2 => ?_
      refine comp_map wk2 (fun j => .int ((1 + c / 16 % 3) * l.getD j 0)) (ys := (l.map ((1 + c / 16 % 3) * ·)).map PyData.int) (by rw [List.length_map, List.map_map]; exact range_getD (fun x => PyData.int ((1 + c / 16 % 3) * x)) 0 l) S5 (fun _ _ => .mem (by walk_at "mem")) (by rw [List.length_map]; omega) (fun j x v B' G' Kd Kn hx t1 S hd C ex s0 H0 => ?_) fun D H6 e6 S6 => ?_
      · obtain ⟨n', hn', rfl⟩ := mapAt hx
        cases S.int1
        have o : IntMulOk (1 + c / 16 % 3) n' := IntMulOk.of_left (by
          have : Sz 64 (1 + c / 16 % 3) := by unfold Sz; have e : (2 : Nat) ^ 64 = 18446744073709551616 := by decide
                                              rw [e]; omega
          exact this.bits)
        refine rd_name ⟨rfl, ?_⟩
        walk_at "walk"
        refine hd S ?_
        rw [getD_of hn']
        exact Has.int
      have S7 := S6.freeze
      walk_at "walk"
      refine rd_append (y := rowD (l.map ((1 + c / 16 % 3) * ·))) S7 (.mem (by walk_at "mem")) (by rw [List.length_map]; omega) fun H7 S8 => ?_
      walk_at "walk"
      refine fin (l.map ((1 + c / 16 % 3) * ·)) _ H7 D _ _ _ _ rfl (by rw [List.length_map]; exact ll) ?_ ?_ (S8.dat Dats.nil)
      · rw [sum_mulL]
        exact Int.mul_pos (by omega) lp
      · intro x hx
        obtain ⟨y, hy, rfl⟩ := List.mem_map.mp hx
        have := bl y hy
        have e3 : (3 : Int) ^ i = 3 * 3 ^ (i - 1) := by
          rw [show i = (i - 1) + 1 by omega, Int.pow_succ]; simp; grind
        rw [e3]
        constructor
        · exact Int.mul_nonneg (by omega) this.1
        · have h1 : (1 + c / 16 % 3) * y ≤ 3 * y := Int.mul_le_mul_of_nonneg_right cb.2 this.1
          omega
    · clear cc
      walk_at "walk"
      have em : parts = (parts.toNat : Int) := by omega
      refine rd_kR1 H G (by omega) (by omega) fun J2 wk2 => ?_
      refine comp_map wk2 (fun j => .int ((mixV (c / 16) (j : Nat)).fmod n)) (ys := ((List.range parts.toNat).map fun j => (mixV (c / 16) (j : Nat)).fmod n).map PyData.int) (by rw [rangeD_len, List.map_map]; rfl) S4 (fun _ _ => trivial) (by rw [rangeD_len]; omega) (fun j x v B' G' Kd Kn hx t1 S hd C ex s0 H0 => ?_) fun D H5 e5 S5 => ?_
      · obtain ⟨hj, rfl⟩ := rangeD_at hx
        cases S.int1
        refine rd_name ⟨rfl, ?_⟩
        walk_at "walk"
        refine hd S ?_
        rw [Int.zero_add]
        exact Has.int
      refine rd_name (rd_nx ?_)
      refine seq_cut' (AtP H G (fun σ cs ds => ∃ (r : List Int) (D : Addr), σ = [some (.ref a), some (.int at'), some (.int many), some (.int parts), some (.ref p), some (.int (0 + (i : Int))), some (.int c), some (.int n), some (.ref D)] ∧ cs = [(D, r.map PyData.int), (p, rows.map rowD)] ∧ ds = [] ∧ r.length = parts.toNat ∧ ∀ x ∈ r, 0 ≤ x ∧ x ≤ 10 ^ 21)) ?_ (fun nxt => ?_)
      · rintro σ' H6 ⟨cs, ds, S6, r, D2, rfl, rfl, rfl, lr, br⟩
        have hBR : ∀ r' : List Int, (∀ x ∈ r', 0 ≤ x ∧ x ≤ 10 ^ 21) → BR i r' := fun r' h x hx => by
          have h1 := h x hx
          have h2 := pow3_pos i
          refine ⟨h1.1, Int.le_trans h1.2 ?_⟩
          have : (10 : Int) ^ 21 * 1 ≤ 10 ^ 21 * 3 ^ i := Int.mul_le_mul_of_nonneg_left h2 (by decide)
          omega
        walk_at "walk"
        refine iteD (fun c0 => ?_) (fun c0 => ?_)
        · walk_at "walk"
          have hf := fmod_le (x := c / 32) (n := parts) (by omega)
          refine rd_setL (y := .int 1) S6 Has.int (ixN_of hf.1 (by rw [List.length_map]; omega)) fun H7 S7 => ?_
          rw [show (r.map PyData.int).set ((c / 32).fmod parts).toNat (.int 1) = (r.set ((c / 32).fmod parts).toNat 1).map PyData.int by rw [List.map_set]] at S7
          have S8 := S7.freeze
          walk_at "walk"
          refine rd_append (y := rowD (r.set ((c / 32).fmod parts).toNat 1)) S8 (.mem (by walk_at "mem")) (by rw [List.length_map]; omega) fun H8 S9 => ?_
          walk_at "walk"
          have bs : ∀ x ∈ r.set ((c / 32).fmod parts).toNat 1, 0 ≤ x ∧ x ≤ 10 ^ 21 := fun x hx => by
            rcases List.mem_or_eq_of_mem_set hx with h | h
            · exact br x h
            · subst h; exact ⟨by decide, by decide⟩
          refine fin (r.set ((c / 32).fmod parts).toNat 1) _ H8 D _ _ _ _ rfl (by rw [List.length_set]; exact lr) (sum_pos (fun x hx => (bs x hx).1) ⟨1, ?_, by decide⟩) (hBR _ bs) (S9.dat Dats.nil)
          exact List.mem_iff_getElem?.mpr ⟨((c / 32).fmod parts).toNat, by rw [List.getElem?_set_self (by omega)]⟩
        · walk_at "walk"
          have S8 := S6.freeze
          refine rd_append (y := rowD r) S8 (.mem (by walk_at "mem")) (by rw [List.length_map]; omega) fun H8 S9 => ?_
          walk_at "walk"
          have h0 := sum_le br
          exact fin r _ H8 D _ _ _ _ rfl lr (by omega) (hBR _ br) (S9.dat Dats.nil)
      · walk_at "walk"
        have mb : ∀ j : Nat, 0 ≤ (mixV (c / 16) (j : Nat)).fmod n ∧ (mixV (c / 16) (j : Nat)).fmod n < n := fun j => fmod_le (by omega)
        refine iteD (fun c0 => ?_) (fun c0 => ?_)
        · walk_at "walk"
          refine rd_kR1 H G (by omega) (by omega) fun J3 wk3 => ?_
          refine comp_map wk3 (fun j => .int (mixV (c / 16) ((j : Nat) + 8) * 10 ^ Int.toNat 10 + (mixV (c / 16) (j : Nat)).fmod n)) (ys := ((List.range parts.toNat).map fun j => mixV (c / 16) ((j : Nat) + 8) * 10 ^ Int.toNat 10 + (mixV (c / 16) (j : Nat)).fmod n).map PyData.int) (by rw [rangeD_len, List.map_map]; rfl) S5 (fun _ _ => trivial) (by rw [rangeD_len]; omega) (fun j x v B' G' Kd Kn hx t1 S hd C ex s0 H0 => ?_) fun D2 H6 e6 S6 => ?_
          · obtain ⟨hj, rfl⟩ := rangeD_at hx
            cases S.int1
            refine rd_name ⟨rfl, ?_⟩
            walk_at "walk"
            refine rd_ixRI S (t1.ro (D, _) (by walk_at "mem")) (atI_mapD (by omega) (by rw [List.length_map, List.length_range]; omega)) ?_
            walk_at "walk"
            refine hd S ?_
            rw [Int.zero_add, Int.toNat_natCast, getD_of (n := (mixV (c / 16) (j : Nat)).fmod n) (by rw [List.getElem?_map, List.getElem?_range hj]; rfl)]
            exact Has.int
          refine rd_name (rd_nx ?_)
          refine nxt _ _ ⟨_, _, S6.weak (cs' := [(D2, _), (p, rows.map rowD)]) (by walk_at "sub") Dats.nil, _, D2, rfl, rfl, rfl, by rw [List.length_map, List.length_range], fun x hx => ?_⟩
          obtain ⟨j, _, rfl⟩ := List.mem_map.mp hx
          have h1 := mb j
          have h2 := mixV_le (c / 16) ((j : Nat) + 8)
          have e10 : (10 : Int) ^ Int.toNat 10 = 10000000000 := by decide
          rw [e10]
          omega
        · refine rd_next (rd_nx ?_)
          refine nxt _ _ ⟨_, _, S5, _, D, rfl, rfl, rfl, by rw [List.length_map, List.length_range], fun x hx => ?_⟩
          obtain ⟨j, _, rfl⟩ := List.mem_map.mp hx
          have h1 := mb j
          omega
  · rintro σ H2 cs ds ⟨rows, x5, x6, x7, x8, rfl, rfl, rfl, hlen, hok⟩ S
    rw [rangeD_len] at hlen
    walk_at "walk"
    exact ret_L S fun p H' G' us gr hp hg hu hv => k rows p H' G' us hlen hok gr hp hg hu hv

abbrev s_law_corners : Stmt := top 28
theorem sc_law_corners : FnScope ["_law_steps_here", "_law_parts", "_law_bottom", "_law_here", "_law_corners_here", "_law_step"] ["_law_steps_here", "_law_parts", "_law_bottom"] (defScope s_law_corners) := ⟨rfl, rfl, rfl, by decide +kernel, rfl, by decide +kernel, by decide +kernel⟩
theorem ok_corners (B : Bl mg) (C_law_lowest : Cal P w K mg base CX0 2 "_law_lowest" ["_law_top", "_law_bottom"] spLawLow) (F : Fun K "_law_corners" "_law_corners" s_law_corners f fd) : FnOk P w K mg base CX0 3 f fd ["_law_steps_here", "_law_parts", "_law_bottom"] spCorners := by
  refine F.ok sc_law_corners (fun vs H Q E h => ?_) (fun cdv A outer s H vs Q E hr h => ?_)
  · obtain ⟨G, a, _, h, _⟩ := h
    rw [← h.len]; rfl
  obtain ⟨G, ⟨rows, parts, bottom⟩, eG, hA, ⟨hp, hb, hl, hrow⟩, k⟩ := h
  obtain ⟨v0, v1, v2, rfl, al⟩ := isAll3 hA
  dsimp only at hp hb hl hrow k al
  cases (al (.int parts, v1) (by walk_at "mem")).int_of
  cases (al (.int bottom, v2) (by walk_at "mem")).int_of
  have S : Sta H G H [] [(rowsD rows, v0)] := Sta.enter eG fun p hp => al p (by
    simp only [List.mem_cons, List.not_mem_nil, or_false] at hp
    subst hp
    exact List.Mem.head _)
  have hbz : Sz 8999 bottom := by
    refine Sz.mono (m := 10) ?_ (by decide)
    unfold Sz
    have e : (2 : Nat) ^ 10 = 1024 := by decide
    rw [e]; omega
  have hb0 : 0 < bottom := by omega
  refine ⟨_, (pss_cons (ps_setComp (i := 3) (N := ["_law_j"]) (n := 1) (fr := []) sc_law_corners.nd rfl rfl rfl ⟨rfl, by decide +kernel, rfl, by decide, rfl, rfl, rfl, rfl, rfl⟩ (pi_range1 rfl B.range (pa_cons (pv 1) pa_nil)) (fun _ _ _ _ => (pg_name (i := 0) (show (["_law_j"] : List Str).Nodup from by decide +kernel) rfl (by first | exact Or.inl rfl | exact Or.inr rfl))) (fun _ _ _ _ => pif_nil) (fun _ _ _ _ => pe_int)) (pss_cons (ps_set (i := 4) sc_law_corners.nd rfl (by first | exact Or.inl rfl | exact Or.inr rfl) (pe_lst (pa_cons (pe_tup (pa_cons (pe_tup (pa_cons pe_int (pa_cons pe_int pa_nil))) (pa_cons (pe_callTy call_tupleA rfl B.tuple bt_tuple (pa_cons (pe_comp (N := ["_law_j"]) (n := 1) (fr := []) rfl ⟨rfl, by decide +kernel, rfl, by decide, rfl, rfl, rfl, rfl, rfl⟩ (pi_range1 rfl B.range (pa_cons (pv 1) pa_nil)) (fun _ _ _ _ => (pg_name (i := 0) (show (["_law_j"] : List Str).Nodup from by decide +kernel) rfl (by first | exact Or.inl rfl | exact Or.inr rfl))) (fun _ _ _ _ => pif_nil) (fun _ _ _ _ => (pe_tup (pa_cons pe_int (pa_cons pe_int pa_nil))))) pa_nil)) pa_nil))) pa_nil))) (pss_cons (ps_for PassesOwn.never rfl (pi_list (pv 0)) (pg_name (i := 5) sc_law_corners.nd rfl (by first | exact Or.inl rfl | exact Or.inr rfl)) (pss_cons (ps_setComp (i := 3) (N := ["_law_one", "_law_two"]) (n := 2) (fr := []) sc_law_corners.nd rfl rfl rfl ⟨rfl, by decide +kernel, rfl, by decide, rfl, rfl, rfl, rfl, rfl⟩ (pi_zip true true rfl B.zip (pa_cons (pv 3) (pa_cons (pv 5) pa_nil))) (fun _ _ _ _ => (pg_tup rfl (pgs_cons (pg_name (i := 0) (show (["_law_one", "_law_two"] : List Str).Nodup from by decide +kernel) rfl (by first | exact Or.inl rfl | exact Or.inr rfl)) (pgs_cons (pg_name (i := 1) (show (["_law_one", "_law_two"] : List Str).Nodup from by decide +kernel) rfl (by first | exact Or.inl rfl | exact Or.inr rfl)) pgs_nil)))) (fun _ _ _ _ => pif_nil) (fun _ _ _ _ => (pe_op op_addA (pv 0) (pv 1)))) (pss_one (ps_expr (pe_bm PySem.F.plainAttrs_list PySem.F.slot_list_append PySem.F.type_list_append mt_append (pv 4) (pa_cons (pe_tup (pa_cons (pe_cal C_law_lowest hr (by first | decide | exact Nat.le_refl _ | omega) pass0 rfl (pa_cons (pe_callB (call_sumA rfl) rfl B.sum bt_sum (pa_cons (pv 3) pa_nil)) (pa_cons (pv 2) pa_nil))) (pa_cons (pe_callTy call_tupleA rfl B.tuple bt_tuple (pa_cons (pe_comp (N := ["_law_one", "_law_bottom"]) (n := 1) (fr := [2]) rfl ⟨rfl, by decide +kernel, rfl, by decide, rfl, rfl, rfl, rfl, rfl⟩ (pi_list (pv 3)) (fun _ _ _ _ => (pg_name (i := 0) (show (["_law_one", "_law_bottom"] : List Str).Nodup from by decide +kernel) rfl (by first | exact Or.inl rfl | exact Or.inr rfl))) (fun _ _ _ _ => pif_nil) (fun _ _ _ _ => (pe_cal C_law_lowest hr (by first | decide | exact Nat.le_refl _ | omega) pass0 rfl (pa_cons (pv 0) (pa_cons (pv 1) pa_nil))))) pa_nil)) pa_nil))) pa_nil)))))) (pss_one (ps_ret (pv 4)))))), rd_start ?_⟩
  walk_at "walk"
  refine rd_kR1 H G (by omega) (by omega) fun J wk => ?_
  refine comp_map wk (fun _ => .int 0) (ys := (zeroV parts.toNat).map PyData.int) (by rw [rangeD_len, zeroV, List.map_replicate, List.map_const', List.length_range]) S (fun _ _ => trivial) (by rw [rangeD_len]; omega) (fun i x v B' G' Kd Kn hx t1 S hd C ex s0 H0 => ?_) fun D H1 e1 S1 => ?_
  · refine rd_name ⟨rfl, ?_⟩
    walk_at "walk"
    exact hd S Has.int
  walk_at "walk"
  rename_i p0 H2 e2 S2
  refine rd_kR1 H G (by omega) (by omega) fun J wk => ?_
  refine comp_map wk (fun _ => frD 0) (ys := (List.replicate parts.toNat (0 : Rat)).map frD) (by rw [rangeD_len, List.map_replicate, List.map_const', List.length_range]) S2 (fun _ _ => trivial) (by rw [rangeD_len]; omega) (fun i x v B' G' Kd Kn hx t1 S hd C ex s0 H0 => ?_) fun D3 H3 e3 S3 => ?_
  · refine rd_name ⟨rfl, ?_⟩
    walk_at "walk"
    rename_i p3 H3 e3 S3
    exact hd S3 (.mem (by walk_at "mem"))
  walk_at "walk"
  rename_i t4 H4 e4 S4 t5 H5 e5 S5 pc H6 e6 S6
  have S7 : Sta H G H6 [(pc, (cornersV bottom parts.toNat (rows.take 0)).map cornD), (D, (endV (zeroV parts.toNat) (rows.take 0)).map PyData.int)] [(rowsD rows, v0)] := by
    have : (cornersV bottom parts.toNat (rows.take 0)).map cornD = [.tuple [.tuple [.int 0, .int 1], .tuple ((List.replicate parts.toNat (0 : Rat)).map frD)]] := by
      unfold cornersV
      rw [List.take_zero, cornersFrom, cornAt_zero]
      rfl
    rw [this, List.take_zero, endV]
    exact S6.weak (by walk_at "sub") (by walk_at "dats")
  refine rd_kILd (xs := rows.map rowD) S7 (.mem (by walk_at "mem")) fun J wk => ?_
  refine for_wk wk (fun i σ cs ds => ∃ (D : Addr) (x5 : Option V), σ = [some v0, some (.int parts), some (.int bottom), some (.ref D), some (.ref pc), x5] ∧ cs = [(pc, (cornersV bottom parts.toNat (rows.take i)).map cornD), (D, (endV (zeroV parts.toNat) (rows.take i)).map PyData.int)] ∧ ds = [(rowsD rows, v0)]) S7 ⟨D, none, rfl, rfl, rfl⟩ (fun i σ cs ds h => ?_) ?_ ?_
  · obtain ⟨_, _, _, _, rfl⟩ := h
    exact .mem (by walk_at "mem")
  · rintro i x v σ H8 cs ds hx ⟨D, x5, rfl, rfl, rfl⟩ S8
    obtain ⟨r, hr0, rfl⟩ := mapAt hx
    have et : rows.take (i + 1) = rows.take i ++ [r] := by rw [List.take_add_one, hr0]; rfl
    have hi : i < rows.length := (List.getElem?_eq_some_iff.mp hr0).1
    have lr := hrow r (List.mem_of_getElem? hr0)
    have lh : (endV (zeroV parts.toNat) (rows.take i)).length = parts.toNat := endV_len (zeroV_len _) fun s hs => hrow s (List.mem_of_mem_take hs)
    have en : addV (endV (zeroV parts.toNat) (rows.take i)) r = endV (zeroV parts.toNat) (rows.take (i + 1)) := by rw [et, endV_snoc]
    generalize en0 : endV (zeroV parts.toNat) (rows.take i) = h at *
    obtain ⟨ar, rar⟩ := S8.refL (xs := r.map PyData.int) (v := v) (.mem (by walk_at "mem"))
    subst rar
    walk_at "walk"
    refine rd_kZi S8 (src_cell (xs := h.map PyData.int)) (by walk_at "mem") (src_list (xs := r.map PyData.int)) (.mem (by walk_at "mem")) fun J2 wk2 => ?_
    refine comp_map wk2 (fun j => .int ((addV h r).getD j 0)) (ys := (addV h r).map PyData.int) ?_ S8 (fun _ _ => ⟨by walk_at "mem", fun _ _ h => h.tail, .mem (by walk_at "mem")⟩) ?_ (fun j x v B' G' Kd Kn hx t1 S hd C ex s0 H0 => ?_) fun D9 H9 e9 S9 => ?_
    · rw [zipD_len, List.length_map, List.length_map, show min h.length r.length = (addV h r).length by unfold addV; rw [List.length_zipWith]]
      exact range_getD (fun x => PyData.int x) 0 _
    · rw [zipD_len, List.length_map, List.length_map]; omega
    · obtain ⟨x1, x2, h1, h2, rfl⟩ := zipD_at hx
      obtain ⟨n1, hn1, rfl⟩ := mapAt h1
      obtain ⟨n2, hn2, rfl⟩ := mapAt h2
      refine rd_gTup (rd_kGT2 S (.mem (by walk_at "mem")) fun w1 w2 S => ?_)
      cases S.int1
      cases S.drop1.int1
      refine rd_gCons (rd_name (rd_gCons (rd_name (rd_gNil ⟨rfl, ?_⟩))))
      walk_at "walk"
      refine hd S ?_
      rw [getD_of (addV_get hn1 hn2)]
      exact Has.int
    have lh2 : (addV h r).length = parts.toNat := addV_len lh lr
    rw [en] at S9 lh2
    generalize endV (zeroV parts.toNat) (rows.take (i + 1)) = h2 at S9 lh2 en ⊢
    walk_at "walk"
    refine rd_lawlow S9 hb0 hbz fun rv H10 e10 S10 => ?_
    walk_at "walk"
    refine rd_kILc (xs := h2.map PyData.int) S10 (by walk_at "mem") fun J3 wk3 => ?_
    refine comp_map wk3 (fun j => frD (Rat.divInt (h2.getD j 0) bottom)) (ys := (h2.map fun x => Rat.divInt x bottom).map frD) (by rw [List.length_map, List.map_map]; exact range_getD (fun x => frD (Rat.divInt x bottom)) 0 h2) S10 (fun _ _ => List.mem_cons_of_mem _ (by walk_at "mem")) (by rw [List.length_map]; omega) (fun j x v B' G' Kd Kn hx t1 S hd C ex s0 H0 => ?_) fun D11 H11 e11 S11 => ?_
    · obtain ⟨n', hn', rfl⟩ := mapAt hx
      cases S.int1
      refine rd_name ⟨rfl, ?_⟩
      walk_at "walk"
      refine rd_lawlow S hb0 hbz fun rv H12 e12 S12 => ?_
      refine hd S12 ?_
      rw [getD_of hn']
      exact .mem (by walk_at "mem")
    walk_at "walk"
    rename_i t12 H12 e12 S12 t13 H13 e13 S13
    have S14 : Sta H G H13 [(pc, (cornersV bottom parts.toNat (rows.take i)).map cornD), (D9, h2.map PyData.int)] [(cornD (cornAt bottom h2), .ref t13), (rowsD rows, v0)] := (S13.weak (cs' := [(D9, _), (pc, _)]) (by walk_at "sub") (by walk_at "dats")).swap
    refine rd_append (y := cornD (cornAt bottom h2)) S14 (.mem (by walk_at "mem")) (by rw [List.length_map, cornersV, List.length_cons, cornersFrom_length, List.length_take]; omega) fun H15 S15 => ?_
    walk_at "walk"
    refine rd_at (S15.dat (ds' := [(rowsD rows, v0)]) (by walk_at "dats")) ⟨D9, _, rfl, ?_, rfl⟩
    rw [et, cornersV, cornersV, cornersFrom_snoc, en0, en]
    simp only [List.map_cons, List.map_append, List.map_nil, List.cons_append]
  · rintro σ H8 cs ds ⟨D, x5, rfl, rfl, rfl⟩ S8
    rw [List.length_map, List.take_length] at S8
    walk_at "walk"
    exact ret_L S8 k

abbrev s_law_along : Stmt := top 29
theorem sc_law_along : FnScope ["_law_last", "_law_step", "_law_here", "_law_there"] ["_law_last", "_law_step"] (defScope s_law_along) := ⟨rfl, rfl, rfl, by decide +kernel, rfl, by decide +kernel, by decide +kernel⟩
theorem ok_along (B : Bl mg) (F : Fun K "_law_along" "_law_along" s_law_along f fd) : FnOk P w K mg base CX0 1 f fd ["_law_last", "_law_step"] spAlong := by
  refine F.ok sc_law_along (fun vs H Q E h => ?_) (fun cdv A outer s H vs Q E hr h => ?_)
  · obtain ⟨a, h, _⟩ := h
    rw [← h.len]; rfl
  obtain ⟨⟨l, r⟩, hA, ⟨s1, s2, hl, hr'⟩, k⟩ := h
  obtain ⟨v, w', rfl, al⟩ := isAll2 hA
  have S : Sta H H H [] _ := Sta.enter (Same.refl _) al
  dsimp only at s1 s2 hl hr' k S
  refine ⟨_, (pss_cons (ps_set (i := 2) sc_law_along.nd rfl (by first | exact Or.inl rfl | exact Or.inr rfl) (pe_callB (call_sumA rfl) rfl B.sum bt_sum (pa_cons (pv 0) pa_nil))) (pss_cons (ps_set (i := 3) sc_law_along.nd rfl (by first | exact Or.inl rfl | exact Or.inr rfl) (pe_callB (call_sumA rfl) rfl B.sum bt_sum (pa_cons (pv 1) pa_nil))) (pss_one (ps_ret (pe_cmpR (op_eqA (units_of hr)) (pe_comp (N := ["_law_one", "_law_there"]) (n := 1) (fr := [3]) rfl ⟨rfl, by decide +kernel, rfl, by decide, rfl, rfl, rfl, rfl, rfl⟩ (pi_list (pv 0)) (fun _ _ _ _ => (pg_name (i := 0) (show (["_law_one", "_law_there"] : List Str).Nodup from by decide +kernel) rfl (by first | exact Or.inl rfl | exact Or.inr rfl))) (fun _ _ _ _ => pif_nil) (fun _ _ _ _ => (pe_op op_mulB (pv 0) (pv 1)))) (pe_comp (N := ["_law_one", "_law_here"]) (n := 1) (fr := [2]) rfl ⟨rfl, by decide +kernel, rfl, by decide, rfl, rfl, rfl, rfl, rfl⟩ (pi_list (pv 1)) (fun _ _ _ _ => (pg_name (i := 0) (show (["_law_one", "_law_here"] : List Str).Nodup from by decide +kernel) rfl (by first | exact Or.inl rfl | exact Or.inr rfl))) (fun _ _ _ _ => pif_nil) (fun _ _ _ _ => (pe_op op_mulB (pv 0) (pv 1)))) (nomark _)))))), rd_start ?_⟩
  walk_at "walk"
  refine rd_kILd (xs := l.map PyData.int) (by assumption) (.mem (by walk_at "mem")) fun J wk => ?_
  refine comp_map wk (fun i => .int (l.getD i 0 * r.sum)) (ys := (l.map (· * r.sum)).map PyData.int) (by rw [List.length_map, List.map_map]; exact range_getD (fun x => PyData.int (x * r.sum)) 0 l) (by assumption) (fun _ _ => .mem (by walk_at "mem")) (by rw [List.length_map]; omega) (fun i x v B' G' Kd Kn hx t1 S hd C ex s0 H0 => ?_) fun D H1 e1 S => ?_
  · obtain ⟨n, hn, rfl⟩ := mapAt hx
    cases S.int1
    have o : IntMulOk n r.sum := (s1.2 n (List.mem_of_getElem? hn)).mulOk s2.1 (by decide)
    refine rd_name ⟨rfl, ?_⟩
    walk_at "walk"
    refine hd S ?_
    rw [getD_of hn]
    exact Has.int
  walk_at "walk"
  refine rd_kILd (xs := r.map PyData.int) (by assumption) (.mem (by walk_at "mem")) fun J wk => ?_
  refine comp_map wk (fun i => .int (r.getD i 0 * l.sum)) (ys := (r.map (· * l.sum)).map PyData.int) (by rw [List.length_map, List.map_map]; exact range_getD (fun x => PyData.int (x * l.sum)) 0 r) (by assumption) (fun _ _ => .mem (by walk_at "mem")) (by rw [List.length_map]; omega) (fun i x v B' G' Kd Kn hx t1 S hd C ex s0 H0 => ?_) fun D2 H2 e2 S => ?_
  · obtain ⟨n, hn, rfl⟩ := mapAt hx
    cases S.int1
    have o : IntMulOk n l.sum := (s2.2 n (List.mem_of_getElem? hn)).mulOk s1.1 (by decide)
    refine rd_name ⟨rfl, ?_⟩
    walk_at "walk"
    refine hd S ?_
    rw [getD_of hn]
    exact Has.int
  refine rd_eqD (x := rowD (l.map (· * r.sum))) (y := rowD (r.map (· * l.sum))) (S.hpC (by walk_at "mem")) (S.hpC (by walk_at "mem")) (shaped_row _) (shaped_row _) ?_
  rw [eqv_row]
  exact ret_B S k

abbrev s_law_thin : Stmt := top 30
theorem sc_law_thin : FnScope ["_law_steps_here", "_law_found", "_law_step", "_law_last"] ["_law_steps_here"] (defScope s_law_thin) := ⟨rfl, rfl, rfl, by decide +kernel, rfl, by decide +kernel, by decide +kernel⟩
theorem ok_thin (B : Bl mg) (C_law_along : Cal P w K mg base CX0 1 "_law_along" ["_law_last", "_law_step"] spAlong) (F : Fun K "_law_thin" "_law_thin" s_law_thin f fd) : FnOk P w K mg base CX0 2 f fd ["_law_steps_here"] spThinL := by
  refine F.ok sc_law_thin (fun vs H Q E h => ?_) (fun cdv A outer s H vs Q E hr h => ?_)
  · obtain ⟨G, a, _, h, _⟩ := h
    rw [← h.len]; rfl
  obtain ⟨G, rows, eG, hA, ⟨hl, m, b, hm, hb, hrow⟩, k⟩ := h
  obtain ⟨v0, rfl, al⟩ := isAll1 hA
  have S : Sta H G H [] _ := Sta.enter eG al
  refine ⟨_, (pss_cons (ps_set (i := 1) sc_law_thin.nd rfl (by first | exact Or.inl rfl | exact Or.inr rfl) (pe_lst pa_nil)) (pss_cons (ps_for PassesOwn.never rfl (pi_list (pv 0)) (pg_name (i := 2) sc_law_thin.nd rfl (by first | exact Or.inl rfl | exact Or.inr rfl)) (pss_cons (ps_set (i := 3) sc_law_thin.nd rfl (by first | exact Or.inl rfl | exact Or.inr rfl) (pe_lst pa_nil)) (pss_cons (ps_if (pt_cmpR op_gt (pe_callB call_lenA rfl B.len bt_len (pa_cons (pv 1) pa_nil)) pe_int (nomark _)) (pss_one (ps_set (i := 3) sc_law_thin.nd rfl (by first | exact Or.inl rfl | exact Or.inr rfl) (pe_ix ix_seq (pv 1) (pe_un un_neg pe_int) (fun _ _ => rfl)))) pss_nil) (pss_one (ps_if (PW.pt (pw_and (pt_cmpR (op_neA (units_of hr)) (pv 3) (pe_lst pa_nil) (nomark _)) (pw_and1 (pt_val (pe_cal C_law_along hr (by first | decide | exact Nat.le_refl _ | omega) pass0 rfl (pa_cons (pv 3) (pa_cons (pv 2) pa_nil))))))) (pss_one (ps_asg (pe_comp (N := ["_law_one", "_law_two"]) (n := 2) (fr := []) rfl ⟨rfl, by decide +kernel, rfl, by decide, rfl, rfl, rfl, rfl, rfl⟩ (pi_zip true true rfl B.zip (pa_cons (pv 3) (pa_cons (pv 2) pa_nil))) (fun _ _ _ _ => (pg_tup rfl (pgs_cons (pg_name (i := 0) (show (["_law_one", "_law_two"] : List Str).Nodup from by decide +kernel) rfl (by first | exact Or.inl rfl | exact Or.inr rfl)) (pgs_cons (pg_name (i := 1) (show (["_law_one", "_law_two"] : List Str).Nodup from by decide +kernel) rfl (by first | exact Or.inl rfl | exact Or.inr rfl)) pgs_nil)))) (fun _ _ _ _ => pif_nil) (fun _ _ _ _ => (pe_op op_addA (pv 0) (pv 1)))) (pg_sub (pv 1) (pe_un un_neg pe_int) set_list))) (pss_one (ps_expr (pe_bm PySem.F.plainAttrs_list PySem.F.slot_list_append PySem.F.type_list_append mt_append (pv 1) (pa_cons (pv 2) pa_nil))))))))) (pss_one (ps_ret (pv 1))))), rd_start ?_⟩
  walk_at "walk"
  rename_i p H1 e1 S1
  refine rd_kILd (xs := rows.map rowD) (by assumption) (.mem (by walk_at "mem")) fun J wk => ?_
  refine for_wk wk (fun i σ cs ds => ∃ x2 x3, σ = [some v0, some (.ref p), x2, x3] ∧ cs = [(p, (thinS (rows.take i)).map rowD)] ∧ ds = [(rowsD rows, v0)]) S1 ⟨none, none, rfl, rfl, rfl⟩ (fun i σ cs ds h => ?_) ?_ ?_
  · obtain ⟨_, _, _, _, rfl⟩ := h
    exact .mem (by walk_at "mem")
  · rintro i x v σ H2 cs ds hx ⟨x2, x3, rfl, rfl, rfl⟩ S
    obtain ⟨r, hr0, rfl⟩ := mapAt hx
    have et : rows.take (i + 1) = rows.take i ++ [r] := by rw [List.take_add_one, hr0]; rfl
    have hi : i < rows.length := (List.getElem?_eq_some_iff.mp hr0).1
    have gr := hrow r (List.mem_of_getElem? hr0)
    have szr := gr.sz hm.2 (Int.le_trans hb.2 (by decide))
    have hin : ∀ t ∈ thinS (rows.take i), InR m ((rows.take i).length * b) t := thinS_in hb.1 fun t ht => hrow t (List.mem_of_mem_take ht)
    have hbb : ((rows.take i).length : Int) * b ≤ 2 ^ 400 := by
      have h1 : ((rows.take i).length : Int) ≤ 200 := by rw [List.length_take]; omega
      have h2 : ((rows.take i).length : Int) * b ≤ 200 * b := Int.mul_le_mul_of_nonneg_right h1 hb.1
      have h3 : (2 : Int) ^ 400 = 2 ^ 100 * 2 ^ 300 := by decide
      have h4 : (200 : Int) ≤ 2 ^ 100 := by decide
      have h5 : (0 : Int) < 2 ^ 300 := by decide
      rw [h3]
      have h6 : (200 : Int) * 2 ^ 300 ≤ 2 ^ 100 * 2 ^ 300 := Int.mul_le_mul_of_nonneg_right h4 (by omega)
      omega
    have hlen : (thinS (rows.take i)).length ≤ 200 := by have := thinS_len (rows.take i); rw [List.length_take] at this; omega
    walk_at "walk"
    rename_i q H3 e3 S3
    refine iteD (fun c => ?_) (fun c => ?_)
    · have hne : thinS (rows.take i) ≠ [] := by
        intro z; rw [z] at c; simp at c
      obtain ⟨l, hlast⟩ : ∃ l, (thinS (rows.take i)).getLast? = some l := ⟨_, List.getLast?_eq_some_getLast hne⟩
      have gl := hin l (List.mem_of_getLast? hlast)
      have szl := gl.sz hm.2 hbb
      walk_at "walk"
      refine rd_ixC (x := rowD l) S3 (by walk_at "mem") (atI_neg1 (by rw [List.getLast?_map, hlast]; rfl)) fun wl S4 => ?_
      walk_at "walk"
      rename_i q2 H5 e5 S5
      refine rd_neD (x := rowD l) (y := rowD []) (S5.hp (.mem (by walk_at "mem"))) (S5.hpC (by walk_at "mem")) (shaped_row _) (shaped_row _) ?_
      rw [eqv_row, decide_eq_false (show ¬ l = [] by intro z; subst z; have := gl.len; simp at this; omega)]
      walk_at "walk"
      refine rd_along S5 (.mem (by walk_at "mem")) (.mem (by walk_at "mem")) szl szr (by have := gl.len; omega) (by have := gr.len; omega) fun H6 S6 => ?_
      walk_at "walk"
      refine iteD (fun c2 => ?_) (fun c2 => ?_)
      · walk_at "walk"
        obtain ⟨al', ral⟩ := S6.refL (xs := l.map PyData.int) (.mem (by walk_at "mem"))
        obtain ⟨ar', rar⟩ := S6.refL (xs := r.map PyData.int) (v := v) (.mem (by walk_at "mem"))
        subst ral rar
        refine rd_kZi S6 (src_list (xs := l.map PyData.int)) (.mem (by walk_at "mem")) (src_list (xs := r.map PyData.int)) (.mem (by walk_at "mem")) fun J2 wk2 => ?_
        refine comp_map wk2 (fun j => .int ((addV l r).getD j 0)) (ys := (addV l r).map PyData.int) ?_ S6 (fun _ _ => ⟨.mem (by walk_at "mem"), fun _ _ h => h.tail, .mem (by walk_at "mem")⟩) ?_ (fun j x v B' G' Kd Kn hx t1 S hd C ex s0 H0 => ?_) fun D H7 e7 S7 => ?_
        · rw [zipD_len, List.length_map, List.length_map, show min l.length r.length = (addV l r).length by unfold addV; rw [List.length_zipWith]]
          exact range_getD (fun x => PyData.int x) 0 _
        · rw [zipD_len, List.length_map, List.length_map]; have := gl.len; omega
        · obtain ⟨x1, x2, h1, h2, rfl⟩ := zipD_at hx
          obtain ⟨n1, hn1, rfl⟩ := mapAt h1
          obtain ⟨n2, hn2, rfl⟩ := mapAt h2
          refine rd_gTup (rd_kGT2 S (.mem (by walk_at "mem")) fun w1 w2 S => ?_)
          cases S.int1
          cases S.drop1.int1
          refine rd_gCons (rd_name (rd_gCons (rd_name (rd_gNil ⟨rfl, ?_⟩))))
          walk_at "walk"
          refine hd S ?_
          rw [getD_of (addV_get hn1 hn2)]
          exact Has.int
        walk_at "walk"
        have S8 := S7.freeze
        have S9 : Sta H G H7 [(p, (thinS (rows.take i)).map rowD)] [(.list ((addV l r).map PyData.int), .ref D), (rowsD rows, v0)] := S8.weak (by walk_at "sub") (by walk_at "dats")
        refine rd_setL (y := rowD (addV l r)) S9 (.mem (by walk_at "mem")) (ixN_neg1 (by rw [List.length_map]; exact List.length_pos_iff.mpr hne)) fun H8 S10 => ?_
        walk_at "walk"
        refine rd_at (S10.dat (ds' := [(rowsD rows, v0)]) fun q hq => .mem (List.mem_cons_of_mem _ hq)) ⟨_, _, rfl, ?_, rfl⟩
        rw [et, thinS_snoc, set_last (by simpa using hne)]
        unfold snocT
        rw [hlast]
        dsimp only
        rw [if_pos c2, List.map_append, List.map_dropLast]
        rfl
      · walk_at "walk"
        have S9 : Sta H G H6 [(p, (thinS (rows.take i)).map rowD)] [(rowD r, v), (rowsD rows, v0)] := S6.weak (by walk_at "sub") (by walk_at "dats")
        refine rd_append S9 (.mem (by walk_at "mem")) (by rw [List.length_map]; omega) fun H8 S10 => ?_
        walk_at "walk"
        refine rd_at (S10.dat (ds' := [(rowsD rows, v0)]) fun q hq => .mem (List.mem_cons_of_mem _ hq)) ⟨_, _, rfl, ?_, rfl⟩
        rw [et, thinS_snoc]
        unfold snocT
        rw [hlast]
        dsimp only
        rw [if_neg c2, List.map_append]
        rfl
    · have he : thinS (rows.take i) = [] := by
        cases e : thinS (rows.take i) with
        | nil => rfl
        | cons a t => rw [e] at c; simp at c
      walk_at "walk"
      rename_i q2 H5 e5 S5
      refine rd_neD (x := rowD []) (y := rowD []) (S5.hpC (by walk_at "mem")) (S5.hpC (by walk_at "mem")) (shaped_row _) (shaped_row _) ?_
      rw [eqv_row, decide_eq_true rfl]
      walk_at "walk"
      have S9 : Sta H G H5 [(p, (thinS (rows.take i)).map rowD)] [(rowD r, v), (rowsD rows, v0)] := S5.weak (by walk_at "sub") (by walk_at "dats")
      refine rd_append S9 (.mem (by walk_at "mem")) (by rw [List.length_map]; omega) fun H8 S10 => ?_
      walk_at "walk"
      refine rd_at (S10.dat (ds' := [(rowsD rows, v0)]) fun q hq => .mem (List.mem_cons_of_mem _ hq)) ⟨_, _, rfl, ?_, rfl⟩
      rw [et, thinS_snoc, he]
      rfl
  · rintro σ H2 cs ds ⟨x2, x3, rfl, rfl, rfl⟩ S
    rw [List.length_map, List.take_length] at S
    walk_at "walk"
    exact ret_L S k

abbrev s_law_less : Stmt := top 31
theorem sc_law_less : FnScope ["_law_one", "_law_two"] ["_law_one", "_law_two"] (defScope s_law_less) := ⟨rfl, rfl, rfl, by decide +kernel, rfl, by decide +kernel, by decide +kernel⟩
theorem ok_less (F : Fun K "_law_less" "_law_less" s_law_less f fd) : FnOk P w K mg base CX0 1 f fd ["_law_one", "_law_two"] spLess := by
  refine F.ok sc_law_less (fun vs H Q E h => ?_) (fun cdv A outer s H vs Q E hr h => ?_)
  · obtain ⟨a, h, _⟩ := h
    rw [← h.len]; rfl
  obtain ⟨⟨p, q⟩, hA, ⟨m, n, hp, hq, hmn⟩, k⟩ := h
  obtain ⟨v, w', rfl, al⟩ := isAll2 hA
  have S : Sta H H H [] _ := Sta.enter (Same.refl _) al
  dsimp only at hp hq k S
  have o1 : IntMulOk p.num (q.den : Int) := hp.1.mulOk hq.2 (by omega)
  have o2 : IntMulOk q.num (p.den : Int) := hq.1.mulOk hp.2 (by omega)
  refine ⟨_, (pss_one (ps_ret (pe_cmpR op_lt (pe_op op_mulB (pe_ix ix_seq (pv 0) pe_int (fun _ _ => rfl)) (pe_ix ix_seq (pv 1) pe_int (fun _ _ => rfl))) (pe_op op_mulB (pe_ix ix_seq (pv 1) pe_int (fun _ _ => rfl)) (pe_ix ix_seq (pv 0) pe_int (fun _ _ => rfl))) (nomark _)))), rd_start ?_⟩
  walk_at "walk"
  rw [show decide (p < q) = decide (p.num * (q.den : Int) < q.num * (p.den : Int)) from decide_eq_decide.mpr (Rat.lt_iff p q)] at k
  exact k
abbrev s_law_at : Stmt := top 32
theorem sc_law_at : FnScope ["_law_path", "_law_purse", "_law_k", "_law_low", "_law_here", "_law_high", "_law_there", "_law_up", "_law_long", "_law_found", "_law_one", "_law_two", "_law_top"] ["_law_path", "_law_purse"] (defScope s_law_at) := ⟨rfl, rfl, rfl, by decide +kernel, rfl, by decide +kernel, by decide +kernel⟩
theorem ok_lawat (B : Bl mg) (C_law_less : Cal P w K mg base CX0 1 "_law_less" ["_law_one", "_law_two"] spLess) (C_law_lowest : Cal P w K mg base CX0 2 "_law_lowest" ["_law_top", "_law_bottom"] spLawLow) (F : Fun K "_law_at" "_law_at" s_law_at f fd) : FnOk P w K mg base CX0 3 f fd ["_law_path", "_law_purse"] spLawAt0 := by
  refine F.ok sc_law_at (fun vs H Q E h => ?_) (fun cdv A outer s H vs Q E hr h => ?_)
  · obtain ⟨G, a, _, h, _⟩ := h
    rw [← h.len]; rfl
  obtain ⟨G, ⟨a, e⟩, eG, hA, ⟨m, n, ok, ze, hz⟩, k⟩ := h
  obtain ⟨v1, v2, rfl, al⟩ := isAll2 hA
  have S : Sta H G H [] [(pathD a, v1), (frD e, v2)] := Sta.enter eG al
  dsimp only at ok ze k
  have few := ok.few
  have la : 0 < a.length := List.length_pos_iff.mpr ok.ne
  have hmn2 : n + m ≤ 100000000 := by omega
  refine ⟨_, (pss_cons (ps_for PassesOwn.never rfl (pi_range2 rfl B.range (pa_cons pe_int (pa_cons (pe_callB call_lenA rfl B.len bt_len (pa_cons (pv 0) pa_nil)) pa_nil))) (pg_name (i := 2) sc_law_at.nd rfl (by first | exact Or.inl rfl | exact Or.inr rfl)) (pss_one (ps_if (pt_not (pt_val (pe_cal C_law_less hr (by first | decide | exact Nat.le_refl _ | omega) pass0 rfl (pa_cons (pe_ix ix_seq (pe_ix ix_seq (pv 0) (pv 2) (fun _ _ => rfl)) pe_int (fun _ _ => rfl)) (pa_cons (pv 1) pa_nil))))) (pss_cons (ps_asg (pe_ix ix_seq (pv 0) (pe_op op_sub (pv 2) pe_int) (fun _ _ => rfl)) (pg_tup rfl (pgs_cons (pg_name (i := 3) sc_law_at.nd rfl (by first | exact Or.inl rfl | exact Or.inr rfl)) (pgs_cons (pg_name (i := 4) sc_law_at.nd rfl (by first | exact Or.inl rfl | exact Or.inr rfl)) pgs_nil)))) (pss_cons (ps_asg (pe_ix ix_seq (pv 0) (pv 2) (fun _ _ => rfl)) (pg_tup rfl (pgs_cons (pg_name (i := 5) sc_law_at.nd rfl (by first | exact Or.inl rfl | exact Or.inr rfl)) (pgs_cons (pg_name (i := 6) sc_law_at.nd rfl (by first | exact Or.inl rfl | exact Or.inr rfl)) pgs_nil)))) (pss_cons (ps_set (i := 7) sc_law_at.nd rfl (by first | exact Or.inl rfl | exact Or.inr rfl) (pe_op op_mulB (pe_op op_sub (pe_op op_mulB (pe_ix ix_seq (pv 1) pe_int (fun _ _ => rfl)) (pe_ix ix_seq (pv 3) pe_int (fun _ _ => rfl))) (pe_op op_mulB (pe_ix ix_seq (pv 3) pe_int (fun _ _ => rfl)) (pe_ix ix_seq (pv 1) pe_int (fun _ _ => rfl)))) (pe_ix ix_seq (pv 5) pe_int (fun _ _ => rfl)))) (pss_cons (ps_set (i := 8) sc_law_at.nd rfl (by first | exact Or.inl rfl | exact Or.inr rfl) (pe_op op_mulB (pe_op op_sub (pe_op op_mulB (pe_ix ix_seq (pv 5) pe_int (fun _ _ => rfl)) (pe_ix ix_seq (pv 3) pe_int (fun _ _ => rfl))) (pe_op op_mulB (pe_ix ix_seq (pv 3) pe_int (fun _ _ => rfl)) (pe_ix ix_seq (pv 5) pe_int (fun _ _ => rfl)))) (pe_ix ix_seq (pv 1) pe_int (fun _ _ => rfl)))) (pss_cons (ps_set (i := 9) sc_law_at.nd rfl (by first | exact Or.inl rfl | exact Or.inr rfl) (pe_lst pa_nil)) (pss_cons (ps_for PassesOwn.never rfl (pi_zip false false rfl B.zip (pa_cons (pv 4) (pa_cons (pv 6) pa_nil))) (pg_tup rfl (pgs_cons (pg_name (i := 10) sc_law_at.nd rfl (by first | exact Or.inl rfl | exact Or.inr rfl)) (pgs_cons (pg_name (i := 11) sc_law_at.nd rfl (by first | exact Or.inl rfl | exact Or.inr rfl)) pgs_nil))) (pss_cons (ps_set (i := 12) sc_law_at.nd rfl (by first | exact Or.inl rfl | exact Or.inr rfl) (pe_op op_addA (pe_op op_mulB (pe_op op_mulB (pe_ix ix_seq (pv 10) pe_int (fun _ _ => rfl)) (pe_ix ix_seq (pv 11) pe_int (fun _ _ => rfl))) (pe_op op_sub (pv 8) (pv 7))) (pe_op op_mulB (pe_op op_mulB (pe_ix ix_seq (pv 11) pe_int (fun _ _ => rfl)) (pe_ix ix_seq (pv 10) pe_int (fun _ _ => rfl))) (pv 7)))) (pss_one (ps_expr (pe_bm PySem.F.plainAttrs_list PySem.F.slot_list_append PySem.F.type_list_append mt_append (pv 9) (pa_cons (pe_cal C_law_lowest hr (by first | decide | exact Nat.le_refl _ | omega) pass0 rfl (pa_cons (pv 12) (pa_cons (pe_op op_mulB (pe_op op_mulB (pe_ix ix_seq (pv 10) pe_int (fun _ _ => rfl)) (pe_ix ix_seq (pv 11) pe_int (fun _ _ => rfl))) (pv 8)) pa_nil))) pa_nil)))))) (pss_one (ps_ret (pe_callTy call_tupleA rfl B.tuple bt_tuple (pa_cons (pv 9) pa_nil)))))))))) pss_nil))) (pss_one (ps_ret (pe_ix ix_seq (pe_ix ix_seq (pv 0) (pe_un un_neg pe_int) (fun _ _ => rfl)) pe_int (fun _ _ => rfl))))), rd_start ?_⟩
  walk_at "walk"
  refine rd_kR2 H G ⟨by omega, by omega⟩ ⟨by rw [List.length_map]; omega, by rw [List.length_map]; omega⟩ fun J wk => ?_
  refine for_wk wk (fun i σ cs ds => ∃ (x2 x3 x4 x5 x6 x7 x8 x9 x10 x11 x12 : Option V), σ = [some v1, some v2, x2, x3, x4, x5, x6, x7, x8, x9, x10, x11, x12] ∧ cs = [] ∧ ds = [(pathD a, v1), (frD e, v2)] ∧ ∀ (j : Nat) (x : Corner), j < i → a[j + 1]? = some x → x.1 < e) S ⟨none, none, none, none, none, none, none, none, none, none, none, rfl, rfl, rfl, fun j x hj => absurd hj (Nat.not_lt_zero _)⟩ (fun _ _ _ _ _ => trivial) ?_ ?_
  · rintro i x u σ H2 cs ds hx ⟨x2, x3, x4, x5, x6, x7, x8, x9, x10, x11, x12, rfl, rfl, rfl, inv⟩ S2
    obtain ⟨hi, rfl⟩ := rangeD_at hx
    cases S2.int1
    rw [List.length_map] at hi
    have hi1 : i + 1 < a.length := by omega
    have hi0 : i < a.length := by omega
    have hd := List.getElem?_eq_getElem hi1
    have hc := List.getElem?_eq_getElem hi0
    have hr' := ok.rise
    unfold Rising at hr'
    rw [List.pairwise_iff_getElem] at hr'
    have hcd := hr' i (i + 1) hi0 hi1 (by omega)
    generalize a[i] = c at *
    generalize a[i + 1] = d at *
    have zc := ok.sz c (List.mem_of_getElem? hc)
    have zd := ok.sz d (List.mem_of_getElem? hd)
    have lc := ok.len c (List.mem_of_getElem? hc)
    have i1 : atI (a.map cornD) (1 + (i : Int)) = some (cornD d) := by rw [show 1 + (i : Int) = ((i + 1 : Nat) : Int) by omega]; exact atI_nat (by rw [List.getElem?_map, hd]; rfl)
    have i0 : atI (a.map cornD) (1 + (i : Int) - 1) = some (cornD c) := by rw [show 1 + (i : Int) - 1 = ((i : Nat) : Int) by omega]; exact atI_nat (by rw [List.getElem?_map, hc]; rfl)
    walk_at "walk"
    refine rd_ixL (xs := a.map cornD) (x := cornD d) S2 (.mem (by walk_at "mem")) i1 fun w3 S3 => ?_
    walk_at "walk"
    rename_i w4 S4
    refine rd_less S4 (.mem (by walk_at "mem")) (.mem (by walk_at "mem")) zd.1 ze hmn2 ?_
    walk_at "walk"
    refine iteNot (fun c1 => ?_) (fun c1 => ?_)
    rotate_left
    · walk_at "walk"
      refine rd_at (S4.dat (by walk_at "dats")) ⟨_, _, _, _, _, _, _, _, _, _, _, rfl, rfl, rfl, fun j x hj hx1 => ?_⟩
      by_cases hji : j < i
      · exact inv j x hji hx1
      · have : j = i := by omega
        subst this
        rw [hd] at hx1
        cases hx1
        exact c1
    have key := lawAtV_at (E := e) inv hc hd (Rat.not_lt.mp c1)
    rw [key] at k
    walk_at "walk"
    refine rd_ixL (xs := a.map cornD) (x := cornD c) S4 (.mem (by walk_at "mem")) i0 fun w5 S5 => ?_
    refine rd_gTup (rd_kGT2 S5 (.mem (by walk_at "mem")) fun w6 w7 S6 => ?_)
    walk_at "walk"
    refine rd_ixL (xs := a.map cornD) (x := cornD d) S6 (.mem (by walk_at "mem")) i1 fun w8 S7 => ?_
    refine rd_gTup (rd_kGT2 S7 (.mem (by walk_at "mem")) fun w9 w10 S8 => ?_)
    have q1 := ze.1.mul zc.1.2
    have q2 := zc.1.1.mul ze.2
    have q3 := zd.1.1.mul zc.1.2
    have q4 := zc.1.1.mul zd.1.2
    have o1 : IntMulOk e.num (c.1.den : Int) := ze.1.mulOk zc.1.2 (by omega)
    have o2 : IntMulOk c.1.num (e.den : Int) := zc.1.1.mulOk ze.2 (by omega)
    have o3 : IntMulOk d.1.num (c.1.den : Int) := zd.1.1.mulOk zc.1.2 (by omega)
    have o4 : IntMulOk c.1.num (d.1.den : Int) := zc.1.1.mulOk zd.1.2 (by omega)
    have q5 : Sz (m + n + 1) (e.num * (c.1.den : Int) - c.1.num * (e.den : Int)) := q1.sub (q2.mono (by omega))
    have q6 : Sz (n + n + 1) (d.1.num * (c.1.den : Int) - c.1.num * (d.1.den : Int)) := q3.sub q4
    have o5 : IntMulOk (e.num * (c.1.den : Int) - c.1.num * (e.den : Int)) (d.1.den : Int) := q5.mulOk zd.1.2 (by omega)
    have o6 : IntMulOk (d.1.num * (c.1.den : Int) - c.1.num * (d.1.den : Int)) (e.den : Int) := q6.mulOk ze.2 (by omega)
    have q7 := q5.mul zd.1.2
    have q8 := q6.mul ze.2
    have q9 : Sz (m + n + 1 + n + (n + n + 1 + m) + 1) ((d.1.num * (c.1.den : Int) - c.1.num * (d.1.den : Int)) * (e.den : Int) - (e.num * (c.1.den : Int) - c.1.num * (e.den : Int)) * (d.1.den : Int)) := (q8.mono (by omega)).sub (q7.mono (by omega))
    walk_at "walk"
    rename_i pf H9 e9 S9
    unfold betw at k
    have lm := fun x y : Rat => law_mix (x := x) (y := y) (e := e) hcd
    have hlong := (lm 0 0).2
    generalize (d.1.num * (c.1.den : Int) - c.1.num * (d.1.den : Int)) * (e.den : Int) = long at *
    generalize (e.num * (c.1.den : Int) - c.1.num * (e.den : Int)) * (d.1.den : Int) = up at *
    generalize (e - c.1) / (d.1 - c.1) = t at *
    refine rd_kZiTT (xs := c.2.map frD) (ys := d.2.map frD) S9 (.mem (by walk_at "mem")) (.mem (by walk_at "mem")) fun J2 wk2 => ?_
    have S10 : Sta H G H9 [(pf, [])] [(partsD c.2, w7), (partsD d.2, w10), (pathD a, v1), (frD e, v2)] := S9.dat (by walk_at "dats")
    refine for_wk wk2 (fun i2 σ cs ds => ∃ (x10 x11 x12 : Option V), σ = [some v1, some v2, some (.int (1 + (i : Int))), some w6, some w7, some w9, some w10, some (.int up), some (.int long), some (.ref pf), x10, x11, x12] ∧ cs = [(pf, ((List.zipWith (mixR t) c.2 d.2).take i2).map frD)] ∧ ds = [(partsD c.2, w7), (partsD d.2, w10), (pathD a, v1), (frD e, v2)]) S10 ⟨_, _, _, rfl, rfl, rfl⟩ (fun i2 σ cs ds h => ?_) ?_ ?_
    · obtain ⟨_, _, _, _, _, rfl⟩ := h
      exact ⟨.mem (by walk_at "mem"), fun _ _ h => h.tail, .mem (by walk_at "mem")⟩
    · rintro i2 x u σ H11 cs ds hx2 ⟨y10, y11, y12, rfl, rfl, rfl⟩ S11
      obtain ⟨xa, xb, h1, h2, rfl⟩ := zipD_at hx2
      obtain ⟨p, hp, rfl⟩ := mapAt h1
      obtain ⟨q, hq, rfl⟩ := mapAt h2
      have zp := zc.2 p (List.mem_of_getElem? hp)
      have zq := zd.2 q (List.mem_of_getElem? hq)
      have hzip : (List.zipWith (mixR t) c.2 d.2)[i2]? = some (mixR t p q) := by rw [List.getElem?_zipWith, hp, hq]
      have r1 := zp.1.mul zq.2
      have r2 := zq.1.mul zp.2
      have r3 := zp.2.mul zq.2
      have o7 : IntMulOk p.num (q.den : Int) := zp.1.mulOk zq.2 (by omega)
      have o8 : IntMulOk (p.num * (q.den : Int)) (long - up) := r1.mulOk q9 (by omega)
      have o9 : IntMulOk q.num (p.den : Int) := zq.1.mulOk zp.2 (by omega)
      have o10 : IntMulOk (q.num * (p.den : Int)) up := r2.mulOk q7 (by omega)
      have o11 : IntMulOk (p.den : Int) (q.den : Int) := zp.2.mulOk zq.2 (by omega)
      have o12 : IntMulOk ((p.den : Int) * (q.den : Int)) long := r3.mulOk q8 (by omega)
      refine rd_gTup (rd_kGT2 S11 (.mem (by walk_at "mem")) fun w12 w13 S12 => ?_)
      walk_at "walk"
      refine rd_lawlow S12 (Int.mul_pos (Int.mul_pos (den_pos p) (den_pos q)) hlong) ((r3.mul q8).mono (by omega)) fun r13 H13 e13 S13 => ?_
      rw [(lm p q).1] at S13
      walk_at "walk"
      refine rd_append (y := frD (mixR t p q)) S13 (.mem (by walk_at "mem")) (by rw [List.length_map, List.length_take, List.length_zipWith]; omega) fun H14 S14 => ?_
      walk_at "walk"
      refine rd_at (S14.dat (by walk_at "dats")) ⟨_, _, _, rfl, ?_, rfl⟩
      rw [List.take_add_one, hzip]
      simp
    · rintro σ H11 cs ds ⟨y10, y11, y12, rfl, rfl, rfl⟩ S11
      rw [zipD_len, List.length_map, List.length_map, List.take_of_length_le (by rw [List.length_zipWith]; exact Nat.le_refl _)] at S11
      walk_at "walk"
      exact ret_T (by assumption) k (.mem (by walk_at "mem"))
  · rintro σ H2 cs ds ⟨x2, x3, x4, x5, x6, x7, x8, x9, x10, x11, x12, rfl, rfl, rfl, inv⟩ S2
    rw [rangeD_len, List.length_map] at inv
    obtain ⟨l, hl⟩ : ∃ l, a.getLast? = some l := ⟨_, List.getLast?_eq_some_getLast ok.ne⟩
    have key := lawAtV_end (E := e) (fun j x hx => inv j x (by
      have := (List.getElem?_eq_some_iff.mp hx).1
      omega) hx) hl
    rw [key] at k
    walk_at "walk"
    refine rd_ixL (xs := a.map cornD) (x := cornD l) S2 (.mem (by walk_at "mem")) (atI_neg1 (by rw [List.getLast?_map, hl]; rfl)) fun w3 S3 => ?_
    walk_at "walk"
    exact ret_T (by assumption) k (.mem (by walk_at "mem"))

abbrev s_law_whole : Stmt := top 33
theorem sc_law_whole : FnScope ["_law_found"] ["_law_found"] (defScope s_law_whole) := ⟨rfl, rfl, rfl, by decide +kernel, rfl, by decide +kernel, by decide +kernel⟩
theorem ok_whole (B : Bl mg) (F : Fun K "_law_whole" "_law_whole" s_law_whole f fd) : FnOk P w K mg base CX0 1 f fd ["_law_found"] spWhole := by
  refine F.ok sc_law_whole (fun vs H Q E h => ?_) (fun cdv A outer s H vs Q E hr h => ?_)
  · obtain ⟨n, rfl, _⟩ := h
    rfl
  obtain ⟨n, rfl, q⟩ := h
  have S : Sta H H H [] [] := Sta.enter (Same.refl _) fun p hp => absurd hp List.not_mem_nil
  have hi : Is H (.int n) (.int n) := S.hp Has.int
  refine ⟨_, (pss_one (ps_ret (pe_and (pe_callB call_isi rfl B.isinstance bt_isinstance (pa_cons (pv 0) (pa_cons (pe_bltn (v := .ty "int") rfl B.int bt_int rfl) pa_nil))) (pe_one (pe_not (pe_callB call_isi rfl B.isinstance bt_isinstance (pa_cons (pv 0) (pa_cons (pe_bltn (v := .ty "bool") rfl B.bool bt_bool rfl) pa_nil)))))))), rd_start ?_⟩
  walk_at "walk"
  exact q
abbrev s_law_is_fraction : Stmt := top 34
theorem sc_law_is_fraction : FnScope ["_law_found"] ["_law_found"] (defScope s_law_is_fraction) := ⟨rfl, rfl, rfl, by decide +kernel, rfl, by decide +kernel, by decide +kernel⟩
theorem ok_frac (B : Bl mg) (C_law_whole : Cal P w K mg base CX0 1 "_law_whole" ["_law_found"] spWhole) (C_law_divisor : Cal P w K mg base CX0 1 "_law_divisor" ["_law_one", "_law_two"] spDiv2) (F : Fun K "_law_is_fraction" "_law_is_fraction" s_law_is_fraction f fd) : FnOk P w K mg base CX0 2 f fd ["_law_found"] spFrac := by
  refine F.ok sc_law_is_fraction (fun vs H Q E h => ?_) (fun cdv A outer s H vs Q E hr h => ?_)
  · obtain ⟨a, h, _⟩ := h
    rw [← h.len]; rfl
  obtain ⟨a, hA, _, k⟩ := h
  obtain ⟨v, rfl, al⟩ := isAll1 hA
  have S : Sta H H H [] [(frD a, v)] := Sta.enter (Same.refl _) al
  have hv := S.hp (x := frD a) (v := v) (.mem (by walk_at "mem"))
  refine ⟨_, (pss_cons (ps_if (PW.pt (pw_or (pt_not (pt_val (pe_callB call_isi rfl B.isinstance bt_isinstance (pa_cons (pv 0) (pa_cons (pe_bltn (v := .ty "tuple") rfl B.tuple bt_tuple rfl) pa_nil))))) (pw_or (pt_cmpR (op_neA (units_of hr)) (pe_callB call_lenA rfl B.len bt_len (pa_cons (pv 0) pa_nil)) pe_int (nomark _)) (pw_or (pt_not (pt_val (pe_cal C_law_whole hr (by first | decide | exact Nat.le_refl _ | omega) pass0 rfl (pa_cons (pe_ix ix_seq (pv 0) pe_int (fun _ _ => rfl)) pa_nil)))) (pw_or1 (pt_not (pt_val (pe_cal C_law_whole hr (by first | decide | exact Nat.le_refl _ | omega) pass0 rfl (pa_cons (pe_ix ix_seq (pv 0) pe_int (fun _ _ => rfl)) pa_nil))))))))) (pss_one (ps_ret pe_bl)) pss_nil) (pss_one (ps_ret (pe_and (pe_cmpR op_gt (pe_ix ix_seq (pv 0) pe_int (fun _ _ => rfl)) pe_int (nomark _)) (pe_one (pe_cmpR (op_eqA (units_of hr)) (pe_cal C_law_divisor hr (by first | decide | exact Nat.le_refl _ | omega) pass0 rfl (pa_cons (pe_ix ix_seq (pv 0) pe_int (fun _ _ => rfl)) (pa_cons (pe_ix ix_seq (pv 0) pe_int (fun _ _ => rfl)) pa_nil))) pe_int (nomark _))))))), rd_start ?_⟩
  walk_at "walk"
  refine iteNS rfl ?_
  walk_at "walk"
  refine rd_whole ?_
  walk_at "walk"
  refine rd_whole ?_
  walk_at "walk"
  refine iteD (fun _ => ?_) (fun c => absurd (by have := a.den_pos; omega) c)
  walk_at "walk"
  have hg : ((a.num.gcd (a.den : Int) : Nat) : Int) = 1 := by
    have := a.reduced
    unfold Nat.Coprime at this
    rw [Int.gcd, Int.natAbs_natCast, this]
    rfl
  rw [decide_eq_true hg]
  exact k H (Same.refl _)

abbrev s_law_sums : Stmt := top 36
theorem sc_law_sums : FnScope ["_law_corner", "_law_top", "_law_bottom", "_law_part"] ["_law_corner"] (defScope s_law_sums) := ⟨rfl, rfl, rfl, by decide +kernel, rfl, by decide +kernel, by decide +kernel⟩
theorem ok_sums (F : Fun K "_law_sums" "_law_sums" s_law_sums f fd) : FnOk P w K mg base CX0 1 f fd ["_law_corner"] spSums := by
  refine F.ok sc_law_sums (fun vs H Q E h => ?_) (fun cdv A outer s H vs Q E hr h => ?_)
  · obtain ⟨a, h, _⟩ := h
    rw [← h.len]; rfl
  obtain ⟨c, hA, ⟨⟨n, z, hn⟩, hl, hs⟩, k⟩ := h
  obtain ⟨v, rfl, al⟩ := isAll1 hA
  have S : Sta H H H [] [(cornD c, v)] := Sta.enter (Same.refl _) al
  refine ⟨_, (pss_cons (ps_set (i := 1) sc_law_sums.nd rfl (by first | exact Or.inl rfl | exact Or.inr rfl) pe_int) (pss_cons (ps_set (i := 2) sc_law_sums.nd rfl (by first | exact Or.inl rfl | exact Or.inr rfl) pe_int) (pss_cons (ps_for PassesOwn.never rfl (pi_tup (pe_ix ix_seq (pv 0) pe_int (fun _ _ => rfl))) (pg_name (i := 3) sc_law_sums.nd rfl (by first | exact Or.inl rfl | exact Or.inr rfl)) (pss_cons (ps_set (i := 1) sc_law_sums.nd rfl (by first | exact Or.inl rfl | exact Or.inr rfl) (pe_op op_addA (pe_op op_mulB (pv 1) (pe_ix ix_seq (pv 3) pe_int (fun _ _ => rfl))) (pe_op op_mulB (pe_ix ix_seq (pv 3) pe_int (fun _ _ => rfl)) (pv 2)))) (pss_one (ps_set (i := 2) sc_law_sums.nd rfl (by first | exact Or.inl rfl | exact Or.inr rfl) (pe_op op_mulB (pv 2) (pe_ix ix_seq (pv 3) pe_int (fun _ _ => rfl))))))) (pss_one (ps_ret (pe_cmpR (op_eqA (units_of hr)) (pe_op op_mulB (pv 1) (pe_ix ix_seq (pe_ix ix_seq (pv 0) pe_int (fun _ _ => rfl)) pe_int (fun _ _ => rfl))) (pe_op op_mulB (pe_ix ix_seq (pe_ix ix_seq (pv 0) pe_int (fun _ _ => rfl)) pe_int (fun _ _ => rfl)) (pv 2)) (nomark _))))))), rd_start ?_⟩
  walk_at "walk"
  rename_i w1 S1
  have S2 : Sta H H H [] [(partsD c.2, w1), (cornD c, v)] := S1.dat (by walk_at "dats")
  clear S1
  refine rd_kITd (xs := c.2.map frD) S2 (.mem (by walk_at "mem")) fun J wk => ?_
  refine for_wk wk (fun i σ cs ds => ∃ (top bot : Int) (x3 : Option V), σ = [some v, some (.int top), some (.int bot), x3] ∧ cs = [] ∧ ds = [(partsD c.2, w1), (cornD c, v)] ∧ 0 < bot ∧ Sz (i * (n + 1) + 1) bot ∧ Sz (i * (n + 1) + 1) top ∧ (top : Rat) = sumQ (c.2.take i) * (bot : Rat)) S2 ⟨0, 1, none, rfl, rfl, rfl, by decide, by rw [Nat.zero_mul]; show (1 : Int).natAbs < 2 ^ 1; decide, by rw [Nat.zero_mul]; show (0 : Int).natAbs < 2 ^ 1; decide, ?_⟩ (fun i σ cs ds h => ?_) ?_ ?_
  · rw [List.take_zero, sumQ]
    show ((0 : Int) : Rat) = 0 * ((1 : Int) : Rat)
    rw [Rat.zero_mul]; rfl
  · obtain ⟨_, _, _, _, _, rfl, _⟩ := h
    exact .mem (by walk_at "mem")
  · rintro i x u σ H3 cs ds hx ⟨top, bot, x3, rfl, rfl, rfl, b0, zb, zt, eq⟩ S3
    obtain ⟨q, hq, rfl⟩ := mapAt hx
    have zq := z.2 q (List.mem_of_getElem? hq)
    have hi : i < c.2.length := (List.getElem?_eq_some_iff.mp hq).1
    have hi2 : i * (n + 1) ≤ 1000 * 9001 := Nat.mul_le_mul (by omega) (by omega)
    have o1 : IntMulOk top (q.den : Int) := zt.mulOk zq.2 (by omega)
    have o2 : IntMulOk q.num bot := zq.1.mulOk zb (by omega)
    have o3 : IntMulOk bot (q.den : Int) := zb.mulOk zq.2 (by omega)
    have m1 := zt.mul zq.2
    have m2 := zq.1.mul zb
    have m3 := zb.mul zq.2
    walk_at "walk"
    refine rd_at (S3.dat (by walk_at "dats")) ⟨_, _, _, rfl, rfl, rfl, Int.mul_pos b0 (den_pos q), m3.mono (by rw [Nat.succ_mul]; omega), ((m1.mono (show _ ≤ i * (n + 1) + 1 + n by omega)).add (m2.mono (by omega))).mono (by rw [Nat.succ_mul]; omega), ?_⟩
    rw [sumQ_take hq]
    have hd := den_mul q
    simp only [Rat.intCast_add, Rat.intCast_mul]
    rw [← hd, eq]
    grind
  · rintro σ H3 cs ds ⟨top, bot, x3, rfl, rfl, rfl, b0, zb, zt, eq⟩ S3
    rw [List.length_map, List.take_length, hs] at eq
    rw [List.length_map] at zb zt
    have hi2 : c.2.length * (n + 1) ≤ 1000 * 9001 := Nat.mul_le_mul (by omega) (by omega)
    have o1 : IntMulOk top (c.1.den : Int) := zt.mulOk z.1.2 (by omega)
    have o2 : IntMulOk c.1.num bot := z.1.1.mulOk zb (by omega)
    have e : top * (c.1.den : Int) = c.1.num * bot := by
      apply Rat.intCast_inj.mp
      have hd := den_mul c.1
      simp only [Rat.intCast_mul]
      rw [← hd, eq]
      grind
    walk_at "walk"
    rw [decide_eq_true e]
    exact ret_B S3 k
abbrev s_law_all : Stmt := top 38
theorem sc_law_all : FnScope ["_law_parts", "_law_found", "_law_part"] ["_law_parts"] (defScope s_law_all) := ⟨rfl, rfl, rfl, by decide +kernel, rfl, by decide +kernel, by decide +kernel⟩
theorem ok_all (C_law_lowest : Cal P w K mg base CX0 2 "_law_lowest" ["_law_top", "_law_bottom"] spLawLow) (F : Fun K "_law_all" "_law_all" s_law_all f fd) : FnOk P w K mg base CX0 3 f fd ["_law_parts"] spAll := by
  refine F.ok sc_law_all (fun vs H Q E h => ?_) (fun cdv A outer s H vs Q E hr h => ?_)
  · obtain ⟨G, a, _, h, _⟩ := h
    rw [← h.len]; rfl
  obtain ⟨G, a, eG, hA, ⟨n, h1, h2, hn⟩, k⟩ := h
  obtain ⟨v, rfl, al⟩ := isAll1 hA
  have S : Sta H G H [] [(.list (a.map frD), v)] := Sta.enter eG al
  refine ⟨_, (pss_cons (ps_set (i := 1) sc_law_all.nd rfl (by first | exact Or.inl rfl | exact Or.inr rfl) (pe_tup (pa_cons pe_int (pa_cons pe_int pa_nil)))) (pss_cons (ps_for PassesOwn.never rfl (pi_list (pv 0)) (pg_name (i := 2) sc_law_all.nd rfl (by first | exact Or.inl rfl | exact Or.inr rfl)) (pss_one (ps_set (i := 1) sc_law_all.nd rfl (by first | exact Or.inl rfl | exact Or.inr rfl) (pe_cal C_law_lowest hr (by first | decide | exact Nat.le_refl _ | omega) pass0 rfl (pa_cons (pe_op op_addA (pe_op op_mulB (pe_ix ix_seq (pv 1) pe_int (fun _ _ => rfl)) (pe_ix ix_seq (pv 2) pe_int (fun _ _ => rfl))) (pe_op op_mulB (pe_ix ix_seq (pv 2) pe_int (fun _ _ => rfl)) (pe_ix ix_seq (pv 1) pe_int (fun _ _ => rfl)))) (pa_cons (pe_op op_mulB (pe_ix ix_seq (pv 1) pe_int (fun _ _ => rfl)) (pe_ix ix_seq (pv 2) pe_int (fun _ _ => rfl))) pa_nil)))))) (pss_one (ps_ret (pv 1))))), rd_start ?_⟩
  walk_at "walk"
  rename_i pz H1 e1 S1
  have S2 : Sta H G H1 [] [(frD 0, .ref pz), (.list (a.map frD), v)] := S1.dat (by walk_at "dats")
  clear S1
  refine rd_kILd (xs := a.map frD) S2 (.mem (by walk_at "mem")) fun J wk => ?_
  refine for_wk wk (fun i σ cs ds => ∃ (wf : V) (x2 : Option V), σ = [some v, some wf, x2] ∧ cs = [] ∧ ds = [(frD (sumQ (a.take i)), wf), (.list (a.map frD), v)]) S2 ⟨_, none, rfl, rfl, rfl⟩ (fun i σ cs ds h => ?_) ?_ ?_
  · obtain ⟨_, _, _, _, rfl⟩ := h
    exact .mem (by walk_at "mem")
  · rintro i x u σ H3 cs ds hx ⟨wf, x2, rfl, rfl, rfl⟩ S3
    obtain ⟨q, hq, rfl⟩ := mapAt hx
    have zq := h2 q (List.mem_of_getElem? hq)
    have zp := h1 i
    have est := sumQ_take hq
    generalize sumQ (a.take i) = p at *
    have o1 : IntMulOk p.num (q.den : Int) := zp.1.mulOk zq.2 (by omega)
    have o2 : IntMulOk q.num (p.den : Int) := zq.1.mulOk zp.2 (by omega)
    have o3 : IntMulOk (p.den : Int) (q.den : Int) := zp.2.mulOk zq.2 (by omega)
    walk_at "walk"
    refine rd_lawlow S3 (Int.mul_pos (den_pos p) (den_pos q)) ((zp.2.mul zq.2).mono (by omega)) fun r4 H4 e4 S4 => ?_
    rw [add_div, ← est] at S4
    walk_at "walk"
    exact rd_at (S4.dat (by walk_at "dats")) ⟨_, _, rfl, rfl, rfl⟩
  · rintro σ H3 cs ds ⟨wf, x2, rfl, rfl, rfl⟩ S3
    rw [List.length_map, List.take_length] at S3
    walk_at "walk"
    exact ret_T S3 k (.mem (by walk_at "mem"))
abbrev s_law_thin_row : Stmt := top 39
theorem sc_law_thin_row : FnScope ["_law_corners_here", "_law_found", "_law_corner"] ["_law_corners_here"] (defScope s_law_thin_row) := ⟨rfl, rfl, rfl, by decide +kernel, rfl, by decide +kernel, by decide +kernel⟩
theorem ok_thinrow (B : Bl mg) (C_law_at : Cal P w K mg base CX0 3 "_law_at" ["_law_path", "_law_purse"] spLawAt0) (F : Fun K "_law_thin_row" "_law_thin_row" s_law_thin_row f fd) : FnOk P w K mg base CX0 4 f fd ["_law_corners_here"] spThinRow := by
  refine F.ok sc_law_thin_row (fun vs H Q E h => ?_) (fun cdv A outer s H vs Q E hr h => ?_)
  · obtain ⟨G, a, _, h, _⟩ := h
    rw [← h.len]; rfl
  obtain ⟨G, C, eG, hA, ⟨m, n, hri, hm, hz, hn, m1, few⟩, k⟩ := h
  obtain ⟨v, rfl, al⟩ := isAll1 hA
  have S : Sta H G H [] [(pathD C, v)] := Sta.enter eG al
  refine ⟨_, (pss_cons (ps_set (i := 1) sc_law_thin_row.nd rfl (by first | exact Or.inl rfl | exact Or.inr rfl) (pe_lst pa_nil)) (pss_cons (ps_for PassesOwn.never rfl (pi_list (pv 0)) (pg_name (i := 2) sc_law_thin_row.nd rfl (by first | exact Or.inl rfl | exact Or.inr rfl)) (pss_cons (ps_if (PW.pt (pw_and (pt_cmpR op_gt (pe_callB call_lenA rfl B.len bt_len (pa_cons (pv 1) pa_nil)) pe_int (nomark _)) (pw_and1 (pt_cmpR (op_eqA (units_of hr)) (pe_cal C_law_at hr (by first | decide | exact Nat.le_refl _ | omega) pass0 rfl (pa_cons (pe_lst (pa_cons (pe_ix ix_seq (pv 1) (pe_un un_neg pe_int) (fun _ _ => rfl)) (pa_cons (pv 2) pa_nil))) (pa_cons (pe_ix ix_seq (pe_ix ix_seq (pv 1) (pe_un un_neg pe_int) (fun _ _ => rfl)) pe_int (fun _ _ => rfl)) pa_nil))) (pe_ix ix_seq (pe_ix ix_seq (pv 1) (pe_un un_neg pe_int) (fun _ _ => rfl)) pe_int (fun _ _ => rfl)) (nomark _))))) (pss_one (ps_expr (pe_bm0 PySem.F.plainAttrs_list PySem.F.slot_list_pop PySem.F.type_list_pop mt_pop (pv 1)))) pss_nil) (pss_one (ps_expr (pe_bm PySem.F.plainAttrs_list PySem.F.slot_list_append PySem.F.type_list_append mt_append (pv 1) (pa_cons (pv 2) pa_nil)))))) (pss_one (ps_ret (pv 1))))), rd_start ?_⟩
  walk_at "walk"
  rename_i pf H1 e1 S1
  refine rd_kILd (xs := C.map cornD) S1 (.mem (by walk_at "mem")) fun J wk => ?_
  refine for_wk wk (fun i σ cs ds => ∃ (T : List Corner) (x2 : Option V), σ = [some v, some (.ref pf), x2] ∧ cs = [(pf, T.map cornD)] ∧ ds = [(pathD C, v)] ∧ ThinOf (C.take i) T) S1 ⟨[], none, rfl, rfl, rfl, ThinOf.zero⟩ (fun i σ cs ds h => ?_) ?_ ?_
  · obtain ⟨_, _, _, _, rfl, _⟩ := h
    exact .mem (by walk_at "mem")
  · rintro i x u σ H2 cs ds hx ⟨T, x2, rfl, rfl, rfl, th⟩ S2
    obtain ⟨c, hc, rfl⟩ := mapAt hx
    have et : C.take (i + 1) = C.take i ++ [c] := by rw [List.take_add_one, hc]; rfl
    have hi : i < C.length := (List.getElem?_eq_some_iff.mp hc).1
    have hr2 : Rising (C.take i ++ [c]) := by rw [← et]; exact List.Pairwise.sublist (List.take_sublist _ _) hri
    have hm2 : ∀ d ∈ C.take i ++ [c], d.2.length = m := by rw [← et]; exact fun d hd => hm d (List.mem_of_mem_take hd)
    have tl : T.length ≤ i := by
      have := th.sub.length_le
      rw [List.length_take] at this
      omega
    have zc := hz c (List.mem_of_getElem? hc)
    walk_at "walk"
    refine iteD (fun c1 => ?_) (fun c1 => ?_)
    · rw [List.length_map] at c1
      obtain ⟨j, hj⟩ : ∃ j, T.length = j + 2 := ⟨T.length - 2, by omega⟩
      have eT := app_two (List.getElem?_eq_getElem (l := T) (i := j) (by omega)) (List.getElem?_eq_getElem (l := T) (i := j + 1) (by omega)) hj
      generalize T[j] = x at *
      generalize T[j + 1] = y at *
      generalize T.take j = G1 at *
      obtain ⟨hxy, hyc, lx, ly, lc⟩ := th.at2 eT hr2 hm2
      have mx : x ∈ C := List.mem_of_mem_take (th.sub.subset (by rw [eT]; simp))
      have my : y ∈ C := List.mem_of_mem_take (th.sub.subset (by rw [eT]; simp))
      have zx := hz x mx
      have zy := hz y my
      have eM : T.map cornD = (G1.map cornD) ++ [cornD x, cornD y] := by rw [eT, List.map_append]; rfl
      have gl : (T.map cornD).getLast? = some (cornD y) := by rw [eM]; simp
      have hat : lawAtV [x, c] y.1 = betw x c y.1 := lawAtV_at (i := 0) (fun j x hj => absurd hj (Nat.not_lt_zero _)) rfl rfl (Rat.le_of_lt hyc)
      have pr : PathR0 n [x, c] := ⟨by simp, fun d hd => by
          rcases List.mem_cons.mp hd with rfl | hd
          · exact zx
          · rw [List.mem_singleton.mp hd]; exact zc, fun d hd => by
          rcases List.mem_cons.mp hd with rfl | hd
          · omega
          · rw [List.mem_singleton.mp hd]; omega, by simp, List.pairwise_cons.mpr ⟨fun d hd => by rw [List.mem_singleton.mp hd]; exact rat_lt_trans hxy hyc, List.pairwise_singleton _ _⟩⟩
      walk_at "walk"
      refine rd_ixC (xs := T.map cornD) (x := cornD x) S2 (by walk_at "mem") (by rw [eM]; exact atI_neg2) fun w3 S3 => ?_
      walk_at "walk"
      rename_i pl H4 e4 S4
      have S5 := S4.freeze
      clear S4
      refine rd_ixC (xs := T.map cornD) (x := cornD y) S5 (by walk_at "mem") (atI_neg1 gl) fun w6 S6 => ?_
      walk_at "walk"
      rename_i w7 S7
      refine rd_lawat0 (a := [x, c]) (e := y.1) (m := n) (n := n) S7 (.mem (by walk_at "mem")) (.mem (by walk_at "mem")) pr zy.1 (by omega) fun r8 H8 e8 S8 => ?_
      rw [hat] at S8
      walk_at "walk"
      refine rd_ixC (xs := T.map cornD) (x := cornD y) S8 (by walk_at "mem") (atI_neg1 gl) fun w9 S9 => ?_
      walk_at "walk"
      rename_i w10 S10
      refine rd_eqD (x := partsD (betw x c y.1)) (y := partsD y.2) (S10.hp (.mem (by walk_at "mem"))) (S10.hp (.mem (by walk_at "mem"))) (shaped_partsD _) (shaped_partsD _) ?_
      rw [eqv_partsD]
      walk_at "walk"
      have S11 : Sta H G H8 [(pf, T.map cornD)] [(cornD c, u), (pathD C, v)] := S10.dat (by walk_at "dats")
      clear S10 S9 S8 S7 S6 S5 S3 S2
      refine iteD (fun c2 => ?_) (fun c2 => ?_)
      · have nt := th.drop eT hr2 hm2 c2
        have eM2 : T.map cornD = (G1 ++ [x]).map cornD ++ [cornD y] := by rw [eM]; simp
        rw [eM2] at S11
        walk_at "walk"
        refine rd_popL S11 fun w12 H12 S12 => ?_
        walk_at "walk"
        refine rd_append (y := cornD c) S12 (.mem (by walk_at "mem")) ?_ fun H13 S13 => ?_
        · rw [List.length_map, List.length_append, List.length_singleton]
          have : T.length = G1.length + 2 := by rw [eT]; simp
          omega
        walk_at "walk"
        refine rd_at (S13.dat (by walk_at "dats")) ⟨(G1 ++ [x]) ++ [c], _, rfl, ?_, rfl, by rw [et]; exact nt⟩
        simp
      · have nt := th.keep eT hr2 hm2 c2
        walk_at "walk"
        refine rd_append (y := cornD c) S11 (.mem (by walk_at "mem")) (by rw [List.length_map]; omega) fun H13 S13 => ?_
        walk_at "walk"
        refine rd_at (S13.dat (by walk_at "dats")) ⟨T ++ [c], _, rfl, ?_, rfl, by rw [et]; exact nt⟩
        rw [List.map_append]; rfl
    · rw [List.length_map] at c1
      walk_at "walk"
      refine rd_append (y := cornD c) S2 (.mem (by walk_at "mem")) (by rw [List.length_map]; omega) fun H13 S13 => ?_
      walk_at "walk"
      refine rd_at (S13.dat (by walk_at "dats")) ⟨T ++ [c], _, rfl, ?_, rfl, by rw [et]; exact th.few (by omega)⟩
      rw [List.map_append]; rfl
  · rintro σ H2 cs ds ⟨T, x2, rfl, rfl, rfl, th⟩ S2
    rw [List.length_map, List.take_length] at th
    walk_at "walk"
    exact ret_Lx S2 ⟨T, th, rfl⟩ k

abbrev s_law_is_path : Stmt := top 35
theorem sc_law_is_path : FnScope ["_law_found", "_law_parts", "_law_corner", "_law_k", "_law_one", "_law_two", "_law_low", "_law_middle", "_law_high"] ["_law_found", "_law_parts"] (defScope s_law_is_path) := ⟨rfl, rfl, rfl, by decide +kernel, rfl, by decide +kernel, by decide +kernel⟩
theorem ok_ispath (B : Bl mg) (B2 : Bl2 mg) (C_law_is_fraction : Cal P w K mg base CX0 2 "_law_is_fraction" ["_law_found"] spFrac) (C_law_less : Cal P w K mg base CX0 1 "_law_less" ["_law_one", "_law_two"] spLess) (C_law_sums : Cal P w K mg base CX0 1 "_law_sums" ["_law_corner"] spSums) (C_law_at : Cal P w K mg base CX0 3 "_law_at" ["_law_path", "_law_purse"] spLawAt0) (F : Fun K "_law_is_path" "_law_is_path" s_law_is_path f fd) : FnOk P w K mg base CX0 4 f fd ["_law_found", "_law_parts"] spIsPath := by
  refine F.ok sc_law_is_path (fun vs H Q E h => ?_) (fun cdv A outer s H vs Q E hr h => ?_)
  · obtain ⟨a, h, _⟩ := h
    rw [← h.len]; rfl
  obtain ⟨⟨N, T⟩, hA, ⟨n, ok, hn, hN⟩, k⟩ := h
  obtain ⟨v, v2, rfl, al⟩ := isAll2 hA
  dsimp only at ok hN al
  have S : Sta H H H [] [(pathD T, v), (.int (N : Nat), v2)] := Sta.enter (Same.refl _) al
  cases (S.hp (x := .int (N : Nat)) (v := v2) (.mem (by walk_at "mem"))).int_of
  have S0 : Sta H H H [] [(pathD T, v)] := S.dat (by walk_at "dats")
  clear S
  have hv := S0.hp (x := pathD T) (v := v) (.mem (by walk_at "mem"))
  have few := ok.pr.few
  have la : 0 < T.length := List.length_pos_iff.mpr ok.pr.ne
  refine ⟨_, (pss_cons (ps_if (PW.pt (pw_or (pt_not (pt_val (pe_callB call_isi rfl B.isinstance bt_isinstance (pa_cons (pv 0) (pa_cons (pe_bltn (v := .ty "list") rfl B.list bt_list rfl) pa_nil))))) (pw_or1 (pt_cmpR (op_eqA (units_of hr)) (pe_callB call_lenA rfl B.len bt_len (pa_cons (pv 0) pa_nil)) pe_int (nomark _))))) (pss_one (ps_ret pe_bl)) pss_nil) (pss_cons (ps_for PassesOwn.never rfl (pi_list (pv 0)) (pg_name (i := 2) sc_law_is_path.nd rfl (by first | exact Or.inl rfl | exact Or.inr rfl)) (pss_cons (ps_if (PW.pt (pw_or (pt_not (pt_val (pe_callB call_isi rfl B.isinstance bt_isinstance (pa_cons (pv 2) (pa_cons (pe_bltn (v := .ty "tuple") rfl B.tuple bt_tuple rfl) pa_nil))))) (pw_or (pt_cmpR (op_neA (units_of hr)) (pe_callB call_lenA rfl B.len bt_len (pa_cons (pv 2) pa_nil)) pe_int (nomark _)) (pw_or1 (pt_not (pt_val (pe_cal C_law_is_fraction hr (by first | decide | exact Nat.le_refl _ | omega) pass0 rfl (pa_cons (pe_ix ix_seq (pv 2) pe_int (fun _ _ => rfl)) pa_nil)))))))) (pss_one (ps_ret pe_bl)) pss_nil) (pss_cons (ps_if (PW.pt (pw_or (pt_not (pt_val (pe_callB call_isi rfl B.isinstance bt_isinstance (pa_cons (pe_ix ix_seq (pv 2) pe_int (fun _ _ => rfl)) (pa_cons (pe_bltn (v := .ty "tuple") rfl B.tuple bt_tuple rfl) pa_nil))))) (pw_or1 (pt_cmpR (op_neA (units_of hr)) (pe_callB call_lenA rfl B.len bt_len (pa_cons (pe_ix ix_seq (pv 2) pe_int (fun _ _ => rfl)) pa_nil)) (pv 1) (nomark _))))) (pss_one (ps_ret pe_bl)) pss_nil) (pss_one (ps_if (pt_not (pt_val (pe_callB (call_allA rfl) rfl B2.all bt_all (pa_cons (pe_comp (N := ["_law_part"]) (n := 1) (fr := []) rfl ⟨rfl, by decide +kernel, rfl, by decide, rfl, rfl, rfl, rfl, rfl⟩ (pi_tup (pe_ix ix_seq (pv 2) pe_int (fun _ _ => rfl))) (fun _ _ _ _ => (pg_name (i := 0) (show (["_law_part"] : List Str).Nodup from by decide +kernel) rfl (by first | exact Or.inl rfl | exact Or.inr rfl))) (fun _ _ _ _ => pif_nil) (fun _ _ _ _ => (pe_cal C_law_is_fraction hr (by first | decide | exact Nat.le_refl _ | omega) pass0 rfl (pa_cons (pv 0) pa_nil)))) pa_nil)))) (pss_one (ps_ret pe_bl)) pss_nil))))) (pss_cons (ps_if (pt_cmpR (op_neA (units_of hr)) (pe_ix ix_seq (pv 0) pe_int (fun _ _ => rfl)) (pe_tup (pa_cons (pe_tup (pa_cons pe_int (pa_cons pe_int pa_nil))) (pa_cons (pe_callTy call_tupleA rfl B.tuple bt_tuple (pa_cons (pe_comp (N := ["_law_k"]) (n := 1) (fr := []) rfl ⟨rfl, by decide +kernel, rfl, by decide, rfl, rfl, rfl, rfl, rfl⟩ (pi_range1 rfl B.range (pa_cons (pv 1) pa_nil)) (fun _ _ _ _ => (pg_name (i := 0) (show (["_law_k"] : List Str).Nodup from by decide +kernel) rfl (by first | exact Or.inl rfl | exact Or.inr rfl))) (fun _ _ _ _ => pif_nil) (fun _ _ _ _ => (pe_tup (pa_cons pe_int (pa_cons pe_int pa_nil))))) pa_nil)) pa_nil))) (nomark _)) (pss_one (ps_ret pe_bl)) pss_nil) (pss_cons (ps_for PassesOwn.never rfl (pi_range2 rfl B.range (pa_cons pe_int (pa_cons (pe_callB call_lenA rfl B.len bt_len (pa_cons (pv 0) pa_nil)) pa_nil))) (pg_name (i := 3) sc_law_is_path.nd rfl (by first | exact Or.inl rfl | exact Or.inr rfl)) (pss_cons (ps_if (pt_not (pt_val (pe_cal C_law_less hr (by first | decide | exact Nat.le_refl _ | omega) pass0 rfl (pa_cons (pe_ix ix_seq (pe_ix ix_seq (pv 0) (pe_op op_sub (pv 3) pe_int) (fun _ _ => rfl)) pe_int (fun _ _ => rfl)) (pa_cons (pe_ix ix_seq (pe_ix ix_seq (pv 0) (pv 3) (fun _ _ => rfl)) pe_int (fun _ _ => rfl)) pa_nil))))) (pss_one (ps_ret pe_bl)) pss_nil) (pss_cons (ps_for PassesOwn.never rfl (pi_zip false false rfl B.zip (pa_cons (pe_ix ix_seq (pe_ix ix_seq (pv 0) (pe_op op_sub (pv 3) pe_int) (fun _ _ => rfl)) pe_int (fun _ _ => rfl)) (pa_cons (pe_ix ix_seq (pe_ix ix_seq (pv 0) (pv 3) (fun _ _ => rfl)) pe_int (fun _ _ => rfl)) pa_nil))) (pg_tup rfl (pgs_cons (pg_name (i := 4) sc_law_is_path.nd rfl (by first | exact Or.inl rfl | exact Or.inr rfl)) (pgs_cons (pg_name (i := 5) sc_law_is_path.nd rfl (by first | exact Or.inl rfl | exact Or.inr rfl)) pgs_nil))) (pss_one (ps_if (pt_val (pe_cal C_law_less hr (by first | decide | exact Nat.le_refl _ | omega) pass0 rfl (pa_cons (pv 5) (pa_cons (pv 4) pa_nil)))) (pss_one (ps_ret pe_bl)) pss_nil))) (pss_cons (ps_if (pt_not (pt_val (pe_cal C_law_sums hr (by first | decide | exact Nat.le_refl _ | omega) pass0 rfl (pa_cons (pe_ix ix_seq (pv 0) (pv 3) (fun _ _ => rfl)) pa_nil)))) (pss_one (ps_ret pe_bl)) pss_nil) (pss_one (ps_if (pt_cmpR op_gt (pv 3) pe_int (nomark _)) (pss_cons (ps_asg (pe_slice sl_list (pv 0) (po_some (pe_op op_sub (pv 3) pe_int)) (po_some (pe_op op_addA (pv 3) pe_int))) (pg_lst rfl (pgs_cons (pg_name (i := 6) sc_law_is_path.nd rfl (by first | exact Or.inl rfl | exact Or.inr rfl)) (pgs_cons (pg_name (i := 7) sc_law_is_path.nd rfl (by first | exact Or.inl rfl | exact Or.inr rfl)) (pgs_cons (pg_name (i := 8) sc_law_is_path.nd rfl (by first | exact Or.inl rfl | exact Or.inr rfl)) pgs_nil))))) (pss_one (ps_if (pt_cmpR (op_eqA (units_of hr)) (pe_cal C_law_at hr (by first | decide | exact Nat.le_refl _ | omega) pass0 rfl (pa_cons (pe_lst (pa_cons (pv 6) (pa_cons (pv 8) pa_nil))) (pa_cons (pe_ix ix_seq (pv 7) pe_int (fun _ _ => rfl)) pa_nil))) (pe_ix ix_seq (pv 7) pe_int (fun _ _ => rfl)) (nomark _)) (pss_one (ps_ret pe_bl)) pss_nil))) pss_nil)))))) (pss_one (ps_ret pe_bl)))))), rd_start ?_⟩
  walk_at "walk"
  refine iteD (fun c => absurd c (by rw [List.length_map]; omega)) (fun _ => ?_)
  walk_at "walk"
  refine rd_kILd (xs := T.map cornD) S0 (.mem (by walk_at "mem")) fun J wk => ?_
  refine for_wk wk (fun i σ cs ds => ∃ (x2 : Option V), σ = [some v, some (.int (N : Nat)), x2, none, none, none, none, none, none] ∧ cs = [] ∧ ds = [(pathD T, v)]) S0 ⟨none, rfl, rfl, rfl⟩ (fun i σ cs ds h => ?_) ?_ ?_
  · obtain ⟨_, _, _, rfl⟩ := h
    exact .mem (by walk_at "mem")
  · rintro i x u σ H2 cs ds hx ⟨x2, rfl, rfl, rfl⟩ S2
    obtain ⟨c, hc, rfl⟩ := mapAt hx
    have lc := ok.len c (List.mem_of_getElem? hc)
    have hcu := S2.hp (x := cornD c) (v := u) (.mem (by walk_at "mem"))
    walk_at "walk"
    refine iteNS rfl ?_
    walk_at "walk"
    rename_i w3 S3
    refine rd_frac S3 (.mem (by walk_at "mem")) fun H4 S4 => ?_
    walk_at "walk"
    rename_i w5 S5
    have hw5 := S5.hp (x := partsD c.2) (v := w5) (.mem (by walk_at "mem"))
    walk_at "walk"
    rename_i w6 S6
    refine iteNS (by rw [List.length_map, lc]) ?_
    walk_at "walk"
    rename_i w7 S7
    refine rd_kITd (xs := c.2.map frD) S7 (.mem (by walk_at "mem")) fun J2 wk2 => ?_
    refine comp_map wk2 (fun j => .bool true) (ys := (List.replicate c.2.length true).map PyData.bool) (by rw [List.length_map, List.map_replicate]; exact map_const _ _) S7 (fun _ _ => .mem (by walk_at "mem")) (by rw [List.length_map]; omega) (fun j x v B' G' Kd Kn hx t1 S hd C ex s0 H0 => ?_) fun D8 H8 e8 S8 => ?_
    · obtain ⟨q, hq, rfl⟩ := mapAt hx
      refine rd_name ⟨rfl, ?_⟩
      walk_at "walk"
      refine rd_frac S (.mem (by walk_at "mem")) fun H9 S9 => ?_
      exact hd S9 Has.bl
    walk_at "walk"
    refine rd_allC (bs := List.replicate c.2.length true) S8 (by walk_at "mem") ?_
    rw [show (List.replicate c.2.length true).all id = true by simp]
    walk_at "walk"
    exact rd_at (S8.weak (cs' := []) (by walk_at "sub") (by walk_at "dats")) ⟨_, rfl, rfl, rfl⟩
  · rintro σ H2 cs ds ⟨x2, rfl, rfl, rfl⟩ S2
    walk_at "walk"
    refine rd_ixL (xs := T.map cornD) (x := cornD (0, List.replicate N 0)) S2 (.mem (by walk_at "mem")) (atI_nat (j := 0) (by rw [List.getElem?_map, ok.head]; rfl)) fun w3 S3 => ?_
    walk_at "walk"
    rename_i p4 H4 e4 S4
    refine rd_kR1 H H (by omega) (by omega) fun J2 wk2 => ?_
    refine comp_map wk2 (fun j => frD 0) (ys := (List.replicate N (0 : Rat)).map frD) (by rw [rangeD_len, List.map_replicate, Int.toNat_natCast]; exact map_const _ _) S4 (fun _ _ => trivial) (by rw [rangeD_len]; omega) (fun j x v B' G' Kd Kn hx t1 S hd C ex s0 H0 => ?_) fun D5 H5 e5 S5 => ?_
    · obtain ⟨_, rfl⟩ := rangeD_at hx
      refine rd_name ⟨rfl, ?_⟩
      walk_at "walk"
      exact hd (by assumption) (.mem (by walk_at "mem"))
    walk_at "walk"
    rename_i p6 H6 e6 S6 p7 H7 e7 S7
    refine rd_neD (x := cornD (0, List.replicate N 0)) (y := cornD (0, List.replicate N 0)) (S7.hp (.mem (by walk_at "mem"))) (S7.hp (.mem (by walk_at "mem"))) (shaped_cornD _) (shaped_cornD _) ?_
    rw [eqv_cornD, decide_eq_true rfl]
    walk_at "walk"
    have S8 : Sta H H H7 [] [(pathD T, v)] := S7.weak (by walk_at "sub") (by walk_at "dats")
    clear S7 S6 S5 S4 S3 S2
    refine rd_kR2 H H ⟨by omega, by omega⟩ ⟨by rw [List.length_map]; omega, by rw [List.length_map]; omega⟩ fun J3 wk3 => ?_
    refine for_wk wk3 (fun i σ cs ds => ∃ (x3 x4 x5 x6 x7 x8 : Option V), σ = [some v, some (.int (N : Nat)), x2, x3, x4, x5, x6, x7, x8] ∧ cs = [] ∧ ds = [(pathD T, v)]) S8 ⟨_, _, _, _, _, _, rfl, rfl, rfl⟩ (fun _ _ _ _ _ => trivial) ?_ ?_
    · rintro i x u σ H9 cs ds hx ⟨x3, x4, x5, x6, x7, x8, rfl, rfl, rfl⟩ S9
      obtain ⟨hi, rfl⟩ := rangeD_at hx
      cases S9.int1
      rw [List.length_map] at hi
      have hi1 : i + 1 < T.length := by omega
      have hi0 : i < T.length := by omega
      have hd := List.getElem?_eq_getElem hi1
      have hc := List.getElem?_eq_getElem hi0
      have hr' := ok.pr.rise
      unfold Rising at hr'
      rw [List.pairwise_iff_getElem] at hr'
      have hcd := hr' i (i + 1) hi0 hi1 (by omega)
      generalize T[i] = c at *
      generalize T[i + 1] = d at *
      have zc := ok.pr.sz c (List.mem_of_getElem? hc)
      have zd := ok.pr.sz d (List.mem_of_getElem? hd)
      have i1 : atI (T.map cornD) (1 + (i : Int)) = some (cornD d) := by rw [show 1 + (i : Int) = ((i + 1 : Nat) : Int) by omega]; exact atI_nat (by rw [List.getElem?_map, hd]; rfl)
      have i0 : atI (T.map cornD) (1 + (i : Int) - 1) = some (cornD c) := by rw [show 1 + (i : Int) - 1 = ((i : Nat) : Int) by omega]; exact atI_nat (by rw [List.getElem?_map, hc]; rfl)
      walk_at "walk"
      refine rd_ixL (xs := T.map cornD) (x := cornD c) S9 (.mem (by walk_at "mem")) i0 fun w10 S10 => ?_
      walk_at "walk"
      rename_i w11 S11
      refine rd_ixL (xs := T.map cornD) (x := cornD d) S11 (.mem (by walk_at "mem")) i1 fun w12 S12 => ?_
      walk_at "walk"
      rename_i w13 S13
      refine rd_less S13 (.mem (by walk_at "mem")) (.mem (by walk_at "mem")) zc.1 zd.1 (by omega) ?_
      rw [decide_eq_true hcd]
      walk_at "walk"
      refine rd_ixL (xs := T.map cornD) (x := cornD c) S13 (.mem (by walk_at "mem")) i0 fun w14 S14 => ?_
      walk_at "walk"
      rename_i w15 S15
      refine rd_ixL (xs := T.map cornD) (x := cornD d) S15 (.mem (by walk_at "mem")) i1 fun w16 S16 => ?_
      walk_at "walk"
      rename_i w17 S17
      have S18 : Sta H H H9 [] [(partsD c.2, w15), (partsD d.2, w17), (pathD T, v)] := S17.dat (by walk_at "dats")
      clear S17 S16 S15 S14 S13 S12 S11 S10 S9
      refine rd_kZiTT (xs := c.2.map frD) (ys := d.2.map frD) S18 (.mem (by walk_at "mem")) (.mem (by walk_at "mem")) fun J4 wk4 => ?_
      refine for_wk wk4 (fun i2 σ cs ds => ∃ (y4 y5 : Option V), σ = [some v, some (.int (N : Nat)), x2, some (.int (1 + (i : Int))), y4, y5, x6, x7, x8] ∧ cs = [] ∧ ds = [(partsD c.2, w15), (partsD d.2, w17), (pathD T, v)]) S18 ⟨_, _, rfl, rfl, rfl⟩ (fun i2 σ cs ds h => ?_) ?_ ?_
      · obtain ⟨_, _, _, _, rfl⟩ := h
        exact ⟨.mem (by walk_at "mem"), fun _ _ h => h.tail, .mem (by walk_at "mem")⟩
      · rintro i2 x u2 σ H19 cs ds hx2 ⟨y4, y5, rfl, rfl, rfl⟩ S19
        obtain ⟨xa, xb, h1, h2, rfl⟩ := zipD_at hx2
        obtain ⟨p, hp, rfl⟩ := mapAt h1
        obtain ⟨q, hq, rfl⟩ := mapAt h2
        refine rd_gTup (rd_kGT2 S19 (.mem (by walk_at "mem")) fun w20 w21 S20 => ?_)
        walk_at "walk"
        refine rd_less S20 (.mem (by walk_at "mem")) (.mem (by walk_at "mem")) (zd.2 q (List.mem_of_getElem? hq)) (zc.2 p (List.mem_of_getElem? hp)) (by omega) ?_
        rw [decide_eq_false (Rat.not_lt.mpr (ok.le i c d hc hd i2 p q hp hq))]
        walk_at "walk"
        exact rd_at (S20.dat (by walk_at "dats")) ⟨_, _, rfl, rfl, rfl⟩
      · rintro σ H19 cs ds ⟨y4, y5, rfl, rfl, rfl⟩ S19
        walk_at "walk"
        refine rd_ixL (xs := T.map cornD) (x := cornD d) S19 (.mem (by walk_at "mem")) i1 fun w20 S20 => ?_
        walk_at "walk"
        refine rd_sums S20 (.mem (by walk_at "mem")) zd (by omega) (ok.pr.len d (List.mem_of_getElem? hd)) (ok.sums d (List.mem_of_getElem? hd)) fun H21 S21 => ?_
        walk_at "walk"
        refine iteD (fun c1 => ?_) (fun c1 => ?_)
        · obtain ⟨j, rfl⟩ : ∃ j, i = j + 1 := ⟨i - 1, by omega⟩
          have hb := List.getElem?_eq_getElem (l := T) (i := j) (by omega)
          have hbc := hr' j (j + 1) (by omega) hi0 (by omega)
          rw [(List.getElem_eq_iff hi0).mpr hc] at hbc
          generalize T[j] = b at *
          have zb := ok.pr.sz b (List.mem_of_getElem? hb)
          have lb := ok.len b (List.mem_of_getElem? hb)
          have lc := ok.len c (List.mem_of_getElem? hc)
          have ld := ok.len d (List.mem_of_getElem? hd)
          have hbd := rat_lt_trans hbc hcd
          have e1 : (1 : Int) + ((j + 1 : Nat) : Int) - 2 = ((j : Nat) : Int) := by omega
          have e2 : (1 : Int) + ((j + 1 : Nat) : Int) + 1 = ((j + 3 : Nat) : Int) := by omega
          have cut := cut3 (xs := T.map cornD) (j := j) (x := cornD b) (y := cornD c) (z := cornD d) (by rw [List.getElem?_map, hb]; rfl) (by rw [List.getElem?_map, hc]; rfl) (by rw [List.getElem?_map, hd]; rfl)
          have hat : lawAtV [b, d] c.1 = betw b d c.1 := lawAtV_at (i := 0) (fun j x hj => absurd hj (Nat.not_lt_zero _)) rfl rfl (Rat.le_of_lt hcd)
          have pr : PathR0 n [b, d] := ⟨by simp, fun e he => by
              rcases List.mem_cons.mp he with rfl | he
              · exact zb
              · rw [List.mem_singleton.mp he]; exact zd, fun e he => by
              rcases List.mem_cons.mp he with rfl | he
              · omega
              · rw [List.mem_singleton.mp he]; omega, by simp, List.pairwise_cons.mpr ⟨fun e he => by rw [List.mem_singleton.mp he]; exact hbd, List.pairwise_singleton _ _⟩⟩
          have hne := not_straight (ok.str j b c d hb hc hd) hbd (by rw [lb, ld]) (by rw [lb, lc])
          walk_at "walk"
          refine rd_slL (xs := T.map cornD) S21 (.mem (by walk_at "mem")) fun l22 H22 e22 S22 => ?_
          rw [e1, e2, cut] at S22
          refine rd_gLst (rd_kGL3 S22 (by walk_at "mem") fun w23 w24 w25 S23 => ?_)
          walk_at "walk"
          rename_i p24 H24 e24 S24 w26 S25
          have S26 : Sta H H H24 [] [(pathD [b, d], .ref p24), (frD c.1, w26), (cornD c, w24), (pathD T, v)] := S25.freeze.weak (by walk_at "sub") (by walk_at "dats")
          clear S25 S24 S23 S22
          refine rd_lawat0 (a := [b, d]) (e := c.1) (m := n) (n := n) S26 (.mem (by walk_at "mem")) (.mem (by walk_at "mem")) pr zc.1 (by omega) fun r27 H27 e27 S27 => ?_
          rw [hat] at S27
          walk_at "walk"
          rename_i w28 S28
          refine rd_eqD (x := partsD (betw b d c.1)) (y := partsD c.2) (S28.hp (.mem (by walk_at "mem"))) (S28.hp (.mem (by walk_at "mem"))) (shaped_partsD _) (shaped_partsD _) ?_
          rw [eqv_partsD, decide_eq_false hne]
          walk_at "walk"
          exact rd_at (S28.dat (by walk_at "dats")) ⟨_, _, _, _, _, _, rfl, rfl, rfl⟩
        · walk_at "walk"
          exact rd_at (S21.dat (by walk_at "dats")) ⟨_, _, _, _, _, _, rfl, rfl, rfl⟩
    · rintro σ H9 cs ds ⟨x3, x4, x5, x6, x7, x8, rfl, rfl, rfl⟩ S9
      walk_at "walk"
      exact ret_B S9 k

abbrev s_law_outer : Stmt := top 37
theorem sc_law_outer : FnScope ["_law_script", "_law_ends", "_law_rows", "_law_corners_here", "_law_here", "_law_j", "_law_there", "_law_moved", "_law_parts"] ["_law_script", "_law_ends"] (defScope s_law_outer) := ⟨rfl, rfl, rfl, by decide +kernel, rfl, by decide +kernel, by decide +kernel⟩
theorem ok_outer (B : Bl mg) (B2 : Bl2 mg) (C_law_cell_at : Cal P w K mg base CX0 1 "_law_cell_at" ["_law_script", "_law_k"] (spCell K)) (C_law_mixed : Cal P w K mg base CX0 1 "_law_mixed" ["_law_cell", "_law_place"] spMix) (C_law_lowest : Cal P w K mg base CX0 2 "_law_lowest" ["_law_top", "_law_bottom"] spLawLow) (C_law_all : Cal P w K mg base CX0 3 "_law_all" ["_law_parts"] spAll) (F : Fun K "_law_outer" "_law_outer" s_law_outer f fd) : FnOk P w K mg base CX0 4 f fd ["_law_script", "_law_ends"] (spOuter K) := by
  refine F.ok sc_law_outer (fun vs H Q E h => ?_) (fun cdv A outer s H vs Q E hr h => ?_)
  · obtain ⟨G, a, ns, v, es, rfl, _⟩ := h
    rfl
  obtain ⟨G, a, ns, v, es, rfl, eG, hS, hv, ok, k⟩ := h
  have S : Sta H G H [] [(.list (es.map frD), v)] := Sta.enter eG fun p hp => by rw [List.mem_singleton.mp hp]; exact hv
  have few := ok.few
  have nn := ok.nonneg
  refine ⟨_, (pss_cons (ps_setComp1 (i := 2) (N := ["_law_k", "_law_script"]) (n := 1) (fr := [0]) (y := "_law_k") sc_law_outer.nd rfl rfl rfl ⟨rfl, by decide +kernel, rfl, by decide, rfl, rfl, fun _ _ => rfl, fun _ => rfl, rfl, rfl, rfl, rfl⟩ (pi_range1 rfl B.range (pa_cons (pe_callB call_lenA rfl B.len bt_len (pa_cons (pv 1) pa_nil)) pa_nil)) (fun _ _ _ _ => (pg_name (i := 0) (show (["_law_k", "_law_script"] : List Str).Nodup from by decide +kernel) rfl (by first | exact Or.inl rfl | exact Or.inr rfl))) (fun _ _ _ _ => pif_nil) (fun _ _ _ _ => (pe_callB call_sortedA rfl B2.sorted bt_sorted (pa_cons (pe_comp (N := ["_law_j", "_law_k", "_law_script"]) (n := 1) (fr := [0, 1]) rfl ⟨rfl, by decide +kernel, rfl, by decide, rfl, rfl, rfl, rfl, rfl⟩ (pi_range1 rfl B.range (pa_cons pe_int pa_nil)) (fun _ _ _ _ => (pg_name (i := 0) (show (["_law_j", "_law_k", "_law_script"] : List Str).Nodup from by decide +kernel) rfl (by first | exact Or.inl rfl | exact Or.inr rfl))) (fun _ _ _ _ => pif_nil) (fun _ _ _ _ => (pe_op op_mod (pe_cal C_law_mixed hr (by first | decide | exact Nat.le_refl _ | omega) pass0 rfl (pa_cons (pe_cal C_law_cell_at hr (by first | decide | exact Nat.le_refl _ | omega) pass0 rfl (pa_cons (pv 2) (pa_cons (pe_op op_addA pe_int (pv 0)) pa_nil))) (pa_cons (pv 1) pa_nil))) pe_int))) pa_nil)))) (pss_cons (ps_set (i := 3) sc_law_outer.nd rfl (by first | exact Or.inl rfl | exact Or.inr rfl) (pe_lst (pa_cons (pe_tup (pa_cons (pe_tup (pa_cons pe_int (pa_cons pe_int pa_nil))) (pa_cons (pe_callTy call_tupleA rfl B.tuple bt_tuple (pa_cons (pe_comp (N := ["_law_end"]) (n := 1) (fr := []) rfl ⟨rfl, by decide +kernel, rfl, by decide, rfl, rfl, rfl, rfl, rfl⟩ (pi_list (pv 1)) (fun _ _ _ _ => (pg_name (i := 0) (show (["_law_end"] : List Str).Nodup from by decide +kernel) rfl (by first | exact Or.inl rfl | exact Or.inr rfl))) (fun _ _ _ _ => pif_nil) (fun _ _ _ _ => (pe_tup (pa_cons pe_int (pa_cons pe_int pa_nil))))) pa_nil)) pa_nil))) pa_nil))) (pss_cons (ps_set (i := 4) sc_law_outer.nd rfl (by first | exact Or.inl rfl | exact Or.inr rfl) (pe_comp (N := ["_law_end"]) (n := 1) (fr := []) rfl ⟨rfl, by decide +kernel, rfl, by decide, rfl, rfl, rfl, rfl, rfl⟩ (pi_list (pv 1)) (fun _ _ _ _ => (pg_name (i := 0) (show (["_law_end"] : List Str).Nodup from by decide +kernel) rfl (by first | exact Or.inl rfl | exact Or.inr rfl))) (fun _ _ _ _ => pif_nil) (fun _ _ _ _ => pe_int))) (pss_cons (ps_for PassesOwn.never rfl (pi_range1 rfl B.range (pa_cons pe_int pa_nil)) (pg_name (i := 5) sc_law_outer.nd rfl (by first | exact Or.inl rfl | exact Or.inr rfl)) (pss_cons (ps_set (i := 6) sc_law_outer.nd rfl (by first | exact Or.inl rfl | exact Or.inr rfl) (pe_comp (N := ["_law_end"]) (n := 1) (fr := []) rfl ⟨rfl, by decide +kernel, rfl, by decide, rfl, rfl, rfl, rfl, rfl⟩ (pi_list (pv 1)) (fun _ _ _ _ => (pg_name (i := 0) (show (["_law_end"] : List Str).Nodup from by decide +kernel) rfl (by first | exact Or.inl rfl | exact Or.inr rfl))) (fun _ _ _ _ => pif_nil) (fun _ _ _ _ => pe_int))) (pss_cons (ps_if (pt_cmpR op_lt (pv 5) pe_int (nomark _)) (pss_one (ps_set (i := 6) sc_law_outer.nd rfl (by first | exact Or.inl rfl | exact Or.inr rfl) (pe_comp (N := ["_law_row", "_law_j"]) (n := 1) (fr := [5]) rfl ⟨rfl, by decide +kernel, rfl, by decide, rfl, rfl, rfl, rfl, rfl⟩ (pi_list (pv 2)) (fun _ _ _ _ => (pg_name (i := 0) (show (["_law_row", "_law_j"] : List Str).Nodup from by decide +kernel) rfl (by first | exact Or.inl rfl | exact Or.inr rfl))) (fun _ _ _ _ => pif_nil) (fun _ _ _ _ => (pe_ix ix_seq (pv 0) (pv 1) (fun _ _ => rfl)))))) pss_nil) (pss_cons (ps_set (i := 7) sc_law_outer.nd rfl (by first | exact Or.inl rfl | exact Or.inr rfl) (pe_cmpR op_gt (pe_callB call_lenA rfl B.len bt_len (pa_cons (pe_comp (N := ["_law_k", "_law_ends", "_law_here", "_law_there"]) (n := 1) (fr := [1, 4, 6]) rfl ⟨rfl, by decide +kernel, rfl, by decide, rfl, rfl, rfl, rfl, rfl⟩ (pi_range1 rfl B.range (pa_cons (pe_callB call_lenA rfl B.len bt_len (pa_cons (pv 1) pa_nil)) pa_nil)) (fun _ _ _ _ => (pg_name (i := 0) (show (["_law_k", "_law_ends", "_law_here", "_law_there"] : List Str).Nodup from by decide +kernel) rfl (by first | exact Or.inl rfl | exact Or.inr rfl))) (fun _ _ _ _ => (pif_one (PW.pt (pw_and (pt_cmpR op_gt (pe_ix ix_seq (pv 3) (pv 0) (fun _ _ => rfl)) (pe_ix ix_seq (pv 2) (pv 0) (fun _ _ => rfl)) (nomark _)) (pw_and1 (pt_cmpR op_gt (pe_ix ix_seq (pe_ix ix_seq (pv 1) (pv 0) (fun _ _ => rfl)) pe_int (fun _ _ => rfl)) pe_int (nomark _))))))) (fun _ _ _ _ => (pv 0))) pa_nil)) pe_int (nomark _))) (pss_one (ps_if (pt_val (pv 7)) (pss_cons (ps_setComp (i := 8) (N := ["_law_end", "_law_some"]) (n := 2) (fr := []) sc_law_outer.nd rfl rfl rfl ⟨rfl, by decide +kernel, rfl, by decide, rfl, rfl, rfl, rfl, rfl⟩ (pi_zip true true rfl B.zip (pa_cons (pv 1) (pa_cons (pv 6) pa_nil))) (fun _ _ _ _ => (pg_tup rfl (pgs_cons (pg_name (i := 0) (show (["_law_end", "_law_some"] : List Str).Nodup from by decide +kernel) rfl (by first | exact Or.inl rfl | exact Or.inr rfl)) (pgs_cons (pg_name (i := 1) (show (["_law_end", "_law_some"] : List Str).Nodup from by decide +kernel) rfl (by first | exact Or.inl rfl | exact Or.inr rfl)) pgs_nil)))) (fun _ _ _ _ => pif_nil) (fun _ _ _ _ => (pe_cal C_law_lowest hr (by first | decide | exact Nat.le_refl _ | omega) pass0 rfl (pa_cons (pe_op op_mulB (pe_ix ix_seq (pv 0) pe_int (fun _ _ => rfl)) (pv 1)) (pa_cons (pe_op op_mulB (pe_ix ix_seq (pv 0) pe_int (fun _ _ => rfl)) pe_int) pa_nil))))) (pss_cons (ps_expr (pe_bm PySem.F.plainAttrs_list PySem.F.slot_list_append PySem.F.type_list_append mt_append (pv 3) (pa_cons (pe_tup (pa_cons (pe_cal C_law_all hr (by first | decide | exact Nat.le_refl _ | omega) pass0 rfl (pa_cons (pv 8) pa_nil)) (pa_cons (pe_callTy call_tupleA rfl B.tuple bt_tuple (pa_cons (pv 8) pa_nil)) pa_nil))) pa_nil))) (pss_one (ps_set (i := 4) sc_law_outer.nd rfl (by first | exact Or.inl rfl | exact Or.inr rfl) (pv 6))))) pss_nil)))))) (pss_one (ps_ret (pv 3))))))), rd_start ?_⟩
  walk_at "walk"
  refine rd_kR1 H G (by omega) (by rw [List.length_map]; omega) fun J wk => ?_
  refine comp_map wk (fun j => rowD (rowO ns j)) (ys := ((List.range es.length).map (rowO ns)).map rowD) (by rw [rangeD_len, List.length_map, Int.toNat_natCast, List.map_map]; rfl) S (fun _ _ => trivial) (by rw [rangeD_len, List.length_map]; omega) (fun j x u B' G' Kd Kn hx t1 S hd C ex s0 H0 => ?_) fun D H1 e1 S1 => ?_
  · obtain ⟨_, rfl⟩ := rangeD_at hx
    cases S.int1
    have hS1 : SqL K B' a (ns.map V.int) := t1.b.seq hS
    refine rd_name ⟨rfl, ?_⟩
    walk_at "walk"
    refine rd_kR1 B' G' (by omega) (by omega) fun J2 wk2 => ?_
    refine comp_map wk2 (fun i => .int (mixV (cellAt ns (24 + (0 + (i : Int)))) (0 + (j : Int)) % 13)) (ys := ((List.range 4).map fun (i : Nat) => mixV (cellAt ns (24 + (0 + (i : Int)))) (0 + (j : Int)) % 13).map PyData.int) (by rw [rangeD_len, List.map_map]; rfl) S (fun _ _ => trivial) (by rw [rangeD_len]; decide) (fun i x u B3 G3 Kd2 Kn2 hx2 t2 S2 hd2 C2 ex2 s2 H2 => ?_) fun D3 H3 e3 S3 => ?_
    · obtain ⟨_, rfl⟩ := rangeD_at hx2
      cases S2.int1
      have hS2 : SqL K B3 a (ns.map V.int) := t2.b.seq hS1
      refine rd_name ⟨rfl, ?_⟩
      walk_at "walk"
      exact hd2 S2 Has.int
    walk_at "walk"
    refine rd_sortedC S3 (by walk_at "mem") (by rw [List.length_map, List.length_range]; decide) fun ns' l H4 hp hs e4 S4 => ?_
    have eq := srtI_of hp hs
    subst eq
    exact hd S4.freeze (.mem (by walk_at "mem"))
  have S2 : Sta H G H1 [] [(rowsD ((List.range es.length).map (rowO ns)), .ref D), (.list (es.map frD), v)] := S1.freeze
  clear S1
  have hR : ∀ r ∈ (List.range es.length).map (rowO ns), Row4 r := fun r hr => by
    obtain ⟨j, _, rfl⟩ := List.mem_map.mp hr
    exact rowO_ok ns j
  have lR : ((List.range es.length).map (rowO ns)).length = es.length := by rw [List.length_map, List.length_range]
  generalize (List.range es.length).map (rowO ns) = R at *
  walk_at "walk"
  rename_i p3 H3 e3 S3
  refine rd_kILd (xs := es.map frD) S3 (.mem (by walk_at "mem")) fun J2 wk2 => ?_
  refine comp_map wk2 (fun j => frD 0) (ys := (List.replicate es.length (0 : Rat)).map frD) (by rw [List.length_map, List.map_replicate]; exact map_const _ _) S3 (fun _ _ => .mem (by walk_at "mem")) (by rw [List.length_map]; omega) (fun j x u B' G' Kd Kn hx t1 S hd C ex s0 H0 => ?_) fun D4 H4 e4 S4 => ?_
  · refine rd_name ⟨rfl, ?_⟩
    walk_at "walk"
    exact hd (by assumption) (.mem (by walk_at "mem"))
  walk_at "walk"
  rename_i p5 H5 e5 S5 p6 H6 e6 S6 pc H7 e7 S7
  have eC : [PyData.tuple [.tuple [.int 0, .int 1], .tuple ((List.replicate es.length (0 : Rat)).map frD)]] = ([zeroV es.length].map (outC es)).map cornD := by
    rw [List.map_cons, List.map_nil, outC_zero]; rfl
  rw [eC] at S7
  have S8 : Sta H G H7 [(pc, ([zeroV es.length].map (outC es)).map cornD)] [(rowsD R, .ref D), (.list (es.map frD), v)] := S7.weak (by walk_at "sub") (by walk_at "dats")
  clear S7 S6 S5 S4 S3 S2
  refine rd_kILd (xs := es.map frD) S8 (.mem (by walk_at "mem")) fun J3 wk3 => ?_
  refine comp_map wk3 (fun j => .int 0) (ys := (zeroV es.length).map PyData.int) (by unfold zeroV; rw [List.length_map, List.map_replicate]; exact map_const _ _) S8 (fun _ _ => .mem (by walk_at "mem")) (by rw [List.length_map]; omega) (fun j x u B' G' Kd Kn hx t1 S hd C ex s0 H0 => ?_) fun ph H9 e9 S9 => ?_
  · refine rd_name ⟨rfl, ?_⟩
    walk_at "walk"
    exact hd S Has.int
  have S10 : Sta H G H9 [(pc, ([zeroV es.length].map (outC es)).map cornD)] [(rowD (zeroV es.length), .ref ph), (rowsD R, .ref D), (.list (es.map frD), v)] := S9.freeze
  clear S9 S8
  walk_at "walk"
  refine rd_kR1 H G (by omega) (by omega) fun J4 wk4 => ?_
  refine for_wk wk4 (fun i σ cs ds => ∃ (hs : List (List Int)) (h : List Int) (ph : Addr) (x5 x6 x7 x8 : Option V), σ = [some (.ref a), some v, some (.ref D), some (.ref pc), some (.ref ph), x5, x6, x7, x8] ∧ cs = [(pc, (hs.map (outC es)).map cornD)] ∧ ds = [(rowD h, .ref ph), (rowsD R, .ref D), (.list (es.map frD), v)] ∧ OutI es hs h ∧ hs.length ≤ i + 1 ∧ LeI h (thV R i) ∧ (i = 5 → outP es h = es)) S10 ⟨[zeroV es.length], zeroV es.length, ph, _, _, _, _, rfl, rfl, rfl, OutI.start es, Nat.le_refl _, LeI_zero (fun x hx => (thV_bnd hR 0 x hx).1) _, fun z => absurd z (by decide)⟩ (fun _ _ _ _ _ => trivial) ?_ ?_
  · rintro i x u σ H11 cs ds hx ⟨hs, h, ph, x5, x6, x7, x8, rfl, rfl, rfl, o, hl, le, _⟩ S11
    obtain ⟨hi, rfl⟩ := rangeD_at hx
    cases S11.int1
    have hi5 : i < 5 := by simpa using hi
    have lh := o.len h o.mem
    have bh := o.bnd h o.mem
    have lt' := thV_len R i
    have bt := thV_bnd hR i
    walk_at "walk"
    have S12 : Sta H G H11 [(pc, (hs.map (outC es)).map cornD)] [(rowD h, .ref ph), (rowsD R, .ref D), (.list (es.map frD), v)] := S11.dat (by walk_at "dats")
    clear S11
    refine rd_kILd (xs := es.map frD) S12 (.mem (by walk_at "mem")) fun J5 wk5 => ?_
    refine comp_map wk5 (fun j => .int 12) (ys := (List.replicate es.length (12 : Int)).map PyData.int) (by rw [List.length_map, List.map_replicate]; exact map_const _ _) S12 (fun _ _ => .mem (by walk_at "mem")) (by rw [List.length_map]; omega) (fun j x u B' G' Kd Kn hx t1 S hd C ex s0 H0 => ?_) fun D13 H13 e13 S13 => ?_
    · refine rd_name ⟨rfl, ?_⟩
      walk_at "walk"
      exact hd S Has.int
    have S14 := S13.freeze
    clear S13
    refine rd_name (rd_nx ?_)
    refine seq_cut' (AtP H G (fun σ cs ds => ∃ (pt : Addr), σ = [some (.ref a), some v, some (.ref D), some (.ref pc), some (.ref ph), some (.int (0 + (i : Int))), some (.ref pt), x7, x8] ∧ cs = [(pc, (hs.map (outC es)).map cornD)] ∧ ds = [(rowD (thV R i), .ref pt), (rowD h, .ref ph), (rowsD R, .ref D), (.list (es.map frD), v)])) ?_ (fun nxt => ?_)
    rotate_left
    · walk_at "walk"
      refine iteD (fun c => ?_) (fun c => ?_)
      · have hi4 : i < 4 := by omega
        have eT : thV R i = R.map fun r => r.getD i 0 := by unfold thV; rw [if_pos hi4]
        walk_at "walk"
        refine rd_kILd (xs := R.map rowD) S14 (.mem (by walk_at "mem")) fun J6 wk6 => ?_
        refine comp_map wk6 (fun j => .int ((R.getD j []).getD i 0)) (ys := (thV R i).map PyData.int) (by rw [eT, List.length_map, List.map_map]; exact range_getD (fun r : List Int => PyData.int (r.getD i 0)) [] R) S14 (fun _ _ => .mem (by walk_at "mem")) (by rw [List.length_map]; omega) (fun j x u B' G' Kd Kn hx t1 S hd C ex s0 H0 => ?_) fun D15 H15 e15 S15 => ?_
        · obtain ⟨r, hr', rfl⟩ := mapAt hx
          have r4 := hR r (List.mem_of_getElem? hr')
          refine rd_name ⟨rfl, ?_⟩
          walk_at "walk"
          refine rd_ixLI (xs := r.map PyData.int) S (.mem (by walk_at "mem")) (atI_mapD (by omega) (by rw [r4.1]; omega)) ?_
          refine hd S ?_
          rw [getD_of hr', show ((0 : Int) + (i : Int)).toNat = i by omega]
          exact Has.int
        have S16 := S15.freeze
        clear S15
        exact rd_name (rd_nx (nxt _ _ (rd_at (S16.dat (by walk_at "dats")) ⟨D15, rfl, rfl, rfl⟩)))
      · have eT : thV R i = List.replicate es.length 12 := by unfold thV; rw [if_neg (by omega), lR]
        refine rd_next (rd_nx (nxt _ _ (rd_at (S14.dat (ds' := [(rowD (List.replicate es.length 12), .ref D13), (rowD h, .ref ph), (rowsD R, .ref D), (.list (es.map frD), v)]) (by walk_at "dats")) ⟨D13, rfl, rfl, by rw [eT]⟩)))
    · rintro σ' H15 ⟨cs, ds, S15, pt, rfl, rfl, rfl⟩
      generalize hth : thV R i = th at *
      have lth : th.length = es.length := by rw [lt', lR]
      clear S14
      walk_at "walk"
      refine rd_kR1 H G (by omega) (by rw [List.length_map]; omega) fun J7 wk7 => ?_
      refine comp_wk wk7 (fun j => if h.getD j 0 < th.getD j 0 ∧ 0 < (es.getD j 0).num then some (.int (0 + (j : Int))) else none) S15 (fun _ _ => trivial) (by rw [rangeD_len, List.length_map]; omega) (fun j x u B' G' Kd Kn hx t1 S hd hn C ex s0 H0 => ?_) fun D16 H16 e16 S16 => ?_
      · obtain ⟨hj, rfl⟩ := rangeD_at hx
        cases S.int1
        rw [List.length_map, Int.toNat_natCast] at hj
        have hej := List.getElem?_eq_getElem hj
        have ged := getD_of (d := (0 : Rat)) hej
        generalize es[j] = e at *
        refine rd_name ⟨rfl, ?_⟩
        walk_at "walk"
        refine rd_ixLI (xs := th.map PyData.int) S (.mem (by walk_at "mem")) (atI_mapD (by omega) (by omega)) ?_
        walk_at "walk"
        refine rd_ixLI (xs := h.map PyData.int) S (.mem (by walk_at "mem")) (atI_mapD (by omega) (by omega)) ?_
        walk_at "walk"
        rw [show ((0 : Int) + (j : Int)).toNat = j by omega] at *
        refine iteD (fun c1 => ?_) (fun c1 => ?_)
        · walk_at "walk"
          refine rd_ixL (xs := es.map frD) (x := frD e) S (.mem (by walk_at "mem")) (by rw [Int.zero_add]; exact atI_nat (by rw [List.getElem?_map, hej]; rfl)) fun w17 S17 => ?_
          walk_at "walk"
          refine iteD (fun c2 => ?_) (fun c2 => ?_)
          · walk_at "walk"
            exact hd (if_pos ⟨c1, by rw [ged]; exact c2⟩) S17 Has.int
          · walk_at "walk"
            exact hn (if_neg fun z => c2 (by rw [ged] at z; exact z.2)) S17
        · walk_at "walk"
          exact hn (if_neg fun z => c1 z.1) S
      walk_at "walk"
      rw [rangeD_len, List.length_map, Int.toNat_natCast] at S16
      have S17 : Sta H G H16 [(pc, (hs.map (outC es)).map cornD)] [(rowD th, .ref pt), (rowD h, .ref ph), (rowsD R, .ref D), (.list (es.map frD), v)] := S16.weak (by walk_at "sub") (by walk_at "dats")
      clear S16 S15
      have up := thV_up hR i
      rw [hth] at up
      refine iteD (fun c1 => ?_) (fun c1 => ?_)
      · -- one of them moves
        obtain ⟨j, hj, hlt, hep⟩ : ∃ j, j < es.length ∧ h.getD j 0 < th.getD j 0 ∧ 0 < (es.getD j 0).num := by
          rw [rangeD_len, List.length_map, Int.toNat_natCast] at c1
          have c2 : 0 < ((List.range es.length).filterMap fun j => if h.getD j 0 < th.getD j 0 ∧ 0 < (es.getD j 0).num then some (PyData.int (0 + (j : Int))) else none).length := by omega
          obtain ⟨y, hy⟩ := List.exists_mem_of_length_pos c2
          obtain ⟨j, hj, hc⟩ := List.mem_filterMap.mp hy
          split at hc
          · rename_i hc'
            exact ⟨j, List.mem_range.mp hj, hc'.1, hc'.2⟩
          · cases hc
        have gx := List.getElem?_eq_getElem (l := h) (i := j) (by omega)
        have gy := List.getElem?_eq_getElem (l := th) (i := j) (by omega)
        have ge := List.getElem?_eq_getElem hj
        rw [getD_of gx, getD_of gy] at hlt
        rw [getD_of ge] at hep
        have o2 := o.step nn lth bt le ge gx gy (num_pos_iff.mp hep) hlt
        walk_at "walk"
        refine rd_kZiLL (xs := es.map frD) (ys := th.map PyData.int) S17 (.mem (by walk_at "mem")) (.mem (by walk_at "mem")) fun J8 wk8 => ?_
        refine comp_map wk8 (fun j => frD ((outP es th).getD j 0)) (ys := (outP es th).map frD) ?_ S17 (fun _ _ => ⟨.mem (by walk_at "mem"), fun _ _ h => h.tail, .mem (by walk_at "mem")⟩) (by rw [zipD_len, List.length_map, List.length_map]; omega) (fun j x u B' G' Kd Kn hx t1 S hd C ex s0 H0 => ?_) fun D18 H18 e18 S18 => ?_
        · rw [zipD_len, List.length_map, List.length_map, show min es.length th.length = (outP es th).length by unfold outP; rw [List.length_zipWith]]
          exact range_getD frD 0 _
        · obtain ⟨x1, x2, h1, h2, rfl⟩ := zipD_at hx
          obtain ⟨e, he, rfl⟩ := mapAt h1
          obtain ⟨t, ht, rfl⟩ := mapAt h2
          have ze := ok.szE e (List.mem_of_getElem? he)
          have btt := bt t (List.mem_of_getElem? ht)
          have zt : Sz 84 t := sz_of_le btt.1 (Int.lt_of_le_of_lt btt.2 (by decide))
          have z12 : Sz 84 (12 : Int) := sz_of_le (by decide) (by decide)
          have m1 : IntMulOk e.num t := ze.1.mulOk zt (by decide)
          have m2 : IntMulOk (e.den : Int) 12 := ze.2.mulOk z12 (by decide)
          refine rd_gTup (rd_kGT2 S (.mem (by walk_at "mem")) fun w1 w2 S => ?_)
          cases (S.hp (x := .int t) (v := w2) (.mem (by walk_at "mem"))).int_of
          refine rd_gCons (rd_name (rd_gCons (rd_name (rd_gNil ⟨rfl, ?_⟩))))
          walk_at "walk"
          refine rd_lawlow S (Int.mul_pos (den_pos e) (by decide)) ((ze.2.mul z12).mono (by decide)) fun r6 H6 e6 S6 => ?_
          refine hd S6 ?_
          rw [getD_of (n := twl e t) (by unfold outP; rw [List.getElem?_zipWith, he, ht])]
          exact .mem (by walk_at "mem")
        have S19 := S18.freeze
        clear S18
        have zO := ok.sz bt
        walk_at "walk"
        refine rd_all (a := outP es th) (n := 92) S19 (.mem (by walk_at "mem")) (fun i => ok.szT bt i) zO.2 (by decide) fun r20 H20 e20 S20 => ?_
        walk_at "walk"
        rename_i p21 H21 e21 S21 p22 H22 e22 S22
        refine rd_append (y := cornD (outC es th)) S22 (.mem (by walk_at "mem")) (by rw [List.length_map, List.length_map]; omega) fun H23 S23 => ?_
        walk_at "walk"
        refine rd_at (S23.dat (by walk_at "dats")) ⟨hs ++ [th], th, pt, _, _, _, _, rfl, ?_, rfl, o2, by rw [List.length_append, List.length_singleton]; omega, up, fun z => ?_⟩
        · rw [List.map_append, List.map_append]; rfl
        · have : th = List.replicate es.length 12 := by rw [← hth]; unfold thV; rw [if_neg (by omega), lR]
          rw [this]
          exact outP_twelves es
      · walk_at "walk"
        refine rd_at (S17.dat (by walk_at "dats")) ⟨hs, h, ph, _, _, _, _, rfl, rfl, rfl, o, by omega, le.trans lth lh up, fun z => ?_⟩
        refine outP_still lh fun j e x he hx => ?_
        have hj : j < es.length := (List.getElem?_eq_some_iff.mp he).1
        have e12 : th = List.replicate es.length 12 := by rw [← hth]; unfold thV; rw [if_neg (by omega), lR]
        have g12 : th.getD j 0 = 12 := by rw [e12, List.getD_eq_getElem?_getD, List.getElem?_replicate, if_pos hj]; rfl
        have bx := bh x (List.mem_of_getElem? hx)
        by_cases hx12 : x = 12
        · exact .inr hx12
        left
        have e0 := nn e (List.mem_of_getElem? he)
        refine Rat.le_antisymm ?_ e0
        refine Rat.not_lt.mp fun hpos => c1 ?_
        rw [rangeD_len, List.length_map, Int.toNat_natCast]
        have mem : PyData.int (0 + (j : Int)) ∈ (List.range es.length).filterMap fun j => if h.getD j 0 < th.getD j 0 ∧ 0 < (es.getD j 0).num then some (PyData.int (0 + (j : Int))) else none := by
          refine List.mem_filterMap.mpr ⟨j, List.mem_range.mpr hj, if_pos ⟨?_, ?_⟩⟩
          · rw [getD_of hx, g12]; omega
          · rw [getD_of he]; exact num_pos_iff.mpr hpos
        have := List.length_pos_of_mem mem
        omega
  · rintro σ H11 cs ds ⟨hs, h, ph, x5, x6, x7, x8, rfl, rfl, rfl, o, hl, le, fin⟩ S11
    rw [rangeD_len] at hl fin
    walk_at "walk"
    exact ret_Lx S11 ⟨hs.map (outC es), o.ok ok (by simpa using hl) (fin rfl), rfl⟩ k

abbrev s_law : Stmt := top 40
theorem sc_law : FnScope ["_law_script", "_law_first", "_law_others", "_law_many", "_law_k", "_law_path", "_law_handed", "_law_found", "_law_last", "_law_purses", "_law_cell", "_law_purse", "_law_held", "_law_parts", "_law_steps_here", "_law_due", "_law_other", "_law_part"] ["_law_script"] (defScope s_law) := ⟨rfl, rfl, rfl, by decide +kernel, rfl, by decide +kernel, by decide +kernel⟩
theorem ok_law (B : Bl mg) (C_law_cell_at : Cal P w K mg base CX0 1 "_law_cell_at" ["_law_script", "_law_k"] (spCell K)) (C_law_steps : Cal P w K mg base CX0 2 "_law_steps" ["_law_script", "_law_at_here", "_law_many", "_law_parts"] (spSteps K))
    (C_law_corners : Cal P w K mg base CX0 3 "_law_corners" ["_law_steps_here", "_law_parts", "_law_bottom"] spCorners) (C_law_thin : Cal P w K mg base CX0 2 "_law_thin" ["_law_steps_here"] spThinL)
    (C_law_outer : Cal P w K mg base CX0 4 "_law_outer" ["_law_script", "_law_ends"] (spOuter K)) (C_law_thin_row : Cal P w K mg base CX0 4 "_law_thin_row" ["_law_corners_here"] spThinRow) (C_within : Cal P w K mg base CX0 8 "within" ["path", "others"] spWithin)
    (C_law_is_path : Cal P w K mg base CX0 4 "_law_is_path" ["_law_found", "_law_parts"] spIsPath) (C_law_at : Cal P w K mg base CX0 3 "_law_at" ["_law_path", "_law_purse"] spLawAt0) (C_law_lowest : Cal P w K mg base CX0 2 "_law_lowest" ["_law_top", "_law_bottom"] spLawLow)
    (F : Fun K "law" "law" s_law f fd) : FnOk P w K mg base CX0 9 f fd ["_law_script"] (spLaw K) := by
  refine F.ok sc_law (fun vs H Q E h => ?_) (fun cdv A outer s H vs Q E hr h => ?_)
  · obtain ⟨a, ns, rfl, _⟩ := h
    rfl
  obtain ⟨a, ns, rfl, hS, hlen, _, q⟩ := h
  have S : Sta H H H [] [] := Sta.enter (Same.refl _) fun p hp => absurd hp List.not_mem_nil
  refine ⟨_, (pss_cons (ps_set (i := 1) sc_law.nd rfl (by first | exact Or.inl rfl | exact Or.inr rfl) (pe_cal C_law_cell_at hr (by first | decide | exact Nat.le_refl _ | omega) pass0 rfl (pa_cons (pv 0) (pa_cons pe_int pa_nil)))) (pss_cons (ps_set (i := 2) sc_law.nd rfl (by first | exact Or.inl rfl | exact Or.inr rfl) (pe_lst pa_nil)) (pss_cons (ps_set (i := 3) sc_law.nd rfl (by first | exact Or.inl rfl | exact Or.inr rfl) (pe_op op_addA pe_int (pe_op op_mod (pv 1) pe_int))) (pss_cons (ps_for PassesOwn.never rfl (pi_range1 rfl B.range (pa_cons (pv 3) pa_nil)) (pg_name (i := 4) sc_law.nd rfl (by first | exact Or.inl rfl | exact Or.inr rfl)) (pss_cons (ps_set (i := 13) sc_law.nd rfl (by first | exact Or.inl rfl | exact Or.inr rfl) (pe_op op_addA pe_int (pe_op op_mulB (pe_op op_mod (pe_op op_fdivB (pe_op op_fdiv (pv 1) pe_int) (pe_op op_addA (pv 4) pe_int)) pe_int) (pe_callTy call_int1 rfl B.int bt_int (pa_cons (pe_cmpR op_lt (pv 3) pe_int (nomark _)) pa_nil))))) (pss_cons (ps_if (PW.pt (pw_and (pt_cmpR op_gt (pv 3) pe_int (nomark _)) (pw_and (pt_cmpR op_lt (pv 3) pe_int (nomark _)) (pw_and1 (pt_cmpR (op_eqA (units_of hr)) (pe_op op_addA (pv 4) pe_int) (pv 3) (nomark _)))))) (pss_one (ps_set (i := 13) sc_law.nd rfl (by first | exact Or.inl rfl | exact Or.inr rfl) pe_int)) pss_nil) (pss_cons (ps_set (i := 14) sc_law.nd rfl (by first | exact Or.inl rfl | exact Or.inr rfl) (pe_cal C_law_thin hr (by first | decide | exact Nat.le_refl _ | omega) pass0 rfl (pa_cons (pe_cal C_law_steps hr (by first | decide | exact Nat.le_refl _ | omega) pass0 rfl (pa_cons (pv 0) (pa_cons (pe_op op_addA pe_int (pe_op op_mulB pe_int (pv 4))) (pa_cons (pe_op op_mod (pe_op op_fdivB (pe_op op_fdiv (pv 1) pe_int) (pe_op op_addA (pv 4) pe_int)) pe_int) (pa_cons (pv 13) pa_nil))))) pa_nil))) (pss_one (ps_expr (pe_bm PySem.F.plainAttrs_list PySem.F.slot_list_append PySem.F.type_list_append mt_append (pv 2) (pa_cons (pe_cal C_law_corners hr (by first | decide | exact Nat.le_refl _ | omega) pass0 rfl (pa_cons (pv 14) (pa_cons (pv 13) (pa_cons (pe_op op_addA pe_int (pe_op op_mod (pe_op op_fdivB (pe_op op_fdiv (pv 1) pe_int) (pe_op op_addA (pv 4) pe_int)) pe_int)) pa_nil)))) pa_nil)))))))) (pss_cons (ps_set (i := 5) sc_law.nd rfl (by first | exact Or.inl rfl | exact Or.inr rfl) (pe_cal C_law_thin_row hr (by first | decide | exact Nat.le_refl _ | omega) pass0 rfl (pa_cons (pe_cal C_law_outer hr (by first | decide | exact Nat.le_refl _ | omega) pass0 rfl (pa_cons (pv 0) (pa_cons (pe_comp (N := ["_law_other"]) (n := 1) (fr := []) rfl ⟨rfl, by decide +kernel, rfl, by decide, rfl, rfl, rfl, rfl, rfl⟩ (pi_list (pv 2)) (fun _ _ _ _ => (pg_name (i := 0) (show (["_law_other"] : List Str).Nodup from by decide +kernel) rfl (by first | exact Or.inl rfl | exact Or.inr rfl))) (fun _ _ _ _ => pif_nil) (fun _ _ _ _ => (pe_ix ix_seq (pe_ix ix_seq (pv 0) (pe_un un_neg pe_int) (fun _ _ => rfl)) pe_int (fun _ _ => rfl)))) pa_nil))) pa_nil))) (pss_cons (ps_set (i := 6) sc_law.nd rfl (by first | exact Or.inl rfl | exact Or.inr rfl) (pe_lst (pa_cons (pe_callTy call_listA rfl B.list bt_list (pa_cons (pv 5) pa_nil)) (pa_cons (pe_comp (N := ["_law_other"]) (n := 1) (fr := []) rfl ⟨rfl, by decide +kernel, rfl, by decide, rfl, rfl, rfl, rfl, rfl⟩ (pi_list (pv 2)) (fun _ _ _ _ => (pg_name (i := 0) (show (["_law_other"] : List Str).Nodup from by decide +kernel) rfl (by first | exact Or.inl rfl | exact Or.inr rfl))) (fun _ _ _ _ => pif_nil) (fun _ _ _ _ => (pe_callTy call_listA rfl B.list bt_list (pa_cons (pv 0) pa_nil)))) pa_nil)))) (pss_cons (ps_set (i := 7) sc_law.nd rfl (by first | exact Or.inl rfl | exact Or.inr rfl) (pe_cal C_within hr (by first | decide | exact Nat.le_refl _ | omega) pass0 rfl (pa_cons (pe_ix ix_seq (pv 6) pe_int (fun _ _ => rfl)) (pa_cons (pe_ix ix_seq (pv 6) pe_int (fun _ _ => rfl)) pa_nil)))) (pss_cons (ps_if (PW.pt (pw_or (pt_cmpR (op_neA (units_of hr)) (pv 6) (pe_lst (pa_cons (pv 5) (pa_cons (pv 2) pa_nil))) (nomark _)) (pw_or1 (pt_not (pt_val (pe_cal C_law_is_path hr (by first | decide | exact Nat.le_refl _ | omega) pass0 rfl (pa_cons (pv 7) (pa_cons (pe_callB (call_sumA rfl) rfl B.sum bt_sum (pa_cons (pe_comp (N := ["_law_other"]) (n := 1) (fr := []) rfl ⟨rfl, by decide +kernel, rfl, by decide, rfl, rfl, rfl, rfl, rfl⟩ (pi_list (pv 2)) (fun _ _ _ _ => (pg_name (i := 0) (show (["_law_other"] : List Str).Nodup from by decide +kernel) rfl (by first | exact Or.inl rfl | exact Or.inr rfl))) (fun _ _ _ _ => pif_nil) (fun _ _ _ _ => (pe_callB call_lenA rfl B.len bt_len (pa_cons (pe_ix ix_seq (pe_ix ix_seq (pv 0) pe_int (fun _ _ => rfl)) pe_int (fun _ _ => rfl)) pa_nil)))) pa_nil)) pa_nil)))))))) (pss_one (ps_ret pe_bl)) pss_nil) (pss_cons (ps_set (i := 8) sc_law.nd rfl (by first | exact Or.inl rfl | exact Or.inr rfl) (pe_ix ix_seq (pe_ix ix_seq (pv 5) (pe_un un_neg pe_int) (fun _ _ => rfl)) pe_int (fun _ _ => rfl))) (pss_cons (ps_set (i := 9) sc_law.nd rfl (by first | exact Or.inl rfl | exact Or.inr rfl) (pe_op op_addA (pe_comp (N := ["_law_corner"]) (n := 1) (fr := []) rfl ⟨rfl, by decide +kernel, rfl, by decide, rfl, rfl, rfl, rfl, rfl⟩ (pi_list (pv 5)) (fun _ _ _ _ => (pg_name (i := 0) (show (["_law_corner"] : List Str).Nodup from by decide +kernel) rfl (by first | exact Or.inl rfl | exact Or.inr rfl))) (fun _ _ _ _ => pif_nil) (fun _ _ _ _ => (pe_ix ix_seq (pv 0) pe_int (fun _ _ => rfl)))) (pe_comp (N := ["_law_corner"]) (n := 1) (fr := []) rfl ⟨rfl, by decide +kernel, rfl, by decide, rfl, rfl, rfl, rfl, rfl⟩ (pi_list (pv 7)) (fun _ _ _ _ => (pg_name (i := 0) (show (["_law_corner"] : List Str).Nodup from by decide +kernel) rfl (by first | exact Or.inl rfl | exact Or.inr rfl))) (fun _ _ _ _ => pif_nil) (fun _ _ _ _ => (pe_ix ix_seq (pv 0) pe_int (fun _ _ => rfl)))))) (pss_cons (ps_for PassesOwn.never rfl (pi_list (pe_slice sl_list (pv 0) (po_some pe_int) (po_some pe_int))) (pg_name (i := 10) sc_law.nd rfl (by first | exact Or.inl rfl | exact Or.inr rfl)) (pss_one (ps_expr (pe_bm PySem.F.plainAttrs_list PySem.F.slot_list_append PySem.F.type_list_append mt_append (pv 9) (pa_cons (pe_cal C_law_lowest hr (by first | decide | exact Nat.le_refl _ | omega) pass0 rfl (pa_cons (pe_op op_mulB (pe_ix ix_seq (pv 8) pe_int (fun _ _ => rfl)) (pe_op op_mod (pv 10) pe_int)) (pa_cons (pe_op op_mulB (pe_ix ix_seq (pv 8) pe_int (fun _ _ => rfl)) pe_int) pa_nil))) pa_nil))))) (pss_cons (ps_for PassesOwn.never rfl (pi_list (pv 9)) (pg_name (i := 11) sc_law.nd rfl (by first | exact Or.inl rfl | exact Or.inr rfl)) (pss_cons (ps_set (i := 15) sc_law.nd rfl (by first | exact Or.inl rfl | exact Or.inr rfl) (pe_lst pa_nil)) (pss_cons (ps_for PassesOwn.never rfl (pi_zip true false rfl B.zip (pa_cons (pv 2) (pa_cons (pe_cal C_law_at hr (by first | decide | exact Nat.le_refl _ | omega) pass0 rfl (pa_cons (pv 5) (pa_cons (pv 11) pa_nil))) pa_nil))) (pg_tup rfl (pgs_cons (pg_name (i := 16) sc_law.nd rfl (by first | exact Or.inl rfl | exact Or.inr rfl)) (pgs_cons (pg_name (i := 17) sc_law.nd rfl (by first | exact Or.inl rfl | exact Or.inr rfl)) pgs_nil))) (pss_one (ps_set (i := 15) sc_law.nd rfl (by first | exact Or.inl rfl | exact Or.inr rfl) (pe_op op_addA (pv 15) (pe_callTy call_listA rfl B.list bt_list (pa_cons (pe_cal C_law_at hr (by first | decide | exact Nat.le_refl _ | omega) pass0 rfl (pa_cons (pv 16) (pa_cons (pv 17) pa_nil))) pa_nil)))))) (pss_one (ps_if (pt_cmpR (op_neA (units_of hr)) (pe_cal C_law_at hr (by first | decide | exact Nat.le_refl _ | omega) pass0 rfl (pa_cons (pv 7) (pa_cons (pv 11) pa_nil))) (pe_callTy call_tupleA rfl B.tuple bt_tuple (pa_cons (pv 15) pa_nil)) (nomark _)) (pss_one (ps_ret pe_bl)) pss_nil))))) (pss_cons (ps_set (i := 12) sc_law.nd rfl (by first | exact Or.inl rfl | exact Or.inr rfl) (pe_callTy call_listA rfl B.list bt_list (pa_cons (pv 7) pa_nil))) (pss_cons (ps_expr (pe_bm0 PySem.F.plainAttrs_list PySem.F.slot_list_clear PySem.F.type_list_clear mt_clear (pv 7))) (pss_one (ps_ret (pe_and (pe_cmpR (op_eqA (units_of hr)) (pe_ix ix_seq (pe_ix ix_seq (pv 12) (pe_un un_neg pe_int) (fun _ _ => rfl)) pe_int (fun _ _ => rfl)) (pv 8) (nomark _)) (pe_and (pe_cmpR (op_eqA (units_of hr)) (pv 6) (pe_lst (pa_cons (pv 5) (pa_cons (pv 2) pa_nil))) (nomark _)) (pe_one (pe_cmpR (op_eqA (units_of hr)) (pe_cal C_within hr (by first | decide | exact Nat.le_refl _ | omega) pass0 rfl (pa_cons (pe_ix ix_seq (pv 6) pe_int (fun _ _ => rfl)) (pa_cons (pe_ix ix_seq (pv 6) pe_int (fun _ _ => rfl)) pa_nil))) (pv 12) (nomark _))))))))))))))))))))), rd_start ?_⟩
  walk_at "walk"
  rename_i po H1 e1 S1
  generalize cellAt ns 0 = c at *
  have hmany : 1 ≤ 1 + c % 8 ∧ 1 + c % 8 ≤ 8 := by omega
  generalize 1 + c % 8 = many at *
  refine rd_kR1 H H (by omega) (by omega) fun J wk => ?_
  refine for_wk wk (fun i σ cs ds => ∃ (Qs : List (List Corner)) (x4 x13 x14 : Option V), σ = [some (.ref a), some (.int c), some (.ref po), some (.int many), x4, none, none, none, none, none, none, none, none, x13, x14, none, none, none] ∧ cs = [(po, Qs.map pathD)] ∧ ds = [] ∧ Qs.length = i ∧ ∀ Q ∈ Qs, ∃ m, OthOk m Q) S1 ⟨[], none, none, none, rfl, rfl, rfl, rfl, fun Q hQ => absurd hQ List.not_mem_nil⟩ (fun _ _ _ _ _ => trivial) ?_ ?_
  · rintro i x u σ H2 cs ds hx ⟨Qs, x4, x13, x14, rfl, rfl, rfl, hQl, hQ⟩ S2
    obtain ⟨hi, rfl⟩ := rangeD_at hx
    cases S2.int1
    have hi8 : i < 8 := by omega
    have e8 : (2 : Int) ^ 8 = 256 := by decide
    have zk0 : Sz 8 (0 + (i : Int) + 1) := sz_of_le (by omega) (by rw [e8]; omega)
    have zk : Sz 8999 (0 + (i : Int) + 1) := zk0.mono (by decide)
    have d1 : CDv (c / 8) (0 + (i : Int) + 1) := ⟨by omega, zk⟩
    have d2 : CDv (c / 16) (0 + (i : Int) + 1) := ⟨by omega, zk⟩
    have d3 : CDv (c / 64) (0 + (i : Int) + 1) := ⟨by omega, zk⟩
    walk_at "walk"
    refine Or.inr ⟨_, rfl, ?_⟩
    have hx0 : 0 ≤ (c / 8).fdiv (0 + (i : Int) + 1) % 2 ∧ (c / 8).fdiv (0 + (i : Int) + 1) % 2 ≤ 1 := by omega
    have hy0 : 0 ≤ (if decide (many < 5) = true then (1 : Int) else 0) ∧ (if decide (many < 5) = true then (1 : Int) else 0) ≤ 1 := by split <;> omega
    generalize (c / 8).fdiv (0 + (i : Int) + 1) % 2 = t0 at *
    generalize (if decide (many < 5) = true then (1 : Int) else 0) = y0 at *
    have hp0 : 1 ≤ 1 + t0 * y0 ∧ 1 + t0 * y0 ≤ 2 := by
      have : t0 = 0 ∨ t0 = 1 := by omega
      rcases this with rfl | rfl <;> omega
    have zt0 : Sz 8 t0 := sz_of_le hx0.1 (by rw [e8]; omega)
    have zy0 : Sz 8 y0 := sz_of_le hy0.1 (by rw [e8]; omega)
    have o1 : IntMulOk t0 y0 := zt0.mulOk zy0 (by decide)
    refine rd_mulB o1 (rd_addI (rd_name (rd_nx ?_)))
    generalize 1 + t0 * y0 = p0 at *
    have S3 : Sta H H H2 [(po, Qs.map pathD)] [] := S2.dat (by walk_at "dats")
    refine seq_cut' (AtP H H (fun σ cs ds => ∃ (p : Int), σ = [some (.ref a), some (.int c), some (.ref po), some (.int many), some (.int (0 + (i : Int))), none, none, none, none, none, none, none, none, some (.int p), x14, none, none, none] ∧ cs = [(po, Qs.map pathD)] ∧ ds = [] ∧ 1 ≤ p ∧ p ≤ 2)) ?_ (fun nxt => ?_)
    rotate_left
    · have keep := nxt _ _ (rd_at S3 ⟨p0, rfl, rfl, rfl, hp0.1, hp0.2⟩)
      walk_at "walk"
      refine iteD (fun c1 => ?_) (fun c1 => ?_)
      · walk_at "walk"
        refine iteD (fun c2 => ?_) (fun c2 => ?_)
        · walk_at "walk"
          refine iteD (fun c3 => ?_) (fun c3 => ?_)
          · exact rd_asg (rd_c (rd_name (rd_nx (nxt _ _ (rd_at S3 ⟨2, rfl, rfl, rfl, by decide, by decide⟩)))))
          · first | exact rd_next (rd_nx keep) | exact iteF (rd_next (rd_nx keep))
        · first | exact rd_next (rd_nx keep) | exact iteF (rd_next (rd_nx keep))
      · first | exact rd_next (rd_nx keep) | exact iteF (rd_next (rd_nx keep))
    · rintro σ' H4 ⟨cs, ds, S4, p, rfl, rfl, rfl, hp1, hp2⟩
      have hS4 : SqL K H4 a (ns.map V.int) := S4.base.seq hS
      clear S2 S3 hp0
      walk_at "walk"
      have hm5 : 0 ≤ (c / 16).fdiv (0 + (i : Int) + 1) % 5 ∧ (c / 16).fdiv (0 + (i : Int) + 1) % 5 ≤ 4 := by omega
      generalize (c / 16).fdiv (0 + (i : Int) + 1) % 5 = many2 at *
      refine rd_steps S4 hS4 ⟨by omega, by omega, by omega, by omega, by omega⟩ fun rows p5 H5 hrl hok e5 S5 => ?_
      have S6 := S5.freeze
      clear S5
      have hr4 : rows.length ≤ 4 := by omega
      have hin := hok.in4 hr4
      walk_at "walk"
      refine rd_thin (m := p.toNat) (b := 10 ^ 21 * 27) S6 (.mem (by walk_at "mem")) (by omega) ⟨by omega, by omega⟩ ⟨by decide, by decide⟩ hin fun p7 H7 e7 S7 => ?_
      have S8 := S7.freeze
      clear S7
      have htl := thinS_len rows
      have hti : ∀ r ∈ thinS rows, r.length = p.toNat := fun r hr => (thinS_in (by decide) hin r hr).len
      walk_at "walk"
      have hb4 : 1 ≤ 1 + (c / 64).fdiv (0 + (i : Int) + 1) % 4 ∧ 1 + (c / 64).fdiv (0 + (i : Int) + 1) % 4 ≤ 4 := by omega
      generalize 1 + (c / 64).fdiv (0 + (i : Int) + 1) % 4 = b at *
      refine rd_corners (rows := thinS rows) S8 (.mem (by walk_at "mem")) ⟨by omega, by omega⟩ ⟨by omega, by omega⟩ (by omega) hti fun p9 H9 e9 S9 => ?_
      have S10 := S9.freeze
      clear S9
      have oth := othOk hb4 (by omega) hok hr4
      generalize cornersV b p.toNat (thinS rows) = Q' at *
      refine rd_nil ?_
      refine rd_append (y := pathD Q') S10 (.mem (by walk_at "mem")) (by rw [List.length_map]; omega) fun H11 S11 => ?_
      walk_at "walk"
      refine rd_at (S11.dat (by walk_at "dats")) ⟨Qs ++ [Q'], _, _, _, rfl, by rw [List.map_append]; rfl, rfl, by rw [List.length_append, hQl]; rfl, fun Q hq => ?_⟩
      rcases List.mem_append.mp hq with hq | hq
      · exact hQ Q hq
      · rw [List.mem_singleton.mp hq]
        exact ⟨_, oth⟩
  · rintro σ H2 cs ds ⟨Qs, x4, x13, x14, rfl, rfl, rfl, hQl, hQ⟩ S2
    rw [rangeD_len] at hQl
    have few : Qs.length ≤ 8 := by omega
    have S3 := S2.freeze
    clear S2
    have ne : ∀ Q ∈ Qs, Q ≠ [] := fun Q hq => by
      obtain ⟨m, o⟩ := hQ Q hq
      obtain ⟨r, e⟩ := o.head
      rw [e]; simp
    walk_at "walk"
    refine rd_kILd (xs := Qs.map pathD) S3 (.mem (by walk_at "mem")) fun J2 wk2 => ?_
    refine comp_map wk2 (fun j => frD ((fun Q : List Corner => (lastC Q).1) (Qs.getD j []))) (ys := (Qs.map fun Q => (lastC Q).1).map frD) (by rw [List.length_map, List.map_map]; exact range_getD (fun Q : List Corner => frD (lastC Q).1) [] Qs) S3 (fun _ _ => .mem (by walk_at "mem")) (by rw [List.length_map]; omega) (fun j x u B' G' Kd Kn hx t1 S hd C ex s0 H0 => ?_) fun D4 H4 e4 S4 => ?_
    · obtain ⟨Q', hq, rfl⟩ := mapAt hx
      have nq := ne Q' (List.mem_of_getElem? hq)
      refine rd_name ⟨rfl, ?_⟩
      walk_at "walk"
      refine rd_ixL (xs := Q'.map cornD) (x := cornD (lastC Q')) S (.mem (by walk_at "mem")) (atI_neg1 (by rw [List.getLast?_map, last_some nq]; rfl)) fun w5 S5 => ?_
      walk_at "walk"
      refine hd (by assumption) ?_
      rw [getD_of hq]
      exact .mem (by walk_at "mem")
    have S5 := S4.freeze
    clear S4
    have ends : EndsOk (Qs.map fun Q => (lastC Q).1) := ⟨by rw [List.length_map]; exact few, fun e he => by
      obtain ⟨Q', hq, rfl⟩ := List.mem_map.mp he
      obtain ⟨m, o⟩ := hQ Q' hq
      exact o.last⟩
    have hS5 : SqL K H4 a (ns.map V.int) := S5.base.seq hS
    walk_at "walk"
    refine rd_outer S5 hS5 (.mem (by walk_at "mem")) ends fun C p6 H6 ho e6 S6 => ?_
    have S7 := S6.freeze
    clear S6
    walk_at "walk"
    refine rd_thinrow (C := C) (m := (Qs.map fun Q => (lastC Q).1).length) (n := 92) S7 (.mem (by walk_at "mem")) ho.rise ho.len ho.sz (by decide) (by rw [List.length_map]; omega) (by have := ho.few; omega) fun X p8 H8 ht e8 S8 => ?_
    have S9 : Sta H H H8 [] [(pathD X, .ref p8), (.list (Qs.map pathD), .ref po)] := S8.freeze.dat (by walk_at "dats")
    clear S8 S7 S5 S3
    have ok : WithOk X Qs := ⟨nest_of ho ht hQ, fun c hc => ho.sz c (ht.sub.subset hc), fun Q hq => by
        obtain ⟨m, o⟩ := hQ Q hq
        exact o.sz, fun Q hq => by
        obtain ⟨m, o⟩ := hQ Q hq
        exact ⟨fun c hc => by rw [o.pm.t.len c hc]; exact o.m2, o.few⟩, by have := ht.sub.length_le; have := ho.few; omega, few⟩
    have xne : X ≠ [] := ok.pr.ne
    clear ho ht ends
    walk_at "walk"
    rename_i p10 H10 e10 S10
    refine rd_kILd (xs := Qs.map pathD) S10 (.mem (by walk_at "mem")) fun J3 wk3 => ?_
    refine comp_map wk3 (fun j => pathD (Qs.getD j [])) (ys := Qs.map pathD) (by rw [List.length_map]; exact range_getD pathD [] Qs) S10 (fun _ _ => .mem (by walk_at "mem")) (by rw [List.length_map]; omega) (fun j x u B' G' Kd Kn hx t1 S hd C ex s0 H0 => ?_) fun D11 H11 e11 S11 => ?_
    · obtain ⟨Q', hq, rfl⟩ := mapAt hx
      refine rd_name ⟨rfl, ?_⟩
      walk_at "walk"
      rename_i l12 H12 e12 S12
      refine hd S12.freeze ?_
      rw [getD_of hq]
      exact .mem (by walk_at "mem")
    have S12 := S11.freeze.freeze
    clear S11
    refine rd_nil ?_
    refine rd_kLst (xs := [pathD X, .list (Qs.map pathD)]) S12 (by walk_at "hasall") (Nat.le_of_ble_eq_true rfl) fun ph H13 e13 S13 => ?_
    have S14 : Sta H H H13 [] [(.list [pathD X, .list (Qs.map pathD)], .ref ph), (pathD X, .ref p8), (.list (Qs.map pathD), .ref po)] := S13.freeze.dat (by walk_at "dats")
    clear S13 S12 S10 S9
    walk_at "walk"
    rename_i w15 S15 w16 S16
    refine rd_within (P := X) (Qs := Qs) S16 (.mem (by walk_at "mem")) (.mem (by walk_at "mem")) ok fun pf H17 e17 S17 => ?_
    have isP := ok.isP
    have nle := nQ_le fun Q hq => (ok.ql Q hq).1
    walk_at "walk"
    rename_i p18 H18 e18 S18
    refine rd_neD (x := .list [pathD X, .list (Qs.map pathD)]) (y := .list [pathD X, .list (Qs.map pathD)]) (S18.hp (.mem (by walk_at "mem"))) (S18.hpC (by walk_at "mem")) (shaped_hand _ _) (shaped_hand _ _) ?_
    rw [SeqAt.eqv_refl _ (lay_hand _ _)]
    walk_at "walk"
    have S19 : Sta H H H18 [(pf, (withinV X Qs).map cornD)] [(.list [pathD X, .list (Qs.map pathD)], .ref ph), (pathD X, .ref p8), (.list (Qs.map pathD), .ref po)] := S18.weak (by walk_at "sub") (by walk_at "dats")
    clear S18 S17 S16 S15 S14
    refine rd_kILd (xs := Qs.map pathD) S19 (.mem (by walk_at "mem")) fun J4 wk4 => ?_
    refine comp_map wk4 (fun j => .int ((headLen (Qs.getD j []) : Nat) : Int)) (ys := (Qs.map fun Q => ((headLen Q : Nat) : Int)).map PyData.int) (by rw [List.length_map, List.map_map]; exact range_getD (fun Q : List Corner => PyData.int ((headLen Q : Nat) : Int)) [] Qs) S19 (fun _ _ => .mem (by walk_at "mem")) (by rw [List.length_map]; omega) (fun j x u B' G' Kd Kn hx t1 S hd C ex s0 H0 => ?_) fun D20 H20 e20 S20 => ?_
    · obtain ⟨Q', hq, rfl⟩ := mapAt hx
      obtain ⟨m, o⟩ := hQ Q' (List.mem_of_getElem? hq)
      obtain ⟨r, er⟩ := o.head
      refine rd_name ⟨rfl, ?_⟩
      walk_at "walk"
      refine rd_ixL (xs := Q'.map cornD) (x := cornD (0, List.replicate m 0)) S (.mem (by walk_at "mem")) (atI_nat (j := 0) (by rw [er]; rfl)) fun w21 S21 => ?_
      walk_at "walk"
      refine hd (by assumption) ?_
      rw [getD_of hq, er, headLen]
      simp only [List.length_map]
      exact Has.int
    walk_at "walk"
    rw [sum_nQ]
    refine rd_ispath (F := withinV X Qs) (N := nQ Qs) (n := 1148) S20 (S20.hpC (by walk_at "mem")) isP (by decide) (by omega) fun H21 e21 S21 => ?_
    walk_at "walk"
    have S22 : Sta H H H21 [(pf, (withinV X Qs).map cornD)] [(.list [pathD X, .list (Qs.map pathD)], .ref ph), (pathD X, .ref p8), (.list (Qs.map pathD), .ref po)] := S21.weak (by walk_at "sub") (by walk_at "dats")
    clear S21 S20 S19
    refine rd_ixL (xs := X.map cornD) (x := cornD (lastC X)) S22 (.mem (by walk_at "mem")) (atI_neg1 (by rw [List.getLast?_map, last_some xne]; rfl)) fun w23 S23 => ?_
    walk_at "walk"
    rename_i w24 S24
    have S25 : Sta H H H21 [(pf, (withinV X Qs).map cornD)] [(frD (lastC X).1, w24), (.list [pathD X, .list (Qs.map pathD)], .ref ph), (pathD X, .ref p8), (.list (Qs.map pathD), .ref po)] := S24.dat (by walk_at "dats")
    clear S24 S23 S22
    refine rd_kILd (xs := X.map cornD) S25 (.mem (by walk_at "mem")) fun J5 wk5 => ?_
    refine comp_map wk5 (fun j => frD ((fun c : Corner => c.1) (X.getD j (0, [])))) (ys := (pursesV X).map frD) (by unfold pursesV; rw [List.length_map, List.map_map]; exact range_getD (fun c : Corner => frD c.1) (0, []) X) S25 (fun _ _ => .mem (by walk_at "mem")) (by rw [List.length_map]; have := ok.pl; omega) (fun j x v B' G' Kd Kn hx t1 S hd C ex s0 H0 => ?_) fun D26 H26 e26 S26 => ?_
    · obtain ⟨c, hc, rfl⟩ := mapAt hx
      refine rd_name ⟨rfl, ?_⟩
      walk_at "walk"
      refine hd (by assumption) ?_
      rw [getD_of hc]
      exact .mem (by walk_at "mem")
    have flen : (withinV X Qs).length ≤ 46 := by unfold withinV; rw [List.length_map]; exact ok.lenV
    walk_at "walk"
    refine rd_kILc (xs := (withinV X Qs).map cornD) S26 (by walk_at "mem") fun J6 wk6 => ?_
    refine comp_map wk6 (fun j => frD ((fun c : Corner => c.1) ((withinV X Qs).getD j (0, [])))) (ys := (pursesV (withinV X Qs)).map frD) (by unfold pursesV; rw [List.length_map, List.map_map]; exact range_getD (fun c : Corner => frD c.1) (0, []) (withinV X Qs)) S26 (fun _ _ => by walk_at "mem") (by rw [List.length_map]; omega) (fun j x v B' G' Kd Kn hx t1 S hd C ex s0 H0 => ?_) fun D27 H27 e27 S27 => ?_
    · obtain ⟨c, hc, rfl⟩ := mapAt hx
      refine rd_name ⟨rfl, ?_⟩
      walk_at "walk"
      refine hd (by assumption) ?_
      rw [getD_of hc]
      exact .mem (by walk_at "mem")
    have lpX : (pursesV X).length = X.length := by unfold pursesV; rw [List.length_map]
    have lpF : (pursesV (withinV X Qs)).length = (withinV X Qs).length := by unfold pursesV; rw [List.length_map]
    have xl := ok.pl
    walk_at "walk"
    refine rd_addL S27 (S27.vwC (by walk_at "mem")) (S27.vwC (by walk_at "mem")) (by rw [List.length_map, List.length_map]; omega) fun pp H28 e28 S28 => ?_
    have S29 : Sta H H H28 [(pp, (pursesV X ++ pursesV (withinV X Qs)).map frD), (pf, (withinV X Qs).map cornD)] [(frD (lastC X).1, w24), (.list [pathD X, .list (Qs.map pathD)], .ref ph), (pathD X, .ref p8), (.list (Qs.map pathD), .ref po)] := by rw [List.map_append]; exact S28.weak (by walk_at "sub") (by walk_at "dats")
    clear S28 S27 S26 S25
    have l0 := ok.nest.last0
    have zl : SzQ 92 (lastC X).1 := (ok.pz (lastC X) (List.mem_of_getLast? (last_some xne))).1
    have okE : ∀ e ∈ pursesV X ++ pursesV (withinV X Qs), (0 ≤ e ∧ e ≤ (lastC X).1) ∧ SzQ 640 e := fun e he => by
      have hw : e ∈ wpV X Qs := by
        rcases List.mem_append.mp he with h | h
        · obtain ⟨c, hc, rfl⟩ := List.mem_map.mp h
          exact ok.nest.mem.mpr (.inl ⟨c, hc, rfl⟩)
        · obtain ⟨c, hc, rfl⟩ := List.mem_map.mp h
          obtain ⟨e', he', rfl⟩ := List.mem_map.mp hc
          exact he'
      exact ⟨ok.nest.in_range hw, (ok.szM hw).1⟩
    have lE : (pursesV X ++ pursesV (withinV X Qs)).length ≤ 52 := by rw [List.length_append]; omega
    generalize pursesV X ++ pursesV (withinV X Qs) = E0 at *
    walk_at "walk"
    refine rd_slS S29 (S29.base.seq hS) fun l30 H30 e30 S30 => ?_
    have hcl : (cutI ns (some 29) (some 63)).length ≤ 63 := by unfold cutI; rw [List.length_take, List.length_drop]; omega
    have S31 : Sta H H H30 [(pp, E0.map frD), (pf, (withinV X Qs).map cornD)] [(.list ((cutI ns (some 29) (some 63)).map PyData.int), .ref l30), (frD (lastC X).1, w24), (.list [pathD X, .list (Qs.map pathD)], .ref ph), (pathD X, .ref p8), (.list (Qs.map pathD), .ref po)] := S30.freeze
    clear S30 S29
    generalize cutI ns (some 29) (some 63) = L at *
    refine rd_kILd (xs := L.map PyData.int) S31 (.mem (by walk_at "mem")) fun J7 wk7 => ?_
    refine for_wk wk7 (fun t σ cs ds => ∃ (Es : List Rat) (x10 : Option V), σ = [some (.ref a), some (.int c), some (.ref po), some (.int many), x4, some (.ref p8), some (.ref ph), some (.ref pf), some w24, some (.ref pp), x10, none, none, x13, x14, none, none, none] ∧ cs = [(pp, Es.map frD), (pf, (withinV X Qs).map cornD)] ∧ ds = [(.list (L.map PyData.int), .ref l30), (frD (lastC X).1, w24), (.list [pathD X, .list (Qs.map pathD)], .ref ph), (pathD X, .ref p8), (.list (Qs.map pathD), .ref po)] ∧ Es.length ≤ 52 + t ∧ ∀ e ∈ Es, (0 ≤ e ∧ e ≤ (lastC X).1) ∧ SzQ 640 e) S31 ⟨E0, none, rfl, rfl, rfl, lE, okE⟩ (fun t σ cs ds h => ?_) ?_ ?_
    · obtain ⟨_, _, _, _, rfl, _⟩ := h
      exact .mem (by walk_at "mem")
    · rintro t x' u σ H32 cs ds hx' ⟨Es, x10, rfl, rfl, rfl, hl, hE⟩ S32
      obtain ⟨n, hn, rfl⟩ := mapAt hx'
      cases S32.int1
      have ht63 : t < L.length := (List.getElem?_eq_some_iff.mp hn).1
      have hr2 : 0 ≤ n % 998 ∧ n % 998 ≤ 997 := by omega
      have pt := part_of l0 hr2
      have e64 : (2 : Int) ^ 64 = 18446744073709551616 := by decide
      have zr : Sz 64 (n % 998) := sz_of_le hr2.1 (by rw [e64]; omega)
      have zd : Sz 64 (997 : Int) := sz_of_le (by decide) (by rw [e64]; omega)
      generalize (lastC X).1 = s' at *
      have o1 : IntMulOk s'.num (n % 998) := Sz.mulOk zl.1 zr (by decide)
      have o2 : IntMulOk (s'.den : Int) 997 := Sz.mulOk zl.2 zd (by decide)
      have d0 : 0 < (s'.den : Int) * 997 := Int.mul_pos (den_pos s') (by decide)
      have m1 := zl.1.mul zr
      have m2 := zl.2.mul zd
      have zE : SzQ 640 (Rat.divInt (s'.num * (n % 998)) ((s'.den : Int) * 997)) := (SzQ.divInt m1 m2 (by omega)).mono (by decide)
      walk_at "walk"
      refine rd_lawlow S32 d0 (m2.mono (by decide)) fun r33 H33 e33 S33 => ?_
      generalize Rat.divInt (s'.num * (n % 998)) ((s'.den : Int) * 997) = E' at *
      refine rd_nil ?_
      refine rd_append (y := frD E') S33 (.mem (by walk_at "mem")) (by rw [List.length_map]; omega) fun H34 S34 => ?_
      walk_at "walk"
      refine rd_at (S34.dat (by walk_at "dats")) ⟨Es ++ [E'], _, rfl, by rw [List.map_append]; rfl, rfl, by rw [List.length_append, List.length_singleton]; omega, fun e he => ?_⟩
      rcases List.mem_append.mp he with he | he
      · exact hE e he
      · rw [List.mem_singleton.mp he]
        exact ⟨pt, zE⟩
    · rintro σ H32 cs ds ⟨Es, x10, rfl, rfl, rfl, hl, hE⟩ S32
      have S33 : Sta H H H32 [(pf, (withinV X Qs).map cornD)] [(.list (Es.map frD), .ref pp), (frD (lastC X).1, w24), (.list [pathD X, .list (Qs.map pathD)], .ref ph), (pathD X, .ref p8), (.list (Qs.map pathD), .ref po)] := S32.freeze.dat (by walk_at "dats")
      clear S32 S31
      have al : AllIs H32 [(.list (Es.map frD), .ref pp), (pathD (withinV X Qs), .ref pf), (pathD X, .ref p8), (.list (Qs.map pathD), .ref po)] := fun p hp => by
        rcases List.mem_cons.mp hp with rfl | hp
        · exact S33.hp (.mem (by walk_at "mem"))
        rcases List.mem_cons.mp hp with rfl | hp
        · exact S33.hpC (by walk_at "mem")
        rcases List.mem_cons.mp hp with rfl | hp
        · exact S33.hp (.mem (by walk_at "mem"))
        rw [List.mem_singleton.mp hp]
        exact S33.hp (.mem (by walk_at "mem"))
      have S34 : Sta H32 H32 H32 [] [(.list (Es.map frD), .ref pp), (pathD (withinV X Qs), .ref pf), (pathD X, .ref p8), (.list (Qs.map pathD), .ref po)] := Sta.enter (Same.refl _) al
      have atX : ∀ e, lawAtV X e = partsV X e := fun e => law_parts ok.nest.pm.t.rise ok.nest.pm.t.len
      have atQ : ∀ Q ∈ Qs, ∀ e, lawAtV Q e = partsV Q e := fun Q hq e => by
        obtain ⟨m, o⟩ := hQ Q hq
        exact law_parts o.pm.t.rise o.pm.t.len
      have atF : ∀ e, lawAtV (withinV X Qs) e = partsV (withinV X Qs) e := fun e => law_parts isP.pr.rise isP.len
      walk_at "walk"
      refine rd_kILd (xs := Es.map frD) S34 (.mem (by walk_at "mem")) fun J8 wk8 => ?_
      refine for_wk wk8 (fun t σ cs ds => ∃ (x11 x15 x16 x17 : Option V), σ = [some (.ref a), some (.int c), some (.ref po), some (.int many), x4, some (.ref p8), some (.ref ph), some (.ref pf), some w24, some (.ref pp), x10, x11, none, x13, x14, x15, x16, x17] ∧ cs = [] ∧ ds = [(.list (Es.map frD), .ref pp), (pathD (withinV X Qs), .ref pf), (pathD X, .ref p8), (.list (Qs.map pathD), .ref po)]) S34 ⟨none, none, none, none, rfl, rfl, rfl⟩ (fun t σ cs ds h => ?_) ?_ ?_
      · obtain ⟨_, _, _, _, _, _, rfl⟩ := h
        exact .mem (by walk_at "mem")
      · rintro t x' u σ H35 cs ds hx' ⟨x11, x15, x16, x17, rfl, rfl, rfl⟩ S35
        obtain ⟨e, he, rfl⟩ := mapAt hx'
        obtain ⟨⟨e0, el⟩, ze⟩ := hE e (List.mem_of_getElem? he)
        have zps : ∀ p ∈ partsV X e, SzQ 1196 p := fun p hp => (partsV_sz ze ok.pz p hp).mono (by decide)
        have lps := ok.nest.plen e
        walk_at "walk"
        rename_i pd H36 e36 S36
        have S37 := S36.freeze
        clear S36
        refine rd_lawat0 (a := X) (e := e) (m := 640) (n := 92) S37 (.mem (by walk_at "mem")) (.mem (by walk_at "mem")) ok.pr.r0 ze (by decide) fun r38 H38 e38 S38 => ?_
        rw [atX] at S38
        have key := ok.nest.at e0 el
        unfold flatQ at key
        generalize partsV X e = ps at *
        walk_at "walk"
        have S39 : Sta H32 H32 H38 [] [(.list [], .ref pd), (partsD ps, r38), (frD e, u), (.list (Es.map frD), .ref pp), (pathD (withinV X Qs), .ref pf), (pathD X, .ref p8), (.list (Qs.map pathD), .ref po)] := S38.dat (by walk_at "dats")
        clear S38 S37 S35
        refine rd_kZiLT (xs := Qs.map pathD) (ys := ps.map frD) S39 (.mem (by walk_at "mem")) (.mem (by walk_at "mem")) fun J9 wk9 => ?_
        refine for_wk wk9 (fun i σ cs ds => ∃ (pd : Addr) (x16 x17 : Option V), σ = [some (.ref a), some (.int c), some (.ref po), some (.int many), x4, some (.ref p8), some (.ref ph), some (.ref pf), some w24, some (.ref pp), x10, some u, none, x13, x14, some (.ref pd), x16, x17] ∧ cs = [] ∧ ds = [(.list ((((List.zipWith partsV Qs ps).take i).flatten).map frD), .ref pd), (partsD ps, r38), (frD e, u), (.list (Es.map frD), .ref pp), (pathD (withinV X Qs), .ref pf), (pathD X, .ref p8), (.list (Qs.map pathD), .ref po)]) S39 ⟨pd, _, _, rfl, rfl, rfl⟩ (fun i σ cs ds h => ?_) ?_ ?_
        · obtain ⟨_, _, _, _, _, rfl⟩ := h
          exact ⟨.mem (by walk_at "mem"), fun _ _ h => h.tail, .mem (by walk_at "mem")⟩
        · rintro i z u2 σ H40 cs ds hz ⟨pd, y16, y17, rfl, rfl, rfl⟩ S40
          obtain ⟨z1, z2, h1, h2, rfl⟩ := zipD_at hz
          obtain ⟨Q', hq, rfl⟩ := mapAt h1
          obtain ⟨p, hp, rfl⟩ := mapAt h2
          have mq := List.mem_of_getElem? hq
          refine rd_gTup (rd_kGT2 S40 (.mem (by walk_at "mem")) fun w41 w42 S41 => ?_)
          walk_at "walk"
          refine rd_lawat0 (a := Q') (e := p) (m := 1196) (n := 84) S41 (.mem (by walk_at "mem")) (.mem (by walk_at "mem")) (ok.qr mq).r0 (zps p (List.mem_of_getElem? hp)) (by decide) fun r42 H42 e42 S42 => ?_
          rw [atQ Q' mq] at S42
          have l1 := flat_le (ps := ps) i fun Q hQ c hc => (ok.ql Q hQ).1 c hc
          have l2 := partsV_le (e := p) (ok.ql Q' mq).1
          walk_at "walk"
          rename_i p43 H43 e43 S43
          refine rd_addL S43 (S43.vwL (.mem (by walk_at "mem"))) (S43.vwC (by walk_at "mem")) (by rw [List.length_map, List.length_map]; omega) fun p44 H44 e44 S44 => ?_
          walk_at "walk"
          refine rd_at (S44.freeze.weak (cs' := []) (by walk_at "sub") (ds' := [(.list ((((List.zipWith partsV Qs ps).take i).flatten).map frD ++ (partsV Q' p).map frD), .ref p44), (partsD ps, r38), (frD e, u), (.list (Es.map frD), .ref pp), (pathD (withinV X Qs), .ref pf), (pathD X, .ref p8), (.list (Qs.map pathD), .ref po)]) (by walk_at "dats")) ⟨p44, _, _, rfl, rfl, ?_⟩
          rw [List.take_add_one, List.getElem?_zipWith, hq, hp]
          simp
        · rintro σ H40 cs ds ⟨pd, y16, y17, rfl, rfl, rfl⟩ S40
          rw [zipD_len, List.length_map, List.length_map, List.take_of_length_le (by rw [List.length_zipWith]; omega), ← key] at S40
          walk_at "walk"
          refine rd_lawat0 (a := withinV X Qs) (e := e) (m := 640) (n := 1148) S40 (.mem (by walk_at "mem")) (.mem (by walk_at "mem")) isP.pr ze (by decide) fun r41 H41 e41 S41 => ?_
          rw [atF] at S41
          walk_at "walk"
          rename_i p42 H42 e42 S42
          refine rd_neD (x := partsD (partsV (withinV X Qs) e)) (y := partsD (partsV (withinV X Qs) e)) (S42.hp (.mem (by walk_at "mem"))) (S42.hp (.mem (by walk_at "mem"))) (shaped_partsD _) (shaped_partsD _) ?_
          rw [eqv_partsD, decide_eq_true rfl]
          walk_at "walk"
          exact rd_at (S42.dat (by walk_at "dats")) ⟨_, _, _, _, rfl, rfl, rfl⟩
      · rintro σ H35 cs ds ⟨x11, x15, x16, x17, rfl, rfl, rfl⟩ S35
        have S36 := S33.same S35.base
        clear S35 S34 S33
        have gl := ok.nest.getLast
        walk_at "walk"
        rename_i p37 H37 e37 S37
        refine rd_clear S37.swap fun H38 S38 => ?_
        have S39 := S38.swap.freeze
        clear S38 S37 S36
        walk_at "walk"
        refine rd_ixL (xs := (withinV X Qs).map cornD) (x := cornD ((lastC X).1, flatQ Qs (partsV X (lastC X).1))) S39 (.mem (by walk_at "mem")) (atI_neg1 (by rw [List.getLast?_map, gl]; rfl)) fun w40 S40 => ?_
        walk_at "walk"
        rename_i w41 S41
        refine rd_eqD (x := frD (lastC X).1) (y := frD (lastC X).1) (S41.hp (.mem (by walk_at "mem"))) (S41.hp (.mem (by walk_at "mem"))) (shaped_frD _) (shaped_frD _) ?_
        rw [eqv_frD, decide_eq_true rfl]
        walk_at "walk"
        rename_i p42 H42 e42 S42
        refine rd_eqD (x := .list [pathD X, .list (Qs.map pathD)]) (y := .list [pathD X, .list (Qs.map pathD)]) (S42.hp (.mem (by walk_at "mem"))) (S42.hpC (by walk_at "mem")) (shaped_hand _ _) (shaped_hand _ _) ?_
        rw [SeqAt.eqv_refl _ (lay_hand _ _)]
        walk_at "walk"
        rename_i w43 S43 w44 S44
        refine rd_within (P := X) (Qs := Qs) S44 (.mem (by walk_at "mem")) (.mem (by walk_at "mem")) ok fun p45 H45 e45 S45 => ?_
        walk_at "walk"
        refine rd_eqD (x := pathD (withinV X Qs)) (y := pathD (withinV X Qs)) (S45.hpC (by walk_at "mem")) (S45.hp (.mem (by walk_at "mem"))) (shaped_path _) (shaped_path _) ?_
        rw [eqv_pathD, decide_eq_true rfl]
        exact q _
end
theorem all_mk {l : PySem.W.OpenLaw} {w : World} {K : PySem.W.Frag} {h : Heap} {mg : Str → Option Value} {fa : Addr} (X : K.In h) (G : h.Ns mainGlobals mg) (hfa : mg "law" = some (.ref fa))
    {f1 f2 f3 f4 f5 f6 f7 f8 f9 f10 f11 f12 f13 f14 f15 f16 f17 f18 f19 f20 f21 f22 f23 f24 f25 f26 f27 f28 f29 f30 f31 f32 f33 f34 : Addr} {od1 od2 od3 od4 od5 od6 od7 od8 od9 od10 od11 od12 od13 od14 od15 od16 od17 od18 od19 od20 od21 od22 od23 od24 od25 od26 od27 od28 od29 od30 od31 od32 od33 od34 an1 an2 an3 an4 an5 an6 an7 an8 an9 an10 an11 an12 an13 an14 an15 an16 an17 an18 an19 an20 an21 an22 an23 an24 an25 an26 an27 an28 an29 an30 an31 an32 an33 an34 : Option Addr} {sl1 sl2 sl3 sl4 sl5 sl6 sl7 sl8 sl9 sl10 sl11 sl12 sl13 sl14 sl15 sl16 sl17 sl18 sl19 sl20 sl21 sl22 sl23 sl24 sl25 sl26 sl27 sl28 sl29 sl30 sl31 sl32 sl33 sl34 : Array (Option Value)} {oc1 oc2 oc3 oc4 oc5 oc6 oc7 oc8 oc9 oc10 oc11 oc12 oc13 oc14 oc15 oc16 oc17 oc18 oc19 oc20 oc21 oc22 oc23 oc24 oc25 oc26 oc27 oc28 oc29 oc30 oc31 oc32 oc33 oc34 kV1 kV2 kV3 kV4 kV5 kV6 kV7 kV8 kV9 kV10 kV11 kV12 kV13 kV14 kV15 kV16 kV17 kV18 kV19 kV20 kV21 kV22 kV23 kV24 kV25 kV26 kV27 kV28 kV29 kV30 kV31 kV32 kV33 kV34 dc1 dc2 dc3 dc4 dc5 dc6 dc7 dc8 dc9 dc10 dc11 dc12 dc13 dc14 dc15 dc16 dc17 dc18 dc19 dc20 dc21 dc22 dc23 dc24 dc25 dc26 dc27 dc28 dc29 dc30 dc31 dc32 dc33 dc34 pm1 pm2 pm3 pm4 pm5 pm6 pm7 pm8 pm9 pm10 pm11 pm12 pm13 pm14 pm15 pm16 pm17 pm18 pm19 pm20 pm21 pm22 pm23 pm24 pm25 pm26 pm27 pm28 pm29 pm30 pm31 pm32 pm33 pm34 cd1 cd2 cd3 cd4 cd5 cd6 cd7 cd8 cd9 cd10 cd11 cd12 cd13 cd14 cd15 cd16 cd17 cd18 cd19 cd20 cd21 cd22 cd23 cd24 cd25 cd26 cd27 cd28 cd29 cd30 cd31 cd32 cd33 cd34 ct1 ct2 ct3 ct4 ct5 ct6 ct7 ct8 ct9 ct10 ct11 ct12 ct13 ct14 ct15 ct16 ct17 ct18 ct19 ct20 ct21 ct22 ct23 ct24 ct25 ct26 ct27 ct28 ct29 ct30 ct31 ct32 ct33 ct34 : Value}
    (a1 : PySem.W.nsIn K mainGlobals "plus" = some (some (.ref f1))) (l1 : K.lookup f1 = some ⟨oc1, od1, .func (PySem.W.fnOf "plus" "plus" (defArgs s_plus) (defBody s_plus) (defScope s_plus) .none kV1 dc1 pm1 an1 cd1 ct1), sl1⟩) (c1 : PySem.W.codeIn K cd1 "plus" = true) (k1 : PySem.W.keepIn K (.ref f1) = true)
    (a2 : PySem.W.nsIn K mainGlobals "minus" = some (some (.ref f2))) (l2 : K.lookup f2 = some ⟨oc2, od2, .func (PySem.W.fnOf "minus" "minus" (defArgs s_minus) (defBody s_minus) (defScope s_minus) .none kV2 dc2 pm2 an2 cd2 ct2), sl2⟩) (c2 : PySem.W.codeIn K cd2 "minus" = true) (k2 : PySem.W.keepIn K (.ref f2) = true)
    (a3 : PySem.W.nsIn K mainGlobals "times" = some (some (.ref f3))) (l3 : K.lookup f3 = some ⟨oc3, od3, .func (PySem.W.fnOf "times" "times" (defArgs s_times) (defBody s_times) (defScope s_times) .none kV3 dc3 pm3 an3 cd3 ct3), sl3⟩) (c3 : PySem.W.codeIn K cd3 "times" = true) (k3 : PySem.W.keepIn K (.ref f3) = true)
    (a4 : PySem.W.nsIn K mainGlobals "over" = some (some (.ref f4))) (l4 : K.lookup f4 = some ⟨oc4, od4, .func (PySem.W.fnOf "over" "over" (defArgs s_over) (defBody s_over) (defScope s_over) .none kV4 dc4 pm4 an4 cd4 ct4), sl4⟩) (c4 : PySem.W.codeIn K cd4 "over" = true) (k4 : PySem.W.keepIn K (.ref f4) = true)
    (a5 : PySem.W.nsIn K mainGlobals "before" = some (some (.ref f5))) (l5 : K.lookup f5 = some ⟨oc5, od5, .func (PySem.W.fnOf "before" "before" (defArgs s_before) (defBody s_before) (defScope s_before) .none kV5 dc5 pm5 an5 cd5 ct5), sl5⟩) (c5 : PySem.W.codeIn K cd5 "before" = true) (k5 : PySem.W.keepIn K (.ref f5) = true)
    (a6 : PySem.W.nsIn K mainGlobals "lowest" = some (some (.ref f6))) (l6 : K.lookup f6 = some ⟨oc6, od6, .func (PySem.W.fnOf "lowest" "lowest" (defArgs s_lowest) (defBody s_lowest) (defScope s_lowest) .none kV6 dc6 pm6 an6 cd6 ct6), sl6⟩) (c6 : PySem.W.codeIn K cd6 "lowest" = true) (k6 : PySem.W.keepIn K (.ref f6) = true)
    (a7 : PySem.W.nsIn K mainGlobals "greatest_divisor" = some (some (.ref f7))) (l7 : K.lookup f7 = some ⟨oc7, od7, .func (PySem.W.fnOf "greatest_divisor" "greatest_divisor" (defArgs s_greatest_divisor) (defBody s_greatest_divisor) (defScope s_greatest_divisor) .none kV7 dc7 pm7 an7 cd7 ct7), sl7⟩) (c7 : PySem.W.codeIn K cd7 "greatest_divisor" = true) (k7 : PySem.W.keepIn K (.ref f7) = true)
    (a8 : PySem.W.nsIn K mainGlobals "parts_at" = some (some (.ref f8))) (l8 : K.lookup f8 = some ⟨oc8, od8, .func (PySem.W.fnOf "parts_at" "parts_at" (defArgs s_parts_at) (defBody s_parts_at) (defScope s_parts_at) .none kV8 dc8 pm8 an8 cd8 ct8), sl8⟩) (c8 : PySem.W.codeIn K cd8 "parts_at" = true) (k8 : PySem.W.keepIn K (.ref f8) = true)
    (a9 : PySem.W.nsIn K mainGlobals "within" = some (some (.ref f9))) (l9 : K.lookup f9 = some ⟨oc9, od9, .func (PySem.W.fnOf "within" "within" (defArgs s_within) (defBody s_within) (defScope s_within) .none kV9 dc9 pm9 an9 cd9 ct9), sl9⟩) (c9 : PySem.W.codeIn K cd9 "within" = true) (k9 : PySem.W.keepIn K (.ref f9) = true)
    (a10 : PySem.W.nsIn K mainGlobals "parts_between" = some (some (.ref f10))) (l10 : K.lookup f10 = some ⟨oc10, od10, .func (PySem.W.fnOf "parts_between" "parts_between" (defArgs s_parts_between) (defBody s_parts_between) (defScope s_parts_between) .none kV10 dc10 pm10 an10 cd10 ct10), sl10⟩) (c10 : PySem.W.codeIn K cd10 "parts_between" = true) (k10 : PySem.W.keepIn K (.ref f10) = true)
    (a11 : PySem.W.nsIn K mainGlobals "portion_reached" = some (some (.ref f11))) (l11 : K.lookup f11 = some ⟨oc11, od11, .func (PySem.W.fnOf "portion_reached" "portion_reached" (defArgs s_portion_reached) (defBody s_portion_reached) (defScope s_portion_reached) .none kV11 dc11 pm11 an11 cd11 ct11), sl11⟩) (c11 : PySem.W.codeIn K cd11 "portion_reached" = true) (k11 : PySem.W.keepIn K (.ref f11) = true)
    (a12 : PySem.W.nsIn K mainGlobals "amount_at" = some (some (.ref f12))) (l12 : K.lookup f12 = some ⟨oc12, od12, .func (PySem.W.fnOf "amount_at" "amount_at" (defArgs s_amount_at) (defBody s_amount_at) (defScope s_amount_at) .none kV12 dc12 pm12 an12 cd12 ct12), sl12⟩) (c12 : PySem.W.codeIn K cd12 "amount_at" = true) (k12 : PySem.W.keepIn K (.ref f12) = true)
    (a13 : PySem.W.nsIn K mainGlobals "last_reached" = some (some (.ref f13))) (l13 : K.lookup f13 = some ⟨oc13, od13, .func (PySem.W.fnOf "last_reached" "last_reached" (defArgs s_last_reached) (defBody s_last_reached) (defScope s_last_reached) .none kV13 dc13 pm13 an13 cd13 ct13), sl13⟩) (c13 : PySem.W.codeIn K cd13 "last_reached" = true) (k13 : PySem.W.keepIn K (.ref f13) = true)
    (a14 : PySem.W.nsIn K mainGlobals "purses_reaching" = some (some (.ref f14))) (l14 : K.lookup f14 = some ⟨oc14, od14, .func (PySem.W.fnOf "purses_reaching" "purses_reaching" (defArgs s_purses_reaching) (defBody s_purses_reaching) (defScope s_purses_reaching) .none kV14 dc14 pm14 an14 cd14 ct14), sl14⟩) (c14 : PySem.W.codeIn K cd14 "purses_reaching" = true) (k14 : PySem.W.keepIn K (.ref f14) = true)
    (a15 : PySem.W.nsIn K mainGlobals "parts_within" = some (some (.ref f15))) (l15 : K.lookup f15 = some ⟨oc15, od15, .func (PySem.W.fnOf "parts_within" "parts_within" (defArgs s_parts_within) (defBody s_parts_within) (defScope s_parts_within) .none kV15 dc15 pm15 an15 cd15 ct15), sl15⟩) (c15 : PySem.W.codeIn K cd15 "parts_within" = true) (k15 : PySem.W.keepIn K (.ref f15) = true)
    (a16 : PySem.W.nsIn K mainGlobals "merged" = some (some (.ref f16))) (l16 : K.lookup f16 = some ⟨oc16, od16, .func (PySem.W.fnOf "merged" "merged" (defArgs s_merged) (defBody s_merged) (defScope s_merged) .none kV16 dc16 pm16 an16 cd16 ct16), sl16⟩) (c16 : PySem.W.codeIn K cd16 "merged" = true) (k16 : PySem.W.keepIn K (.ref f16) = true)
    (a17 : PySem.W.nsIn K mainGlobals "_law_cell_at" = some (some (.ref f17))) (l17 : K.lookup f17 = some ⟨oc17, od17, .func (PySem.W.fnOf "_law_cell_at" "_law_cell_at" (defArgs s_law_cell_at) (defBody s_law_cell_at) (defScope s_law_cell_at) .none kV17 dc17 pm17 an17 cd17 ct17), sl17⟩) (c17 : PySem.W.codeIn K cd17 "_law_cell_at" = true) (k17 : PySem.W.keepIn K (.ref f17) = true)
    (a18 : PySem.W.nsIn K mainGlobals "_law_mixed" = some (some (.ref f18))) (l18 : K.lookup f18 = some ⟨oc18, od18, .func (PySem.W.fnOf "_law_mixed" "_law_mixed" (defArgs s_law_mixed) (defBody s_law_mixed) (defScope s_law_mixed) .none kV18 dc18 pm18 an18 cd18 ct18), sl18⟩) (c18 : PySem.W.codeIn K cd18 "_law_mixed" = true) (k18 : PySem.W.keepIn K (.ref f18) = true)
    (a19 : PySem.W.nsIn K mainGlobals "_law_divisor" = some (some (.ref f19))) (l19 : K.lookup f19 = some ⟨oc19, od19, .func (PySem.W.fnOf "_law_divisor" "_law_divisor" (defArgs s_law_divisor) (defBody s_law_divisor) (defScope s_law_divisor) .none kV19 dc19 pm19 an19 cd19 ct19), sl19⟩) (c19 : PySem.W.codeIn K cd19 "_law_divisor" = true) (k19 : PySem.W.keepIn K (.ref f19) = true)
    (a20 : PySem.W.nsIn K mainGlobals "_law_lowest" = some (some (.ref f20))) (l20 : K.lookup f20 = some ⟨oc20, od20, .func (PySem.W.fnOf "_law_lowest" "_law_lowest" (defArgs s_law_lowest) (defBody s_law_lowest) (defScope s_law_lowest) .none kV20 dc20 pm20 an20 cd20 ct20), sl20⟩) (c20 : PySem.W.codeIn K cd20 "_law_lowest" = true) (k20 : PySem.W.keepIn K (.ref f20) = true)
    (a21 : PySem.W.nsIn K mainGlobals "_law_steps" = some (some (.ref f21))) (l21 : K.lookup f21 = some ⟨oc21, od21, .func (PySem.W.fnOf "_law_steps" "_law_steps" (defArgs s_law_steps) (defBody s_law_steps) (defScope s_law_steps) .none kV21 dc21 pm21 an21 cd21 ct21), sl21⟩) (c21 : PySem.W.codeIn K cd21 "_law_steps" = true) (k21 : PySem.W.keepIn K (.ref f21) = true)
    (a22 : PySem.W.nsIn K mainGlobals "_law_corners" = some (some (.ref f22))) (l22 : K.lookup f22 = some ⟨oc22, od22, .func (PySem.W.fnOf "_law_corners" "_law_corners" (defArgs s_law_corners) (defBody s_law_corners) (defScope s_law_corners) .none kV22 dc22 pm22 an22 cd22 ct22), sl22⟩) (c22 : PySem.W.codeIn K cd22 "_law_corners" = true) (k22 : PySem.W.keepIn K (.ref f22) = true)
    (a23 : PySem.W.nsIn K mainGlobals "_law_along" = some (some (.ref f23))) (l23 : K.lookup f23 = some ⟨oc23, od23, .func (PySem.W.fnOf "_law_along" "_law_along" (defArgs s_law_along) (defBody s_law_along) (defScope s_law_along) .none kV23 dc23 pm23 an23 cd23 ct23), sl23⟩) (c23 : PySem.W.codeIn K cd23 "_law_along" = true) (k23 : PySem.W.keepIn K (.ref f23) = true)
    (a24 : PySem.W.nsIn K mainGlobals "_law_thin" = some (some (.ref f24))) (l24 : K.lookup f24 = some ⟨oc24, od24, .func (PySem.W.fnOf "_law_thin" "_law_thin" (defArgs s_law_thin) (defBody s_law_thin) (defScope s_law_thin) .none kV24 dc24 pm24 an24 cd24 ct24), sl24⟩) (c24 : PySem.W.codeIn K cd24 "_law_thin" = true) (k24 : PySem.W.keepIn K (.ref f24) = true)
    (a25 : PySem.W.nsIn K mainGlobals "_law_less" = some (some (.ref f25))) (l25 : K.lookup f25 = some ⟨oc25, od25, .func (PySem.W.fnOf "_law_less" "_law_less" (defArgs s_law_less) (defBody s_law_less) (defScope s_law_less) .none kV25 dc25 pm25 an25 cd25 ct25), sl25⟩) (c25 : PySem.W.codeIn K cd25 "_law_less" = true) (k25 : PySem.W.keepIn K (.ref f25) = true)
    (a26 : PySem.W.nsIn K mainGlobals "_law_at" = some (some (.ref f26))) (l26 : K.lookup f26 = some ⟨oc26, od26, .func (PySem.W.fnOf "_law_at" "_law_at" (defArgs s_law_at) (defBody s_law_at) (defScope s_law_at) .none kV26 dc26 pm26 an26 cd26 ct26), sl26⟩) (c26 : PySem.W.codeIn K cd26 "_law_at" = true) (k26 : PySem.W.keepIn K (.ref f26) = true)
    (a27 : PySem.W.nsIn K mainGlobals "_law_whole" = some (some (.ref f27))) (l27 : K.lookup f27 = some ⟨oc27, od27, .func (PySem.W.fnOf "_law_whole" "_law_whole" (defArgs s_law_whole) (defBody s_law_whole) (defScope s_law_whole) .none kV27 dc27 pm27 an27 cd27 ct27), sl27⟩) (c27 : PySem.W.codeIn K cd27 "_law_whole" = true) (k27 : PySem.W.keepIn K (.ref f27) = true)
    (a28 : PySem.W.nsIn K mainGlobals "_law_is_fraction" = some (some (.ref f28))) (l28 : K.lookup f28 = some ⟨oc28, od28, .func (PySem.W.fnOf "_law_is_fraction" "_law_is_fraction" (defArgs s_law_is_fraction) (defBody s_law_is_fraction) (defScope s_law_is_fraction) .none kV28 dc28 pm28 an28 cd28 ct28), sl28⟩) (c28 : PySem.W.codeIn K cd28 "_law_is_fraction" = true) (k28 : PySem.W.keepIn K (.ref f28) = true)
    (a29 : PySem.W.nsIn K mainGlobals "_law_is_path" = some (some (.ref f29))) (l29 : K.lookup f29 = some ⟨oc29, od29, .func (PySem.W.fnOf "_law_is_path" "_law_is_path" (defArgs s_law_is_path) (defBody s_law_is_path) (defScope s_law_is_path) .none kV29 dc29 pm29 an29 cd29 ct29), sl29⟩) (c29 : PySem.W.codeIn K cd29 "_law_is_path" = true) (k29 : PySem.W.keepIn K (.ref f29) = true)
    (a30 : PySem.W.nsIn K mainGlobals "_law_sums" = some (some (.ref f30))) (l30 : K.lookup f30 = some ⟨oc30, od30, .func (PySem.W.fnOf "_law_sums" "_law_sums" (defArgs s_law_sums) (defBody s_law_sums) (defScope s_law_sums) .none kV30 dc30 pm30 an30 cd30 ct30), sl30⟩) (c30 : PySem.W.codeIn K cd30 "_law_sums" = true) (k30 : PySem.W.keepIn K (.ref f30) = true)
    (a31 : PySem.W.nsIn K mainGlobals "_law_outer" = some (some (.ref f31))) (l31 : K.lookup f31 = some ⟨oc31, od31, .func (PySem.W.fnOf "_law_outer" "_law_outer" (defArgs s_law_outer) (defBody s_law_outer) (defScope s_law_outer) .none kV31 dc31 pm31 an31 cd31 ct31), sl31⟩) (c31 : PySem.W.codeIn K cd31 "_law_outer" = true) (k31 : PySem.W.keepIn K (.ref f31) = true)
    (a32 : PySem.W.nsIn K mainGlobals "_law_all" = some (some (.ref f32))) (l32 : K.lookup f32 = some ⟨oc32, od32, .func (PySem.W.fnOf "_law_all" "_law_all" (defArgs s_law_all) (defBody s_law_all) (defScope s_law_all) .none kV32 dc32 pm32 an32 cd32 ct32), sl32⟩) (c32 : PySem.W.codeIn K cd32 "_law_all" = true) (k32 : PySem.W.keepIn K (.ref f32) = true)
    (a33 : PySem.W.nsIn K mainGlobals "_law_thin_row" = some (some (.ref f33))) (l33 : K.lookup f33 = some ⟨oc33, od33, .func (PySem.W.fnOf "_law_thin_row" "_law_thin_row" (defArgs s_law_thin_row) (defBody s_law_thin_row) (defScope s_law_thin_row) .none kV33 dc33 pm33 an33 cd33 ct33), sl33⟩) (c33 : PySem.W.codeIn K cd33 "_law_thin_row" = true) (k33 : PySem.W.keepIn K (.ref f33) = true)
    (a34 : PySem.W.nsIn K mainGlobals "law" = some (some (.ref f34))) (l34 : K.lookup f34 = some ⟨oc34, od34, .func (PySem.W.fnOf "law" "law" (defArgs s_law) (defBody s_law) (defScope s_law) .none kV34 dc34 pm34 an34 cd34 ct34), sl34⟩) (c34 : PySem.W.codeIn K cd34 "law" = true) (k34 : PySem.W.keepIn K (.ref f34) = true)
    (z_len : PySem.W.nsIn K mainGlobals "len" = some none) (z_abs : PySem.W.nsIn K mainGlobals "abs" = some none) (z_min : PySem.W.nsIn K mainGlobals "min" = some none) (z_max : PySem.W.nsIn K mainGlobals "max" = some none) (z_isinstance : PySem.W.nsIn K mainGlobals "isinstance" = some none) (z_range : PySem.W.nsIn K mainGlobals "range" = some none) (z_int : PySem.W.nsIn K mainGlobals "int" = some none) (z_bool : PySem.W.nsIn K mainGlobals "bool" = some none) (z_tuple : PySem.W.nsIn K mainGlobals "tuple" = some none) (z_list : PySem.W.nsIn K mainGlobals "list" = some none) (z_enumerate : PySem.W.nsIn K mainGlobals "enumerate" = some none) (z_zip : PySem.W.nsIn K mainGlobals "zip" = some none) (z_reversed : PySem.W.nsIn K mainGlobals "reversed" = some none) (z_ValueError : PySem.W.nsIn K mainGlobals "ValueError" = some none) (z_sum : PySem.W.nsIn K mainGlobals "sum" = some none) (z_str : PySem.W.nsIn K mainGlobals "str" = some none) (z_sorted : PySem.W.nsIn K mainGlobals "sorted" = some none) (z_all : PySem.W.nsIn K mainGlobals "all" = some none) :
    ∃ fd : FuncData, (∀ (s : Shared) (v : Value), BindsTo s fd ⟨[v], []⟩ [("_law_script", v)]) ∧ ∀ base : Heap, K.In base → base.Ns mainGlobals mg → FnOk l.prog w K mg base CX0 9 fa fd ["_law_script"] (spLaw K) := by
  have e := hfa.symm.trans (PySem.W.mg_of X G a34)
  cases e
  have F_plus := fun_mk (st := s_plus) l1 c1 k1
  have b_plus := F_plus.binds (ps := ["one", "two"]) fun _ _ _ _ _ _ us hl => match us, hl with | [_, _], _ => rfl
  have m_plus := PySem.W.mg_of X G a1
  have F_minus := fun_mk (st := s_minus) l2 c2 k2
  have b_minus := F_minus.binds (ps := ["one", "two"]) fun _ _ _ _ _ _ us hl => match us, hl with | [_, _], _ => rfl
  have m_minus := PySem.W.mg_of X G a2
  have F_times := fun_mk (st := s_times) l3 c3 k3
  have b_times := F_times.binds (ps := ["one", "two"]) fun _ _ _ _ _ _ us hl => match us, hl with | [_, _], _ => rfl
  have m_times := PySem.W.mg_of X G a3
  have F_over := fun_mk (st := s_over) l4 c4 k4
  have b_over := F_over.binds (ps := ["one", "two"]) fun _ _ _ _ _ _ us hl => match us, hl with | [_, _], _ => rfl
  have m_over := PySem.W.mg_of X G a4
  have F_before := fun_mk (st := s_before) l5 c5 k5
  have b_before := F_before.binds (ps := ["one", "two"]) fun _ _ _ _ _ _ us hl => match us, hl with | [_, _], _ => rfl
  have m_before := PySem.W.mg_of X G a5
  have F_lowest := fun_mk (st := s_lowest) l6 c6 k6
  have b_lowest := F_lowest.binds (ps := ["top", "bottom"]) fun _ _ _ _ _ _ us hl => match us, hl with | [_, _], _ => rfl
  have m_lowest := PySem.W.mg_of X G a6
  have F_greatest_divisor := fun_mk (st := s_greatest_divisor) l7 c7 k7
  have b_greatest_divisor := F_greatest_divisor.binds (ps := ["one", "two"]) fun _ _ _ _ _ _ us hl => match us, hl with | [_, _], _ => rfl
  have m_greatest_divisor := PySem.W.mg_of X G a7
  have F_parts_at := fun_mk (st := s_parts_at) l8 c8 k8
  have b_parts_at := F_parts_at.binds (ps := ["path", "purse"]) fun _ _ _ _ _ _ us hl => match us, hl with | [_, _], _ => rfl
  have m_parts_at := PySem.W.mg_of X G a8
  have F_within := fun_mk (st := s_within) l9 c9 k9
  have b_within := F_within.binds (ps := ["path", "others"]) fun _ _ _ _ _ _ us hl => match us, hl with | [_, _], _ => rfl
  have m_within := PySem.W.mg_of X G a9
  have F_parts_between := fun_mk (st := s_parts_between) l10 c10 k10
  have b_parts_between := F_parts_between.binds (ps := ["start", "end", "purse"]) fun _ _ _ _ _ _ us hl => match us, hl with | [_, _, _], _ => rfl
  have m_parts_between := PySem.W.mg_of X G a10
  have F_portion_reached := fun_mk (st := s_portion_reached) l11 c11 k11
  have b_portion_reached := F_portion_reached.binds (ps := ["start", "end", "amount"]) fun _ _ _ _ _ _ us hl => match us, hl with | [_, _, _], _ => rfl
  have m_portion_reached := PySem.W.mg_of X G a11
  have F_amount_at := fun_mk (st := s_amount_at) l12 c12 k12
  have b_amount_at := F_amount_at.binds (ps := ["start", "end", "portion"]) fun _ _ _ _ _ _ us hl => match us, hl with | [_, _, _], _ => rfl
  have m_amount_at := PySem.W.mg_of X G a12
  have F_last_reached := fun_mk (st := s_last_reached) l13 c13 k13
  have b_last_reached := F_last_reached.binds (ps := ["amounts", "amount"]) fun _ _ _ _ _ _ us hl => match us, hl with | [_, _], _ => rfl
  have m_last_reached := PySem.W.mg_of X G a13
  have F_purses_reaching := fun_mk (st := s_purses_reaching) l14 c14 k14
  have b_purses_reaching := F_purses_reaching.binds (ps := ["path", "place", "levels"]) fun _ _ _ _ _ _ us hl => match us, hl with | [_, _, _], _ => rfl
  have m_purses_reaching := PySem.W.mg_of X G a14
  have F_parts_within := fun_mk (st := s_parts_within) l15 c15 k15
  have b_parts_within := F_parts_within.binds (ps := ["path", "others", "purse"]) fun _ _ _ _ _ _ us hl => match us, hl with | [_, _, _], _ => rfl
  have m_parts_within := PySem.W.mg_of X G a15
  have F_merged := fun_mk (st := s_merged) l16 c16 k16
  have b_merged := F_merged.binds (ps := ["ones", "twos"]) fun _ _ _ _ _ _ us hl => match us, hl with | [_, _], _ => rfl
  have m_merged := PySem.W.mg_of X G a16
  have F_law_cell_at := fun_mk (st := s_law_cell_at) l17 c17 k17
  have b_law_cell_at := F_law_cell_at.binds (ps := ["_law_script", "_law_k"]) fun _ _ _ _ _ _ us hl => match us, hl with | [_, _], _ => rfl
  have m_law_cell_at := PySem.W.mg_of X G a17
  have F_law_mixed := fun_mk (st := s_law_mixed) l18 c18 k18
  have b_law_mixed := F_law_mixed.binds (ps := ["_law_cell", "_law_place"]) fun _ _ _ _ _ _ us hl => match us, hl with | [_, _], _ => rfl
  have m_law_mixed := PySem.W.mg_of X G a18
  have F_law_divisor := fun_mk (st := s_law_divisor) l19 c19 k19
  have b_law_divisor := F_law_divisor.binds (ps := ["_law_one", "_law_two"]) fun _ _ _ _ _ _ us hl => match us, hl with | [_, _], _ => rfl
  have m_law_divisor := PySem.W.mg_of X G a19
  have F_law_lowest := fun_mk (st := s_law_lowest) l20 c20 k20
  have b_law_lowest := F_law_lowest.binds (ps := ["_law_top", "_law_bottom"]) fun _ _ _ _ _ _ us hl => match us, hl with | [_, _], _ => rfl
  have m_law_lowest := PySem.W.mg_of X G a20
  have F_law_steps := fun_mk (st := s_law_steps) l21 c21 k21
  have b_law_steps := F_law_steps.binds (ps := ["_law_script", "_law_at_here", "_law_many", "_law_parts"]) fun _ _ _ _ _ _ us hl => match us, hl with | [_, _, _, _], _ => rfl
  have m_law_steps := PySem.W.mg_of X G a21
  have F_law_corners := fun_mk (st := s_law_corners) l22 c22 k22
  have b_law_corners := F_law_corners.binds (ps := ["_law_steps_here", "_law_parts", "_law_bottom"]) fun _ _ _ _ _ _ us hl => match us, hl with | [_, _, _], _ => rfl
  have m_law_corners := PySem.W.mg_of X G a22
  have F_law_along := fun_mk (st := s_law_along) l23 c23 k23
  have b_law_along := F_law_along.binds (ps := ["_law_last", "_law_step"]) fun _ _ _ _ _ _ us hl => match us, hl with | [_, _], _ => rfl
  have m_law_along := PySem.W.mg_of X G a23
  have F_law_thin := fun_mk (st := s_law_thin) l24 c24 k24
  have b_law_thin := F_law_thin.binds (ps := ["_law_steps_here"]) fun _ _ _ _ _ _ us hl => match us, hl with | [_], _ => rfl
  have m_law_thin := PySem.W.mg_of X G a24
  have F_law_less := fun_mk (st := s_law_less) l25 c25 k25
  have b_law_less := F_law_less.binds (ps := ["_law_one", "_law_two"]) fun _ _ _ _ _ _ us hl => match us, hl with | [_, _], _ => rfl
  have m_law_less := PySem.W.mg_of X G a25
  have F_law_at := fun_mk (st := s_law_at) l26 c26 k26
  have b_law_at := F_law_at.binds (ps := ["_law_path", "_law_purse"]) fun _ _ _ _ _ _ us hl => match us, hl with | [_, _], _ => rfl
  have m_law_at := PySem.W.mg_of X G a26
  have F_law_whole := fun_mk (st := s_law_whole) l27 c27 k27
  have b_law_whole := F_law_whole.binds (ps := ["_law_found"]) fun _ _ _ _ _ _ us hl => match us, hl with | [_], _ => rfl
  have m_law_whole := PySem.W.mg_of X G a27
  have F_law_is_fraction := fun_mk (st := s_law_is_fraction) l28 c28 k28
  have b_law_is_fraction := F_law_is_fraction.binds (ps := ["_law_found"]) fun _ _ _ _ _ _ us hl => match us, hl with | [_], _ => rfl
  have m_law_is_fraction := PySem.W.mg_of X G a28
  have F_law_is_path := fun_mk (st := s_law_is_path) l29 c29 k29
  have b_law_is_path := F_law_is_path.binds (ps := ["_law_found", "_law_parts"]) fun _ _ _ _ _ _ us hl => match us, hl with | [_, _], _ => rfl
  have m_law_is_path := PySem.W.mg_of X G a29
  have F_law_sums := fun_mk (st := s_law_sums) l30 c30 k30
  have b_law_sums := F_law_sums.binds (ps := ["_law_corner"]) fun _ _ _ _ _ _ us hl => match us, hl with | [_], _ => rfl
  have m_law_sums := PySem.W.mg_of X G a30
  have F_law_outer := fun_mk (st := s_law_outer) l31 c31 k31
  have b_law_outer := F_law_outer.binds (ps := ["_law_script", "_law_ends"]) fun _ _ _ _ _ _ us hl => match us, hl with | [_, _], _ => rfl
  have m_law_outer := PySem.W.mg_of X G a31
  have F_law_all := fun_mk (st := s_law_all) l32 c32 k32
  have b_law_all := F_law_all.binds (ps := ["_law_parts"]) fun _ _ _ _ _ _ us hl => match us, hl with | [_], _ => rfl
  have m_law_all := PySem.W.mg_of X G a32
  have F_law_thin_row := fun_mk (st := s_law_thin_row) l33 c33 k33
  have b_law_thin_row := F_law_thin_row.binds (ps := ["_law_corners_here"]) fun _ _ _ _ _ _ us hl => match us, hl with | [_], _ => rfl
  have m_law_thin_row := PySem.W.mg_of X G a33
  have F_law := fun_mk (st := s_law) l34 c34 k34
  have b_law := F_law.binds (ps := ["_law_script"]) fun _ _ _ _ _ _ us hl => match us, hl with | [_], _ => rfl
  have m_law := PySem.W.mg_of X G a34
  have B : Bl mg := ⟨PySem.W.mg_none_of X G z_len, PySem.W.mg_none_of X G z_abs, PySem.W.mg_none_of X G z_min, PySem.W.mg_none_of X G z_max, PySem.W.mg_none_of X G z_isinstance, PySem.W.mg_none_of X G z_range, PySem.W.mg_none_of X G z_int, PySem.W.mg_none_of X G z_bool, PySem.W.mg_none_of X G z_tuple, PySem.W.mg_none_of X G z_list, PySem.W.mg_none_of X G z_enumerate, PySem.W.mg_none_of X G z_zip, PySem.W.mg_none_of X G z_reversed, PySem.W.mg_none_of X G z_ValueError, PySem.W.mg_none_of X G z_sum, PySem.W.mg_none_of X G z_str⟩
  have B2 : Bl2 mg := ⟨PySem.W.mg_none_of X G z_sorted, PySem.W.mg_none_of X G z_all⟩
  refine ⟨PySem.W.fnOf "law" "law" (defArgs s_law) (defBody s_law) (defScope s_law) .none kV34 dc34 pm34 an34 cd34 ct34, fun s v => .of_eq rfl, fun base XB GB => ?_⟩
  have C_gcd := cal_mk (P := l.prog) (w := w) (base := base) F_greatest_divisor (ok_gcd F_greatest_divisor) m_greatest_divisor b_greatest_divisor
  have C_lowest := cal_mk (P := l.prog) (w := w) (base := base) F_lowest (ok_lowest B C_gcd F_lowest) m_lowest b_lowest
  have C_plus := cal_mk (P := l.prog) (w := w) (base := base) F_plus (ok_plus C_lowest F_plus) m_plus b_plus
  have C_minus := cal_mk (P := l.prog) (w := w) (base := base) F_minus (ok_minus C_lowest F_minus) m_minus b_minus
  have C_times := cal_mk (P := l.prog) (w := w) (base := base) F_times (ok_times C_lowest F_times) m_times b_times
  have C_over := cal_mk (P := l.prog) (w := w) (base := base) F_over (ok_over C_lowest F_over) m_over b_over
  have C_before := cal_mk (P := l.prog) (w := w) (base := base) F_before (ok_before F_before) m_before b_before
  have C_last := cal_mk (P := l.prog) (w := w) (base := base) F_last_reached (ok_last B C_before F_last_reached) m_last_reached b_last_reached
  have C_portion := cal_mk (P := l.prog) (w := w) (base := base) F_portion_reached (ok_portion C_minus C_over F_portion_reached) m_portion_reached b_portion_reached
  have C_amount := cal_mk (P := l.prog) (w := w) (base := base) F_amount_at (ok_amount C_plus C_minus C_times F_amount_at) m_amount_at b_amount_at
  have C_between := cal_mk (P := l.prog) (w := w) (base := base) F_parts_between (ok_between B C_portion C_amount F_parts_between) m_parts_between b_parts_between
  have C_partsat := cal_mk (P := l.prog) (w := w) (base := base) F_parts_at (ok_partsat B C_last C_between F_parts_at) m_parts_at b_parts_at
  have C_merged := cal_mk (P := l.prog) (w := w) (base := base) F_merged (ok_merged B C_before F_merged) m_merged b_merged
  have C_reach := cal_mk (P := l.prog) (w := w) (base := base) F_purses_reaching (ok_reach B C_last C_portion C_amount F_purses_reaching) m_purses_reaching b_purses_reaching
  have C_pwithin := cal_mk (P := l.prog) (w := w) (base := base) F_parts_within (ok_pwithin B C_partsat F_parts_within) m_parts_within b_parts_within
  have C_within := cal_mk (P := l.prog) (w := w) (base := base) F_within (ok_within B C_merged C_reach C_pwithin F_within) m_within b_within
  have C_cell := cal_mk (P := l.prog) (w := w) (base := base) F_law_cell_at (ok_cell B F_law_cell_at) m_law_cell_at b_law_cell_at
  have C_mix := cal_mk (P := l.prog) (w := w) (base := base) F_law_mixed (ok_mixed F_law_mixed) m_law_mixed b_law_mixed
  have C_div := cal_mk (P := l.prog) (w := w) (base := base) F_law_divisor (ok_divisor B F_law_divisor) m_law_divisor b_law_divisor
  have C_low := cal_mk (P := l.prog) (w := w) (base := base) F_law_lowest (ok_lawlow C_div F_law_lowest) m_law_lowest b_law_lowest
  have C_along := cal_mk (P := l.prog) (w := w) (base := base) F_law_along (ok_along B F_law_along) m_law_along b_law_along
  have C_thin := cal_mk (P := l.prog) (w := w) (base := base) F_law_thin (ok_thin B C_along F_law_thin) m_law_thin b_law_thin
  have C_steps := cal_mk (P := l.prog) (w := w) (base := base) F_law_steps (ok_steps B C_cell C_mix F_law_steps) m_law_steps b_law_steps
  have C_corners := cal_mk (P := l.prog) (w := w) (base := base) F_law_corners (ok_corners B C_low F_law_corners) m_law_corners b_law_corners
  have C_less := cal_mk (P := l.prog) (w := w) (base := base) F_law_less (ok_less F_law_less) m_law_less b_law_less
  have C_at := cal_mk (P := l.prog) (w := w) (base := base) F_law_at (ok_lawat B C_less C_low F_law_at) m_law_at b_law_at
  have C_whole := cal_mk (P := l.prog) (w := w) (base := base) F_law_whole (ok_whole B F_law_whole) m_law_whole b_law_whole
  have C_frac := cal_mk (P := l.prog) (w := w) (base := base) F_law_is_fraction (ok_frac B C_whole C_div F_law_is_fraction) m_law_is_fraction b_law_is_fraction
  have C_sums := cal_mk (P := l.prog) (w := w) (base := base) F_law_sums (ok_sums F_law_sums) m_law_sums b_law_sums
  have C_ispath := cal_mk (P := l.prog) (w := w) (base := base) F_law_is_path (ok_ispath B B2 C_frac C_less C_sums C_at F_law_is_path) m_law_is_path b_law_is_path
  have C_all := cal_mk (P := l.prog) (w := w) (base := base) F_law_all (ok_all C_low F_law_all) m_law_all b_law_all
  have C_outer := cal_mk (P := l.prog) (w := w) (base := base) F_law_outer (ok_outer B B2 C_cell C_mix C_low C_all F_law_outer) m_law_outer b_law_outer
  have C_thinrow := cal_mk (P := l.prog) (w := w) (base := base) F_law_thin_row (ok_thinrow B C_at F_law_thin_row) m_law_thin_row b_law_thin_row
  exact ok_law B C_cell C_steps C_corners C_thin C_outer C_thinrow C_within C_ispath C_at C_low F_law
theorem walk {l : PySem.W.OpenLaw} {q : Program} {loose : List Str} {XP : (Str → Option Value) → Heap → Prop} {YP : World → Heap → Prop} {d : DefRec} {K : Params → PySem.W.Frag} (hn : l.most = some 63) (hdf : d.params.defaults = [])
    (hY : ∀ (w : World) (h : Heap), YP w h → (K w.params).In h)
    (F : ∀ (w : World) (mg : Str → Option Value) (fa : Addr) (h : Heap), (K w.params).In h → h.Ns mainGlobals mg → mg d.name = some (.ref fa) →
      ∃ fd : FuncData, (∀ (s : Shared) (u : Value), BindsTo s fd ⟨[u], []⟩ [("_law_script", u)]) ∧ ∀ base : Heap, (K w.params).In base → base.Ns mainGlobals mg → FnOk l.prog w (K w.params) mg base CX0 9 fa fd ["_law_script"] (spLaw (K w.params))) :
    PySem.W.WalkO q loose XP YP l.row.toRowW d [] (fun f vs => PySem.call f vs) :=
  L2.walk_of (n := 63) (k := 9) (x := "_law_script") (CX := fun _ => CX0) (sp := fun w => spLaw (K w.params)) hn (by decide) hdf ⟨rfl, by decide, by decide⟩ hY F (fun _ _ a ns hl hO hS => ⟨a, ns, rfl, hS, hl, hO, fun _ => rfl⟩) fun _ _ _ _ _ z => z
end K
-- taken names: for these constants the opening then makes no second copy (the copies are not needed, and too large for one compiled file)
def PySem.W.Fast.tw2226280908218291523 : Unit := ()
def PySem.W.Fast.tw12261245077834679388 : Unit := ()
def PySem.W.Fast.tw785068370102932089 : Unit := ()
def PySem.W.Fast.tw15512570078109214898 : Unit := ()
def PySem.W.Fast.tw9463162315534973281 : Unit := ()
def PySem.W.Fast.tw12569553275772731106 : Unit := ()
def PySem.W.Fast.tw15449496005029461676 : Unit := ()
def PySem.W.Fast.tw16555353478179364410 : Unit := ()
def PySem.W.Fast.tw2179544860729663313 : Unit := ()
open PySem PySem.W PyProof.Rows
set_option maxRecDepth 100000 in
set_option maxHeartbeats 0 in
theorem PySem.Challenge.cw_shortpurse_k15_one_path_within_another_holds : PySem.Challenge.rw_shortpurse_k15_one_path_within_another.Holds := by
  w_on; o_law; k_head; (case hw => w_witness2)
  k_fill
  refine K.walk (l := PySem.Challenge.rw_shortpurse_k15_one_path_within_another) rfl rfl (fun w h Y => PySem.W.kIn_of Y) ?F
  case F =>
    intro w mg fa h KX G hmg
    refine' K.all_mk KX G hmg ?a1 ?l1 ?c1 ?k1 ?a2 ?l2 ?c2 ?k2 ?a3 ?l3 ?c3 ?k3 ?a4 ?l4 ?c4 ?k4 ?a5 ?l5 ?c5 ?k5 ?a6 ?l6 ?c6 ?k6 ?a7 ?l7 ?c7 ?k7 ?a8 ?l8 ?c8 ?k8 ?a9 ?l9 ?c9 ?k9 ?a10 ?l10 ?c10 ?k10 ?a11 ?l11 ?c11 ?k11 ?a12 ?l12 ?c12 ?k12 ?a13 ?l13 ?c13 ?k13 ?a14 ?l14 ?c14 ?k14 ?a15 ?l15 ?c15 ?k15 ?a16 ?l16 ?c16 ?k16 ?a17 ?l17 ?c17 ?k17 ?a18 ?l18 ?c18 ?k18 ?a19 ?l19 ?c19 ?k19 ?a20 ?l20 ?c20 ?k20 ?a21 ?l21 ?c21 ?k21 ?a22 ?l22 ?c22 ?k22 ?a23 ?l23 ?c23 ?k23 ?a24 ?l24 ?c24 ?k24 ?a25 ?l25 ?c25 ?k25 ?a26 ?l26 ?c26 ?k26 ?a27 ?l27 ?c27 ?k27 ?a28 ?l28 ?c28 ?k28 ?a29 ?l29 ?c29 ?k29 ?a30 ?l30 ?c30 ?k30 ?a31 ?l31 ?c31 ?k31 ?a32 ?l32 ?c32 ?k32 ?a33 ?l33 ?c33 ?k33 ?a34 ?l34 ?c34 ?k34 ?z_len ?z_abs ?z_min ?z_max ?z_isinstance ?z_range ?z_int ?z_bool ?z_tuple ?z_list ?z_enumerate ?z_zip ?z_reversed ?z_ValueError ?z_sum ?z_str ?z_sorted ?z_all
    (case a1 => k_is)
    (case l1 => k_is)
    (case c1 => k_is)
    (case k1 => k_is)
    (case a2 => k_is)
    (case l2 => k_is)
    (case c2 => k_is)
    (case k2 => k_is)
    (case a3 => k_is)
    (case l3 => k_is)
    (case c3 => k_is)
    (case k3 => k_is)
    (case a4 => k_is)
    (case l4 => k_is)
    (case c4 => k_is)
    (case k4 => k_is)
    (case a5 => k_is)
    (case l5 => k_is)
    (case c5 => k_is)
    (case k5 => k_is)
    (case a6 => k_is)
    (case l6 => k_is)
    (case c6 => k_is)
    (case k6 => k_is)
    (case a7 => k_is)
    (case l7 => k_is)
    (case c7 => k_is)
    (case k7 => k_is)
    (case a8 => k_is)
    (case l8 => k_is)
    (case c8 => k_is)
    (case k8 => k_is)
    (case a9 => k_is)
    (case l9 => k_is)
    (case c9 => k_is)
    (case k9 => k_is)
    (case a10 => k_is)
    (case l10 => k_is)
    (case c10 => k_is)
    (case k10 => k_is)
    (case a11 => k_is)
    (case l11 => k_is)
    (case c11 => k_is)
    (case k11 => k_is)
    (case a12 => k_is)
    (case l12 => k_is)
    (case c12 => k_is)
    (case k12 => k_is)
    (case a13 => k_is)
    (case l13 => k_is)
    (case c13 => k_is)
    (case k13 => k_is)
    (case a14 => k_is)
    (case l14 => k_is)
    (case c14 => k_is)
    (case k14 => k_is)
    (case a15 => k_is)
    (case l15 => k_is)
    (case c15 => k_is)
    (case k15 => k_is)
    (case a16 => k_is)
    (case l16 => k_is)
    (case c16 => k_is)
    (case k16 => k_is)
    (case a17 => k_is)
    (case l17 => k_is)
    (case c17 => k_is)
    (case k17 => k_is)
    (case a18 => k_is)
    (case l18 => k_is)
    (case c18 => k_is)
    (case k18 => k_is)
    (case a19 => k_is)
    (case l19 => k_is)
    (case c19 => k_is)
    (case k19 => k_is)
    (case a20 => k_is)
    (case l20 => k_is)
    (case c20 => k_is)
    (case k20 => k_is)
    (case a21 => k_is)
    (case l21 => k_is)
    (case c21 => k_is)
    (case k21 => k_is)
    (case a22 => k_is)
    (case l22 => k_is)
    (case c22 => k_is)
    (case k22 => k_is)
    (case a23 => k_is)
    (case l23 => k_is)
    (case c23 => k_is)
    (case k23 => k_is)
    (case a24 => k_is)
    (case l24 => k_is)
    (case c24 => k_is)
    (case k24 => k_is)
    (case a25 => k_is)
    (case l25 => k_is)
    (case c25 => k_is)
    (case k25 => k_is)
    (case a26 => k_is)
    (case l26 => k_is)
    (case c26 => k_is)
    (case k26 => k_is)
    (case a27 => k_is)
    (case l27 => k_is)
    (case c27 => k_is)
    (case k27 => k_is)
    (case a28 => k_is)
    (case l28 => k_is)
    (case c28 => k_is)
    (case k28 => k_is)
    (case a29 => k_is)
    (case l29 => k_is)
    (case c29 => k_is)
    (case k29 => k_is)
    (case a30 => k_is)
    (case l30 => k_is)
    (case c30 => k_is)
    (case k30 => k_is)
    (case a31 => k_is)
    (case l31 => k_is)
    (case c31 => k_is)
    (case k31 => k_is)
    (case a32 => k_is)
    (case l32 => k_is)
    (case c32 => k_is)
    (case k32 => k_is)
    (case a33 => k_is)
    (case l33 => k_is)
    (case c33 => k_is)
    (case k33 => k_is)
    (case a34 => k_is)
    (case l34 => k_is)
    (case c34 => k_is)
    (case k34 => k_is)
    (case z_len => k_is)
    (case z_abs => k_is)
    (case z_min => k_is)
    (case z_max => k_is)
    (case z_isinstance => k_is)
    (case z_range => k_is)
    (case z_int => k_is)
    (case z_bool => k_is)
    (case z_tuple => k_is)
    (case z_list => k_is)
    (case z_enumerate => k_is)
    (case z_zip => k_is)
    (case z_reversed => k_is)
    (case z_ValueError => k_is)
    (case z_sum => k_is)
    (case z_str => k_is)
    (case z_sorted => k_is)
    (case z_all => k_is)

