import PyProof.Rows.All
import Wide.All
import OpenK.AllK
import Wide.FinOn
import Lean
import PyProof.EqAt
import PyProof.EqKinds
import PyProof.TupleCall
import PyProof.Draws
import PyProof.EnumMake
import PyProof.ZipIter
import PyProof.Rows.SumAny
import KE.KRevIter
import PyProof.StrCalls2
import KE.KRevSl
import PySem.Challenge.RW_shortpurse_k21_shapes_and_texts
set_option Elab.async false
set_option linter.all false
set_option maxRecDepth 100000
set_option maxHeartbeats 4000000
set_option exponentiation.threshold 2000
/-! THE HAND LAYER, for ints, bools, texts, own classes, LISTS and tuples (index, slices, in, append, pop ..), calls, loops. Paste it whole ahead of your own text; what your proof does not reach may be deleted. -/
namespace L2
open PySem PySem.Spec PyProof.Rows

/-- a key: an int or a str -/
abbrev Key := Sum Int Str
def keyIs : Key → Value → Bool
  | .inl k, v => Value.isInt k v
  | .inr x, v => Value.isStrOf x v
def keyH (w : World) : Key → Int
  | .inl k => hashInt k
  | .inr x => hashStr w x
theorem keyIs_shape : ∀ {k : Key} {v : Value}, keyIs k v = true → (∃ i t, k = Sum.inl i ∧ v = Value.int i t) ∨ (∃ x t, k = Sum.inr x ∧ v = Value.str x t)
  | .inl i, v, h => by
    obtain ⟨t, e⟩ := Value.isInt_shape (k := i) (v := v) h
    exact .inl ⟨i, t, rfl, e⟩
  | .inr x, v, h => by
    obtain ⟨t, e⟩ := Value.isStrOf_shape (x := x) (v := v) h
    exact .inr ⟨x, t, rfl, e⟩
theorem keyIs_int (i : Int) (t : Tok) : keyIs (.inl i) (.int i t) = true := by simp [keyIs, Value.isInt]
theorem keyIs_str (x : Str) (t : Tok) : keyIs (.inr x) (.str x t) = true := by simp [keyIs, Value.isStrOf]
theorem key_ll (a b : Int) : decide ((Sum.inl a : Key) = Sum.inl b) = (a == b) := by
  by_cases e : a = b
  · subst e; simp
  · have h : ¬ (Sum.inl a : Key) = Sum.inl b := fun q => e (Sum.inl.inj q)
    rw [decide_eq_false h]
    exact (beq_eq_false_iff_ne.mpr e).symm
theorem key_rr (a b : Str) : decide ((Sum.inr a : Key) = Sum.inr b) = decide (a = b) := by
  by_cases e : a = b
  · subst e; simp
  · have h : ¬ (Sum.inr a : Key) = Sum.inr b := fun q => e (Sum.inr.inj q)
    rw [decide_eq_false h, decide_eq_false e]
theorem key_lr (a : Int) (b : Str) : decide ((Sum.inl a : Key) = Sum.inr b) = false := decide_eq_false (fun q => nomatch q)
theorem key_rl (a : Str) (b : Int) : decide ((Sum.inr a : Key) = Sum.inl b) = false := decide_eq_false (fun q => nomatch q)

def mixKind (prog : Program) (w : World) : PySem.KeyKind prog w Key where
  is := keyIs
  hash := keyH w
  inj := fun v a b ha hb => by
    rcases keyIs_shape ha with ⟨i, t, rfl, rfl⟩ | ⟨x, t, rfl, rfl⟩
    · rcases keyIs_shape hb with ⟨j, u, rfl, e⟩ | ⟨y, u, rfl, e⟩
      · injection e with e1 _; rw [e1]
      · exact nomatch e
    · rcases keyIs_shape hb with ⟨j, u, rfl, e⟩ | ⟨y, u, rfl, e⟩
      · exact nomatch e
      · injection e with e1 _; rw [e1]
  byValue := fun k v h => by
    rcases keyIs_shape h with ⟨i, t, rfl, rfl⟩ | ⟨x, t, rfl, rfl⟩ <;> rfl
  pyHash := fun hv h => by
    rcases keyIs_shape hv with ⟨i, t, rfl, rfl⟩ | ⟨x, t, rfl, rfl⟩
    · exact wpAny_pyHash_int h
    · exact wpAny_pyHash_str h
  eqBool := fun hu hv h => by
    rcases keyIs_shape hu with ⟨i, t, rfl, rfl⟩ | ⟨x, t, rfl, rfl⟩
    · rcases keyIs_shape hv with ⟨j, u, rfl, rfl⟩ | ⟨y, u, rfl, rfl⟩
      · rw [key_ll] at h; exact wpAny_eqBool_int h
      · rw [key_lr] at h; exact SeqAt.EqAt.int_str i t y u _ _ _ _ h
    · rcases keyIs_shape hv with ⟨j, u, rfl, rfl⟩ | ⟨y, u, rfl, rfl⟩
      · rw [key_rl] at h; exact SeqAt.EqAt.str_int x t j u _ _ _ _ h
      · rw [key_rr] at h; exact wpAny_eqBool_str h
  «strs» := fun k x t v h => by
    rcases keyIs_shape h with ⟨i, u, rfl, e⟩ | ⟨y, u, rfl, e⟩
    · exact nomatch e
    · injection e with e1 _
      subst e1
      cases v <;> rfl

theorem mixKind_is (prog : Program) (w : World) (k : Key) (v : Value) : (mixKind prog w).is k v = keyIs k v := rfl
theorem mixKind_int (prog : Program) (w : World) (i : Int) (t : Tok) : (mixKind prog w).is (.inl i) (.int i t) = true := keyIs_int i t
theorem mixKind_str (prog : Program) (w : World) (x : Str) (t : Tok) : (mixKind prog w).is (.inr x) (.str x t) = true := keyIs_str x t
end L2

namespace L2
open PySem PySem.Spec PyProof.Rows

/-- a value, without the heap -/
inductive V where
  | non | bl (b : Bool) | int (i : Int) | str (x : Str) | byt (b : Array UInt8) | flt (b : UInt64) | ref (a : Addr) | ty (n : String)
  deriving DecidableEq

def RelV : V → Value → Prop
  | .non, u => u = Value.none
  | .bl b, u => u = Value.bool b
  | .int i, u => ∃ t, u = Value.int i t
  | .str x, u => ∃ t, u = Value.str x t
  | .byt b, u => ∃ t, u = Value.bytes b t
  | .flt b, u => ∃ t, u = Value.float b t
  | .ref a, u => u = Value.ref a
  | .ty n, u => u = Value.type n

abbrev Vals : List V → List Value → Prop := Paired RelV
theorem Vals.length {xs : List V} {us : List Value} (r : Vals xs us) : xs.length = us.length := Paired.length r
theorem Vals.get : ∀ {xs : List V} {us : List Value} {i : Nat} {x : V}, Vals xs us → xs[i]? = some x → ∃ u, us[i]? = some u ∧ RelV x u
  | _, _, _, _, .nil, e => by simp at e
  | _, _, 0, _, .cons r _, e => by simp at e; subst e; exact ⟨_, rfl, r⟩
  | _, _, i + 1, x, .cons _ t, e => by
    obtain ⟨u, h1, h2⟩ := Vals.get (i := i) (x := x) t (by simpa using e)
    exact ⟨u, by simpa using h1, h2⟩
theorem Vals.set {x : V} {u : Value} (r : RelV x u) : ∀ {xs : List V} {us : List Value} (i : Nat), Vals xs us → Vals (xs.set i x) (us.set i u)
  | _, _, _, .nil => .nil
  | _, _, 0, .cons _ t => .cons r t
  | _, _, i + 1, .cons q t => .cons q (Vals.set r i t)
theorem Vals.append : ∀ {xs ys : List V} {us ws : List Value}, Vals xs us → Vals ys ws → Vals (xs ++ ys) (us ++ ws)
  | _, _, _, _, .nil, s => s
  | _, _, _, _, .cons r t, s => .cons r (Vals.append t s)
theorem Vals.take : ∀ {xs : List V} {us : List Value} (n : Nat), Vals xs us → Vals (xs.take n) (us.take n)
  | _, _, 0, _ => .nil
  | _, _, _ + 1, .nil => .nil
  | _, _, n + 1, .cons r t => .cons r (Vals.take n t)
theorem Vals.drop : ∀ {xs : List V} {us : List Value} (n : Nat), Vals xs us → Vals (xs.drop n) (us.drop n)
  | _, _, 0, r => r
  | _, _, _ + 1, .nil => .nil
  | _, _, n + 1, .cons _ t => Vals.drop n t
theorem Vals.none_of : ∀ {xs : List V} {us : List Value} {i : Nat}, Vals xs us → xs[i]? = none → us[i]? = none := fun {xs us i} r e => by
  have h1 := r.length
  have h2 : xs.length ≤ i := List.getElem?_eq_none_iff.mp e
  exact List.getElem?_eq_none_iff.mpr (by omega)

def RelO : Option V → Option Value → Prop
  | some v, some u => RelV v u
  | none, none => True
  | _, _ => False
def KV {κ : Type} : List (κ × V) → List (κ × Value) → Prop := Paired fun (p : κ × V) (q : κ × Value) => p.1 = q.1 ∧ RelV p.2 q.2

/-- a key of a dict (00_mix): an int or a text -/
def kV : Key → V
  | .inl i => .int i
  | .inr x => .str x

/-- what stands at a tracked address -/
inductive HO where
  /-- a list -/
  | lst (xs : List V)
  /-- a tuple (never changes) -/
  | tup (xs : List V)
  /-- a dict whose keys are ints and texts; one whose keys are tuples of ints and texts (the empty one is both) -/
  | dK (kvs : List (Key × V)) | dT (kvs : List (List Key × V))
  /-- a set of ints: its members, its size -/
  | set (S : Int → Bool) (n : Nat)
  /-- an instance of the class at C, its dict at dx, its attributes -/
  | ins (C dx : Addr) (fs : List (Str × V))
  /-- the dict of the instance at x -/
  | own (x : Addr)
  /-- the dict of an exception -/
  | xd (fs : List (Str × V))
  /-- a bound method, f of x -/
  | met (f x : Addr)
  /-- a range object lo, lo + 1, .. below hi -/
  | rng (lo hi : Int)
  /-- a thing that is known to the object (the script; a dict while a loop walks it): read, never written while it is so -/
  | frz (o : Obj) (u : HO)
  /-- a code object's table -/
  | tbl (ps : Array Value)
  /-- any other thing, by what is true of its one object (a def of one's own: SetO a S n := HO.ext fun h => ..) -/
  | ext (φ : Heap → Prop)

abbrev Hp := Addr → Option HO
def upd (H : Hp) (a : Addr) (o : HO) : Hp := fun b => if b = a then some o else H b
theorem upd_same {H : Hp} {a : Addr} {o : HO} : upd H a o a = some o := by unfold upd; rw [if_pos rfl]
theorem upd_ne {H : Hp} {a b : Addr} {o : HO} (h : b ≠ a) : upd H a o b = H b := by unfold upd; rw [if_neg h]
theorem upd_upd {H : Hp} {a : Addr} {o u : HO} : upd (upd H a o) a u = upd H a u := by
  funext b; unfold upd; split <;> rfl
/-- two objects of different content stand apart -/
theorem ne_of {H : Hp} {a b : Addr} {o u : HO} (h : H a = some o) (h' : H b = some u) (d : o ≠ u) : a ≠ b := by
  intro e; subst e; rw [h] at h'; exact d (Option.some.inj h')
theorem ne_of_none {H : Hp} {a b : Addr} {o : HO} (h : H a = some o) (h' : H b = none) : a ≠ b := by
  intro e; subst e; rw [h] at h'; cases h'

section
variable (P : Program) (w : World)
def ObjOk (H : Hp) (h : Heap) (a : Addr) : HO → Prop
  | .lst xs => xs.length ≤ sizeLine ∧ ∃ (its : List Value) (n : Nat), Vals xs its ∧ h.get? a = some { cls := .type "list", data := .seq its.toArray n }
  | .tup xs => xs.length ≤ sizeLine ∧ ∃ its : List Value, Vals xs its ∧ IsTup h a its.toArray
  | .dK kvs => kvs.length ≤ sizeLine ∧ (a == sysModules) = false ∧ ∃ vs, KV kvs vs ∧ h.DictOf (mixKind P w) a vs
  | .dT kvs => kvs.length ≤ sizeLine ∧ (a == sysModules) = false ∧ ∃ xs : List (List Key × Addr × Value),
      Paired (fun (p : List Key × V) (q : List Key × Addr × Value) => p.1 = q.1 ∧ H q.2.1 = some (.tup (p.1.map kV)) ∧ RelV p.2 q.2.2) kvs xs ∧
      ∃ o es ep, h.get? a = some o ∧ o.ExactDict ∧ o.data = .dict es ep ∧ es.toList = xs.map (entryOfKey (tupleKind (mixKind P w))) ∧ (xs.map (·.1)).Nodup
  | .set S n => h.SetOf (intKind P w) a S n
  | .ins C dx fs => H dx = some (.own a) ∧ fs.length ≤ 1000 ∧ dx ≠ a ∧ h.get? a = some (PySem.W.instObj C dx) ∧
      ∃ mA, h.Ns1 dx mA ∧ (∀ f, RelO (fs.lookup f) (mA f)) ∧ PySem.Within mA (fs.map (·.1))
  | .own _ => ∃ o, h.get? a = some o
  | .xd fs => ∃ mA, h.Ns1 a mA ∧ ∀ f, RelO (fs.lookup f) (mA f)
  | .rng lo hi => ∃ t u v, h.get? a = some { cls := .type "range", data := .fields #[.int lo t, .int hi u, .int 1 v] }
  | .frz o u => h.get? a = some o ∧ ObjOk H h a u
  | .tbl ps => h.get? a = some { cls := .none, data := .fields ps }
  | .met f x => h.get? a = some (PySem.W.methodObj (.ref f) (.ref x))
  | .ext φ => φ h ∧ (∃ o, h.get? a = some o) ∧ ∀ h1 h2 : Heap, φ h1 → (∀ o, h1.get? a = some o → h2.get? a = some o) → φ h2
/-- the abstract heap is held -/
def HOk (H : Hp) (h : Heap) : Prop := ∀ a o, H a = some o → ObjOk P w H h a o
end

section
variable {P : Program} {w : World} {H H' : Hp} {h h' : Heap} {a : Addr} {o : HO}
theorem ObjOk.lt (x : ObjOk P w H h a o) : a < h.objs.size := by
  cases o with
  | lst xs => obtain ⟨_, _, _, _, e⟩ := x; exact Heap.lt_size e
  | tup xs => obtain ⟨_, _, _, p⟩ := x; exact p.lt
  | dK kvs => obtain ⟨_, _, _, _, o, _, _, e, _⟩ := x; exact Heap.lt_size e
  | dT kvs => obtain ⟨_, _, _, _, o, _, _, e, _⟩ := x; exact Heap.lt_size e
  | set S n => obtain ⟨o, _, _, _, e, _⟩ := x; exact Heap.lt_size e
  | ins C dx fs => obtain ⟨_, _, _, e, _⟩ := x; exact Heap.lt_size e
  | own y => obtain ⟨_, e⟩ := x; exact Heap.lt_size e
  | xd fs => obtain ⟨_, ⟨_, _, _, e, _⟩, _⟩ := x; exact Heap.lt_size e
  | rng lo hi => obtain ⟨_, _, _, e⟩ := x; exact Heap.lt_size e
  | frz ob u => obtain ⟨e, _⟩ := x; exact Heap.lt_size e
  | tbl ps => exact Heap.lt_size (show h.get? a = some _ from x)
  | met f y => exact Heap.lt_size (show h.get? a = some _ from x)
  | ext φ => obtain ⟨_, ⟨_, e⟩, _⟩ := x; exact Heap.lt_size e
theorem Paired.mapP {α β : Type} {F G : α → β → Prop} : ∀ {l₁ : List α} {l₂ : List β}, Paired F l₁ l₂ → (∀ a b, F a b → G a b) → Paired G l₁ l₂
  | _, _, .nil, _ => .nil
  | _, _, .cons r t, f => .cons (f _ _ r) (Paired.mapP t f)
theorem Paired.imp' {α β : Type} {F G : α → β → Prop} (f : ∀ a b, F a b → G a b) {l₁ : List α} {l₂ : List β} (r : Paired F l₁ l₂) : Paired G l₁ l₂ := Paired.mapP r f
/-- what an object's description leans on: its own object, its own dict, the tuples -/
theorem ObjOk.stay (x : ObjOk P w H h a o) (k : ∀ b u, (b = a ∨ H b = some (.own a)) → h.get? b = some u → h'.get? b = some u)
    (ho : ∀ b, H b = some (.own a) → H' b = some (.own a)) (ht : ∀ b xs, H b = some (.tup xs) → H' b = some (.tup xs)) : ObjOk P w H' h' a o := by
  induction o with
  | lst xs => obtain ⟨z, its, n, r, e⟩ := x; exact ⟨z, its, n, r, k _ _ (.inl rfl) e⟩
  | tup xs => obtain ⟨z, its, r, ob, e, c⟩ := x; exact ⟨z, its, r, ob, k _ _ (.inl rfl) e, c⟩
  | dK kvs => obtain ⟨z, y, vs, r, ob, es, ep, e, c⟩ := x; exact ⟨z, y, vs, r, ob, es, ep, k _ _ (.inl rfl) e, c⟩
  | dT kvs =>
    obtain ⟨z, y, xs, r, ob, es, ep, e, c⟩ := x
    exact ⟨z, y, xs, Paired.mapP r fun p q z => ⟨z.1, ht _ _ z.2.1, z.2.2⟩, ob, es, ep, k _ _ (.inl rfl) e, c⟩
  | set S n => obtain ⟨ob, es, ep, t, e, c⟩ := x; exact ⟨ob, es, ep, t, k _ _ (.inl rfl) e, c⟩
  | ins C dx fs =>
    obtain ⟨d, z, ne, e, mA, ⟨od, es, ep, e2, c⟩, r⟩ := x
    exact ⟨ho _ d, z, ne, k _ _ (.inl rfl) e, mA, ⟨od, es, ep, k _ _ (.inr d) e2, c⟩, r⟩
  | own y => obtain ⟨ob, e⟩ := x; exact ⟨ob, k _ _ (.inl rfl) e⟩
  | xd fs => obtain ⟨mA, ⟨od, es, ep, e, c⟩, r⟩ := x; exact ⟨mA, ⟨od, es, ep, k _ _ (.inl rfl) e, c⟩, r⟩
  | rng lo hi => obtain ⟨t, u, v, e⟩ := x; exact ⟨t, u, v, k _ _ (.inl rfl) e⟩
  | frz ob u ih => obtain ⟨e, q⟩ := x; exact ⟨k _ _ (.inl rfl) e, ih q⟩
  | tbl ps =>
    have e : h.get? a = some { cls := .none, data := .fields ps } := x
    show h'.get? a = some { cls := .none, data := .fields ps }
    exact k a _ (.inl rfl) e
  | met f y =>
    have e : h.get? a = some (PySem.W.methodObj (.ref f) (.ref y)) := x
    show h'.get? a = some (PySem.W.methodObj (.ref f) (.ref y))
    exact k a _ (.inl rfl) e
  | ext φ => obtain ⟨p, ⟨o, e⟩, st⟩ := x; exact ⟨st _ _ p fun o q => k _ _ (.inl rfl) q, ⟨o, k _ _ (.inl rfl) e⟩, st⟩
theorem HOk.lt (x : HOk P w H h) (e : H a = some o) : a < h.objs.size := (x a o e).lt
theorem HOk.fresh (x : HOk P w H h) (e : h.objs.size ≤ a) : H a = none := by
  cases q : H a with
  | none => rfl
  | some u => exact absurd (Nat.lt_of_lt_of_le (x.lt q) e) (Nat.lt_irrefl _)
/-- every object of the heap is kept -/
theorem HOk.kept (x : HOk P w H h) (k : ∀ b u, h.get? b = some u → h'.get? b = some u) : HOk P w H h' := fun a o e =>
  (x a o e).stay (fun b u _ q => k b u q) (fun _ q => q) fun _ _ q => q
/-- a new object is laid and tracked -/
theorem HOk.laid (x : HOk P w H h) (k : ∀ b u, h.get? b = some u → h'.get? b = some u) (hp : h.objs.size ≤ a) (new : ObjOk P w (upd H a o) h' a o) : HOk P w (upd H a o) h' := fun b u e => by
  have hn := x.fresh hp
  by_cases hb : b = a
  · subst hb; rw [upd_same] at e; cases e; exact new
  · rw [upd_ne hb] at e
    exact (x b u e).stay (fun c v _ q => k c v q) (fun c q => by rw [upd_ne (ne_of_none q hn)]; exact q) fun c xs q => by rw [upd_ne (ne_of_none q hn)]; exact q
end

/-- what may be read as u: it is u, or a known u -/
def Rd (H : Hp) (a : Addr) (u : HO) : Prop := H a = some u ∨ ∃ o, H a = some (.frz o u)
theorem Rd.of {H : Hp} {a : Addr} {u : HO} (h : H a = some u) : Rd H a u := .inl h
theorem Rd.ok {P : Program} {w : World} {H : Hp} {h : Heap} {a : Addr} {u : HO} (r : Rd H a u) (x : HOk P w H h) : ObjOk P w H h a u := by
  rcases r with r | ⟨o, r⟩
  · exact x a u r
  · obtain ⟨_, q⟩ := x a _ r
    exact q
/-- what may be written -/
def Mut : Option HO → Prop
  | some (.lst _) => True
  | some (.dK _) => True
  | some (.dT _) => True
  | some (.set _ _) => True
  | some (.ins _ _ _) => True
  | some (.ext _) => True
  | _ => False
section
variable {P : Program} {w : World} {H : Hp} {h h' : Heap} {x e : Addr} {o' : HO}
/-- the object at e is changed: x itself, or the dict of the instance x -/
theorem HOk.write (ok : HOk P w H h) (mu : Mut (H x)) (he : e = x ∨ H e = some (.own x)) (k : ∀ b u, b ≠ e → h.get? b = some u → h'.get? b = some u) (heo : ∃ u, h'.get? e = some u)
    (new : ObjOk P w (upd H x o') h' x o') : HOk P w (upd H x o') h' := fun b u q => by
  have nown : ∀ c y, H c = some (.own y) → c ≠ x := fun c y r z => by subst z; rw [r] at mu; exact mu
  have ntup : ∀ c xs, H c = some (.tup xs) → c ≠ x := fun c xs r z => by subst z; rw [r] at mu; exact mu
  by_cases hb : b = x
  · subst hb; rw [upd_same] at q; cases q; exact new
  · rw [upd_ne hb] at q
    by_cases hbe : b = e
    · have q' : H b = some (.own x) := by
        rcases he with z | z
        · exact absurd (hbe.trans z) hb
        · rw [hbe]; exact z
      rw [q] at q'; cases q'
      obtain ⟨v, hv⟩ := heo
      exact ⟨v, by rw [hbe]; exact hv⟩
    · refine (ok b u q).stay (fun c v hc r => k c v ?_ r) (fun c r => by rw [upd_ne (nown c b r)]; exact r) fun c xs r => by rw [upd_ne (ntup c xs r)]; exact r
      rcases hc with rfl | hc
      · exact hbe
      · rintro rfl
        rcases he with z | z
        · exact nown c b hc z
        · rw [hc] at z; cases z; exact hb rfl
end

/-! ### kept unless tracked; of the frames at fs (the callers') the slots may change (an exception that passes writes there); of the records at ex (iterators) nothing is said -/
structure Un (fs ex : List Addr) (H H' : Hp) (h h' : Heap) : Prop where
  keep : ∀ b o, h.get? b = some o → H b = none → b ∉ fs → b ∉ ex → h'.get? b = some o
  slot : ∀ b o, h.get? b = some o → H b = none → b ∈ fs → b ∉ ex → ∃ sl, h'.get? b = some { o with slots := sl }
  free : ∀ b o, h.get? b = some o → H b = none → b ∉ ex → H' b = none
  there : ∀ b o, h.get? b = some o → b ∉ ex → ∃ o', h'.get? b = some o'
  tups : ∀ b xs, H b = some (.tup xs) → H' b = some (.tup xs)
  frzs : ∀ b o u, H b = some (.frz o u) → H' b = some (.frz o u)
  tbls : ∀ b ps, H b = some (.tbl ps) → ∃ more, H' b = some (.tbl (ps ++ more))
section
variable {fs fs' ex ex' : List Addr} {H H1 H2 : Hp} {h h1 h2 h' : Heap} {a x e : Addr} {o : HO}
theorem Un.any (u : Un fs ex H H1 h h1) {b : Addr} {ob : Obj} (q : h.get? b = some ob) (n : H b = none) (hx : b ∉ ex) : ∃ sl, h1.get? b = some { ob with slots := sl } := by
  by_cases hb : b ∈ fs
  · exact u.slot b ob q n hb hx
  · exact ⟨ob.slots, u.keep b ob q n hb hx⟩
theorem Un.trans (a : Un fs ex H H1 h h1) (b : Un fs ex H1 H2 h1 h2) : Un fs ex H H2 h h2 where
  keep := fun c ob q n hc hx => b.keep c ob (a.keep c ob q n hc hx) (a.free c ob q n hx) hc hx
  slot := fun c ob q n hc hx => by
    obtain ⟨sl, e1⟩ := a.slot c ob q n hc hx
    obtain ⟨sl', e2⟩ := b.slot c _ e1 (a.free c ob q n hx) hc hx
    exact ⟨sl', e2⟩
  free := fun c ob q n hx => by
    obtain ⟨o', e1⟩ := a.there c ob q hx
    exact b.free c o' e1 (a.free c ob q n hx) hx
  there := fun c ob q hx => by
    obtain ⟨o', e1⟩ := a.there c ob q hx
    exact b.there c o' e1 hx
  tups := fun c xs q => b.tups c xs (a.tups c xs q)
  frzs := fun c ob xs q => b.frzs c ob xs (a.frzs c ob xs q)
  tbls := fun c ps q => by
    obtain ⟨m1, e1⟩ := a.tbls c ps q
    obtain ⟨m2, e2⟩ := b.tbls c _ e1
    exact ⟨m1 ++ m2, by rw [e2, Array.append_assoc]⟩
theorem Un.kept (k : ∀ b u, h.get? b = some u → h'.get? b = some u) : Un fs ex H H h h' :=
  ⟨fun b ob q _ _ _ => k b ob q, fun b ob q _ _ _ => ⟨ob.slots, k b ob q⟩, fun _ _ _ n _ => n, fun b ob q _ => ⟨ob, k b ob q⟩, fun _ _ q => q, fun _ _ _ q => q, fun _ ps q => ⟨#[], by rw [q]; simp⟩⟩
theorem Un.refl : Un fs ex H H h h := Un.kept fun _ _ q => q
theorem Un.laid (k : ∀ b u, h.get? b = some u → h'.get? b = some u) (hp : h.objs.size ≤ a) (hn : H a = none) : Un fs ex H (upd H a o) h h' where
  keep := fun b u q _ _ _ => k b u q
  slot := fun b u q _ _ _ => ⟨u.slots, k b u q⟩
  free := fun b u q n _ => by rw [upd_ne (Nat.ne_of_lt (Nat.lt_of_lt_of_le (Heap.lt_size q) hp))]; exact n
  there := fun b u q _ => ⟨u, k b u q⟩
  tups := fun b xs q => by rw [upd_ne (ne_of_none q hn)]; exact q
  frzs := fun b u xs q => by rw [upd_ne (ne_of_none q hn)]; exact q
  tbls := fun b ps q => ⟨#[], by rw [upd_ne (ne_of_none q hn), q]; simp⟩
theorem Un.write (mu : Mut (H x)) (he : e = x ∨ H e = some (.own x)) (k : ∀ b u, b ≠ e → h.get? b = some u → h'.get? b = some u) (heo : ∃ u, h'.get? e = some u) : Un fs ex H (upd H x o) h h' := by
  have hx : ∀ b, H b = none → b ≠ x := fun b n z => by subst z; rw [n] at mu; exact mu
  have hb : ∀ b, H b = none → b ≠ e := fun b n z => by
    subst z
    rcases he with r | r
    · exact hx b n r
    · rw [n] at r; cases r
  have hm : ∀ b u, H b = some u → ¬ Mut (some u) → b ≠ x := fun b u q nm z => by subst z; rw [q] at mu; exact nm mu
  refine ⟨fun b u q n _ _ => k b u (hb b n) q, fun b u q n _ _ => ⟨u.slots, k b u (hb b n) q⟩, fun b u q n _ => by rw [upd_ne (hx b n)]; exact n, fun b u q _ => ?_,
    fun b xs q => by rw [upd_ne (hm b _ q fun z => z)]; exact q, fun b u xs q => by rw [upd_ne (hm b _ q fun z => z)]; exact q, fun b ps q => ⟨#[], by rw [upd_ne (hm b _ q fun z => z), q]; simp⟩⟩
  by_cases hbe : b = e
  · subst hbe; exact heo
  · exact ⟨u, k b u hbe q⟩
theorem Un.mono (u : Un fs ex H H1 h h1) (hs : ∀ b ∈ fs, b ∈ fs') (hx : ∀ b ∈ ex, b ∈ ex') : Un fs' ex' H H1 h h1 :=
  ⟨fun b ob q n hb he => u.keep b ob q n (fun z => hb (hs b z)) fun z => he (hx b z), fun _ _ q n _ he => u.any q n fun z => he (hx _ z), fun b ob q n he => u.free b ob q n fun z => he (hx b z), fun b ob q he => u.there b ob q fun z => he (hx b z), u.tups, u.frzs, u.tbls⟩
end

/-! ### the heap without what is tracked -/
def trk (h : Heap) (H : Hp) : List Addr := (List.range h.objs.size).filter fun a => (H a).isSome
def hidT (h : Heap) (H : Hp) : Heap := PySem.W.hideAll h (trk h H)
theorem hidT_size (h : Heap) (H : Hp) : (hidT h H).objs.size = h.objs.size := PySem.W.hideAll_size _ _
theorem hidT_get {h : Heap} {H : Hp} {b : Addr} {o : Obj} (e : h.get? b = some o) (n : H b = none) : (hidT h H).get? b = some o :=
  PySem.W.hideAll_get _ e fun hm => by
    have q : (H b).isSome = true := (List.mem_filter.mp hm).2
    rw [n] at q; simp at q
theorem of_hidT {h : Heap} {H : Hp} {b : Addr} {o : Obj} (e : (hidT h H).get? b = some o) : h.get? b = some o ∧ H b = none := by
  have e' : h.get? b = some o := PySem.W.of_hideAll (trk h H) e
  refine ⟨e', ?_⟩
  cases q : H b with
  | none => rfl
  | some x =>
    have hm : b ∈ trk h H := List.mem_filter.mpr ⟨List.mem_range.mpr (Heap.lt_size e'), by simp [q]⟩
    have z : (hidT h H).get? b = none := PySem.W.hideAll_none (trk h H) hm
    rw [z] at e; cases e

/-! ### OpenK's ledger, filled with every new object but one -/
def allNews (g h : Heap) (L : Addr) : List (Addr × Obj) := (List.range h.objs.size).filterMap fun a => if a = L ∨ (g.get? a).isSome = true then none else (h.get? a).map fun o => (a, o)
theorem mem_allNews {g h : Heap} {L a : Addr} {o : Obj} (h1 : a ≠ L) (h2 : g.get? a = none) (h3 : h.get? a = some o) : (a, o) ∈ allNews g h L :=
  List.mem_filterMap.mpr ⟨a, List.mem_range.mpr (Heap.lt_size h3), by simp [h1, h2, h3]⟩
theorem of_mem_allNews {g h : Heap} {L : Addr} {p : Addr × Obj} (hp : p ∈ allNews g h L) : p.1 ≠ L ∧ g.get? p.1 = none ∧ h.get? p.1 = some p.2 := by
  obtain ⟨b, _, e⟩ := List.mem_filterMap.mp hp
  split at e
  · cases e
  · rename_i hn
    cases q : h.get? b with
    | none => rw [q] at e; simp at e
    | some u =>
      rw [q] at e
      simp only [Option.map_some, Option.some.injEq] at e
      subst e
      refine ⟨fun z => hn (.inl z), ?_, q⟩
      show g.get? b = none
      cases r : g.get? b with
      | none => rfl
      | some v => exact (hn (.inr (by simp [r]))).elim
def rest (g h : Heap) (L d : Addr) : List (Addr × Obj) := (allNews g h L).filter fun p => decide (p.1 ≠ d)
theorem rest_ne {g h : Heap} {L d : Addr} : ∀ p ∈ rest g h L d, p.1 ≠ d := fun p hp => of_decide_eq_true (List.mem_filter.mp hp).2
theorem mem_rest {g h : Heap} {L d a : Addr} {o : Obj} (h1 : a ≠ L) (h2 : g.get? a = none) (h3 : h.get? a = some o) (h4 : a ≠ d) : (a, o) ∈ rest g h L d :=
  List.mem_filter.mpr ⟨mem_allNews h1 h2 h3, decide_eq_true h4⟩
theorem news_all {g h : Heap} {L : Addr} : News g L h (allNews g h L) := fun p hp => let ⟨a, b, c⟩ := of_mem_allNews hp; ⟨c, a, b⟩
theorem news_at {g h : Heap} {L d : Addr} {o : Obj} (h1 : d ≠ L) (h2 : g.get? d = none) (h3 : h.get? d = some o) : News g L h ((d, o) :: rest g h L d) := fun p hp => by
  rcases List.mem_cons.mp hp with rfl | hp
  · exact ⟨h3, h1, h2⟩
  · exact news_all p (List.mem_filter.mp hp).1
/-- behind a rule that changed d alone: all else but the frame is kept -/
theorem kept_of_news {g h h' : Heap} {L d : Addr} {m : Str → Option Value} (k : ∀ b o, g.get? b = some o → h.get? b = some o) (F : Fr g L h' m) (N : News g L h' (rest g h L d)) :
    ∀ b o, b ≠ L → b ≠ d → h.get? b = some o → h'.get? b = some o := fun b o h1 h2 e => by
  cases q : g.get? b with
  | some u =>
    have := k b u q
    rw [e] at this; cases this
    exact F.keep b _ q
  | none => exact (N (b, o) (mem_rest h1 q e h2)).1
end L2

namespace L2
open PySem PySem.Spec PyProof.Rows

/-- the module's facts, over the base: the heap at the law's entry without what is tracked there -/
structure Mod (K : PySem.W.Frag) (mg : Str → Option Value) (base : Heap) : Prop where
  kin : K.In base
  glob : base.Ns mainGlobals mg
  blt : ∃ mb, base.Ns builtinsNs mb ∧ ∀ x : Str, x ≠ "__name__" → mb x = bootBuiltins x
  nolimit : base.NoLimit

/-- the context: a def's body (or a comprehension's block) running. base: fixed through the whole law; s₀, H₀: the entry; outer: the frames whose slots others may change (a def's callers); stack: all frames that run;
   ex: iterators that were made ahead of the entry and are walked here (a comprehension's); fn: the names whose cells were made at the entry (a def: all; a comprehension's block: its own); calm: not within an except suite; pn: pins that every state bears; xe: what is wanted of an exception that leaves the code -/
structure Cx where
  prog : Program
  w : World
  K : PySem.W.Frag
  mg : Str → Option Value
  base : Heap
  A : Around
  N : List Str
  s₀ : Shared
  H₀ : Hp
  env : Env
  outer : List Env
  stack : List Env
  ex : List Addr
  fn : Str → Bool
  calm : Bool
  pn : List (Addr × Obj)
  xe : Value → Shared → Prop
/-- the callers' frames -/
def frs (l : List Env) : List Addr := l.filterMap (·.frame)
abbrev Cx.fs (X : Cx) : List Addr := frs X.outer

def Vis (sc : Scope) (x : Str) : Prop := sc.names.lookup x = some .local ∨ sc.names.lookup x = some .cell ∨ sc.names.lookup x = some .free
def Loc (sc : Scope) (x : Str) : Prop := sc.names.lookup x = some .local ∨ sc.names.lookup x = some .cell
def Look (env : Env) (h : Heap) (m : Str → Option Value) (x : Str) (u : Value) : Prop :=
  (env.kindOf x = some .local ∧ m x = some u) ∨ ((env.kindOf x = some .cell ∨ env.kindOf x = some .free) ∧ ∃ c, env.cells.lookup x = some c ∧ h.IsCell c (some u))

structure Cx.Ok (X : Cx) : Prop where
  mod : Mod X.K X.mg X.base
  kind : X.env.scope.kind = .function
  glob : X.env.globals = mainGlobals
  blt : X.env.builtins = builtinsNs
  above : X.s₀.heap.objs.size ≤ X.env.locals
  inj : ∀ x y c, X.env.cells.lookup x = some c → X.env.cells.lookup y = some c → x = y
  has : ∀ x, (X.env.kindOf x = some .cell ∨ X.env.kindOf x = some .free) → ∃ c, X.env.cells.lookup x = some c
  cab : ∀ x c, X.fn x = true → X.env.cells.lookup x = some c → X.s₀.heap.objs.size ≤ c
  hd : X.calm = true → X.A.handled = none
  frames : X.A.frames = some X.stack
  stk : X.stack = X.outer ∨ (X.stack = X.env :: X.outer ∧ X.env.frame = some X.env.locals)
  exf : ∀ b ∈ X.ex, b ≠ X.env.locals ∧ ∀ x c, X.env.cells.lookup x = some c → c ≠ b
  bs : ∀ b o, X.base.get? b = some o → X.s₀.heap.get? b = some o ∧ X.H₀ b = none
  bsz : X.base.objs.size ≤ X.s₀.heap.objs.size
  noex : ∀ b o, X.base.get? b = some o → b ∉ X.ex
  exfs : ∀ b ∈ X.ex, b ∉ X.fs
  funs : X.s₀.heap.FunFrames X.base X.outer
  frf : ∀ b ∈ X.fs, X.H₀ b = none

structure Inv (X : Cx) (pins : List (Addr × Obj)) (σ : List (Option V)) (H : Hp) (s : Shared) : Prop where
  ok : X.Ok
  os : s.os = X.s₀.os
  bare : AllBare s.gens
  base : Un X.fs X.ex X.H₀ H X.s₀.heap s.heap
  loc : ∃ m, s.heap.Ns X.env.locals m ∧ ∀ (i : Nat) (x : Str) (v : V), X.N[i]? = some x → σ[i]? = some (some v) → Vis X.env.scope x → ∃ u, RelV v u ∧ Look X.env s.heap m x u
  cell : ∀ x c, X.env.cells.lookup x = some c → ∃ v, s.heap.IsCell c v
  free : H X.env.locals = none
  freeC : ∀ x c, X.env.cells.lookup x = some c → H c = none
  pin : ∀ p ∈ X.pn ++ pins, s.heap.get? p.1 = some p.2 ∧ H p.1 = none ∧ p.1 ≠ X.env.locals ∧ p.1 ∉ X.fs ∧ ∀ v, p.2.data ≠ .cell v
  hok : HOk X.prog X.w H s.heap
  len : σ.length = X.N.length

section
variable {X : Cx} {pins : List (Addr × Obj)} {σ : List (Option V)} {H H' : Hp} {s : Shared} {h' : Heap}

theorem Cx.Ok.nofr (ok : X.Ok) {b : Addr} {o : Obj} (e : X.base.get? b = some o) : b ∉ X.fs := fun hb => by
  have := (ok.funs.mem hb).1
  rw [e] at this; cases this
theorem Inv.bs (I : Inv X pins σ H s) : ∀ b o, X.base.get? b = some o → s.heap.get? b = some o ∧ H b = none := fun b o e =>
  ⟨I.base.keep b o (I.ok.bs b o e).1 (I.ok.bs b o e).2 (I.ok.nofr e) (I.ok.noex b o e), I.base.free b o (I.ok.bs b o e).1 (I.ok.bs b o e).2 (I.ok.noex b o e)⟩
theorem Inv.bk (I : Inv X pins σ H s) : ∀ b o, X.base.get? b = some o → s.heap.get? b = some o := fun b o e => (I.bs b o e).1
theorem Inv.mod (I : Inv X pins σ H s) : Mod X.K X.mg X.base := I.ok.mod
theorem Inv.kIn (I : Inv X pins σ H s) : X.K.In s.heap := I.ok.mod.kin.keeps I.bk
theorem Inv.nolimit (I : Inv X pins σ H s) : s.heap.NoLimit := I.ok.mod.nolimit.keeps I.bk
/-- the frame over the base: for OpenK's rules (K.In X.base is I.mod.kin) -/
theorem Inv.fr (I : Inv X pins σ H s) : ∃ m, Fr X.base X.env.locals s.heap m :=
  let ⟨m, hn, _⟩ := I.loc
  ⟨m, hn, I.bk, Nat.le_trans I.ok.bsz I.ok.above⟩
theorem Inv.lt (I : Inv X pins σ H s) : X.env.locals < s.heap.objs.size := let ⟨_, hn, _⟩ := I.loc; hn.lt
theorem Inv.sz (I : Inv X pins σ H s) : X.s₀.heap.objs.size ≤ s.heap.objs.size := Nat.le_trans I.ok.above (Nat.le_of_lt I.lt)
theorem Inv.nofs (I : Inv X pins σ H s) {a : Addr} (h : s.heap.objs.size ≤ a) : a ∉ X.fs := fun hb => by
  obtain ⟨_, o, ho, _⟩ := I.ok.funs.mem hb
  exact absurd (Nat.lt_of_lt_of_le (Heap.lt_size ho) (Nat.le_trans I.sz h)) (Nat.lt_irrefl _)
theorem Inv.cne (I : Inv X pins σ H s) : ∀ x c, X.env.cells.lookup x = some c → c ≠ X.env.locals := fun x c e z => by
  obtain ⟨v, o, ho, hd⟩ := I.cell x c e
  obtain ⟨m, ⟨o', es, ep, ho', hd', _⟩, _⟩ := I.loc
  rw [z, ho'] at ho; cases ho; rw [hd'] at hd; cases hd
theorem Inv.funs (I : Inv X pins σ H s) : s.heap.FunFrames X.base X.outer := by
  have all : ∀ (l : List Env), (∀ b ∈ frs l, b ∈ X.fs) → X.s₀.heap.FunFrames X.base l → s.heap.FunFrames X.base l := by
    intro l
    induction l with
    | nil => intro _ _; trivial
    | cons env r ih =>
      intro hs hl
      obtain ⟨hk, ⟨L, o, hf, hn, ho, hd⟩, hr⟩ := hl
      have hL : L ∈ X.fs := hs L (by unfold frs; rw [List.filterMap_cons, hf]; exact List.mem_cons_self)
      obtain ⟨sl, e⟩ := I.base.slot L o ho (I.ok.frf L hL) hL fun z => I.ok.exfs L z hL
      exact ⟨hk, ⟨L, _, hf, hn, e, hd⟩, ih (fun b hb => hs b (by unfold frs; rw [List.filterMap_cons, hf]; exact List.mem_cons_of_mem _ hb)) hr⟩
  exact all X.outer (fun _ hb => hb) I.ok.funs

/-- the frames that run, for a call -/
theorem Inv.stack (I : Inv X pins σ H s) : s.heap.FunFrames X.base X.stack := by
  rcases I.ok.stk with e | ⟨e, hf⟩
  · rw [e]; exact I.funs
  · rw [e]
    obtain ⟨m, hn, _⟩ := I.loc
    refine .cons (by rw [I.ok.kind]; decide) hf hn ?_ I.funs
    exact Heap.get?_none_of_le (Nat.le_trans I.ok.bsz I.ok.above)
theorem Inv.stkSub (I : Inv X pins σ H s) : ∀ b ∈ frs X.stack, b ∈ X.env.locals :: X.fs := fun b hb => by
  rcases I.ok.stk with e | ⟨e, hf⟩
  · rw [e] at hb; exact List.mem_cons_of_mem _ hb
  · rw [e] at hb
    unfold frs at hb
    rw [List.filterMap_cons, hf] at hb
    exact hb
theorem Inv.stkFree (I : Inv X pins σ H s) : ∀ b ∈ frs X.stack, H b = none := fun b hb => by
  rcases List.mem_cons.mp (I.stkSub b hb) with e | hb
  · rw [e]; exact I.free
  · obtain ⟨_, o, ho, _⟩ := I.ok.funs.mem hb
    exact I.base.free b o ho (I.ok.frf b hb) fun z => I.ok.exfs b z hb

/-- THE STEP: the untracked objects but the frame and the records at ch are kept (the callers' frames up to slots), the frame's map is kept, the new abstract heap is held -/
theorem Inv.step {g' : Array GenState} {t' : Nat} {d' : Drawn} {ch : List Addr} (I : Inv X pins σ H s)
    (hch : ∀ b ∈ ch, (b ∈ X.ex ∨ X.s₀.heap.objs.size ≤ b) ∧ b ≠ X.env.locals ∧ (∀ x c, X.env.cells.lookup x = some c → c ≠ b) ∧ ∀ p ∈ X.pn ++ pins, p.1 ≠ b)
    (keep : ∀ b o, b ≠ X.env.locals → b ∉ X.fs → b ∉ ch → s.heap.get? b = some o → H b = none → h'.get? b = some o)
    (slot : ∀ b o, b ≠ X.env.locals → b ∈ X.fs → b ∉ ch → s.heap.get? b = some o → H b = none → ∃ sl, h'.get? b = some { o with slots := sl }) (free : ∀ b o, b ∉ ch → s.heap.get? b = some o → H b = none → H' b = none)
    (there : ∀ b o, b ∉ ch → s.heap.get? b = some o → ∃ o', h'.get? b = some o')
    (tups : ∀ b xs, H b = some (.tup xs) → H' b = some (.tup xs)) (frzs : ∀ b o u, H b = some (.frz o u) → H' b = some (.frz o u)) (tbls : ∀ b ps, H b = some (.tbl ps) → ∃ more, H' b = some (.tbl (ps ++ more)))
    (ns : ∀ m, s.heap.Ns X.env.locals m → h'.Ns X.env.locals m) (hok : HOk X.prog X.w H' h') (hg : AllBare g') :
    Inv X pins σ H' { s with heap := h', gens := g', drawn := d', toks := t' } := by
  have neL : ∀ b o, X.s₀.heap.get? b = some o → b ≠ X.env.locals := fun b o e => Nat.ne_of_lt (Nat.lt_of_lt_of_le (Heap.lt_size e) I.ok.above)
  have neC : ∀ b o, X.s₀.heap.get? b = some o → b ∉ X.ex → b ∉ ch := fun b o e hx hb => by
    rcases (hch b hb).1 with z | z
    · exact hx z
    · exact absurd (Nat.lt_of_lt_of_le (Heap.lt_size e) z) (Nat.lt_irrefl _)
  have cellK : ∀ x c, X.env.cells.lookup x = some c → ∀ v, s.heap.IsCell c v → h'.IsCell c v := fun x c e v ⟨o, ho, hd⟩ => by
    have nch : c ∉ ch := fun z => (hch c z).2.2.1 x c e rfl
    by_cases hc : c ∈ X.fs
    · obtain ⟨sl, q⟩ := slot c o (I.cne x c e) hc nch ho (I.freeC x c e)
      exact ⟨_, q, hd⟩
    · exact ⟨o, keep c o (I.cne x c e) hc nch ho (I.freeC x c e), hd⟩
  refine ⟨I.ok, I.os, hg, ⟨fun b o e n hb hx => ?_, fun b o e n hb hx => ?_, fun b o e n hx => ?_, fun b o e hx => ?_, fun b xs e => tups b xs (I.base.tups b xs e), fun b o xs e => frzs b o xs (I.base.frzs b o xs e), fun b ps e => ?_⟩, ?_, fun x c e => ?_, ?_, fun x c e => ?_, fun p hp => ?_, hok, I.len⟩
  · exact keep b o (neL b o e) hb (neC b o e hx) (I.base.keep b o e n hb hx) (I.base.free b o e n hx)
  · obtain ⟨sl, e1⟩ := I.base.slot b o e n hb hx
    obtain ⟨sl', e2⟩ := slot b _ (neL b o e) hb (neC b o e hx) e1 (I.base.free b o e n hx)
    exact ⟨sl', e2⟩
  · obtain ⟨o', e1⟩ := I.base.there b o e hx
    exact free b o' (neC b o e hx) e1 (I.base.free b o e n hx)
  · obtain ⟨o', e1⟩ := I.base.there b o e hx
    exact there b o' (neC b o e hx) e1
  · obtain ⟨m1, e1⟩ := I.base.tbls b ps e
    obtain ⟨m2, e2⟩ := tbls b _ e1
    exact ⟨m1 ++ m2, by rw [e2, Array.append_assoc]⟩
  · obtain ⟨m, hn, hl⟩ := I.loc
    refine ⟨m, ns m hn, fun i x v e1 e2 e3 => ?_⟩
    obtain ⟨u, r, l⟩ := hl i x v e1 e2 e3
    refine ⟨u, r, ?_⟩
    rcases l with l | ⟨k, c, e, z⟩
    · exact .inl l
    · exact .inr ⟨k, c, e, cellK x c e _ z⟩
  · obtain ⟨v, z⟩ := I.cell x c e
    exact ⟨v, cellK x c e v z⟩
  · obtain ⟨m, ⟨o, _, _, ho, _⟩, _⟩ := I.loc
    exact free _ o (fun z => (hch _ z).2.1 rfl) ho I.free
  · obtain ⟨v, o, ho, hd⟩ := I.cell x c e
    exact free c o (fun z => (hch c z).2.2.1 x c e rfl) ho (I.freeC x c e)
  · obtain ⟨e, n, ne, nf, d⟩ := I.pin p hp
    have nch : p.1 ∉ ch := fun z => (hch p.1 z).2.2.2 p hp rfl
    exact ⟨keep p.1 p.2 ne nf nch e n, free p.1 p.2 nch e n, ne, nf, d⟩
/-- .. where the frame's own object is kept too -/
theorem Inv.un {t' : Nat} (I : Inv X pins σ H s) (u : Un X.fs [] H H' s.heap h') (hok : HOk X.prog X.w H' h') : Inv X pins σ H' { s with heap := h', toks := t' } := by
  obtain ⟨m, ⟨o, es, ep, ho, r⟩, _⟩ := id I.loc
  obtain ⟨sl, hL⟩ := u.any ho I.free (by simp)
  exact I.step (g' := s.gens) (d' := s.drawn) (ch := []) (fun _ z => nomatch z) (fun b o _ hb _ e n => u.keep b o e n hb (by simp)) (fun b o _ hb _ e n => u.slot b o e n hb (by simp)) (fun b o _ e n => u.free b o e n (by simp)) (fun b o _ e => u.there b o e (by simp)) u.tups u.frzs u.tbls (fun m' hm => by
    obtain ⟨o', es', ep', ho', r'⟩ := hm
    rw [ho] at ho'; cases ho'
    exact ⟨_, es', ep', hL, r'⟩) hok I.bare
/-- behind a call (or a comprehension's block): the slots of this frame may have changed too, the records at ch may have turned -/
theorem Inv.call {g' : Array GenState} {t' : Nat} {d' : Drawn} {ch : List Addr} (I : Inv X pins σ H s) (u : Un (frs X.stack) ch H H' s.heap h') (hok : HOk X.prog X.w H' h') (hg : AllBare g')
    (hch : ∀ b ∈ ch, (b ∈ X.ex ∨ X.s₀.heap.objs.size ≤ b) ∧ b ≠ X.env.locals ∧ (∀ x c, X.env.cells.lookup x = some c → c ≠ b) ∧ ∀ p ∈ X.pn ++ pins, p.1 ≠ b) :
    Inv X pins σ H' { s with heap := h', gens := g', drawn := d', toks := t' } := by
  obtain ⟨m, ⟨o, es, ep, ho, r⟩, _⟩ := id I.loc
  obtain ⟨sl, hL⟩ := u.any ho I.free fun z => (hch _ z).2.1 rfl
  exact I.step (ch := ch) hch (fun b o hL hb hc e n => u.keep b o e n (fun z => (List.mem_cons.mp (I.stkSub b z)).elim hL hb) hc) (fun b o _ _ hc e n => u.any e n hc) (fun b o hc e n => u.free b o e n hc) (fun b o hc e => u.there b o e hc) u.tups u.frzs u.tbls (fun m' hm => by
    obtain ⟨o', es', ep', ho', r'⟩ := hm
    rw [ho] at ho'; cases ho'
    exact ⟨_, es', ep', hL, r'⟩) hok hg
/-- an untracked record of ours (an iterator) has turned -/
theorem Inv.turned {t' : Nat} {it : Addr} (I : Inv X pins σ H s) (k : ∀ b o, b ≠ it → s.heap.get? b = some o → h'.get? b = some o) (hn : H it = none) (hL : it ≠ X.env.locals)
    (h1 : it ∈ X.ex ∨ X.s₀.heap.objs.size ≤ it) (h2 : ∀ x c, X.env.cells.lookup x = some c → c ≠ it) (h3 : ∀ p ∈ X.pn ++ pins, p.1 ≠ it) : Inv X pins σ H { s with heap := h', toks := t' } := by
  have nit : ∀ b u, H b = some u → b ≠ it := fun b u e z => by rw [z, hn] at e; cases e
  refine I.step (g' := s.gens) (d' := s.drawn) (ch := [it]) (fun b hb => ?_) (fun b o _ _ hc e _ => k b o (fun z => hc (by simp [z])) e) (fun b o _ _ hc e _ => ⟨o.slots, k b o (fun z => hc (by simp [z])) e⟩) (fun _ _ _ _ n => n)
    (fun b o hc e => ⟨o, k b o (fun z => hc (by simp [z])) e⟩) (fun _ _ e => e) (fun _ _ _ e => e) (fun b ps e => ⟨#[], by rw [e]; simp⟩) (fun m hm => ?_) (fun b u e => ?_) I.bare
  · have e : b = it := by simpa using hb
    subst e
    exact ⟨h1, hL, h2, h3⟩
  · obtain ⟨o, es, ep, ho, r⟩ := hm
    exact ⟨o, es, ep, k _ o (Ne.symm hL) ho, r⟩
  · refine (I.hok b u e).stay (fun c v hc q => k c v ?_ q) (fun _ q => q) fun _ _ q => q
    rcases hc with z | z
    · rw [z]; exact nit b u e
    · exact nit c _ z
theorem Inv.tok (I : Inv X pins σ H s) (t : Nat) : Inv X pins σ H { s with toks := t } := I.un (h' := s.heap) (t' := t) Un.refl I.hok
/-- all objects kept -/
theorem Inv.kept {t' : Nat} (I : Inv X pins σ H s) (k : ∀ b u, s.heap.get? b = some u → h'.get? b = some u) : Inv X pins σ H { s with heap := h', toks := t' } := I.un (Un.kept k) (I.hok.kept k)
/-- a new object laid and tracked -/
theorem Inv.laid {a : Addr} {o : HO} {t' : Nat} (I : Inv X pins σ H s) (k : ∀ b u, s.heap.get? b = some u → h'.get? b = some u) (hp : s.heap.objs.size ≤ a) (new : ObjOk X.prog X.w (upd H a o) h' a o) :
    Inv X pins σ (upd H a o) { s with heap := h', toks := t' } := I.un (Un.laid k hp (I.hok.fresh hp)) (I.hok.laid k hp new)
/-- an object written -/
theorem Inv.write {x e : Addr} {o : HO} {t' : Nat} (I : Inv X pins σ H s) (mu : Mut (H x)) (he : e = x ∨ H e = some (.own x)) (k : ∀ b u, b ≠ e → s.heap.get? b = some u → h'.get? b = some u) (heo : ∃ u, h'.get? e = some u)
    (new : ObjOk X.prog X.w (upd H x o) h' x o) : Inv X pins σ (upd H x o) { s with heap := h', toks := t' } := I.un (Un.write mu he k heo) (I.hok.write mu he k heo new)
/-- forgetting slots, pins -/
theorem Inv.weak {σ' : List (Option V)} (I : Inv X pins σ H s) (hl : σ'.length = σ.length) (w : ∀ (i : Nat) v, σ'[i]? = some (some v) → σ[i]? = some (some v)) : Inv X pins σ' H s :=
  ⟨I.ok, I.os, I.bare, I.base, let ⟨m, hn, hl'⟩ := I.loc; ⟨m, hn, fun i x v e1 e2 e3 => hl' i x v e1 (w i v e2) e3⟩, I.cell, I.free, I.freeC, I.pin, I.hok, hl.trans I.len⟩
theorem Inv.pins_of {pins' : List (Addr × Obj)} (I : Inv X pins σ H s) (h : ∀ p ∈ pins', s.heap.get? p.1 = some p.2 ∧ H p.1 = none ∧ p.1 ≠ X.env.locals ∧ p.1 ∉ X.fs ∧ ∀ v, p.2.data ≠ .cell v) : Inv X pins' σ H s :=
  ⟨I.ok, I.os, I.bare, I.base, I.loc, I.cell, I.free, I.freeC, fun p hp => (List.mem_append.mp hp).elim (fun z => I.pin p (List.mem_append_left _ z)) (h p), I.hok, I.len⟩

theorem nodup_ix {N : List Str} (hN : N.Nodup) {i j : Nat} {x : Str} (a : N[i]? = some x) (b : N[j]? = some x) : i = j := by
  obtain ⟨h1, e1⟩ := List.getElem?_eq_some_iff.mp a
  obtain ⟨h2, e2⟩ := List.getElem?_eq_some_iff.mp b
  exact (List.getElem_inj hN).mp (e1.trans e2.symm)

/-- a name is stored; what changed -/
theorem store_ok2 {M : Model} {A : Around} {E : Value → Shared → Prop} {i : Nat} {x : Str} {v : V} {u : Value} {Q : Unit → Shared → Prop} (I : Inv X pins σ H s) (hN : X.N.Nodup) (hi : X.N[i]? = some x) (hx : Loc X.env.scope x) (r : RelV v u)
    (h : ∀ s', Inv X pins (σ.set i (some v)) H s' → (∃ a, Heap.SameBut a s.heap s'.heap ∧ (a = X.env.locals ∨ X.env.cells.lookup x = some a)) → Q () s') (hf : X.fn x = true ∨ X.env.scope.names.lookup x = some .local := by first | exact .inl rfl | exact .inr rfl | assumption) : wpAny M A (storeName X.env x u) Q E s := by
  obtain ⟨m, hn, hl⟩ := id I.loc
  have hcls : (X.env.scope.kind == .class || (X.env.scope.kind == .module && X.env.locals != X.env.globals)) = false := by rw [I.ok.kind]; rfl
  have hiσ : i < σ.length := by rw [I.len]; exact (List.getElem?_eq_some_iff.mp hi).1
  have cne := I.cne
  have tracked : ∀ {a : Addr} {h' : Heap}, (∃ o, s.heap.get? a = some o ∧ H a = none) → Heap.SameBut a s.heap h' → HOk X.prog X.w H h' := fun {a h'} ha hs b ob e => by
    obtain ⟨_, _, hfree⟩ := ha
    refine (I.hok b ob e).stay (fun c w' hc q => (hs.2 c ?_).trans q) (fun _ q => q) fun _ _ q => q
    rintro rfl
    rcases hc with rfl | hc
    · rw [hfree] at e; cases e
    · rw [hfree] at hc; cases hc
  rcases hx with hk | hk
  · refine wpAny_storeName_local hk hn (fun h' hn' hs => ?_) hcls
    obtain ⟨oL, _, _, hoL, _⟩ := id hn
    refine h _ ⟨I.ok, I.os, I.bare, ⟨fun b o e n hb hx => ?_, fun b o e n hb hx => ?_, I.base.free, fun b o e hx => ?_, I.base.tups, I.base.frzs, I.base.tbls⟩, ⟨_, hn', fun j y v' e1 e2 e3 => ?_⟩, fun y c e => ?_, I.free, I.freeC, fun p hp => ?_, tracked ⟨oL, hoL, I.free⟩ hs, by simpa using I.len⟩ ⟨_, hs, .inl rfl⟩
    · exact (hs.2 b (Nat.ne_of_lt (Nat.lt_of_lt_of_le (Heap.lt_size e) I.ok.above))).trans (I.base.keep b o e n hb hx)
    · obtain ⟨sl, e1⟩ := I.base.slot b o e n hb hx
      exact ⟨sl, (hs.2 b (Nat.ne_of_lt (Nat.lt_of_lt_of_le (Heap.lt_size e) I.ok.above))).trans e1⟩
    · obtain ⟨o', e1⟩ := I.base.there b o e hx
      exact ⟨o', (hs.2 b (Nat.ne_of_lt (Nat.lt_of_lt_of_le (Heap.lt_size e) I.ok.above))).trans e1⟩
    · by_cases hj : j = i
      · subst hj
        rw [hi] at e1; cases e1
        rw [List.getElem?_set_self hiσ] at e2
        cases e2
        exact ⟨u, r, .inl ⟨hk, by simp⟩⟩
      · rw [List.getElem?_set_ne (Ne.symm hj)] at e2
        obtain ⟨u', r', q⟩ := hl j y v' e1 e2 e3
        refine ⟨u', r', ?_⟩
        rcases q with ⟨k, e⟩ | ⟨k, c, e, z⟩
        · refine .inl ⟨k, ?_⟩
          have : y ≠ x := fun e => hj (nodup_ix hN e1 (e ▸ hi))
          simp [this, e]
        · exact .inr ⟨k, c, e, z.sameBut hs (cne y c e)⟩
    · obtain ⟨w', z⟩ := I.cell y c e
      exact ⟨w', z.sameBut hs (cne y c e)⟩
    · obtain ⟨e, n, ne, nf, d⟩ := I.pin p hp
      exact ⟨(hs.2 p.1 ne).trans e, n, ne, nf, d⟩
  · have hfn : X.fn x = true := by
      rcases hf with z | z
      · exact z
      · rw [z] at hk; cases hk
    obtain ⟨c, hc⟩ := I.ok.has x (.inl hk)
    obtain ⟨w', z⟩ := I.cell x c hc
    refine wpAny_storeName_cell I.ok.kind hk hc z (fun h' hc' hs => ?_)
    obtain ⟨oc, hoc, hocd⟩ := id z
    refine h { s with heap := h' } ⟨I.ok, I.os, I.bare, ⟨fun b o e n hb hx => ?_, fun b o e n hb hx => ?_, I.base.free, fun b o e hx => ?_, I.base.tups, I.base.frzs, I.base.tbls⟩, ⟨m, hn.sameBut hs (Ne.symm (cne x c hc)), fun j y v' e1 e2 e3 => ?_⟩, fun y c' e => ?_, I.free, I.freeC, fun p hp => ?_, tracked ⟨oc, hoc, I.freeC x c hc⟩ hs, by simpa using I.len⟩ ⟨c, hs, .inr hc⟩
    · exact (hs.2 b (Nat.ne_of_lt (Nat.lt_of_lt_of_le (Heap.lt_size e) (I.ok.cab x c hfn hc)))).trans (I.base.keep b o e n hb hx)
    · obtain ⟨sl, e1⟩ := I.base.slot b o e n hb hx
      exact ⟨sl, (hs.2 b (Nat.ne_of_lt (Nat.lt_of_lt_of_le (Heap.lt_size e) (I.ok.cab x c hfn hc)))).trans e1⟩
    · obtain ⟨o', e1⟩ := I.base.there b o e hx
      exact ⟨o', (hs.2 b (Nat.ne_of_lt (Nat.lt_of_lt_of_le (Heap.lt_size e) (I.ok.cab x c hfn hc)))).trans e1⟩
    · by_cases hj : j = i
      · subst hj
        rw [hi] at e1; cases e1
        rw [List.getElem?_set_self hiσ] at e2
        cases e2
        exact ⟨u, r, .inr ⟨.inl hk, c, hc, hc'⟩⟩
      · rw [List.getElem?_set_ne (Ne.symm hj)] at e2
        obtain ⟨u', r', q⟩ := hl j y v' e1 e2 e3
        refine ⟨u', r', ?_⟩
        rcases q with q | ⟨k, c', e, z'⟩
        · exact .inl q
        · refine .inr ⟨k, c', e, z'.sameBut hs ?_⟩
          rintro rfl
          exact hj (nodup_ix hN e1 (I.ok.inj _ _ _ e hc ▸ hi))
    · by_cases hcc : c' = c
      · subst hcc; exact ⟨_, hc'⟩
      · obtain ⟨w2, z2⟩ := I.cell y c' e
        exact ⟨w2, z2.sameBut hs hcc⟩
    · obtain ⟨e, n, ne, nf, d⟩ := I.pin p hp
      refine ⟨(hs.2 p.1 ?_).trans e, n, ne, nf, d⟩
      intro q
      rw [q, hoc] at e
      have q' : oc = p.2 := Option.some.inj e
      exact d w' (by rw [← q']; exact hocd)
theorem store_ok {M : Model} {A : Around} {E : Value → Shared → Prop} {i : Nat} {x : Str} {v : V} {u : Value} {Q : Unit → Shared → Prop} (I : Inv X pins σ H s) (hN : X.N.Nodup) (hi : X.N[i]? = some x) (hx : Loc X.env.scope x) (r : RelV v u)
    (h : ∀ s', Inv X pins (σ.set i (some v)) H s' → Q () s') (hf : X.fn x = true ∨ X.env.scope.names.lookup x = some .local := by first | exact .inl rfl | exact .inr rfl | assumption) : wpAny M A (storeName X.env x u) Q E s :=
  store_ok2 I hN hi hx r (fun s' I' _ => h s' I') hf
/-- behind a call or a block, the state as it is -/
theorem Inv.call' {s' : Shared} {ch : List Addr} (I : Inv X pins σ H s) (ho : s'.os = s.os) (u : Un (frs X.stack) ch H H' s.heap s'.heap) (hok : HOk X.prog X.w H' s'.heap) (hg : AllBare s'.gens)
    (hch : ∀ b ∈ ch, (b ∈ X.ex ∨ X.s₀.heap.objs.size ≤ b) ∧ b ≠ X.env.locals ∧ (∀ x c, X.env.cells.lookup x = some c → c ≠ b) ∧ ∀ p ∈ X.pn ++ pins, p.1 ≠ b) : Inv X pins σ H' s' := by
  obtain ⟨h', g', d', t', o'⟩ := s'
  have e : o' = s.os := ho
  subst e
  exact I.call (g' := g') (t' := t') (d' := d') u hok hg hch
end

/-! ### the judgements -/
/-- an exception: its class, its own dict's address (where it has one), the abstract heap behind it -/
abbrev XK := Value → Option Addr → Hp → Prop
abbrev St := List (Option V)
abbrev VK := V → Hp → Prop
/-- an expression's reading; a test's; an argument list's -/
abbrev TE := St → Hp → VK → Prop
abbrev TT := St → Hp → (Bool → Hp → Prop) → Prop
abbrev TA := St → Hp → (List V → Hp → Prop) → Prop
/-- what is wanted behind a statement -/
structure Ends where
  nx : St → Hp → Prop
  rt : VK
  bk : St → Hp → Prop := fun _ _ => False
  ct : St → Hp → Prop := fun _ _ => False
abbrev TS := Ends → St → Hp → Prop

def EP (X : Cx) (pins : List (Addr × Obj)) (σ : St) (Q : VK) (u : Value) (s' : Shared) : Prop := ∃ v H', Inv X pins σ H' s' ∧ RelV v u ∧ Q v H'
def TP (X : Cx) (pins : List (Addr × Obj)) (σ : St) (Q : Bool → Hp → Prop) (b : Bool) (s' : Shared) : Prop := ∃ H', Inv X pins σ H' s' ∧ Q b H'
def AP (X : Cx) (pins : List (Addr × Obj)) (σ : St) (Q : List V → Hp → Prop) (us : List Value) (s' : Shared) : Prop := ∃ vs H', Inv X pins σ H' s' ∧ Vals vs us ∧ Q vs H'
def SP (X : Cx) (pins : List (Addr × Obj)) (D : Ends) (f : Flow) (s' : Shared) : Prop :=
  match f with
  | .next => ∃ σ' H', Inv X pins σ' H' s' ∧ D.nx σ' H'
  | .brk => ∃ σ' H', Inv X pins σ' H' s' ∧ D.bk σ' H'
  | .cont => ∃ σ' H', Inv X pins σ' H' s' ∧ D.ct σ' H'
  | .ret u => ∃ v σ' H', Inv X pins σ' H' s' ∧ RelV v u ∧ D.rt v H'

def PE (X : Cx) (e : Expr) (t : TE) : Prop :=
  ∀ (pins : List (Addr × Obj)) (s : Shared) (σ : St) (H : Hp) (Q : VK), Inv X pins σ H s → t σ H Q → wpAny (model X.prog X.w) X.A (eval e X.env) (EP X pins σ Q) X.xe s
def PT (X : Cx) (e : Expr) (t : TT) : Prop :=
  ∀ (pins : List (Addr × Obj)) (s : Shared) (σ : St) (H : Hp) (Q : Bool → Hp → Prop), Inv X pins σ H s → t σ H Q → wpAny (model X.prog X.w) X.A (isTrue e X.env (eval e X.env)) (TP X pins σ Q) X.xe s
/-- a test whatever its 'whole' is (and, or) -/
def PW (X : Cx) (e : Expr) (t : TT) : Prop :=
  ∀ (whole : Sem Value) (pins : List (Addr × Obj)) (s : Shared) (σ : St) (H : Hp) (Q : Bool → Hp → Prop), Inv X pins σ H s → t σ H Q → wpAny (model X.prog X.w) X.A (isTrue e X.env whole) (TP X pins σ Q) X.xe s
theorem PW.pt {X : Cx} {e : Expr} {t : TT} (h : PW X e t) : PT X e t := h _
/-- an argument list (no star), from the left -/
def PA (X : Cx) (es : List Expr) (t : TA) : Prop :=
  ∀ (pos : Pos) (pins : List (Addr × Obj)) (s : Shared) (σ : St) (H : Hp) (Q : List V → Hp → Prop), Inv X pins σ H s → t σ H Q → wpAny (model X.prog X.w) X.A (spliced (backTo pos (starEach es X.env))) (AP X pins σ Q) X.xe s
def PS (X : Cx) (st : Stmt) (t : TS) : Prop :=
  ∀ (pins : List (Addr × Obj)) (s : Shared) (σ : St) (H : Hp) (D : Ends), Inv X pins σ H s → t D σ H → wpAny (model X.prog X.w) X.A (exec st X.env) (SP X pins D) X.xe s
def PSs (X : Cx) (st : List Stmt) (t : TS) : Prop :=
  ∀ (pins : List (Addr × Obj)) (s : Shared) (σ : St) (H : Hp) (D : Ends), Inv X pins σ H s → t D σ H → wpAny (model X.prog X.w) X.A (execs st X.env) (SP X pins D) X.xe s
/-- weaken the end -/
theorem thn {α : Type} {t : Sem α} {Q Q' : α → Shared → Prop} {M : Model} {A : Around} {E : Value → Shared → Prop} {s : Shared} (h : wpAny M A t Q E s) (hQ : ∀ a s, Q a s → Q' a s) : wpAny M A t Q' E s := wpAny_mono h hQ fun _ _ x => x
end L2

namespace L2
open PySem PySem.Spec PyProof.Rows
section
variable {X : Cx}

/-- two expressions in a row -/
theorem bin {a b : Expr} {ta tb : TE} (ha : PE X a ta) (hb : PE X b tb) {pins : List (Addr × Obj)} {s : Shared} {σ : St} {H : Hp} {R : V → V → Hp → Prop} (I : Inv X pins σ H s) (h : ta σ H fun x H1 => tb σ H1 fun y H2 => R x y H2)
    {α : Type} {Q : α → Shared → Prop} {f : Value → Value → Sem α}
    (hf : ∀ v u s2 x y H2, Inv X pins σ H2 s2 → RelV x v → RelV y u → R x y H2 → wpAny (model X.prog X.w) X.A (f v u) Q X.xe s2) :
    wpAny (model X.prog X.w) X.A (eval a X.env) (fun v s₁ => wpAny (model X.prog X.w) X.A (eval b X.env) (fun u s₂ => wpAny (model X.prog X.w) X.A (f v u) Q X.xe s₂) X.xe s₁) X.xe s := by
  refine thn (ha pins s σ H _ I h) fun v s1 ⟨x, H1, I1, r1, q1⟩ => ?_
  refine thn (hb pins s1 σ H1 _ I1 q1) fun u s2 ⟨y, H2, I2, r2, q2⟩ => ?_
  exact hf v u s2 x y H2 I2 r1 r2 q2

/-! ### names and constants -/
def tVar (i : Nat) : TE := fun σ H Q => ∃ v, σ[i]? = some (some v) ∧ Q v H
def tC (v : V) : TE := fun _ H Q => Q v H
theorem pe_var {i : Nat} {x : Str} {pos : Pos} (hN : X.N[i]? = some x) (hv : Vis X.env.scope x) (hd : (x == ("__debug__" : Str)) = false := by decide) (hcd : (x == ("__classdict__" : Str)) = false := by decide) : PE X (.Name x pos) (tVar i) := by
  intro pins s σ H Q I h
  obtain ⟨v, e, h⟩ := h
  obtain ⟨m, hn, hl⟩ := I.loc
  obtain ⟨u, r, l⟩ := hl i x v hN e hv
  have fin : EP X pins σ Q u s := ⟨v, H, I, r, h⟩
  rcases l with ⟨hk, hm⟩ | ⟨hk, c, hc, hcell⟩
  · exact wpAny_Name (wpAny_loadName_local I.ok.kind hk hn hm fin) hd
  · rcases hk with hk | hk
    · exact wpAny_Name (wpAny_loadName_cell I.ok.kind hk hc hcell fin) hd
    · exact wpAny_Name (wpAny_loadName_free I.ok.kind hk hc hcell fin hcd) hd
theorem pe_int {i j pos} : PE X (.Constant (.int i) j pos) (tC (.int i)) := fun _ _ _ H _ I h => wpAny_Constant_int ⟨.int i, H, I.tok _, ⟨_, rfl⟩, h⟩
theorem pe_bl {b j pos} : PE X (.Constant (.bool b) j pos) (tC (.bl b)) := fun _ _ _ H _ I h => Constant_bool ⟨.bl b, H, I, rfl, h⟩
theorem pe_non {j pos} : PE X (.Constant .none j pos) (tC .non) := fun _ _ _ H _ I h => Constant_none ⟨.non, H, I, rfl, h⟩
theorem pe_str {x j pos} : PE X (.Constant (.str x) j pos) (tC (.str x)) := fun _ _ _ H _ I h => Calls.Constant_str ⟨.str x, H, I.tok _, ⟨_, rfl⟩, h⟩

/-- a global name of the def -/
def Gl (X : Cx) (x : Str) : Prop := X.env.kindOf x = some .globalImplicit
theorem ld_glob {E : Value → Shared → Prop} {pins : List (Addr × Obj)} {s : Shared} {σ : St} {H : Hp} {x : Str} {u : Value} {pos : Pos} {Q : Value → Shared → Prop} (I : Inv X pins σ H s) (hg : Gl X x) (hm : X.mg x = some u) (h : Q u s)
    (hd : (x == ("__debug__" : Str)) = false := by decide) : wpAny (model X.prog X.w) X.A (eval (.Name x pos) X.env) Q E s :=
  Calls.Name_function_global I.ok.kind hg (Calls.loadGlobal_global (by rw [I.ok.glob]; exact I.mod.glob.keeps I.bk) hm h) hd
theorem ld_blt {E : Value → Shared → Prop} {pins : List (Addr × Obj)} {s : Shared} {σ : St} {H : Hp} {x : Str} {u : Value} {pos : Pos} {Q : Value → Shared → Prop} (I : Inv X pins σ H s) (hg : Gl X x) (hm : X.mg x = none) (hv : bootBuiltins x = some u) (h : Q u s)
    (hn : x ≠ "__name__" := by decide) (hd : (x == ("__debug__" : Str)) = false := by decide) : wpAny (model X.prog X.w) X.A (eval (.Name x pos) X.env) Q E s := by
  obtain ⟨mb, h1, h2⟩ := I.mod.blt
  exact Calls.Name_function_global I.ok.kind hg (Calls.loadGlobal_builtin (by rw [I.ok.glob]; exact I.mod.glob.keeps I.bk) hm (by rw [I.ok.blt]; exact h1.keeps I.bk) ((h2 x hn).trans hv) h) hd
/-- a module's constant, a class, a function, as a value -/
theorem pe_glob {x : Str} {v : V} {u : Value} {pos : Pos} (hg : Gl X x) (hm : X.mg x = some u) (r : RelV v u) (hd : (x == ("__debug__" : Str)) = false := by decide) : PE X (.Name x pos) (tC v) :=
  fun _ _ _ H _ I h => ld_glob I hg hm ⟨v, H, I, r, h⟩ hd
theorem pe_bltn {x : Str} {v : V} {u : Value} {pos : Pos} (hg : Gl X x) (hm : X.mg x = none) (hv : bootBuiltins x = some u) (r : RelV v u) (hn : x ≠ "__name__" := by decide) (hd : (x == ("__debug__" : Str)) = false := by decide) : PE X (.Name x pos) (tC v) :=
  fun _ _ _ H _ I h => ld_blt I hg hm hv ⟨v, H, I, r, h⟩ hn hd

/-! ### arithmetic -/
/-- two ints -/
def t2I (ta tb : TE) (k : Int → Int → Hp → Prop) : St → Hp → Prop := fun σ H => ta σ H fun x H1 => tb σ H1 fun y H2 => ∃ i j, x = .int i ∧ y = .int j ∧ k i j H2
def tAdd (ta tb : TE) : TE := fun σ H Q => t2I ta tb (fun i j H2 => Q (.int (i + j)) H2) σ H
def tSub (ta tb : TE) : TE := fun σ H Q => t2I ta tb (fun i j H2 => Q (.int (i - j)) H2) σ H
/-- the left factor below 2^64 -/
def tMul (ta tb : TE) : TE := fun σ H Q => t2I ta tb (fun i j H2 => (-(2 ^ 64) < i ∧ i < 2 ^ 64) ∧ Q (.int (i * j)) H2) σ H
variable {a b : Expr} {ta tb : TE} {pos : Pos}
theorem pe_add (ha : PE X a ta) (hb : PE X b tb) : PE X (.BinOp a .Add b pos) (tAdd ta tb) := by
  intro pins s σ H Q I h
  refine wpAny_BinOp (bin ha hb I h fun v u s2 x y H2 I2 rx ry q => ?_)
  obtain ⟨i, j, rfl, rfl, q⟩ := q
  obtain ⟨t, rfl⟩ := rx
  obtain ⟨t', rfl⟩ := ry
  exact add_int ⟨.int _, H2, I2.tok _, ⟨_, rfl⟩, q⟩
theorem pe_sub (ha : PE X a ta) (hb : PE X b tb) : PE X (.BinOp a .Sub b pos) (tSub ta tb) := by
  intro pins s σ H Q I h
  refine wpAny_BinOp (bin ha hb I h fun v u s2 x y H2 I2 rx ry q => ?_)
  obtain ⟨i, j, rfl, rfl, q⟩ := q
  obtain ⟨t, rfl⟩ := rx
  obtain ⟨t', rfl⟩ := ry
  exact sub_int ⟨.int _, H2, I2.tok _, ⟨_, rfl⟩, q⟩
theorem pe_mul (ha : PE X a ta) (hb : PE X b tb) : PE X (.BinOp a .Mult b pos) (tMul ta tb) := by
  intro pins s σ H Q I h
  refine wpAny_BinOp (bin ha hb I h fun v u s2 x y H2 I2 rx ry q => ?_)
  obtain ⟨i, j, rfl, rfl, ⟨q1, q2⟩, q⟩ := q
  obtain ⟨t, rfl⟩ := rx
  obtain ⟨t', rfl⟩ := ry
  exact mul_int ⟨.int _, H2, I2.tok _, ⟨_, rfl⟩, q⟩ (.of_left (intBits_le_64 q1 q2))

/-! ### comparisons -/
def PC (X : Cx) (op : CmpOp) (a b : Expr) (t : TE) : Prop :=
  ∀ (pins : List (Addr × Obj)) (s : Shared) (σ : St) (H : Hp) (Q : VK), Inv X pins σ H s → t σ H Q →
    wpAny (model X.prog X.w) X.A (eval a X.env) (fun v s₁ => wpAny (model X.prog X.w) X.A (eval b X.env) (fun u s₂ => wpAny (model X.prog X.w) X.A (compareOp op v u) (EP X pins σ Q) X.xe s₂) X.xe s₁) X.xe s
theorem nobehind (b : Expr) {op : CmpOp} (h : op ≠ .In) (h2 : op ≠ .NotIn) : behindInMarks op b = false := by
  have e1 : (op == CmpOp.In) = false := by cases op <;> first | rfl | exact absurd rfl h
  have e2 : (op == CmpOp.NotIn) = false := by cases op <;> first | rfl | exact absurd rfl h2
  cases b <;> simp [behindInMarks, e1, e2]
def tCmp (p : Int → Int → Bool) (ta tb : TE) : TE := fun σ H Q => t2I ta tb (fun i j H2 => Q (.bl (p i j)) H2) σ H
abbrev tLt : TE → TE → TE := tCmp fun i j => decide (i < j)
abbrev tLe : TE → TE → TE := tCmp fun i j => decide (i ≤ j)
abbrev tGt : TE → TE → TE := tCmp fun i j => decide (j < i)
abbrev tGe : TE → TE → TE := tCmp fun i j => decide (j ≤ i)
abbrev tEqI : TE → TE → TE := tCmp fun i j => decide (i = j)
abbrev tNeI : TE → TE → TE := tCmp fun i j => !decide (i = j)
/-- a comparison of two ints, by its rule -/
theorem pc_int {op : CmpOp} {p : Int → Int → Bool} (ha : PE X a ta) (hb : PE X b tb)
    (rule : ∀ (i j : Int) (t u : Tok) (Q : Value → Shared → Prop) (s : Shared), Q (.bool (p i j)) s → wpAny (model X.prog X.w) X.A (compareOp op (.int i t) (.int j u)) Q X.xe s) : PC X op a b (tCmp p ta tb) := by
  intro pins s σ H Q I h
  refine bin ha hb I h fun v u s2 x y H2 I2 rx ry q => ?_
  obtain ⟨i, j, rfl, rfl, q⟩ := q
  obtain ⟨t, rfl⟩ := rx
  obtain ⟨t', rfl⟩ := ry
  exact rule i j t t' _ s2 ⟨.bl _, H2, I2, rfl, q⟩
theorem pc_lt (ha : PE X a ta) (hb : PE X b tb) : PC X .Lt a b (tLt ta tb) := pc_int ha hb fun _ _ _ _ _ _ h => lt_int h
theorem pc_le (ha : PE X a ta) (hb : PE X b tb) : PC X .LtE a b (tLe ta tb) := pc_int ha hb fun _ _ _ _ _ _ h => le_int h
theorem pc_gt (ha : PE X a ta) (hb : PE X b tb) : PC X .Gt a b (tGt ta tb) := pc_int ha hb fun _ _ _ _ _ _ h => gt_int h
theorem pc_ge (ha : PE X a ta) (hb : PE X b tb) : PC X .GtE a b (tGe ta tb) := pc_int ha hb fun _ _ _ _ _ _ h => ge_int h
theorem pc_eqI (ha : PE X a ta) (hb : PE X b tb) : PC X .Eq a b (tEqI ta tb) := pc_int ha hb fun _ _ _ _ _ _ h => eq_int (by rw [Bool.beq_eq_decide_eq]; exact h)
theorem pc_neI (ha : PE X a ta) (hb : PE X b tb) : PC X .NotEq a b (tNeI ta tb) := pc_int ha hb fun _ _ _ _ _ _ h => ne_int (by rw [bne, Bool.beq_eq_decide_eq]; exact h)
/-- is None -/
def tIsN (ta : TE) : TE := fun σ H Q => ta σ H fun x H1 => Q (.bl (decide (x = .non))) H1
def tNotN (ta : TE) : TE := fun σ H Q => ta σ H fun x H1 => Q (.bl (!decide (x = .non))) H1
theorem RelV.none_iff {x : V} {v : Value} (r : RelV x v) : (v == Value.none) = decide (x = .non) := by
  cases x with
  | non => cases r; rfl
  | bl _ => cases r; rfl
  | int _ => obtain ⟨t, rfl⟩ := r; rfl
  | str _ => obtain ⟨t, rfl⟩ := r; rfl
  | byt _ => obtain ⟨t, rfl⟩ := r; rfl
  | flt _ => obtain ⟨t, rfl⟩ := r; rfl
  | ref _ => cases r; rfl
  | ty _ => cases r; rfl
theorem pc_isN {j pos'} (ha : PE X a ta) : PC X .Is a (.Constant .none j pos') (tIsN ta) := by
  intro pins s σ H Q I h
  refine thn (ha pins s σ H _ I h) fun v s1 ⟨x, H1, I1, r1, q1⟩ => ?_
  exact Constant_none (is_none_gen ⟨.bl _, H1, I1, by rw [r1.none_iff]; rfl, q1⟩)
theorem pc_notN {j pos'} (ha : PE X a ta) : PC X .IsNot a (.Constant .none j pos') (tNotN ta) := by
  intro pins s σ H Q I h
  refine thn (ha pins s σ H _ I h) fun v s1 ⟨x, H1, I1, r1, q1⟩ => ?_
  exact Constant_none (isnot_none_gen ⟨.bl _, H1, I1, by rw [r1.none_iff]; rfl, q1⟩)
/-- a comparison as a value, as a test -/
def tB (t : TE) : TT := fun σ H Q => t σ H fun x H1 => ∃ c, x = .bl c ∧ Q c H1
theorem pe_cmp {op : CmpOp} {t : TE} (h : PC X op a b t) (h1 : behindInMarks op b = false := by first | exact nobehind _ (by decide) (by decide) | rfl) : PE X (.Compare a [op] [b] pos) t := fun pins s σ H Q I hw => wpAny_Compare1 (h pins s σ H Q I hw) h1
theorem pt_cmp {op : CmpOp} {t : TE} (h : PC X op a b t) (h1 : behindInMarks op b = false := by first | exact nobehind _ (by decide) (by decide) | rfl) : PT X (.Compare a [op] [b] pos) (tB t) := by
  intro pins s σ H Q I hw
  refine wpAny_isTrue_Compare1 (thn (h pins s σ H _ I hw) fun v s1 h1 => thn h1 fun u s2 h2 => thn h2 fun c s3 ⟨x, H1, I1, r1, q1⟩ => ?_) h1
  obtain ⟨d, rfl, q⟩ := q1
  cases r1
  exact wpAny_truthy_bool ⟨H1, I1, q⟩
/-- an expression whose value is a bool, as a test -/
theorem pt_val {e : Expr} {t : TE} (h : PE X e t) (he : ∀ whole, isTrue e X.env whole = (do let v ← whole; standAt e.pos; holding [v] (truthy v)) := by intro _; rfl) : PT X e (tB t) := by
  intro pins s σ H Q I hw
  refine isTrue_plain (thn (h pins s σ H _ I hw) fun v s1 ⟨x, H1, I1, r1, q1⟩ => ?_) (he _)
  obtain ⟨d, rfl, q⟩ := q1
  cases r1
  exact wpAny_truthy_bool ⟨H1, I1, q⟩

/-! ### and, or, not -/
variable {tA tB' : TT} {rest : List Expr}
def tAnd (t u : TT) : TT := fun σ H Q => t σ H fun c H1 => if c = true then u σ H1 Q else Q false H1
def tOr (t u : TT) : TT := fun σ H Q => t σ H fun c H1 => if c = true then Q true H1 else u σ H1 Q
def tNot (t : TT) : TT := fun σ H Q => t σ H fun c H1 => Q (!c) H1
theorem pw_and1 (ha : PT X a tA) : PW X (.BoolOp .And [a] pos) tA := by
  intro wh pins s σ H Q I h
  refine isTrue_and (thn (ha pins s σ H Q I h) fun c s1 e => ?_)
  cases c with
  | true => exact isTrue_and_nil e
  | false => exact e
theorem pw_or1 (ha : PT X a tA) : PW X (.BoolOp .Or [a] pos) tA := by
  intro wh pins s σ H Q I h
  refine isTrue_or (thn (ha pins s σ H Q I h) fun c s1 e => ?_)
  cases c with
  | false => exact isTrue_or_nil e
  | true => exact e
theorem pw_and (ha : PT X a tA) (hb : PW X (.BoolOp .And (b :: rest) pos) tB') : PW X (.BoolOp .And (a :: b :: rest) pos) (tAnd tA tB') := by
  intro wh pins s σ H Q I h
  refine isTrue_and (thn (ha pins s σ H _ I h) fun c s1 ⟨H1, I1, q1⟩ => ?_)
  cases c with
  | true => exact hb wh pins s1 σ H1 Q I1 q1
  | false => exact ⟨H1, I1, q1⟩
theorem pw_or (ha : PT X a tA) (hb : PW X (.BoolOp .Or (b :: rest) pos) tB') : PW X (.BoolOp .Or (a :: b :: rest) pos) (tOr tA tB') := by
  intro wh pins s σ H Q I h
  refine isTrue_or (thn (ha pins s σ H _ I h) fun c s1 ⟨H1, I1, q1⟩ => ?_)
  cases c with
  | true => exact ⟨H1, I1, q1⟩
  | false => exact hb wh pins s1 σ H1 Q I1 q1
theorem pt_not (ha : PT X a tA) : PT X (.UnaryOp .Not a pos) (tNot tA) := by
  intro pins s σ H Q I h
  exact isTrue_not (ha pins s σ H (fun c H1 => Q (!c) H1) I h)
/-- .. as values (bools) -/
def tAndV (ta tb : TE) : TE := fun σ H Q => ta σ H fun x H1 => ∃ c, x = .bl c ∧ if c = true then tb σ H1 Q else Q (.bl false) H1
def tOrV (ta tb : TE) : TE := fun σ H Q => ta σ H fun x H1 => ∃ c, x = .bl c ∧ if c = true then Q (.bl true) H1 else tb σ H1 Q
def tNotV (ta : TE) : TE := fun σ H Q => ta σ H fun x H1 => ∃ c, x = .bl c ∧ Q (.bl (!c)) H1
theorem pe_one {op} {t : TE} (h : PE X a t) : PE X (.BoolOp op [a] pos) t := fun pins s σ H Q I hw => BoolOp_one (h pins s σ H Q I hw)
theorem pe_and (ha : PE X a ta) (hb : PE X (.BoolOp .And (b :: rest) pos) tb) : PE X (.BoolOp .And (a :: b :: rest) pos) (tAndV ta tb) := by
  intro pins s σ H Q I h
  refine BoolOp_and (thn (ha pins s σ H _ I h) fun v s1 ⟨x, H1, I1, r1, q1⟩ => ?_)
  obtain ⟨c, rfl, q1⟩ := q1
  cases r1
  refine wpAny_truthy_bool ?_
  cases c with
  | true => exact hb pins s1 σ H1 Q I1 q1
  | false => exact ⟨.bl false, H1, I1, rfl, q1⟩
theorem pe_or (ha : PE X a ta) (hb : PE X (.BoolOp .Or (b :: rest) pos) tb) : PE X (.BoolOp .Or (a :: b :: rest) pos) (tOrV ta tb) := by
  intro pins s σ H Q I h
  refine BoolOp_or (thn (ha pins s σ H _ I h) fun v s1 ⟨x, H1, I1, r1, q1⟩ => ?_)
  obtain ⟨c, rfl, q1⟩ := q1
  cases r1
  refine wpAny_truthy_bool ?_
  cases c with
  | false => exact hb pins s1 σ H1 Q I1 q1
  | true => exact ⟨.bl true, H1, I1, rfl, q1⟩
theorem pe_not (ha : PE X a ta) : PE X (.UnaryOp .Not a pos) (tNotV ta) := by
  intro pins s σ H Q I h
  refine UnaryOp_ (thn (ha pins s σ H _ I h) fun v s1 ⟨x, H1, I1, r1, q1⟩ => ?_)
  obtain ⟨c, rfl, q1⟩ := q1
  cases r1
  exact not_of (wpAny_truthy_bool ⟨.bl (!c), H1, I1, rfl, q1⟩)
/-- a if t else b -/
def tIf (t : TT) (ta tb : TE) : TE := fun σ H Q => t σ H fun c H1 => if c = true then ta σ H1 Q else tb σ H1 Q
theorem pe_ifExp {c : Expr} (hc : PT X c tA) (ha : PE X a ta) (hb : PE X b tb) : PE X (.IfExp c a b pos) (tIf tA ta tb) := by
  intro pins s σ H Q I h
  refine wpAny_IfExp (thn (hc pins s σ H _ I h) fun d s1 ⟨H1, I1, q1⟩ => ?_)
  cases d with
  | true => exact ha pins s1 σ H1 Q I1 q1
  | false => exact hb pins s1 σ H1 Q I1 q1
end
end L2

namespace L2
open PySem PySem.Spec PyProof.Rows

/-! ### a list, a tuple that is read: tracked, frozen, or an object of the module -/
def SqL (K : PySem.W.Frag) (H : Hp) (a : Addr) (xs : List V) : Prop :=
  Rd H a (.lst xs) ∨
    ∃ (o : Obj) (its : Array Value) (n : Nat), K.lookup a = some o ∧ o.cls = .type "list" ∧ o.dict = none ∧ o.data = .seq its n ∧ its.size ≤ sizeLine ∧ Vals xs its.toList
def SqT (K : PySem.W.Frag) (H : Hp) (a : Addr) (xs : List V) : Prop :=
  Rd H a (.tup xs) ∨
    ∃ (o : Obj) (its : Array Value) (n : Nat), K.lookup a = some o ∧ o.cls = .type "tuple" ∧ o.data = .seq its n ∧ its.size ≤ sizeLine ∧ Vals xs its.toList
def absV : Value → Option V
  | .none => some .non
  | .bool b => some (.bl b)
  | .int i _ => some (.int i)
  | .str x _ => some (.str x)
  | .bytes b _ => some (.byt b)
  | .float b _ => some (.flt b)
  | .ref a => some (.ref a)
  | .type n => some (.ty n)
  | _ => none
theorem RelV.abs {x : V} {u : Value} (r : RelV x u) : absV u = some x := by
  cases x with
  | non => cases r; rfl
  | bl _ => cases r; rfl
  | int _ => obtain ⟨t, rfl⟩ := r; rfl
  | str _ => obtain ⟨t, rfl⟩ := r; rfl
  | byt _ => obtain ⟨t, rfl⟩ := r; rfl
  | flt _ => obtain ⟨t, rfl⟩ := r; rfl
  | ref _ => cases r; rfl
  | ty _ => cases r; rfl
theorem RelV.inj {x y : V} {u : Value} (r : RelV x u) (q : RelV y u) : x = y := Option.some.inj (r.abs.symm.trans q.abs)
theorem Vals.inj : ∀ {xs ys : List V} {us : List Value}, Vals xs us → Vals ys us → xs = ys
  | _, _, _, .nil, .nil => rfl
  | _, _, _, .cons r t, .cons r' t' => by rw [r.inj r', Vals.inj t t']
section
variable {X : Cx} {pins : List (Addr × Obj)} {σ : St} {H : Hp} {s : Shared} {a : Addr} {xs ys : List V}
theorem SqL.of {K : PySem.W.Frag} (h : H a = some (.lst xs)) : SqL K H a xs := .inl (.inl h)
theorem SqT.of {K : PySem.W.Frag} (h : H a = some (.tup xs)) : SqT K H a xs := .inl (.inl h)
theorem Inv.list (I : Inv X pins σ H s) (h : SqL X.K H a xs) : ∃ its : List Value, Vals xs its ∧ PlainL s.heap a its.toArray ∧ xs.length ≤ sizeLine := by
  rcases h with h | ⟨o, its, n, hk, hc, hd, hs, hz, r⟩
  · obtain ⟨z, its, n, r, e⟩ := h.ok I.hok
    exact ⟨its, r, ⟨_, n, e, rfl, rfl, rfl⟩, z⟩
  · refine ⟨its.toList, r, ⟨o, n, I.kIn a o hk, hc, hd, by simpa using hs⟩, ?_⟩
    have e := r.length
    simp only [Array.length_toList] at e
    omega
theorem Inv.tuple (I : Inv X pins σ H s) (h : SqT X.K H a xs) : ∃ its : List Value, Vals xs its ∧ IsTup s.heap a its.toArray ∧ xs.length ≤ sizeLine := by
  rcases h with h | ⟨o, its, n, hk, hc, hs, hz, r⟩
  · obtain ⟨z, its, r, p⟩ := h.ok I.hok
    exact ⟨its, r, p, z⟩
  · refine ⟨its.toList, r, ⟨o, I.kIn a o hk, hc, n, by simpa using hs⟩, ?_⟩
    have e := r.length
    simp only [Array.length_toList] at e
    omega
theorem Inv.list_inj (I : Inv X pins σ H s) (h : SqL X.K H a xs) (h' : SqL X.K H a ys) : xs = ys := by
  obtain ⟨its, r, ⟨o, n, e, _, _, d⟩, _⟩ := I.list h
  obtain ⟨its', r', ⟨o', n', e', _, _, d'⟩, _⟩ := I.list h'
  rw [e] at e'; cases e'
  rw [d] at d'
  injection d' with d1 _
  have : its = its' := by simpa using congrArg Array.toList d1
  subst this
  exact r.inj r'
theorem Inv.tuple_inj (I : Inv X pins σ H s) (h : SqT X.K H a xs) (h' : SqT X.K H a ys) : xs = ys := by
  obtain ⟨its, r, ⟨o, e, _, n, d⟩, _⟩ := I.tuple h
  obtain ⟨its', r', ⟨o', e', _, n', d'⟩, _⟩ := I.tuple h'
  rw [e] at e'; cases e'
  rw [d] at d'
  injection d' with d1 _
  have : its = its' := by simpa using congrArg Array.toList d1
  subst this
  exact r.inj r'
end

/-! ### another wish about exceptions -/
abbrev Cx.wish (X : Cx) (E : Value → Shared → Prop) : Cx := { X with xe := E }
/-- no exception leaves -/
abbrev Cx.nox (X : Cx) : Cx := X.wish fun _ _ => False
theorem Cx.Ok.wish {X : Cx} (ok : X.Ok) (E : Value → Shared → Prop) : (X.wish E).Ok :=
  ⟨ok.mod, ok.kind, ok.glob, ok.blt, ok.above, ok.inj, ok.has, ok.cab, ok.hd, ok.frames, ok.stk, ok.exf, ok.bs, ok.bsz, ok.noex, ok.exfs, ok.funs, ok.frf⟩
theorem Cx.Ok.unwish {X : Cx} {E : Value → Shared → Prop} (ok : (X.wish E).Ok) : X.Ok :=
  ⟨ok.mod, ok.kind, ok.glob, ok.blt, ok.above, ok.inj, ok.has, ok.cab, ok.hd, ok.frames, ok.stk, ok.exf, ok.bs, ok.bsz, ok.noex, ok.exfs, ok.funs, ok.frf⟩
section
variable {X : Cx} {pins : List (Addr × Obj)} {σ : St} {H : Hp} {s : Shared} {E : Value → Shared → Prop}
theorem Inv.wish (I : Inv X pins σ H s) (E : Value → Shared → Prop) : Inv (X.wish E) pins σ H s := ⟨I.ok.wish E, I.os, I.bare, I.base, I.loc, I.cell, I.free, I.freeC, I.pin, I.hok, I.len⟩
theorem Inv.unwish (I : Inv (X.wish E) pins σ H s) : Inv X pins σ H s := ⟨I.ok.unwish, I.os, I.bare, I.base, I.loc, I.cell, I.free, I.freeC, I.pin, I.hok, I.len⟩
theorem SP.unwish {D : Ends} {f : Flow} {s' : Shared} (h : SP (X.wish E) pins D f s') : SP X pins D f s' := by
  cases f with
  | next => obtain ⟨σ', H', I, q⟩ := h; exact ⟨σ', H', I.unwish, q⟩
  | brk => obtain ⟨σ', H', I, q⟩ := h; exact ⟨σ', H', I.unwish, q⟩
  | cont => obtain ⟨σ', H', I, q⟩ := h; exact ⟨σ', H', I.unwish, q⟩
  | ret u => obtain ⟨v, σ', H', I, r, q⟩ := h; exact ⟨v, σ', H', I.unwish, r, q⟩
theorem PE.nox {e : Expr} {t : TE} (h : PE X.nox e t) : PE X e t := fun pins s σ H Q I hw =>
  wpAny_mono (h pins s σ H Q (I.wish _) hw) (fun _ _ ⟨v, H', I', r, q⟩ => ⟨v, H', I'.unwish, r, q⟩) fun _ _ z => False.elim z
theorem PT.nox {e : Expr} {t : TT} (h : PT X.nox e t) : PT X e t := fun pins s σ H Q I hw =>
  wpAny_mono (h pins s σ H Q (I.wish _) hw) (fun _ _ ⟨H', I', q⟩ => ⟨H', I'.unwish, q⟩) fun _ _ z => False.elim z
theorem PSs.nox {st : List Stmt} {t : TS} (h : PSs X.nox st t) : PSs X st t := fun pins s σ H D I hw =>
  wpAny_mono (h pins s σ H D (I.wish _) hw) (fun _ _ q => q.unwish) fun _ _ z => False.elim z
end

/-! ### blocks and small statements -/
section
variable {X : Cx} {st : Stmt} {rest : List Stmt} {t u : TS} {e : Expr} {te : TE} {pos : Pos}
def tNext : TS := fun D σ H => D.nx σ H
def tSeq (t u : TS) : TS := fun D σ H => t { D with nx := u D } σ H
theorem pss_nil : PSs X [] tNext := fun _ _ σ H _ I h => wpAny_execs_nil ⟨σ, H, I, h⟩
theorem pss_cons (h1 : PS X st t) (h2 : PSs X rest u) : PSs X (st :: rest) (tSeq t u) := by
  intro pins s σ H D I h
  refine wpAny_execs_cons (thn (h1 pins s σ H { D with nx := u D } I h) fun f s1 q => ?_)
  cases f with
  | next =>
    obtain ⟨σ', H', I', q⟩ := q
    exact h2 pins s1 σ' H' D I' q
  | ret v => exact q
  | brk => exact q
  | cont => exact q
theorem pss_one (h1 : PS X st t) : PSs X [st] t := by
  intro pins s σ H D I h
  refine wpAny_execs_cons (thn (h1 pins s σ H D I h) fun f s1 q => ?_)
  cases f with
  | next => exact wpAny_execs_nil q
  | ret v => exact q
  | brk => exact q
  | cont => exact q
def tBreak : TS := fun D σ H => D.bk σ H
def tCont : TS := fun D σ H => D.ct σ H
theorem ps_pass : PS X (.Pass pos) tNext := fun _ _ σ H _ I h => wpAny_Pass ⟨σ, H, I, h⟩
theorem ps_break : PS X (.Break pos) tBreak := fun _ _ σ H _ I h => wpAny_Break ⟨σ, H, I, h⟩
theorem ps_continue : PS X (.Continue pos) tCont := fun _ _ σ H _ I h => wpAny_Continue ⟨σ, H, I, h⟩
/-- in a def's body nothing is shown -/
theorem Inv.quiet {pins : List (Addr × Obj)} {σ : St} {H : Hp} {s : Shared} (I : Inv X pins σ H s) : interactive X.env = false := by simp [interactive, I.ok.kind]
/-- a docstring -/
theorem ps_doc {x j pos pos'} : PS X (.Expr (.Constant (.str x) j pos) pos') tNext := fun _ s σ H _ I h => wpAny_Expr (Calls.Constant_str (show SP X _ _ .next { s with toks := s.toks + 1 } from ⟨σ, H, I.tok _, h⟩)) I.quiet
/-- an expression whose value is dropped -/
def tDrop (te : TE) : TS := fun D σ H => te σ H fun _ H1 => D.nx σ H1
theorem ps_expr (he : PE X e te) (hs : swapsWith e none pos.line X.env = pure false := by rfl) : PS X (.Expr e pos) (tDrop te) := by
  intro pins s σ H D I h
  exact wpAny_Expr_any (thn (he pins s σ H _ I h) fun v s1 ⟨x, H1, I1, r1, q1⟩ => ⟨σ, H1, I1, q1⟩) I.quiet hs
def tRet (te : TE) : TS := fun D σ H => te σ H D.rt
theorem ps_ret (he : PE X e te) : PS X (.Return (some e) pos) (tRet te) := by
  intro pins s σ H D I h
  exact wpAny_Return_some (thn (he pins s σ H _ I h) fun v s1 ⟨x, H1, I1, r1, q1⟩ => ⟨x, σ, H1, I1, r1, q1⟩)
def tRetN : TS := fun D _ H => D.rt .non H
theorem ps_retN : PS X (.Return none pos) tRetN := fun _ _ σ H _ I h => wpAny_Return_none ⟨.non, σ, H, I, rfl, h⟩
def tIfS (c : TT) (t u : TS) : TS := fun D σ H => c σ H fun b H1 => if b = true then t D σ H1 else u D σ H1
theorem ps_if {c : Expr} {a b : List Stmt} {tc : TT} (hc : PT X c tc) (ha : PSs X a t) (hb : PSs X b u) : PS X (.If c a b pos) (tIfS tc t u) := by
  intro pins s σ H D I h
  refine wpAny_If (thn (hc pins s σ H _ I h) fun d s1 ⟨H1, I1, q1⟩ => ?_)
  cases d with
  | true => exact ha pins s1 σ H1 D I1 q1
  | false => exact hb pins s1 σ H1 D I1 q1
/-- code that the proof never comes to -/
def tNever : TS := fun _ _ _ => False
theorem ps_never : PS X st tNever := fun _ _ _ _ _ _ h => h.elim
theorem pss_never {sts : List Stmt} : PSs X sts tNever := fun _ _ _ _ _ _ h => h.elim
end

/-! ### targets -/
abbrev TG := V → St → Hp → (St → Hp → Prop) → Prop
abbrev TGs := List V → St → Hp → (St → Hp → Prop) → Prop
def PG (X : Cx) (target : Expr) (t : TG) : Prop :=
  ∀ (pins : List (Addr × Obj)) (s : Shared) (σ : St) (H : Hp) (v : V) (u : Value) (Q : St → Hp → Prop), Inv X pins σ H s → RelV v u → t v σ H Q →
    wpAny (model X.prog X.w) X.A (assign target X.env u) (fun _ s' => ∃ σ' H', Inv X pins σ' H' s' ∧ Q σ' H') X.xe s
/-- several targets, one after another -/
def PGs (X : Cx) (ts : List Expr) (t : TGs) : Prop :=
  ∀ (pins : List (Addr × Obj)) (s : Shared) (σ : St) (H : Hp) (vs : List V) (us : List Value) (Q : St → Hp → Prop), Inv X pins σ H s → Vals vs us → t vs σ H Q →
    wpAny (model X.prog X.w) X.A (assignInOrder ((assignEach ts X.env).map (·.2)) us) (fun _ s' => ∃ σ' H', Inv X pins σ' H' s' ∧ Q σ' H') X.xe s
/-- o[i] = v, by values -/
abbrev TSet := V → V → V → Hp → (Hp → Prop) → Prop
def PSet (X : Cx) (t : TSet) : Prop :=
  ∀ (pins : List (Addr × Obj)) (s : Shared) (σ : St) (H : Hp) (o i v : V) (ov iv u : Value) (Q : Hp → Prop), Inv X pins σ H s → RelV o ov → RelV i iv → RelV v u → t o i v H Q →
    wpAny (model X.prog X.w) X.A (setItem ov iv u) (fun _ s' => ∃ H', Inv X pins σ H' s' ∧ Q H') X.xe s
/-- a op= b, by values -/
abbrev TIp := V → V → Hp → VK → Prop
def PIp (X : Cx) (op : Operator) (t : TIp) : Prop :=
  ∀ (pins : List (Addr × Obj)) (s : Shared) (σ : St) (H : Hp) (x y : V) (v u : Value) (Q : VK), Inv X pins σ H s → RelV x v → RelV y u → t x y H Q →
    wpAny (model X.prog X.w) X.A (inplaceOp op v u) (EP X pins σ Q) X.xe s
section
variable {X : Cx} {pos : Pos}
def gName (i : Nat) : TG := fun v σ H Q => Q (σ.set i (some v)) H
theorem pg_name {i : Nat} {x : Str} (hN : X.N.Nodup) (hi : X.N[i]? = some x) (hx : Loc X.env.scope x) (hf : X.fn x = true ∨ X.env.scope.names.lookup x = some .local := by first | exact .inl rfl | exact .inr rfl | assumption) : PG X (.Name x pos) (gName i) := by
  intro pins s σ H v u Q I r h
  exact wpAny_assign_Name (store_ok I hN hi hx r (fun s' I' => ⟨_, H, I', h⟩) hf)
def gNil : TGs := fun vs σ H Q => vs = [] ∧ Q σ H
def gCons (t : TG) (u : TGs) : TGs := fun vs σ H Q => ∃ v r, vs = v :: r ∧ t v σ H fun σ' H' => u r σ' H' Q
theorem pgs_nil : PGs X [] gNil := by
  intro pins s σ H vs us Q I r h
  obtain ⟨e, h⟩ := h
  subst e
  cases r
  exact assignInOrder_nil ⟨σ, H, I, h⟩
theorem pgs_cons {e : Expr} {es : List Expr} {t : TG} {u : TGs} (h1 : PG X e t) (h2 : PGs X es u)
    (hs : (assignEach (e :: es) X.env).map (·.2) = assign e X.env :: (assignEach es X.env).map (·.2) := by rfl) : PGs X (e :: es) (gCons t u) := by
  intro pins s σ H vs us Q I r h
  obtain ⟨v, vr, e1, h⟩ := h
  subst e1
  cases r with
  | cons r rr =>
    rw [hs]
    refine assignInOrder_cons (thn (h1 pins s σ H _ _ _ I r h) fun _ s1 ⟨σ1, H1, I1, q1⟩ => ?_)
    exact h2 pins s1 σ1 H1 _ _ Q I1 rr q1
/-- (a, b, ..) = a tuple of that length -/
def gTup (K : PySem.W.Frag) (n : Nat) (t : TGs) : TG := fun v σ H Q => ∃ a xs, v = .ref a ∧ SqT K H a xs ∧ xs.length = n ∧ t xs σ H Q
theorem pg_tup {es : List Expr} {k : Nat} {t : TGs} {n : Nat} (hc : X.calm = true) (h : PGs X es t)
    (hn : (assignEach es X.env).length = n := by rfl) (hst : (assignEach es X.env).findIdx? (·.1) = none := by rfl) : PG X (.Tuple es k pos) (gTup X.K n t) := by
  intro pins s σ H v u Q I r hw
  obtain ⟨a, xs, e1, hq, hl, hw⟩ := hw
  subst e1
  cases r
  obtain ⟨its, rv, ht, hz⟩ := I.tuple hq
  refine assign_Tuple_tuple (I.ok.hd hc) ht (by simp [hn, ← hl, rv.length]) hst fun h' hx => ?_
  have I1 : Inv X pins σ H { s with heap := h' } := I.kept (t' := s.toks) fun b o e => hx b o (Nat.ne_of_lt (Heap.lt_size e)) e
  exact h pins _ σ H xs _ Q I1 (by simpa using rv) hw
/-- o[i] = .. -/
def gSub (to ti : TE) (t : TSet) : TG := fun v σ H Q => to σ H fun o H1 => ti σ H1 fun i H2 => t o i v H2 fun H3 => Q σ H3
theorem pg_sub {o i : Expr} {to ti : TE} {t : TSet} (ho : PE X o to) (hi : PE X i ti) (hs : PSet X t)
    (ha : ∀ v, assign (.Subscript o i pos) X.env v = (do
      let ov ← holding [v] (eval o X.env)
      let iv ← holding [v, ov] (eval i X.env)
      standAt pos
      holding [v, ov, iv] (setItem ov iv v)
      release [v, ov, iv] []) := by intro _; rfl) : PG X (.Subscript o i pos) (gSub to ti t) := by
  intro pins s σ H v u Q I r h
  rw [ha]
  refine wpAny_bind (wpAny_holding (thn (ho pins s σ H _ I h) fun ov s1 ⟨x, H1, I1, r1, q1⟩ => ?_))
  refine wpAny_bind (wpAny_holding (thn (hi pins s1 σ H1 _ I1 q1) fun iv s2 ⟨y, H2, I2, r2, q2⟩ => ?_))
  refine wpAny_bind (wpAny_standAt (wpAny_bind (wpAny_holding (thn (hs pins s2 σ H2 x y v ov iv u _ I2 r1 r2 r q2) fun _ s3 ⟨H3, I3, q3⟩ => ?_))))
  exact wpAny_release ⟨σ, H3, I3, q3⟩
/-- target = value -/
def tAsg (te : TE) (g : TG) : TS := fun D σ H => te σ H fun x H1 => g x σ H1 D.nx
theorem ps_asg {tg e : Expr} {te : TE} {g : TG} (he : PE X e te) (hg : PG X tg g) (hs : swapsWithSole [tg] e pos.line X.env = pure false := by rfl) (hw : swappedStores [tg] e X.env = pure none := by rfl)
    (h1 : (assignEach [tg] X.env).map (·.2) = [assign tg X.env] := by rfl) : PS X (.Assign [tg] e pos) (tAsg te g) := by
  intro pins s σ H D I h
  refine wpAny_Assign_stores (thn (he pins s σ H _ I h) fun v s1 ⟨x, H1, I1, r1, q1⟩ => ?_) hs hw
  rw [h1]
  exact thn (hg pins s1 σ H1 x v _ I1 r1 q1) fun _ s2 q => q
/-- name = value -/
theorem ps_set {i : Nat} {x : Str} {e : Expr} {te : TE} {pos' : Pos} (hN : X.N.Nodup) (hi : X.N[i]? = some x) (hx : Loc X.env.scope x) (he : PE X e te) (hs : swapsWith e (some (.Name x pos')) pos.line X.env = pure false := by rfl) (hf : X.fn x = true ∨ X.env.scope.names.lookup x = some .local := by first | exact .inl rfl | exact .inr rfl | assumption) :
    PS X (.Assign [.Name x pos'] e pos) (tAsg te (gName i)) := by
  intro pins s σ H D I h
  refine wpAny_Assign_Name (thn (he pins s σ H _ I h) fun v s1 ⟨y, H1, I1, r1, q1⟩ => ?_) hs
  exact store_ok I1 hN hi hx r1 (fun s2 I2 => ⟨_, H1, I2, q1⟩) hf
/-- a, b = x, y with plain local names: stored from the right; the pair itself is not tracked (the opening rows as in PyProof/Rows/TupAssign.lean:23) -/
def tPar (i j : Nat) (ta : TA) : TS := fun D σ H => ta σ H fun vs H1 => ∃ v w, vs = [v, w] ∧ D.nx ((σ.set i (some v)).set j (some w)) H1
theorem ps_par {i j : Nat} {x y : Str} {a b : Expr} {ta : TA} {px py pt : Pos} {kt k2 pt2} (hc : X.calm = true) (hN : X.N.Nodup) (hi : X.N[i]? = some x) (hj : X.N[j]? = some y) (hij : i ≠ j)
    (hx : X.env.scope.names.lookup x = some .local) (hy : X.env.scope.names.lookup y = some .local) (ha : PA X [a, b] ta)
    (hw : swappedStores [.Tuple [.Name x px, .Name y py] kt pt] (.Tuple [a, b] k2 pt2) X.env = pure (some [x, y]))
    (hs : swapsWithSole [.Tuple [.Name x px, .Name y py] kt pt] (.Tuple [a, b] k2 pt2) pos.line X.env = pure false := by rfl) :
    PS X (.Assign [.Tuple [.Name x px, .Name y py] kt pt] (.Tuple [a, b] k2 pt2) pos) (tPar i j ta) := by
  intro pins s σ H D I h
  rw [exec_Assign_arm]
  refine wpAny_bind (wpAny_standAt ?_)
  rw [hs]
  refine wpAny_bind (wpAny_pure ?_)
  rw [if_neg (by decide)]
  refine wpAny_bind (Tuple_ (thn (ha _ pins s σ H _ I h) fun us s1 ⟨vs, H1, I1, r1, q1⟩ => ?_))
  obtain ⟨v, w, e1, q1⟩ := q1
  subst e1
  obtain ⟨u1, u2, rfl, rv, rw'⟩ : ∃ u1 u2, us = [u1, u2] ∧ RelV v u1 ∧ RelV w u2 := by
    cases r1 with
    | cons p q =>
      cases q with
      | cons p' q' =>
        cases q'
        exact ⟨_, _, rfl, p, p'⟩
  refine wpAny_newObj_type ?_ (by show 2 ≤ sizeLine; decide)
  have I2 : Inv X pins σ H1 { s1 with heap := s1.heap.push { cls := .type "tuple", data := .seq [u1, u2].toArray } } := I1.kept (t' := s1.toks) fun b o e => Heap.get?_push_of_some _ e
  rw [hw]
  refine wpAny_bind (wpAny_pure ?_)
  show wpAny (model X.prog X.w) X.A (do rule "assign.swapped-stores"; let items ← unpackItems (.ref s1.heap.objs.size) 2 none; assignInOrder [fun v => bindName X.env y v, fun v => bindName X.env x v] items.reverse; pure Flow.next) _ _ _
  refine wpAny_bind (wpAny_rule (wpAny_bind (unpackItems_tuple (items := #[u1, u2]) (I.ok.hd hc) (IsTup.new s1.heap _) fun h' hx' => ?_)))
  have I3 := I2.kept (h' := h') (t' := s1.toks) fun b o e => hx' b o (Nat.ne_of_lt (Heap.lt_size e)) e
  show wpAny _ _ (assignInOrder [fun v => bindName X.env y v, fun v => bindName X.env x v] [u2, u1] >>= fun _ => pure Flow.next) _ _ _
  refine wpAny_bind (assignInOrder_cons (wpAny_bindName (store_ok I3 hN hj (.inl hy) rw' (fun s2 I4 => ?_) (.inr hy))))
  refine assignInOrder_cons (wpAny_bindName (store_ok I4 hN hi (.inl hx) rv (fun s3 I5 => assignInOrder_nil (wpAny_pure ?_)) (.inr hx)))
  rw [List.set_comm _ _ (Ne.symm hij)] at I5
  exact ⟨_, H1, I5, q1⟩
/-- name op= e -/
def tAug (i : Nat) (te : TE) (ti : TIp) : TS := fun D σ H => ∃ x, σ[i]? = some (some x) ∧ te σ H fun y H1 => ti x y H1 fun z H2 => D.nx (σ.set i (some z)) H2
theorem ps_aug {i : Nat} {x : Str} {e : Expr} {te : TE} {op : Operator} {ti : TIp} {pos' : Pos} (hN : X.N.Nodup) (hi : X.N[i]? = some x) (hx : Loc X.env.scope x) (he : PE X e te) (ho : PIp X op ti) (hf : X.fn x = true ∨ X.env.scope.names.lookup x = some .local := by first | exact .inl rfl | exact .inr rfl | assumption) :
    PS X (.AugAssign (.Name x pos') op e pos) (tAug i te ti) := by
  intro pins s σ H D I h
  obtain ⟨v, e1, h⟩ := h
  obtain ⟨m, hn, hl⟩ := I.loc
  have vis : Vis X.env.scope x := by rcases hx with k | k; exact .inl k; exact .inr (.inl k)
  obtain ⟨u, r, l⟩ := hl i x v hi e1 vis
  refine wpAny_AugAssign_Name ?_
  have go : wpAny (model X.prog X.w) X.A (eval e X.env) (fun w s₂ => wpAny (model X.prog X.w) X.A (inplaceOp op u w) (fun r s₃ => wpAny (model X.prog X.w) X.A (storeName X.env x r) (fun _ => SP X pins D .next) X.xe s₃) X.xe s₂) X.xe s := by
    refine thn (he pins s σ H _ I h) fun w s1 ⟨y, H1, I1, r1, q1⟩ => ?_
    refine thn (ho pins s1 σ H1 v y u w _ I1 r r1 q1) fun z s2 ⟨zv, H2, I2, r2, q2⟩ => ?_
    exact store_ok I2 hN hi hx r2 (fun s3 I3 => ⟨_, H2, I3, q2⟩) hf
  rcases l with ⟨hk, hm⟩ | ⟨hk, c, hc, hcell⟩
  · exact wpAny_loadName_local I.ok.kind hk hn hm go
  · rcases hk with hk | hk
    · exact wpAny_loadName_cell I.ok.kind hk hc hcell go
    · rcases hx with k | k
      · have : X.env.scope.names.lookup x = some .free := hk
        rw [k] at this; cases this
      · have : X.env.scope.names.lookup x = some .free := hk
        rw [k] at this; cases this
/-- o[i] op= e -/
def tAugS (to ti te : TE) (tget : V → V → Hp → VK → Prop) (tip : TIp) (tset : TSet) : TS := fun D σ H => to σ H fun o H1 => ti σ H1 fun i H2 => tget o i H2 fun x H3 => te σ H3 fun y H4 => tip x y H4 fun z H5 => tset o i z H5 fun H6 => D.nx σ H6
/-- o[i], by values -/
def PGet (X : Cx) (t : V → V → Hp → VK → Prop) : Prop :=
  ∀ (pins : List (Addr × Obj)) (s : Shared) (σ : St) (H : Hp) (o i : V) (ov iv : Value) (Q : VK), Inv X pins σ H s → RelV o ov → RelV i iv → t o i H Q →
    wpAny (model X.prog X.w) X.A (getItem ov iv) (EP X pins σ Q) X.xe s
theorem ps_augS {o i e : Expr} {to ti te : TE} {tget : V → V → Hp → VK → Prop} {tip : TIp} {tset : TSet} {op : Operator} {tpos : Pos} (ho : PE X o to) (hi : PE X i ti) (hg : PGet X tget) (he : PE X e te) (hp : PIp X op tip) (hs : PSet X tset)
    (ha : ∀ ov iv new, augStore i ov iv new = (do holding [new, ov, iv] (setItem ov iv new); release [new, ov, iv] []; pure .next) := by intros; rfl) : PS X (.AugAssign (.Subscript o i tpos) op e pos) (tAugS to ti te tget tip tset) := by
  intro pins s σ H D I h
  refine wpAny_AugAssign_SubscriptAny (thn (ho pins s σ H _ I h) fun ov s1 ⟨x1, H1, I1, r1, q1⟩ => ?_) ha
  refine thn (hi pins s1 σ H1 _ I1 q1) fun iv s2 ⟨x2, H2, I2, r2, q2⟩ => ?_
  refine thn (hg pins s2 σ H2 x1 x2 ov iv _ I2 r1 r2 q2) fun old s3 ⟨x3, H3, I3, r3, q3⟩ => ?_
  refine thn (he pins s3 σ H3 _ I3 q3) fun v s4 ⟨x4, H4, I4, r4, q4⟩ => ?_
  refine thn (hp pins s4 σ H4 x3 x4 old v _ I4 r3 r4 q4) fun new s5 ⟨x5, H5, I5, r5, q5⟩ => ?_
  exact thn (hs pins s5 σ H5 x1 x2 x5 ov iv new _ I5 r1 r2 r5 q5) fun _ s6 ⟨H6, I6, q6⟩ => ⟨σ, H6, I6, q6⟩
/-- ints -/
def ipI (f : Int → Int → Int) : TIp := fun x y H Q => ∃ i j, x = .int i ∧ y = .int j ∧ Q (.int (f i j)) H
theorem ip_add : PIp X .Add (ipI fun i j => i + j) := by
  intro pins s σ H x y v u Q I r1 r2 h
  obtain ⟨i, j, e1, e2, q⟩ := h
  subst e1; subst e2
  obtain ⟨t, rfl⟩ := r1
  obtain ⟨t', rfl⟩ := r2
  exact iadd_int ⟨.int _, H, I.tok _, ⟨_, rfl⟩, q⟩
theorem ip_sub : PIp X .Sub (ipI fun i j => i - j) := by
  intro pins s σ H x y v u Q I r1 r2 h
  obtain ⟨i, j, e1, e2, q⟩ := h
  subst e1; subst e2
  obtain ⟨t, rfl⟩ := r1
  obtain ⟨t', rfl⟩ := r2
  exact isub_int ⟨.int _, H, I.tok _, ⟨_, rfl⟩, q⟩
end

/-! ### while -/
section
variable {X : Cx} {pos : Pos}
/-- the invariant W with its measure -/
def tWhile (c : TT) (tb : TS) : TS := fun D σ H => ∃ W : Nat → St → Hp → Prop, (∃ m, W m σ H) ∧ ∀ m σ H, W m σ H →
  c σ H fun b H1 => if b = true then ∃ N : St → Hp → Prop, (∀ σ' H', N σ' H' → ∃ m', m' < m ∧ W m' σ' H') ∧ tb { D with nx := N, ct := N, bk := D.nx } σ H1 else D.nx σ H1
theorem ps_while {c : Expr} {body : List Stmt} {tc : TT} {tb : TS} (hp : PassesOwn (model X.prog X.w) X.A X.env X.xe) (hc : PT X c tc) (hb : PSs X body tb) : PS X (.While c body [] pos) (tWhile tc tb) := by
  intro pins s σ H D I h
  obtain ⟨W, ⟨m0, w0⟩, turn⟩ := h
  refine wpAny_While (codeAny_whileLoop (fun n s' => ∃ σ' H', Inv X pins σ' H' s' ∧ W n σ' H') ?_ m0 ⟨σ, H, I, w0⟩)
  rintro n s1 ⟨σ1, H1, I1, w1⟩
  refine wpAny_passesOwn hp (thn (hc pins s1 σ1 H1 _ I1 (turn n σ1 H1 w1)) fun b s2 ⟨H2, I2, q2⟩ => ?_)
  cases b with
  | true =>
    obtain ⟨N, hN, q2⟩ := q2
    rw [if_pos rfl]
    refine wpAny_passesOwn hp (thn (hb pins s2 σ1 H2 _ I2 q2) fun f s3 q3 => ?_)
    cases f with
    | next =>
      obtain ⟨σ3, H3, I3, n3⟩ := q3
      obtain ⟨m', hm, w3⟩ := hN σ3 H3 n3
      exact ⟨m', hm, σ3, H3, I3, w3⟩
    | cont =>
      obtain ⟨σ3, H3, I3, n3⟩ := q3
      obtain ⟨m', hm, w3⟩ := hN σ3 H3 n3
      exact ⟨m', hm, σ3, H3, I3, w3⟩
    | brk => exact q3
    | ret v => exact q3
  | false =>
    rw [if_neg Bool.false_ne_true]
    exact wpAny_execs_nil ⟨σ1, H2, I2, q2⟩
end

/-! ### what a loop or a comprehension walks -/
/-- at turn i: it yields x (the heap may grow), or it stops -/
structure It where
  go : Nat → Hp → Prop
  yld : Nat → Hp → V → Hp → Prop
  stop : Nat → Hp → Prop
/-- the iterator's own objects may turn: they are not the frame's, not pinned, younger than the entry (or a comprehension's own) -/
def FpOk (X : Cx) (pins : List (Addr × Obj)) (H : Hp) (b : Addr) : Prop :=
  H b = none ∧ b ≠ X.env.locals ∧ b ∉ X.fs ∧ (b ∈ X.ex ∨ X.s₀.heap.objs.size ≤ b) ∧ (∀ x c, X.env.cells.lookup x = some c → c ≠ b) ∧ ∀ p ∈ X.pn ++ pins, p.1 ≠ b
theorem Inv.fpOk {X : Cx} {pins : List (Addr × Obj)} {σ : St} {H H' : Hp} {s : Shared} {b : Addr} (I : Inv X pins σ H s) (hb : s.heap.objs.size ≤ b) (hn : H' b = none) : FpOk X pins H' b := by
  refine ⟨hn, Nat.ne_of_gt (Nat.lt_of_lt_of_le I.lt hb), I.nofs hb, .inr (Nat.le_trans I.sz hb), fun x c e z => ?_, fun p hp z => ?_⟩
  · obtain ⟨v, q⟩ := I.cell x c e
    exact absurd (Nat.lt_of_lt_of_le q.lt (by rw [z]; exact hb)) (Nat.lt_irrefl _)
  · exact absurd (Nat.lt_of_lt_of_le (Heap.lt_size (I.pin p hp).1) (by rw [z]; exact hb)) (Nat.lt_irrefl _)
structure Turn (P : Program) (w : World) (K : PySem.W.Frag) (tg : Expr) (J : It) (fp : List Addr) (it : Addr) (tn : Nat → Heap → Prop) : Prop where
  mem : it ∈ fp
  obj : ∀ i h, tn i h → ∀ b ∈ fp, ∃ o, h.get? b = some o ∧ ∀ v, o.data ≠ .cell v
  keep : ∀ i h h', tn i h → (∀ b ∈ fp, ∀ o, h.get? b = some o → h'.get? b = some o) → tn i h'
  item : ∀ (X : Cx), X.prog = P → X.w = w → X.K = K → X.calm = true → ∀ (i : Nat) (pins : List (Addr × Obj)) (s : Shared) (σ : St) (H : Hp) (E : Value → Shared → Prop), Inv X pins σ H s → (∀ b ∈ fp, FpOk X pins H b) → tn i s.heap → J.go i H →
    wpAny (model P w) X.A (pyNext (.ref it)) (fun r s1 => ∃ u, r = some u ∧
      wpAny (model P w) X.A (letOwnedTupleGo tg (.ref it) u) (fun _ s2 => ∃ x H', Inv X pins σ H' s2 ∧ RelV x u ∧ J.yld i H x H' ∧ tn (i + 1) s2.heap ∧ ∀ b ∈ fp, H' b = none) E s1) E s
  done : ∀ (X : Cx), X.prog = P → X.w = w → X.K = K → X.calm = true → ∀ (i : Nat) (pins : List (Addr × Obj)) (s : Shared) (σ : St) (H : Hp) (E : Value → Shared → Prop), Inv X pins σ H s → (∀ b ∈ fp, FpOk X pins H b) → tn i s.heap → J.stop i H →
    wpAny (model P w) X.A (pyNext (.ref it)) (fun r s1 => r = none ∧ Inv X pins σ H s1) E s
  self : ∀ (A : Around) (i : Nat) (s : Shared) (Q : Value → Shared → Prop) (E : Value → Shared → Prop), tn i s.heap → Q (.ref it) s → wpAny (model P w) A (pyIter (.ref it)) Q E s
abbrev TI := St → Hp → (It → Hp → Prop) → Prop
/-- an iterator has come -/
def PIE (X : Cx) (pins : List (Addr × Obj)) (σ : St) (tg : Expr) (R : It → Hp → Prop) (itv : Value) (s2 : Shared) : Prop :=
  ∃ (it : Addr) (fp : List Addr) (tn : Nat → Heap → Prop) (J : It) (H' : Hp), itv = .ref it ∧ Inv X pins σ H' s2 ∧ Turn X.prog X.w X.K tg J fp it tn ∧ tn 0 s2.heap ∧ (∀ b ∈ fp, FpOk X pins H' b) ∧ R J H'
def PI (X : Cx) (tg iter : Expr) (wi : TI) : Prop :=
  ∀ (pins : List (Addr × Obj)) (s : Shared) (σ : St) (H : Hp) (R : It → Hp → Prop), Inv X pins σ H s → wi σ H R →
    wpAny (model X.prog X.w) X.A (eval iter X.env) (fun v s1 => wpAny (model X.prog X.w) X.A (pyIter v) (PIE X pins σ tg R) X.xe s1) X.xe s

/-- the step ahead of the store is nothing for an iterator that keeps no tuple -/
theorem go_of {M : Model} {A : Around} {E : Value → Shared → Prop} {s : Shared} {tg : Expr} {it : Addr} {u : Value} {o : Obj} {n : String} {vs : Array Value} {Q : Unit → Shared → Prop} (ho : s.heap.get? it = some o) (hc : o.cls = .type n) (hd : o.data = .fields vs)
    (hn : ["enumerate", "zip", "dict_itemiterator", "dict_reverseitemiterator", "odict_iterator", "itertools.zip_longest", "itertools.pairwise"].contains n = false) (hQ : Q () s) : wpAny M A (letOwnedTupleGo tg (.ref it) u) Q E s := by
  unfold letOwnedTupleGo
  cases tg <;> first
    | exact wpAny_pure hQ
    | (cases u <;> first
        | exact wpAny_pure hQ
        | (refine wpAny_bind (wpAny_load ho ?_)
           rw [hc, hd]
           show wpAny M A (if (["enumerate", "zip", "dict_itemiterator", "dict_reverseitemiterator", "odict_iterator", "itertools.zip_longest", "itertools.pairwise"].contains n && vs[0]? == some (rawInt _)) = true then _ else _) Q E s
           rw [if_neg (by intro h; rw [hn, Bool.false_and] at h; cases h)]
           exact wpAny_pure hQ))

/-- the list at a, as it stands at each turn (a loop may append to it) -/
def Itl (K : PySem.W.Frag) (a : Addr) : It :=
  ⟨fun i H => ∃ xs x, SqL K H a xs ∧ xs[i]? = some x, fun i H x H' => H' = H ∧ ∀ xs, SqL K H a xs → xs[i]? = some x, fun i H => ∃ xs, SqL K H a xs ∧ xs.length ≤ i⟩
def Itt (K : PySem.W.Frag) (a : Addr) : It :=
  ⟨fun i H => ∃ xs x, SqT K H a xs ∧ xs[i]? = some x, fun i H x H' => H' = H ∧ ∀ xs, SqT K H a xs → xs[i]? = some x, fun i H => ∃ xs, SqT K H a xs ∧ xs.length ≤ i⟩
/-- lo, lo + 1, .. (n of them) -/
def Itr (lo : Int) (n : Nat) : It := ⟨fun i _ => i < n, fun i H x H' => H' = H ∧ x = .int (lo + i), fun i _ => n ≤ i⟩
theorem turn_list {P : Program} {w : World} {K : PySem.W.Frag} {tg : Expr} (a it : Addr) : Turn P w K tg (Itl K a) [it] it (fun i h => h.IsListIter it a i) where
  mem := by simp
  obj := fun i h st b hb => by
    have e : b = it := by simpa using hb
    subst e
    obtain ⟨o, e, c, d⟩ := st
    exact ⟨o, e, fun v z => by rw [d] at z; cases z⟩
  keep := fun i h h' st k => st.at fun o e => k it (by simp) o e
  item := by
    intro X hP hw hK hc i pins s σ H E I hf st hg
    subst hP hw hK
    obtain ⟨xs, x, hq, hx⟩ := hg
    obtain ⟨its, rv, p, hz⟩ := I.list hq
    obtain ⟨u, hu, ru⟩ := rv.get hx
    obtain ⟨f0, f1, f2, f3, f4, f5⟩ := hf it (by simp)
    refine wpAny_pyNext_list_item st p.isList (x := u) (by simpa using hu) fun h' st' sb => ?_
    have I1 : Inv X pins σ H { s with heap := h' } := I.turned (t' := s.toks) (fun b o hb e => (sb.2 b hb).trans e) f0 f1 f3 f4 f5
    obtain ⟨o, e, c, d⟩ := id st'
    exact ⟨u, rfl, go_of (s := { s with heap := h' }) e c d (by decide) ⟨x, H, I1, ru, ⟨rfl, fun ys hy => by rw [I.list_inj hy hq]; exact hx⟩, st', fun b hb => (hf b hb).1⟩⟩
  done := by
    intro X hP hw hK hc i pins s σ H E I hf st hg
    subst hP hw hK
    obtain ⟨xs, hq, hx⟩ := hg
    obtain ⟨its, rv, p, hz⟩ := I.list hq
    obtain ⟨f0, f1, f2, f3, f4, f5⟩ := hf it (by simp)
    have hl := rv.length
    exact wpAny_pyNext_list_end (I.ok.hd hc) st p.isList (by simp; omega) fun h' eb => ⟨rfl, I.turned (t' := s.toks) (fun b o hb e => eb b o hb e) f0 f1 f3 f4 f5⟩
  self := fun _ _ _ _ _ st h => wpAny_pyIter_listiter st h
theorem turn_tuple {P : Program} {w : World} {K : PySem.W.Frag} {tg : Expr} (a it : Addr) : Turn P w K tg (Itt K a) [it] it (fun i h => h.IsTupleIter it a i) where
  mem := by simp
  obj := fun i h st b hb => by
    have e : b = it := by simpa using hb
    subst e
    obtain ⟨o, e, c, d⟩ := st
    exact ⟨o, e, fun v z => by rw [d] at z; cases z⟩
  keep := fun i h h' st k => st.at fun o e => k it (by simp) o e
  item := by
    intro X hP hw hK hc i pins s σ H E I hf st hg
    subst hP hw hK
    obtain ⟨xs, x, hq, hx⟩ := hg
    obtain ⟨its, rv, p, hz⟩ := I.tuple hq
    obtain ⟨u, hu, ru⟩ := rv.get hx
    obtain ⟨f0, f1, f2, f3, f4, f5⟩ := hf it (by simp)
    refine wpAny_pyNext_tuple_item st (show s.heap.IsTuple a its.toArray from p) (x := u) (by simpa using hu) fun h' st' sb => ?_
    have I1 : Inv X pins σ H { s with heap := h' } := I.turned (t' := s.toks) (fun b o hb e => (sb.2 b hb).trans e) f0 f1 f3 f4 f5
    obtain ⟨o, e, c, d⟩ := id st'
    exact ⟨u, rfl, go_of (s := { s with heap := h' }) e c d (by decide) ⟨x, H, I1, ru, ⟨rfl, fun ys hy => by rw [I.tuple_inj hy hq]; exact hx⟩, st', fun b hb => (hf b hb).1⟩⟩
  done := by
    intro X hP hw hK hc i pins s σ H E I hf st hg
    subst hP hw hK
    obtain ⟨xs, hq, hx⟩ := hg
    obtain ⟨its, rv, p, hz⟩ := I.tuple hq
    obtain ⟨f0, f1, f2, f3, f4, f5⟩ := hf it (by simp)
    have hl := rv.length
    exact wpAny_pyNext_tuple_end (I.ok.hd hc) st (show s.heap.IsTuple a its.toArray from p) (by simp; omega) fun h' eb => ⟨rfl, I.turned (t' := s.toks) (fun b o hb e => eb b o hb e) f0 f1 f3 f4 f5⟩
  self := fun _ _ _ _ _ st h => wpAny_pyIter_tupleiter st h
theorem turn_range {P : Program} {w : World} {K : PySem.W.Frag} {tg : Expr} (it : Addr) (lo : Int) (n : Nat) : Turn P w K tg (Itr lo n) [it] it (fun i h => IsRangeIter h it (lo + (i : Nat) * 1) ((n : Int) - (i : Nat)) 1) where
  mem := by simp
  obj := fun i h st b hb => by
    have e : b = it := by simpa using hb
    subst e
    exact ⟨_, st, fun v z => by
      have z' : Data.fields _ = Data.cell v := z
      cases z'⟩
  keep := fun i h h' st k => k it (by simp) _ st
  item := by
    intro X hP hw hK hc i pins s σ H E I hf st hg
    subst hP hw hK
    obtain ⟨f0, f1, f2, f3, f4, f5⟩ := hf it (by simp)
    have W := Walks.range (prog := X.prog) (w := X.w) (I.ok.hd hc) it lo 1 n
    refine W.item i s _ _ hg st fun v h' tk hv st' kk => ?_
    obtain ⟨t, rfl⟩ := hv
    have I1 : Inv X pins σ H { s with heap := h', toks := tk } := I.turned (fun b o hb e => kk b o (by simpa using hb) e) f0 f1 f3 f4 f5
    refine ⟨_, rfl, go_of (s := { s with heap := h', toks := tk }) (n := "range_iterator") st' rfl rfl (by decide) ⟨.int (lo + i), H, I1, ⟨t, ?_⟩, ⟨rfl, rfl⟩, st', fun b hb => (hf b hb).1⟩⟩
    rw [Int.mul_one]
  done := by
    intro X hP hw hK hc i pins s σ H E I hf st hg
    subst hP hw hK
    obtain ⟨f0, f1, f2, f3, f4, f5⟩ := hf it (by simp)
    exact wpAny_pyNext_range_end (I.ok.hd hc) st (by have : n ≤ i := hg; omega) fun h' eb => ⟨rfl, I.turned (t' := s.toks) (fun b o hb e => eb b o hb e) f0 f1 f3 f4 f5⟩
  self := fun _ _ _ _ _ st h => wpAny_pyIter_rangeiter st h
end L2

namespace L2
open PySem PySem.Spec PyProof.Rows
section
variable {X : Cx} {tg : Expr}
def iList (K : PySem.W.Frag) (tl : TE) : TI := fun σ H R => tl σ H fun x H1 => ∃ a, x = .ref a ∧ (∃ xs, SqL K H1 a xs) ∧ R (Itl K a) H1
def iTup (K : PySem.W.Frag) (tl : TE) : TI := fun σ H R => tl σ H fun x H1 => ∃ a, x = .ref a ∧ (∃ xs, SqT K H1 a xs) ∧ R (Itt K a) H1
theorem pi_list {l : Expr} {tl : TE} (hl : PE X l tl) : PI X tg l (iList X.K tl) := by
  intro pins s σ H R I h
  refine thn (hl pins s σ H _ I h) fun v s1 ⟨x, H1, I1, r1, q1⟩ => ?_
  obtain ⟨a, e, ⟨xs, hq⟩, q⟩ := q1
  subst e
  cases r1
  obtain ⟨its, rv, p, hz⟩ := I1.list hq
  refine wpAny_pyIter_list p.isList ?_
  refine ⟨s1.heap.objs.size, [s1.heap.objs.size], _, _, H1, rfl, I1.kept (t' := s1.toks) fun b o e => Heap.get?_push_of_some _ e, turn_list a _, ⟨_, Heap.get?_push_size _ rfl, rfl, rfl⟩, fun b hb => ?_, q⟩
  have e : b = s1.heap.objs.size := by simpa using hb
  subst e
  exact I1.fpOk (Nat.le_refl _) (I1.hok.fresh (Nat.le_refl _))
theorem pi_tup {l : Expr} {tl : TE} (hl : PE X l tl) : PI X tg l (iTup X.K tl) := by
  intro pins s σ H R I h
  refine thn (hl pins s σ H _ I h) fun v s1 ⟨x, H1, I1, r1, q1⟩ => ?_
  obtain ⟨a, e, ⟨xs, hq⟩, q⟩ := q1
  subst e
  cases r1
  obtain ⟨its, rv, p, hz⟩ := I1.tuple hq
  refine wpAny_pyIter_tuple (show s1.heap.IsTuple a its.toArray from p) ?_
  refine ⟨s1.heap.objs.size, [s1.heap.objs.size], _, _, H1, rfl, I1.kept (t' := s1.toks) fun b o e => Heap.get?_push_of_some _ e, turn_tuple a _, ⟨_, Heap.get?_push_size _ rfl, rfl, rfl⟩, fun b hb => ?_, q⟩
  have e : b = s1.heap.objs.size := by simpa using hb
  subst e
  exact I1.fpOk (Nat.le_refl _) (I1.hok.fresh (Nat.le_refl _))
/-- a range object just made, walked -/
theorem range_it {pins : List (Addr × Obj)} {σ : St} {H : Hp} {s : Shared} {R : It → Hp → Prop} {E : Value → Shared → Prop} {lo hi : Int} {t u v : Tok} {tk : Nat} (I : Inv X pins σ H s) (h1 : -(2 ^ 62) ≤ lo) (h2 : lo < 2 ^ 62) (h3 : -(2 ^ 62) ≤ hi) (h4 : hi < 2 ^ 62)
    (q : R (Itr lo (hi - lo).toNat) H) : wpAny (model X.prog X.w) X.A (pyIter (.ref s.heap.objs.size)) (PIE X pins σ tg R) E { s with heap := s.heap.push { cls := .type "range", data := .fields #[.int lo t, .int hi u, .int 1 v] }, toks := tk } := by
  refine wpAny_pyIter_range (IsRange.new ..) (small_one h1 h2 h3 h4) ?_
  have I1 : Inv X pins σ H { s with heap := s.heap.push { cls := .type "range", data := .fields #[.int lo t, .int hi u, .int 1 v] }, toks := tk } := I.kept fun b o e => Heap.get?_push_of_some _ e
  refine ⟨(s.heap.push { cls := .type "range", data := .fields #[.int lo t, .int hi u, .int 1 v] }).objs.size, [(s.heap.push { cls := .type "range", data := .fields #[.int lo t, .int hi u, .int 1 v] }).objs.size], _, _, H, rfl,
    I1.kept (t' := tk) fun b o e => Heap.get?_push_of_some _ e, turn_range _ lo (hi - lo).toNat, ?_, fun b hb => ?_, q⟩
  · have e1 : lo + ((0 : Nat) : Int) * 1 = lo := by simp
    have e2 : (((hi - lo).toNat : Nat) : Int) - ((0 : Nat) : Int) = Builtin.Range.rangeSize lo hi 1 := by rw [rangeSize_one]; split <;> omega
    show IsRangeIter _ _ (lo + ((0 : Nat) : Int) * 1) ((((hi - lo).toNat : Nat) : Int) - ((0 : Nat) : Int)) 1
    rw [e1, e2]
    exact Heap.get?_push_size _ rfl
  · have e : b = (s.heap.push { cls := .type "range", data := .fields #[.int lo t, .int hi u, .int 1 v] }).objs.size := by simpa using hb
    subst e
    exact I1.fpOk (Nat.le_refl _) (I1.hok.fresh (Nat.le_refl _))
def iRng1 (ta : TA) : TI := fun σ H R => ta σ H fun vs H1 => ∃ j : Int, vs = [.int j] ∧ -(2 ^ 62) ≤ j ∧ j < 2 ^ 62 ∧ R (Itr 0 j.toNat) H1
def iRng2 (ta : TA) : TI := fun σ H R => ta σ H fun vs H1 => ∃ i j : Int, vs = [.int i, .int j] ∧ (-(2 ^ 62) ≤ i ∧ i < 2 ^ 62 ∧ -(2 ^ 62) ≤ j ∧ j < 2 ^ 62) ∧ R (Itr i (j - i).toNat) H1
theorem pi_range1 {a : Expr} {ta : TA} {p pos : Pos} (hg : Gl X "range") (hm : X.mg "range" = none) (ha : PA X [a] ta) (hs : starEach [a] X.env = [(false, eval a X.env)] := by rfl) : PI X tg (.Call (.Name "range" p) [a] [] pos) (iRng1 ta) := by
  intro pins s σ H R I h
  refine Call_ (ld_blt I hg hm boot_range (PyProof.Rows.callWith_type1 (thn (ha pos pins s σ H _ I h) fun us s1 ⟨vs, H1, I1, r1, q1⟩ => ?_) hs rfl))
  obtain ⟨j, e, q1, q2, q⟩ := q1
  subst e
  cases r1 with
  | cons r rr =>
    cases rr
    obtain ⟨t, rfl⟩ := r
    exact call_range_1 (range_it I1 (by omega) (by omega) q1 q2 (by simpa using q))
theorem pi_range2 {a b : Expr} {ta : TA} {p pos : Pos} (hg : Gl X "range") (hm : X.mg "range" = none) (ha : PA X [a, b] ta) (hs : starEach [a, b] X.env = [(false, eval a X.env), (false, eval b X.env)] := by rfl) (hs2 : starEach [b] X.env = [(false, eval b X.env)] := by rfl) :
    PI X tg (.Call (.Name "range" p) [a, b] [] pos) (iRng2 ta) := by
  intro pins s σ H R I h
  refine Call_ (ld_blt I hg hm boot_range (PyProof.Rows.callWith_type1 (thn (ha pos pins s σ H _ I h) fun us s1 ⟨vs, H1, I1, r1, q1⟩ => ?_) (by rw [hs, hs2]) (by rw [hs2]; rfl)))
  obtain ⟨i, j, e, ⟨q1, q2, q3, q4⟩, q⟩ := q1
  subst e
  cases r1 with
  | cons r rr =>
    cases rr with
    | cons r' rr =>
      cases rr
      obtain ⟨t, rfl⟩ := r
      obtain ⟨t', rfl⟩ := r'
      exact call_range_2 (range_it I1 q1 q2 q3 q4 q)

/-! ### for -/
/-- W: the invariant by the turn and a measure; N: what the body is to reach -/
def tFor (wi : TI) (g : TG) (tb : TS) : TS := fun D σ H => wi σ H fun J H1 => ∃ W : Nat → Nat → St → Hp → Prop, (∃ m, W 0 m σ H1) ∧ ∀ i m σ H, W i m σ H →
  (J.stop i H ∧ D.nx σ H) ∨ (J.go i H ∧ ∃ N : St → Hp → Prop, (∀ σ' H', N σ' H' → ∃ m', m' < m ∧ W (i + 1) m' σ' H') ∧ ∀ x H', J.yld i H x H' → g x σ H' fun σ2 H2 => tb { D with nx := N, ct := N, bk := D.nx } σ2 H2)
/-- the records at fp as they stand -/
def pinsAt (fp : List Addr) (h : Heap) : List (Addr × Obj) := fp.filterMap fun b => (h.get? b).map fun o => (b, o)
theorem mem_pinsAt {fp : List Addr} {h : Heap} {b : Addr} {o : Obj} (hb : b ∈ fp) (e : h.get? b = some o) : (b, o) ∈ pinsAt fp h := List.mem_filterMap.mpr ⟨b, hb, by rw [e]; rfl⟩
theorem of_pinsAt {fp : List Addr} {h : Heap} {p : Addr × Obj} (hp : p ∈ pinsAt fp h) : p.1 ∈ fp ∧ h.get? p.1 = some p.2 := by
  obtain ⟨b, hb, e⟩ := List.mem_filterMap.mp hp
  cases q : h.get? b with
  | none => rw [q] at e; cases e
  | some o =>
    rw [q] at e
    have e' : (b, o) = p := Option.some.inj e
    subst e'
    exact ⟨hb, q⟩
theorem Inv.pinned {pins : List (Addr × Obj)} {σ : St} {H : Hp} {s : Shared} {fp : List Addr} (I : Inv X pins σ H s) (hf : ∀ b ∈ fp, FpOk X pins H b) (ho : ∀ b ∈ fp, ∃ o, s.heap.get? b = some o ∧ ∀ v, o.data ≠ .cell v) : Inv X (pins ++ pinsAt fp s.heap) σ H s :=
  I.pins_of fun p hp => (List.mem_append.mp hp).elim (fun z => I.pin p (List.mem_append_right _ z)) fun z => by
    obtain ⟨hb, e⟩ := of_pinsAt z
    obtain ⟨f0, f1, f2, _⟩ := hf p.1 hb
    obtain ⟨o, e', d⟩ := ho p.1 hb
    rw [e] at e'; cases e'
    exact ⟨e, f0, f1, f2, d⟩
theorem Inv.unpinned {pins pl : List (Addr × Obj)} {σ : St} {H : Hp} {s : Shared} (I : Inv X (pins ++ pl) σ H s) : Inv X pins σ H s := I.pins_of fun p hp => I.pin p (List.mem_append_right _ (List.mem_append_left _ hp))
theorem ps_for {iter : Expr} {body : List Stmt} {wi : TI} {g : TG} {tb : TS} {pos : Pos} (hp : PassesOwn (model X.prog X.w) X.A X.env X.xe) (hc : X.calm = true) (hi : PI X tg iter wi) (hg : PG X tg g) (hb : PSs X body tb)
    (hs : ∀ x, foldedSetIterable iter X.env x = pure x := by intro _; rfl) : PS X (.For tg iter body [] pos) (tFor wi g tb) := by
  intro pins s σ H D I h
  refine wpAny_For (thn (hi pins s σ H _ I h) fun v s1 h1 => thn h1 fun itv s2 h2 => ?_) hs
  obtain ⟨it, fp, tn, J, H2, e, I2, T, st2, f2, W, ⟨m0, w0⟩, turn⟩ := h2
  subst e
  -- what stays true of the iterator's objects through the loop
  have stat : ∀ {H' : Hp}, (∀ b ∈ fp, H' b = none) → ∀ b ∈ fp, FpOk X pins H' b := fun hn b hb => ⟨hn b hb, (f2 b hb).2⟩
  refine codeAny_forLoop_any (fun n s' => ∃ i σ' H', Inv X pins σ' H' s' ∧ tn i s'.heap ∧ (∀ b ∈ fp, H' b = none) ∧ W i n σ' H') ?_ m0 ⟨0, σ, H2, I2, st2, fun b hb => (f2 b hb).1, w0⟩
  rintro n s3 ⟨i, σ3, H3, I3, st3, fr3, w3⟩
  rcases turn i n σ3 H3 w3 with ⟨stop, qn⟩ | ⟨go, N, hN, step⟩
  · refine wpAny_passesOwn hp (thn (T.done X rfl rfl rfl hc i pins s3 σ3 H3 X.xe I3 (stat fr3) st3 stop) fun r s4 ⟨hr, I4⟩ => ?_)
    subst hr
    exact wpAny_execs_nil ⟨σ3, H3, I4, qn⟩
  · refine wpAny_passesOwn hp (thn (T.item X rfl rfl rfl hc i pins s3 σ3 H3 X.xe I3 (stat fr3) st3 go) fun r s4 ⟨u, hr, h4⟩ => ?_)
    subst hr
    refine wpAny_passesOwn hp (thn h4 fun _ s5 ⟨x, H5, I5, r5, y5, st5, fr5⟩ => ?_)
    have I5' := I5.pinned (stat fr5) (T.obj _ _ st5)
    refine wpAny_passesOwn hp (thn (hg _ s5 σ3 H5 x u _ I5' r5 (step x H5 y5)) fun _ s6 ⟨σ6, H6, I6, q6⟩ => ?_)
    refine wpAny_passesOwn hp (thn (hb _ s6 σ6 H6 _ I6 q6) fun f s7 q7 => ?_)
    have again : ∀ {σ7 : St} {H7 : Hp}, Inv X (pins ++ pinsAt fp s5.heap) σ7 H7 s7 → N σ7 H7 → ∃ m, m < n ∧ ∃ i σ' H', Inv X pins σ' H' s7 ∧ tn i s7.heap ∧ (∀ b ∈ fp, H' b = none) ∧ W i m σ' H' := fun {σ7 H7} I7 n7 => by
      obtain ⟨m', hm, w7⟩ := hN σ7 H7 n7
      refine ⟨m', hm, i + 1, σ7, H7, I7.unpinned, T.keep _ _ _ st5 fun b hb o e => (I7.pin (b, o) (List.mem_append_right _ (List.mem_append_right _ (mem_pinsAt hb e)))).1, fun b hb => ?_, w7⟩
      obtain ⟨o, e, d⟩ := T.obj _ _ st5 b hb
      exact (I7.pin (b, o) (List.mem_append_right _ (List.mem_append_right _ (mem_pinsAt hb e)))).2.1
    cases f with
    | next => obtain ⟨σ7, H7, I7, n7⟩ := q7; exact again I7 n7
    | cont => obtain ⟨σ7, H7, I7, n7⟩ := q7; exact again I7 n7
    | brk => obtain ⟨σ7, H7, I7, q7⟩ := q7; exact ⟨σ7, H7, I7.unpinned, q7⟩
    | ret v => obtain ⟨x7, σ7, H7, I7, r7, q7⟩ := q7; exact ⟨x7, σ7, H7, I7.unpinned, r7, q7⟩
end

/-! ### the forms one uses -/
/-- over a list that the body leaves as it is -/
theorem for_list {K : PySem.W.Frag} {a : Addr} {xs : List V} {g : TG} {tb : TS} {D : Ends} {σ : St} {H : Hp} (Pv : Nat → St → Hp → Prop) (h0 : Pv 0 σ H) (hl : ∀ i σ H, i ≤ xs.length → Pv i σ H → SqL K H a xs)
    (hs : ∀ i x σ H, xs[i]? = some x → Pv i σ H → g x σ H fun σ2 H2 => tb { D with nx := Pv (i + 1), ct := Pv (i + 1), bk := D.nx } σ2 H2) (hd : ∀ σ H, Pv xs.length σ H → D.nx σ H) :
    ∃ W : Nat → Nat → St → Hp → Prop, (∃ m, W 0 m σ H) ∧ ∀ i m σ H, W i m σ H →
      ((Itl K a).stop i H ∧ D.nx σ H) ∨ ((Itl K a).go i H ∧ ∃ N : St → Hp → Prop, (∀ σ' H', N σ' H' → ∃ m', m' < m ∧ W (i + 1) m' σ' H') ∧ ∀ x H', (Itl K a).yld i H x H' → g x σ H' fun σ2 H2 => tb { D with nx := N, ct := N, bk := D.nx } σ2 H2) := by
  refine ⟨fun i m σ H => m = xs.length - i ∧ i ≤ xs.length ∧ Pv i σ H, ⟨xs.length, by simp, Nat.zero_le _, h0⟩, ?_⟩
  rintro i m σ H ⟨rfl, hi, p⟩
  have q := hl i σ H hi p
  by_cases hlt : i < xs.length
  · refine .inr ⟨⟨xs, xs[i], q, by simp [hlt]⟩, Pv (i + 1), fun σ' H' p' => ⟨xs.length - (i + 1), by omega, rfl, hlt, p'⟩, fun x H' y => ?_⟩
    obtain ⟨e, y⟩ := y
    subst e
    exact hs i x σ _ (y xs q) p
  · have e : i = xs.length := by omega
    subst e
    exact .inl ⟨⟨xs, q, Nat.le_refl _⟩, hd σ H p⟩
theorem for_tup {K : PySem.W.Frag} {a : Addr} {xs : List V} {g : TG} {tb : TS} {D : Ends} {σ : St} {H : Hp} (Pv : Nat → St → Hp → Prop) (h0 : Pv 0 σ H) (hl : ∀ i σ H, i ≤ xs.length → Pv i σ H → SqT K H a xs)
    (hs : ∀ i x σ H, xs[i]? = some x → Pv i σ H → g x σ H fun σ2 H2 => tb { D with nx := Pv (i + 1), ct := Pv (i + 1), bk := D.nx } σ2 H2) (hd : ∀ σ H, Pv xs.length σ H → D.nx σ H) :
    ∃ W : Nat → Nat → St → Hp → Prop, (∃ m, W 0 m σ H) ∧ ∀ i m σ H, W i m σ H →
      ((Itt K a).stop i H ∧ D.nx σ H) ∨ ((Itt K a).go i H ∧ ∃ N : St → Hp → Prop, (∀ σ' H', N σ' H' → ∃ m', m' < m ∧ W (i + 1) m' σ' H') ∧ ∀ x H', (Itt K a).yld i H x H' → g x σ H' fun σ2 H2 => tb { D with nx := N, ct := N, bk := D.nx } σ2 H2) := by
  refine ⟨fun i m σ H => m = xs.length - i ∧ i ≤ xs.length ∧ Pv i σ H, ⟨xs.length, by simp, Nat.zero_le _, h0⟩, ?_⟩
  rintro i m σ H ⟨rfl, hi, p⟩
  have q := hl i σ H hi p
  by_cases hlt : i < xs.length
  · refine .inr ⟨⟨xs, xs[i], q, by simp [hlt]⟩, Pv (i + 1), fun σ' H' p' => ⟨xs.length - (i + 1), by omega, rfl, hlt, p'⟩, fun x H' y => ?_⟩
    obtain ⟨e, y⟩ := y
    subst e
    exact hs i x σ _ (y xs q) p
  · have e : i = xs.length := by omega
    subst e
    exact .inl ⟨⟨xs, q, Nat.le_refl _⟩, hd σ H p⟩
theorem for_range {lo : Int} {n : Nat} {g : TG} {tb : TS} {D : Ends} {σ : St} {H : Hp} (Pv : Nat → St → Hp → Prop) (h0 : Pv 0 σ H)
    (hs : ∀ i σ H, i < n → Pv i σ H → g (.int (lo + i)) σ H fun σ2 H2 => tb { D with nx := Pv (i + 1), ct := Pv (i + 1), bk := D.nx } σ2 H2) (hd : ∀ σ H, Pv n σ H → D.nx σ H) :
    ∃ W : Nat → Nat → St → Hp → Prop, (∃ m, W 0 m σ H) ∧ ∀ i m σ H, W i m σ H →
      ((Itr lo n).stop i H ∧ D.nx σ H) ∨ ((Itr lo n).go i H ∧ ∃ N : St → Hp → Prop, (∀ σ' H', N σ' H' → ∃ m', m' < m ∧ W (i + 1) m' σ' H') ∧ ∀ x H', (Itr lo n).yld i H x H' → g x σ H' fun σ2 H2 => tb { D with nx := N, ct := N, bk := D.nx } σ2 H2) := by
  refine ⟨fun i m σ H => m = n - i ∧ i ≤ n ∧ Pv i σ H, ⟨n, by simp, Nat.zero_le _, h0⟩, ?_⟩
  rintro i m σ H ⟨rfl, hi, p⟩
  by_cases hlt : i < n
  · refine .inr ⟨hlt, Pv (i + 1), fun σ' H' p' => ⟨n - (i + 1), by omega, rfl, hlt, p'⟩, fun x H' y => ?_⟩
    obtain ⟨e, y⟩ := y
    subst e y
    exact hs i σ _ hlt p
  · have e : i = n := by omega
    subst e
    exact .inl ⟨Nat.le_refl _, hd σ H p⟩
/-- while, by a word and a measure of the state -/
theorem while_by {c : TT} {tb : TS} {D : Ends} {σ : St} {H : Hp} (Pv : St → Hp → Prop) (μ : St → Hp → Nat) (h0 : Pv σ H)
    (hs : ∀ σ H, Pv σ H → c σ H fun b H1 => if b = true then tb { D with nx := fun σ' H' => Pv σ' H' ∧ μ σ' H' < μ σ H, ct := fun σ' H' => Pv σ' H' ∧ μ σ' H' < μ σ H, bk := D.nx } σ H1 else D.nx σ H1)
    (mono : ∀ σ H Q Q', (∀ b H1, Q b H1 → Q' b H1) → c σ H Q → c σ H Q') : tWhile c tb D σ H := by
  refine ⟨fun m σ H => m = μ σ H ∧ Pv σ H, ⟨_, rfl, h0⟩, ?_⟩
  rintro m σ H ⟨rfl, p⟩
  refine mono σ H _ _ (fun b H1 q => ?_) (hs σ H p)
  cases b with
  | true => exact ⟨_, fun σ' H' ⟨p', l⟩ => ⟨_, l, rfl, p'⟩, q⟩
  | false => exact q
end L2

namespace L2
open PySem PySem.Spec PyProof.Rows

abbrev R2 := V → V → Hp → VK → Prop
/-- a two-place operation on values: f is binaryOp op, inplaceOp op or compareOp op -/
def OpR (X : Cx) (f : Value → Value → Sem Value) (r : R2) : Prop :=
  ∀ (pins : List (Addr × Obj)) (s : Shared) (σ : St) (H : Hp) (x y : V) (v u : Value) (Q : VK), Inv X pins σ H s → RelV x v → RelV y u → r x y H Q →
    wpAny (model X.prog X.w) X.A (f v u) (EP X pins σ Q) X.xe s
/-- a one-place operation -/
def UnR (X : Cx) (f : Value → Sem Value) (r : V → Hp → VK → Prop) : Prop :=
  ∀ (pins : List (Addr × Obj)) (s : Shared) (σ : St) (H : Hp) (x : V) (v : Value) (Q : VK), Inv X pins σ H s → RelV x v → r x H Q →
    wpAny (model X.prog X.w) X.A (f v) (EP X pins σ Q) X.xe s
/-- a call of a value that is known (a builtin, a type) with values -/
def CallR (X : Cx) (f : Value) (r : List V → Hp → VK → Prop) : Prop :=
  ∀ (pins : List (Addr × Obj)) (s : Shared) (σ : St) (H : Hp) (xs : List V) (us : List Value) (Q : VK), Inv X pins σ H s → Vals xs us → r xs H Q →
    wpAny (model X.prog X.w) X.A (call f us) (EP X pins σ Q) X.xe s
/-- a value's truth -/
def TruR (X : Cx) (r : V → Hp → (Bool → Hp → Prop) → Prop) : Prop :=
  ∀ (pins : List (Addr × Obj)) (s : Shared) (σ : St) (H : Hp) (x : V) (v : Value) (Q : Bool → Hp → Prop), Inv X pins σ H s → RelV x v → r x H Q →
    wpAny (model X.prog X.w) X.A (truthy v) (TP X pins σ Q) X.xe s

def tOp (r : R2) (ta tb : TE) : TE := fun σ H Q => ta σ H fun x H1 => tb σ H1 fun y H2 => r x y H2 Q
def tUn (r : V → Hp → VK → Prop) (ta : TE) : TE := fun σ H Q => ta σ H fun x H1 => r x H1 Q
/-- ints in, under C, and a value out -/
def rI (C : Int → Int → Prop) (g : Int → Int → V) : R2 := fun x y H Q => ∃ i j, x = .int i ∧ y = .int j ∧ C i j ∧ Q (g i j) H
def rI0 (g : Int → Int → V) : R2 := fun x y H Q => ∃ i j, x = .int i ∧ y = .int j ∧ Q (g i j) H
def rU (g : Int → V) : V → Hp → VK → Prop := fun x H Q => ∃ i, x = .int i ∧ Q (g i) H

section
variable {X : Cx} {a b c : Expr} {ta tb tc : TE} {pos : Pos}

theorem binT (ha : PE X a ta) (hb : PE X b tb) {pins : List (Addr × Obj)} {s : Shared} {σ : St} {H : Hp} {R : V → V → Hp → Prop} (I : Inv X pins σ H s)
    (h : ta σ H fun x H1 => tb σ H1 fun y H2 => R x y H2) {Q : Value → Shared → Prop} {f : Value → Value → Sem Value}
    (hf : ∀ v u s2 x y H2, Inv X pins σ H2 s2 → RelV x v → RelV y u → R x y H2 → wpAny (model X.prog X.w) X.A (f v u) Q X.xe s2) :
    wpAny (model X.prog X.w) X.A (eval a X.env) (fun v s₁ => wpAny (model X.prog X.w) X.A (eval b X.env) (fun u s₂ => wpAny (model X.prog X.w) X.A (f v u) Q X.xe s₂) X.xe s₁) X.xe s := by
  refine thn (ha pins s σ H _ I h) fun v s1 ⟨x, H1, I1, r1, q1⟩ => ?_
  refine thn (hb pins s1 σ H1 _ I1 q1) fun u s2 ⟨y, H2, I2, r2, q2⟩ => ?_
  exact hf v u s2 x y H2 I2 r1 r2 q2

theorem pe_op {op : Operator} {r : R2} (ho : OpR X (binaryOp op) r) (ha : PE X a ta) (hb : PE X b tb) : PE X (.BinOp a op b pos) (tOp r ta tb) := by
  intro pins s σ H Q I h
  exact wpAny_BinOp (binT ha hb I h fun v u s2 x y H2 I2 rx ry q => ho pins s2 σ H2 x y v u Q I2 rx ry q)
theorem pe_un {op : UnaryOp} {r : V → Hp → VK → Prop} (ho : UnR X (unaryOp op) r) (ha : PE X a ta) : PE X (.UnaryOp op a pos) (tUn r ta) := by
  intro pins s σ H Q I h
  exact UnaryOp_ (thn (ha pins s σ H _ I h) fun v s1 ⟨x, H1, I1, r1, q1⟩ => ho pins s1 σ H1 x v Q I1 r1 q1)
/-- a op= e at a name: the name's slot i -/
theorem augR {op : Operator} {r : R2} (ho : OpR X (inplaceOp op) r) {pins : List (Addr × Obj)} {s : Shared} {σ : St} {H : Hp} {x y : V} {v u : Value} {Q : VK} (I : Inv X pins σ H s)
    (rx : RelV x v) (ry : RelV y u) (q : r x y H Q) : wpAny (model X.prog X.w) X.A (inplaceOp op v u) (EP X pins σ Q) X.xe s := ho pins s σ H x y v u Q I rx ry q

/-! ### ints -/
theorem opI {f : Value → Value → Sem Value} {C : Int → Int → Prop} {g : Int → Int → Int}
    (rule : ∀ (i j : Int) (t u : Tok) (s : Shared) (Q : Value → Shared → Prop) (E : Value → Shared → Prop), C i j → Q (.int (g i j) s.toks) { s with toks := s.toks + 1 } → wpAny (model X.prog X.w) X.A (f (.int i t) (.int j u)) Q E s) :
    OpR X f (rI C fun i j => .int (g i j)) := by
  intro pins s σ H x y v u Q I rx ry h
  obtain ⟨i, j, rfl, rfl, hc, q⟩ := h
  obtain ⟨t, rfl⟩ := rx
  obtain ⟨t', rfl⟩ := ry
  exact rule i j t t' s _ _ hc ⟨.int (g i j), H, I.tok _, ⟨_, rfl⟩, q⟩
theorem opI0 {f : Value → Value → Sem Value} {g : Int → Int → Int}
    (rule : ∀ (i j : Int) (t u : Tok) (s : Shared) (Q : Value → Shared → Prop) (E : Value → Shared → Prop), Q (.int (g i j) s.toks) { s with toks := s.toks + 1 } → wpAny (model X.prog X.w) X.A (f (.int i t) (.int j u)) Q E s) :
    OpR X f (rI0 fun i j => .int (g i j)) := by
  intro pins s σ H x y v u Q I rx ry h
  obtain ⟨i, j, rfl, rfl, q⟩ := h
  obtain ⟨t, rfl⟩ := rx
  obtain ⟨t', rfl⟩ := ry
  exact rule i j t t' s _ _ ⟨.int (g i j), H, I.tok _, ⟨_, rfl⟩, q⟩
theorem opB0 {f : Value → Value → Sem Value} {g : Int → Int → Bool}
    (rule : ∀ (i j : Int) (t u : Tok) (s : Shared) (Q : Value → Shared → Prop) (E : Value → Shared → Prop), Q (.bool (g i j)) s → wpAny (model X.prog X.w) X.A (f (.int i t) (.int j u)) Q E s) :
    OpR X f (rI0 fun i j => .bl (g i j)) := by
  intro pins s σ H x y v u Q I rx ry h
  obtain ⟨i, j, rfl, rfl, q⟩ := h
  obtain ⟨t, rfl⟩ := rx
  obtain ⟨t', rfl⟩ := ry
  exact rule i j t t' s _ _ ⟨.bl (g i j), H, I, rfl, q⟩

def CDiv (i j : Int) : Prop := 0 < j ∧ j < 1073741824
def CDivN (i j : Int) : Prop := j ≠ 0 ∧ j.natAbs < 1073741824
def CPow (i j : Int) : Prop := 0 ≤ j ∧ j ≤ 1000000 ∧ i.natAbs < 2 ^ 64
def CMul (i j : Int) : Prop := (-(2 ^ 64) < i ∧ i < 2 ^ 64) ∨ (-(2 ^ 64) < j ∧ j < 2 ^ 64)
theorem CMul.ok {i j : Int} (h : CMul i j) : IntMulOk i j := by
  rcases h with ⟨h1, h2⟩ | ⟨h1, h2⟩
  · exact .of_left (intBits_le_64 h1 h2)
  · exact .of_right (intBits_le_64 h1 h2)
theorem two_pow_nn (k : Nat) : (0 : Int) ≤ 2 ^ k := by
  rw [two_pow_cast]
  exact Int.natCast_nonneg _

theorem op_add : OpR X (binaryOp .Add) (rI0 fun i j => .int (i + j)) := opI0 fun _ _ _ _ _ _ _ q => add_int q
theorem op_sub : OpR X (binaryOp .Sub) (rI0 fun i j => .int (i - j)) := opI0 fun _ _ _ _ _ _ _ q => sub_int q
theorem op_mul : OpR X (binaryOp .Mult) (rI CMul fun i j => .int (i * j)) := opI fun _ _ _ _ _ _ _ hc q => mul_int q hc.ok
/-- // by a positive divisor -/
theorem op_fdiv : OpR X (binaryOp .FloorDiv) (rI CDiv fun i j => .int (i / j)) := opI fun i j _ _ _ _ _ hc q => by
  have h1 : (0 : Int) < j := hc.1
  have h2 : j < 1073741824 := hc.2
  exact floordiv_int (by omega) (by rw [Int.fdiv_eq_ediv_of_nonneg i (by omega)]; exact q) (.inl (PyProof.noPylong_small (by omega)))
theorem op_fdivN : OpR X (binaryOp .FloorDiv) (rI CDivN fun i j => .int (i.fdiv j)) := opI fun _ _ _ _ _ _ _ hc q => floordiv_int hc.1 q (.inl (PyProof.noPylong_small hc.2))
/-- % by a positive divisor of any size -/
theorem op_mod : OpR X (binaryOp .Mod) (rI (fun _ j => 0 < j) fun i j => .int (i % j)) := opI fun i j _ _ _ _ _ hc q => by
  have h1 : (0 : Int) < j := hc
  exact mod_int' (by omega) (by rw [Int.fmod_eq_emod_of_nonneg i (by omega)]; exact q)
theorem op_modN : OpR X (binaryOp .Mod) (rI (fun _ j => j ≠ 0) fun i j => .int (i.fmod j)) := opI fun _ _ _ _ _ _ _ hc q => mod_int' hc q
theorem op_pow : OpR X (binaryOp .Pow) (rI CPow fun i j => .int (i ^ j.toNat)) := opI fun _ _ _ _ _ _ _ hc q => pow_int_small hc.1 hc.2.1 hc.2.2 q
theorem op_shl : OpR X (binaryOp .LShift) (rI CPow fun i j => .int (i * 2 ^ j.toNat)) := opI fun _ _ _ _ _ _ _ hc q => lshift_int_small hc.1 hc.2.1 hc.2.2 q
theorem op_shr : OpR X (binaryOp .RShift) (rI (fun _ j => 0 ≤ j) fun i j => .int (i / 2 ^ j.toNat)) := opI fun i j _ _ _ _ _ hc q =>
  rshift_int hc (by rw [Int.fdiv_eq_ediv_of_nonneg i (two_pow_nn _)]; exact q)
theorem op_and : OpR X (binaryOp .BitAnd) (rI0 fun i j => .int (Builtin.bitAnd i j)) := opI0 fun _ _ _ _ _ _ _ q => and_int q
theorem op_or : OpR X (binaryOp .BitOr) (rI0 fun i j => .int (Builtin.bitOr i j)) := opI0 fun _ _ _ _ _ _ _ q => or_int q
theorem op_xor : OpR X (binaryOp .BitXor) (rI0 fun i j => .int (Builtin.bitXor i j)) := opI0 fun _ _ _ _ _ _ _ q => xor_int q

theorem iop_add : OpR X (inplaceOp .Add) (rI0 fun i j => .int (i + j)) := opI0 fun _ _ _ _ _ _ _ q => iadd_int q
theorem iop_sub : OpR X (inplaceOp .Sub) (rI0 fun i j => .int (i - j)) := opI0 fun _ _ _ _ _ _ _ q => isub_int q
theorem iop_mul : OpR X (inplaceOp .Mult) (rI CMul fun i j => .int (i * j)) := opI fun _ _ _ _ _ _ _ hc q => imul_int q hc.ok
theorem iop_fdiv : OpR X (inplaceOp .FloorDiv) (rI CDiv fun i j => .int (i / j)) := opI fun i j _ _ _ _ _ hc q => by
  have h1 : (0 : Int) < j := hc.1
  have h2 : j < 1073741824 := hc.2
  exact ifloordiv_int (by omega) (by rw [Int.fdiv_eq_ediv_of_nonneg i (by omega)]; exact q) (.inl (PyProof.noPylong_small (by omega)))
theorem iop_mod : OpR X (inplaceOp .Mod) (rI (fun _ j => 0 < j) fun i j => .int (i % j)) := opI fun i j _ _ _ _ _ hc q => by
  have h1 : (0 : Int) < j := hc
  exact imod_int (by omega) (by rw [Int.fmod_eq_emod_of_nonneg i (by omega)]; exact q)
theorem iop_shl : OpR X (inplaceOp .LShift) (rI CPow fun i j => .int (i * 2 ^ j.toNat)) := opI fun _ _ _ _ _ _ _ hc q => ilshift_int_small hc.1 hc.2.1 hc.2.2 q
theorem iop_shr : OpR X (inplaceOp .RShift) (rI (fun _ j => 0 ≤ j) fun i j => .int (i / 2 ^ j.toNat)) := opI fun i j _ _ _ _ _ hc q =>
  irshift_int hc (by rw [Int.fdiv_eq_ediv_of_nonneg i (two_pow_nn _)]; exact q)
theorem iop_and : OpR X (inplaceOp .BitAnd) (rI0 fun i j => .int (Builtin.bitAnd i j)) := opI0 fun _ _ _ _ _ _ _ q => iand_int q
theorem iop_or : OpR X (inplaceOp .BitOr) (rI0 fun i j => .int (Builtin.bitOr i j)) := opI0 fun _ _ _ _ _ _ _ q => ior_int q
theorem iop_xor : OpR X (inplaceOp .BitXor) (rI0 fun i j => .int (Builtin.bitXor i j)) := opI0 fun _ _ _ _ _ _ _ q => ixor_int q

theorem unI {f : Value → Sem Value} {g : Int → Int}
    (rule : ∀ (i : Int) (t : Tok) (s : Shared) (Q : Value → Shared → Prop) (E : Value → Shared → Prop), Q (.int (g i) s.toks) { s with toks := s.toks + 1 } → wpAny (model X.prog X.w) X.A (f (.int i t)) Q E s) :
    UnR X f (rU fun i => .int (g i)) := by
  intro pins s σ H x v Q I rx h
  obtain ⟨i, rfl, q⟩ := h
  obtain ⟨t, rfl⟩ := rx
  exact rule i t s _ _ ⟨.int (g i), H, I.tok _, ⟨_, rfl⟩, q⟩
theorem un_neg : UnR X (unaryOp .USub) (rU fun i => .int (-i)) := unI fun _ _ _ _ _ q => neg_int q
theorem un_inv : UnR X (unaryOp .Invert) (rU fun i => .int (Builtin.bitNot i)) := unI fun _ _ _ _ _ q => invert_int q

/-! ### bools among ints: n += (a < b) -/
theorem op_add_ib : OpR X (binaryOp .Add) (fun x y H Q => ∃ i k, x = .int i ∧ y = .bl k ∧ Q (.int (i + b2i k)) H) := by
  intro pins s σ H x y v u Q I rx ry h
  obtain ⟨i, k, rfl, rfl, q⟩ := h
  obtain ⟨t, rfl⟩ := rx
  cases ry
  exact add_int_bool ⟨.int (i + b2i k), H, I.tok _, ⟨_, rfl⟩, q⟩
end

/-! ### comparisons -/
/-- the scalars that == tells apart as data does -/
def scal : V → V → Bool
  | .non, .non => true | .non, .int _ => true | .int _, .non => true | .non, .bl _ => true | .bl _, .non => true | .non, .str _ => true | .str _, .non => true
  | .int _, .int _ => true | .bl _, .bl _ => true | .str _, .str _ => true | .byt _, .byt _ => true
  | .int _, .str _ => true | .str _, .int _ => true | .bl _, .str _ => true | .str _, .bl _ => true
  | _, _ => false
def rEq : R2 := fun x y H Q => scal x y = true ∧ Q (.bl (decide (x = y))) H
def rNe : R2 := fun x y H Q => scal x y = true ∧ Q (.bl (!decide (x = y))) H

theorem dec_int {i j : Int} : decide (V.int i = V.int j) = (i == j) := by
  rw [Bool.eq_iff_iff]
  simp
theorem dec_bl {i j : Bool} : decide (V.bl i = V.bl j) = (i == j) := by
  rw [Bool.eq_iff_iff]
  simp
theorem dec_str {i j : Str} : decide (V.str i = V.str j) = (i == j) := by
  rw [Bool.eq_iff_iff]
  simp
theorem dec_byt {i j : Array UInt8} : decide (V.byt i = V.byt j) = (i.toList == j.toList) := by
  rw [Bool.eq_iff_iff]
  cases i
  cases j
  simp

section
variable {X : Cx} {a b c : Expr} {ta tb tc : TE} {pos : Pos}
theorem fin_bl {pins : List (Addr × Obj)} {σ : St} {H : Hp} {s : Shared} {Q : VK} {k k' : Bool} (I : Inv X pins σ H s) (q : Q (.bl k) H) (e : k = k') : EP X pins σ Q (.bool k') s := by
  subst e
  exact ⟨.bl k, H, I, rfl, q⟩
theorem op_eq : OpR X (compareOp .Eq) rEq := by
  intro pins s σ H x y v u Q I rx ry h
  obtain ⟨hs, q⟩ := h
  cases x with
  | non =>
    cases rx
    cases y with
    | non => cases ry; exact PySem.EqNone.eq_none_none (fin_bl I q (by simp))
    | bl j => cases ry; exact PySem.EqNone.eq_none_bool (fin_bl I q (by simp))
    | int j => obtain ⟨t', rfl⟩ := ry; exact PySem.EqNone.eq_none_int (fin_bl I q (by simp))
    | str j => obtain ⟨t', rfl⟩ := ry; exact PySem.EqNone.eq_none_str (fin_bl I q (by simp))
    | _ => exact absurd (show false = true from hs) Bool.false_ne_true
  | bl i =>
    cases rx
    cases y with
    | non => cases ry; exact PySem.EqNone.eq_bool_none (fin_bl I q (by simp))
    | bl j => cases ry; exact eq_bool (fin_bl I q dec_bl)
    | str j => obtain ⟨t', rfl⟩ := ry; exact PySem.EqMixed.eq_bool_str (fin_bl I q (by simp))
    | _ => exact absurd (show false = true from hs) Bool.false_ne_true
  | int i =>
    obtain ⟨t, rfl⟩ := rx
    cases y with
    | non => cases ry; exact PySem.EqNone.eq_int_none (fin_bl I q (by simp))
    | int j => obtain ⟨t', rfl⟩ := ry; exact eq_int (fin_bl I q dec_int)
    | str j => obtain ⟨t', rfl⟩ := ry; exact PySem.EqMixed.eq_int_str (fin_bl I q (by simp))
    | _ => exact absurd (show false = true from hs) Bool.false_ne_true
  | str i =>
    obtain ⟨t, rfl⟩ := rx
    cases y with
    | non => cases ry; exact PySem.EqNone.eq_str_none (fin_bl I q (by simp))
    | bl j => cases ry; exact PySem.EqMixed.eq_str_bool (fin_bl I q (by simp))
    | int j => obtain ⟨t', rfl⟩ := ry; exact PySem.EqMixed.eq_str_int (fin_bl I q (by simp))
    | str j => obtain ⟨t', rfl⟩ := ry; exact eq_str (fin_bl I q dec_str)
    | _ => exact absurd (show false = true from hs) Bool.false_ne_true
  | byt i =>
    obtain ⟨t, rfl⟩ := rx
    cases y with
    | byt j => obtain ⟨t', rfl⟩ := ry; exact PySem.W.eq_bytes (fin_bl I q dec_byt)
    | _ => exact absurd (show false = true from hs) Bool.false_ne_true
  | _ => cases y <;> exact absurd (show false = true from hs) Bool.false_ne_true
theorem op_ne : OpR X (compareOp .NotEq) rNe := by
  intro pins s σ H x y v u Q I rx ry h
  obtain ⟨hs, q⟩ := h
  cases x with
  | non =>
    cases rx
    cases y with
    | non => cases ry; exact PySem.EqNone.ne_none_none (fin_bl I q (by simp))
    | bl j => cases ry; exact PySem.EqNone.ne_none_bool (fin_bl I q (by simp))
    | int j => obtain ⟨t', rfl⟩ := ry; exact PySem.EqNone.ne_none_int (fin_bl I q (by simp))
    | str j => obtain ⟨t', rfl⟩ := ry; exact PySem.EqNone.ne_none_str (fin_bl I q (by simp))
    | _ => exact absurd (show false = true from hs) Bool.false_ne_true
  | bl i =>
    cases rx
    cases y with
    | non => cases ry; exact PySem.EqNone.ne_bool_none (fin_bl I q (by simp))
    | bl j => cases ry; exact ne_bool (fin_bl I q (congrArg not dec_bl))
    | str j => obtain ⟨t', rfl⟩ := ry; exact PySem.EqMixed.ne_bool_str (fin_bl I q (by simp))
    | _ => exact absurd (show false = true from hs) Bool.false_ne_true
  | int i =>
    obtain ⟨t, rfl⟩ := rx
    cases y with
    | non => cases ry; exact PySem.EqNone.ne_int_none (fin_bl I q (by simp))
    | int j => obtain ⟨t', rfl⟩ := ry; exact ne_int (fin_bl I q (congrArg not dec_int))
    | str j => obtain ⟨t', rfl⟩ := ry; exact PySem.EqMixed.ne_int_str (fin_bl I q (by simp))
    | _ => exact absurd (show false = true from hs) Bool.false_ne_true
  | str i =>
    obtain ⟨t, rfl⟩ := rx
    cases y with
    | non => cases ry; exact PySem.EqNone.ne_str_none (fin_bl I q (by simp))
    | bl j => cases ry; exact PySem.EqMixed.ne_str_bool (fin_bl I q (by simp))
    | int j => obtain ⟨t', rfl⟩ := ry; exact PySem.EqMixed.ne_str_int (fin_bl I q (by simp))
    | str j => obtain ⟨t', rfl⟩ := ry; exact ne_str (fin_bl I q (congrArg not dec_str))
    | _ => exact absurd (show false = true from hs) Bool.false_ne_true
  | byt i =>
    obtain ⟨t, rfl⟩ := rx
    cases y with
    | byt j => obtain ⟨t', rfl⟩ := ry; exact PySem.W.ne_bytes (fin_bl I q (congrArg not dec_byt))
    | _ => exact absurd (show false = true from hs) Bool.false_ne_true
  | _ => cases y <;> exact absurd (show false = true from hs) Bool.false_ne_true

theorem op_lt : OpR X (compareOp .Lt) (rI0 fun i j => .bl (decide (i < j))) := opB0 fun _ _ _ _ _ _ _ q => lt_int q
theorem op_le : OpR X (compareOp .LtE) (rI0 fun i j => .bl (decide (i ≤ j))) := opB0 fun _ _ _ _ _ _ _ q => le_int q
theorem op_gt : OpR X (compareOp .Gt) (rI0 fun i j => .bl (decide (j < i))) := opB0 fun _ _ _ _ _ _ _ q => gt_int q
theorem op_ge : OpR X (compareOp .GtE) (rI0 fun i j => .bl (decide (j ≤ i))) := opB0 fun _ _ _ _ _ _ _ q => ge_int q
theorem op_lt_str : OpR X (compareOp .Lt) (fun x y H Q => ∃ i j, x = .str i ∧ y = .str j ∧ Q (.bl (decide (i.cps.toList < j.cps.toList))) H) := by
  intro pins s σ H x y v u Q I rx ry h
  obtain ⟨i, j, rfl, rfl, q⟩ := h
  obtain ⟨t, rfl⟩ := rx
  obtain ⟨t', rfl⟩ := ry
  exact lt_str (fin_bl I q rfl)
/-- the one string within the other -/
theorem op_in_str : OpR X (compareOp .In) (fun x y H Q => ∃ i j, x = .str i ∧ y = .str j ∧ Q (.bl (!(Builtin.Str.occurrences j i 0 j.length 1).isEmpty)) H) := by
  intro pins s σ H x y v u Q I rx ry h
  obtain ⟨i, j, rfl, rfl, q⟩ := h
  obtain ⟨t, rfl⟩ := rx
  obtain ⟨t', rfl⟩ := ry
  exact in_str (fin_bl I q rfl)

/-- is None, is not None: the right side a value none -/
theorem op_isN : OpR X (compareOp .Is) (fun x y H Q => y = .non ∧ Q (.bl (decide (x = .non))) H) := by
  intro pins s σ H x y v u Q I rx ry h
  obtain ⟨rfl, q⟩ := h
  cases ry
  refine is_none_gen (fin_bl I q ?_)
  cases x <;> first
    | (cases rx; rfl)
    | (obtain ⟨t, rfl⟩ := rx; rfl)
theorem op_notN : OpR X (compareOp .IsNot) (fun x y H Q => y = .non ∧ Q (.bl (!decide (x = .non))) H) := by
  intro pins s σ H x y v u Q I rx ry h
  obtain ⟨rfl, q⟩ := h
  cases ry
  refine isnot_none_gen (fin_bl I q ?_)
  cases x <;> first
    | (cases rx; rfl)
    | (obtain ⟨t, rfl⟩ := rx; rfl)

theorem op_notin_str : OpR X (compareOp .NotIn) (fun x y H Q => ∃ i j, x = .str i ∧ y = .str j ∧ Q (.bl (!(!(Builtin.Str.occurrences j i 0 j.length 1).isEmpty))) H) := by
  intro pins s σ H x y v u Q I rx ry h
  obtain ⟨i, j, rfl, rfl, q⟩ := h
  obtain ⟨t, rfl⟩ := rx
  obtain ⟨t', rfl⟩ := ry
  exact notIn_str (fin_bl I q rfl)
/-- is, is not of two objects that are tracked lists or instances -/
def isObj : HO → Bool
  | .lst _ => true
  | .ins _ _ _ => true
  | _ => false
theorem obj_there {pins : List (Addr × Obj)} {s : Shared} {σ : St} {H : Hp} {a : Addr} {o : HO} (I : Inv X pins σ H s) (h : H a = some o) (p : isObj o = true) : ∃ ob, s.heap.get? a = some ob ∧ ob.cls ≠ .type "tuple" := by
  cases o with
  | lst xs =>
    obtain ⟨_, its, n, _, e⟩ : xs.length ≤ sizeLine ∧ ∃ (its : List Value) (n : Nat), Vals xs its ∧ s.heap.get? a = some { cls := .type "list", data := .seq its.toArray n } := I.hok a _ h
    exact ⟨_, e, (by show Value.type "list" ≠ .type "tuple"; decide +kernel)⟩
  | ins C dx fs =>
    have x := I.hok a _ h
    obtain ⟨_, _, _, e, _⟩ := x
    exact ⟨_, e, (by show Value.ref C ≠ .type "tuple"; exact fun z => by cases z)⟩
  | _ => exact absurd (show false = true from p) Bool.false_ne_true
theorem op_is_ref : OpR X (compareOp .Is) (fun x y H Q => ∃ a b oa ob, x = .ref a ∧ y = .ref b ∧ H a = some oa ∧ isObj oa = true ∧ H b = some ob ∧ isObj ob = true ∧ Q (.bl (decide (a = b))) H) := by
  intro pins s σ H x y v u Q I rx ry h
  obtain ⟨a, b, oa, ob, rfl, rfl, ha, pa, hb, pb, q⟩ := h
  cases rx
  cases ry
  obtain ⟨o1, e1, n1⟩ := obj_there I ha pa
  obtain ⟨o2, e2, _⟩ := obj_there I hb pb
  by_cases z : a = b
  · subst z
    exact wpAny_is_ref_self (fin_bl I q (by simp))
  · exact wpAny_is_ref_other z e1 e2 n1 (fin_bl I q (by simp [z]))
theorem op_isnot_ref : OpR X (compareOp .IsNot) (fun x y H Q => ∃ a b oa ob, x = .ref a ∧ y = .ref b ∧ H a = some oa ∧ isObj oa = true ∧ H b = some ob ∧ isObj ob = true ∧ Q (.bl (!decide (a = b))) H) := by
  intro pins s σ H x y v u Q I rx ry h
  obtain ⟨a, b, oa, ob, rfl, rfl, ha, pa, hb, pb, q⟩ := h
  cases rx
  cases ry
  obtain ⟨o1, e1, n1⟩ := obj_there I ha pa
  obtain ⟨o2, e2, _⟩ := obj_there I hb pb
  by_cases z : a = b
  · subst z
    exact wpAny_isNot_ref_self (fin_bl I q (by simp))
  · exact wpAny_isNot_ref_other z e1 e2 n1 (fin_bl I q (by simp [z]))

/-- two rules for one operation: by cases -/
theorem OpR.or {f : Value → Value → Sem Value} {r r' : R2} (h : OpR X f r) (h' : OpR X f r') : OpR X f (fun x y H Q => r x y H Q ∨ r' x y H Q) := by
  intro pins s σ H x y v u Q I rx ry q
  rcases q with q | q
  · exact h pins s σ H x y v u Q I rx ry q
  · exact h' pins s σ H x y v u Q I rx ry q

theorem nomark (b : Expr) {op : CmpOp} (h : op ≠ .In := by decide) (h2 : op ≠ .NotIn := by decide) : behindInMarks op b = false := by
  have e1 : (op == CmpOp.In) = false := by cases op <;> first | rfl | exact absurd rfl h
  have e2 : (op == CmpOp.NotIn) = false := by cases op <;> first | rfl | exact absurd rfl h2
  cases b <;> simp [behindInMarks, e1, e2]
/-- a comparison as a value; hm: nomark b, or (for in, not in) by with_unfolding_all rfl -/
theorem pe_cmpR {op : CmpOp} {r : R2} (ho : OpR X (compareOp op) r) (ha : PE X a ta) (hb : PE X b tb) (hm : behindInMarks op b = false) : PE X (.Compare a [op] [b] pos) (tOp r ta tb) := by
  intro pins s σ H Q I h
  exact wpAny_Compare1 (binT ha hb I h fun v u s2 x y H2 I2 rx ry q => ho pins s2 σ H2 x y v u Q I2 rx ry q) hm
/-- a reading of a value as a test -/
def tTest (t : TE) : TT := fun σ H Q => t σ H fun x H' => ∃ k, x = .bl k ∧ Q k H'
theorem pt_cmpR {op : CmpOp} {r : R2} (ho : OpR X (compareOp op) r) (ha : PE X a ta) (hb : PE X b tb) (hm : behindInMarks op b = false) : PT X (.Compare a [op] [b] pos) (tTest (tOp r ta tb)) := by
  intro pins s σ H Q I h
  refine wpAny_isTrue_Compare1 (thn (ha pins s σ H _ I h) fun v s1 ⟨x, H1, I1, r1, q1⟩ => thn (hb pins s1 σ H1 _ I1 q1) fun u s2 ⟨y, H2, I2, r2, q2⟩ =>
    thn (ho pins s2 σ H2 x y v u _ I2 r1 r2 q2) fun c s3 ⟨z, H3, I3, r3, k, e, q3⟩ => ?_) hm
  subst e
  cases r3
  exact wpAny_truthy_bool ⟨H3, I3, q3⟩
/-- a op1 b op2 c -/
def tChain (r r' : R2) (ta tb tc : TE) : TE := fun σ H Q => ta σ H fun x H1 => tb σ H1 fun y H2 => r x y H2 fun z H3 => ∃ k, z = .bl k ∧
  (if k = true then tc σ H3 fun w' H4 => r' y w' H4 Q else Q (.bl false) H3)
theorem pe_chain {op op' : CmpOp} {r r' : R2} (ho : OpR X (compareOp op) r) (ho' : OpR X (compareOp op') r') (ha : PE X a ta) (hb : PE X b tb) (hc : PE X c tc)
    (hm : lastMarks [op, op'] [b, c] = false := by with_unfolding_all rfl) : PE X (.Compare a [op, op'] [b, c] pos) (tChain r r' ta tb tc) := by
  intro pins s σ H Q I h
  refine Compare_chain (thn (ha pins s σ H _ I h) fun v s1 ⟨x, H1, I1, r1, q1⟩ => chain_link (thn (hb pins s1 σ H1 _ I1 q1) fun u s2 ⟨y, H2, I2, r2, q2⟩ =>
    thn (ho pins s2 σ H2 x y v u _ I2 r1 r2 q2) fun d s3 ⟨z, H3, I3, r3, k, e, q3⟩ => ?_)) hm
  subst e
  cases r3
  refine wpAny_truthy_bool ?_
  cases k with
  | false => exact ite_ff ⟨.bl false, H3, I3, rfl, q3⟩
  | true => exact ite_tt (chain_last (thn (hc pins s3 σ H3 _ I3 q3) fun w' s4 ⟨z', H4, I4, r4, q4⟩ => ho' pins s4 σ H4 y z' u w' Q I4 r2 r4 q4))
theorem pt_chain {op op' : CmpOp} {r r' : R2} (ho : OpR X (compareOp op) r) (ho' : OpR X (compareOp op') r') (ha : PE X a ta) (hb : PE X b tb) (hc : PE X c tc)
    (hm : lastMarks [op, op'] [b, c] = false := by with_unfolding_all rfl) : PT X (.Compare a [op, op'] [b, c] pos) (tTest (tChain r r' ta tb tc)) := by
  intro pins s σ H Q I h
  refine isTrue_chain (thn (ha pins s σ H _ I h) fun v s1 ⟨x, H1, I1, r1, q1⟩ => test_link (thn (hb pins s1 σ H1 _ I1 q1) fun u s2 ⟨y, H2, I2, r2, q2⟩ =>
    thn (ho pins s2 σ H2 x y v u _ I2 r1 r2 q2) fun d s3 ⟨z, H3, I3, r3, k, e, q3⟩ => ?_)) hm
  subst e
  cases r3
  refine wpAny_truthy_bool ?_
  cases k with
  | false =>
    obtain ⟨k', e', q'⟩ := q3
    cases e'
    exact ite_ff ⟨H3, I3, q'⟩
  | true =>
    refine ite_tt (test_last (thn (hc pins s3 σ H3 _ I3 q3) fun w' s4 ⟨z', H4, I4, r4, q4⟩ => thn (ho' pins s4 σ H4 y z' u w' _ I4 r2 r4 q4) fun d' s5 ⟨z2, H5, I5, r5, k2, e2, q5⟩ => ?_))
    subst e2
    cases r5
    exact wpAny_truthy_bool ⟨H5, I5, q5⟩

/-! ### truth -/
/-- a value's truth by the abstract heap -/
def TruV (K : PySem.W.Frag) (x : V) (H : Hp) (k : Bool) : Prop :=
  match x with
  | .non => k = false
  | .bl b => k = b
  | .int i => k = (i != 0)
  | .str y => y.length ≤ sizeLine ∧ k = ((y.length : Int) != 0)
  | .byt y => y.size ≤ sizeLine ∧ k = ((y.size : Int) != 0)
  | .ref p => (∃ xs, SqL K H p xs ∧ k = !xs.isEmpty) ∨ (∃ xs, SqT K H p xs ∧ k = !xs.isEmpty) ∨ ∃ kvs, H p = some (.dK kvs) ∧ k = !kvs.isEmpty
  | _ => False
theorem isEmpty_kv {κ : Type} {kvs : List (κ × V)} {vs : List (κ × Value)} (r : KV kvs vs) : (!vs.isEmpty) = !kvs.isEmpty := by
  cases r <;> rfl
theorem isEmpty_of {xs : List V} {its : List Value} (r : Vals xs its) : (!its.toArray.isEmpty) = !xs.isEmpty := by
  cases r <;> simp
theorem line63 : (sizeLine : Nat) < 2 ^ 63 := by rw [sizeLine_eq]; decide
theorem tru_ok : TruR X (fun x H Q => ∃ k, TruV X.K x H k ∧ Q k H) := by
  intro pins s σ H x v Q I rx h
  obtain ⟨k, e, q⟩ := h
  have hl := line63
  have hs : sizeLine = 16777216 := sizeLine_eq
  cases x with
  | non =>
    cases rx
    have e' : k = false := e
    subst e'
    exact truthy_none ⟨H, I, q⟩
  | bl b =>
    cases rx
    have e' : k = b := e
    subst e'
    exact wpAny_truthy_bool ⟨H, I, q⟩
  | int i =>
    obtain ⟨t, rfl⟩ := rx
    have e' : k = (i != 0) := e
    subst e'
    exact PySem.P.truthy_int ⟨H, I, q⟩
  | str y =>
    obtain ⟨t, rfl⟩ := rx
    obtain ⟨hy, e'⟩ : y.length ≤ sizeLine ∧ k = ((y.length : Int) != 0) := e
    subst e'
    exact PySem.P.truthy_str (by omega) ⟨H, I.tok _, q⟩
  | byt y =>
    obtain ⟨t, rfl⟩ := rx
    obtain ⟨hy, e'⟩ : y.size ≤ sizeLine ∧ k = ((y.size : Int) != 0) := e
    subst e'
    exact PySem.W.truthy_bytes (by omega) ⟨H, I.tok _, q⟩
  | ref p =>
    cases rx
    have e' : (∃ xs, SqL X.K H p xs ∧ k = !xs.isEmpty) ∨ (∃ xs, SqT X.K H p xs ∧ k = !xs.isEmpty) ∨ ∃ kvs, H p = some (.dK kvs) ∧ k = !kvs.isEmpty := e
    rcases e' with ⟨xs, hx, e'⟩ | ⟨xs, hx, e'⟩ | ⟨kvs, hx, e'⟩
    · subst e'
      obtain ⟨its, r, pl, hz⟩ := I.list hx
      have hlen := r.length
      exact wpAny_truthy_list pl.isList (by simp only [List.size_toArray]; omega) ⟨H, I.tok _, by rw [isEmpty_of r]; exact q⟩
    · subst e'
      obtain ⟨its, r, pl, hz⟩ := I.tuple hx
      have hlen := r.length
      exact truthy_tuple pl (by simp only [List.size_toArray]; omega) ⟨H, I.tok _, by rw [isEmpty_of r]; exact q⟩
    · subst e'
      obtain ⟨hz, hS, vs, r, m⟩ : kvs.length ≤ sizeLine ∧ (p == sysModules) = false ∧ ∃ vs, KV kvs vs ∧ s.heap.DictOf (mixKind X.prog X.w) p vs := I.hok p _ hx
      have hlen : kvs.length = vs.length := Paired.length r
      exact wpAny_truthy_dict hS m (by omega) ⟨H, I.tok _, by rw [isEmpty_kv r]; exact q⟩
  | _ => exact (show False from e).elim
/-- any expression whose test is its value's truth (a name, a call, a subscript, a field ..: he by fun _ => rfl) -/
theorem pt_truth (ha : PE X a ta) (he : ∀ whole, isTrue a X.env whole = (do let v ← whole; standAt a.pos; holding [v] (truthy v))) :
    PT X a (fun σ H Q => ta σ H fun x H' => ∃ k, TruV X.K x H' k ∧ Q k H') := by
  intro pins s σ H Q I h
  exact isTrue_plain (thn (ha pins s σ H _ I h) fun v s1 ⟨x, H1, I1, r1, q1⟩ => tru_ok pins s1 σ H1 x v Q I1 r1 q1) (he _)

/-! ### strs and bytes -/
theorem pe_byt {x : List UInt8} {k : Nat} : PE X (.Constant (.bytes x) k pos) (fun _ H Q => Q (.byt x.toArray) H) := fun _ _ _ H _ I h => PySem.W.Constant_bytes ⟨.byt x.toArray, H, I.tok _, ⟨_, rfl⟩, h⟩
theorem op_add_str : OpR X (binaryOp .Add) (fun x y H Q => ∃ i j, x = .str i ∧ y = .str j ∧ i.length + j.length ≤ sizeLine ∧ Q (.str (i ++ j)) H) := by
  intro pins s σ H x y v u Q I rx ry h
  obtain ⟨i, j, rfl, rfl, hz, q⟩ := h
  obtain ⟨t, rfl⟩ := rx
  obtain ⟨t', rfl⟩ := ry
  exact add_str (fun t' tk => ⟨.str (i ++ j), H, I.tok _, ⟨_, rfl⟩, q⟩) hz
theorem iop_add_str : OpR X (inplaceOp .Add) (fun x y H Q => ∃ i j, x = .str i ∧ y = .str j ∧ i.length + j.length ≤ sizeLine ∧ Q (.str (i ++ j)) H) := by
  intro pins s σ H x y v u Q I rx ry h
  obtain ⟨i, j, rfl, rfl, hz, q⟩ := h
  obtain ⟨t, rfl⟩ := rx
  obtain ⟨t', rfl⟩ := ry
  exact iadd_str (fun t' tk => ⟨.str (i ++ j), H, I.tok _, ⟨_, rfl⟩, q⟩) hz
theorem op_add_byt : OpR X (binaryOp .Add) (fun x y H Q => ∃ i j, x = .byt i ∧ y = .byt j ∧ i.size + j.size ≤ 16777216 ∧ Q (.byt (i ++ j)) H) := by
  intro pins s σ H x y v u Q I rx ry h
  obtain ⟨i, j, rfl, rfl, hz, q⟩ := h
  obtain ⟨t, rfl⟩ := rx
  obtain ⟨t', rfl⟩ := ry
  exact PySem.W.KBy.add_bytes hz (fun t' tk => ⟨.byt (i ++ j), H, I.tok _, ⟨_, rfl⟩, q⟩)

def PlainIxT (b : Expr) : Prop := ∀ o i, subscripted b false o i = operate [o, i] (getItem o i)
/-- s[i], 0 ≤ i < len -/
theorem pe_item_str (ha : PE X a ta) (hb : PE X b tb) (hs : PlainIxT b) :
    PE X (.Subscript a b pos) (tOp (fun x y H Q => ∃ z i c, x = .str z ∧ y = .int i ∧ 0 ≤ i ∧ i < 2 ^ 63 ∧ i < z.length ∧ z.cps[i.toNat]? = some c ∧ Q (.str ⟨#[c]⟩) H) ta tb) := by
  intro pins s σ H Q I h
  refine Subscript_ (binT ha hb I h fun v u s2 x y H2 I2 rx ry q => ?_)
  obtain ⟨z, i, c, rfl, rfl, h0, h63, h1, hc, q⟩ := q
  obtain ⟨t, rfl⟩ := rx
  obtain ⟨t', rfl⟩ := ry
  have e : seqIndex? i z.length = some i.toNat := PySem.StrLaws.seqIndex_nonneg h0 h1
  exact tail_any (typeIs_str s2 z t) slot_str_getitem.lookup (getItem_str (c := c) (by
    have e1 : decide (i < -(2 ^ 63 : Int)) = false := decide_eq_false (by omega)
    have e2 : decide (i ≥ 2 ^ 63) = false := decide_eq_false (by omega)
    rw [e1, e2] <;> rfl) (by rw [e]; exact hc) ⟨.str ⟨#[c]⟩, H2, I2.tok _, ⟨_, rfl⟩, q⟩) (hs _ _)
/-- b[i], 0 ≤ i < len -/
theorem pe_item_byt (ha : PE X a ta) (hb : PE X b tb) (hs : PlainIxT b) :
    PE X (.Subscript a b pos) (tOp (fun x y H Q => ∃ (z : List UInt8) (i : Int), x = .byt z.toArray ∧ y = .int i ∧ z.length ≤ sizeLine ∧ 0 ≤ i ∧ i < z.length ∧ Q (.int ((z.getD i.toNat 0).toNat : Nat)) H) ta tb) := by
  intro pins s σ H Q I h
  refine Subscript_ (binT ha hb I h fun v u s2 x y H2 I2 rx ry q => ?_)
  obtain ⟨z, i, rfl, rfl, hz, h0, h1, q⟩ := q
  obtain ⟨t, rfl⟩ := rx
  obtain ⟨t', rfl⟩ := ry
  have hl : sizeLine = 16777216 := sizeLine_eq
  exact tail_any (PySem.W.typeIs_bytes s2 z.toArray t) PySem.W.FB.slot_bytes_getitem.lookup (PySem.W.getItem_bytes (by omega) h0 h1 ⟨.int ((z.getD i.toNat 0).toNat : Nat), H2, I2.tok _, ⟨_, rfl⟩, q⟩) (hs _ _)

/-! ### scalar builtins, by CallR -/
theorem vals1 {x : V} {us : List Value} (r : Vals [x] us) : ∃ u, us = [u] ∧ RelV x u := by
  cases r with
  | cons r1 r2 => cases r2; exact ⟨_, rfl, r1⟩
theorem vals2 {x y : V} {us : List Value} (r : Vals [x, y] us) : ∃ u w', us = [u, w'] ∧ RelV x u ∧ RelV y w' := by
  cases r with
  | cons r1 r2 =>
    cases r2 with
    | cons r3 r4 => cases r4; exact ⟨_, _, rfl, r1, r3⟩
theorem call_abs : CallR X (.builtin "abs") (fun xs H Q => ∃ i, xs = [.int i] ∧ Q (.int (if i < 0 then -i else i)) H) := by
  intro pins s σ H xs us Q I r h
  obtain ⟨i, rfl, q⟩ := h
  obtain ⟨u, rfl, t, rfl⟩ := vals1 r
  exact call_abs_int fun u tk => ⟨.int (if i < 0 then -i else i), H, I.tok _, ⟨_, rfl⟩, q⟩
theorem call_max2 (hc : X.calm = true) : CallR X (.builtin "max") (fun xs H Q => ∃ i j, xs = [.int i, .int j] ∧ Q (.int (if j > i then j else i)) H) := by
  intro pins s σ H xs us Q I r h
  obtain ⟨i, j, rfl, q⟩ := h
  obtain ⟨u, w', rfl, ⟨t, rfl⟩, ⟨t', rfl⟩⟩ := vals2 r
  refine max_two_ints (I.ok.hd hc) fun h' tk k => ⟨_, H, I.kept k, ?_, q⟩
  by_cases hj : j > i
  · rw [if_pos hj, if_pos hj]; exact ⟨_, rfl⟩
  · rw [if_neg hj, if_neg hj]; exact ⟨_, rfl⟩
theorem call_min2 (hc : X.calm = true) : CallR X (.builtin "min") (fun xs H Q => ∃ i j, xs = [.int i, .int j] ∧ Q (.int (if j < i then j else i)) H) := by
  intro pins s σ H xs us Q I r h
  obtain ⟨i, j, rfl, q⟩ := h
  obtain ⟨u, w', rfl, ⟨t, rfl⟩, ⟨t', rfl⟩⟩ := vals2 r
  refine min_two_ints (I.ok.hd hc) fun h' tk k => ⟨_, H, I.kept k, ?_, q⟩
  by_cases hj : j < i
  · rw [if_pos hj, if_pos hj]; exact ⟨_, rfl⟩
  · rw [if_neg hj, if_neg hj]; exact ⟨_, rfl⟩
theorem call_int1 : CallR X (.type "int") (fun xs H Q => (∃ i, xs = [.int i] ∧ Q (.int i) H) ∨ ∃ k, xs = [.bl k] ∧ Q (.int (if k then 1 else 0)) H) := by
  intro pins s σ H xs us Q I r h
  rcases h with ⟨i, rfl, q⟩ | ⟨k, rfl, q⟩
  · obtain ⟨u, rfl, t, rfl⟩ := vals1 r
    exact call_int_int ⟨.int i, H, I, ⟨_, rfl⟩, q⟩
  · obtain ⟨u, rfl, r1⟩ := vals1 r
    cases r1
    exact call_int_bool ⟨.int (if k then 1 else 0), H, I.tok _, ⟨_, rfl⟩, q⟩
theorem call_bool1 : CallR X (.type "bool") (fun xs H Q => (∃ i, xs = [.int i] ∧ Q (.bl (i != 0)) H) ∨ ∃ k, xs = [.bl k] ∧ Q (.bl k) H) := by
  intro pins s σ H xs us Q I r h
  rcases h with ⟨i, rfl, q⟩ | ⟨k, rfl, q⟩
  · obtain ⟨u, rfl, t, rfl⟩ := vals1 r
    exact call_bool_int ⟨.bl (i != 0), H, I, rfl, q⟩
  · obtain ⟨u, rfl, r1⟩ := vals1 r
    cases r1
    exact call_bool_bool ⟨.bl k, H, I, rfl, q⟩
theorem call_str_int : CallR X (.type "str") (fun xs H Q => ∃ i, xs = [.int i] ∧ i.natAbs.log2 < 1920 ∧ Q (.str (toString i)) H) := by
  intro pins s σ H xs us Q I r h
  obtain ⟨i, rfl, hz, q⟩ := h
  obtain ⟨u, rfl, t, rfl⟩ := vals1 r
  exact PySem.P.str_of_int hz ⟨.str _, H, I.tok _, ⟨_, rfl⟩, q⟩
theorem call_ord : CallR X (.builtin "ord") (fun xs H Q => ∃ x, xs = [.str x] ∧ x.length = 1 ∧ Q (.int (x.cps.getD 0 0 : Nat)) H) := by
  intro pins s σ H xs us Q I r h
  obtain ⟨x, rfl, hz, q⟩ := h
  obtain ⟨u, rfl, t, rfl⟩ := vals1 r
  exact ord_of_one hz ⟨.int _, H, I.tok _, ⟨_, rfl⟩, q⟩
theorem call_chr : CallR X (.builtin "chr") (fun xs H Q => ∃ i, xs = [.int i] ∧ 0 ≤ i ∧ i ≤ 1114111 ∧ Q (.str ⟨#[i.toNat]⟩) H) := by
  intro pins s σ H xs us Q I r h
  obtain ⟨i, rfl, h0, h1, q⟩ := h
  obtain ⟨u, rfl, t, rfl⟩ := vals1 r
  exact chr_of_range h0 h1 ⟨.str _, H, I.tok _, ⟨_, rfl⟩, q⟩
/-- len of a str, a bytes, a list, a tuple -/
def LenV (K : PySem.W.Frag) (x : V) (H : Hp) (n : Nat) : Prop :=
  match x with
  | .str y => y.length ≤ sizeLine ∧ n = y.length
  | .byt y => y.size ≤ sizeLine ∧ n = y.size
  | .ref p => (∃ xs, SqL K H p xs ∧ n = xs.length) ∨ ∃ xs, SqT K H p xs ∧ n = xs.length
  | _ => False
theorem call_len : CallR X (.builtin "len") (fun xs H Q => ∃ x n, xs = [x] ∧ LenV X.K x H n ∧ Q (.int n) H) := by
  intro pins s σ H xs us Q I r h
  obtain ⟨x, n, rfl, e, q⟩ := h
  obtain ⟨u, rfl, rx⟩ := vals1 r
  have hl := line63
  have hs : sizeLine = 16777216 := sizeLine_eq
  cases x with
  | str y =>
    obtain ⟨t, rfl⟩ := rx
    obtain ⟨hy, e'⟩ : y.length ≤ sizeLine ∧ n = y.length := e
    subst e'
    exact len_str (by omega) ⟨.int _, H, I.tok _, ⟨_, rfl⟩, q⟩
  | byt y =>
    obtain ⟨t, rfl⟩ := rx
    obtain ⟨hy, e'⟩ : y.size ≤ sizeLine ∧ n = y.size := e
    subst e'
    exact PySem.W.len_bytes (by omega) ⟨.int _, H, I.tok _, ⟨_, rfl⟩, q⟩
  | ref p =>
    cases rx
    have e' : (∃ xs, SqL X.K H p xs ∧ n = xs.length) ∨ ∃ xs, SqT X.K H p xs ∧ n = xs.length := e
    rcases e' with ⟨xs, hx, e'⟩ | ⟨xs, hx, e'⟩
    · subst e'
      obtain ⟨its, r', pl, hz⟩ := I.list hx
      have hlen := r'.length
      exact Calls.call_len_list pl.isList (by simp only [List.size_toArray]; omega) ⟨.int xs.length, H, I.tok _, ⟨_, by simp only [List.size_toArray]; rw [hlen]⟩, q⟩
    · subst e'
      obtain ⟨its, r', pl, hz⟩ := I.tuple hx
      have hlen := r'.length
      exact len_tuple pl (by simp only [List.size_toArray]; omega) ⟨.int xs.length, H, I.tok _, ⟨_, by simp only [List.size_toArray]; rw [hlen]⟩, q⟩
  | _ => exact (show False from e).elim
/-- divmod: a new tuple -/
theorem call_divmod : CallR X (.builtin "divmod") (fun xs H Q => ∃ i j, xs = [.int i, .int j] ∧ CDiv i j ∧ ∀ p, H p = none → Q (.ref p) (upd H p (.tup [.int (i / j), .int (i % j)]))) := by
  intro pins s σ H xs us Q I r h
  obtain ⟨i, j, rfl, ⟨h1, h2⟩, q⟩ := h
  obtain ⟨u, w', rfl, ⟨t, rfl⟩, ⟨t', rfl⟩⟩ := vals2 r
  refine divmod_int (by omega) ?_ (.inl (PyProof.noPylong_small (by omega)))
  rw [Int.fdiv_eq_ediv_of_nonneg i (by omega), Int.fmod_eq_emod_of_nonneg i (by omega)]
  have hn : H s.heap.objs.size = none := I.hok.fresh (Nat.le_refl _)
  refine ⟨.ref s.heap.objs.size, _, ?_, rfl, q _ hn⟩
  refine I.laid (fun b o e => Heap.get?_push_of_some _ e) (Nat.le_refl _) ⟨by simp only [List.length_cons, List.length_nil]; rw [sizeLine_eq]; decide, [.int (i / j) s.toks, .int (i % j) (s.toks + 1)], .cons ⟨_, rfl⟩ (.cons ⟨_, rfl⟩ .nil), ?_⟩
  exact ⟨_, Heap.get?_push_size s.heap rfl, rfl, 0, rfl⟩
end
end L2

namespace L2
open PySem PySem.Spec PyProof.Rows

/-! ### an instance, its attributes a map -/
structure ObjM (h : Heap) (x dx C : Addr) (mA : Str → Option Value) : Prop where
  obj : h.get? x = some (PySem.W.instObj C dx)
  ns : h.Ns1 dx mA
  ne : dx ≠ x

theorem lookIn_ns {h : Heap} {dx : Addr} {mA : Str → Option Value} (n : h.Ns1 dx mA) : ∃ od, h.get? dx = some od ∧ ∀ name, PySem.W.lookIn name od = some (mA name) := by
  obtain ⟨o, es, ep, ho, hd, hk, _, hm⟩ := n
  refine ⟨o, ho, fun name => ?_⟩
  have e := hm name
  unfold nsFind findBy at e
  rw [← Array.find?_toList] at e
  unfold PySem.W.lookIn
  rw [hd]
  dsimp only
  split
  · rename_i y q
    rw [q] at e
    exact congrArg some e
  · rename_i q
    rw [q] at e
    have a : es.toList.any (·.refKey) = false := by
      rw [List.any_eq_false]
      intro y hy
      obtain ⟨z, t, hkey⟩ := hk y (Array.mem_toList_iff.mp hy)
      simp [DictEntry.refKey, hkey]
    have a' : ¬ es.toList.any (·.refKey) = true := by rw [a]; exact Bool.false_ne_true
    rw [if_neg a']
    exact congrArg some e

theorem ObjM.look {h : Heap} {x dx C : Addr} {mA : Str → Option Value} (I : ObjM h x dx C mA) : ∃ od, PySem.W.InstAt h x (PySem.W.instObj C dx) C (some od) ∧ ∀ name, PySem.W.lookIn name od = some (mA name) :=
  let ⟨od, ho, hl⟩ := lookIn_ns I.ns
  ⟨od, ⟨I.obj, rfl, rfl, ho⟩, hl⟩

section
variable {prog : Program} {w : World} {A : Around} {E : Value → Shared → Prop} {s : Shared} {K : PySem.W.Frag} {x dx C f : Addr} {mA : Str → Option Value} {name : Str} {v : Value}

theorem get_map {expr : Bool} {Q : Value → Shared → Prop} (X : K.In s.heap) (I : ObjM s.heap x dx C mA) (hg : PySem.W.plainGet K C name = true) (hh : PySem.W.hasDictIn K C = true)
    (ha : PySem.W.findIn K (.ref C) name = some none) (hv : mA name = some v) (hv' : PySem.W.handedIn v = true) (h : Q v { s with toks := s.toks + 1 }) :
    wpAny (model prog w) A (getAttr (.ref x) name expr) Q E s := by
  obtain ⟨od, J, hl⟩ := I.look
  exact PySem.W.get_value X J (PySem.W.plainGet_of hg).1 (PySem.W.findObj_own hh ha rfl (by rw [hl, hv])) hv' h

theorem get_const {expr : Bool} {a : Value} {Q : Value → Shared → Prop} (X : K.In s.heap) (I : ObjM s.heap x dx C mA) (hg : PySem.W.plainGet K C name = true) (hh : PySem.W.hasDictIn K C = true)
    (ha : PySem.W.findIn K (.ref C) name = some (some a)) (hn : PySem.W.specialIn K a "__get__" = some none) (hc : PySem.W.copiedNames.contains name = false) (hv : mA name = none) (hv' : PySem.W.handedIn a = true)
    (h : Q a { s with toks := s.toks + 1 }) : wpAny (model prog w) A (getAttr (.ref x) name expr) Q E s := by
  obtain ⟨od, J, hl⟩ := I.look
  exact PySem.W.get_value X J (PySem.W.plainGet_of hg).1 (PySem.W.findObj_cls hh ha hn hv' hc (by rw [hl, hv])) hv' h

theorem get_meth {pl : Sem Bool} {Q : Value × List Value → Shared → Prop} (X : K.In s.heap) (I : ObjM s.heap x dx C mA) (hg : PySem.W.plainGet K C name = true)
    (hf : PySem.W.findIn K (.ref C) name = some (some (.ref f))) (ht : PySem.W.isFn K (.ref f) = true) (hv : mA name = none) (h : Q (.ref f, [.ref x]) s) :
    wpAny (model prog w) A (getMethod (.ref x) name pl) Q E s := by
  obtain ⟨od, J, hl⟩ := I.look
  exact PySem.W.method_fn X J (PySem.W.plainGet_of hg).1 (PySem.W.plainGet_of hg).2 hf (beq_iff_eq.mp ht) (by show (PySem.W.lookIn name od).map (·.isSome) = some false; rw [hl, hv]; rfl) h

theorem set_map {ns : List Str} {Q : Unit → Shared → Prop} (X : K.In s.heap) (I : ObjM s.heap x dx C mA)
    (hs : PySem.W.findIn K (.ref C) "__setattr__" = some (some (.builtin "object.__setattr__"))) (hp : PySem.W.plainOver K C = true) (ht : PySem.W.takerIn K C name = some none) (hh : PySem.W.hasDictIn K C = true)
    (hw : PySem.Within mA ns) (hsz : ns.length ≤ sizeLine)
    (h : ∀ h', ObjM h' x dx C (fun y => if y = name then some v else mA y) → Heap.SameBut dx s.heap h' → Q () { s with heap := h', toks := s.toks + 2 }) :
    wpAny (model prog w) A (setAttr (.ref x) name v) Q E s := by
  obtain ⟨od, J, hl⟩ := I.look
  refine PySem.W.set_plain X J hs (PySem.W.osa_open (s := { s with toks := s.toks + 1 }) (r := none) X J hp ht fun b => ?_)
  obtain ⟨cd, hc, hd'⟩ := PySem.W.any_some hh
  have hx : s.heap.get? x = some ⟨.ref C, some dx, .plain, #[]⟩ := I.obj
  refine wpAny_bind (wpAny_pure (wpAny_bind (wpAny_bind (wpAny_loadPart hx (wpAny_bind (PySem.W.Looks.here (s := { s with toks := s.toks + 1 }) (PySem.W.looks_clsIn X hc) ?_))))))
  rw [hd']
  refine wpAny_pure (a := some dx) (wpAny_bind (wpAny_pure (wpAny_bind ?_)))
  refine wpAny_nsSet1 (s := { s with toks := s.toks + 1 }) I.ns fun h' hn2 hs2 => ?_
  obtain ⟨oD, esD, epD, hoD, hdD, hcD⟩ := hn2.count (PySem.Within.cons name v hw)
  refine wpAny_bind (wpAny_lookBehind hoD (by rw [hdD]; exact pastItsLine_dict (Nat.le_trans hcD (by rw [List.length_cons]; omega))) ?_)
  exact wpAny_pure (h _ ⟨(hs2.2 _ (Ne.symm I.ne)).trans I.obj, hn2, I.ne⟩ hs2)

/-- C(..): the dict at the heap's end, the instance behind it; then its __init__ -/
theorem make_map {R : Result → Shared → Prop} {vs : List Value} {kw : List (Str × Value)} (X : K.In s.heap) (hm : PySem.W.makesIn K C = true)
    (hi : PySem.W.findIn K (.ref C) "__init__" = some (some (.ref f))) (hf : PySem.W.typeIn K (.ref f) = some (.type "function"))
    (h : codeAny (model prog w) (A.under (.builtin "type.__call__" ⟨.ref C :: vs, kw⟩)) (.call (.ref f) ⟨.ref (s.heap.objs.size + 1) :: vs, kw⟩) (PySem.W.InitBack (s.heap.objs.size + 1) R)
      { s with heap := (s.heap.push PySem.W.emptyDict).push (PySem.W.instObj C s.heap.objs.size) }) :
    codeAny (model prog w) A (.call (.ref C) ⟨vs, kw⟩) R s := by
  obtain ⟨hh, g, d, t, os⟩ := s
  exact PySem.W.make_core (PySem.W.makes_of X hm) (PySem.W.looks_findIn X hi) (fun self => PySem.W.bind_fn X self hf) (.inl rfl) h
/-- C() where there is no __init__ but object's -/
theorem make_map0 {R : Result → Shared → Prop} (X : K.In s.heap) (hm : PySem.W.makesIn K C = true)
    (hi : PySem.W.findIn K (.ref C) "__init__" = some (some (.builtin "object.__init__")))
    (hb : ∀ self, PySem.W.Looks (model prog w) s.heap (bindSpecial (.builtin "object.__init__") self) (.builtin "object.__init__", [self]))
    (h : codeAny (model prog w) (A.under (.builtin "type.__call__" ⟨[.ref C], []⟩)) (.call (.builtin "object.__init__") ⟨[.ref (s.heap.objs.size + 1)], []⟩) (PySem.W.InitBack (s.heap.objs.size + 1) R)
      { s with heap := (s.heap.push PySem.W.emptyDict).push (PySem.W.instObj C s.heap.objs.size) }) :
    codeAny (model prog w) A (.call (.ref C) ⟨[], []⟩) R s := by
  obtain ⟨hh, g, d, t, os⟩ := s
  exact PySem.W.make_core (PySem.W.makes_of X hm) (PySem.W.looks_findIn X hi) hb (.inr ⟨rfl, rfl⟩) h
end

/-! ### the attributes as a list of pairs -/
def putF (f : Str) (v : V) : List (Str × V) → List (Str × V)
  | [] => [(f, v)]
  | (g, x) :: r => if g = f then (g, v) :: r else (g, x) :: putF f v r
theorem lookup_putF (f g : Str) (v : V) : ∀ fs : List (Str × V), (putF f v fs).lookup g = if g = f then some v else fs.lookup g
  | [] => by
    show List.lookup g [(f, v)] = _
    by_cases h : g = f
    · have hb : (g == f) = true := beq_iff_eq.mpr h
      simp only [List.lookup, hb, if_pos h]
    · have hb : (g == f) = false := beq_eq_false_iff_ne.mpr h
      simp only [List.lookup, hb, if_neg h]
  | (k, x) :: r => by
    have ih := lookup_putF f g v r
    rw [show putF f v ((k, x) :: r) = (if k = f then (k, v) :: r else (k, x) :: putF f v r) from rfl]
    by_cases hk : k = f
    · rw [if_pos hk]
      by_cases h : g = k
      · have hb : (g == k) = true := beq_iff_eq.mpr h
        simp only [List.lookup, hb, if_pos (h.trans hk)]
      · have hb : (g == k) = false := beq_eq_false_iff_ne.mpr h
        simp only [List.lookup, hb, if_neg (fun e : g = f => h (e.trans hk.symm))]
    · rw [if_neg hk]
      by_cases h : g = k
      · have hb : (g == k) = true := beq_iff_eq.mpr h
        simp only [List.lookup, hb, if_neg (fun e : g = f => hk (h.symm.trans e))]
      · have hb : (g == k) = false := beq_eq_false_iff_ne.mpr h
        simp only [List.lookup, hb]
        exact ih
theorem keys_putF (f : Str) (v : V) : ∀ fs : List (Str × V), f ∈ (putF f v fs).map (·.1) ∧ ∀ g, g ∈ fs.map (·.1) → g ∈ (putF f v fs).map (·.1)
  | [] => ⟨by simp [putF], fun g h => by simp at h⟩
  | (k, x) :: r => by
    obtain ⟨i1, i2⟩ := keys_putF f v r
    rw [show putF f v ((k, x) :: r) = (if k = f then (k, v) :: r else (k, x) :: putF f v r) from rfl]
    by_cases hk : k = f
    · rw [if_pos hk]
      subst hk
      exact ⟨by simp, fun g h => by simpa using h⟩
    · rw [if_neg hk]
      refine ⟨?_, fun g h => ?_⟩
      · rw [List.map_cons]
        exact List.mem_cons_of_mem _ i1
      · rw [List.map_cons] at h ⊢
        rcases List.mem_cons.mp h with e | e
        · exact List.mem_cons.mpr (.inl e)
        · exact List.mem_cons_of_mem _ (i2 g e)
theorem length_putF (f : Str) (v : V) : ∀ fs : List (Str × V), (putF f v fs).length ≤ fs.length + 1
  | [] => by simp [putF]
  | (k, x) :: r => by
    have ih := length_putF f v r
    rw [show putF f v ((k, x) :: r) = (if k = f then (k, v) :: r else (k, x) :: putF f v r) from rfl]
    by_cases hk : k = f
    · rw [if_pos hk, List.length_cons, List.length_cons]; omega
    · rw [if_neg hk, List.length_cons, List.length_cons]; omega

theorem RelO.some_of {v : V} {o : Option Value} (r : RelO (some v) o) : ∃ u, o = some u ∧ RelV v u := by
  cases o with
  | none => exact (show False from r).elim
  | some u => exact ⟨u, rfl, r⟩
theorem RelO.none_of {o : Option Value} (r : RelO none o) : o = none := by
  cases o with
  | none => rfl
  | some u => exact (show False from r).elim
theorem handed_of {v : V} {u : Value} (r : RelV v u) : PySem.W.handedIn u = true := by
  cases v with
  | non => cases (show u = Value.none from r); rfl
  | bl b => cases (show u = Value.bool b from r); rfl
  | int i => obtain ⟨t, e⟩ := (show ∃ t, u = Value.int i t from r); cases e; rfl
  | str x => obtain ⟨t, e⟩ := (show ∃ t, u = Value.str x t from r); cases e; rfl
  | byt b => obtain ⟨t, e⟩ := (show ∃ t, u = Value.bytes b t from r); cases e; rfl
  | flt b => obtain ⟨t, e⟩ := (show ∃ t, u = Value.float b t from r); cases e; rfl
  | ref a => cases (show u = Value.ref a from r); rfl
  | ty n => cases (show u = Value.type n from r); rfl

section
variable {P : Program} {w : World} {H H' : Hp} {h h' : Heap} {a C dx : Addr} {fs fs' : List (Str × V)}
theorem ins_get (hok : HOk P w H h) (e : H a = some (.ins C dx fs)) : ∃ mA, ObjM h a dx C mA ∧ (∀ f, RelO (fs.lookup f) (mA f)) ∧ PySem.Within mA (fs.map (·.1)) ∧ fs.length ≤ 1000 ∧ H dx = some (.own a) := by
  obtain ⟨d, z, ne, ob, mA, n, r, q⟩ := (show ObjOk P w H h a (.ins C dx fs) from hok a _ e)
  exact ⟨mA, ⟨ob, n, ne⟩, r, q, z, d⟩
end

/-! ### what of the text a class must have -/
structure Cls (K : PySem.W.Frag) (C : Addr) : Prop where
  pg : PySem.W.plainGet K C Str.empty = true
  hd : PySem.W.hasDictIn K C = true
  po : PySem.W.plainOver K C = true
  sa : PySem.W.findIn K (.ref C) "__setattr__" = some (some (.builtin "object.__setattr__"))
theorem Cls.get {K : PySem.W.Frag} {C : Addr} (c : Cls K C) (f : Str) : PySem.W.plainGet K C f = true := c.pg
/-- no class of it has the name -/
def NoAttr (K : PySem.W.Frag) (C : Addr) (f : Str) : Prop := PySem.W.findIn K (.ref C) f = some none
theorem NoAttr.taker {K : PySem.W.Frag} {C : Addr} {f : Str} (n : NoAttr K C f) : PySem.W.takerIn K C f = some none := by
  unfold PySem.W.takerIn
  rw [show PySem.W.findIn K (.ref C) f = some none from n]
  rfl
/-- a constant of the class -/
structure Con (K : PySem.W.Frag) (C : Addr) (f : Str) (v : V) (u : Value) : Prop where
  at_ : PySem.W.findIn K (.ref C) f = some (some u)
  rel : RelV v u
  get : PySem.W.specialIn K u "__get__" = some none
  cp : PySem.W.copiedNames.contains f = false
/-- a method: a plain def of the class or of one above it -/
structure Meth (K : PySem.W.Frag) (C : Addr) (m : Str) (f : Addr) : Prop where
  at_ : PySem.W.findIn K (.ref C) m = some (some (.ref f))
  fn : PySem.W.isFn K (.ref f) = true
  kp : PySem.W.keepIn K (.ref f) = true

section
variable {X : Cx} {pins : List (Addr × Obj)} {σ : St} {H : Hp} {s : Shared} {a C dx : Addr} {fs : List (Str × V)} {f : Str} {v : V} {A : Around} {E : Value → Shared → Prop}

theorem getattr_ok {b : Bool} {Q : Value → Shared → Prop} (I : Inv X pins σ H s) (e : H a = some (.ins C dx fs)) (c : Cls X.K C) (n : NoAttr X.K C f) (l : fs.lookup f = some v)
    (h : ∀ u s', Inv X pins σ H s' → RelV v u → Q u s') : wpAny (model X.prog X.w) A (getAttr (.ref a) f b) Q E s := by
  obtain ⟨mA, O, r, _, _, _⟩ := ins_get I.hok e
  obtain ⟨u, hu, ru⟩ := RelO.some_of (v := v) (o := mA f) (by rw [← l]; exact r f)
  exact get_map I.kIn O (c.get f) c.hd n hu (handed_of ru) (h u _ (I.tok _) ru)

theorem getcon_ok {b : Bool} {u : Value} {Q : Value → Shared → Prop} (I : Inv X pins σ H s) (e : H a = some (.ins C dx fs)) (c : Cls X.K C) (k : Con X.K C f v u) (l : fs.lookup f = none)
    (h : ∀ s', Inv X pins σ H s' → Q u s') : wpAny (model X.prog X.w) A (getAttr (.ref a) f b) Q E s := by
  obtain ⟨mA, O, r, _, _, _⟩ := ins_get I.hok e
  have hn : mA f = none := RelO.none_of (by rw [← l]; exact r f)
  exact get_const I.kIn O (c.get f) c.hd k.at_ k.get k.cp hn (handed_of k.rel) (h _ (I.tok _))

theorem getmeth_ok {m : Str} {g : Addr} {pl : Sem Bool} {Q : Value × List Value → Shared → Prop} (I : Inv X pins σ H s) (e : H a = some (.ins C dx fs)) (c : Cls X.K C) (k : Meth X.K C m g) (l : fs.lookup m = none)
    (h : Q (.ref g, [.ref a]) s) : wpAny (model X.prog X.w) A (getMethod (.ref a) m pl) Q E s := by
  obtain ⟨mA, O, r, _, _, _⟩ := ins_get I.hok e
  have hn : mA m = none := RelO.none_of (by rw [← l]; exact r m)
  exact get_meth I.kIn O (c.get m) k.at_ k.fn hn h

theorem setattr_ok {y : V} {u : Value} {Q : Unit → Shared → Prop} (I : Inv X pins σ H s) (e : H a = some (.ins C dx fs)) (c : Cls X.K C) (n : NoAttr X.K C f) (hl : fs.length < 1000) (ry : RelV y u)
    (h : ∀ s', Inv X pins σ (upd H a (.ins C dx (putF f y fs))) s' → Q () s') : wpAny (model X.prog X.w) A (setAttr (.ref a) f u) Q E s := by
  obtain ⟨mA, O, r, wi, _, ho⟩ := ins_get I.hok e
  have hz : (fs.map (·.1)).length ≤ sizeLine := by rw [List.length_map, sizeLine_eq]; omega
  refine set_map I.kIn O c.sa c.po n.taker c.hd wi hz fun h' O' sb => h _ ?_
  have hd : ∃ o, h'.get? dx = some o := let ⟨o, _, _, e', _⟩ := O'.ns; ⟨o, e'⟩
  refine I.write (x := a) (e := dx) (by rw [e]; exact True.intro) (.inr ho) (fun b q hb z => (sb.2 b hb).trans z) hd ?_
  refine ⟨by rw [upd_ne O.ne]; exact ho, ?_, O.ne, O'.obj, _, O'.ns, fun g => ?_, fun g hg => ?_⟩
  · have := length_putF f y fs; omega
  · show RelO ((putF f y fs).lookup g) (if g = f then some u else mA g)
    rw [lookup_putF]
    by_cases q : g = f
    · rw [if_pos q, if_pos q]; exact ry
    · rw [if_neg q, if_neg q]; exact r g
  · by_cases q : g = f
    · rw [q]; exact (keys_putF f y fs).1
    · refine (keys_putF f y fs).2 g (wi g fun z => hg ?_)
      show (if g = f then some u else mA g) = none
      rw [if_neg q]; exact z

/-- a new instance, tracked, without attributes -/
theorem Inv.made (I : Inv X pins σ H s) : Inv X pins σ (upd (upd H s.heap.objs.size (.own (s.heap.objs.size + 1))) (s.heap.objs.size + 1) (.ins C s.heap.objs.size []))
    { s with heap := (s.heap.push PySem.W.emptyDict).push (PySem.W.instObj C s.heap.objs.size) } := by
  have e1 : (s.heap.push PySem.W.emptyDict).get? s.heap.objs.size = some PySem.W.emptyDict := Heap.get?_push_size s.heap rfl
  have e2 : ((s.heap.push PySem.W.emptyDict).push (PySem.W.instObj C s.heap.objs.size)).get? (s.heap.objs.size + 1) = some (PySem.W.instObj C s.heap.objs.size) := by
    have := Heap.get?_push_size (s.heap.push PySem.W.emptyDict) (o := PySem.W.instObj C s.heap.objs.size) rfl
    rwa [Heap.size_push] at this
  have e3 : (s.heap.push PySem.W.emptyDict).Ns s.heap.objs.size (fun _ => none) := ⟨PySem.W.emptyDict, #[], _, e1, rfl, (fun e he => absurd he (by simp)), fun _ => rfl⟩
  have I1 := I.laid (a := s.heap.objs.size) (o := .own (s.heap.objs.size + 1)) (h' := s.heap.push PySem.W.emptyDict) (t' := s.toks) (fun b u q => Heap.get?_push_of_some _ q) (Nat.le_refl _) ⟨_, e1⟩
  refine I1.laid (a := s.heap.objs.size + 1) (o := .ins C s.heap.objs.size []) (t' := s.toks) (fun b u q => Heap.get?_push_of_some _ q) (Nat.le_of_eq (Heap.size_push _ _)) ?_
  have ne : s.heap.objs.size ≠ s.heap.objs.size + 1 := Nat.ne_of_lt (Nat.lt_succ_self _)
  refine ⟨by rw [upd_ne ne, upd_same], Nat.zero_le _, ne, e2, fun _ => none, (Heap.Ns1.of_empty e3).at fun o q => Heap.get?_push_of_some _ q, fun _ => True.intro, fun y hy => absurd rfl hy⟩

/-- e.f where nothing but the object is asked: through attributeBase (super) and the last hold -/
theorem attr_of {prog : Program} {w : World} {env : Env} {e : Expr} {f : Str} {pos : Pos} {s : Shared} {Q : Value → Shared → Prop} (hb : attributeBase e f env (eval e env) = eval e env)
    (h : wpAny (model prog w) A (eval e env) (fun o s₁ => wpAny (model prog w) A (getAttr o f true) Q E s₁) E s) : wpAny (model prog w) A (eval (.Attribute e f pos) env) Q E s :=
  Attribute_any_ h (by rw [arm_eval_Attribute, hb])
end

/-! ### readings and rules -/
/-- e.f, an attribute of the instance -/
def tFld (K : PySem.W.Frag) (ta : TE) (f : Str) : TE := fun σ H Q => ta σ H fun x H1 => ∃ a C dx fs v, x = .ref a ∧ H1 a = some (.ins C dx fs) ∧ Cls K C ∧ NoAttr K C f ∧ fs.lookup f = some v ∧ Q v H1
/-- e.f, a constant of the class -/
def tCon (K : PySem.W.Frag) (ta : TE) (f : Str) : TE := fun σ H Q => ta σ H fun x H1 => ∃ a C dx fs v u, x = .ref a ∧ H1 a = some (.ins C dx fs) ∧ Cls K C ∧ Con K C f v u ∧ fs.lookup f = none ∧ Q v H1
/-- e.f = value -/
def sFld (K : PySem.W.Frag) (ta tv : TE) (f : Str) : TS := fun D σ H => tv σ H fun y H1 => ta σ H1 fun x H2 => ∃ a C dx fs, x = .ref a ∧ H2 a = some (.ins C dx fs) ∧ Cls K C ∧ NoAttr K C f ∧ fs.length < 1000 ∧
  D.nx σ (upd H2 a (.ins C dx (putF f y fs)))
/-- an augmented operator on two values -/
def InOp (X : Cx) (op : Operator) (rd : V → V → Hp → VK → Prop) : Prop :=
  ∀ (pins : List (Addr × Obj)) (s : Shared) (σ : St) (H : Hp) (x y : V) (u v : Value) (Q : VK), Inv X pins σ H s → RelV x u → RelV y v → rd x y H Q → wpAny (model X.prog X.w) X.A (inplaceOp op u v) (EP X pins σ Q) X.xe s
/-- e.f op= value -/
def sFldAug (K : PySem.W.Frag) (ta tv : TE) (rd : V → V → Hp → VK → Prop) (f : Str) : TS := fun D σ H => ta σ H fun x H1 => ∃ a C dx fs v, x = .ref a ∧ H1 a = some (.ins C dx fs) ∧ Cls K C ∧ NoAttr K C f ∧ fs.lookup f = some v ∧
  tv σ H1 fun y H2 => rd v y H2 fun z H3 => ∃ dx' fs', H3 a = some (.ins C dx' fs') ∧ fs'.length < 1000 ∧ D.nx σ (upd H3 a (.ins C dx' (putF f z fs')))

section
variable {X : Cx} {o e value : Expr} {f : Str} {pos pos' tpos : Pos} {ta tv : TE}
theorem pe_fld (he : PE X e ta) (hb : attributeBase e f X.env (eval e X.env) = eval e X.env) : PE X (.Attribute e f pos) (tFld X.K ta f) := by
  intro pins s σ H Q I h
  refine attr_of hb (thn (he pins s σ H _ I h) fun u s1 ⟨x, H1, I1, rx, a, C, dx, fs, v, ex, ea, c, n, l, q⟩ => ?_)
  subst ex
  obtain rfl : u = Value.ref a := rx
  exact getattr_ok I1 ea c n l fun u' s2 I2 ru => ⟨v, H1, I2, ru, q⟩
theorem pe_con (he : PE X e ta) (hb : attributeBase e f X.env (eval e X.env) = eval e X.env) : PE X (.Attribute e f pos) (tCon X.K ta f) := by
  intro pins s σ H Q I h
  refine attr_of hb (thn (he pins s σ H _ I h) fun u s1 ⟨x, H1, I1, rx, a, C, dx, fs, v, u0, ex, ea, c, k, l, q⟩ => ?_)
  subst ex
  obtain rfl : u = Value.ref a := rx
  exact getcon_ok I1 ea c k l fun s2 I2 => ⟨v, H1, I2, k.rel, q⟩
theorem ps_fld (ha : PE X o ta) (hv : PE X value tv) (hs : swapsWith value (some (.Attribute o f pos')) pos.line X.env = pure false) : PS X (.Assign [.Attribute o f pos'] value pos) (sFld X.K ta tv f) := by
  intro pins s σ H D I h
  refine plainObj_wpAny_Assign_Attribute (thn (hv pins s σ H _ I h) fun u s1 ⟨y, H1, I1, ry, q⟩ => thn (ha pins s1 σ H1 _ I1 q) fun ov s2 ⟨x, H2, I2, rx, a, C, dx, fs, ex, ea, c, n, l, q2⟩ => ?_) hs
  subst ex
  obtain rfl : ov = Value.ref a := rx
  exact setattr_ok I2 ea c n l ry fun s3 I3 => ⟨σ, _, I3, q2⟩
theorem ps_fldaug {op : Operator} {rd : V → V → Hp → VK → Prop} (ha : PE X o ta) (hv : PE X value tv) (hop : InOp X op rd) : PS X (.AugAssign (.Attribute o f tpos) op value pos) (sFldAug X.K ta tv rd f) := by
  intro pins s σ H D I h
  refine wpAny_AugAssign_AttributeAny (thn (ha pins s σ H _ I h) fun ov s1 ⟨x, H1, I1, rx, a, C, dx, fs, v, ex, ea, c, n, l, q⟩ => ?_)
  subst ex
  obtain rfl : ov = Value.ref a := rx
  refine getattr_ok I1 ea c n l fun u s2 I2 ru => thn (hv pins s2 σ H1 _ I2 q) fun w3 s3 ⟨y, H2, I3, ry, q3⟩ => thn (hop pins s3 σ H2 v y u w3 _ I3 ru ry q3) fun w4 s4 ⟨z, H3, I4, rz, dx', fs', ea', l', q4⟩ => ?_
  exact setattr_ok I4 ea' c n l' rz fun s5 I5 => ⟨σ, _, I5, q4⟩
def rAdd : V → V → Hp → VK → Prop := fun x y H Q => ∃ i j, x = .int i ∧ y = .int j ∧ Q (.int (i + j)) H
def rSub : V → V → Hp → VK → Prop := fun x y H Q => ∃ i j, x = .int i ∧ y = .int j ∧ Q (.int (i - j)) H
theorem in_add : InOp X .Add rAdd := by
  rintro pins s σ H x y u v Q I rx ry ⟨i, j, rfl, rfl, q⟩
  obtain ⟨t, rfl⟩ := (show ∃ t, u = Value.int i t from rx)
  obtain ⟨t', rfl⟩ := (show ∃ t', v = Value.int j t' from ry)
  exact PyProof.Rows.iadd_int ⟨.int (i + j), H, I.tok _, ⟨_, rfl⟩, q⟩
theorem in_sub : InOp X .Sub rSub := by
  rintro pins s σ H x y u v Q I rx ry ⟨i, j, rfl, rfl, q⟩
  obtain ⟨t, rfl⟩ := (show ∃ t, u = Value.int i t from rx)
  obtain ⟨t', rfl⟩ := (show ∃ t', v = Value.int j t' from ry)
  exact PyProof.Rows.isub_int ⟨.int (i - j), H, I.tok _, ⟨_, rfl⟩, q⟩

/-- what is between an instance and its method: the tree of a method call -/
theorem methcall_of {pl : Sem Bool} {m : Str} {apos : Pos} {args : List Expr} {pins : List (Addr × Obj)} {s : Shared} {σ : St} {H : Hp} {Q : Value → Shared → Prop} {te : TE} (he : PE X e te) (I : Inv X pins σ H s)
    (h : te σ H fun x H1 => ∃ a C dx fs g, x = .ref a ∧ H1 a = some (.ins C dx fs) ∧ Cls X.K C ∧ Meth X.K C m g ∧ fs.lookup m = none ∧
      ∀ s1, Inv X pins σ H1 s1 → wpAny (model X.prog X.w) X.A (callWith pos (.ref g) [.ref a] (backTo pos (starEach args X.env)) (backToKw pos (keywordEach [] X.env))) Q X.xe s1)
    (ht : eval (.Call (.Attribute e m apos) args [] pos) X.env = (do
      let ov ← eval e X.env
      standAt apos.atName
      let (f, first) ← holding [ov] (getMethod ov m pl)
      callWith pos f first (backTo pos (starEach args X.env)) (backToKw pos (keywordEach [] X.env)))) :
    wpAny (model X.prog X.w) X.A (eval (.Call (.Attribute e m apos) args [] pos) X.env) Q X.xe s := by
  refine PySem.W.methodCall_KW (pl := pl) (thn (he pins s σ H _ I h) fun u s1 ⟨x, H1, I1, rx, a, C, dx, fs, g, ex, ea, c, k, l, q⟩ => ?_) ht
  subst ex
  obtain rfl : u = Value.ref a := rx
  exact getmeth_ok I1 ea c k l (q s1 I1)
end

/-! ### isinstance -/
section
variable {X : Cx} {pins : List (Addr × Obj)} {σ : St} {H : Hp} {s : Shared} {A : Around} {E : Value → Shared → Prop} {Q : Value → Shared → Prop} {c : Value} {b : Bool}
/-- the type of a value, as the fragment's deciders take it; for an instance its class -/
inductive TyOf (K : PySem.W.Frag) (H : Hp) : V → Value → Prop where
  | non : TyOf K H .non (.type "NoneType")
  | bl (x : Bool) : TyOf K H (.bl x) (.type "bool")
  | int (i : Int) : TyOf K H (.int i) (.type "int")
  | str (x : Str) : TyOf K H (.str x) (.type "str")
  | flt (x : UInt64) : TyOf K H (.flt x) (.type "float")
  | lst {a : Addr} {xs : List V} (e : H a = some (.lst xs)) : TyOf K H (.ref a) (.type "list")
  | frz {a : Addr} {o : Obj} {xs : List V} (e : H a = some (.frz o (.lst xs))) : TyOf K H (.ref a) (.type "list")
  | tup {a : Addr} {xs : List V} (e : H a = some (.tup xs)) : TyOf K H (.ref a) (.type "tuple")
  | dK {a : Addr} {kvs : List (Key × V)} (e : H a = some (.dK kvs)) : TyOf K H (.ref a) (.type "dict")
  | dT {a : Addr} {kvs : List (List Key × V)} (e : H a = some (.dT kvs)) : TyOf K H (.ref a) (.type "dict")
  | ins {a C dx : Addr} {fs : List (Str × V)} (e : H a = some (.ins C dx fs)) (cl : Cls K C) (ha : PySem.W.findIn K (.ref C) "__class__" = some (some (.builtin "object.__class__")))
      (hn : PySem.W.specialIn K (.builtin "object.__class__") "__get__" = some (some (.builtin "getset_descriptor.__get__"))) (htk : PySem.W.takesIn K (.builtin "object.__class__") = some true)
      (hm : PySem.W.mroIn K C (.type "object") = some true) : TyOf K H (.ref a) (.ref C)
/-- isinstance(x, c) for one class c, a built-in or an own one: kitOne's answer -/
theorem isinst_ok {x : V} {u t : Value} (I : Inv X pins σ H s) (rx : RelV x u) (ty : TyOf X.K H x t) (e : PySem.W.kitOne X.K t c = some b) (h : ∀ tk, Q (.bool b) { s with toks := tk }) :
    wpAny (model X.prog X.w) A (call (.builtin "isinstance") [u, c]) Q E s := by
  cases ty with
  | non => cases (show u = Value.none from rx); exact PySem.W.kia_one PySem.W.kitx_none I.kIn True.intro e (fun z => nomatch z) h
  | bl y => cases (show u = Value.bool y from rx); exact PySem.W.kia_one PySem.W.kitx_bool I.kIn True.intro e (fun z => nomatch z) h
  | int i => obtain ⟨t, q⟩ := (show ∃ t, u = Value.int i t from rx); cases q; exact PySem.W.kia_one PySem.W.kitx_int I.kIn True.intro e (fun z => nomatch z) h
  | str y => obtain ⟨t, q⟩ := (show ∃ t, u = Value.str y t from rx); cases q; exact PySem.W.kia_one PySem.W.kitx_str I.kIn True.intro e (fun z => nomatch z) h
  | flt y => obtain ⟨t, q⟩ := (show ∃ t, u = Value.float y t from rx); cases q; exact PySem.W.kia_one PySem.W.kitx_float I.kIn True.intro e (fun z => nomatch z) h
  | @lst a xs ea =>
    cases (show u = Value.ref a from rx)
    obtain ⟨_, _, n, _, h1⟩ := (show ObjOk X.prog X.w H s.heap a (.lst xs) from I.hok a _ ea)
    exact PySem.W.kia_one PySem.W.kitx_list I.kIn ⟨_, h1, rfl⟩ e (fun z => nomatch z) h
  | @frz a ob xs ea =>
    cases (show u = Value.ref a from rx)
    obtain ⟨_, _, _, n, _, h1⟩ := (show ObjOk X.prog X.w H s.heap a (.frz ob (.lst xs)) from I.hok a _ ea)
    exact PySem.W.kia_one PySem.W.kitx_list I.kIn ⟨_, h1, rfl⟩ e (fun z => nomatch z) h
  | @tup a xs ea =>
    cases (show u = Value.ref a from rx)
    obtain ⟨_, _, _, p⟩ := (show ObjOk X.prog X.w H s.heap a (.tup xs) from I.hok a _ ea)
    obtain ⟨o, h1, h2, _⟩ := p
    exact PySem.W.kia_one PySem.W.kitx_tuple I.kIn ⟨o, h1, h2⟩ e (fun z => nomatch z) h
  | @dK a kvs ea =>
    cases (show u = Value.ref a from rx)
    obtain ⟨_, _, vs, _, p⟩ := (show ObjOk X.prog X.w H s.heap a (.dK kvs) from I.hok a _ ea)
    obtain ⟨o, es, ep, h1, h2, _⟩ := p
    exact PySem.W.kia_one PySem.W.kitx_dict I.kIn ⟨o, h1, h2.1⟩ e (fun z => nomatch z) h
  | @dT a kvs ea =>
    cases (show u = Value.ref a from rx)
    obtain ⟨_, _, xs, _, o, es, ep, h1, h2, _⟩ := (show ObjOk X.prog X.w H s.heap a (.dT kvs) from I.hok a _ ea)
    exact PySem.W.kia_one PySem.W.kitx_dict I.kIn ⟨o, h1, h2.1⟩ e (fun z => nomatch z) h
  | @ins a C dx fs ea cl ha hn htk hm =>
    cases (show u = Value.ref a from rx)
    obtain ⟨mA, O, _⟩ := ins_get I.hok ea
    obtain ⟨od, J, _⟩ := O.look
    exact PySem.W.kia_one (PySem.W.kitx_own (cl.get _) cl.hd ha hn htk hm) I.kIn J e (fun z => nomatch z) h
end
end L2

namespace L2
open PySem PySem.Spec PyProof.Rows

/-! ### room -/
structure Room (k : Nat) (A : Around) : Prop where
  hd : A.handled = none
  dp : A.depth + 3 * k + 5 < recursionLimit
  un : A.units + 16 * k + 200 < cLine
theorem Room.mono {j k : Nat} {A : Around} (r : Room k A) (h : j ≤ k) : Room j A := ⟨r.hd, by have := r.dp; omega, by have := r.un; omega⟩
theorem Room.deeper {k : Nat} {A : Around} (r : Room (k + 1) A) (env : Env) : Room k (A.deeper env) :=
  ⟨r.hd, by have := r.dp; show A.depth + 1 + 3 * k + 5 < _; omega, by have := r.un; show A.units + 3 + 16 * k + 200 < _; omega⟩
theorem Room.in1 {k : Nat} {A : Around} (r : Room (k + 1) A) : Room k A.in1 :=
  ⟨r.hd, by have := r.dp; show A.depth + 3 * k + 5 < _; omega, by have := r.un; show A.units + 1 + 16 * k + 200 < _; omega⟩
theorem make_depth {A : Around} {C : Addr} {us : List Value} {kw : List (Str × Value)} : (A.under (.builtin "type.__call__" ⟨.ref C :: us, kw⟩)).depth = A.depth + 1 := by
  first | rfl | simp [Around.under, Code.weight, Code.isCreation, Code.isGuard, Code.isCaller, Code.frames, Code.isFrame, guardIds]
theorem make_units {A : Around} {C : Addr} {us : List Value} {kw : List (Str × Value)} : (A.under (.builtin "type.__call__" ⟨.ref C :: us, kw⟩)).units = A.units + 1 := by
  first | rfl | simp [Around.under, Code.cUnits, Code.frames, Code.isFrame]
theorem Room.make {k : Nat} {A : Around} (r : Room (k + 1) A) (C : Addr) (us : List Value) (kw : List (Str × Value)) : Room k (A.under (.builtin "type.__call__" ⟨.ref C :: us, kw⟩)) :=
  ⟨r.hd, by have := r.dp; rw [make_depth]; omega, by have := r.un; rw [make_units]; omega⟩
theorem Room.depth {k : Nat} {A : Around} (r : Room k A) : A.depth < recursionLimit := by have := r.dp; omega
theorem Room.units {k : Nat} {A : Around} (r : Room k A) : A.units + 64 < cLine := by have := r.un; omega
theorem Room.units0 {k : Nat} {A : Around} (r : Room k A) : A.units < cLine := by have := r.un; omega

/-! ### argument lists and displays -/
def tNil : TA := fun _ H Q => Q [] H
def tCons (ta : TE) (tr : TA) : TA := fun σ H Q => ta σ H fun x H1 => tr σ H1 fun xs H2 => Q (x :: xs) H2
section
variable {X : Cx} {e : Expr} {es : List Expr} {te : TE} {t : TA} {pos : Pos}
theorem pa_nil : PA X [] tNil := fun _ _ _ _ H Q I h => Calls.spliced_nil ⟨[], H, I, .nil, h⟩
theorem pa_cons (ha : PE X e te) (hr : PA X es t) (hs : starEach (e :: es) X.env = (false, eval e X.env) :: starEach es X.env := by rfl) : PA X (e :: es) (tCons te t) := by
  intro pos pins s σ H Q I h
  rw [hs]
  show wpAny _ _ (spliced ((false, eval e X.env) :: backTo pos (starEach es X.env))) _ _ s
  refine Calls.spliced_cons (thn (ha pins s σ H _ I h) fun u s1 ⟨x, H1, I1, r1, q1⟩ => ?_)
  exact thn (hr pos pins s1 σ H1 _ I1 q1) fun us s2 ⟨xs, H2, I2, r2, q2⟩ => ⟨x :: xs, H2, I2, .cons r1 r2, q2⟩

/-- a tuple, a list of written items -/
def tTup (t : TA) : TE := fun σ H Q => t σ H fun xs H1 => xs.length ≤ sizeLine ∧ ∀ p, H1 p = none → Q (.ref p) (upd H1 p (.tup xs))
def tLst (t : TA) : TE := fun σ H Q => t σ H fun xs H1 => xs.length ≤ sizeLine ∧ ∀ p, H1 p = none → Q (.ref p) (upd H1 p (.lst xs))
theorem pe_tup {x1} (h : PA X es t) : PE X (.Tuple es x1 pos) (tTup t) := by
  intro pins s σ H Q I hq
  refine wpAny_Tuple_spliced (thn (h pos pins s σ H _ I hq) fun us s1 ⟨xs, H1, I1, r, z, q⟩ => ⟨by rw [← r.length]; exact z, ?_⟩)
  have hf : H1 s1.heap.objs.size = none := I1.hok.fresh (Nat.le_refl _)
  refine ⟨.ref s1.heap.objs.size, upd H1 s1.heap.objs.size (.tup xs), I1.laid (t' := s1.toks) (fun b u e => Heap.get?_push_of_some _ e) (Nat.le_refl _) ?_, rfl, q _ hf⟩
  exact ⟨z, us, r, ⟨_, Heap.get?_push_size _ rfl, rfl, _, rfl⟩⟩
theorem pe_lst (h : PA X es t) : PE X (.List es pos) (tLst t) := by
  intro pins s σ H Q I hq
  refine wpAny_List_spliced (thn (h pos pins s σ H _ I hq) fun us s1 ⟨xs, H1, I1, r, z, q⟩ => ⟨by rw [← r.length]; exact z, ?_⟩)
  have hf : H1 s1.heap.objs.size = none := I1.hok.fresh (Nat.le_refl _)
  refine ⟨.ref s1.heap.objs.size, upd H1 s1.heap.objs.size (.lst xs), I1.laid (t' := s1.toks) (fun b u e => Heap.get?_push_of_some _ e) (Nat.le_refl _) ?_, rfl, q _ hf⟩
  exact ⟨z, us, 0, r, Heap.get?_push_size _ rfl⟩
end

/-! ### what a def promises -/
/-- a def's promise: the bound arguments in the parameters' order, the heap, the wanted end, the wanted exception -/
abbrev Sp := List V → Hp → VK → XK → Prop
/-- how an exception lies behind a call (file 08 gives it): the callers' frames, abstract heap and state ahead of the call, the wish, the exception, the state -/
abbrev CXT := List Env → Hp → Shared → XK → Value → Shared → Prop

/-- the state at a call -/
structure Env0 (P : Program) (w : World) (K : PySem.W.Frag) (mg : Str → Option Value) (base : Heap) (A : Around) (outer : List Env) (s : Shared) (H : Hp) : Prop where
  frames : A.frames = some outer
  mod : Mod K mg base
  bs : ∀ b o, base.get? b = some o → s.heap.get? b = some o ∧ H b = none
  bsz : base.objs.size ≤ s.heap.objs.size
  funs : s.heap.FunFrames base outer
  frf : ∀ b ∈ frs outer, H b = none
  hok : HOk P w H s.heap
  bare : AllBare s.gens
/-- a call's end -/
def CE (outer : List Env) (P : Program) (w : World) (H : Hp) (s : Shared) (Q : VK) (u : Value) (s' : Shared) : Prop :=
  ∃ v H', s'.os = s.os ∧ AllBare s'.gens ∧ Un (frs outer) [] H H' s.heap s'.heap ∧ HOk P w H' s'.heap ∧ RelV v u ∧ Q v H'
def CR (CX : CXT) (outer : List Env) (P : Program) (w : World) (H : Hp) (s : Shared) (Q : VK) (E : XK) (r : Result) (s' : Shared) : Prop :=
  match r with
  | .ok (.ret u) => CE outer P w H s Q u s'
  | .ok _ => False
  | .error e => CX outer H s E e s'
structure FnOk (P : Program) (w : World) (K : PySem.W.Frag) (mg : Str → Option Value) (base : Heap) (CX : CXT) (k : Nat) (f : Addr) (fd : FuncData) (ps : List Str) (sp : Sp) : Prop where
  len : ∀ vs H Q E, sp vs H Q E → vs.length = ps.length
  run : ∀ (A : Around) (outer : List Env) (s : Shared) (H : Hp) (args : Args) (us : List Value) (vs : List V) (Q : VK) (E : XK), Room k A → Env0 P w K mg base A outer s H → BindsTo s fd args (ps.zip us) → Vals vs us → sp vs H Q E →
    codeAny (model P w) A (.call (.ref f) args) (CR CX outer P w H s Q E) s
theorem FnOk.mono {P : Program} {w : World} {K : PySem.W.Frag} {mg : Str → Option Value} {base : Heap} {CX : CXT} {j k : Nat} {f : Addr} {fd : FuncData} {ps : List Str} {sp : Sp} (F : FnOk P w K mg base CX j f fd ps sp) (h : j ≤ k) :
    FnOk P w K mg base CX k f fd ps sp := ⟨F.len, fun A outer s H args us vs Q E hr => F.run A outer s H args us vs Q E (hr.mono h)⟩
/-- a weaker promise -/
theorem FnOk.imp {P : Program} {w : World} {K : PySem.W.Frag} {mg : Str → Option Value} {base : Heap} {CX : CXT} {k : Nat} {f : Addr} {fd : FuncData} {ps : List Str} {sp sp' : Sp} (F : FnOk P w K mg base CX k f fd ps sp)
    (h : ∀ vs H Q E, sp' vs H Q E → sp vs H Q E) : FnOk P w K mg base CX k f fd ps sp' :=
  ⟨fun vs H Q E q => F.len vs H Q E (h _ _ _ _ q), fun A outer s H args us vs Q E hr he hb hv hs => F.run A outer s H args us vs Q E hr he hb hv (h _ _ _ _ hs)⟩

theorem Env0.make {P : Program} {w : World} {K : PySem.W.Frag} {mg : Str → Option Value} {base : Heap} {A : Around} {outer : List Env} {s : Shared} {H : Hp} (e : Env0 P w K mg base A outer s H) (C : Addr) (us : List Value) (kw : List (Str × Value)) :
    Env0 P w K mg base (A.under (.builtin "type.__call__" ⟨.ref C :: us, kw⟩)) outer s H := ⟨by first | exact e.frames | (simpa [Around.under, Code.envs, Code.isFrame, pushEnvs] using e.frames), e.mod, e.bs, e.bsz, e.funs, e.frf, e.hok, e.bare⟩
theorem Env0.in1 {P : Program} {w : World} {K : PySem.W.Frag} {mg : Str → Option Value} {base : Heap} {A : Around} {outer : List Env} {s : Shared} {H : Hp} (e : Env0 P w K mg base A outer s H) :
    Env0 P w K mg base A.in1 outer s H := ⟨e.frames, e.mod, e.bs, e.bsz, e.funs, e.frf, e.hok, e.bare⟩

section
variable {X : Cx} {pins : List (Addr × Obj)} {σ : St} {H : Hp} {s s' : Shared}
/-- from a body: what a callee wants -/
theorem Inv.env0 (I : Inv X pins σ H s) : Env0 X.prog X.w X.K X.mg X.base X.A X.stack s H :=
  ⟨I.ok.frames, I.ok.mod, I.bs, Nat.le_trans I.ok.bsz I.sz, I.stack, I.stkFree, I.hok, I.bare⟩
/-- behind a call -/
theorem Inv.after {Q : VK} {u : Value} (I : Inv X pins σ H s) (h : CE X.stack X.prog X.w H s Q u s') : EP X pins σ Q u s' := by
  obtain ⟨v, H', os, bare, un, hok, r, q⟩ := h
  obtain ⟨hh, g, d, t, os'⟩ := s'
  obtain rfl : os' = s.os := os
  exact ⟨v, H', I.call (h' := hh) (g' := g) (d' := d) (t' := t) (ch := []) un hok bare (fun b z => absurd z (by simp)), r, q⟩
end

/-! ### calls -/
/-- f(..): the written arguments, then the defaults dvs; E: what is wanted of an exception -/
def tCall (sp : Sp) (dvs : List V) (E : XK) (t : TA) : TE := fun σ H Q => t σ H fun vs H1 => sp (vs ++ dvs) H1 Q E
/-- o.m(..) of an instance of the class at C -/
def tMeth (C : Addr) (m : Str) (sp : Sp) (dvs : List V) (E : XK) (ta : TE) (t : TA) : TE := fun σ H Q => ta σ H fun x H1 => ∃ a dx fs, x = .ref a ∧ H1 a = some (.ins C dx fs) ∧ fs.lookup m = none ∧
  t σ H1 fun vs H2 => sp (x :: (vs ++ dvs)) H2 Q E
/-- C(..): a new instance and its dict, then __init__ -/
def tMake (C : Addr) (sp : Sp) (dvs : List V) (E : XK) (t : TA) : TE := fun σ H Q => t σ H fun vs H1 => ∀ x dx, H1 x = none → H1 dx = none → dx ≠ x →
  sp (.ref x :: (vs ++ dvs)) (upd (upd H1 dx (.own x)) x (.ins C dx [])) (fun v H2 => v = .non ∧ Q (.ref x) H2) E

/-- how the parameters are bound: us the positional arguments, kw the keywords' values by name, ds the defaults that fill up -/
def Binds (K : PySem.W.Frag) (fd : FuncData) (ps : List Str) (ds : List Value) : Prop :=
  ∀ (s : Shared) (us : List Value), K.In s.heap → (us ++ ds).length = ps.length → BindsTo s fd ⟨us, []⟩ (ps.zip (us ++ ds))
/-- every parameter is given -/
theorem Binds.all {K : PySem.W.Frag} {fd : FuncData} {ps : List Str} (h : ∀ us : List Value, us.length = ps.length → bindArgs fd ⟨us, []⟩ = pure (ps.zip us)) : Binds K fd ps [] := fun s us _ hl => by
  rw [List.append_nil] at hl ⊢
  exact .of_eq (h us hl)

/-- an exception of a callee reaches what this body wants of exceptions -/
def Passes (CX : CXT) (X : Cx) (E : XK) : Prop := ∀ (pins : List (Addr × Obj)) (σ : St) (H : Hp) (s : Shared) (e : Value) (s' : Shared), Inv X pins σ H s → CX X.stack H s E e s' → X.xe e s'

section
variable {X : Cx} {CX : CXT} {k : Nat} {f C : Addr} {fd : FuncData} {ps : List Str} {sp : Sp} {dvs : List V} {ds : List Value} {E : XK} {x m : Str} {p pos apos : Pos} {e o : Expr} {es : List Expr} {ta : TE} {t : TA}

/-- the callee runs -/
theorem run_fn {pins : List (Addr × Obj)} {σ : St} {H : Hp} {s : Shared} {Q : VK} {us : List Value} {vs : List V} (F : FnOk X.prog X.w X.K X.mg X.base CX k f fd ps sp) (hr : Room k X.A) (hb : Binds X.K fd ps ds) (hd : Vals dvs ds) (hx : Passes CX X E)
    (I : Inv X pins σ H s) (r : Vals vs us) (h : sp (vs ++ dvs) H Q E) : wpAny (model X.prog X.w) X.A (call (.ref f) us) (EP X pins σ Q) X.xe s := by
  have r2 : Vals (vs ++ dvs) (us ++ ds) := r.append hd
  have hl : (us ++ ds).length = ps.length := by rw [← r2.length]; exact F.len _ _ _ _ h
  refine wpAny_call (codeAny_mono (F.run X.A X.stack s H ⟨us, []⟩ (us ++ ds) (vs ++ dvs) Q E hr I.env0 (hb s us I.kIn hl) r2 h) fun r s' hq => ?_)
  cases r with
  | error e => exact hx pins σ H s e s' I hq
  | ok fl =>
    cases fl with
    | ret u => exact I.after hq
    | next => exact False.elim hq
    | brk => exact False.elim hq
    | cont => exact False.elim hq

theorem pe_call (F : FnOk X.prog X.w X.K X.mg X.base CX k f fd ps sp) (hr : Room k X.A) (hg : Gl X x) (hm : X.mg x = some (.ref f)) (hk : PySem.W.keepIn X.K (.ref f) = true) (hb : Binds X.K fd ps ds) (hd : Vals dvs ds) (hx : Passes CX X E)
    (ha : PA X (e :: es) t) (hdb : (x == ("__debug__" : Str)) = false := by decide) (he : starEach (e :: es) X.env = (false, eval e X.env) :: starEach es X.env := by rfl) (hpl : (backTo pos (starEach es X.env)).any (·.1) = false := by rfl) :
    PE X (.Call (.Name x p) (e :: es) [] pos) (tCall sp dvs E t) := by
  intro pins s σ H Q I h
  refine wpAny_Call_Name_kw (ld_glob I hg hm ?_ hdb)
  refine PySem.W.callWith_K (h₀ := X.base) I.ok.mod.kin hk (thn (ha pos pins s σ H _ I h) fun us s1 ⟨vs, H1, I1, r, q⟩ => ⟨I1.kIn, ?_⟩) he hpl
  exact run_fn F hr hb hd hx I1 r q
theorem pe_call0 (F : FnOk X.prog X.w X.K X.mg X.base CX k f fd ps sp) (hr : Room k X.A) (hg : Gl X x) (hm : X.mg x = some (.ref f)) (hk : PySem.W.keepIn X.K (.ref f) = true) (hb : Binds X.K fd ps ds) (hd : Vals dvs ds) (hx : Passes CX X E)
    (hdb : (x == ("__debug__" : Str)) = false := by decide) : PE X (.Call (.Name x p) [] [] pos) (tCall sp dvs E tNil) := by
  intro pins s σ H Q I h
  refine wpAny_Call_Name_kw (ld_glob I hg hm ?_ hdb)
  exact PySem.W.callWith_K0 I.kIn hk (run_fn (us := []) F hr hb hd hx I .nil h)

/-- o.m(e, ..) -/
theorem pe_meth {pl : Sem Bool} (he : PE X o ta) (c : Cls X.K C) (hm : Meth X.K C m f) (F : FnOk X.prog X.w X.K X.mg X.base CX k f fd ps sp) (hr : Room k X.A) (hb : Binds X.K fd ps ds) (hd : Vals dvs ds) (hx : Passes CX X E) (ha : PA X (e :: es) t)
    (hst : starEach (e :: es) X.env = (false, eval e X.env) :: starEach es X.env := by rfl) (hpl : (backTo pos (starEach es X.env)).any (·.1) = false := by rfl)
    (ht : eval (.Call (.Attribute o m apos) (e :: es) [] pos) X.env = (do
      let ov ← eval o X.env
      standAt apos.atName
      let (f, first) ← holding [ov] (getMethod ov m pl)
      callWith pos f first (backTo pos (starEach (e :: es) X.env)) (backToKw pos (keywordEach [] X.env))) := by rfl) :
    PE X (.Call (.Attribute o m apos) (e :: es) [] pos) (tMeth C m sp dvs E ta t) := by
  intro pins s σ H Q I h
  refine PySem.W.methodCall_KW (pl := pl) (thn (he pins s σ H _ I h) fun u s1 ⟨x, H1, I1, rx, a, dx, fs, ex, ea, l, q⟩ => ?_) ht
  subst ex
  obtain rfl : u = Value.ref a := rx
  refine getmeth_ok I1 ea c hm l ?_
  refine PySem.W.callWith_K (first := [.ref a]) (h₀ := X.base) I.ok.mod.kin hm.kp (thn (ha pos pins s1 σ H1 _ I1 q) fun us s2 ⟨vs, H2, I2, r, q2⟩ => ⟨I2.kIn, ?_⟩) hst hpl
  exact run_fn (us := .ref a :: us) (vs := .ref a :: vs) F hr hb hd hx I2 (.cons rfl r) q2
/-- o.m() -/
theorem pe_meth0 {pl : Sem Bool} (he : PE X o ta) (c : Cls X.K C) (hm : Meth X.K C m f) (F : FnOk X.prog X.w X.K X.mg X.base CX k f fd ps sp) (hr : Room k X.A) (hb : Binds X.K fd ps ds) (hd : Vals dvs ds) (hx : Passes CX X E)
    (ht : eval (.Call (.Attribute o m apos) [] [] pos) X.env = (do
      let ov ← eval o X.env
      standAt apos.atName
      let (f, first) ← holding [ov] (getMethod ov m pl)
      callWith pos f first (backTo pos (starEach [] X.env)) (backToKw pos (keywordEach [] X.env))) := by rfl) :
    PE X (.Call (.Attribute o m apos) [] [] pos) (tMeth C m sp dvs E ta tNil) := by
  intro pins s σ H Q I h
  refine PySem.W.methodCall_KW (pl := pl) (thn (he pins s σ H _ I h) fun u s1 ⟨x, H1, I1, rx, a, dx, fs, ex, ea, l, q⟩ => ?_) ht
  subst ex
  obtain rfl : u = Value.ref a := rx
  refine getmeth_ok I1 ea c hm l ?_
  exact PySem.W.callWith_K0 (first := [.ref a]) I1.kIn hm.kp (run_fn (us := [.ref a]) (vs := [.ref a]) F hr hb hd hx I1 (.cons rfl .nil) q)

/-- what a class must have to be made -/
structure Mk (K : PySem.W.Frag) (C f : Addr) : Prop where
  makes : PySem.W.makesIn K C = true
  init : PySem.W.findIn K (.ref C) "__init__" = some (some (.ref f))
  fn : PySem.W.isFn K (.ref f) = true
  kp : PySem.W.keepIn K (.ref C) = true

theorem run_make {pins : List (Addr × Obj)} {σ : St} {H : Hp} {s : Shared} {Q : VK} {us : List Value} {vs : List V} (M : Mk X.K C f) (F : FnOk X.prog X.w X.K X.mg X.base CX k f fd ps sp) (hr : Room (k + 1) X.A) (hb : Binds X.K fd ps ds) (hd : Vals dvs ds)
    (hx : Passes CX X E) (I : Inv X pins σ H s) (r : Vals vs us)
    (h : ∀ x dx, H x = none → H dx = none → dx ≠ x → sp (.ref x :: (vs ++ dvs)) (upd (upd H dx (.own x)) x (.ins C dx [])) (fun v H2 => v = .non ∧ Q (.ref x) H2) E) :
    wpAny (model X.prog X.w) X.A (call (.ref C) us) (EP X pins σ Q) X.xe s := by
  have hq := h (s.heap.objs.size + 1) s.heap.objs.size (I.hok.fresh (Nat.le_succ _)) (I.hok.fresh (Nat.le_refl _)) (Nat.ne_of_lt (Nat.lt_succ_self _))
  have I2 := Inv.made (C := C) I
  have r2 : Vals (V.ref (s.heap.objs.size + 1) :: (vs ++ dvs)) (Value.ref (s.heap.objs.size + 1) :: (us ++ ds)) := .cons rfl (r.append hd)
  have hl : (Value.ref (s.heap.objs.size + 1) :: us ++ ds).length = ps.length := by
    have e := r2.length
    rw [F.len _ _ _ _ hq] at e
    exact e.symm
  refine wpAny_call (make_map (f := f) I.kIn M.makes M.init (beq_iff_eq.mp M.fn) (codeAny_mono (F.run _ X.stack _ _ ⟨Value.ref (s.heap.objs.size + 1) :: us, []⟩ (Value.ref (s.heap.objs.size + 1) :: (us ++ ds)) _ _ E (hr.make C us [])
    (I2.env0.make C us []) (hb _ (Value.ref (s.heap.objs.size + 1) :: us) I2.kIn hl) r2 hq) fun r s' hq' => ?_))
  cases r with
  | error e => exact hx pins σ _ _ e s' I2 hq'
  | ok fl =>
    cases fl with
    | ret u =>
      obtain ⟨v, H', I3, rv, ev, q3⟩ := I2.after hq'
      subst ev
      exact ⟨rv, ⟨V.ref (s.heap.objs.size + 1), H', I3, rfl, q3⟩⟩
    | next => exact False.elim hq'
    | brk => exact False.elim hq'
    | cont => exact False.elim hq'
theorem pe_make (M : Mk X.K C f) (F : FnOk X.prog X.w X.K X.mg X.base CX k f fd ps sp) (hr : Room (k + 1) X.A) (hg : Gl X x) (hm : X.mg x = some (.ref C)) (hb : Binds X.K fd ps ds) (hd : Vals dvs ds) (hx : Passes CX X E)
    (ha : PA X (e :: es) t) (hdb : (x == ("__debug__" : Str)) = false := by decide) (he : starEach (e :: es) X.env = (false, eval e X.env) :: starEach es X.env := by rfl) (hpl : (backTo pos (starEach es X.env)).any (·.1) = false := by rfl) :
    PE X (.Call (.Name x p) (e :: es) [] pos) (tMake C sp dvs E t) := by
  intro pins s σ H Q I h
  refine wpAny_Call_Name_kw (ld_glob I hg hm ?_ hdb)
  refine PySem.W.callWith_K (h₀ := X.base) I.ok.mod.kin M.kp (thn (ha pos pins s σ H _ I h) fun us s1 ⟨vs, H1, I1, r, q⟩ => ⟨I1.kIn, ?_⟩) he hpl
  exact run_make M F hr hb hd hx I1 r q
theorem pe_make0 (M : Mk X.K C f) (F : FnOk X.prog X.w X.K X.mg X.base CX k f fd ps sp) (hr : Room (k + 1) X.A) (hg : Gl X x) (hm : X.mg x = some (.ref C)) (hb : Binds X.K fd ps ds) (hd : Vals dvs ds) (hx : Passes CX X E)
    (hdb : (x == ("__debug__" : Str)) = false := by decide) : PE X (.Call (.Name x p) [] [] pos) (tMake C sp dvs E tNil) := by
  intro pins s σ H Q I h
  refine wpAny_Call_Name_kw (ld_glob I hg hm ?_ hdb)
  exact PySem.W.callWith_K0 I.kIn M.kp (run_make (us := []) M F hr hb hd hx I .nil h)
end

/-! ### keywords -/
/-- the values of the keywords, from the left -/
def PK (X : Cx) (kws : List Keyword) (t : TA) : Prop :=
  ∀ (pos : Pos) (pins : List (Addr × Obj)) (s : Shared) (σ : St) (H : Hp) (Q : List V → Hp → Prop), Inv X pins σ H s → t σ H Q → wpAny (model X.prog X.w) X.A (evalAll ((backToKw pos (keywordEach kws X.env)).map (·.2))) (AP X pins σ Q) X.xe s
section
variable {X : Cx} {CX : CXT} {k : Nat} {f C : Addr} {fd : FuncData} {ps ks : List Str} {sp : Sp} {E : XK} {x m : Str} {p pos apos kpos : Pos} {e o : Expr} {es : List Expr} {kws : List Keyword} {te ta : TE} {t tk : TA} {nm : Option Str}
theorem pk_nil : PK X [] tNil := fun _ _ _ _ H Q I h => wpAny_evalAll_nil ⟨[], H, I, .nil, h⟩
theorem pk_cons (ha : PE X e te) (hr : PK X kws t) : PK X (⟨nm, e, kpos⟩ :: kws) (tCons te t) := by
  intro pos pins s σ H Q I h
  show wpAny _ _ (evalAll ((do let v ← eval e X.env; standAt pos; pure v) :: (backToKw pos (keywordEach kws X.env)).map (·.2))) _ _ s
  refine wpAny_evalAll_cons (wpAny_bind (thn (ha pins s σ H _ I h) fun u s1 ⟨x, H1, I1, r1, q1⟩ => wpAny_bind (wpAny_standAt (wpAny_pure ?_))))
  exact thn (hr pos pins s1 σ H1 _ I1 q1) fun us s2 ⟨xs, H2, I2, r2, q2⟩ => ⟨x :: xs, H2, I2, .cons r1 r2, q2⟩

/-- how a call with keywords binds: g puts the positional values us and the keywords' values ws (names ks) in the parameters' order, defaults among them -/
structure KBinds (K : PySem.W.Frag) (fd : FuncData) (ps ks : List Str) (g : List Value → List Value → List Value) (gV : List V → List V → List V) : Prop where
  to : ∀ (s : Shared) (us ws : List Value), K.In s.heap → (g us ws).length = ps.length → BindsTo s fd ⟨us, ks.zip ws⟩ (ps.zip (g us ws))
  rel : ∀ {vs : List V} {us : List Value} {zs : List V} {ws : List Value}, Vals vs us → Vals zs ws → Vals (gV vs zs) (g us ws)
def tCallK (sp : Sp) (gV : List V → List V → List V) (E : XK) (t tk : TA) : TE := fun σ H Q => t σ H fun vs H1 => tk σ H1 fun zs H2 => sp (gV vs zs) H2 Q E
variable {g : List Value → List Value → List Value} {gV : List V → List V → List V}
theorem run_fnk {pins : List (Addr × Obj)} {σ : St} {H : Hp} {s : Shared} {Q : VK} {us ws : List Value} {vs zs : List V} (F : FnOk X.prog X.w X.K X.mg X.base CX k f fd ps sp) (hr : Room k X.A) (hb : KBinds X.K fd ps ks g gV) (hx : Passes CX X E)
    (I : Inv X pins σ H s) (r : Vals vs us) (rz : Vals zs ws) (h : sp (gV vs zs) H Q E) : wpAny (model X.prog X.w) X.A (call (.ref f) us (ks.zip ws)) (EP X pins σ Q) X.xe s := by
  have r2 := hb.rel r rz
  have hl : (g us ws).length = ps.length := by rw [← r2.length]; exact F.len _ _ _ _ h
  refine wpAny_call (codeAny_mono (F.run X.A X.stack s H ⟨us, ks.zip ws⟩ (g us ws) (gV vs zs) Q E hr I.env0 (hb.to s us ws I.kIn hl) r2 h) fun r s' hq => ?_)
  cases r with
  | error e => exact hx pins σ H s e s' I hq
  | ok fl =>
    cases fl with
    | ret u => exact I.after hq
    | next => exact False.elim hq
    | brk => exact False.elim hq
    | cont => exact False.elim hq
/-- f(e, .., k = v, ..) -/
theorem pe_callK (F : FnOk X.prog X.w X.K X.mg X.base CX k f fd ps sp) (hr : Room k X.A) (hg : Gl X x) (hm : X.mg x = some (.ref f)) (hk : PySem.W.keepIn X.K (.ref f) = true) (hb : KBinds X.K fd ps ks g gV) (hx : Passes CX X E)
    (ha : PA X (e :: es) t) (hkw : PK X kws tk) (hall : (backToKw pos (keywordEach kws X.env)).all (·.1.isSome) = true := by rfl) (hks : (backToKw pos (keywordEach kws X.env)).filterMap (·.1) = ks := by rfl)
    (hdb : (x == ("__debug__" : Str)) = false := by decide) (he : starEach (e :: es) X.env = (false, eval e X.env) :: starEach es X.env := by rfl)
    (hpl : ((backTo pos (starEach (e :: es) X.env)).any (·.1) || (backToKw pos (keywordEach kws X.env)).any (·.1.isNone)) = false := by rfl) :
    PE X (.Call (.Name x p) (e :: es) kws pos) (tCallK sp gV E t tk) := by
  intro pins s σ H Q I h
  refine wpAny_Call_Name_kw (ld_glob I hg hm ?_ hdb)
  refine PySem.W.callWith_KW (h₀ := X.base) I.ok.mod.kin hk hall (thn (ha pos pins s σ H _ I h) fun us s1 ⟨vs, H1, I1, r, q⟩ => ?_) hpl he
  refine thn (hkw pos pins s1 σ H1 _ I1 q) fun ws s2 ⟨zs, H2, I2, rz, q2⟩ => ⟨I2.kIn, ?_⟩
  rw [hks]
  exact run_fnk F hr hb hx I2 r rz q2
end

/-! ### a def's body keeps its promise -/
/-- names: the parameters first -/
structure FnScope (N P : List Str) (sc : Scope) : Prop where
  kind : sc.kind = .function
  co : sc.isCoroutine = false
  gen : sc.isGenerator = false
  nd : N.Nodup
  pre : N.take P.length = P
  par : ∀ x ∈ P, sc.names.lookup x = some .local ∨ sc.names.lookup x = some .cell
  nofree : ∀ y ∈ sc.names, y.2 ≠ .free

theorem bindL_out {kindOf : Str → Option NameKind} {x : Str} : ∀ {binds : List (Str × Value)} {m : Str → Option Value}, (∀ v, (x, v) ∉ binds) → bindL kindOf binds m x = m x
  | [], _, _ => rfl
  | (n, v) :: r, m, h => by
    unfold bindL
    rw [bindL_out fun w hw => h w (List.mem_cons_of_mem _ hw)]
    split
    · have : x ≠ n := by rintro rfl; exact h v List.mem_cons_self
      simp [this]
    · rfl
theorem bindC_out {kindOf : Str → Option NameKind} {x : Str} : ∀ {binds : List (Str × Value)} {m : Str → Option Value}, (∀ v, (x, v) ∉ binds) → bindC kindOf binds m x = m x
  | [], _, _ => rfl
  | (n, v) :: r, m, h => by
    unfold bindC
    rw [bindC_out fun w hw => h w (List.mem_cons_of_mem _ hw)]
    split
    · rfl
    · have : x ≠ n := by rintro rfl; exact h v List.mem_cons_self
      simp [this]
theorem bindL_get {kindOf : Str → Option NameKind} {x : Str} {v : Value} : ∀ {P : List Str} {vs : List Value} {i : Nat} {m : Str → Option Value}, P.Nodup → P[i]? = some x → vs[i]? = some v → kindOf x = some .local →
    bindL kindOf (P.zip vs) m x = some v
  | [], _, _, _, _, h, _, _ => by simp at h
  | _ :: _, [], _, _, _, _, h, _ => by simp at h
  | p :: P, w :: vs, 0, m, nd, h1, h2, hk => by
    simp at h1 h2; subst h1; subst h2
    show bindL kindOf ((p, w) :: P.zip vs) m p = _
    unfold bindL
    rw [bindL_out fun v hv => (List.nodup_cons.mp nd).1 (List.of_mem_zip hv).1, if_pos hk]
    simp
  | p :: P, w :: vs, i + 1, m, nd, h1, h2, hk => by
    show bindL kindOf ((p, w) :: P.zip vs) m x = _
    unfold bindL
    exact bindL_get (i := i) (List.nodup_cons.mp nd).2 (by simpa using h1) (by simpa using h2) hk
theorem bindC_get {kindOf : Str → Option NameKind} {x : Str} {v : Value} : ∀ {P : List Str} {vs : List Value} {i : Nat} {m : Str → Option Value}, P.Nodup → P[i]? = some x → vs[i]? = some v → kindOf x ≠ some .local →
    bindC kindOf (P.zip vs) m x = some v
  | [], _, _, _, _, h, _, _ => by simp at h
  | _ :: _, [], _, _, _, _, h, _ => by simp at h
  | p :: P, w :: vs, 0, m, nd, h1, h2, hk => by
    simp at h1 h2; subst h1; subst h2
    show bindC kindOf ((p, w) :: P.zip vs) m p = _
    unfold bindC
    rw [bindC_out fun v hv => (List.nodup_cons.mp nd).1 (List.of_mem_zip hv).1, if_neg hk]
    simp
  | p :: P, w :: vs, i + 1, m, nd, h1, h2, hk => by
    show bindC kindOf ((p, w) :: P.zip vs) m x = _
    unfold bindC
    exact bindC_get (i := i) (List.nodup_cons.mp nd).2 (by simpa using h1) (by simpa using h2) hk

/-- the names' values at the entry -/
def start (N : List Str) (vs : List V) : St := vs.map some ++ List.replicate (N.length - vs.length) none

/-- the context of a def's body, at its entry; an exception leaves the frame, then lies as CX says -/
def cxOf (CX : CXT) (P : Program) (w : World) (K : PySem.W.Frag) (mg : Str → Option Value) (base : Heap) (N : List Str) (qual : Str) (scope : Scope) (f : Addr) (cd : Value) (A : Around) (outer : List Env) (s : Shared) (H : Hp) (E : XK) : Cx where
  prog := P
  w := w
  K := K
  mg := mg
  base := base
  A := A.deeper (envOfC qual scope s.heap.objs.size f cd)
  N := N
  s₀ := s
  H₀ := H
  env := envOfC qual scope s.heap.objs.size f cd
  outer := outer
  stack := envOfC qual scope s.heap.objs.size f cd :: outer
  ex := []
  calm := true
  fn := fun _ => true
  pn := []
  xe := fun e s' => wpAny (model P w) (A.deeper (envOfC qual scope s.heap.objs.size f cd)) (leaving (envOfC qual scope s.heap.objs.size f cd) e) (fun _ s'' => CX outer H s E e s'') (fun e' s'' => CX outer H s E e' s'') s'

theorem cell_has {sc : Scope} {n : Nat} {x : Str} (h : sc.names.lookup x = some .cell) : ∃ c, (cellsFrom n sc.names []).lookup x = some c := by
  have q := PySem.W.cellsFrom_some sc.names n [] (.inl h)
  exact Option.isSome_iff_exists.mp q

theorem inv_start {CX : CXT} {P : Program} {w : World} {K : PySem.W.Frag} {mg : Str → Option Value} {base : Heap} {N ps : List Str} {qual : Str} {scope : Scope} {f : Addr} {cd : Value} {A : Around} {outer : List Env} {s s1 : Shared} {H : Hp} {E : XK} {us : List Value} {vs : List V}
    (S : FnScope N ps scope) (hd : A.handled = none) (e0 : Env0 P w K mg base A outer s H) (hl : vs.length = ps.length) (r : Vals vs us)
    (x : InCallC s s.heap.objs.size (bindL (envOfC qual scope s.heap.objs.size f cd).kindOf (ps.zip us) fun _ => none) (cellsFrom (s.heap.objs.size + 1) scope.names []) (bindC (envOfC qual scope s.heap.objs.size f cd).kindOf (ps.zip us) fun _ => none) s1) :
    Inv (cxOf CX P w K mg base N qual scope f cd A outer s H E) [] (start N vs) H s1 := by
  have hpl : ps.length ≤ N.length := by have := congrArg List.length S.pre; rw [List.length_take] at this; omega
  obtain ⟨h1, tk, rfl, hk⟩ := x.done
  have noA : ∀ b : Addr, b ∉ (cxOf CX P w K mg base N qual scope f cd A outer s H E).ex := fun b z => absurd (show b ∈ ([] : List Addr) from z) (by simp)
  refine ⟨⟨e0.mod, S.kind, rfl, rfl, Nat.le_refl _, fun y z c h1 h2 => ?_, fun y hy => ?_, fun y c _ h => ?_, fun _ => hd, Around.frames_deeper e0.frames, .inr ⟨rfl, rfl⟩, fun b z => absurd z (noA b), e0.bs, e0.bsz, fun b _ _ => noA b, fun b z => absurd z (noA b), e0.funs, e0.frf⟩,
    rfl, e0.bare, Un.kept hk, ⟨_, x.toInCall.ns, fun i y v h1 h2 h3 => ?_⟩, fun y c h => ⟨_, x.cell y c h⟩, e0.hok.fresh (Nat.le_refl _), fun y c h => ?_, fun p hp => absurd (show p ∈ ([] : List (Addr × Obj)) from hp) (by simp), e0.hok.kept hk, ?_⟩
  · exact name_of_addr x.apart (PySem.mem_of_lookup h1) (PySem.mem_of_lookup h2)
  · have hy : scope.names.lookup y = some .cell ∨ scope.names.lookup y = some .free := hy
    rcases hy with hy | hy
    · exact cell_has hy
    · exact absurd rfl (S.nofree _ (PySem.mem_of_lookup hy))
  · exact Nat.le_of_lt (x.above y c (PySem.mem_of_lookup h))
  · have hi : i < vs.length := by
      unfold start at h2
      by_cases hi : i < vs.length
      · exact hi
      · rw [List.getElem?_append_right (by simpa using hi)] at h2
        rw [List.getElem?_replicate] at h2
        split at h2 <;> cases h2
    have ha : vs[i]? = some v := by
      unfold start at h2
      rw [List.getElem?_append_left (by simpa using hi), List.getElem?_map] at h2
      cases e : vs[i]? with
      | none => rw [e] at h2; cases h2
      | some a => rw [e] at h2; cases h2; rfl
    obtain ⟨u, hu, rv⟩ := r.get ha
    have hp : ps[i]? = some y := by
      rw [← S.pre, List.getElem?_take_of_lt (by omega)]; exact h1
    have ndP : ps.Nodup := by rw [← S.pre]; exact S.nd.sublist (List.take_sublist _ _)
    refine ⟨u, rv, ?_⟩
    rcases S.par y (List.mem_of_getElem? hp) with k | k
    · exact .inl ⟨k, bindL_get ndP hp hu k⟩
    · obtain ⟨c, e⟩ := cell_has (n := s.heap.objs.size + 1) k
      refine .inr ⟨.inl k, c, e, ?_⟩
      have q := x.cell y c e
      rw [bindC_get ndP hp hu (by show scope.names.lookup y ≠ _; rw [k]; decide)] at q
      exact q
  · exact e0.hok.fresh (Nat.le_of_lt (x.above y c (PySem.mem_of_lookup h)))
  · unfold start
    show _ = N.length
    rw [List.length_append, List.length_map, List.length_replicate]
    omega

/-- THE RULE: a def (or a method) of the text, by its body. The body's reading t is chosen for each entry; it is run at the parameters' values -/
theorem fn_of {CX : CXT} {P : Program} {w : World} {K : PySem.W.Frag} {mg : Str → Option Value} {base : Heap} {k : Nat} {f : Addr} {name qual : Str} {params : Arguments} {body : List Stmt} {scope : Scope} {dV kV doc pm cdv ct oc : Value} {an od : Option Addr}
    {osl : Array (Option Value)} {N ps : List Str} {sp : Sp} (lk : K.lookup f = some ⟨oc, od, .func (PySem.W.fnOf name qual params body scope dV kV doc pm an cdv ct), osl⟩) (hcd : PySem.W.codeIn K cdv qual = true) (S : FnScope N ps scope)
    (len : ∀ vs H Q E, sp vs H Q E → vs.length = ps.length)
    (hbody : ∀ (A : Around) (outer : List Env) (s : Shared) (H : Hp) (vs : List V) (Q : VK) (E : XK), Room k (A.deeper (envOfC qual scope s.heap.objs.size f cdv)) → sp vs H Q E →
      ∃ t, PSs (cxOf CX P w K mg base N qual scope f cdv A outer s H E) body t ∧ t { nx := fun _ H' => Q .non H', rt := Q } (start N vs) H) :
    FnOk P w K mg base CX (k + 1) f (PySem.W.fnOf name qual params body scope dV kV doc pm an cdv ct) ps sp := by
  refine ⟨len, fun A outer s H args us vs Q E hr e0 hb r hsp => ?_⟩
  have hl := len _ _ _ _ hsp
  have KX : K.In s.heap := e0.mod.kin.keeps fun b o e => (e0.bs b o e).1
  have lim : s.heap.NoLimit := e0.mod.nolimit.keeps fun b o e => (e0.bs b o e).1
  have hkind : ∀ y ∈ ps.zip us, scope.names.lookup y.1 = some .local ∨ (scope.names.lookup y.1 = some .cell ∧ ((cellsFrom (s.heap.objs.size + 1) scope.names []).lookup y.1).isSome = true) := fun ⟨n, v⟩ hy => by
    rcases S.par n (List.of_mem_zip hy).1 with q | q
    · exact .inl q
    · exact .inr ⟨q, PySem.W.cellsFrom_some _ _ _ (.inl q)⟩
  refine codeAny_call_function hr.depth (KX _ _ lk) rfl S.co S.gen rfl (PySem.W.codeRec_of KX hcd) (hb _ _ _ _ ?_)
  refine wpAny_newFunctionEnv_cells S.kind hkind fun env he s1 x => ?_
  subst he
  refine ⟨lim.keeps x.toInCall.keep, codeAny_func ?_⟩
  obtain ⟨t, ht, hq⟩ := hbody A outer s H vs Q E (hr.deeper _) hsp
  have I : Inv (cxOf CX P w K mg base N qual scope f cdv A outer s H E) [] (start N vs) H s1 := inv_start S hr.hd e0 hl r x
  refine wpAny_mono (ht [] s1 (start N vs) H _ I hq) (fun fl s' hs => ?_) fun e s' hs => hs
  have fin : ∀ {σ' : St} {H' : Hp} {v : V} {u : Value}, Inv (cxOf CX P w K mg base N qual scope f cdv A outer s H E) [] σ' H' s' → RelV v u → Q v H' → CE outer P w H s Q u s' :=
    fun {σ' H' v u} J rv q => ⟨v, H', J.os, J.bare, J.base, J.hok, rv, q⟩
  cases fl with
  | ret u =>
    obtain ⟨v, σ', H', J, rv, q⟩ := hs
    exact fin J rv q
  | next =>
    obtain ⟨σ', H', J, q⟩ := hs
    exact fin (v := V.non) (u := Value.none) J rfl q
  | brk =>
    obtain ⟨_, _, _, q⟩ := hs
    exact False.elim q
  | cont =>
    obtain ⟨_, _, _, q⟩ := hs
    exact False.elim q
end L2

namespace L2
open PySem PySem.Spec PyProof.Rows
section
variable {X : Cx} {x : Str} {p pos : Pos} {e : Expr} {es : List Expr} {t : TA} {id T : String} {r : List V → Hp → VK → Prop}

def tCB (r : List V → Hp → VK → Prop) (t : TA) : TE := fun σ H Q => t σ H fun vs H1 => r vs H1 Q
/-- f(e, ..), f a built-in function -/
theorem pe_callB (hc : CallR X (.builtin id) r) (hg : Gl X x) (hm : X.mg x = none) (hv : bootBuiltins x = some (.builtin id)) (ha : PA X (e :: es) t) (hn : x ≠ "__name__" := by decide) (hdb : (x == ("__debug__" : Str)) = false := by decide)
    (he : starEach (e :: es) X.env = (false, eval e X.env) :: starEach es X.env := by rfl) (hpl : (backTo pos (starEach es X.env)).any (·.1) = false := by rfl) : PE X (.Call (.Name x p) (e :: es) [] pos) (tCB r t) := by
  intro pins s σ H Q I h
  refine wpAny_Call_Name_kw (ld_blt I hg hm hv ?_ hn hdb)
  exact PyProof.Rows.callWith_builtin1 (thn (ha pos pins s σ H _ I h) fun us s1 ⟨vs, H1, I1, r1, q1⟩ => hc pins s1 σ H1 vs us Q I1 r1 q1) he hpl
/-- T(e, ..), T a built-in type -/
theorem pe_callTy (hc : CallR X (.type T) r) (hg : Gl X x) (hm : X.mg x = none) (hv : bootBuiltins x = some (.type T)) (ha : PA X (e :: es) t) (hn : x ≠ "__name__" := by decide) (hdb : (x == ("__debug__" : Str)) = false := by decide)
    (he : starEach (e :: es) X.env = (false, eval e X.env) :: starEach es X.env := by rfl) (hpl : (backTo pos (starEach es X.env)).any (·.1) = false := by rfl) : PE X (.Call (.Name x p) (e :: es) [] pos) (tCB r t) := by
  intro pins s σ H Q I h
  refine wpAny_Call_Name_kw (ld_blt I hg hm hv ?_ hn hdb)
  exact PyProof.Rows.callWith_type1 (thn (ha pos pins s σ H _ I h) fun us s1 ⟨vs, H1, I1, r1, q1⟩ => hc pins s1 σ H1 vs us Q I1 r1 q1) he hpl
/-- T() -/
theorem pe_callTy0 (hc : CallR X (.type T) r) (hg : Gl X x) (hm : X.mg x = none) (hv : bootBuiltins x = some (.type T)) (hn : x ≠ "__name__" := by decide) (hdb : (x == ("__debug__" : Str)) = false := by decide) :
    PE X (.Call (.Name x p) [] [] pos) (tCB r tNil) := by
  intro pins s σ H Q I h
  refine wpAny_Call_Name_kw (ld_blt I hg hm hv ?_ hn hdb)
  exact PyProof.Rows.callWith_type0 (hc pins s σ H [] [] Q I .nil h)
end
end L2

namespace HT
open PySem PyProof.Rows

/-- t < u of tuples of ints -/
def lexLt : List Int → List Int → Bool
  | [], [] => false
  | [], _ :: _ => true
  | _ :: _, [] => false
  | x :: xs, y :: ys => if x = y then lexLt xs ys else decide (x < y)
theorem lexLt_cons (x y : Int) (xs ys : List Int) : lexLt (x :: xs) (y :: ys) = if x = y then lexLt xs ys else decide (x < y) := rfl
theorem lexLt_nil_nil : lexLt [] [] = false := rfl
theorem lexLt_nil_cons (y : Int) (ys : List Int) : lexLt [] (y :: ys) = true := rfl
theorem lexLt_cons_nil (x : Int) (xs : List Int) : lexLt (x :: xs) [] = false := rfl

theorem eqAt_int (A : Around) (s : Shared) (a : Int) (t : Tok) (c : Int) (u : Tok) : ∃ e, SeqAt.EqAt A s (.int a t) (.int c u) e ∧ (e = true ↔ a = c) :=
  ⟨(a == c), SeqAt.EqAt.int_int a t c u, by simp⟩
theorem rcLt_int (A : Around) (s : Shared) (a : Int) (t : Tok) (c : Int) (u : Tok) (prog : Program) (w : World) (E : Value → Shared → Prop) (Q : Value → Shared → Prop) (h : Q (.bool (decide (a < c))) s) :
    wpAny (model prog w) A (richCompare .Lt (.int a t) (.int c u)) Q E s :=
  (PyProof.Rows.lt_int h : wpAny (model prog w) A (compareOp .Lt (.int a t) (.int c u)) Q E s)

section
open PySem.SeqAt
open PySem.AutoSeq1 (wpAny_loadPart')
open PySem.MeetsSeq PySem.MeetsSeq2 PySem.MeetsSeq3

theorem tuple_lt_ints (l b : Addr) (items items2 : Array Value) (n n2 : Nat) (dd dd2 : Option Addr) (sl sl2 : Array (Option Value)) (ns ms : List Int) (hi : IntsAre items.toList ns) (hj : IntsAre items2.toList ms) :
    Meets (Builtin.«tuple.__lt__» ⟨[.ref l, .ref b], []⟩)
      (fun _ R s => s.heap.get? l = some { cls := .type "tuple", dict := dd, data := .seq items n, slots := sl } ∧ s.heap.get? b = some { cls := .type "tuple", dict := dd2, data := .seq items2 n2, slots := sl2 } ∧
        R (.ok (.ret (.bool (lexLt ns ms)))) s) :=
  .of_wp fun prog w A R s h => by
    obtain ⟨hp, g, d, tk, os⟩ := s; obtain ⟨hl, hb, h⟩ := h
    have f2 := AutoSeq1.sub_tuple_tuple
    have z1 : items.size = ns.length := by rw [← hi.length]; simp
    have z2 : items2.size = ms.length := by rw [← hj.length]; simp
    wp_walk using wpAny_loadPart' hl, wpAny_loadPart' hb, wpAny_forIn_list _ (fun rest b s' => b.1 = none ∧ s' = ⟨hp, g, d, tk, os⟩ ∧ ∃ (vs ws : List Value) (ns' ms' : List Int), rest = vs.zip ws ∧
      IntsAre vs ns' ∧ IntsAre ws ms' ∧ ns'.length + items2.size = ms'.length + items.size ∧ R (.ok (.ret (.bool (lexLt ns' ms')))) ⟨hp, g, d, tk, os⟩) _
    case turn =>
      rintro ⟨y, x⟩ rest b s' ⟨hb', rfl, vs, ws, ns', ms', hz, hvi, hwi, hlen, hR⟩
      cases hvi with
      | nil => rw [List.zip_nil_left] at hz; cases hz
      | cons a t hvi' =>
        cases hwi with
        | nil => rw [List.zip_nil_right] at hz; cases hz
        | cons c u hwi' =>
          rw [List.zip_cons_cons] at hz
          injection hz with hyx hrest
          injection hyx with hy hx
          subst hy hx
          rw [lexLt_cons] at hR
          simp only [List.length_cons] at hlen
          obtain ⟨e, he, hiff⟩ := eqAt_int A.in1 ⟨hp, g, d, tk, os⟩ a t c u
          refine wpAny_bind (he prog w _ _ ?_)
          cases e with
          | true =>
            rw [if_pos (hiff.mp rfl)] at hR
            wp_walk
            exact ⟨rfl, rfl, _, _, _, _, hrest, hvi', hwi', by omega, hR⟩
          | false =>
            rw [if_neg (fun q => absurd (hiff.mpr q) Bool.false_ne_true)] at hR
            have hri := rcLt_int A.in1 ⟨hp, g, d, tk, os⟩ a t c u prog w
            wp_walk using hri
            exact ⟨_, rfl, by simpa using hR⟩
    case fin =>
      rintro ⟨b1, b2⟩ s' ⟨hb', rfl, vs, ws, ns', ms', hz, hvi, hwi, hlen, hR⟩
      simp only at hb'
      subst hb'
      have hv : lexLt ns' ms' = decide (items.size < items2.size) := by
        cases hvi with
        | nil =>
          cases hwi with
          | nil =>
            simp only [List.length_nil] at hlen
            rw [lexLt_nil_nil]
            exact (decide_eq_false (by omega)).symm
          | cons c u hw =>
            simp only [List.length_nil, List.length_cons] at hlen
            rw [lexLt_nil_cons]
            exact (decide_eq_true (by omega)).symm
        | cons a t hv =>
          cases hwi with
          | nil =>
            simp only [List.length_nil, List.length_cons] at hlen
            rw [lexLt_cons_nil]
            exact (decide_eq_false (by omega)).symm
          | cons c u hw =>
            rw [List.zip_cons_cons] at hz
            cases hz
      rw [hv] at hR
      wp_walk
      exact ⟨_, rfl, by simpa [Builtin.Tuple.tupleCompareSizes] using hR⟩
    case h =>
      exact ⟨rfl, rfl, items.toList, items2.toList, ns, ms, rfl, hi, hj, by omega, h⟩
end

section
variable {prog : Program} {w : World} {A : Around} {E : Value → Shared → Prop} {s : Shared}

theorem lt_tupInts {l b : Addr} {items items2 : Array Value} {ns ms : List Int} {Q : Value → Shared → Prop} (hl : IsTup s.heap l items) (hb : IsTup s.heap b items2) (hi : IntsAre items.toList ns) (hj : IntsAre items2.toList ms)
    (hu : A.units < cLine) (h : Q (.bool (lexLt ns ms)) s) : wpAny (model prog w) A (compareOp .Lt (.ref l) (.ref b)) Q E s := by
  obtain ⟨⟨cls, dd, data, sl⟩, ho, hc, n, hd⟩ := id hl
  obtain ⟨⟨cls2, dd2, data2, sl2⟩, ho2, hc2, n2, hd2⟩ := id hb
  simp only at hc hd hc2 hd2
  subst hc hd hc2 hd2
  exact richCompare_meets_room (op := .Lt) ⟨_, ho, rfl⟩ ⟨_, ho2, rfl⟩ PySem.F.slot_tuple_lt PySem.F.entry_tuple_lt (PySem.F.args_tuple_lt_2 _ _) (tuple_lt_ints l b items items2 n n2 dd dd2 sl sl2 ns ms hi hj)
    ⟨ho, ho2, show Value.bool (lexLt ns ms) ≠ Value.notImplemented ∧ Q (.bool (lexLt ns ms)) s from ⟨(fun x => nomatch x), h⟩⟩ hu

/-- t + u, t not empty -/
theorem cat_tup {t b : Addr} {vs ws : List Value} {Q : Value → Shared → Prop} (ht : IsTup s.heap t vs.toArray) (hb : IsTup s.heap b ws.toArray) (hv : vs ≠ [])
    (h1 : ws = [] → Q (.ref t) s) (h2 : ws ≠ [] → Q (.ref s.heap.objs.size) { s with heap := s.heap.push { cls := .type "tuple", data := .seq (vs ++ ws).toArray } })
    (hsz : vs.length + ws.length ≤ sizeLine) : wpAny (model prog w) A (binaryOp .Add (.ref t) (.ref b)) Q E s := by
  obtain ⟨⟨cls, dd, data, sl⟩, ho, hc, n, hd⟩ := id ht
  obtain ⟨⟨cls2, dd2, data2, sl2⟩, ho2, hc2, n2, hd2⟩ := id hb
  simp only at hc hd hc2 hd2
  subst hc hd hc2 hd2
  have e : vs.toArray ++ ws.toArray = (vs ++ ws).toArray := by simp
  by_cases hw : ws = []
  · exact concat_meets ⟨_, ho, rfl⟩ ⟨_, ho2, rfl⟩ noFill_tuple_add seq_tuple_add PySem.F.slot_tuple_add PySem.F.entry_tuple_add (PySem.F.args_tuple_add_2 _ _)
      (tuple_addW1 t b vs.toArray ws.toArray n n2 dd dd2 sl sl2 (by simpa using hv) (by simp [hw])) ⟨ho, ho2, h1 hw⟩
  · refine concat_meets ⟨_, ho, rfl⟩ ⟨_, ho2, rfl⟩ noFill_tuple_add seq_tuple_add PySem.F.slot_tuple_add PySem.F.entry_tuple_add (PySem.F.args_tuple_add_2 _ _)
      (tuple_addW2 t b vs.toArray ws.toArray n n2 dd dd2 sl sl2 (by simpa using hv) (by simpa using hw) (by rw [List.size_toArray, List.size_toArray]; exact hsz)) ⟨ho, ho2, ?_⟩
    rw [e]
    exact h2 hw

/-! ### t[a:b], not the whole -/
/-- a slice's bound as a place among n (d where it is left out) -/
def sIx (n d : Nat) : Option Int → Nat
  | none => d
  | some v => if v < 0 then (v + (n : Int)).toNat else min v.toNat n
theorem sIx_none (n d : Nat) : sIx n d none = d := rfl
theorem sIx_nat (n d k : Nat) : sIx n d (some (k : Int)) = min k n := by
  show (if (k : Int) < 0 then ((k : Int) + (n : Int)).toNat else min (k : Int).toNat n) = min k n
  rw [if_neg (by omega), Int.toNat_natCast]
theorem sIx_le (n d : Nat) (hd : d ≤ n) (o : Option Int) : sIx n d o ≤ n := by
  cases o with
  | none => exact hd
  | some v =>
    show (if v < 0 then (v + (n : Int)).toNat else min v.toNat n) ≤ n
    by_cases hv : v < 0
    · rw [if_pos hv]; omega
    · rw [if_neg hv]; exact Nat.min_le_right _ _
theorem clip_eq (v : Int) (n d : Nat) : (if v < 0 then max (v + (n : Int)) 0 else min v (n : Int)) = ((sIx n d (some v) : Nat) : Int) := by
  show (if v < 0 then max (v + (n : Int)) 0 else min v (n : Int)) = (((if v < 0 then (v + (n : Int)).toNat else min v.toNat n) : Nat) : Int)
  by_cases hv : v < 0
  · simp only [if_pos hv]; omega
  · simp only [if_neg hv]; omega
theorem adjust_gen (lo hi : Option Int) (n : Nat) : Builtin.Slice.sliceAdjust lo hi 1 (n : Int) = (((sIx n 0 lo : Nat) : Int), ((sIx n n hi : Nat) : Int)) := by
  have h1 : ¬ ((1 : Int) < 0) := by omega
  unfold Builtin.Slice.sliceAdjust
  simp only [h1, if_false]
  refine Prod.ext ?_ ?_
  · cases lo with
    | none => rfl
    | some v => exact clip_eq v n 0
  · cases hi with
    | none => rfl
    | some v => exact clip_eq v n n
theorem places_gen (i j : Nat) : Builtin.Slice.slicePlaces (i : Int) (j : Int) 1 = j - i := by
  unfold Builtin.Slice.slicePlaces
  have h1 : (1 : Int) > 0 := by omega
  simp only [h1, if_true, Int.ediv_one]
  split <;> omega
theorem slicePart_ {v : Value} {o : Option Int} {Q : Option Int → Shared → Prop} (p : IsPart v o) (h : Q o s) : wpAny (model prog w) A (Builtin.Slice.slicePartIndex v) Q E s := by
  cases p with
  | none => exact slicePart_none h
  | int i t => exact slicePart_int h
theorem sliceApplied_gen {sl : Addr} {vl vu : Value} {lo hi : Option Int} {n : Nat} {Q : Int × Int × Nat → Shared → Prop} (hs : s.heap.IsSliceOf sl vl vu .none) (pl : IsPart vl lo) (pu : IsPart vu hi)
    (h : Q (((sIx n 0 lo : Nat) : Int), 1, sIx n n hi - sIx n 0 lo) s) : wpAny (model prog w) A (Builtin.Slice.sliceApplied (.ref sl) (pure (n : Int))) Q E s := by
  obtain ⟨os, hos, hcs, hds⟩ := id hs
  unfold Builtin.Slice.sliceApplied Builtin.Slice.sliceFields
  refine wpAny_bind (wpAny_bind (wpAny_field hos hds (x := vl) rfl (wpAny_bind (wpAny_field hos hds (x := vu) rfl (wpAny_bind (wpAny_field hos hds (x := .none) rfl (wpAny_pure ?_)))))))
  refine wpAny_bind (slicePart_none ?_)
  show wpAny _ _ (if ((1 : Int) == 0) = true then _ else _) _ _ s
  rw [if_neg (by decide)]
  refine wpAny_bind (slicePart_ pl (wpAny_bind (slicePart_ pu (wpAny_bind (wpAny_pure ?_)))))
  show wpAny _ _ (match Builtin.Slice.sliceAdjust lo hi 1 (n : Int) with | (lo, hi) => pure (lo, (1 : Int), Builtin.Slice.slicePlaces lo hi 1)) _ _ s
  rw [adjust_gen lo hi n]
  show wpAny _ _ (pure (((sIx n 0 lo : Nat) : Int), (1 : Int), Builtin.Slice.slicePlaces ((sIx n 0 lo : Nat) : Int) ((sIx n n hi : Nat) : Int) 1)) _ _ s
  rw [places_gen]
  exact wpAny_pure h
theorem pick_gen (xs : Array Value) (i k : Nat) : ((List.range k).filterMap fun (m : Nat) => xs[((i : Int) + (m : Int) * 1).toNat]?).toArray = ((xs.toList.drop i).take k).toArray := by
  have e : (fun (m : Nat) => xs[((i : Int) + (m : Int) * 1).toNat]?) = fun m => xs[i + m]? := by
    funext m
    have : ((i : Int) + (m : Int) * 1).toNat = i + m := by omega
    rw [this]
  rw [e]
  have := pick_run xs i k
  rw [List.filterMap_map] at this
  have e2 : ((fun x => xs[x]?) ∘ fun x => i + x) = fun m => xs[i + m]? := rfl
  rw [e2] at this
  rw [this]

theorem getItem_tuple_cut {t sl : Addr} {items : Array Value} {vl vu : Value} {lo hi : Option Int} {Q : Value → Shared → Prop} (ht : IsTup s.heap t items) (hs : s.heap.IsSliceOf sl vl vu .none) (pl : IsPart vl lo) (pu : IsPart vu hi)
    (hw : ¬ (sIx items.size 0 lo = 0 ∧ sIx items.size items.size hi = items.size))
    (h : Q (.ref s.heap.objs.size) { s with heap := s.heap.push { cls := .type "tuple", data := .seq ((items.toList.drop (sIx items.size 0 lo)).take (sIx items.size items.size hi - sIx items.size 0 lo)).toArray } })
    (hsz : items.size ≤ sizeLine) : wpAny (model prog w) A (getItem (.ref t) (.ref sl)) Q E s := by
  have htake : sizeOk (.seq ((items.toList.drop (sIx items.size 0 lo)).take (sIx items.size items.size hi - sIx items.size 0 lo)).toArray) := by
    show ((items.toList.drop (sIx items.size 0 lo)).take (sIx items.size items.size hi - sIx items.size 0 lo)).toArray.size ≤ sizeLine
    rw [List.size_toArray, List.length_take, List.length_drop, Array.length_toList]
    omega
  have hj : sIx items.size items.size hi ≤ items.size := sIx_le _ _ (Nat.le_refl _) hi
  obtain ⟨os, hos, hcs, hds⟩ := id hs
  have hTs : s.TypeIs (.ref sl) "slice" := ⟨os, hos, hcs⟩
  unfold getItem
  try with_reducible refine wpAny_holding ?_
  first | refine wpAny_bind (wpAny_pure ?_) | skip
  refine wpAny_bind (wpAny_sequenceKey ht.typeIs (by decide) ?_)
  refine wpAny_bind (wpAny_callSpecial?_slot (name := Str.ofString "__getitem__") ht.typeIs PyProof.Rows.slot_tuple_getitem
    (wpAny_call_entry PyProof.Rows.slot_tuple_getitem ht.typeIs entry_tuple_getitem ?_ (args_tuple_getitem _ _)))
  show wpAny _ _ (Builtin.Tuple.tupleItemsOf (.ref t) >>= _) _ _ s
  refine wpAny_bind (tupleItemsOf_ ht ?_)
  refine wpAny_bind (wpAny_typeOf hTs ?_)
  rw [if_pos (by decide)]
  refine wpAny_bind (sliceApplied_gen hs pl pu ?_)
  have hno : ¬ ((((sIx items.size 0 lo : Nat) : Int) == 0 && (1 : Int) == 1 && (sIx items.size items.size hi - sIx items.size 0 lo) == items.size) = true) := by
    intro q
    rw [Bool.and_eq_true, Bool.and_eq_true] at q
    have q1 : ((sIx items.size 0 lo : Nat) : Int) = 0 := eq_of_beq q.1.1
    have q2 : sIx items.size items.size hi - sIx items.size 0 lo = items.size := eq_of_beq q.2
    exact hw ⟨by omega, by omega⟩
  show wpAny _ _ (if (((sIx items.size 0 lo : Nat) : Int) == 0 && (1 : Int) == 1 && (sIx items.size items.size hi - sIx items.size 0 lo) == items.size) = true then _ else _) _ _ s
  rw [if_neg hno, pick_gen]
  first
    | exact wpAny_bind (m := Builtin.Tuple.tupleExact _) (wpAny_newObj_type (wpAny_pure ⟨_, rfl, wpAny_pure h⟩) htake)
    | exact wpAny_bind (m := Builtin.Tuple.tupleExact _) (wpAny_newObj_type (wpAny_bind (wpAny_pure (wpAny_pure ⟨_, rfl, wpAny_pure h⟩))) htake)
    | exact wpAny_bind (wpAny_bind (m := Builtin.Tuple.tupleExact _) (wpAny_newObj_type (wpAny_pure (wpAny_pure ⟨_, rfl, wpAny_pure h⟩)) htake))
    | exact wpAny_bind (wpAny_bind (m := Builtin.Tuple.tupleExact _) (wpAny_newObj_type (wpAny_pure ⟨_, rfl, wpAny_pure h⟩) htake))
end
end HT

namespace L2
open PySem PySem.Spec PyProof.Rows

/-! ### the parts of a slice -/
abbrev TO := St → Hp → (Option Int → Hp → Prop) → Prop
/-- a slice's part (left out, or an int) -/
def PO (X : Cx) (e : Option Expr) (t : TO) : Prop :=
  ∀ (pins : List (Addr × Obj)) (s : Shared) (σ : St) (H : Hp) (Q : Option Int → Hp → Prop), Inv X pins σ H s → t σ H Q →
    wpAny (model X.prog X.w) X.A (evalPart e X.env) (fun u s' => ∃ o H', Inv X pins σ H' s' ∧ IsPart u o ∧ Q o H') X.xe s
def tNoPart : TO := fun _ H Q => Q none H
def tPart (t : TE) : TO := fun σ H Q => t σ H fun x H1 => ∃ i, x = .int i ∧ Q (some i) H1

theorem intsAre_of {ns : List Int} : ∀ {us : List Value}, Vals (ns.map V.int) us → IntsAre us ns := by
  induction ns with
  | nil => intro us r; rw [List.map_nil] at r; cases r; exact .nil
  | cons n ns ih =>
    intro us r
    rw [List.map_cons] at r
    cases r with
    | cons r1 r2 =>
      obtain ⟨t, e⟩ := r1
      subst e
      exact .cons n t (ih r2)

section
variable {X : Cx} {e : Expr} {te : TE} {lo hi : Option Expr} {tl th : TO} {pos p2 : Pos}

theorem po_none : PO X none tNoPart := by
  intro pins s σ H Q I h
  rw [evalPart_none]
  exact wpAny_pure ⟨none, H, I, .none, h⟩
theorem po_some (h : PE X e te) : PO X (some e) (tPart te) := by
  intro pins s σ H Q I hw
  rw [evalPart_some]
  refine thn (h pins s σ H _ I hw) fun u s1 ⟨x, H1, I1, r1, q1⟩ => ?_
  obtain ⟨i, rfl, q⟩ := q1
  obtain ⟨t, rfl⟩ := r1
  exact ⟨some i, H1, I1, .int i t, q⟩

/-- what a slice of a value is, by values: the slice object stands at sl -/
def SlR (X : Cx) (r : V → Option Int → Option Int → Hp → VK → Prop) : Prop :=
  ∀ (pins : List (Addr × Obj)) (s : Shared) (σ : St) (H : Hp) (x : V) (v vl vu : Value) (lo hi : Option Int) (sl : Addr) (Q : VK), Inv X pins σ H s → RelV x v → s.heap.IsSliceOf sl vl vu .none → IsPart vl lo → IsPart vu hi → r x lo hi H Q →
    ∃ T id, typeLookup (.type T) "__getitem__" = pure (some (.builtin id)) ∧ s.TypeIs v T ∧ wpAny (model X.prog X.w) X.A (getItem v (.ref sl)) (EP X pins σ Q) X.xe s
theorem SlR.or {r r' : V → Option Int → Option Int → Hp → VK → Prop} (h : SlR X r) (h' : SlR X r') : SlR X (fun x lo hi H Q => r x lo hi H Q ∨ r' x lo hi H Q) := by
  intro pins s σ H x v vl vu lo hi sl Q I rx hs pl pu q
  rcases q with q | q
  · exact h pins s σ H x v vl vu lo hi sl Q I rx hs pl pu q
  · exact h' pins s σ H x v vl vu lo hi sl Q I rx hs pl pu q
def tSl (r : V → Option Int → Option Int → Hp → VK → Prop) (te : TE) (tl th : TO) : TE := fun σ H Q => te σ H fun x H1 => tl σ H1 fun l H2 => th σ H2 fun u H3 => r x l u H3 Q
/-- a[lo:hi], any a -/
theorem pe_slice {r : V → Option Int → Option Int → Hp → VK → Prop} (hr : SlR X r) (he : PE X e te) (hl : PO X lo tl) (hu : PO X hi th) : PE X (.Subscript e (.Slice lo hi none p2) pos) (tSl r te tl th) := by
  intro pins s σ H Q I h
  refine Subscript_ (thn (he pins s σ H _ I h) fun v s1 ⟨x, H1, I1, r1, q1⟩ => ?_)
  refine wpAny_Slice (thn (hl pins s1 σ H1 _ I1 q1) fun vl s2 ⟨l, H2, I2, pl, q2⟩ => thn (hu pins s2 σ H2 _ I2 q2) fun vu s3 ⟨u, H3, I3, pu, q3⟩ => ?_)
  rw [evalPart_none]
  refine wpAny_pure ?_
  have I4 : Inv X pins σ H3 { s3 with heap := s3.heap.push { cls := .type "slice", data := .fields #[vl, vu, .none] } } := I3.kept (t' := s3.toks) fun b ob q => Heap.get?_push_of_some _ q
  obtain ⟨T, id, hT, ht, hg⟩ := hr pins { s3 with heap := s3.heap.push { cls := .type "slice", data := .fields #[vl, vu, .none] } } σ H3 x v vl vu l u s3.heap.objs.size Q I4 r1 (Heap.IsSliceOf.new ..) pl pu q3
  show wpAny (model X.prog X.w) X.A (subscriptTail e (.Slice lo hi none p2) v (.ref s3.heap.objs.size)) (EP X pins σ Q) X.xe { s3 with heap := s3.heap.push { cls := .type "slice", data := .fields #[vl, vu, .none] } }
  exact tail_any (ops := [.ref s3.heap.objs.size, v]) ht hT hg (by with_unfolding_all rfl)

/-- the items of xs[lo:hi] -/
def cutV (xs : List V) (lo hi : Option Int) : List V := (xs.drop (HT.sIx xs.length 0 lo)).take (HT.sIx xs.length xs.length hi - HT.sIx xs.length 0 lo)
theorem cutV_length (xs : List V) (lo hi : Option Int) : (cutV xs lo hi).length ≤ xs.length := by
  unfold cutV
  rw [List.length_take, List.length_drop]
  omega
/-- t[lo:hi], not the whole of it (the whole would be t itself) -/
def rSlT (K : PySem.W.Frag) : V → Option Int → Option Int → Hp → VK → Prop := fun x lo hi H Q => ∃ a xs, x = .ref a ∧ SqT K H a xs ∧
  ¬ (HT.sIx xs.length 0 lo = 0 ∧ HT.sIx xs.length xs.length hi = xs.length) ∧ ∀ p, H p = none → Q (.ref p) (upd H p (.tup (cutV xs lo hi)))
theorem sl_tup : SlR X (rSlT X.K) := by
  intro pins s σ H x v vl vu lo hi sl Q I rx hs pl pu h
  obtain ⟨a, xs, rfl, hx, hw, q⟩ := h
  cases rx
  obtain ⟨its, r, ht, hz⟩ := I.tuple hx
  have hlen : its.toArray.size = xs.length := by rw [List.size_toArray]; exact r.length.symm
  refine ⟨"tuple", _, PyProof.Rows.slot_tuple_getitem.lookup, ht.typeIs, ?_⟩
  refine HT.getItem_tuple_cut ht hs pl pu (by rw [hlen]; exact hw) ?_ (by rw [hlen]; exact hz)
  rw [hlen]
  refine ⟨.ref s.heap.objs.size, _, I.laid (t' := s.toks) (o := .tup (cutV xs lo hi)) (fun b ob q => Heap.get?_push_of_some _ q) (Nat.le_refl _) ?_, rfl, q _ (I.hok.fresh (Nat.le_refl _))⟩
  exact ⟨Nat.le_trans (cutV_length xs lo hi) hz, _, (r.drop (HT.sIx xs.length 0 lo)).take (HT.sIx xs.length xs.length hi - HT.sIx xs.length 0 lo), IsTup.new _ _⟩

/-! ### t < u, t + u -/
def rLtT (K : PySem.W.Frag) : R2 := fun x y H Q => ∃ a b ns ms, x = .ref a ∧ y = .ref b ∧ SqT K H a (ns.map V.int) ∧ SqT K H b (ms.map V.int) ∧ Q (.bl (HT.lexLt ns ms)) H
theorem op_ltT (hu : X.A.units < cLine) : OpR X (compareOp .Lt) (rLtT X.K) := by
  intro pins s σ H x y v u Q I rx ry h
  obtain ⟨a, b, ns, ms, rfl, rfl, ha, hb, q⟩ := h
  cases rx
  cases ry
  obtain ⟨its, r1, p1, _⟩ := I.tuple ha
  obtain ⟨its2, r2, p2, _⟩ := I.tuple hb
  have i1 : IntsAre its.toArray.toList ns := intsAre_of r1
  have i2 : IntsAre its2.toArray.toList ms := intsAre_of r2
  exact HT.lt_tupInts p1 p2 i1 i2 hu ⟨.bl (HT.lexLt ns ms), H, I, rfl, q⟩
/-- t + u, t not empty: u empty gives t itself -/
def rCatT (K : PySem.W.Frag) : R2 := fun x y H Q => ∃ a b xs ys, x = .ref a ∧ y = .ref b ∧ SqT K H a xs ∧ SqT K H b ys ∧ xs ≠ [] ∧ xs.length + ys.length ≤ sizeLine ∧
  (ys = [] → Q (.ref a) H) ∧ (ys ≠ [] → ∀ p, H p = none → Q (.ref p) (upd H p (.tup (xs ++ ys))))
theorem Vals.nil_iff {xs : List V} {us : List Value} (r : Vals xs us) : us = [] ↔ xs = [] := by
  cases r with
  | nil => simp
  | cons _ _ => simp
theorem op_catT : OpR X (binaryOp .Add) (rCatT X.K) := by
  intro pins s σ H x y v u Q I rx ry h
  obtain ⟨a, b, xs, ys, rfl, rfl, ha, hb, hx, hz, q1, q2⟩ := h
  cases rx
  cases ry
  obtain ⟨its, r1, p1, _⟩ := I.tuple ha
  obtain ⟨its2, r2, p2, _⟩ := I.tuple hb
  refine HT.cat_tup p1 p2 (fun z => hx (r1.nil_iff.mp z)) (fun z => ⟨.ref a, H, I, rfl, q1 (r2.nil_iff.mp z)⟩) (fun z => ?_) (by rw [← r1.length, ← r2.length]; exact hz)
  refine ⟨.ref s.heap.objs.size, _, I.laid (t' := s.toks) (o := .tup (xs ++ ys)) (fun b ob q => Heap.get?_push_of_some _ q) (Nat.le_refl _) ?_, rfl, q2 (fun w => z (r2.nil_iff.mpr w)) _ (I.hok.fresh (Nat.le_refl _))⟩
  exact ⟨by rw [List.length_append]; exact hz, _, r1.append r2, IsTup.new _ _⟩
/-- tuple(t) -/
theorem call_tupleT : CallR X (.type "tuple") (fun xs H Q => ∃ a ys, xs = [.ref a] ∧ SqT X.K H a ys ∧ Q (.ref a) H) := by
  intro pins s σ H xs us Q I r h
  obtain ⟨a, ys, rfl, ha, q⟩ := h
  obtain ⟨u, rfl, ru⟩ := vals1 r
  cases ru
  obtain ⟨its, _, p1, _⟩ := I.tuple ha
  exact call_tuple_same (items := its.toArray) p1 ⟨.ref a, H, I, rfl, q⟩
end
end L2

namespace L2
open PySem PySem.Spec PyProof.Rows

/-! ### places -/
/-- the place that an index of any sign means -/
def ixN (n : Nat) (i : Int) : Option Nat := if 0 ≤ i then (if i < n then some i.toNat else none) else if -(n : Int) ≤ i then some (i + n).toNat else none
def atI {α : Type} (xs : List α) (i : Int) : Option α := (ixN xs.length i).bind fun j => xs[j]?
theorem ixN_seq {n : Nat} {i : Int} {j : Nat} (h : ixN n i = some j) : seqIndex? i n = some j ∧ j < n ∧ -(n : Int) ≤ i ∧ i < n := by
  unfold ixN at h
  by_cases h0 : 0 ≤ i
  · rw [if_pos h0] at h
    by_cases h1 : i < n
    · rw [if_pos h1] at h
      have e : i.toNat = j := Option.some.inj h
      exact ⟨by rw [seqIndex_of h0 h1, e], by omega, by omega, h1⟩
    · rw [if_neg h1] at h; cases h
  · rw [if_neg h0] at h
    by_cases h1 : -(n : Int) ≤ i
    · rw [if_pos h1] at h
      have e : (i + n).toNat = j := Option.some.inj h
      exact ⟨by rw [seqIndex_neg (by omega) h1, e], by omega, h1, by omega⟩
    · rw [if_neg h1] at h; cases h
theorem atI_get {α : Type} {xs : List α} {i : Int} {v : α} (h : atI xs i = some v) : ∃ j, seqIndex? i xs.length = some j ∧ xs[j]? = some v ∧ j < xs.length ∧ -(xs.length : Int) ≤ i ∧ i < xs.length := by
  unfold atI at h
  cases e : ixN xs.length i with
  | none => rw [e] at h; cases h
  | some j =>
    rw [e] at h
    obtain ⟨h1, h2, h3, h4⟩ := ixN_seq e
    exact ⟨j, h1, h, h2, h3, h4⟩
theorem atI_nat {α : Type} {xs : List α} {j : Nat} {v : α} (h : xs[j]? = some v) : atI xs (j : Int) = some v := by
  have hj : j < xs.length := (List.getElem?_eq_some_iff.mp h).1
  have e : ixN xs.length (j : Int) = some j := by
    unfold ixN
    rw [if_pos (by omega), if_pos (by omega)]; simp
  unfold atI; rw [e]; exact h
theorem atI_last {α : Type} (xs : List α) (v : α) : atI (xs ++ [v]) (-1) = some v := by
  have hl : (xs ++ [v]).length = xs.length + 1 := by simp
  have e : ixN (xs ++ [v]).length (-1) = some xs.length := by
    unfold ixN
    rw [hl, if_neg (by decide), if_pos (by omega)]
    congr 1
    omega
  unfold atI
  rw [e]
  show (xs ++ [v])[xs.length]? = some v
  simp

/-! ### what may be subscripted -/
/-- what stands as an index of a plain subscript -/
def PlainIx (b : Expr) : Prop := ∀ o i, subscripted b false o i = operate [o, i] (getItem o i)
/-- a subscript by values -/
def IxR (X : Cx) (r : R2) : Prop :=
  ∀ (value slice : Expr) (pins : List (Addr × Obj)) (s : Shared) (σ : St) (H : Hp) (x y : V) (v u : Value) (Q : VK), Inv X pins σ H s → RelV x v → RelV y u → r x y H Q →
    subscripted slice false v u = operate [v, u] (getItem v u) → wpAny (model X.prog X.w) X.A (subscriptTail value slice v u) (EP X pins σ Q) X.xe s
/-- a call of a builtin's method by values: the receiver, the arguments -/
def MtR (X : Cx) (id : String) (r : V → List V → Hp → VK → Prop) : Prop :=
  ∀ (pins : List (Addr × Obj)) (s : Shared) (σ : St) (H : Hp) (x : V) (xs : List V) (v : Value) (us : List Value) (Q : VK), Inv X pins σ H s → RelV x v → Vals xs us → r x xs H Q →
    wpAny (model X.prog X.w) X.A (call (.builtin id) (v :: us)) (EP X pins σ Q) X.xe s
section
variable {X : Cx} {a b : Expr} {ta tb : TE} {pos : Pos}
theorem IxR.or {r r' : R2} (h : IxR X r) (h' : IxR X r') : IxR X (fun x y H Q => r x y H Q ∨ r' x y H Q) := by
  intro value slice pins s σ H x y v u Q I rx ry q hs
  rcases q with q | q
  · exact h value slice pins s σ H x y v u Q I rx ry q hs
  · exact h' value slice pins s σ H x y v u Q I rx ry q hs
theorem MtR.or {id : String} {r r' : V → List V → Hp → VK → Prop} (h : MtR X id r) (h' : MtR X id r') : MtR X id (fun x xs H Q => r x xs H Q ∨ r' x xs H Q) := by
  intro pins s σ H x xs v us Q I rx rs q
  rcases q with q | q
  · exact h pins s σ H x xs v us Q I rx rs q
  · exact h' pins s σ H x xs v us Q I rx rs q
/-- a[b] -/
theorem pe_ix {r : R2} (hr : IxR X r) (ha : PE X a ta) (hb : PE X b tb) (hs : PlainIx b) : PE X (.Subscript a b pos) (tOp r ta tb) := by
  intro pins s σ H Q I h
  exact Subscript_ (binT ha hb I h fun v u s2 x y H2 I2 rx ry q => hr a b pins s2 σ H2 x y v u Q I2 rx ry q (hs _ _))

def rIxL (K : PySem.W.Frag) : R2 := fun x y H Q => ∃ p xs i v, x = .ref p ∧ y = .int i ∧ SqL K H p xs ∧ atI xs i = some v ∧ Q v H
def rIxT (K : PySem.W.Frag) : R2 := fun x y H Q => ∃ p xs i v, x = .ref p ∧ y = .int i ∧ SqT K H p xs ∧ atI xs i = some v ∧ Q v H
def rIxS : R2 := fun x y H Q => ∃ z i c, x = .str z ∧ y = .int i ∧ z.length ≤ sizeLine ∧ atI z.cps.toList i = some c ∧ Q (.str ⟨#[c]⟩) H
theorem ix_list : IxR X (rIxL X.K) := by
  intro value slice pins s σ H x y v u Q I rx ry h hs
  obtain ⟨p, xs, i, z, rfl, rfl, hq, he, q⟩ := h
  cases rx
  obtain ⟨t, rfl⟩ := ry
  obtain ⟨its, r, pl, hz⟩ := I.list hq
  obtain ⟨j, h1, h2, h3, h4, h5⟩ := atI_get he
  obtain ⟨w, ew, rw'⟩ := r.get h2
  have hl := r.length
  have hn := line63
  have fin : EP X pins σ Q w s := ⟨z, H, I, rw', q⟩
  by_cases h0 : 0 ≤ i
  · have hj : i.toNat = j := by
      rw [seqIndex_of h0 h5] at h1
      exact Option.some.inj h1
    exact item_listR pl.isList h0 (by omega) (by rw [hj]; simpa using ew) fin hs
  · have hj : (i + (its.toArray.size : Int)).toNat = j := by
      rw [seqIndex_neg (by omega) h4] at h1
      rw [List.size_toArray, ← hl]
      exact Option.some.inj h1
    exact subscriptTail_builtinR (x := w) pl.isList.typeIs slot_list_getitem.lookup
      (wpAny_getItem_list_neg (Q := fun r s' => r = w ∧ EP X pins σ Q r s') pl.isList (by omega) (by rw [List.size_toArray] <;> omega) (by omega) (by rw [hj]; simpa using ew) ⟨rfl, fin⟩) hs
theorem ix_tup : IxR X (rIxT X.K) := by
  intro value slice pins s σ H x y v u Q I rx ry h hs
  obtain ⟨p, xs, i, z, rfl, rfl, hq, he, q⟩ := h
  cases rx
  obtain ⟨t, rfl⟩ := ry
  obtain ⟨its, r, pl, hz⟩ := I.tuple hq
  obtain ⟨j, h1, h2, h3, h4, h5⟩ := atI_get he
  obtain ⟨w, ew, rw'⟩ := r.get h2
  have hl := r.length
  have hn := line63
  have fin : EP X pins σ Q w s := ⟨z, H, I, rw', q⟩
  exact subscriptTail_builtinR (x := w) pl.typeIs slot_tuple_getitem.lookup
    (getItem_tuple (j := j) (Q := fun r s' => r = w ∧ EP X pins σ Q r s') pl (by omega) (by omega) (by rw [List.size_toArray, ← hl]; exact h1) (by simpa using ew) ⟨rfl, fin⟩) hs
theorem ix_str : IxR X rIxS := by
  intro value slice pins s σ H x y v u Q I rx ry h hs
  obtain ⟨z, i, c, rfl, rfl, hz, he, q⟩ := h
  obtain ⟨t, rfl⟩ := rx
  obtain ⟨t', rfl⟩ := ry
  obtain ⟨j, h1, h2, h3, h4, h5⟩ := atI_get he
  have hl : z.cps.toList.length = z.length := by simp [Str.length]
  rw [hl] at h1 h4 h5
  have hn := line63
  exact tail_any (typeIs_str s z t) slot_str_getitem.lookup (getItem_str (c := c) (by
    have e1 : decide (i < -(2 ^ 63 : Int)) = false := decide_eq_false (by omega)
    have e2 : decide (i ≥ 2 ^ 63) = false := decide_eq_false (by omega)
    rw [e1, e2, Bool.or_false]) (by rw [h1]; simpa using h2) ⟨.str ⟨#[c]⟩, H, I.tok _, ⟨_, rfl⟩, q⟩) hs
/-- list, tuple or str -/
def rIx (K : PySem.W.Frag) : R2 := fun x y H Q => rIxL K x y H Q ∨ rIxT K x y H Q ∨ rIxS x y H Q
theorem ix_seq : IxR X (rIx X.K) := ix_list.or (ix_tup.or ix_str)

/-! ### xs[i] = v, any sign -/
/-- the list's object behind a store -/
theorem mapSeq_set (its : List Value) (n j : Nat) (u : Value) : Obj.mapSeq (·.setIfInBounds j u) { cls := .type "list", data := .seq its.toArray n } = { cls := .type "list", data := .seq (its.set j u).toArray n } := by
  simp [Obj.mapSeq]
theorem Inv.lst {pins : List (Addr × Obj)} {σ : St} {H : Hp} {s : Shared} {p : Addr} {xs : List V} (I : Inv X pins σ H s) (h : H p = some (.lst xs)) :
    ∃ (its : List Value) (n : Nat), Vals xs its ∧ s.heap.get? p = some { cls := .type "list", data := .seq its.toArray n } ∧ xs.length ≤ sizeLine := by
  obtain ⟨z, its, n, r, e⟩ := I.hok p _ h
  exact ⟨its, n, r, e, z⟩
/-- the list at p is written by an update of its object -/
theorem Inv.lstUpd {pins : List (Addr × Obj)} {σ : St} {H : Hp} {s : Shared} {p : Addr} {xs ys : List V} {its its' : List Value} {n n' : Nat} {f : Obj → Obj} (I : Inv X pins σ H s) (h : H p = some (.lst xs))
    (ho : s.heap.get? p = some { cls := .type "list", data := .seq its.toArray n }) (hf : f { cls := .type "list", data := .seq its.toArray n } = { cls := .type "list", data := .seq its'.toArray n' }) (r : Vals ys its') (hz : ys.length ≤ sizeLine) (t : Nat) :
    Inv X pins σ (upd H p (.lst ys)) { s with heap := s.heap.update p f, toks := t } := by
  have e : (s.heap.update p f).get? p = some { cls := .type "list", data := .seq its'.toArray n' } := by
    rw [Heap.get?_update_self f ho (by rw [hf] <;> rfl), hf]
  refine I.write (x := p) (e := p) (by rw [h]; trivial) (.inl rfl) (fun b u hb q => (Heap.get?_update_other _ _ (Ne.symm hb)).trans q) ⟨_, e⟩ ?_
  exact ⟨hz, its', n', r, e⟩
def rSetL : V → V → V → Hp → (Hp → Prop) → Prop := fun o i v H Q => ∃ p xs k j, o = .ref p ∧ i = .int k ∧ H p = some (.lst xs) ∧ ixN xs.length k = some j ∧ Q (upd H p (.lst (xs.set j v)))
theorem set_list : PSet X rSetL := by
  intro pins s σ H o i v ov iv u Q I ro ri rv h
  obtain ⟨p, xs, k, j, rfl, rfl, hp, hj, q⟩ := h
  cases ro
  obtain ⟨t, rfl⟩ := ri
  obtain ⟨its, n, r, ho, hz⟩ := I.lst hp
  obtain ⟨h1, h2, h3, h4⟩ := ixN_seq hj
  have hl := r.length
  have hn := line63
  have I' : Inv X pins σ (upd H p (.lst (xs.set j v))) { s with heap := s.heap.update p (Obj.mapSeq (·.setIfInBounds j u)) } :=
    I.lstUpd hp ho (mapSeq_set its n j u) (r.set rv j) (by rw [List.length_set]; exact hz) s.toks
  by_cases h0 : 0 ≤ k
  · have hk : k.toNat = j := by
      rw [seqIndex_of h0 h4] at h1
      exact Option.some.inj h1
    exact PySem.W.ki_setAt ho h0 (by omega) (by rw [List.size_toArray, ← hl]; exact h4) (by rw [hk]; exact ⟨_, I', q⟩)
  · have hk : (k + (its.toArray.size : Int)).toNat = j := by
      rw [seqIndex_neg (by omega) h3] at h1
      rw [List.size_toArray, ← hl]
      exact Option.some.inj h1
    exact PySem.W.ki_setBack ho (by omega) (by rw [List.size_toArray, ← hl]; exact h3) (by omega) (by rw [hk]; exact ⟨_, I', q⟩)

/-! ### slices -/
theorem slice_bounds (lo hi : Option Int) (n : Nat) : (sliceBounds lo hi none n).1 = ((HT.sIx n 0 lo : Nat) : Int) ∧ (sliceBounds lo hi none n).2.1 = ((HT.sIx n n hi : Nat) : Int) ∧ (sliceBounds lo hi none n).2.2 = 1 := by
  refine ⟨?_, ?_, rfl⟩
  · cases lo with
    | none => simp [sliceBounds, HT.sIx]
    | some i =>
      simp only [sliceBounds, HT.sIx, Option.getD_none, show (1 : Int) > 0 by decide, if_true]
      by_cases h : i < 0
      · simp only [h, if_true] <;> omega
      · simp only [h, if_false] <;> omega
  · cases hi with
    | none => simp [sliceBounds, HT.sIx]
    | some i =>
      simp only [sliceBounds, HT.sIx, Option.getD_none, show (1 : Int) > 0 by decide, if_true]
      by_cases h : i < 0
      · simp only [h, if_true] <;> omega
      · simp only [h, if_false] <;> omega
theorem slicePick_cut (its : List Value) (lo hi : Option Int) : slicePick its.toArray lo hi none = ((its.drop (HT.sIx its.length 0 lo)).take (HT.sIx its.length its.length hi - HT.sIx its.length 0 lo)).toArray := by
  obtain ⟨h1, h2, h3⟩ := slice_bounds lo hi its.toArray.size
  unfold slicePick
  rw [h1, h2, h3]
  simp only [sliceRange_one, pick_run, List.size_toArray] <;> rfl
/-- xs[lo:hi] of a list: a new list -/
def rSlL (K : PySem.W.Frag) : V → Option Int → Option Int → Hp → VK → Prop := fun x lo hi H Q => ∃ a xs, x = .ref a ∧ SqL K H a xs ∧ ∀ p, H p = none → Q (.ref p) (upd H p (.lst (cutV xs lo hi)))
theorem sl_list : SlR X (rSlL X.K) := by
  intro pins s σ H x v vl vu lo hi sl Q I rx hs pl pu h
  obtain ⟨a, xs, rfl, hx, q⟩ := h
  cases rx
  obtain ⟨its, r, ht, hz⟩ := I.list hx
  have hlen := r.length
  refine ⟨"list", _, slot_list_getitem.lookup, ht.isList.typeIs, ?_⟩
  refine wpAny_getItem_list_slice ht.isList hs pl pu .none (by simp) ?_ (by rw [List.size_toArray] <;> omega)
  rw [slicePick_cut, ← hlen]
  refine ⟨.ref s.heap.objs.size, _, I.laid (t' := s.toks) (o := .lst (cutV xs lo hi)) (fun b ob q => Heap.get?_push_of_some _ q) (Nat.le_refl _) ?_, rfl, q _ (I.hok.fresh (Nat.le_refl _))⟩
  exact ⟨Nat.le_trans (cutV_length xs lo hi) hz, _, 0, (r.drop (HT.sIx xs.length 0 lo)).take (HT.sIx xs.length xs.length hi - HT.sIx xs.length 0 lo), Heap.get?_push_size _ rfl⟩

/-! ### in, not in: flat items -/
def flatV : V → Bool
  | .non => true
  | .bl _ => true
  | .int _ => true
  | .str _ => true
  | _ => false
/-- == of flat values -/
def eqV : V → V → Bool
  | .non, .non => true
  | .bl a, .bl b => a == b
  | .bl a, .int b => (if a then 1 else 0) == b
  | .int a, .bl b => a == (if b then 1 else 0)
  | .int a, .int b => a == b
  | .str a, .str b => a == b
  | _, _ => false
theorem eqAt_V {A : Around} {s : Shared} {y x : V} {u v : Value} (ry : RelV y u) (rx : RelV x v) (fy : flatV y = true) (fx : flatV x = true) : SeqAt.EqAt A s u v (eqV y x) := by
  cases y with
  | non =>
    cases ry
    cases x with
    | non => cases rx; exact SeqAt.EqAt.same _
    | bl b => cases rx; exact SeqAt.EqAt.none_bool b
    | int b => obtain ⟨t, rfl⟩ := rx; exact SeqAt.EqAt.none_int b t
    | str b => obtain ⟨t, rfl⟩ := rx; exact SeqAt.EqAt.none_str b t
    | _ => exact absurd (show false = true from fx) Bool.false_ne_true
  | bl a =>
    cases ry
    cases x with
    | non => cases rx; exact SeqAt.EqAt.bool_none a
    | bl b => cases rx; exact SeqAt.EqAt.bool_bool a b
    | int b => obtain ⟨t, rfl⟩ := rx; exact SeqAt.EqAt.bool_int a b t
    | str b => obtain ⟨t, rfl⟩ := rx; exact SeqAt.EqAt.bool_str a b t
    | _ => exact absurd (show false = true from fx) Bool.false_ne_true
  | int a =>
    obtain ⟨t', rfl⟩ := ry
    cases x with
    | non => cases rx; exact SeqAt.EqAt.int_none a t'
    | bl b => cases rx; exact SeqAt.EqAt.int_bool a t' b
    | int b => obtain ⟨t, rfl⟩ := rx; exact SeqAt.EqAt.int_int a t' b t
    | str b => obtain ⟨t, rfl⟩ := rx; exact SeqAt.EqAt.int_str a t' b t
    | _ => exact absurd (show false = true from fx) Bool.false_ne_true
  | str a =>
    obtain ⟨t', rfl⟩ := ry
    cases x with
    | non => cases rx; exact SeqAt.EqAt.str_none a t'
    | bl b => cases rx; exact SeqAt.EqAt.str_bool a t' b
    | int b => obtain ⟨t, rfl⟩ := rx; exact SeqAt.EqAt.str_int a t' b t
    | str b => obtain ⟨t, rfl⟩ := rx; exact SeqAt.EqAt.str_str a t' b t
    | _ => exact absurd (show false = true from fx) Bool.false_ne_true
  | _ => exact absurd (show false = true from fy) Bool.false_ne_true
/-- the items' answers, read off the values (a value's own answer does not lean on its token) -/
def eqU (x : V) (u : Value) : Bool := match u with
  | .none => eqV .non x
  | .bool b => eqV (.bl b) x
  | .int i _ => eqV (.int i) x
  | .str z _ => eqV (.str z) x
  | _ => false
theorem eqU_of {x y : V} {u : Value} (r : RelV y u) (f : flatV y = true) : eqU x u = eqV y x := by
  cases y with
  | non => cases r; rfl
  | bl b => cases r; rfl
  | int i => obtain ⟨t, rfl⟩ := r; rfl
  | str z => obtain ⟨t, rfl⟩ := r; rfl
  | _ => exact absurd (show false = true from f) Bool.false_ne_true
theorem any_eqU {x : V} : ∀ {xs : List V} {us : List Value}, Vals xs us → xs.all flatV = true → us.any (eqU x) = xs.any fun y => eqV y x
  | _, _, .nil, _ => rfl
  | y :: xs, u :: us, .cons r t, f => by
    rw [List.all_cons, Bool.and_eq_true] at f
    rw [List.any_cons, List.any_cons, eqU_of r f.1, any_eqU t f.2]
theorem mem_eqAt {A : Around} {s : Shared} {x : V} {v : Value} (rx : RelV x v) (fx : flatV x = true) : ∀ {xs : List V} {us : List Value}, Vals xs us → xs.all flatV = true → ∀ u ∈ us, SeqAt.EqAt A s u v (eqU x u)
  | _, _, .nil, _ => fun u hu => by cases hu
  | y :: xs, u :: us, .cons r t, f => fun u' hu => by
    rw [List.all_cons, Bool.and_eq_true] at f
    rcases List.mem_cons.mp hu with rfl | hu
    · rw [eqU_of r f.1]; exact eqAt_V r rx f.1 fx
    · exact mem_eqAt rx fx t f.2 u' hu
def inV (x : V) (xs : List V) : Bool := xs.any fun y => eqV y x
/-- x in a list or tuple of flat items -/
def rIn (K : PySem.W.Frag) (neg : Bool) : R2 := fun x y H Q => ∃ p xs, y = .ref p ∧ (SqL K H p xs ∨ SqT K H p xs) ∧ flatV x = true ∧ xs.all flatV = true ∧ Q (.bl (if neg then !inV x xs else inV x xs)) H
theorem op_in_seq : OpR X (compareOp .In) (rIn X.K false) := by
  intro pins s σ H x y v u Q I rx ry h
  obtain ⟨p, xs, rfl, hq, fx, fs, q⟩ := h
  cases ry
  rcases hq with hq | hq
  · obtain ⟨its, r, pl, hz⟩ := I.list hq
    refine SeqAt.in_listAt (eqU x) pl.isList (fun w hw => mem_eqAt rx fx r fs w (by simpa using hw)) ⟨.bl _, H, I, rfl, ?_⟩
    rw [show its.toArray.any (eqU x) = its.any (eqU x) by simp, any_eqU r fs]
    exact q
  · obtain ⟨its, r, pl, hz⟩ := I.tuple hq
    refine SeqAt.in_tupleAt (eqU x) pl (fun w hw => mem_eqAt rx fx r fs w (by simpa using hw)) ⟨.bl _, H, I, rfl, ?_⟩
    rw [show its.toArray.any (eqU x) = its.any (eqU x) by simp, any_eqU r fs]
    exact q
theorem op_notIn_seq : OpR X (compareOp .NotIn) (rIn X.K true) := by
  intro pins s σ H x y v u Q I rx ry h
  obtain ⟨p, xs, rfl, hq, fx, fs, q⟩ := h
  cases ry
  rcases hq with hq | hq
  · obtain ⟨its, r, pl, hz⟩ := I.list hq
    refine SeqAt.notIn_listAt (eqU x) pl.isList (fun w hw => mem_eqAt rx fx r fs w (by simpa using hw)) ⟨.bl _, H, I, rfl, ?_⟩
    rw [show its.toArray.any (eqU x) = its.any (eqU x) by simp, any_eqU r fs]
    exact q
  · obtain ⟨its, r, pl, hz⟩ := I.tuple hq
    refine SeqAt.notIn_tupleAt (eqU x) pl (fun w hw => mem_eqAt rx fx r fs w (by simpa using hw)) ⟨.bl _, H, I, rfl, ?_⟩
    rw [show its.toArray.any (eqU x) = its.any (eqU x) by simp, any_eqU r fs]
    exact q
theorem op_notIn_str : OpR X (compareOp .NotIn) (fun x y H Q => ∃ i j, x = .str i ∧ y = .str j ∧ Q (.bl (!(!(Builtin.Str.occurrences j i 0 j.length 1).isEmpty))) H) := by
  intro pins s σ H x y v u Q I rx ry h
  obtain ⟨i, j, rfl, rfl, q⟩ := h
  obtain ⟨t, rfl⟩ := rx
  obtain ⟨t', rfl⟩ := ry
  exact notIn_str ⟨.bl _, H, I, rfl, q⟩

/-! ### len, list(x), tuple(x) of any list or tuple that is read -/
theorem call_len_seq : CallR X (.builtin "len") (fun xs H Q => ∃ p ys, xs = [.ref p] ∧ (SqL X.K H p ys ∨ SqT X.K H p ys) ∧ Q (.int ys.length) H) := by
  intro pins s σ H xs us Q I r h
  obtain ⟨p, ys, rfl, hq, q⟩ := h
  obtain ⟨u, rfl, rx⟩ := vals1 r
  cases rx
  have hn := line63
  rcases hq with hq | hq
  · obtain ⟨its, r', pl, hz⟩ := I.list hq
    have hlen := r'.length
    exact Calls.call_len_list pl.isList (by simp only [List.size_toArray] <;> omega) ⟨.int ys.length, H, I.tok _, ⟨s.toks + 1, by rw [List.size_toArray, hlen]⟩, q⟩
  · obtain ⟨its, r', pl, hz⟩ := I.tuple hq
    have hlen := r'.length
    exact len_tuple pl (by simp only [List.size_toArray] <;> omega) ⟨.int ys.length, H, I.tok _, ⟨s.toks + 1, by rw [List.size_toArray, hlen]⟩, q⟩
theorem call_len_str : CallR X (.builtin "len") (fun xs H Q => ∃ z, xs = [.str z] ∧ z.length ≤ sizeLine ∧ Q (.int z.length) H) := by
  intro pins s σ H xs us Q I r h
  obtain ⟨z, rfl, hz, q⟩ := h
  obtain ⟨u, rfl, t, rfl⟩ := vals1 r
  have hn := line63
  exact len_str (by omega) ⟨.int z.length, H, I.tok _, ⟨_, rfl⟩, q⟩
theorem CallR.or {f : Value} {r r' : List V → Hp → VK → Prop} (h : CallR X f r) (h' : CallR X f r') : CallR X f (fun xs H Q => r xs H Q ∨ r' xs H Q) := by
  intro pins s σ H xs us Q I rs q
  rcases q with q | q
  · exact h pins s σ H xs us Q I rs q
  · exact h' pins s σ H xs us Q I rs q
theorem call_list_of : CallR X (.type "list") (fun xs H Q => ∃ p ys, xs = [.ref p] ∧ (SqL X.K H p ys ∨ SqT X.K H p ys) ∧ ∀ l, H l = none → Q (.ref l) (upd H l (.lst ys))) := by
  intro pins s σ H xs us Q I r h
  obtain ⟨p, ys, rfl, hq, q⟩ := h
  obtain ⟨u, rfl, rx⟩ := vals1 r
  cases rx
  have fin : ∀ (its : List Value), Vals ys its → ys.length ≤ sizeLine → ∀ (h' : Heap) (c' : Nat), (∀ b o', s.heap.get? b = some o' → h'.get? b = some o') →
      h'.get? s.heap.objs.size = some { cls := .type "list", dict := none, data := .seq its.toArray c', slots := #[] } → EP X pins σ Q (.ref s.heap.objs.size) { s with heap := h' } := fun its r' hz h' c' kp e =>
    ⟨.ref s.heap.objs.size, _, I.laid (t' := s.toks) kp (Nat.le_refl _) (show ObjOk X.prog X.w _ h' _ (.lst ys) from ⟨hz, its, c', r', e⟩), rfl, q _ (I.hok.fresh (Nat.le_refl _))⟩
  rcases hq with hq | hq
  · obtain ⟨its, r', pl, hz⟩ := I.list hq
    have hlen := r'.length
    obtain ⟨o, ho, hc, n, hd⟩ := pl.isList
    exact call_list_seq p (.inl rfl) ho hc hd (fun h' c' kp e => fin its r' hz h' c' kp e) (by simp only [List.size_toArray] <;> omega)
  · obtain ⟨its, r', pl, hz⟩ := I.tuple hq
    have hlen := r'.length
    obtain ⟨o, ho, hc, n, hd⟩ := pl
    exact call_list_seq p (.inr rfl) ho hc hd (fun h' c' kp e => fin its r' hz h' c' kp e) (by simp only [List.size_toArray] <;> omega)
theorem call_tuple_of : CallR X (.type "tuple") (fun xs H Q => ∃ p ys, xs = [.ref p] ∧ ((SqL X.K H p ys ∧ ∀ l, H l = none → Q (.ref l) (upd H l (.tup ys))) ∨ (SqT X.K H p ys ∧ Q (.ref p) H))) := by
  intro pins s σ H xs us Q I r h
  obtain ⟨p, ys, rfl, h⟩ := h
  obtain ⟨u, rfl, rx⟩ := vals1 r
  cases rx
  rcases h with ⟨hq, q⟩ | ⟨hq, q⟩
  · obtain ⟨its, r', pl, hz⟩ := I.list hq
    have hlen := r'.length
    refine call_tuple_list pl.isList (fun h' kp => ?_) (by simp only [List.size_toArray] <;> omega)
    have I1 : Inv X pins σ H { s with heap := h' } := I.kept (t' := s.toks) kp
    have I2 : Inv X pins σ (upd H h'.objs.size (.tup ys)) { s with heap := h'.push { cls := .type "tuple", data := .seq its.toArray } } :=
      I1.laid (t' := s.toks) (fun b o e => Heap.get?_push_of_some _ e) (Nat.le_refl _) (show ObjOk X.prog X.w _ _ _ (.tup ys) from ⟨hz, its, r', IsTup.new _ _⟩)
    exact ⟨.ref h'.objs.size, _, I2, rfl, q _ (I1.hok.fresh (Nat.le_refl _))⟩
  · obtain ⟨its, r', pl, hz⟩ := I.tuple hq
    exact call_tuple_same pl ⟨.ref p, H, I, rfl, q⟩

/-! ### the call of a builtin's method: o.m(..) -/
/-- the value is of that builtin type -/
def tyV (K : PySem.W.Frag) (T : String) (x : V) (H : Hp) : Prop := match x with
  | .str _ => T = "str"
  | .int _ => T = "int"
  | .ref p => (T = "list" ∧ ∃ xs, SqL K H p xs) ∨ (T = "tuple" ∧ ∃ o, K.lookup p = some o ∧ o.cls = .type "tuple" ∧ o.dict = none) ∨
      (T = "dict" ∧ ((∃ kvs, H p = some (.dK kvs)) ∨ ∃ kvs, H p = some (.dT kvs))) ∨ (T = "set" ∧ ∃ S n, H p = some (.set S n))
  | _ => False
theorem tyV_is {pins : List (Addr × Obj)} {σ : St} {H : Hp} {s : Shared} {T : String} {x : V} {v : Value} (I : Inv X pins σ H s) (r : RelV x v) (ty : tyV X.K T x H) :
    s.TypeIs v T ∧ ∀ a, v = .ref a → ∃ ob, s.heap.get? a = some ob ∧ ob.dict = none := by
  cases x with
  | str z =>
    obtain ⟨t, rfl⟩ := r
    cases (show T = "str" from ty)
    exact ⟨typeIs_str s z t, fun _ e => nomatch e⟩
  | int i =>
    obtain ⟨t, rfl⟩ := r
    cases (show T = "int" from ty)
    exact ⟨typeIs_int s i t, fun _ e => nomatch e⟩
  | ref p =>
    cases r
    rcases ty with ⟨rfl, xs, hq⟩ | ⟨rfl, o, hk, hc, hd⟩ | ⟨rfl, hk⟩ | ⟨rfl, S, n, hk⟩
    · obtain ⟨its, _, pl, _⟩ := I.list hq
      refine ⟨pl.isList.typeIs, fun a e => ?_⟩
      cases e
      obtain ⟨o, n, e, c, hd, _⟩ := pl
      exact ⟨o, e, hd⟩
    · refine ⟨⟨o, I.kIn p o hk, hc⟩, fun a e => ?_⟩
      cases e
      exact ⟨o, I.kIn _ o hk, hd⟩
    · have z : ∃ o, s.heap.get? p = some o ∧ o.ExactDict := by
        rcases hk with ⟨kvs, hk⟩ | ⟨kvs, hk⟩
        · obtain ⟨_, _, _, _, o, _, _, e, ex, _⟩ := I.hok p _ hk
          exact ⟨o, e, ex⟩
        · obtain ⟨_, _, _, _, o, _, _, e, ex, _⟩ := I.hok p _ hk
          exact ⟨o, e, ex⟩
      obtain ⟨o, e, ex⟩ := z
      refine ⟨⟨o, e, ex.1⟩, fun a e2 => ?_⟩
      cases e2
      exact ⟨o, e, ex.2.1⟩
    · obtain ⟨o, _, _, _, e, ex, _⟩ := I.hok p _ hk
      refine ⟨⟨o, e, ex.1⟩, fun a e2 => ?_⟩
      cases e2
      exact ⟨o, e, ex.2.1⟩
  | _ => exact False.elim ty
def tBM0 (K : PySem.W.Frag) (T : String) (r : V → List V → Hp → VK → Prop) (to : TE) : TE := fun σ H Q => to σ H fun x H1 => tyV K T x H1 ∧ r x [] H1 Q
def tBM (K : PySem.W.Frag) (T : String) (r : V → List V → Hp → VK → Prop) (to : TE) (t : TA) : TE := fun σ H Q => to σ H fun x H1 => tyV K T x H1 ∧ t σ H1 fun xs H2 => r x xs H2 Q
variable {o e : Expr} {es : List Expr} {to : TE} {t : TA} {name : Str} {apos cpos : Pos} {T id : String} {r : V → List V → Hp → VK → Prop}
theorem pe_bm0 (pa : PlainAttrs T) (slot : Slot T name id) (hty : typeOf (.builtin id) = pure (.type "method_descriptor")) (hm : MtR X id r) (ho : PE X o to)
    (hbase : attributeBase o name X.env (eval o X.env) = eval o X.env := by rfl) (hline : (apos.endLine == cpos.line) = true := by rfl) : PE X (.Call (.Attribute o name apos) [] [] cpos) (tBM0 X.K T r to) := by
  intro pins s σ H Q I h
  refine wpAny_Call_method0_late hbase hline (thn (ho pins s σ H _ I h) fun v s1 ⟨x, H1, I1, r1, ty, q1⟩ => ?_)
  obtain ⟨h1, h2⟩ := tyV_is I1 r1 ty
  exact ⟨T, id, pa, slot, hty, h1, h2, Calls.callWith_builtin rfl (PySem.evalArgs_none (hm pins s1 σ H1 x [] v [] Q I1 r1 .nil q1))⟩
theorem pe_bm (pa : PlainAttrs T) (slot : Slot T name id) (hty : typeOf (.builtin id) = pure (.type "method_descriptor")) (hm : MtR X id r) (ho : PE X o to) (ha : PA X (e :: es) t)
    (hbase : attributeBase o name X.env (eval o X.env) = eval o X.env := by rfl)
    (hfew : ((backTo cpos (starEach (e :: es) X.env)).all (fun x => !x.1) && (backToKw cpos (keywordEach [] X.env)).all (fun x => x.1.isSome)
      && decide ((e :: es).length + ([] : List Keyword).length + (if ([] : List Keyword).isEmpty then 0 else 1) < 30)) = true := by rfl)
    (hline : (apos.endLine == cpos.line) = true := by rfl) (hs : starEach (e :: es) X.env = (false, eval e X.env) :: starEach es X.env := by rfl) (hplain : (backTo cpos (starEach es X.env)).any (·.1) = false := by rfl) :
    PE X (.Call (.Attribute o name apos) (e :: es) [] cpos) (tBM X.K T r to t) := by
  intro pins s σ H Q I h
  refine wpAny_Call_method_late hbase hfew hline rfl (thn (ho pins s σ H _ I h) fun v s1 ⟨x, H1, I1, r1, ty, q1⟩ => ?_)
  obtain ⟨h1, h2⟩ := tyV_is I1 r1 ty
  refine ⟨T, id, pa, slot, hty, h1, h2, ?_⟩
  have hA := ha cpos pins s1 σ H1 _ I1 q1
  rw [hs] at hA ⊢
  refine Calls.callWith_builtin (by show (false || (backTo cpos (starEach es X.env)).any (·.1)) = false; rw [hplain] <;> rfl) (Calls.evalArgs_plain ?_)
  exact thn hA fun us s2 ⟨vs, H2, I2, r2, q2⟩ => hm pins s2 σ H2 x vs v us Q I2 r1 r2 q2
/- xs.append(e), list.index on a module's tuple .. are MtR facts of 06m -/
end
end L2

namespace L2
open PySem PySem.Spec PyProof.Rows

def MtM (X : Cx) (id : String) (r : V → List V → Hp → VK → Prop) : Prop :=
  ∀ (pins : List (Addr × Obj)) (s : Shared) (σ : St) (H : Hp) (x : V) (xs : List V) (v : Value) (us : List Value) (Q : VK), Inv X pins σ H s → RelV x v → Vals xs us → r x xs H Q →
    wpAny (model X.prog X.w) X.A (call (.builtin id) (v :: us)) (EP X pins σ Q) X.xe s

/-! ### lists of values -/
theorem Vals.one : ∀ {x : V} {us : List Value}, Vals [x] us → ∃ u, us = [u] ∧ RelV x u
  | _, _, .cons r .nil => ⟨_, rfl, r⟩
theorem Vals.two : ∀ {x y : V} {us : List Value}, Vals [x, y] us → ∃ u v, us = [u, v] ∧ RelV x u ∧ RelV y v
  | _, _, _, .cons r (.cons q .nil) => ⟨_, _, rfl, r, q⟩
theorem Vals.zero : ∀ {us : List Value}, Vals [] us → us = []
  | _, .nil => rfl
theorem Vals.dropLast {xs : List V} {us : List Value} (h : Vals xs us) : Vals xs.dropLast us.dropLast := by
  induction h with
  | nil => exact .nil
  | cons r t ih =>
    cases t with
    | nil => exact .nil
    | cons q t' => exact .cons r ih
theorem Vals.eraseIdx : ∀ {xs : List V} {us : List Value} (i : Nat), Vals xs us → Vals (xs.eraseIdx i) (us.eraseIdx i)
  | _, _, _, .nil => .nil
  | _, _, 0, .cons _ t => t
  | _, _, i + 1, .cons r t => .cons r (Vals.eraseIdx i t)
theorem Vals.reverse {xs : List V} {us : List Value} (h : Vals xs us) : Vals xs.reverse us.reverse := by
  induction h with
  | nil => exact .nil
  | cons r t ih => rw [List.reverse_cons, List.reverse_cons]; exact Vals.append ih (.cons r .nil)
theorem Vals.rep {xs : List V} {us : List Value} (h : Vals xs us) : ∀ k : Nat, Vals (List.replicate k xs).flatten (List.replicate k us).flatten
  | 0 => .nil
  | k + 1 => by
    rw [List.replicate_succ, List.replicate_succ, List.flatten_cons, List.flatten_cons]
    exact Vals.append h (Vals.rep h k)
theorem erase_last {α : Type} (l : List α) : l.eraseIdx (l.length - 1) = l.dropLast := by
  induction l with
  | nil => rfl
  | cons a r ih =>
    cases r with
    | nil => rfl
    | cons b r =>
      have e : (a :: b :: r).length - 1 = ((b :: r).length - 1) + 1 := by
        have h1 : (a :: b :: r).length = r.length + 2 := rfl
        have h2 : (b :: r).length = r.length + 1 := rfl
        omega
      rw [e, List.eraseIdx_cons_succ, ih]
      all_goals rfl
theorem len_erase {α : Type} : ∀ (l : List α) (i : Nat), (l.eraseIdx i).length ≤ l.length
  | [], _ => Nat.le_refl _
  | _ :: _, 0 => Nat.le_succ _
  | _ :: r, i + 1 => Nat.succ_le_succ (len_erase r i)
theorem foldl_rep (its : List Value) : ∀ (k : Nat) (acc : List Value),
    List.foldl (fun x1 x2 => x1 ++ x2) acc.toArray (List.replicate k its.toArray) = (acc ++ (List.replicate k its).flatten).toArray
  | 0, acc => by simp
  | k + 1, acc => by
    have e : acc.toArray ++ its.toArray = (acc ++ its).toArray := by simp
    have e2 : (acc ++ its) ++ (List.replicate k its).flatten = acc ++ (List.replicate (k + 1) its).flatten := by
      rw [List.replicate_succ, List.flatten_cons, List.append_assoc]
    rw [← e2, ← foldl_rep its k (acc ++ its), ← e, List.replicate_succ, List.foldl_cons]

section
variable {X : Cx} {pins : List (Addr × Obj)} {σ : St} {H : Hp} {s : Shared} {l b : Addr} {xs ys zs : List V}

/-! ### the two steps: a tracked list is rewritten, a new list is laid -/
theorem Inv.lset {its its' : List Value} {n : Nat} {f : Array Value → Array Value} {t' : Nat} (I : Inv X pins σ H s) (hH : H l = some (.lst xs))
    (e : s.heap.get? l = some { cls := .type "list", data := .seq its.toArray n }) (hf : f its.toArray = its'.toArray) (hv : Vals ys its') (hz : ys.length ≤ sizeLine) :
    Inv X pins σ (upd H l (.lst ys)) { s with heap := s.heap.update l (Obj.mapSeq f), toks := t' } := by
  have q := PySem.IsL.update e f
  rw [hf] at q
  refine I.write (x := l) (e := l) (by rw [hH]; exact trivial) (.inl rfl) (fun b' u hb hu => (Heap.get?_update_other s.heap (Obj.mapSeq f) (Ne.symm hb)).trans hu) ⟨_, q⟩ ?_
  exact ⟨hz, its', _, hv, q⟩
theorem Inv.lnew {its : List Value} {t' : Nat} (I : Inv X pins σ H s) (hv : Vals ys its) (hz : ys.length ≤ sizeLine) :
    Inv X pins σ (upd H s.heap.objs.size (.lst ys)) { s with heap := s.heap.push { cls := .type "list", data := .seq its.toArray }, toks := t' } :=
  I.laid (fun _ _ q => Heap.get?_push_of_some _ q) (Nat.le_refl _) ⟨hz, its, 0, hv, Heap.get?_push_size _ rfl⟩
theorem Inv.fresh (I : Inv X pins σ H s) : H s.heap.objs.size = none := I.hok.fresh (Nat.le_refl _)
theorem Inv.lstM (I : Inv X pins σ H s) (hH : H l = some (.lst xs)) : xs.length ≤ sizeLine ∧ ∃ (its : List Value) (n : Nat), Vals xs its ∧ xs.length = its.length ∧ s.heap.get? l = some { cls := .type "list", data := .seq its.toArray n } := by
  obtain ⟨z, its, n, r, e⟩ := I.hok l _ hH
  exact ⟨z, its, n, r, r.length, e⟩

theorem notLongL {n : Nat} (h : n ≤ sizeLine) : Builtin.List.listTooLong n = false := by
  unfold Builtin.List.listTooLong
  exact decide_eq_false (by omega)
end

section
variable {X : Cx}

/-! ### methods -/
def rAppend : V → List V → Hp → VK → Prop := fun x vs H Q => ∃ l xs y, x = .ref l ∧ vs = [y] ∧ H l = some (.lst xs) ∧ xs.length < sizeLine ∧ Q .non (upd H l (.lst (xs ++ [y])))
theorem mt_append : MtM X "list.append" rAppend := by
  intro pins s σ H x vs v us Q I rx rv h
  obtain ⟨l, xs, y, rfl, rfl, hH, hz, q⟩ := h
  cases rx
  obtain ⟨u, rfl, ru⟩ := rv.one
  obtain ⟨z, its, n, r, hl, e⟩ := I.lstM hH
  refine call_meets F.slot_list_append ⟨_, e, rfl⟩ F.entry_list_append (F.args_list_append_2 _ _) (PySem.list_append l its.toArray n u (by rw [List.size_toArray]; omega)) ⟨e, ?_⟩
  refine ⟨.non, _, I.lset (its' := its ++ [u]) hH e (by simp) (r.append (.cons ru .nil)) ?_, rfl, q⟩
  rw [List.length_append, List.length_singleton]
  omega

def rExtend : V → List V → Hp → VK → Prop := fun x vs H Q => ∃ l b xs zs, x = .ref l ∧ vs = [.ref b] ∧ H l = some (.lst xs) ∧ H b = some (.lst zs) ∧ xs.length + zs.length ≤ sizeLine ∧ Q .non (upd H l (.lst (xs ++ zs)))
theorem mt_extend : MtM X "list.extend" rExtend := by
  intro pins s σ H x vs v us Q I rx rv h
  obtain ⟨l, b, xs, zs, rfl, rfl, hH, hB, hz, q⟩ := h
  cases rx
  obtain ⟨u, rfl, ru⟩ := rv.one
  cases ru
  obtain ⟨z, its, n, r, hl, e⟩ := I.lstM hH
  obtain ⟨z2, its2, n2, r2, hl2, e2⟩ := I.lstM hB
  have hsz : its.toArray.size + its2.toArray.size ≤ sizeLine := by rw [List.size_toArray, List.size_toArray]; omega
  have hlong : ¬ (!its.toArray.isEmpty && Builtin.List.listTooLong (its.toArray.size + its2.toArray.size)) = true := by
    rw [notLongL hsz, Bool.and_false]
    exact Bool.false_ne_true
  refine call_meets F.slot_list_extend ⟨_, e, rfl⟩ F.entry_list_extend (F.args_list_extend_2 _ _)
    (AutoSeq1.list_extend_list_list_0 l its.toArray n b its2.toArray n2 hlong (by rw [List.size_toArray]; omega) (by omega)) ⟨e, e2, ?_⟩
  refine ⟨.non, _, I.lset (its' := its ++ its2) hH e (by simp) (r.append r2) ?_, rfl, q⟩
  rw [List.length_append]
  omega

def rPop : V → List V → Hp → VK → Prop := fun x vs H Q => ∃ l xs y, x = .ref l ∧ vs = [] ∧ H l = some (.lst xs) ∧ xs[xs.length - 1]? = some y ∧ Q y (upd H l (.lst xs.dropLast))
theorem mt_pop : MtM X "list.pop" rPop := by
  intro pins s σ H x vs v us Q I rx rv h
  obtain ⟨l, xs, y, rfl, rfl, hH, hy, q⟩ := h
  cases rx
  have hus := rv.zero
  subst hus
  obtain ⟨z, its, n, r, hl, e⟩ := I.lstM hH
  obtain ⟨u, hu, ru⟩ := r.get hy
  have hy' : its.toArray[its.toArray.size - 1]? = some u := by
    show its.toArray[its.length - 1]? = some u
    rw [← Array.getElem?_toList, ← hl]
    exact hu
  refine call_meets F.slot_list_pop ⟨_, e, rfl⟩ F.entry_list_pop (F.args_list_pop_1 _) (MeetsSeq.list_pop_last l its.toArray n u hy' (by rw [List.size_toArray]; omega)) ⟨e, ?_⟩
  refine ⟨y, _, I.lset (its' := its.dropLast) hH e ?_ r.dropLast ?_, ru, q⟩
  · show its.toArray.eraseIdxIfInBounds (its.toArray.size - 1) = its.dropLast.toArray
    rw [List.size_toArray, List.eraseIdxIfInBounds_toArray, erase_last]
  · rw [List.length_dropLast]
    omega

def rPopAt : V → List V → Hp → VK → Prop := fun x vs H Q => ∃ l xs i k y, x = .ref l ∧ vs = [.int i] ∧ H l = some (.lst xs) ∧ -(2 ^ 63) ≤ i ∧ i < 2 ^ 63 ∧ seqIndex? i xs.length = some k ∧ xs[k]? = some y ∧ Q y (upd H l (.lst (xs.eraseIdx k)))
theorem mt_popAt : MtM X "list.pop" rPopAt := by
  intro pins s σ H x vs v us Q I rx rv h
  obtain ⟨l, xs, i, k, y, rfl, rfl, hH, h1, h2, hk, hy, q⟩ := h
  cases rx
  obtain ⟨u, rfl, ru⟩ := rv.one
  obtain ⟨t, rfl⟩ := ru
  obtain ⟨z, its, n, r, hl, e⟩ := I.lstM hH
  obtain ⟨w, hw, rw'⟩ := r.get hy
  refine call_meets F.slot_list_pop ⟨_, e, rfl⟩ F.entry_list_pop (F.args_list_pop_2 _ _)
    (MeetsSeq.list_pop_at l its.toArray n i t k w (fitsIndex_both h1 h2) (by rw [List.size_toArray, ← hl]; exact hk) (by rw [← Array.getElem?_toList]; exact hw) (by rw [List.size_toArray]; omega)) ⟨e, ?_⟩
  refine ⟨y, _, I.lset (its' := its.eraseIdx k) hH e ?_ (r.eraseIdx k) ?_, rw', q⟩
  · show its.toArray.eraseIdxIfInBounds k = (its.eraseIdx k).toArray
    rw [List.eraseIdxIfInBounds_toArray]
  · have := len_erase xs k
    omega

def rReverse : V → List V → Hp → VK → Prop := fun x vs H Q => ∃ l xs, x = .ref l ∧ vs = [] ∧ H l = some (.lst xs) ∧ Q .non (upd H l (.lst xs.reverse))
theorem mt_reverse : MtM X "list.reverse" rReverse := by
  intro pins s σ H x vs v us Q I rx rv h
  obtain ⟨l, xs, rfl, rfl, hH, q⟩ := h
  cases rx
  have hus := rv.zero
  subst hus
  obtain ⟨z, its, n, r, hl, e⟩ := I.lstM hH
  refine call_meets F.slot_list_reverse ⟨_, e, rfl⟩ F.entry_list_reverse (F.args_list_reverse_1 _) (AutoSeq1.list_reverse_list_0 l its.toArray n (by rw [List.size_toArray]; omega)) ⟨e, ?_⟩
  refine ⟨.non, _, I.lset (its' := its.reverse) hH e (by simp) r.reverse ?_, rfl, q⟩
  rw [List.length_reverse]
  omega

def rClear : V → List V → Hp → VK → Prop := fun x vs H Q => ∃ l xs, x = .ref l ∧ vs = [] ∧ H l = some (.lst xs) ∧ Q .non (upd H l (.lst []))
theorem mt_clear : MtM X "list.clear" rClear := by
  intro pins s σ H x vs v us Q I rx rv h
  obtain ⟨l, xs, rfl, rfl, hH, q⟩ := h
  cases rx
  have hus := rv.zero
  subst hus
  obtain ⟨z, its, n, r, hl, e⟩ := I.lstM hH
  refine call_meets F.slot_list_clear ⟨_, e, rfl⟩ F.entry_list_clear (F.args_list_clear_1 _) (AutoSeq1.list_clear_list_0 l its.toArray n (by rw [List.size_toArray]; omega)) ⟨e, ?_⟩
  exact ⟨.non, _, I.lset (its' := []) (ys := []) hH e rfl .nil (Nat.zero_le _), rfl, q⟩

/-! ### list + list, list += list, list * int -/
def rCat : R2 := fun x y H Q => ∃ l b xs zs, x = .ref l ∧ y = .ref b ∧ H l = some (.lst xs) ∧ H b = some (.lst zs) ∧ xs.length + zs.length ≤ sizeLine ∧ ∀ p, H p = none → Q (.ref p) (upd H p (.lst (xs ++ zs)))
theorem op_cat : OpR X (binaryOp .Add) rCat := by
  intro pins s σ H x y v u Q I rx ry h
  obtain ⟨l, b, xs, zs, rfl, rfl, hH, hB, hz, q⟩ := h
  cases rx
  cases ry
  obtain ⟨z, its, n, r, hl, e⟩ := I.lstM hH
  obtain ⟨z2, its2, n2, r2, hl2, e2⟩ := I.lstM hB
  refine PySem.P.add_list e e2 ?_ (by rw [List.size_toArray, List.size_toArray]; omega)
  have ea : its.toArray ++ its2.toArray = (its ++ its2).toArray := by simp
  rw [ea]
  exact ⟨.ref _, _, I.lnew (t' := s.toks) (r.append r2) (by rw [List.length_append]; omega), rfl, q _ I.fresh⟩
/-- a list times an int (a negative one is nothing) -/
def rRep : R2 := fun x y H Q => ∃ l k xs, x = .ref l ∧ y = .int k ∧ H l = some (.lst xs) ∧ -(2 ^ 63) ≤ k ∧ k < 2 ^ 63 ∧ xs.length * k.toNat ≤ sizeLine ∧
  ∀ p, H p = none → Q (.ref p) (upd H p (.lst (List.replicate k.toNat xs).flatten))
theorem len_rep {α : Type} (xs : List α) (k : Nat) : (List.replicate k xs).flatten.length = k * xs.length := by
  induction k with
  | zero => simp
  | succ k ih => rw [List.replicate_succ, List.flatten_cons, List.length_append, ih, Nat.succ_mul, Nat.add_comm]
theorem op_rep : OpR X (binaryOp .Mult) rRep := by
  intro pins s σ H x y v u Q I rx ry h
  obtain ⟨l, k, xs, rfl, rfl, hH, h1, h2, hz, q⟩ := h
  cases rx
  obtain ⟨t, rfl⟩ := ry
  obtain ⟨z, its, n, r, hl, e⟩ := I.lstM hH
  have hlen : its.toArray.size * k.toNat ≤ sizeLine := by rw [List.size_toArray, ← hl]; exact hz
  have hcap : ¬ its.toArray.size * k.toNat > (2 ^ 63 - 1) / 8 := by
    have : (sizeLine : Nat) ≤ (2 ^ 63 - 1) / 8 := by decide
    omega
  have hfit : ¬ (!Builtin.List.listFitsIndex k) = true := by
    rw [fitsIndex_both h1 h2]
    exact Bool.false_ne_true
  have hlong : ¬ Builtin.List.listTooLong (its.toArray.size * k.toNat) = true := by
    rw [notLongL hlen]
    exact Bool.false_ne_true
  have hnew : List.foldl (fun x1 x2 => x1 ++ x2) #[] (List.replicate (if its.toArray.isEmpty = true then 0 else k.toNat) its.toArray) = (List.replicate k.toNat its).flatten.toArray := by
    have f0 : ∀ m : Nat, List.foldl (fun x1 x2 => x1 ++ x2) #[] (List.replicate m its.toArray) = (List.replicate m its).flatten.toArray := fun m => by
      have := foldl_rep its m []
      rw [List.nil_append] at this
      exact this
    rw [f0]
    cases its with
    | nil => simp
    | cons a r' => rw [if_neg (by simp)]
  refine wpAny_binaryOp_repeat_ref (T := "list") (U := "int") (by decide) ⟨_, e, rfl⟩ (fun s' => typeIs_int s' k t) noFill_list_mul F.fills_int_mul F.slot_int_rmul repeat_list F.slot_int_index.lookup
    (call_meets F.slot_int_rmul (typeIs_int s k t) F.entry_int_rmul (F.args_int_rmul_2 _ _) (int___rmul___int_list k t l its.toArray n)
      ⟨e, rfl, ⟨_, e, rfl⟩, call_meets F.slot_list_mul ⟨_, e, rfl⟩ F.entry_list_mul (F.args_list_mul_2 _ _) (AutoListH.list___mul___list_int_3 l its.toArray n k t hfit hcap hlong) ⟨e, ?_⟩⟩)
  rw [hnew]
  exact ⟨.ref _, _, I.lnew (t' := s.toks) (r.rep k.toNat) (by rw [len_rep, Nat.mul_comm]; exact hz), rfl, q _ I.fresh⟩

/-! ### del xs[i] -/
theorem del_list {pins : List (Addr × Obj)} {s : Shared} {σ : St} {H : Hp} {l : Addr} {xs : List V} {i : Int} {t : Tok} {k : Nat} {Q : Unit → Shared → Prop} (I : Inv X pins σ H s) (hH : H l = some (.lst xs))
    (h1 : -(2 ^ 63) ≤ i) (h2 : i < 2 ^ 63) (hk : seqIndex? i xs.length = some k) (h : ∀ s', Inv X pins σ (upd H l (.lst (xs.eraseIdx k))) s' → Q () s') :
    wpAny (model X.prog X.w) X.A (delItem (.ref l) (.int i t)) Q X.xe s := by
  obtain ⟨z, its, n, r, hl, e⟩ := I.lstM hH
  refine PySem.P.delItem_list (k := k) e (fitsIndex_both h1 h2) (by rw [List.size_toArray, ← hl]; exact hk) (h _ ?_) (by rw [List.size_toArray]; omega)
  refine I.lset (its' := its.eraseIdx k) (t' := s.toks) hH e ?_ (r.eraseIdx k) ?_
  · show its.toArray.eraseIdxIfInBounds k = (its.eraseIdx k).toArray
    rw [List.eraseIdxIfInBounds_toArray]
  · have := len_erase xs k
    omega
end

/-! ### xs[a:b] = ys -/
section
variable {prog : Program} {w : World} {A : Around} {E : Value → Shared → Prop} {s : Shared}
theorem splice_eq (its its2 : List Value) (a c : Nat) : its.toArray.extract 0 a ++ its2.toArray ++ its.toArray.extract c its.toArray.size = (its.take a ++ its2 ++ its.drop c).toArray := by
  apply Array.toList_inj.mp
  first
    | (simp
       exact List.take_of_length_le (by simp))
    | simp [List.take_of_length_le]
    | simp
theorem bounds_run {a c n : Nat} (hac : a ≤ c) (hc : c ≤ n) : sliceBounds (some (a : Int)) (some (c : Int)) none n = ((a : Int), (c : Int), 1) := by
  simp only [sliceBounds, Option.getD_none]
  have h1 : ¬ ((a : Int) < 0) := by omega
  have h2 : ¬ ((c : Int) < 0) := by omega
  simp only [h1, h2, if_false, show (1 : Int) > 0 by decide, if_true]
  congr 1
  · omega
  · congr 1; omega
set_option maxRecDepth 100000 in
/-- list.__setitem__ with a slice of step one and another list -/
theorem setItem_slice {l b sl : Addr} {items new : Array Value} {n n2 : Nat} {vl vu : Value} {a c : Nat} {Q : Unit → Shared → Prop}
    (e : s.heap.get? l = some { cls := .type "list", data := .seq items n }) (e2 : s.heap.get? b = some { cls := .type "list", data := .seq new n2 }) (hne : l ≠ b)
    (hs : s.heap.IsSliceOf sl vl vu .none) (pl : IsPart vl (some (a : Int))) (pu : IsPart vu (some (c : Int))) (hac : a ≤ c) (hc : c ≤ items.size)
    (hsz : items.size + new.size ≤ sizeLine) (h : Q () { s with heap := s.heap.update l (Obj.mapSeq fun xs => xs.extract 0 a ++ new ++ xs.extract c xs.size) }) :
    wpAny (model prog w) A (setItem (.ref l) (.ref sl) (.ref b)) Q E s := by
  have hl : s.heap.IsList l items := PySem.IsL.isList e
  have hb : s.heap.IsList b new := PySem.IsL.isList e2
  obtain ⟨os, hos, hcs, hds⟩ := id hs
  have hTs : s.TypeIs (.ref sl) "slice" := ⟨os, hos, hcs⟩
  have hstep : ¬ ((rawPart none == rawInt 0) = true) := Bool.false_ne_true
  have hsame : Builtin.List.listSameRef (.ref l) (.ref b) = false := by
    unfold Builtin.List.listSameRef
    exact beq_eq_false_iff_ne.mpr hne
  have hmax : (max (a : Int) (c : Int)).toNat = c := by omega
  have hz' : ((fun xs : Array Value => xs.extract 0 a ++ new ++ xs.extract c xs.size) items).size ≤ sizeLine + 1 := by
    simp only [Array.size_append, Array.size_extract]
    omega
  unfold setItem
  try with_reducible refine wpAny_holding ?_
  first | refine wpAny_bind (wpAny_pure ?_) | skip
  refine wpAny_bind (wpAny_sequenceKey hl.typeIs (by decide) ?_)
  refine wpAny_bind (wpAny_callSpecial?_slot (name := Str.ofString "__setitem__") hl.typeIs slot_list_setitem
    (wpAny_call_entry slot_list_setitem hl.typeIs entry_list_setitem ?_ (args_list_setitem _ _ _)))
  show wpAny _ _ (Builtin.List.listSubscript? (.ref sl) >>= _) _ _ s
  refine wpAny_bind ?_
  unfold Builtin.List.listSubscript?
  refine wpAny_bind (wpAny_specialOf hTs slice_no_index ?_)
  simp only [Option.isNone_none, if_true]
  refine wpAny_pure ?_
  show wpAny _ _ (typeOf (.ref sl) >>= _) _ _ s
  refine wpAny_bind (wpAny_typeOf hTs ?_)
  first
    | rw [if_neg (by decide)]
    | refine PySem.W.KFB.if_not (by decide) ?_
  rw [listSliceParts_eq]
  refine wpAny_bind (wpAny_bind (wpAny_field hos hds (x := .none) rfl (wpAny_bind (wpAny_listPart .none ?_))))
  rw [if_neg hstep]
  refine wpAny_bind (wpAny_field hos hds (x := vl) rfl (wpAny_bind (wpAny_listPart pl ?_)))
  refine wpAny_bind (wpAny_field hos hds (x := vu) rfl (wpAny_bind (wpAny_listPart pu (wpAny_pure ?_))))
  first
    | simp only [hsame, Bool.false_eq_true, if_false]
    | refine PySem.W.KFB.if_not hsame ?_
    | (dsimp only
       rw [if_neg (by rw [hsame]; exact Bool.false_ne_true)])
  refine wpAny_bind (m := Builtin.List.listAllItems (.ref b) "must assign iterable to extended slice") ?_
  unfold Builtin.List.listAllItems
  refine wpAny_bind (wpAny_typeOf hb.typeIs ?_)
  first
    | refine PySem.W.KFB.if_so (by decide) ?_
    | rw [if_pos (by decide)]
    | simp only [beq_self_eq_true, Bool.true_or, if_true]
  unfold Builtin.List.listItems
  refine wpAny_bind (wpAny_seqItems e2 rfl (wpAny_pure ?_))
  refine wpAny_bind (wpAny_bind (wpAny_seqItems e rfl (wpAny_pure ?_)))
  refine wpAny_bind (wpAny_of_eq ((sliceIndices_raw (some (a : Int)) (some (c : Int)) none items.size (by simp)).trans (congrArg (pure : Int × Int × Int → Sem (Int × Int × Int)) (bounds_run hac hc))) ?_)
  show wpAny _ _ (if ((1 : Int) == 1) = true then _ else _) _ _ s
  rw [if_pos (by decide)]
  refine wpAny_bind (wpAny_rule ?_)
  first
    | simp only [notLongL hsz, Bool.false_eq_true, if_false]
    | refine PySem.W.KFB.if_not (notLongL hsz) ?_
  first | refine wpAny_bind (wpAny_pure ?_) | skip
  show wpAny _ _ (updateSeq l (fun xs => xs.extract 0 ((a : Int)).toNat ++ new ++ xs.extract (max (a : Int) (c : Int)).toNat xs.size) >>= _) _ _ s
  rw [hmax, Int.toNat_natCast]
  refine wpAny_bind (wpAny_updateSeq (hz := Nat.le_trans (Nat.le_add_right _ _) hsz) (_hz' := hz') e rfl ?_)
  refine wpAny_bind (wpAny_letGo ?_)
  first
    | exact wpAny_bind (wpAny_pure (wpAny_pure ⟨.none, rfl, wpAny_pure h⟩))
    | exact wpAny_pure ⟨.none, rfl, wpAny_pure h⟩
end

section
variable {X : Cx}
/-- xs[a:c] = ys of another list, at the value level: sl is the slice object that was just made -/
theorem set_slice {pins : List (Addr × Obj)} {s : Shared} {σ : St} {H : Hp} {l b sl : Addr} {xs ys : List V} {a c : Int} {vl vu : Value} {Q : Unit → Shared → Prop} (I : Inv X pins σ H s)
    (hH : H l = some (.lst xs)) (hB : H b = some (.lst ys)) (hne : l ≠ b) (hs : s.heap.IsSliceOf sl vl vu .none) (ra : RelV (.int a) vl) (rc : RelV (.int c) vu) (h0 : 0 ≤ a) (hac : a ≤ c) (hc : c ≤ xs.length)
    (hz : xs.length + ys.length ≤ sizeLine) (h : ∀ s', Inv X pins σ (upd H l (.lst (xs.take a.toNat ++ ys ++ xs.drop c.toNat))) s' → Q () s') :
    wpAny (model X.prog X.w) X.A (setItem (.ref l) (.ref sl) (.ref b)) Q X.xe s := by
  obtain ⟨ta, rfl⟩ := ra
  obtain ⟨tc, rfl⟩ := rc
  obtain ⟨z, its, n, r, hl, e⟩ := I.lstM hH
  obtain ⟨z2, its2, n2, r2, hl2, e2⟩ := I.lstM hB
  obtain ⟨a', rfl⟩ := Int.eq_ofNat_of_zero_le h0
  obtain ⟨c', rfl⟩ := Int.eq_ofNat_of_zero_le (Int.le_trans h0 hac)
  simp only [Int.toNat_natCast] at h
  refine setItem_slice (a := a') (c := c') e e2 hne hs (.int _ _) (.int _ _) (by omega) (by rw [List.size_toArray]; omega) (by rw [List.size_toArray, List.size_toArray]; omega) (h _ ?_)
  refine I.lset (its' := its.take a' ++ its2 ++ its.drop c') (t' := s.toks) hH e ?_ (Vals.append (Vals.append (r.take _) r2) (r.drop _)) ?_
  · exact splice_eq its its2 a' c'
  · rw [List.length_append, List.length_append, List.length_take, List.length_drop]
    omega
end
end L2

namespace Att
open PySem PySem.W PySem.Calls PyProof.Rows

/-! ### the script -/
theorem ints_of_wellAll {P : Params} {h : Heap} : ∀ (ns : List Int) (vs : List Value), WellAll P h vs (ns.map WData.int) → IntsAre vs ns := by
  intro ns
  induction ns with
  | nil =>
    intro vs w
    rw [List.map_nil] at w
    cases w
    exact .nil
  | cons n ns ih =>
    intro vs w
    rw [List.map_cons] at w
    cases w with
    | cons a b =>
      cases a
      exact .cons _ _ (ih _ b)

theorem script_of {l : OpenLaw} {n : Nat} (hn : l.most = some n) {P : Params} {h : Heap} {args : List WData} {vals : List Value}
    (hpre : l.row.toRowW.claim.pre args = true) (hwl : WellAll P h vals args) :
    ∃ a vs ns, vals = [Value.ref a] ∧ args = [WData.list (ns.map WData.int)] ∧ h.get? a = some { cls := .type "list", data := .seq vs.toArray } ∧ IntsAre vs ns ∧ ns.length ≤ n := by
  have hsh : WShape.hasAll [] args [.list .int] = true := (pre_splitW hpre).1
  have hc : l.pre.holds [] { args := args } = true := (pre_splitW hpre).2
  obtain ⟨d, r, rfl, h1, h2⟩ := hasAllW_cons hsh
  obtain rfl := hasAllW_nil h2
  obtain ⟨xs, rfl, h3⟩ := hasW_list h1
  obtain ⟨ns, rfl⟩ := items_int h3
  have hlen : ns.length ≤ n := by
    unfold OpenLaw.pre at hc
    have h4 : (WTm.not (.lt (.lit (.int (n : Int))) (.len (.arg 0)))).holds [] { args := [.list (ns.map .int)] } = true := by
      have h4 := (holds_andW hc).1
      rw [hn] at h4
      exact h4
    have h5 := condW_of h4 (w_not (w_lt w_lit (w_len_list (w_arg rfl))))
    rw [List.length_map] at h5
    refine Nat.le_of_not_lt fun q => ?_
    have q' : (n : Int) < ((ns.length : Nat) : Int) := by omega
    first
      | (rw [decide_eq_true q'] at h5; exact absurd h5 (by decide))
      | (simp at h5; omega)
  cases hwl with
  | cons w1 w2 =>
    cases w2
    cases w1 with
    | list ho hall => exact ⟨_, _, ns, rfl, rfl, ho, ints_of_wellAll ns _ hall, hlen⟩

theorem post_true (l : OpenLaw) (args : List WData) : l.row.toRowW.claim.post args (.bool true) args = true :=
  postW_of (r := l.row.toRowW) (X := (true == true))
    (show WShape.has [] (.bool true) .bool = true by first | rfl | decide | simp [WShape.has, WShape.arms, WShape.armsAll])
    (show (WTm.eq .res (.lit (.bool true))).value [] { args := args, res := some (.bool true), after := args } = some (.bool (true == true)) from w_eq_bool (w_res rfl) w_lit) rfl

/-! ### the attachment: holds_open's last premise (the goal 'hc' behind k_head) from a wpAny of the law's body -/
theorem attach {l : OpenLaw} {n : Nat} {q : Program} {loose : List Str} {XP : (Str → Option Value) → Heap → Prop} {YP : World → Heap → Prop} {d : DefRec} {x : Str}
    (hn : l.most = some n) (hdf : d.params.defaults = [])
    (hbind : ∀ pm cd doc v : Value, bindArgs (docDef d.name d.params d.body d.scope pm cd doc) ⟨[v], []⟩ = pure [(x, v)])
    (hx : d.scope.names.lookup x = some .local ∨ d.scope.names.lookup x = some .cell)
    (hk : d.scope.kind = .function) (hco : d.scope.isCoroutine = false) (hgen : d.scope.isGenerator = false)
    (body : ∀ (w : World) (s₀ s₁ s : Shared) (mg mb : Str → Option Value) (fa : Addr) (o : Obj) (pm cd doc : Value) (a : Addr) (vs : List Value) (ns : List Int),
      Ground q loose [] XP w s₀ mg mb s₁.heap → YP w s₁.heap →
      s₁.heap.get? fa = some o → o.data = .func (docDef d.name d.params d.body d.scope pm cd doc) → s₁.heap.CodeRec cd d.name → mg d.name = some (.ref fa) →
      s₁.heap.get? a = some { cls := .type "list", data := .seq vs.toArray } → IntsAre vs ns → ns.length ≤ n →
      s.gens = #[] → s.os = s₁.os →
      Fr s₁.heap s₁.heap.objs.size s.heap (bindL (envOfC d.name d.scope s₁.heap.objs.size fa cd).kindOf [(x, .ref a)] fun _ => none) →
      Cl s₁.heap.objs.size (cellsFrom (s₁.heap.objs.size + 1) d.scope.names []) s.heap (bindC (envOfC d.name d.scope s₁.heap.objs.size fa cd).kindOf [(x, .ref a)] fun _ => none) →
      wpAny (model l.prog w) (callerA.deeper (envOfC d.name d.scope s₁.heap.objs.size fa cd)) (execs d.body (envOfC d.name d.scope s₁.heap.objs.size fa cd))
        (fun f s' => f = .ret (.bool true) ∧ OldK s₁.heap s'.heap ∧ s'.os = s₁.os ∧ AllBare s'.gens) (fun _ _ => False) s) :
    WalkO q loose XP YP l.row.toRowW d [] (fun f vs => PySem.call f vs) := by
  intro w s₀ s₁ mg mb G Y fa o pm cd doc dV kV ho hd hcd hD hmg hg args vals as hpre hlay hrd hwl hlo
  obtain rfl : dV = .none := Dflts.none hD hdf
  obtain rfl : kV = .none := Dflts.noKw hD
  obtain ⟨a, vs, ns, rfl, rfl, hobj, hints, hlen⟩ := script_of hn hpre hwl
  refine enter_call ?_
  refine call_cells_ret (o := o) (by rw [depth_caller]; decide) ho (fd_plain hd) G.T.nolimit hcd (hbind pm cd doc (.ref a)) (fun y hy => ?_) (fun h₁ tk F X => ?_) hco hgen hk
  · obtain rfl : y = (x, Value.ref a) := List.mem_singleton.mp hy
    rcases hx with e | e
    · exact .inl e
    · exact .inr ⟨e, cellsFrom_some _ _ _ (.inl e)⟩
  · refine wpAny_mono (body w s₀ s₁ { s₁ with heap := h₁, toks := tk } mg mb fa o pm cd doc a vs ns G Y ho (fd_plain hd) hcd hmg hobj hints hlen hg rfl F X) (fun f s' hq => ?_) (fun _ _ hq => hq)
    obtain ⟨rfl, h2, h3, h4⟩ := hq
    exact ⟨.inl ⟨.bool true, .bool true, [], rfl, fun _ => rfl, .bool true, post_true l _, fun _ => ⟨List.Pairwise.nil, fun _ hm => (nomatch hm)⟩⟩, h2, h3, h4⟩

/-- the same from a codeAny of the CALL (for a layer whose function contracts speak of calls) -/
theorem attach_call {l : OpenLaw} {n : Nat} {q : Program} {loose : List Str} {XP : (Str → Option Value) → Heap → Prop} {YP : World → Heap → Prop} {d : DefRec}
    (hn : l.most = some n) (hdf : d.params.defaults = [])
    (call : ∀ (w : World) (s₀ s₁ : Shared) (mg mb : Str → Option Value) (fa : Addr) (o : Obj) (pm cd doc : Value) (a : Addr) (vs : List Value) (ns : List Int),
      Ground q loose [] XP w s₀ mg mb s₁.heap → YP w s₁.heap →
      s₁.heap.get? fa = some o → o.data = .func (docDef d.name d.params d.body d.scope pm cd doc) → s₁.heap.CodeRec cd d.name → mg d.name = some (.ref fa) →
      s₁.heap.get? a = some { cls := .type "list", data := .seq vs.toArray } → IntsAre vs ns → ns.length ≤ n → s₁.gens = #[] →
      codeAny (model l.prog w) callerA (.call (.ref fa) ⟨[.ref a], []⟩) (fun r s' => r = .ok (.ret (.bool true)) ∧ OldK s₁.heap s'.heap ∧ s'.os = s₁.os ∧ AllBare s'.gens) s₁) :
    WalkO q loose XP YP l.row.toRowW d [] (fun f vs => PySem.call f vs) := by
  intro w s₀ s₁ mg mb G Y fa o pm cd doc dV kV ho hd hcd hD hmg hg args vals as hpre hlay hrd hwl hlo
  obtain rfl : dV = .none := Dflts.none hD hdf
  obtain rfl : kV = .none := Dflts.noKw hD
  obtain ⟨a, vs, ns, rfl, rfl, hobj, hints, hlen⟩ := script_of hn hpre hwl
  refine enter_call (codeAny_mono (call w s₀ s₁ mg mb fa o pm cd doc a vs ns G Y ho (fd_plain hd) hcd hmg hobj hints hlen hg) fun r s' hq => ?_)
  obtain ⟨rfl, h2, h3, h4⟩ := hq
  exact ⟨.inl ⟨.bool true, .bool true, [], rfl, fun _ => rfl, .bool true, post_true l _, fun _ => ⟨List.Pairwise.nil, fun _ hm => (nomatch hm)⟩⟩, h2, h3, h4⟩

/-- the same where the top left finished generators (o_head chose holds_openN): nothing may have changed at all and no generator may be left -/
theorem attachN {l : OpenLaw} {n : Nat} {q : Program} {loose : List Str} {XP : (Str → Option Value) → Heap → Prop} {YP : World → Heap → Prop} {d : DefRec} {x : Str}
    (hn : l.most = some n) (hdf : d.params.defaults = [])
    (hbind : ∀ pm cd doc v : Value, bindArgs (docDef d.name d.params d.body d.scope pm cd doc) ⟨[v], []⟩ = pure [(x, v)])
    (hx : d.scope.names.lookup x = some .local ∨ d.scope.names.lookup x = some .cell)
    (hk : d.scope.kind = .function) (hco : d.scope.isCoroutine = false) (hgen : d.scope.isGenerator = false)
    (body : ∀ (w : World) (s₀ s₁ s : Shared) (mg mb : Str → Option Value) (fa : Addr) (o : Obj) (pm cd doc : Value) (a : Addr) (vs : List Value) (ns : List Int),
      Ground q loose [] XP w s₀ mg mb s₁.heap → YP w s₁.heap →
      s₁.heap.get? fa = some o → o.data = .func (docDef d.name d.params d.body d.scope pm cd doc) → s₁.heap.CodeRec cd d.name → mg d.name = some (.ref fa) →
      s₁.heap.get? a = some { cls := .type "list", data := .seq vs.toArray } → IntsAre vs ns → ns.length ≤ n →
      s.gens = #[] → s.os = s₁.os →
      Fr s₁.heap s₁.heap.objs.size s.heap (bindL (envOfC d.name d.scope s₁.heap.objs.size fa cd).kindOf [(x, .ref a)] fun _ => none) →
      Cl s₁.heap.objs.size (cellsFrom (s₁.heap.objs.size + 1) d.scope.names []) s.heap (bindC (envOfC d.name d.scope s₁.heap.objs.size fa cd).kindOf [(x, .ref a)] fun _ => none) →
      wpAny (model l.prog w) (callerA.deeper (envOfC d.name d.scope s₁.heap.objs.size fa cd)) (execs d.body (envOfC d.name d.scope s₁.heap.objs.size fa cd))
        (fun f s' => f = .ret (.bool true) ∧ (∀ b o, s₁.heap.get? b = some o → s'.heap.get? b = some o) ∧ s'.os = s₁.os ∧ s'.gens = #[]) (fun _ _ => False) s) :
    WalkN q loose XP YP l.row.toRowW d [] (fun f vs => PySem.call f vs) := by
  intro w s₀ s₁ mg mb G Y fa o pm cd doc dV kV ho hd hcd hD hmg hg args vals as hpre hlay hrd hwl hlo
  obtain rfl : dV = .none := Dflts.none hD hdf
  obtain rfl : kV = .none := Dflts.noKw hD
  obtain ⟨a, vs, ns, rfl, rfl, hobj, hints, hlen⟩ := script_of hn hpre hwl
  refine enter_callW ?_
  refine call_cells_ret (o := o) (by rw [depth_caller]; decide) ho (fd_plain hd) G.T.nolimit hcd (hbind pm cd doc (.ref a)) (fun y hy => ?_) (fun h₁ tk F X => ?_) hco hgen hk
  · obtain rfl : y = (x, Value.ref a) := List.mem_singleton.mp hy
    rcases hx with e | e
    · exact .inl e
    · exact .inr ⟨e, cellsFrom_some _ _ _ (.inl e)⟩
  · refine wpAny_mono (body w s₀ s₁ { s₁ with heap := h₁, toks := tk } mg mb fa o pm cd doc a vs ns G Y ho (fd_plain hd) hcd hmg hobj hints hlen hg rfl F X) (fun f s' hq => ?_) (fun _ _ hq => hq)
    obtain ⟨rfl, h2, h3, h4⟩ := hq
    exact ⟨.inl ⟨.bool true, .bool true, [], rfl, fun _ => rfl, .bool true, post_true l _, fun _ => ⟨List.Pairwise.nil, fun _ hm => (nomatch hm)⟩⟩, h2, h3, h4⟩

/-! ### rules over ANY heap (no ledger) from facts about the written part K: the library's own take a ledger (News) for what they write -/
section
variable {prog : Program} {w : World} {A : Around} {E : Value → Shared → Prop} {s : Shared} {K : Frag}

/-- a def of the module, or a method (qual 'C.m'), entered: the frame is the next address; cells behind it -/
theorem call_fn {R : Result → Shared → Prop} {name qual : Str} {params : Arguments} {body : List Stmt} {scope : Scope} {dV kV doc pm cdv ct oc : Value} {an od : Option Addr} {osl : Array (Option Value)} {f : Addr} {args : Args} {binds : List (Str × Value)}
    (X : K.In s.heap) (hlim : s.heap.NoLimit) (ho : K.lookup f = some ⟨oc, od, .func (fnOf name qual params body scope dV kV doc pm an cdv ct), osl⟩) (hcd : codeIn K cdv qual = true) (hroom : A.depth < recursionLimit)
    (hbind : BindsTo s (fnOf name qual params body scope dV kV doc pm an cdv ct) args binds)
    (hkind : (binds.all fun y => scope.names.lookup y.1 == some .local || scope.names.lookup y.1 == some .cell) = true)
    (h : ∀ s₁, InCallC s s.heap.objs.size (bindL (envOfC qual scope s.heap.objs.size f cdv).kindOf binds fun _ => none) (cellsFrom (s.heap.objs.size + 1) scope.names [])
        (bindC (envOfC qual scope s.heap.objs.size f cdv).kindOf binds fun _ => none) s₁ →
      wpAny (model prog w) (A.deeper (envOfC qual scope s.heap.objs.size f cdv)) (execs body (envOfC qual scope s.heap.objs.size f cdv))
        (fun fl s' => R (.ok (.ret (match fl with | .ret v => v | _ => .none))) s')
        (fun e s' => wpAny (model prog w) (A.deeper (envOfC qual scope s.heap.objs.size f cdv)) (leaving (envOfC qual scope s.heap.objs.size f cdv) e) (fun _ s'' => R (.error e) s'') (fun e' s'' => R (.error e') s'') s') s₁)
    (hco : scope.isCoroutine = false) (hgen : scope.isGenerator = false) (hk : scope.kind = .function) : codeAny (model prog w) A (.call (.ref f) args) R s := by
  refine codeAny_call_function hroom (X _ _ ho) rfl hco hgen rfl (codeRec_of X hcd) (hbind _ _ _ _ ?_)
  refine wpAny_newFunctionEnv_cells hk (kindsX hkind _) fun env he s₁ x => ?_
  subst he
  exact ⟨hlim.keeps x.toInCall.keep, codeAny_func (h s₁ x)⟩

/-- C(..): dict at size, instance at size + 1, then __init__ -/
theorem make_obj {R : Result → Shared → Prop} {C fI : Addr} {rest : List Value} {kw : List (Str × Value)}
    (X : K.In s.heap) (hm : makesIn K C = true) (hi : findIn K (.ref C) "__init__" = some (some (.ref fI))) (hf : isFn K (.ref fI) = true)
    (h : codeAny (model prog w) (A.under (.builtin "type.__call__" ⟨.ref C :: rest, kw⟩)) (.call (.ref fI) ⟨.ref (s.heap.objs.size + 1) :: rest, kw⟩) (InitBack (s.heap.objs.size + 1) R)
      { s with heap := (s.heap.push emptyDict).push (instObj C s.heap.objs.size) }) : codeAny (model prog w) A (.call (.ref C) ⟨rest, kw⟩) R s := by
  obtain ⟨hh, g, d, t, os⟩ := s
  exact make_core (makes_of X hm) (looks_findIn X hi) (fun self => bind_fn X self (beq_iff_eq.mp hf)) (.inl rfl) h

/-- x.name where the instance's dict holds the name and the class does not -/
theorem get_field {x C : Addr} {ox : Obj} {es : List DictEntry} {n : Nat} {name : Str} {expr : Bool} {v : Value} {Q : Value → Shared → Prop}
    (X : K.In s.heap) (I : PySem.W.InstAt s.heap x ox C (some (dictOf es n))) (hg : plainGet K C name = true) (hh : hasDictIn K C = true) (ha : findIn K (.ref C) name = some none)
    (hl : getL name es = some (some v)) (hv : handedIn v = true) (h : Q v { s with toks := s.toks + 1 }) : wpAny (model prog w) A (getAttr (.ref x) name expr) Q E s :=
  get_value X I (plainGet_of hg).1 (findObj_own hh ha rfl hl) hv h

/-- x.m(..): the method found in the class -/
theorem get_method {x C f : Addr} {ox : Obj} {es : List DictEntry} {n : Nat} {name : Str} {pl : Sem Bool} {Q : Value × List Value → Shared → Prop}
    (X : K.In s.heap) (I : PySem.W.InstAt s.heap x ox C (some (dictOf es n))) (hg : plainGet K C name = true) (hf : findIn K (.ref C) name = some (some (.ref f))) (ht : isFn K (.ref f) = true)
    (hl : getL name es = some none) (h : Q (.ref f, [.ref x]) s) : wpAny (model prog w) A (getMethod (.ref x) name pl) Q E s :=
  method_fn X I (plainGet_of hg).1 (plainGet_of hg).2 hf (beq_iff_eq.mp ht) (by show (lookIn name (dictOf es n)).map _ = _; rw [lookIn_dict, hl]; rfl) h

/-! the whole heap as the ledger: makes every rule that writes through a ledger a rule over any heap -/
def noObjs (h : Heap) : Heap := { h with objs := #[] }
theorem noObjs_get (h : Heap) (b : Addr) : (noObjs h).get? b = none := by
  cases e : (noObjs h).get? b with
  | none => rfl
  | some o => exact absurd (Heap.lt_size e) (Nat.not_lt_zero _)
def ledger (h : Heap) (L d : Addr) : List (Addr × Obj) := (List.range h.objs.size).filterMap fun a => if a = L ∨ a = d then none else (h.get? a).map fun o => (a, o)
theorem mem_ledger {h : Heap} {L d a : Addr} {o : Obj} : (a, o) ∈ ledger h L d ↔ a ≠ L ∧ a ≠ d ∧ h.get? a = some o := by
  unfold ledger
  rw [List.mem_filterMap]
  constructor
  · rintro ⟨b, _, e⟩
    split at e
    · cases e
    · rename_i hb
      obtain ⟨o', ho, e'⟩ := Option.map_eq_some_iff.mp e
      cases e'
      exact ⟨fun q => hb (.inl q), fun q => hb (.inr q), ho⟩
  · rintro ⟨n1, n2, ho⟩
    refine ⟨a, List.mem_range.mpr (Heap.lt_size ho), ?_⟩
    rw [if_neg (show ¬ (a = L ∨ a = d) from fun q => q.elim n1 n2), ho] <;> rfl
theorem news_ledger {h : Heap} {L d : Addr} {od : Obj} (hne : d ≠ L) (ho : h.get? d = some od) : News (noObjs h) L h ([] ++ (d, od) :: ledger h L d) := by
  rintro ⟨a, o⟩ hp
  rcases List.mem_cons.mp hp with e | hp
  · cases e
    exact ⟨ho, hne, noObjs_get _ _⟩
  · obtain ⟨n1, n2, e⟩ := mem_ledger.mp hp
    exact ⟨e, n1, noObjs_get _ _⟩
theorem fr_all {h : Heap} {L : Addr} {m : Str → Option Value} (n : h.Ns L m) : Fr (noObjs h) L h m :=
  ⟨n, fun b o e => (by rw [noObjs_get] at e; cases e), Nat.zero_le _⟩
/-- Upd of the head entry (for append_K, setItem_K ..) -/
theorem upd_ledger {h : Heap} {L d : Addr} {o o' : Obj} : Upd d o o' ((d, o) :: ledger h L d) ((d, o') :: ledger h L d) :=
  .head fun ⟨_, _⟩ hp => (mem_ledger.mp hp).2.1

/-- x.name = v over any heap: L is any namespace of the heap (the frame's, say): its map stays, its object is not told; all else but the dict stays -/
theorem set_field {x C dx L : Addr} {ox : Obj} {m : Str → Option Value} {es es' : List DictEntry} {n n' : Nat} {name : Str} {v : Value} {Q : Unit → Shared → Prop}
    (X : K.In s.heap) (I : PySem.W.InstAt s.heap x ox C (some (dictOf es n))) (hd : ox.dict = some dx) (hL : s.heap.Ns L m) (hne : dx ≠ L)
    (hs : findIn K (.ref C) "__setattr__" = some (some (.builtin "object.__setattr__"))) (hp : plainOver K C = true) (ht : takerIn K C name = some none) (hh : hasDictIn K C = true) (hl : (getL name es).isSome = true)
    (e : (putL name (PyData.keyHash w.params name) (.str name (s.toks + 1)) v es, putN name es n) = (es', n')) (hz : es'.length ≤ 1000)
    (h : ∀ h' : Heap, h'.Ns L m → h'.get? dx = some (dictOf es' n') → (∀ b o, b ≠ dx → b ≠ L → s.heap.get? b = some o → h'.get? b = some o) → Q () { s with heap := h', toks := s.toks + 2 }) :
    wpAny (model prog w) A (setAttr (.ref x) name v) Q E s := by
  obtain ⟨e1, e2⟩ := Prod.mk.inj e
  have hdx : s.heap.get? dx = some (dictOf es n) := by
    have := I.dict
    rw [hd] at this
    exact this
  refine set_plain X I hs (osa_dict (s := { s with toks := s.toks + 1 }) (h₀ := noObjs s.heap) (L := L) (m := m) (od := dictOf es n) (od' := dictOf es' n') (es := es') (n := n') (pre := []) (post := ledger s.heap L dx)
    (fr_all hL) (news_ledger hne hdx) X I hd hp ht hh hl (fun _ q => nomatch q) (fun ⟨_, _⟩ q => (mem_ledger.mp q).2.1) (by rw [putName_dict, e1, e2]) rfl hz fun h' F' N' => ?_)
  exact h h' F'.ns (N'.get (List.Mem.head _)) fun b o n1 n2 ho => N'.get (List.Mem.tail _ (mem_ledger.mpr ⟨n2, n1, ho⟩))
end
end Att

namespace L2
open PySem PySem.Spec PyProof.Rows

theorem vals_ints : ∀ {vs : List Value} {ns : List Int}, IntsAre vs ns → Vals (ns.map V.int) vs
  | _, _, .nil => .nil
  | _, _, .cons n t h => .cons ⟨t, rfl⟩ (vals_ints h)

/-- nothing is tracked but the script, known to the object (or it is an object of the module) -/
def Only (H : Hp) : Prop := ∀ b, H b = none ∨ ∃ o xs, H b = some (.frz o (.lst xs))

/-- THE HEAD: the law's promise, at the heap behind the top. F, the promise of the law's def, may use that base is part of the heap (so K.In base, base.Ns mainGlobals mg stand in Mod) -/
theorem law_call {P : Program} {w : World} {K : PySem.W.Frag} {mg mb : Str → Option Value} {CX : CXT} {k : Nat} {fa a : Addr} {fd : FuncData} {x : Str} {sp : Sp} {s₁ : Shared} {vs : List Value} {ns : List Int}
    (KX : K.In s₁.heap) (hns : s₁.heap.Ns mainGlobals mg) (hb : s₁.heap.Ns builtinsNs mb) (hbb : ∀ x : Str, x ≠ "__name__" → mb x = bootBuiltins x) (hlim : s₁.heap.NoLimit) (hg : s₁.gens = #[])
    (ha : s₁.heap.get? a = some { cls := .type "list", data := .seq vs.toArray }) (hi : IntsAre vs ns) (hl : ns.length ≤ sizeLine) (hr : Room k callerA)
    (F : ∀ base : Heap, K.In base → base.Ns mainGlobals mg → FnOk P w K mg base CX k fa fd [x] sp) (hbind : ∀ (s : Shared) (u : Value), BindsTo s fd ⟨[u], []⟩ [(x, u)])
    (hsp : ∀ H : Hp, Only H → SqL K H a (ns.map V.int) → sp [.ref a] H (fun v _ => v = .bl true) fun _ _ _ => False)
    (hCX : ∀ H e s', CX [] H s₁ (fun _ _ _ => False) e s' → False) :
    codeAny (model P w) callerA (.call (.ref fa) ⟨[.ref a], []⟩) (fun r s' => r = .ok (.ret (.bool true)) ∧ OldK s₁.heap s'.heap ∧ s'.os = s₁.os ∧ AllBare s'.gens) s₁ := by
  have rv := vals_ints hi
  have lenV := hi.length
  -- from an abstract heap in which nothing but the script may be tracked
  have core : ∀ H : Hp, Only H → SqL K H a (ns.map V.int) → HOk P w H s₁.heap → (∀ b, H b ≠ none → b = a) → (H a ≠ none → K.lookup a = none) →
      codeAny (model P w) callerA (.call (.ref fa) ⟨[.ref a], []⟩) (fun r s' => r = .ok (.ret (.bool true)) ∧ OldK s₁.heap s'.heap ∧ s'.os = s₁.os ∧ AllBare s'.gens) s₁ := by
    intro H hO hS hok hA hK
    have base_of : ∀ {b : Addr} {o : Obj}, s₁.heap.get? b = some o → H b = none → (hidT s₁.heap H).get? b = some o := fun e n => hidT_get e n
    have noA : ∀ {b : Addr} {o : Obj} {es : Array DictEntry} {ep : Nat}, s₁.heap.get? b = some o → o.data = .dict es ep → H b = none := fun {b o es ep} e d => by
      cases q : H b with
      | none => rfl
      | some u =>
        have e' : b = a := hA b (by rw [q]; simp)
        subst e'
        rw [ha] at e; cases e
        have d' : Data.seq vs.toArray _ = Data.dict es ep := d
        cases d'
    have nsK : ∀ {b : Addr} {m : Str → Option Value}, s₁.heap.Ns b m → (hidT s₁.heap H).Ns b m := fun {b m} ⟨o, es, ep, e, d, r⟩ => ⟨o, es, ep, base_of e (noA e d), d, r⟩
    have hKb : K.In (hidT s₁.heap H) := fun b o e => base_of (KX b o e) (by
      cases q : H b with
      | none => rfl
      | some u =>
        have e' : b = a := hA b (by rw [q]; simp)
        subst e'
        rw [hK (by rw [q]; simp)] at e; cases e)
    have hM : Mod K mg (hidT s₁.heap H) := ⟨hKb, nsK hns, ⟨mb, nsK hb, hbb⟩, let ⟨mc, h1, h2⟩ := hlim; ⟨mc, nsK h1, h2⟩⟩
    have e0 : Env0 P w K mg (hidT s₁.heap H) callerA [] s₁ H := ⟨rfl, hM, fun b o e => of_hidT e, Nat.le_of_eq (hidT_size _ _), trivial, fun b hb => absurd (show b ∈ ([] : List Addr) from hb) (by simp), hok, .of_eq hg⟩
    refine codeAny_mono ((F _ hKb (nsK hns)).run callerA [] s₁ H ⟨[.ref a], []⟩ [.ref a] [.ref a] _ _ hr e0 (hbind s₁ (.ref a)) (.cons rfl .nil) (hsp H hO hS)) fun r s' h => ?_
    cases r with
    | error e => exact (hCX H e s' h).elim
    | ok fl =>
      cases fl with
      | next => exact False.elim h
      | brk => exact False.elim h
      | cont => exact False.elim h
      | ret u =>
        obtain ⟨v, H', os, bare, un, hok', r', q⟩ := h
        have q' : v = .bl true := q
        subst q'
        obtain rfl : u = Value.bool true := r'
        refine ⟨rfl, OldK.of_keep fun b o e => ?_, os, bare⟩
        cases q : H b with
        | none => exact un.keep b o e q (by intro z; exact absurd (show b ∈ ([] : List Addr) from z) (by simp)) (by simp)
        | some u =>
          rcases hO b with z | ⟨ob, xs, z⟩
          · rw [q] at z; cases z
          · have z2 := un.frzs b ob _ z
            obtain ⟨e1, _⟩ := hok b _ z
            obtain ⟨e2, _⟩ := hok' b _ z2
            rw [e] at e1; cases e1
            exact e2
  cases hk : K.lookup a with
  | some o =>
    -- the script is one of the module's own objects
    have e := KX a o hk
    rw [ha] at e
    cases e
    refine core (fun _ => none) (fun _ => .inl rfl) (.inr ⟨_, vs.toArray, _, hk, rfl, rfl, rfl, by rw [List.size_toArray, lenV]; exact hl, by simpa using rv⟩) (fun b u z => by have z' : (none : Option HO) = some u := z; cases z') (fun b z => absurd rfl z) fun z => absurd rfl z
  | none =>
    refine core (fun b => if b = a then some (.frz { cls := .type "list", data := .seq vs.toArray } (.lst (ns.map V.int))) else none) (fun b => ?_) (.inl (.inr ⟨{ cls := .type "list", data := .seq vs.toArray }, if_pos rfl⟩)) (fun b u z => ?_) (fun b z => ?_) fun _ => hk
    · by_cases hb : b = a
      · exact .inr ⟨_, _, if_pos hb⟩
      · exact .inl (if_neg hb)
    · by_cases hb : b = a
      · have z' := (if_pos hb).symm.trans z
        cases z'
        subst hb
        exact ⟨ha, by rw [List.length_map]; exact hl, vs, _, rv, ha⟩
      · have z' := (if_neg hb).symm.trans z
        cases z'
    · by_cases hb : b = a
      · exact hb
      · exact absurd (if_neg hb) z
end L2

namespace L2
open PySem PySem.Spec PyProof.Rows

abbrev KOf {K : PySem.W.Frag} {h : Heap} (_ : K.In h) : PySem.W.Frag := K

/-- the goal that k_head leaves (case hc), from the law's promise. F gives the function object fd (K's own) once, then the promise over every base -/
theorem walk_of {l : PySem.W.OpenLaw} {n k : Nat} {q : Program} {loose : List Str} {XP : (Str → Option Value) → Heap → Prop} {YP : World → Heap → Prop} {d : DefRec} {K : Params → PySem.W.Frag} {CX : World → CXT} {sp : World → Sp} {x : Str}
    (hn : l.most = some n) (hn2 : n ≤ sizeLine) (hdf : d.params.defaults = []) (hr : Room k callerA)
    (hY : ∀ (w : World) (h : Heap), YP w h → (K w.params).In h)
    (F : ∀ (w : World) (mg : Str → Option Value) (fa : Addr) (h : Heap), (K w.params).In h → h.Ns mainGlobals mg → mg d.name = some (.ref fa) →
      ∃ fd : FuncData, (∀ (s : Shared) (u : Value), BindsTo s fd ⟨[u], []⟩ [(x, u)]) ∧
        ∀ base : Heap, (K w.params).In base → base.Ns mainGlobals mg → FnOk l.prog w (K w.params) mg base (CX w) k fa fd [x] (sp w))
    (hsp : ∀ (w : World) (H : Hp) (a : Addr) (ns : List Int), ns.length ≤ n → Only H → SqL (K w.params) H a (ns.map V.int) → sp w [.ref a] H (fun v _ => v = .bl true) fun _ _ _ => False)
    (hCX : ∀ (w : World) (H : Hp) (s : Shared) (e : Value) (s' : Shared), CX w [] H s (fun _ _ _ => False) e s' → False) :
    PySem.W.WalkO q loose XP YP l.row.toRowW d [] (fun f vs => PySem.call f vs) := by
  refine Att.attach_call hn hdf fun w s₀ s₁ mg mb fa o pm cd doc a vs ns G Y ho hd hcd hmg hobj hints hlen hg => ?_
  have KX := hY w _ Y
  obtain ⟨fd, hb, hF⟩ := F w mg fa _ KX G.T.g hmg
  exact law_call KX G.T.g G.T.b G.T.builtins G.T.nolimit hg hobj hints (Nat.le_trans hlen hn2) hr hF hb (fun H hO hS => hsp w H a ns hlen hO hS) fun H e s' => hCX w H s₁ e s'
/-- the same where the promise hangs on the written part alone: (sp := My.sp_law), no hole under a binder -/
theorem walk_ofK {l : PySem.W.OpenLaw} {n k : Nat} {q : Program} {loose : List Str} {XP : (Str → Option Value) → Heap → Prop} {YP : World → Heap → Prop} {d : DefRec} {K : Params → PySem.W.Frag} {CX : CXT} {sp : PySem.W.Frag → Sp} {x : Str}
    (hn : l.most = some n) (hn2 : n ≤ sizeLine) (hdf : d.params.defaults = []) (hr : Room k callerA)
    (hY : ∀ (w : World) (h : Heap), YP w h → (K w.params).In h)
    (F : ∀ (w : World) (mg : Str → Option Value) (fa : Addr) (h : Heap), (K w.params).In h → h.Ns mainGlobals mg → mg d.name = some (.ref fa) →
      ∃ fd : FuncData, (∀ (s : Shared) (u : Value), BindsTo s fd ⟨[u], []⟩ [(x, u)]) ∧
        ∀ base : Heap, (K w.params).In base → base.Ns mainGlobals mg → FnOk l.prog w (K w.params) mg base CX k fa fd [x] (sp (K w.params)))
    (hsp : ∀ (K : PySem.W.Frag) (H : Hp) (a : Addr) (ns : List Int), ns.length ≤ n → Only H → SqL K H a (ns.map V.int) → sp K [.ref a] H (fun v _ => v = .bl true) fun _ _ _ => False)
    (hCX : ∀ (H : Hp) (s : Shared) (e : Value) (s' : Shared), CX [] H s (fun _ _ _ => False) e s' → False) :
    PySem.W.WalkO q loose XP YP l.row.toRowW d [] (fun f vs => PySem.call f vs) :=
  walk_of (K := K) (CX := fun _ => CX) (sp := fun w => sp (K w.params)) hn hn2 hdf hr hY F (fun w H a ns h1 h2 h3 => hsp (K w.params) H a ns h1 h2 h3) fun _ H s e s' => hCX H s e s'
end L2



/-! SHORT WORDS over the layer: a def of the text, its body, what a loop and a test want. -/
namespace L2
open PySem PySem.Spec PyProof.Rows

/-! ### the text by places -/
/-- the j-th statement of a class's body -/
def inClass (s : Stmt) (j : Nat) : Stmt := match s with
  | .ClassDef _ _ _ body _ _ _ _ _ _ _ => body.getD j (.Pass ⟨0, 0, 0, 0⟩)
  | _ => .Pass ⟨0, 0, 0, 0⟩
def defArgs (s : Stmt) : Arguments := match s with
  | .FunctionDef _ a _ _ _ _ _ _ _ _ => a
  | _ => { posonlyargs := [], args := [], vararg := none, kwonlyargs := [], kw_defaults := [], kwarg := none, defaults := [] }
def defBody (s : Stmt) : List Stmt := match s with
  | .FunctionDef _ _ b _ _ _ _ _ _ _ => b
  | _ => []
def defScope (s : Stmt) : Scope := match s with
  | .FunctionDef _ _ _ _ _ _ sc _ _ _ => sc
  | _ => { kind := .function, names := [], isGenerator := false, isCoroutine := false }

/-! ### no exception leaves a def -/
abbrev CX0 : CXT := fun _ _ _ _ _ _ => False
abbrev E0 : XK := fun _ _ _ => False
theorem pass0 {X : Cx} : Passes CX0 X E0 := fun _ _ _ _ _ _ _ h => h.elim

/-! ### a def (or method) of the text as it stands behind the top -/
structure Fun (K : PySem.W.Frag) (x qual : Str) (st : Stmt) (f : Addr) (fd : FuncData) : Prop where
  ex : ∃ (oc : Value) (od : Option Addr) (kV doc pm : Value) (an : Option Addr) (cdv ct : Value) (osl : Array (Option Value)),
    fd = PySem.W.fnOf x qual (defArgs st) (defBody st) (defScope st) .none kV doc pm an cdv ct ∧ K.lookup f = some ⟨oc, od, .func fd, osl⟩ ∧ PySem.W.codeIn K cdv qual = true
  kp : PySem.W.keepIn K (.ref f) = true
section
variable {P : Program} {w : World} {K : PySem.W.Frag} {mg : Str → Option Value} {base : Heap}
/-- THE RULE for a def: its body as a term of rules, and the reading of that term -/
theorem Fun.ok {x qual : Str} {st : Stmt} {f : Addr} {fd : FuncData} {N ps : List Str} {k : Nat} {sp : Sp} (F : Fun K x qual st f fd) (S : FnScope N ps (defScope st)) (len : ∀ vs H Q E, sp vs H Q E → vs.length = ps.length)
    (hbody : ∀ (cdv : Value) (A : Around) (outer : List Env) (s : Shared) (H : Hp) (vs : List V) (Q : VK) (E : XK), Room k (A.deeper (envOfC qual (defScope st) s.heap.objs.size f cdv)) → sp vs H Q E →
      ∃ t, PSs (cxOf CX0 P w K mg base N qual (defScope st) f cdv A outer s H E).nox (defBody st) t ∧ t { nx := fun _ H' => Q .non H', rt := Q } (start N vs) H) : FnOk P w K mg base CX0 (k + 1) f fd ps sp := by
  obtain ⟨oc, od, kV, doc, pm, an, cdv, ct, osl, rfl, lk, hcd⟩ := F.ex
  refine fn_of lk hcd S len fun A outer s H vs Q E hr hsp => ?_
  obtain ⟨t, h, q⟩ := hbody cdv A outer s H vs Q E hr hsp
  exact ⟨t, h.nox, q⟩
/-- how its arguments bind (no defaults): h is «fun _ _ _ _ _ _ us hl => match us, hl with | [_, _], _ => rfl», one _ a parameter -/
theorem Fun.binds {x qual : Str} {st : Stmt} {f : Addr} {fd : FuncData} {ps : List Str} (F : Fun K x qual st f fd)
    (h : ∀ (kV doc pm : Value) (an : Option Addr) (cdv ct : Value) (us : List Value), us.length = ps.length → bindArgs (PySem.W.fnOf x qual (defArgs st) (defBody st) (defScope st) .none kV doc pm an cdv ct) ⟨us, []⟩ = pure (ps.zip us)) : Binds K fd ps [] := by
  obtain ⟨oc, od, kV, doc, pm, an, cdv, ct, osl, rfl, lk, hcd⟩ := F.ex
  exact .all (h kV doc pm an cdv ct)
theorem fun_mk {x qual : Str} {st : Stmt} {f : Addr} {oc : Value} {od an : Option Addr} {osl : Array (Option Value)} {kV doc pm cdv ct : Value} (l : K.lookup f = some ⟨oc, od, .func (PySem.W.fnOf x qual (defArgs st) (defBody st) (defScope st) .none kV doc pm an cdv ct), osl⟩)
    (c : PySem.W.codeIn K cdv qual = true) (k : PySem.W.keepIn K (.ref f) = true) : Fun K x qual st f (PySem.W.fnOf x qual (defArgs st) (defBody st) (defScope st) .none kV doc pm an cdv ct) := ⟨⟨oc, od, kV, doc, pm, an, cdv, ct, osl, rfl, l, c⟩, k⟩
end
theorem hu_of {A : Around} {k : Nat} (hr : Room k A) : A.units + 1 < cLine := Nat.lt_of_le_of_lt (Nat.add_le_add_left (by decide : 1 ≤ 64) _) hr.units
theorem small1000 {n : Nat} (h : n ≤ 1000) : n < sizeLine := Nat.lt_of_le_of_lt h (by decide)

/-! ### expressions in short: the name that stands in the i-th slot -/
section
variable {X : Cx}
theorem pv (i : Nat) {x : Str} {pos : Pos} (hN : X.N[i]? = some x := by rfl) (hv : Vis X.env.scope x := by first | exact Or.inl rfl | exact Or.inr (Or.inl rfl) | exact Or.inr (Or.inr rfl)) (hd : (x == ("__debug__" : Str)) = false := by decide)
    (hcd : (x == ("__classdict__" : Str)) = false := by decide) : PE X (.Name x pos) (tVar i) := pe_var hN hv hd hcd
end

/-! ### tests -/
theorem iteF {A B : Prop} (h : B) : if false = true then A else B := by
  rw [if_neg Bool.false_ne_true]
  exact h
theorem iteT {A B : Prop} (h : A) : if true = true then A else B := by
  rw [if_pos rfl]
  exact h
theorem ite2 {c A B : Prop} [Decidable c] (h1 : c → A) (h2 : ¬ c → B) : if c then A else B := by
  by_cases h : c
  · rw [if_pos h]
    exact h1 h
  · rw [if_neg h]
    exact h2 h
theorem iteNS {c A B : Prop} [Decidable c] (hc : c) (h : B) : if (!decide c) = true then A else B := by
  rw [decide_eq_true hc]
  exact iteF h

/-! ### heaps -/
/-- all that was tracked is as it was -/
def Same (H H' : Hp) : Prop := ∀ b o, H b = some o → H' b = some o
theorem Same.refl (H : Hp) : Same H H := fun _ _ h => h
theorem Same.trans {H H1 H2 : Hp} (a : Same H H1) (b : Same H1 H2) : Same H H2 := fun c o h => b c o (a c o h)
theorem Same.free {H H' : Hp} (e : Same H H') {l : Addr} (h : H' l = Option.none) : H l = Option.none := by
  cases q : H l with
  | none => rfl
  | some o =>
    rw [e l o q] at h
    cases h
theorem Same.seq {K : PySem.W.Frag} {H H' : Hp} {a : Addr} {xs : List V} (e : Same H H') (h : SqL K H a xs) : SqL K H' a xs := by
  rcases h with (h | ⟨o, h⟩) | h
  · exact .inl (.inl (e _ _ h))
  · exact .inl (.inr ⟨o, e _ _ h⟩)
  · exact .inr h

end L2

namespace L2
open PySem PySem.W PySem.Spec PySem.Calls PyProof.Rows
/-! ### f-strings -/
section
variable {X : Cx} {e v1 v2 : Expr} {es rest : List Expr} {te : TE} {pos p2 : Pos}
abbrev TJ := Str → TE
/-- the parts of an f-string behind out, from the left -/
def PJ (X : Cx) (es : List Expr) (t : TJ) : Prop := ∀ (pins : List (Addr × Obj)) (s : Shared) (σ : St) (H : Hp) (out : Str) (Q : VK), Inv X pins σ H s → t out σ H Q → wpAny (model X.prog X.w) X.A (joinParts out (evalEach es X.env)) (EP X pins σ Q) X.xe s
def jNil : TJ := fun out _ H Q => out.length ≤ sizeLine ∧ Q (.str out) H
def jCons (te : TE) (t : TJ) : TJ := fun out σ H Q => te σ H fun x H1 => ∃ y, x = .str y ∧ (out ++ y).length ≤ sizeLine ∧ t (out ++ y) σ H1 Q
theorem pj_nil : PJ X [] jNil := fun _ _ _ H out _ I h => joinParts_nil ⟨.str out, H, I.tok _, ⟨_, rfl⟩, h.2⟩ h.1
theorem pj_cons {t : TJ} (he : PE X e te) (hr : PJ X es t) : PJ X (e :: es) (jCons te t) := by
  intro pins s σ H out Q I h
  refine joinParts_cons (thn (he pins s σ H _ I h) fun u s1 ⟨x, H1, I1, rx, y, ex, hl, q⟩ => ?_)
  subst ex
  obtain ⟨t', rfl⟩ := (show ∃ t, u = Value.str y t from rx)
  exact ⟨hl, hr pins s1 σ H1 _ Q I1 q⟩
theorem pe_joined {t : TJ} (h : PJ X (v1 :: v2 :: rest) t) : PE X (.JoinedStr (v1 :: v2 :: rest) pos) (t Str.empty) := fun pins s σ H Q I hw => JoinedStr_many (h pins s σ H Str.empty Q I hw)
def tFmt (te : TE) : TE := fun σ H Q => te σ H fun x H1 => (∃ y, x = .str y ∧ y.length ≤ sizeLine ∧ Q (.str y) H1) ∨ ∃ i : Int, x = .int i ∧ i.natAbs.log2 < 1920 ∧ Q (.str (toString i)) H1
theorem pe_fmt (he : PE X e te) : PE X (.FormattedValue e (-1) none pos) (tFmt te) := by
  intro pins s σ H Q I h
  refine FormattedValue_plain (thn (he pins s σ H _ I h) fun u s1 ⟨x, H1, I1, rx, q⟩ => ?_)
  rcases q with ⟨y, ex, hl, q⟩ | ⟨i, ex, hl, q⟩
  · subst ex
    obtain ⟨t', rfl⟩ := (show ∃ t, u = Value.str y t from rx)
    exact formatField_str (fun t' tk => ⟨.str y, H1, I1.tok tk, ⟨_, rfl⟩, q⟩) hl
  · subst ex
    obtain ⟨t', rfl⟩ := (show ∃ t, u = Value.int i t from rx)
    exact formatField_int_small hl ⟨.str (toString i), H1, I1.tok _, ⟨_, rfl⟩, q⟩
/-! ### sep.join(texts) -/
theorem strs_of : ∀ {ys : List Str} {us : List Value}, Vals (ys.map V.str) us → ∃ l, us = strValues l ∧ l.map (·.1) = ys
  | [], us, r => by
    rw [List.map_nil] at r
    cases r
    exact ⟨[], rfl, rfl⟩
  | y :: ys, us, r => by
    rw [List.map_cons] at r
    cases r with
    | cons r1 r2 =>
      obtain ⟨t, rfl⟩ := r1
      obtain ⟨l, rfl, h⟩ := strs_of r2
      exact ⟨(y, t) :: l, rfl, by rw [List.map_cons, h]⟩
def rJoin (K : PySem.W.Frag) : V → List V → Hp → VK → Prop := fun x xs H Q => ∃ sep p ys, x = .str sep ∧ xs = [.ref p] ∧ SqL K H p (ys.map V.str) ∧ JoinOk sep ys = true ∧ Q (.str (Txt.join sep ys)) H
theorem mt_join : MtR X "str.join" (rJoin X.K) := by
  intro pins s σ H x xs v us Q I rx r h
  obtain ⟨sep, p, ys, rfl, rfl, hq, hok, q⟩ := h
  obtain ⟨t, rfl⟩ := (show ∃ t, v = Value.str sep t from rx)
  obtain ⟨u, rfl, r1⟩ := vals1 r
  cases (show u = Value.ref p from r1)
  obtain ⟨its, rv, pl, _⟩ := I.list hq
  obtain ⟨l, rfl, hl⟩ := strs_of rv
  exact SC.join pl.isList hl hok fun t' k => ⟨.str (Txt.join sep ys), H, I.tok k, ⟨_, rfl⟩, q⟩
/-! ### C.f(e ..), f a function of the class at C -/
theorem pe_ccall {CX : CXT} {k : Nat} {f C : Addr} {fd : FuncData} {ps : List Str} {sp : Sp} {E : XK} {c m : Str} {p apos : Pos} {t : TA} {pl : Sem Bool} (hg : Gl X c) (hm : X.mg c = some (.ref C))
    (hs : specialIn X.K (.ref C) "__getattribute__" = some (some (.builtin "type.__getattribute__"))) (hrd : readsIn X.K C (.type "type") = true) (hf : findCls X.K (.ref C) (.type "type") m = some (.val (.ref f)))
    (F : FnOk X.prog X.w X.K X.mg X.base CX k f fd ps sp) (hr : Room k X.A) (hk : PySem.W.keepIn X.K (.ref f) = true) (hb : Binds X.K fd ps []) (hx : Passes CX X E) (ha : PA X (e :: es) t)
    (hd : (c == ("__debug__" : Str)) = false := by decide) (hst : starEach (e :: es) X.env = (false, eval e X.env) :: starEach es X.env := by rfl) (hpl : (backTo pos (starEach es X.env)).any (·.1) = false := by rfl)
    (ht : eval (.Call (.Attribute (.Name c p) m apos) (e :: es) [] pos) X.env = (do
      let ov ← eval (.Name c p) X.env
      standAt apos.atName
      let (f, first) ← holding [ov] (getMethod ov m pl)
      callWith pos f first (backTo pos (starEach (e :: es) X.env)) (backToKw pos (keywordEach [] X.env))) := by rfl) :
    PE X (.Call (.Attribute (.Name c p) m apos) (e :: es) [] pos) (tCall sp [] E t) := by
  intro pins s σ H Q I h
  refine PySem.W.methodCall_KW (pl := pl) (ld_glob I hg hm ?_ hd) ht
  refine method_cls I.kIn hs (cls_value I.kIn hrd hf rfl ?_)
  have I1 := I.tok (s.toks + 1)
  refine PySem.W.callWith_K (first := []) (h₀ := X.base) I.ok.mod.kin hk (thn (ha pos pins _ σ H _ I1 h) fun us s2 ⟨vs, H2, I2, r, q2⟩ => ⟨I2.kIn, ?_⟩) hst hpl
  exact run_fn (us := us) (vs := vs) F hr hb .nil hx I2 r q2
/-! ### o.m(), o an instance of any class that has the method at f -/
def tMethA (K : PySem.W.Frag) (m : Str) (f : Addr) (sp : Sp) (E : XK) (ta : TE) : TE := fun σ H Q => ta σ H fun x H1 => ∃ a C dx fs, x = .ref a ∧ H1 a = some (.ins C dx fs) ∧ Cls K C ∧ Meth K C m f ∧ fs.lookup m = none ∧ sp [x] H1 Q E
theorem pe_methA {CX : CXT} {k : Nat} {f : Addr} {fd : FuncData} {ps : List Str} {sp : Sp} {E : XK} {m : Str} {apos : Pos} {pl : Sem Bool} (he : PE X e te) (F : FnOk X.prog X.w X.K X.mg X.base CX k f fd ps sp) (hr : Room k X.A) (hb : Binds X.K fd ps []) (hx : Passes CX X E)
    (ht : eval (.Call (.Attribute e m apos) [] [] pos) X.env = (do
      let ov ← eval e X.env
      standAt apos.atName
      let (f, first) ← holding [ov] (getMethod ov m pl)
      callWith pos f first (backTo pos (starEach [] X.env)) (backToKw pos (keywordEach [] X.env))) := by rfl) :
    PE X (.Call (.Attribute e m apos) [] [] pos) (tMethA X.K m f sp E te) := by
  intro pins s σ H Q I h
  refine PySem.W.methodCall_KW (pl := pl) (thn (he pins s σ H _ I h) fun u s1 ⟨x, H1, I1, rx, a, C, dx, fs, ex, ea, c, k, l, q⟩ => ?_) ht
  subst ex
  cases (show u = Value.ref a from rx)
  refine getmeth_ok I1 ea c k l ?_
  exact PySem.W.callWith_K0 (first := [.ref a]) I1.kIn k.kp (run_fn (us := [.ref a]) (vs := [.ref a]) F hr hb .nil hx I1 (.cons rfl .nil) q)
/-! ### l[::-1] -/
def tRevL (K : PySem.W.Frag) (te : TE) : TE := fun σ H Q => te σ H fun x H1 => ∃ a xs, x = .ref a ∧ SqL K H1 a xs ∧ ∀ p, H1 p = none → Q (.ref p) (upd H1 p (.lst xs.reverse))
theorem Vals.rev : ∀ {xs : List V} {us : List Value}, Vals xs us → Vals xs.reverse us.reverse
  | _, _, .nil => .nil
  | _, _, .cons r1 r2 => by
    rw [List.reverse_cons, List.reverse_cons]
    exact (Vals.rev r2).append (.cons r1 .nil)
theorem pe_rev {q1 q2 : Pos} {j : Nat} (he : PE X e te) : PE X (.Subscript e (.Slice none none (some (.UnaryOp .USub (.Constant (.int 1) j q1) q2)) p2) pos) (tRevL X.K te) := by
  intro pins s σ H Q I h
  refine Subscript_ (thn (he pins s σ H _ I h) fun v s1 ⟨x, H1, I1, r1, a, xs, ex, hx, q1⟩ => ?_)
  subst ex
  cases (show v = Value.ref a from r1)
  refine wpAny_Slice ?_
  rw [evalPart_none]
  refine wpAny_pure ?_
  refine wpAny_pure ?_
  refine thn (po_some (pe_un un_neg pe_int) pins s1 σ H1 (fun o H2 => o = some (-1) ∧ H2 = H1) I1 ⟨1, rfl, -1, rfl, rfl, rfl⟩) fun vk s3 ⟨o, H3, I3, pk, e1, e2⟩ => ?_
  subst e1 e2
  have I4 : Inv X pins σ H3 { s3 with heap := s3.heap.push { cls := .type "slice", data := .fields #[.none, .none, vk] } } := I3.kept (t' := s3.toks) fun b ob q => Heap.get?_push_of_some _ q
  obtain ⟨its, r, ht, hz⟩ := I4.list hx
  have hlen := r.length
  refine tail_any (ops := _) ht.isList.typeIs slot_list_getitem.lookup ?_ (by with_unfolding_all rfl)
  refine wpAny_getItem_list_slice ht.isList (Heap.IsSliceOf.new ..) .none .none pk (by simp) ?_ (by rw [List.size_toArray] <;> omega)
  rw [krv_pick]
  refine ⟨.ref (s3.heap.push _).objs.size, _, I4.laid (t' := s3.toks) (o := .lst xs.reverse) (fun b ob q => Heap.get?_push_of_some _ q) (Nat.le_refl _) ?_, rfl, q1 _ (I4.hok.fresh (Nat.le_refl _))⟩
  exact ⟨by rw [List.length_reverse]; exact hz, _, 0, r.rev, Heap.get?_push_size _ rfl⟩
/-! ### isinstance(x, C), C a class of the text -/
def rIsC (K : PySem.W.Frag) : List V → Hp → VK → Prop := fun xs H Q => ∃ (x : V) (c : Addr) (t : Value) (b : Bool), xs = [x, .ref c] ∧ TyOf K H x t ∧ PySem.W.kitOne K t (.ref c) = some b ∧ Q (.bl b) H
theorem call_isC : CallR X (.builtin "isinstance") (rIsC X.K) := by
  intro pins s σ H xs us Q I r h
  obtain ⟨x, c, t, b, rfl, ty, e, q⟩ := h
  obtain ⟨u, w', rfl, r1, r2⟩ := vals2 r
  cases (show w' = Value.ref c from r2)
  exact isinst_ok I r1 ty e fun tk => ⟨.bl b, H, I.tok tk, rfl, q⟩
end
end L2

namespace S
open PySem PySem.Spec PyProof.Rows L2

/-! ### sizes -/
def Sz (n : Nat) (x : Int) : Prop := x.natAbs < 2 ^ n
theorem Sz.mono {m n : Nat} {x : Int} (h : Sz m x) (l : m ≤ n) : Sz n x := Nat.lt_of_lt_of_le h (Nat.pow_le_pow_right (by decide) l)
theorem Sz.bits {n : Nat} {x : Int} (h : Sz n x) : Builtin.Int.intBits x ≤ n := intBits_le_iff.mpr h
theorem Sz.of {n : Nat} {x : Int} (h : Builtin.Int.intBits x ≤ n) : Sz n x := intBits_le_iff.mp h
theorem Sz.mulOk {m n : Nat} {x y : Int} (h : Sz m x) (g : Sz n y) (l : m + n ≤ 134217728) : IntMulOk x y := IntMulOk.of_le h.bits g.bits l
theorem Sz.mul {m n : Nat} {x y : Int} (h : Sz m x) (g : Sz n y) : Sz (m + n) (x * y) := Sz.of (intBits_mul_le h.bits g.bits)
theorem Sz.add {n : Nat} {x y : Int} (h : Sz n x) (g : Sz n y) : Sz (n + 1) (x + y) := Sz.of (Nat.le_trans (intBits_add_le h.bits g.bits) (by omega))
theorem Sz.sub {n : Nat} {x y : Int} (h : Sz n x) (g : Sz n y) : Sz (n + 1) (x - y) := Sz.of (Nat.le_trans (intBits_sub_le h.bits g.bits) (by omega))
theorem Sz.le {n : Nat} {x y : Int} (h : Sz n x) (l : y.natAbs ≤ x.natAbs) : Sz n y := Nat.lt_of_le_of_lt l h
theorem Sz.log {n : Nat} {x : Int} (h : Sz n x) (l : n ≤ 8999) : x.natAbs.log2 < 9000 := by
  by_cases h0 : x.natAbs = 0
  · rw [h0]; decide +kernel
  · have := (Nat.log2_lt h0).mpr (Sz.mono h l)
    omega

section
variable {X : Cx}
theorem op_mulB : OpR X (binaryOp .Mult) (rI IntMulOk fun i j => .int (i * j)) := opI fun _ _ _ _ _ _ _ hc q => mul_int q hc
/-- // by any divisor that is not too long -/
def CDv (_ j : Int) : Prop := j ≠ 0 ∧ Sz 8999 j
theorem op_fdivB : OpR X (binaryOp .FloorDiv) (rI CDv fun i j => .int (i.fdiv j)) := opI fun i j _ _ _ _ _ hc q =>
  floordiv_int hc.1 q (.inl (PyProof.noPylong_of_log2 (hc.2.log (Nat.le_refl _))))
end

/-! ### data at the abstract heap -/
mutual
def Is (H : Hp) : PyData → V → Prop
  | .none, v => v = .non
  | .bool b, v => v = .bl b
  | .int i, v => v = .int i
  | .str x, v => v = .str x
  | .list xs, v => ∃ p vs, v = .ref p ∧ H p = some (.lst vs) ∧ IsAll H xs vs
  | .tuple xs, v => ∃ p vs, v = .ref p ∧ H p = some (.tup vs) ∧ IsAll H xs vs
  | .dict kvs, v => IsIn H kvs v
def IsAll (H : Hp) : List PyData → List V → Prop
  | [], vs => vs = []
  | x :: xs, vs => ∃ v r, vs = v :: r ∧ Is H x v ∧ IsAll H xs r
/-- an instance of the class at C with the one field form -/
def IsIn (H : Hp) : List (PyData × PyData) → V → Prop
  | [(c, x)], v => ∃ (p C dx : Addr) (w : V), c = .int ((C : Nat) : Int) ∧ v = .ref p ∧ H p = some (.ins C dx [("form", w)]) ∧ Is H x w
  | _, _ => False
end
mutual
theorem Is.mono {H H' : Hp} (e : Same H H') : ∀ (d : PyData) (v : V), Is H d v → Is H' d v
  | .none, v, h => by simpa only [Is] using h
  | .bool b, v, h => by simpa only [Is] using h
  | .int i, v, h => by simpa only [Is] using h
  | .str x, v, h => by simpa only [Is] using h
  | .list xs, v, h => by
    rw [Is] at h ⊢
    obtain ⟨p, vs, e1, e2, e3⟩ := h
    exact ⟨p, vs, e1, e _ _ e2, IsAll.mono e xs vs e3⟩
  | .tuple xs, v, h => by
    rw [Is] at h ⊢
    obtain ⟨p, vs, e1, e2, e3⟩ := h
    exact ⟨p, vs, e1, e _ _ e2, IsAll.mono e xs vs e3⟩
  | .dict kvs, v, h => by
    rw [Is] at h ⊢
    exact IsIn.mono e kvs v h
theorem IsIn.mono {H H' : Hp} (e : Same H H') : ∀ (d : List (PyData × PyData)) (v : V), IsIn H d v → IsIn H' d v
  | [], v, h => by rw [IsIn] at h; exact h.elim; simp
  | [(c, x)], v, h => by
    rw [IsIn] at h ⊢
    obtain ⟨p, C, dx, w, e1, e2, e3, e4⟩ := h
    exact ⟨p, C, dx, w, e1, e2, e _ _ e3, Is.mono e x w e4⟩
  | _ :: _ :: _, v, h => by rw [IsIn] at h; exact h.elim; simp
theorem IsAll.mono {H H' : Hp} (e : Same H H') : ∀ (d : List PyData) (v : List V), IsAll H d v → IsAll H' d v
  | [], v, h => by rw [IsAll] at h ⊢; exact h
  | x :: xs, v, h => by
    rw [IsAll] at h ⊢
    obtain ⟨v, r, e1, e2, e3⟩ := h
    exact ⟨v, r, e1, Is.mono e x v e2, IsAll.mono e xs r e3⟩
end
theorem Same.new {H : Hp} {p : Addr} (h : H p = none) (o : HO) : Same H (upd H p o) := fun b u q => by rw [upd_ne (ne_of_none q h)]; exact q

section
variable {X : Cx} {pins : List (Addr × Obj)} {σ : L2.St} {H : Hp} {s : Shared}
mutual
theorem Is.reads (I : Inv X pins σ H s) : ∀ (d : PyData) (v : V) (u : Value), d.canLay0 = true → Is H d v → RelV v u → ∃ as, Reads s.heap u d as
  | .none, v, u, lay, h, r => by rw [Is] at h; subst h; cases (show u = Value.none from r); exact ⟨_, .none⟩
  | .bool b, v, u, lay, h, r => by rw [Is] at h; subst h; cases (show u = Value.bool b from r); exact ⟨_, .bool b⟩
  | .int i, v, u, lay, h, r => by rw [Is] at h; subst h; obtain ⟨t, rfl⟩ := (show ∃ t, u = Value.int i t from r); exact ⟨_, .int i t⟩
  | .str x, v, u, lay, h, r => by rw [Is] at h; subst h; obtain ⟨t, rfl⟩ := (show ∃ t, u = Value.str x t from r); exact ⟨_, .str x t⟩
  | .list xs, v, u, lay, h, r => by
    rw [Is] at h
    obtain ⟨p, vs, e1, e2, e3⟩ := h
    subst e1
    cases (show u = Value.ref p from r)
    obtain ⟨_, its, n, hv, hp⟩ := (show ObjOk X.prog X.w H s.heap p (.lst vs) from I.hok p _ e2)
    obtain ⟨as, q⟩ := IsAll.reads I xs vs its (by rw [PyData.canLay0] at lay; exact lay) e3 hv
    exact ⟨_, .list hp rfl rfl (by simpa using q)⟩
  | .tuple xs, v, u, lay, h, r => by
    rw [Is] at h
    obtain ⟨p, vs, e1, e2, e3⟩ := h
    subst e1
    cases (show u = Value.ref p from r)
    obtain ⟨_, its, hv, hp⟩ := (show ObjOk X.prog X.w H s.heap p (.tup vs) from I.hok p _ e2)
    obtain ⟨o, h1, h2, n, h3⟩ := hp
    obtain ⟨as, q⟩ := IsAll.reads I xs vs its (by rw [PyData.canLay0] at lay; exact lay) e3 hv
    exact ⟨_, .tuple h1 h2 h3 (by simpa using q)⟩
  | .dict _, v, u, lay, h, r => by rw [PyData.canLay0] at lay; cases lay
theorem IsAll.reads (I : Inv X pins σ H s) : ∀ (d : List PyData) (v : List V) (u : List Value), PyData.canLayAll0 d = true → IsAll H d v → Vals v u → ∃ as, ReadsAll s.heap u d as
  | [], v, u, lay, h, r => by rw [IsAll] at h; subst h; cases Vals.zero r; exact ⟨_, .nil⟩
  | x :: xs, v, u, lay, h, r => by
    rw [PyData.canLayAll0, Bool.and_eq_true] at lay
    rw [IsAll] at h
    obtain ⟨v, w, e1, e2, e3⟩ := h
    subst e1
    cases r with
    | cons r1 r2 =>
      obtain ⟨as, q⟩ := Is.reads I x v _ lay.1 e2 r1
      obtain ⟨bs, q2⟩ := IsAll.reads I xs w _ lay.2 e3 r2
      exact ⟨_, .cons q q2⟩
end
end

/-! ### deep == and != -/
def rEqD : R2 := fun x y H Q => ∃ d e, Is H d x ∧ Is H e y ∧ SeqAt.shaped d = true ∧ SeqAt.shaped e = true ∧ Q (.bl (PyData.eqv d e)) H
def rNeD : R2 := fun x y H Q => ∃ d e, Is H d x ∧ Is H e y ∧ SeqAt.shaped d = true ∧ SeqAt.shaped e = true ∧ Q (.bl (!PyData.eqv d e)) H
section
variable {X : Cx}
theorem op_eqD (hu : X.A.units + 64 < cLine) : OpR X (compareOp .Eq) rEqD := by
  intro pins s σ H x y v u Q I rx ry h
  obtain ⟨d, e, h1, h2, h3, h4, q⟩ := h
  obtain ⟨as, r1⟩ := Is.reads I d x v (SeqAt.canLay_of_shaped h3) h1 rx
  obtain ⟨bs, r2⟩ := Is.reads I e y u (SeqAt.canLay_of_shaped h4) h2 ry
  exact eq_dataH r1 r2 h3 h4 hu ⟨.bl _, H, I, rfl, q⟩
theorem op_neD (hu : X.A.units + 64 < cLine) : OpR X (compareOp .NotEq) rNeD := by
  intro pins s σ H x y v u Q I rx ry h
  obtain ⟨d, e, h1, h2, h3, h4, q⟩ := h
  obtain ⟨as, r1⟩ := Is.reads I d x v (SeqAt.canLay_of_shaped h3) h1 rx
  obtain ⟨bs, r2⟩ := Is.reads I e y u (SeqAt.canLay_of_shaped h4) h2 ry
  exact ne_dataH r1 r2 h3 h4 hu ⟨.bl _, H, I, rfl, q⟩
end

/-! ### isinstance -/
def rIsi (K : PySem.W.Frag) : List V → Hp → VK → Prop := fun xs H Q => ∃ (x : V) (T : String) (t : Value) (b : Bool), xs = [x, .ty T] ∧ TyOf K H x t ∧ PySem.W.kitOne K t (.type T) = some b ∧ Q (.bl b) H
section
variable {X : Cx}
theorem call_isi : CallR X (.builtin "isinstance") (rIsi X.K) := by
  intro pins s σ H xs us Q I r h
  obtain ⟨x, T, t, b, rfl, ty, e, q⟩ := h
  obtain ⟨u, w', rfl, r1, r2⟩ := vals2 r
  cases (show w' = Value.type T from r2)
  exact isinst_ok I r1 ty e fun tk => ⟨.bl b, H, I.tok tk, rfl, q⟩
end
theorem kit_bool_bool {K : PySem.W.Frag} : PySem.W.kitOne K (.type "bool") (.type "bool") = some true := by rfl
theorem kit_int_int {K : PySem.W.Frag} : PySem.W.kitOne K (.type "int") (.type "int") = some true := by rfl
theorem kit_tup_tup {K : PySem.W.Frag} : PySem.W.kitOne K (.type "tuple") (.type "tuple") = some true := by rfl
theorem kit_lst_lst {K : PySem.W.Frag} : PySem.W.kitOne K (.type "list") (.type "list") = some true := by rfl

/-! ### a def with all that a call of it wants -/
structure Cal (P : Program) (w : World) (K : PySem.W.Frag) (mg : Str → Option Value) (base : Heap) (CX : CXT) (k : Nat) (x : Str) (ps : List Str) (sp : Sp) : Prop where
  ex : ∃ (f : Addr) (fd : FuncData), FnOk P w K mg base CX k f fd ps sp ∧ mg x = some (.ref f) ∧ PySem.W.keepIn K (.ref f) = true ∧ Binds K fd ps []
section
variable {X : Cx} {CX : CXT} {k j : Nat} {ps : List Str} {sp : Sp} {E : XK} {x : Str} {p pos : Pos} {e : Expr} {es : List Expr} {t : TA}
theorem pe_cal (C : Cal X.prog X.w X.K X.mg X.base CX k x ps sp) (hr : Room j X.A) (hk : k ≤ j) (hx : Passes CX X E) (hg : Gl X x)
    (ha : PA X (e :: es) t) (hdb : (x == ("__debug__" : Str)) = false := by decide) (he : starEach (e :: es) X.env = (false, eval e X.env) :: starEach es X.env := by rfl) (hpl : (backTo pos (starEach es X.env)).any (·.1) = false := by rfl) :
    PE X (.Call (.Name x p) (e :: es) [] pos) (tCall sp [] E t) := by
  obtain ⟨f, fd, F, hm, hk2, hb⟩ := C.ex
  exact pe_call F (hr.mono hk) hg hm hk2 hb .nil hx ha hdb he hpl
end
theorem units_of {A : Around} {k : Nat} (hr : Room k A) : A.units + 64 < cLine := hr.units

/-! ### fractions -/
def frD (q : Rat) : PyData := .tuple [.int q.num, .int (q.den : Int)]
def FrAt (H : Hp) (q : Rat) (v : V) : Prop := ∃ p, v = .ref p ∧ H p = some (.tup [.int q.num, .int (q.den : Int)])
theorem FrAt.mono {H H' : Hp} {q : Rat} {v : V} (h : FrAt H q v) (e : Same H H') : FrAt H' q v := let ⟨p, a, b⟩ := h; ⟨p, a, e _ _ b⟩
theorem FrAt.is {H : Hp} {q : Rat} {v : V} (h : FrAt H q v) : Is H (frD q) v := by
  obtain ⟨p, a, b⟩ := h
  unfold frD
  rw [Is]
  exact ⟨p, _, a, b, by simp only [IsAll, Is]; exact ⟨_, _, rfl, rfl, _, _, rfl, rfl, rfl⟩⟩
theorem FrAt.of_is {H : Hp} {q : Rat} {v : V} (h : Is H (frD q) v) : FrAt H q v := by
  unfold frD at h
  rw [Is] at h
  obtain ⟨p, vs, a, b, c⟩ := h
  simp only [IsAll, Is] at c
  obtain ⟨_, _, rfl, rfl, _, _, rfl, rfl, rfl⟩ := c
  exact ⟨p, a, b⟩
def SzQ (n : Nat) (q : Rat) : Prop := Sz n q.num ∧ Sz n (q.den : Int)
theorem SzQ.mono {m n : Nat} {q : Rat} (h : SzQ m q) (l : m ≤ n) : SzQ n q := ⟨h.1.mono l, h.2.mono l⟩
theorem den_pos (q : Rat) : (0 : Int) < (q.den : Int) := Int.natCast_pos.mpr q.den_pos
/-- the size of a quotient -/
theorem SzQ.divInt {n : Nat} {a b : Int} (ha : Sz n a) (hb : Sz n b) (h0 : b ≠ 0) : SzQ n (Rat.divInt a b) := by
  constructor
  · refine ha.le ?_
    rw [Rat.num_divInt, Int.natAbs_ediv_of_dvd ?_]
    · rw [Int.natAbs_mul]
      have e : b.sign.natAbs = 1 := Int.natAbs_sign_of_ne_zero h0
      rw [e, Nat.one_mul]
      exact Nat.div_le_self _ _
    · exact Int.dvd_trans (Int.gcd_dvd_right b a) (Int.dvd_mul_left _ _)
  · refine hb.le ?_
    rw [Rat.den_divInt, if_neg h0]
    show b.natAbs / b.gcd a ≤ b.natAbs
    exact Nat.div_le_self _ _

/-! ### built-in names -/
theorem bt_len : bootBuiltins "len" = some (.builtin "len") := by decide +kernel
theorem bt_abs : bootBuiltins "abs" = some (.builtin "abs") := by decide +kernel
theorem bt_min : bootBuiltins "min" = some (.builtin "min") := by decide +kernel
theorem bt_max : bootBuiltins "max" = some (.builtin "max") := by decide +kernel
theorem bt_isinstance : bootBuiltins "isinstance" = some (.builtin "isinstance") := by decide +kernel
theorem bt_range : bootBuiltins "range" = some (.type "range") := by decide +kernel
theorem bt_int : bootBuiltins "int" = some (.type "int") := by decide +kernel
theorem bt_bool : bootBuiltins "bool" = some (.type "bool") := by decide +kernel
theorem bt_tuple : bootBuiltins "tuple" = some (.type "tuple") := by decide +kernel
theorem bt_list : bootBuiltins "list" = some (.type "list") := by decide +kernel
theorem bt_enumerate : bootBuiltins "enumerate" = some (.type "enumerate") := by decide +kernel
theorem bt_zip : bootBuiltins "zip" = some (.type "zip") := by decide +kernel
theorem bt_reversed : bootBuiltins "reversed" = some (.type "reversed") := by decide +kernel
theorem bt_str : bootBuiltins "str" = some (.type "str") := by decide +kernel
theorem bt_sum : bootBuiltins "sum" = some (.builtin "sum") := by decide +kernel
theorem bt_ValueError : bootBuiltins "ValueError" = some (.type "ValueError") := by decide +kernel
structure Bl (mg : Str → Option Value) : Prop where
  len : mg "len" = none
  abs : mg "abs" = none
  min : mg "min" = none
  max : mg "max" = none
  isinstance : mg "isinstance" = none
  range : mg "range" = none
  int : mg "int" = none
  bool : mg "bool" = none
  tuple : mg "tuple" = none
  list : mg "list" = none
  enumerate : mg "enumerate" = none
  zip : mg "zip" = none
  reversed : mg "reversed" = none
  ValueError : mg "ValueError" = none
  sum : mg "sum" = none
  str : mg "str" = none

theorem while_w {c : TT} {tb : TS} {D : Ends} {σ : L2.St} {H : Hp} (W : Nat → L2.St → Hp → Prop) (m : Nat) (h0 : W m σ H)
    (hs : ∀ m σ H, W m σ H → c σ H (fun b H1 => if b = true then ∃ N : L2.St → Hp → Prop, (∀ σ' H', N σ' H' → ∃ m', m' < m ∧ W m' σ' H') ∧ tb { D with nx := N, ct := N, bk := D.nx } σ H1 else D.nx σ H1)) : tWhile c tb D σ H := ⟨W, ⟨m, h0⟩, hs⟩
theorem iteNot {c A B : Prop} [Decidable c] (h1 : ¬ c → A) (h2 : c → B) : if (!decide c) = true then A else B := by
  by_cases hc : c
  · rw [decide_eq_true hc]; exact h2 hc
  · rw [decide_eq_false hc]; exact h1 hc
theorem iteD {c A B : Prop} [Decidable c] (h1 : c → A) (h2 : ¬ c → B) : if decide c = true then A else B := by
  by_cases hc : c
  · rw [decide_eq_true hc]; exact h1 hc
  · rw [decide_eq_false hc]; exact h2 hc
theorem int_inj {i j : Int} : (V.int i = V.int j) = (i = j) := propext ⟨fun h => V.int.inj h, fun h => congrArg V.int h⟩

theorem _root_.L2.FnOk.or {P : Program} {w : World} {K : PySem.W.Frag} {mg : Str → Option Value} {base : Heap} {CX : CXT} {k : Nat} {f : Addr} {fd : FuncData} {ps : List Str} {sp sp' : Sp} (F : FnOk P w K mg base CX k f fd ps sp) (G : FnOk P w K mg base CX k f fd ps sp') :
    FnOk P w K mg base CX k f fd ps (fun vs H Q E => sp vs H Q E ∨ sp' vs H Q E) where
  len := fun vs H Q E h => h.elim (F.len vs H Q E) (G.len vs H Q E)
  run := fun A outer s H args us vs Q E hr e0 hb hv h => h.elim (F.run A outer s H args us vs Q E hr e0 hb hv) (G.run A outer s H args us vs Q E hr e0 hb hv)
theorem sub_seq {H H' : Hp} {K : PySem.W.Frag} {a : Addr} {xs : List V} (e : Same H H') (h : SqL K H a xs) : SqL K H' a xs := e.seq h

/-! ### lists of ints -/
theorem atI_ints {ms : List Int} {k : Int} (h0 : 0 ≤ k) (h : k < (ms.length : Int)) : atI (ms.map V.int) k = some (.int (ms.getD k.toNat 0)) := by
  have hk : k.toNat < ms.length := by omega
  have ek : k = ((k.toNat : Nat) : Int) := by omega
  have q : atI (ms.map V.int) ((k.toNat : Nat) : Int) = some (.int (ms.getD k.toNat 0)) := atI_nat (by rw [List.getElem?_map, List.getElem?_eq_getElem hk, List.getD_eq_getElem?_getD, List.getElem?_eq_getElem hk]; rfl)
  rwa [← ek] at q
theorem cut_take (ns : List Int) (n : Nat) : cutV (ns.map V.int) none (some (n : Int)) = (ns.take n).map V.int := by
  unfold cutV
  rw [HT.sIx_none, HT.sIx_nat, List.drop_zero, Nat.sub_zero, List.length_map, ← List.map_take]
  congr 1
  by_cases h : n ≤ ns.length
  · rw [Nat.min_eq_left h]
  · rw [Nat.min_eq_right (by omega), List.take_length, List.take_of_length_le (by omega)]

theorem low_pos {a b : Int} (hb : 0 < b) : (a.fdiv (Int.gcd a b : Nat) = (Rat.divInt a b).num) ∧ b.fdiv (Int.gcd a b : Nat) = ((Rat.divInt a b).den : Int) := by
  have g0 : (0 : Int) ≤ ((Int.gcd a b : Nat) : Int) := Int.natCast_nonneg _
  rw [Int.fdiv_eq_ediv_of_nonneg _ g0, Int.fdiv_eq_ediv_of_nonneg _ g0, Rat.num_divInt, Rat.den_divInt, if_neg (by omega), Int.gcd_comm b a, Int.sign_eq_one_of_pos hb, Int.one_mul]
  refine ⟨rfl, ?_⟩
  have e : b = (b.natAbs : Int) := by omega
  rw [Int.natCast_ediv, ← e]
theorem low_neg {a b : Int} (hb : b < 0) : (a.fdiv (-((Int.gcd a b : Nat) : Int)) = (Rat.divInt a b).num) ∧ b.fdiv (-((Int.gcd a b : Nat) : Int)) = ((Rat.divInt a b).den : Int) := by
  have h := low_pos (a := -a) (b := -b) (by omega)
  rw [Rat.neg_divInt_neg, Int.neg_gcd, Int.gcd_neg] at h
  rw [← h.1, ← h.2]
  constructor
  · rw [← Int.neg_fdiv_neg, Int.neg_neg]
  · rw [← Int.neg_fdiv_neg, Int.neg_neg]
theorem rd_set {i : Nat} {v : V} {σ : L2.St} {H : Hp} {Q : L2.St → Hp → Prop} (h : Q (σ.set i (some v)) H) : gName i v σ H Q := h
theorem seq_cut {t u : TS} {D : Ends} {σ : L2.St} {H : Hp} (M : L2.St → Hp → Prop) (h2 : ∀ σ' H', M σ' H' → u D σ' H') (h1 : (∀ σ' H', M σ' H' → u D σ' H') → t { D with nx := u D } σ H) : tSeq t u D σ H := h1 h2
theorem sz_small {n : Nat} (h : 1 ≤ n) {x : Int} (h1 : -2 < x) (h2 : x < 2) : Sz n x := Sz.mono (show Sz 1 x by unfold Sz; omega) h

/-! ### gcd -/
theorem gcd_step (a b : Int) : Int.gcd b (a % b) = Int.gcd a b := by
  have e : a % b = a - b * (a / b) := by have := Int.mul_ediv_add_emod a b; omega
  rw [e, Int.gcd_sub_mul_left_right, Int.gcd_comm]
end S

namespace S
open PySem PySem.Spec PyProof.Rows L2

/-! ### list comprehensions (one clause) -/
def closOf (cells : List (Str × Addr)) : List (Str × NameKind) → List (Str × Addr) → List (Str × Addr)
  | [], acc => acc
  | (n, k) :: r, acc => closOf cells r (if k == .free then (n, (cells.lookup n).getD 0) :: acc else acc)
theorem closureFor_eq {scope : Scope} {env : Env} (h : ∀ y ∈ scope.names, y.2 = .free → ∃ c, env.cells.lookup y.1 = some c) : closureFor scope env = pure (closOf env.cells scope.names []) := by
  have key : ∀ (names : List (Str × NameKind)) (acc : List (Str × Addr)), (∀ y ∈ names, y.2 = .free → ∃ c, env.cells.lookup y.1 = some c) →
      (forIn names acc fun x r => match x with
        | (name, kind) => if (kind == NameKind.free) = true then do
              let a ← cellOf env name
              pure (ForInStep.yield ((name, a) :: r))
            else pure (ForInStep.yield r) : Sem (List (Str × Addr))) = pure (closOf env.cells names acc) := by
    intro names
    induction names with
    | nil => intro acc _; rfl
    | cons y r ih =>
      intro acc hy
      obtain ⟨n, k⟩ := y
      rw [List.forIn_cons, closOf]
      have hr := fun z hz => hy z (List.mem_cons_of_mem _ hz)
      cases hk : k == NameKind.free with
      | false =>
        simp only [hk, Bool.false_eq_true, if_false, pure_bind]
        exact ih acc hr
      | true =>
        obtain ⟨c, hc⟩ := hy (n, k) (List.mem_cons_self ..) (by simpa using hk)
        have hc' : cellOf env n = pure c := by unfold cellOf; rw [hc]
        simp only [hk, if_true, hc', pure_bind, hc, Option.getD_some]
        exact ih _ hr
  simp only [closureFor]
  rw [key _ _ h]
  rfl
theorem closOf_lookup {cells : List (Str × Addr)} {x : Str} {c : Addr} : ∀ {names : List (Str × NameKind)} {acc : List (Str × Addr)}, (∀ y ∈ names, y.2 = .free → ∃ c, cells.lookup y.1 = some c) → (∀ c, acc.lookup x = some c → cells.lookup x = some c) →
    (closOf cells names acc).lookup x = some c → cells.lookup x = some c
  | [], acc, _, ha, h => ha c h
  | (n, k) :: r, acc, hn, ha, h => by
    rw [closOf] at h
    refine closOf_lookup (fun z hz => hn z (List.mem_cons_of_mem _ hz)) (fun c' hc' => ?_) h
    cases hk : k == NameKind.free with
    | false => rw [hk] at hc'; simp only [Bool.false_eq_true, if_false] at hc'; exact ha c' hc'
    | true =>
      rw [hk] at hc'
      simp only [if_true] at hc'
      obtain ⟨d, hd⟩ := hn (n, k) (List.mem_cons_self ..) (by simpa using hk)
      rw [List.lookup_cons] at hc'
      cases hx : x == n with
      | true =>
        rw [hx] at hc'
        have e : x = n := by simpa using hx
        subst e
        have hd' : cells.lookup x = some d := hd
        rw [hd'] at hc' ⊢
        exact hc'
      | false => rw [hx] at hc'; exact ha c' hc'
theorem closOf_has {cells : List (Str × Addr)} {x : Str} : ∀ {names : List (Str × NameKind)} {acc : List (Str × Addr)}, ((x, NameKind.free) ∈ names ∨ (acc.lookup x).isSome = true) → ((closOf cells names acc).lookup x).isSome = true
  | [], acc, h => by
    rcases h with h | h
    · exact absurd h (List.not_mem_nil)
    · exact h
  | (n, k) :: r, acc, h => by
    rw [closOf]
    refine closOf_has ?_
    have keep : (acc.lookup x).isSome = true → ((if (k == NameKind.free) = true then (n, (cells.lookup n).getD 0) :: acc else acc).lookup x).isSome = true := fun z => by
      split
      · rw [List.lookup_cons]; split <;> simp [z]
      · exact z
    rcases h with h | h
    · rcases List.mem_cons.mp h with e | e
      · cases e
        refine .inr ?_
        simp
      · exact .inl e
    · exact .inr (keep h)

/-- the context of a comprehension's block -/
def cxComp (X : Cx) (N : List Str) (scope : Scope) (C : Addr) (ex : List Addr) (s : Shared) (H : Hp) : Cx where
  prog := X.prog
  w := X.w
  K := X.K
  mg := X.mg
  base := X.base
  A := X.A
  N := N
  s₀ := s
  H₀ := H
  env := compEnvC scope (closOf X.env.cells scope.names []) C X.env
  outer := X.stack
  stack := X.stack
  ex := ex
  fn := fun _ => false
  calm := X.calm
  pn := []
  xe := fun _ _ => False
/-- the values of the names that the block sees of the code around it -/
def frσ (σ : L2.St) (fr : List Nat) : L2.St := fr.map fun j => (σ[j]?).getD none
/-- what is asked of the texts alone -/
structure CompOk (X : Cx) (N : List Str) (n : Nat) (fr : List Nat) (scope : Scope) : Prop where
  kind : scope.kind = .function
  nd : N.Nodup
  names : (N.drop n) = fr.map (fun j => (X.N[j]?).getD ("" : Str))
  own : n ≤ N.length
  inx : (fr.all fun j => decide (j < X.N.length)) = true
  free : ((N.drop n).all fun x => decide (scope.names.lookup x = some .free)) = true
  nocell : (scope.names.all fun y => decide (y.2 ≠ .cell)) = true
  loc : (scope.names.all fun y => decide (y.2 = .local → scope.names.lookup y.1 = some .local)) = true
  seen : (scope.names.all fun y => decide (y.2 = .free → (X.env.kindOf y.1 = some .cell ∨ X.env.kindOf y.1 = some .free))) = true
theorem relabel_kinds {scope : Scope} {env : Env} {x : Str} {k : NameKind} (h : (relabel scope env).names.lookup x = some k) (hk : k = .cell ∨ k = .free) (hc : (scope.names.all fun y => decide (y.2 ≠ .cell)) = true) : (x, NameKind.free) ∈ scope.names := by
  unfold relabel at h
  dsimp only at h
  have key : ∀ names : List (Str × NameKind), (names.all fun y => decide (y.2 ≠ .cell)) = true →
      (names.map fun (n, k) => if (k == NameKind.free && env.scope.kind == .function && env.kindOf n == some .cell) = true then (n, NameKind.cell) else (n, k)).lookup x = some k → (x, NameKind.free) ∈ names := by
    intro names
    induction names with
    | nil => intro _ h; simp at h
    | cons y r ih =>
      intro ha h
      obtain ⟨n, j⟩ := y
      rw [List.all_cons, Bool.and_eq_true] at ha
      rw [List.map_cons] at h
      have e1 : ∀ (b : Bool) (k1 : NameKind), ((if b = true then (n, NameKind.cell) else (n, k1)) : Str × NameKind) = (n, if b = true then NameKind.cell else k1) := by intro b k1; cases b <;> rfl
      dsimp only at h
      rw [e1, List.lookup_cons] at h
      cases hx : x == n with
      | false => rw [hx] at h; exact List.mem_cons_of_mem _ (ih ha.2 h)
      | true =>
        rw [hx] at h
        have e : x = n := by simpa using hx
        subst e
        have h' := Option.some.inj h
        have hj : j ≠ .cell := by simpa using ha.1
        have : j = .free := by
          cases hb : (j == NameKind.free && env.scope.kind == .function && env.kindOf x == some .cell) with
          | true =>
            rw [Bool.and_eq_true, Bool.and_eq_true] at hb
            simpa using hb.1.1
          | false =>
            rw [hb] at h'
            simp only [Bool.false_eq_true, if_false] at h'
            subst h'
            rcases hk with z | z
            · exact absurd z hj
            · exact z
        subst this
        exact List.mem_cons_self ..
  exact key _ hc h
theorem relabel_free {scope : Scope} {env : Env} {x : Str} (h : scope.names.lookup x = some .free) : (relabel scope env).names.lookup x = some .cell ∨ (relabel scope env).names.lookup x = some .free := by
  unfold relabel
  dsimp only
  have key : ∀ names : List (Str × NameKind), names.lookup x = some .free →
      (names.map fun (n, k) => if (k == NameKind.free && env.scope.kind == .function && env.kindOf n == some .cell) = true then (n, NameKind.cell) else (n, k)).lookup x = some .cell ∨ (names.map fun (n, k) => if (k == NameKind.free && env.scope.kind == .function && env.kindOf n == some .cell) = true then (n, NameKind.cell) else (n, k)).lookup x = some .free := by
    intro names
    induction names with
    | nil => intro h; simp at h
    | cons y r ih =>
      intro h
      obtain ⟨n, j⟩ := y
      have e1 : ∀ (b : Bool) (k1 : NameKind), ((if b = true then (n, NameKind.cell) else (n, k1)) : Str × NameKind) = (n, if b = true then NameKind.cell else k1) := by intro b k1; cases b <;> rfl
      rw [List.map_cons]
      dsimp only
      rw [e1, List.lookup_cons]
      rw [List.lookup_cons] at h
      cases hx : x == n with
      | false => rw [hx] at h; exact ih h
      | true =>
        rw [hx] at h
        cases Option.some.inj h
        dsimp only
        split
        · exact .inl rfl
        · exact .inr rfl
  exact key _ h
section
variable {X : Cx} {N : List Str} {n : Nat} {fr : List Nat} {scope : Scope} {pins : List (Addr × Obj)} {σ : L2.St} {H : Hp} {s : Shared}
theorem CompOk.cells (O : CompOk X N n fr scope) (I : Inv X pins σ H s) : ∀ y ∈ scope.names, y.2 = .free → ∃ c, X.env.cells.lookup y.1 = some c := fun y hy hf => I.ok.has y.1 (of_decide_eq_true (List.all_eq_true.mp O.seen y hy) hf)
/-- the block's invariant at its start: the frame's dict has been laid at the heap's end -/
theorem comp_start {fp : List Addr} {h' : Heap} {tk : Nat} {m : Str → Option Value} (O : CompOk X N n fr scope) (I : Inv X pins σ H s) (hf : ∀ b ∈ fp, FpOk X pins H b) (hfl : ∀ b ∈ fp, b < s.heap.objs.size)
    (hns : h'.Ns s.heap.objs.size m) (keep : ∀ b o, s.heap.get? b = some o → h'.get? b = some o) :
    Inv (cxComp X N scope s.heap.objs.size fp s H) [] (List.replicate n none ++ frσ σ fr) H { s with heap := h', toks := tk } := by
  have hcl := O.cells I
  have lk : ∀ x c, (closOf X.env.cells scope.names []).lookup x = some c → X.env.cells.lookup x = some c := fun x c h => closOf_lookup hcl (fun c h => by simp at h) h
  have cne : ∀ x c, (closOf X.env.cells scope.names []).lookup x = some c → ∃ v, s.heap.IsCell c v := fun x c h => I.cell x c (lk x c h)
  have clt : ∀ x c, (closOf X.env.cells scope.names []).lookup x = some c → c < s.heap.objs.size := fun x c h => by
    obtain ⟨v, o, ho, _⟩ := cne x c h
    exact Heap.lt_size ho
  refine ⟨⟨I.mod, O.kind, I.ok.glob, I.ok.blt, Nat.le_refl _, fun x y c h1 h2 => I.ok.inj x y c (lk x c h1) (lk y c h2), fun x hx => ?_, fun x c h => (by cases h), I.ok.hd, I.ok.frames, .inl rfl, fun b hb => ⟨Nat.ne_of_lt (hfl b hb), fun x c h => (hf b hb).2.2.2.2.1 x c (lk x c h)⟩, I.bs, Nat.le_trans I.ok.bsz I.sz, fun b o e hb => ?_, fun b hb z => ?_, I.stack, I.stkFree⟩,
    rfl, I.bare, Un.kept keep, ⟨m, hns, fun i x v h1 h2 h3 => ?_⟩, fun x c h => ?_, I.hok.fresh (Nat.le_refl _), fun x c h => I.freeC x c (lk x c h), fun p hp => absurd hp (by simp [cxComp]), I.hok.kept keep, ?_⟩
  · have hx' : (x, NameKind.free) ∈ scope.names := by
      rcases hx with hx | hx
      · exact relabel_kinds hx (.inl rfl) O.nocell
      · exact relabel_kinds hx (.inr rfl) O.nocell
    exact Option.isSome_iff_exists.mp (closOf_has (.inl hx'))
  · rcases (hf b hb).2.2.2.1 with z | z
    · exact I.ok.noex b o e z
    · exact absurd (Nat.lt_of_lt_of_le (Heap.lt_size (I.ok.bs b o e).1) z) (Nat.lt_irrefl _)
  · rcases List.mem_cons.mp (I.stkSub b z) with q | q
    · exact (hf b hb).2.1 q
    · exact (hf b hb).2.2.1 q
  · by_cases hi : i < n
    · rw [List.getElem?_append_left (by simpa using hi), List.getElem?_replicate, if_pos hi] at h2
      cases h2
    · have h1' : (N.drop n)[i - n]? = some x := by rw [List.getElem?_drop, show n + (i - n) = i by omega]; exact h1
      rw [List.getElem?_append_right (by simpa using hi), List.length_replicate] at h2
      unfold frσ at h2
      rw [List.getElem?_map] at h2
      rw [O.names, List.getElem?_map] at h1'
      cases ej : fr[i - n]? with
      | none => rw [ej] at h2; cases h2
      | some j =>
        rw [ej] at h2 h1'
        have hjl : j < X.N.length := of_decide_eq_true (List.all_eq_true.mp O.inx j (List.mem_of_getElem? ej))
        have hx : X.N[j]? = some x := by
          have e := Option.some.inj h1'
          dsimp only at e
          rw [List.getElem?_eq_getElem hjl] at e ⊢
          exact congrArg some e
        have hv : σ[j]? = some (some v) := by
          have e := Option.some.inj h2
          dsimp only at e
          cases es : σ[j]? with
          | none => rw [es] at e; cases e
          | some o => rw [es] at e; rw [show o = some v from e]
        have hfl' : scope.names.lookup x = some .free := by
          refine of_decide_eq_true (List.all_eq_true.mp O.free x ?_)
          exact List.mem_of_getElem? (i := i - n) (by rw [List.getElem?_drop, show n + (i - n) = i by omega]; exact h1)
        have hfx : (x, NameKind.free) ∈ scope.names := PySem.mem_of_lookup hfl'
        have hkX := of_decide_eq_true (List.all_eq_true.mp O.seen _ hfx) rfl
        obtain ⟨mX, hnX, hlX⟩ := I.loc
        obtain ⟨u, ru, lu⟩ := hlX j x v hx hv (hkX.elim (fun z => .inr (.inl z)) fun z => .inr (.inr z))
        refine ⟨u, ru, .inr ⟨?_, ?_⟩⟩
        · exact relabel_free hfl'
        · obtain ⟨c, hc⟩ := Option.isSome_iff_exists.mp (closOf_has (cells := X.env.cells) (acc := []) (.inl hfx))
          refine ⟨c, hc, ?_⟩
          rcases lu with ⟨k, _⟩ | ⟨_, c', hc', z⟩
          · rcases hkX with q | q
            · rw [show X.env.kindOf x = _ from k] at q; cases q
            · rw [show X.env.kindOf x = _ from k] at q; cases q
          · have := lk x c hc
            rw [hc'] at this
            cases this
            obtain ⟨o, ho, hd⟩ := z
            exact ⟨o, keep _ _ ho, hd⟩
  · obtain ⟨v, o, ho, hd⟩ := cne x c h
    exact ⟨v, o, keep _ _ ho, hd⟩
  · rw [List.length_append, List.length_replicate]
    unfold frσ
    have e := congrArg List.length O.names
    rw [List.length_drop, List.length_map] at e
    have := O.own
    show _ = N.length
    rw [List.length_map]
    omega
end

/-! ### the rule -/
/-- the tests of a clause -/
def PIf (Y : Cx) (ifs : List Expr) (tt : TT) : Prop :=
  ∀ (pins : List (Addr × Obj)) (s : Shared) (σ : L2.St) (H : Hp) (Q : Bool → Hp → Prop), Inv Y pins σ H s → tt σ H Q →
    wpAny (model Y.prog Y.w) Y.A (forIn ifs true fun c r => if r = true then do let ok ← isTrue c Y.env (eval c Y.env); pure (ForInStep.yield ok) else pure (ForInStep.yield r)) (TP Y pins σ Q) Y.xe s
def tTrue : TT := fun _ H Q => Q true H
theorem pif_nil {Y : Cx} : PIf Y [] tTrue := fun pins s σ H Q I h => wpAny_tests_nil ⟨H, I, h⟩
theorem pif_one {Y : Cx} {c : Expr} {tt : TT} (h : PT Y c tt) : PIf Y [c] tt := fun pins s σ H Q I q => wpAny_tests_one (h pins s σ H Q I q)
/-- a reading within a block: it may name the block's own context -/
abbrev Blk (α : Type) := Addr → List Addr → Shared → Hp → α
/-- W: turn, measure, what has been gathered, heap -/
def tComp (n : Nat) (fr : List Nat) (wi : TI) (g : Blk TG) (tt : Blk TT) (te : Blk TE) : TE := fun σ H Q => wi σ H fun J H1 => ∀ D, H1 D = none → ∀ C ex s0 H0,
  ∃ W : Nat → Nat → List V → Hp → Prop, (∃ m, W 0 m [] (upd H1 D (.lst []))) ∧ ∀ i m ys H2, W i m ys H2 → H2 D = some (.lst ys) ∧
    ((J.stop i H2 ∧ Q (.ref D) H2) ∨ (J.go i H2 ∧ ∀ x H3, J.yld i H2 x H3 → g C ex s0 H0 x (List.replicate n none ++ frσ σ fr) H3 fun σ4 H4 => σ4.drop n = frσ σ fr ∧ tt C ex s0 H0 σ4 H4 fun b H5 =>
      if b = true then te C ex s0 H0 σ4 H5 fun y H6 => H6 D = some (.lst ys) ∧ ys.length < sizeLine ∧ ∃ m', m' < m ∧ W (i + 1) m' (ys ++ [y]) (upd H6 D (.lst (ys ++ [y])))
      else ∃ m', m' < m ∧ W (i + 1) m' ys H5))
/-- a change of a record that is none of ours -/
structure Side (X : Cx) (pins : List (Addr × Obj)) (H : Hp) (C : Addr) : Prop where
  nt : H C = none
  nl : C ≠ X.env.locals
  ab : X.s₀.heap.objs.size ≤ C
  nc : ∀ x c, X.env.cells.lookup x = some c → c ≠ C
  np : ∀ p ∈ X.pn ++ pins, p.1 ≠ C
section
variable {X : Cx} {N : List Str} {n : Nat} {fr : List Nat} {scope : Scope}
theorem wpAny_noE {α : Type} {M : Model} {A : Around} {m : Sem α} {Q : α → Shared → Prop} {E : Value → Shared → Prop} {s : Shared} (h : wpAny M A m Q (fun _ _ => False) s) : wpAny M A m Q E s := wpAny_mono h (fun _ _ q => q) fun _ _ z => z.elim
/-- the block's run, then what stands behind it -/
theorem comp_run {tg iter elt : Expr} {ifs : List Expr} {pos : Pos} {g : Blk TG} {tt : Blk TT} {te : Blk TE} {pins : List (Addr × Obj)} {σ : L2.St} {H2 : Hp} {s2 : Shared} {it : Addr} {fp : List Addr} {tn : Nat → Heap → Prop} {J : It} {Q : VK}
    {RR : Value → Addr → Result → Shared → Prop} {E : Value → Shared → Prop}
    (hc : X.calm = true) (O : CompOk X N n fr scope)
    (hg : ∀ C ex s H, PG (cxComp X N scope C ex s H) tg (g C ex s H)) (ht : ∀ C ex s H, PIf (cxComp X N scope C ex s H) ifs (tt C ex s H)) (he : ∀ C ex s H, PE (cxComp X N scope C ex s H) elt (te C ex s H))
    (I2 : Inv X pins σ H2 s2) (T : Turn X.prog X.w X.K tg J fp it tn) (st2 : tn 0 s2.heap) (f2 : ∀ b ∈ fp, FpOk X pins H2 b)
    (hW : ∀ D, H2 D = none → ∀ C ex s0 H0, ∃ W : Nat → Nat → List V → Hp → Prop, (∃ m, W 0 m [] (upd H2 D (.lst []))) ∧ ∀ i m ys H2, W i m ys H2 → H2 D = some (.lst ys) ∧
      ((J.stop i H2 ∧ Q (.ref D) H2) ∨ (J.go i H2 ∧ ∀ x H3, J.yld i H2 x H3 → g C ex s0 H0 x (List.replicate n none ++ frσ σ fr) H3 fun σ4 H4 => σ4.drop n = frσ σ fr ∧ tt C ex s0 H0 σ4 H4 fun b H5 =>
        if b = true then te C ex s0 H0 σ4 H5 fun y H6 => H6 D = some (.lst ys) ∧ ys.length < sizeLine ∧ ∃ m', m' < m ∧ W (i + 1) m' (ys ++ [y]) (upd H6 D (.lst (ys ++ [y])))
        else ∃ m', m' < m ∧ W (i + 1) m' ys H5)))
    (hR : ∀ (D C : Addr) (H' : Hp) (s' : Shared), Q (.ref D) H' → (∃ m, s'.heap.Ns C m) → Side X pins H' C → Inv X pins σ H' s' → RR (.ref D) C (.ok .next) s') :
    wpAny (model X.prog X.w) X.A (newList []) (fun acc s₃ => wpAny (model X.prog X.w) X.A (newFunctionEnv scope X.env.globals (closOf X.env.cells scope.names []) [] X.env.qual none .none (some X.env)) (fun cenv s₄ =>
      codeAny (model X.prog X.w) X.A (.compStart (.ListComp elt [⟨tg, iter, ifs, 0⟩] scope pos) 0 (.ref it) acc { cenv with scope := relabel scope X.env }) (RR acc cenv.locals) s₄) E s₃) E s2 := by
  have nocell : ∀ y ∈ scope.names, y.2 ≠ .cell := fun y hy => of_decide_eq_true (List.all_eq_true.mp O.nocell y hy)
  refine wpAny_newObj_type (wpAny_newFunctionEnv nocell (by intro y hy; simp at hy) (fun h₁ hns₁ hsb₁ => ?_) O.kind)
  have hDn : H2 s2.heap.objs.size = none := I2.fresh
  have I3 : Inv X pins σ (upd H2 s2.heap.objs.size (.lst [])) { s2 with heap := s2.heap.push { cls := .type "list", data := .seq ([] : List Value).toArray }, toks := s2.toks } := I2.lnew (its := []) .nil (Nat.zero_le _)
  generalize hD : s2.heap.objs.size = D at *
  dsimp only at hns₁ hsb₁ ⊢
  generalize hs3 : s2.heap.push { cls := .type "list", dict := none, data := .seq ([] : List Value).toArray } = hp3 at *
  have k23 : ∀ b o, s2.heap.get? b = some o → hp3.get? b = some o := fun b o e => by rw [← hs3]; exact Heap.get?_push_of_some _ e
  have sz3 : hp3.objs.size = D + 1 := by rw [← hs3, Heap.size_push, hD]
  have keep : ∀ b o, hp3.get? b = some o → h₁.get? b = some o := fun b o e => hsb₁.extBut b o (Nat.ne_of_lt (Heap.lt_size e)) (Heap.get?_push_of_some _ e)
  have flt : ∀ b ∈ fp, b < D := fun b hb => by
    obtain ⟨o, ho, _⟩ := T.obj _ _ st2 b hb
    rw [← hD]
    exact Heap.lt_size ho
  have f3 : ∀ b ∈ fp, FpOk X pins (upd H2 D (.lst [])) b := fun b hb => ⟨by rw [upd_ne (Nat.ne_of_lt (flt b hb))]; exact (f2 b hb).1, (f2 b hb).2⟩
  have IY := comp_start (tk := s2.toks + ([] : List (Str × Value)).length) O I3 f3 (fun b hb => by show b < hp3.objs.size; rw [sz3]; exact Nat.lt_succ_of_lt (flt b hb)) hns₁ keep
  obtain ⟨W, ⟨m0, w0⟩, turn⟩ := hW _ hDn hp3.objs.size fp { s2 with heap := hp3, toks := s2.toks } (upd H2 D (.lst []))
  have st4 : tn 0 h₁ := T.keep _ _ _ st2 fun b hb o e => keep b o (k23 b o e)
  -- the context of the block
  generalize hY : cxComp X N scope hp3.objs.size fp { s2 with heap := hp3, toks := s2.toks } (upd H2 D (.lst [])) = Y at *
  have eEnv : Y.env = compEnvC scope (closOf X.env.cells scope.names []) hp3.objs.size X.env := by rw [← hY]; rfl
  have hgY := hg hp3.objs.size fp { s2 with heap := hp3, toks := s2.toks } (upd H2 D (.lst []))
  have htY := ht hp3.objs.size fp { s2 with heap := hp3, toks := s2.toks } (upd H2 D (.lst []))
  have heY := he hp3.objs.size fp { s2 with heap := hp3, toks := s2.toks } (upd H2 D (.lst []))
  rw [hY] at hgY htY heY
  have eP : Y.prog = X.prog := by rw [← hY]; rfl
  have eW : Y.w = X.w := by rw [← hY]; rfl
  have eK : Y.K = X.K := by rw [← hY]; rfl
  have eA : Y.A = X.A := by rw [← hY]; rfl
  have eC : Y.calm = true := by rw [← hY]; exact hc
  have eX : Y.xe = fun _ _ => False := by rw [← hY]; rfl
  have fY : ∀ {H' : Hp}, (∀ b ∈ fp, H' b = none) → ∀ b ∈ fp, FpOk Y [] H' b := fun {H'} hn b hb => by
    have h1 := IY.ok.exf b (by rw [← hY]; exact hb)
    refine ⟨hn b hb, h1.1, IY.ok.exfs b (by rw [← hY]; exact hb), .inl (by rw [← hY]; exact hb), h1.2, fun p hp => absurd hp (by rw [← hY]; simp [cxComp])⟩
  have loop : codeAny (model X.prog X.w) X.A (.compLoop (.ListComp elt [⟨tg, iter, ifs, 0⟩] scope pos) 0 (.ref it) (.ref D) (compEnvC scope (closOf X.env.cells scope.names []) hp3.objs.size X.env))
      (RR (.ref D) hp3.objs.size) { s2 with heap := h₁, toks := s2.toks + ([] : List (Str × Value)).length } := by
    refine codeAny_loop rfl (fun k s' => ∃ i ys H', Inv Y [] (List.replicate n none ++ frσ σ fr) H' s' ∧ tn i s'.heap ∧ (∀ b ∈ fp, H' b = none) ∧ W i k ys H') (fun k s5 hI => ?_) m0 ⟨0, [], _, IY, st4, fun b hb => (f3 b hb).1, w0⟩
    obtain ⟨i, ys, H5, I5, st5, fr5, w5⟩ := hI
    show wpAny _ X.A ((compTurn (.ListComp elt [⟨tg, iter, ifs, 0⟩] scope pos) 0 (.ref it) (.ref D) _).onRaise (fun x => do noteFrame x _; theTreesLotGoes x)) _ _ s5
    refine wpAny_noted ?_
    rw [compTurn_list, ← eEnv]
    refine wpAny_bind (wpAny_standAt (wpAny_bind ?_))
    obtain ⟨hDl, step⟩ := turn i k ys H5 w5
    rcases step with ⟨stop, qn⟩ | ⟨go, step⟩
    · have d := T.done Y eP eW eK eC i [] s5 _ H5 (fun _ _ => False) I5 (fY fr5) st5 stop
      rw [eA] at d
      refine wpAny_noE (thn d fun r s6 ⟨hr, I6⟩ => ?_)
      subst hr
      refine wpAny_pure ?_
      have hC : H5 hp3.objs.size = none := by have := I6.free; rw [eEnv] at this; exact this
      have hns6 : ∃ m, s6.heap.Ns hp3.objs.size m := by
        have := I6.loc
        rw [eEnv] at this
        obtain ⟨m, hm, _⟩ := this
        exact ⟨m, hm⟩
      have sd : Side X pins H5 hp3.objs.size := ⟨hC, Nat.ne_of_gt I3.lt, I3.sz, fun x c e => Nat.ne_of_lt (let ⟨v, o, ho, _⟩ := I3.cell x c e; Heap.lt_size ho), fun p hp => Nat.ne_of_lt (Heap.lt_size (I3.pin p hp).1)⟩
      refine hR D hp3.objs.size H5 s6 qn hns6 sd ?_
      have un := I6.base
      have e0 : Y.s₀.heap = hp3 := by rw [← hY]; rfl
      have eH0 : Y.H₀ = upd H2 D (.lst []) := by rw [← hY]; rfl
      have eF : Y.fs = frs X.stack := by rw [← hY]; rfl
      have eEx : Y.ex = fp := by rw [← hY]; rfl
      rw [e0, eH0, eF, eEx] at un
      have hok' : HOk X.prog X.w H5 s6.heap := by have := I6.hok; rw [eP, eW] at this; exact this
      have os6 : s6.os = s2.os := I6.os.trans (by rw [← hY]; rfl)
      exact I3.call' (s' := s6) (ch := fp) os6 un hok' I6.bare fun b hb => ⟨(f2 b hb).2.2.2.1, (f2 b hb).2.1, (f2 b hb).2.2.2.2.1, (f2 b hb).2.2.2.2.2⟩
    · have d := T.item Y eP eW eK eC i [] s5 _ H5 (fun _ _ => False) I5 (fY fr5) st5 go
      rw [eA] at d
      refine wpAny_noE (thn d fun r s6 ⟨u, hr, h6⟩ => ?_)
      subst hr
      refine wpAny_bind (wpAny_noE (thn h6 fun _ s7 ⟨x, H7, I7, r7, y7, st7, fr7⟩ => ?_))
      have I7' := I7.pinned (fY fr7) (T.obj _ _ st7)
      have g7 := hgY _ s7 _ H7 x u _ I7' r7 (step x H7 y7)
      rw [eA, eP, eW, eX] at g7
      refine wpAny_bind (wpAny_noE (thn g7 fun _ s8 ⟨σ8, H8, I8, ed, q8⟩ => ?_))
      have t8 := htY _ s8 σ8 H8 _ I8 q8
      rw [eA, eP, eW, eX] at t8
      refine wpAny_bind (wpAny_noE (thn t8 fun b s9 ⟨H9, I9, q9⟩ => ?_))
      have back : ∀ {s' : Shared} {H' : Hp} {ys' : List V} {m' : Nat}, Inv Y ([] ++ pinsAt fp s7.heap) σ8 H' s' → m' < k → W (i + 1) m' ys' H' → ∃ m, m < k ∧ ∃ i ys H', Inv Y [] (List.replicate n none ++ frσ σ fr) H' s' ∧ tn i s'.heap ∧ (∀ b ∈ fp, H' b = none) ∧ W i m ys H' := fun {s' H' ys' m'} I' hm w' => by
        refine ⟨m', hm, i + 1, ys', H', ?_, T.keep _ _ _ st7 fun b hb o e => (I'.pin (b, o) (List.mem_append_right _ (List.mem_append_right _ (mem_pinsAt hb e)))).1, fun b hb => ?_, w'⟩
        · refine (Inv.unpinned I').weak ?_ fun j v hj => ?_
          · exact IY.len.trans I'.len.symm
          · by_cases hjn : j < n
            · rw [List.getElem?_append_left (by simpa using hjn), List.getElem?_replicate, if_pos hjn] at hj
              cases hj
            · rw [List.getElem?_append_right (by simpa using hjn), List.length_replicate, ← ed, List.getElem?_drop, show n + (j - n) = j by omega] at hj
              exact hj
        · obtain ⟨o, e, d⟩ := T.obj _ _ st7 b hb
          exact (I'.pin (b, o) (List.mem_append_right _ (List.mem_append_right _ (mem_pinsAt hb e)))).2.1
      cases b with
      | false =>
        obtain ⟨m', hm, w9⟩ := q9
        exact wpAny_pure ⟨rfl, back I9 hm w9⟩
      | true =>
        have e9 := heY _ s9 σ8 H9 _ I9 q9
        rw [eA, eP, eW, eX] at e9
        refine wpAny_bind (wpAny_bind (wpAny_noE (thn e9 fun v s10 ⟨y, H10, I10, r10, hD10, hz, m', hm, w10⟩ => ?_)))
        have a10 := mt_append _ s10 σ8 H10 (.ref D) [y] (.ref D) [v] (fun _ H' => H' = upd H10 D (.lst (ys ++ [y]))) I10 rfl (.cons r10 .nil) ⟨D, ys, y, rfl, rfl, hD10, hz, rfl⟩
        rw [eA, eP, eW, eX] at a10
        refine wpAny_bind (wpAny_noE (thn a10 fun _ s11 ⟨_, H11, I11, _, e11⟩ => ?_))
        subst e11
        exact wpAny_pure (wpAny_pure ⟨rfl, back I11 hm w10⟩)
  exact codeAny_compStart_list loop (T.self _ _ _ _ _ st4 loop)
theorem pe_comp {tg iter elt : Expr} {ifs : List Expr} {pos : Pos} {wi : TI} {g : Blk TG} {tt : Blk TT} {te : Blk TE}
    (hc : X.calm = true) (O : CompOk X N n fr scope) (hi : PI X tg iter wi)
    (hg : ∀ C ex s H, PG (cxComp X N scope C ex s H) tg (g C ex s H)) (ht : ∀ C ex s H, PIf (cxComp X N scope C ex s H) ifs (tt C ex s H)) (he : ∀ C ex s H, PE (cxComp X N scope C ex s H) elt (te C ex s H))
    (hs : ∀ x, foldedSetIterable iter X.env x = pure x := by intro _; rfl) :
    PE X (.ListComp elt [⟨tg, iter, ifs, 0⟩] scope pos) (tComp n fr wi g tt te) := by
  intro pins s σ H Q I h
  rw [eval_ListComp]
  refine wpAny_comprehension_free (use := none) rfl hs (closureFor_eq (O.cells I)) O.kind (fun y hy => of_decide_eq_true (List.all_eq_true.mp O.loc y hy)) (thn (hi pins s σ H _ I h) fun v s1 h1 => thn h1 fun itv s2 h2 => ?_)
  obtain ⟨it, fp, tn, J, H2, e, I2, T, st2, f2, hW⟩ := h2
  subst e
  refine comp_run (RR := fun acc C => compPost (model X.prog X.w) X.A X.xe none (EP X pins σ Q) acc C) hc O hg ht he I2 T st2 f2 hW ?_
  intro D C H' s' q ⟨m, hm⟩ sd inv
  exact ⟨m, hm, fun h' hs' => ⟨.ref D, H', inv.turned (t' := s'.toks) (it := C) (fun b o hb e => hs'.extBut b o hb e) sd.nt sd.nl (.inr sd.ab) sd.nc sd.np, rfl, q⟩⟩
/-- name = [.. for ..], the name a plain local -/
theorem ps_setComp {i : Nat} {x : Str} {px : Pos} {tg iter elt : Expr} {ifs : List Expr} {pos spos : Pos} {wi : TI} {g : Blk TG} {tt : Blk TT} {te : Blk TE}
    (hN : X.N.Nodup) (hx : X.N[i]? = some x) (hk : X.env.scope.names.lookup x = some .local)
    (hc : X.calm = true) (O : CompOk X N n fr scope) (hi : PI X tg iter wi)
    (hg : ∀ C ex s H, PG (cxComp X N scope C ex s H) tg (g C ex s H)) (ht : ∀ C ex s H, PIf (cxComp X N scope C ex s H) ifs (tt C ex s H)) (he : ∀ C ex s H, PE (cxComp X N scope C ex s H) elt (te C ex s H))
    (hsw : swapsWith (.ListComp elt [⟨tg, iter, ifs, 0⟩] scope pos) (some (.Name x px)) spos.line X.env = pure true := by rfl)
    (hs : ∀ x, foldedSetIterable iter X.env x = pure x := by intro _; rfl) :
    PS X (.Assign [.Name x px] (.ListComp elt [⟨tg, iter, ifs, 0⟩] scope pos) spos) (tAsg (tComp n fr wi g tt te) (gName i)) := by
  intro pins s σ H D I h
  rw [exec_Assign_Name_used _ _ _ _ hsw]
  refine wpAny_bind (wpAny_standAt (wpAny_bind ?_))
  show wpAny _ X.A (do let _ ← comprehension (.ListComp elt [⟨tg, iter, ifs, 0⟩] scope pos) scope X.env _ (newList []) false (eval iter X.env) (some (assign (.Name x px) X.env))) _ _ s
  refine wpAny_bind (wpAny_mono (wpAny_comprehension_free (use := some (assign (.Name x px) X.env)) (Q := fun _ s' => SP X pins D .next s') rfl hs (closureFor_eq (O.cells I)) O.kind (fun y hy => of_decide_eq_true (List.all_eq_true.mp O.loc y hy))
    (thn (hi pins s σ H _ I h) fun v s1 h1 => thn h1 fun itv s2 h2 => ?_)) (fun _ s' hq => wpAny_pure (wpAny_pure hq)) fun _ _ e => e)
  obtain ⟨it, fp, tn, J, H2, e, I2, T, st2, f2, hW⟩ := h2
  subst e
  refine comp_run (Q := fun x H1 => gName i x σ H1 D.nx) (RR := fun acc C => compPost (model X.prog X.w) X.A X.xe (some (assign (.Name x px) X.env)) (fun _ s' => SP X pins D .next s') acc C) hc O hg ht he I2 T st2 f2 hW ?_
  intro Dl C H' s' q ⟨m, hm⟩ sd inv
  show wpAny _ X.A (assign (.Name x px) X.env (.ref Dl)) _ _ _
  refine wpAny_assign_Name (store_ok2 (i := i) (v := .ref Dl) inv hN hx (.inl hk) rfl (fun s6 I6 ⟨a, hsb, ha⟩ => ?_) (.inr hk))
  have hCa : C ≠ a := by
    rcases ha with z | z
    · rw [z]; exact sd.nl
    · exact fun e => sd.nc x a z e.symm
  refine ⟨m, hm.sameBut hsb hCa, fun h' hs' => ?_⟩
  refine ⟨_, H', I6.turned (t' := s6.toks) (it := C) (fun b o hb e => hs'.extBut b o hb e) sd.nt sd.nl (.inr sd.ab) sd.nc sd.np, q⟩
end
end S

namespace S
open PySem PySem.Spec PyProof.Rows L2
open PySem.AutoSeq1 (wpAny_loadPart')

/-! ### an iterator over a list (true) or a tuple (false), at the heap -/
def ItB (b : Bool) (h : Heap) (it a : Addr) (i : Nat) : Prop := match b with | true => h.IsListIter it a i | false => h.IsTupleIter it a i
def SeB (b : Bool) (h : Heap) (a : Addr) (items : Array Value) : Prop := match b with | true => h.IsList a items | false => h.IsTuple a items
def SqB (b : Bool) (K : PySem.W.Frag) (H : Hp) (a : Addr) (xs : List V) : Prop := match b with | true => SqL K H a xs | false => SqT K H a xs
theorem ItB.at {b : Bool} {h h' : Heap} {it a : Addr} {i : Nat} (x : ItB b h it a i) (k : ∀ o, h.get? it = some o → h'.get? it = some o) : ItB b h' it a i := by
  cases b with
  | true => obtain ⟨o, ho, r⟩ := x; exact ⟨o, k o ho, r⟩
  | false => obtain ⟨o, ho, r⟩ := x; exact ⟨o, k o ho, r⟩
theorem ItB.obj {b : Bool} {h : Heap} {it a : Addr} {i : Nat} (x : ItB b h it a i) : ∃ o, h.get? it = some o ∧ ∀ v, o.data ≠ .cell v := by
  cases b with
  | true => obtain ⟨o, ho, c, d⟩ := x; exact ⟨o, ho, fun v z => by rw [d] at z; cases z⟩
  | false => obtain ⟨o, ho, c, d⟩ := x; exact ⟨o, ho, fun v z => by rw [d] at z; cases z⟩
theorem SeB.at {b : Bool} {h h' : Heap} {a : Addr} {items : Array Value} (x : SeB b h a items) (k : ∀ o, h.get? a = some o → h'.get? a = some o) : SeB b h' a items := by
  cases b with
  | true => obtain ⟨o, ho, r⟩ := x; exact ⟨o, k o ho, r⟩
  | false => obtain ⟨o, ho, r⟩ := x; exact ⟨o, k o ho, r⟩
theorem SeB.obj {b : Bool} {h : Heap} {a : Addr} {items : Array Value} (x : SeB b h a items) : ∃ o, h.get? a = some o := by
  cases b with
  | true => obtain ⟨o, ho, r⟩ := x; exact ⟨o, ho⟩
  | false => obtain ⟨o, ho, r⟩ := x; exact ⟨o, ho⟩
section
variable {X : Cx} {pins : List (Addr × Obj)} {σ : L2.St} {H : Hp} {s : Shared} {a : Addr} {xs ys : List V} {b : Bool}
theorem seB (I : Inv X pins σ H s) (h : SqB b X.K H a xs) : ∃ its : List Value, Vals xs its ∧ SeB b s.heap a its.toArray ∧ xs.length ≤ sizeLine := by
  cases b with
  | true => obtain ⟨its, r, p, z⟩ := I.list h; exact ⟨its, r, p.isList, z⟩
  | false => obtain ⟨its, r, p, z⟩ := I.tuple h; exact ⟨its, r, p, z⟩
theorem seB_inj (I : Inv X pins σ H s) (h : SqB b X.K H a xs) (h' : SqB b X.K H a ys) : xs = ys := by
  cases b with
  | true => exact I.list_inj h h'
  | false => exact I.tuple_inj h h'
end
section
variable {prog : Program} {w : World} {A : Around} {E : Value → Shared → Prop} {s : Shared}
theorem nextOf_tuple_item {it t : Addr} {i : Nat} {items} {x : Value} {Q : Value → Shared → Prop} (hit : s.heap.IsTupleIter it t i)
    (ht : s.heap.IsTuple t items) (hx : items[i]? = some x)
    (hQ : ∀ h', h'.IsTupleIter it t (i + 1) → Heap.SameBut it s.heap h' → Q x { s with heap := h' }) :
    wpAny (model prog w) A (Builtin.SmallTypes.nextOf (.ref it)) Q E s := by
  obtain ⟨o, ho, hc, hd⟩ := id hit
  obtain ⟨ol, hol, _, nl, hdl⟩ := ht
  unfold Builtin.SmallTypes.nextOf
  refine wpAny_bind (wpAny_callSpecial?_slot (name := Str.ofString "__next__") hit.typeIs F.slot_tuple_iterator_next
    (wpAny_call_entry F.slot_tuple_iterator_next hit.typeIs F.entry_tuple_iterator_next ?_ (F.args_tuple_iterator_next_1 _)))
  show wpAny _ _ (field (.ref it) 0 >>= _) _ _ s
  refine wpAny_bind (wpAny_field ho hd (x := .ref t) rfl ?_)
  show wpAny _ _ (if (Value.ref t == Value.none) = true then _ else _) _ _ s
  rw [if_neg (show ¬ ((Value.ref t == Value.none) = true) from Bool.false_ne_true)]
  show wpAny _ _ (field (.ref it) 1 >>= _) _ _ s
  refine wpAny_bind (wpAny_field ho hd (x := .int i 0) rfl ?_)
  show wpAny _ _ (seqItems? (.ref t) >>= _) _ _ s
  refine wpAny_bind (wpAny_seqItems hol hdl ?_)
  simp only [Int.toNat_natCast, hx]
  refine wpAny_bind (wpAny_setField ho hd (by simp) (wpAny_pure ⟨x, rfl, wpAny_pure (hQ _ ?_ (Heap.SameBut.update ..))⟩))
  exact ⟨_, Heap.get?_update_self _ ho (Obj.isFreed_of_fields (Obj.data_mapFields hd _)), (Obj.cls_mapFields ..).trans hc, by
    rw [Obj.data_mapFields hd]; simp [rawInt]⟩
theorem nextOf_tuple_end {it t : Addr} {i : Nat} {items} {Q : Value → Shared → Prop} (hh : A.handled = none)
    (hit : s.heap.IsTupleIter it t i) (ht : s.heap.IsTuple t items) (hx : items[i]? = none)
    (hE : ∀ h' e, Heap.ExtBut it s.heap h' → (∃ o, h'.get? e = some o ∧ o.cls = .type "StopIteration") → E (.ref e) { s with heap := h' }) :
    wpAny (model prog w) A (Builtin.SmallTypes.nextOf (.ref it)) Q E s := by
  obtain ⟨o, ho, hc, hd⟩ := id hit
  obtain ⟨ol, hol, _, nl, hdl⟩ := ht
  unfold Builtin.SmallTypes.nextOf
  refine wpAny_bind (wpAny_callSpecial?_slot (name := Str.ofString "__next__") hit.typeIs F.slot_tuple_iterator_next
    (wpAny_call_entry F.slot_tuple_iterator_next hit.typeIs F.entry_tuple_iterator_next ?_ (F.args_tuple_iterator_next_1 _)))
  show wpAny _ _ (field (.ref it) 0 >>= _) _ _ s
  refine wpAny_bind (wpAny_field ho hd (x := .ref t) rfl ?_)
  show wpAny _ _ (if (Value.ref t == Value.none) = true then _ else _) _ _ s
  rw [if_neg (show ¬ ((Value.ref t == Value.none) = true) from Bool.false_ne_true)]
  show wpAny _ _ (field (.ref it) 1 >>= _) _ _ s
  refine wpAny_bind (wpAny_field ho hd (x := .int i 0) rfl ?_)
  show wpAny _ _ (seqItems? (.ref t) >>= _) _ _ s
  refine wpAny_bind (wpAny_seqItems hol hdl ?_)
  simp only [Int.toNat_natCast, hx]
  refine wpAny_bind (wpAny_rule (wpAny_bind (wpAny_setField ho hd (by simp) ?_)))
  show wpAny _ _ (newExc (.type "StopIteration") [] >>= _) _ _ _
  refine wpAny_bind ?_
  simp only [newExc, newTuple]
  refine wpAny_bind (wpAny_newObj_type ?_ (by size_fits))
  refine wpAny_bind (m := firstArgMember _ _) (wpAny_of_eq (a := Value.none) (by first | rfl | (simp only [firstArgMember]; rfl)) ?_)
  refine wpAny_newObj_type ?_ (by size_fits)
  simp only [raiseNew]
  refine wpAny_bind (wpAny_handled ?_)
  first | rw [show A.in1.handled = none from hh] | rw [hh]
  refine wpAny_bind (wpAny_pure (wpAny_throw ?_))
  exact hE _ _ (((Heap.SameBut.update ..).extBut.push _).push _) ⟨_, Heap.get?_push_size _ rfl, rfl⟩
theorem nextB_item {b : Bool} {it a : Addr} {i : Nat} {items} {x : Value} {Q : Value → Shared → Prop} (hit : ItB b s.heap it a i) (hl : SeB b s.heap a items) (hx : items[i]? = some x)
    (hQ : ∀ h', ItB b h' it a (i + 1) → Heap.SameBut it s.heap h' → Q x { s with heap := h' }) : wpAny (model prog w) A (Builtin.SmallTypes.nextOf (.ref it)) Q E s := by
  cases b with
  | true => exact wpAny_nextOf_list_item hit hl hx hQ
  | false => exact nextOf_tuple_item hit hl hx hQ
theorem nextB_end {b : Bool} {it a : Addr} {i : Nat} {items} {Q : Value → Shared → Prop} (hh : A.handled = none) (hit : ItB b s.heap it a i) (hl : SeB b s.heap a items) (hx : items[i]? = none)
    (hE : ∀ h' e, Heap.ExtBut it s.heap h' → (∃ o, h'.get? e = some o ∧ o.cls = .type "StopIteration") → E (.ref e) { s with heap := h' }) :
    wpAny (model prog w) A (Builtin.SmallTypes.nextOf (.ref it)) Q E s := by
  cases b with
  | true => exact wpAny_nextOf_list_end hh hit hl hx hE
  | false => exact nextOf_tuple_end hh hit hl hx hE
end
theorem drawsB {prog : Program} {w : World} {A : Around} (hh : A.handled = none) (b : Bool) (it a : Addr) (hne : a ≠ it) (items : Array Value) :
    Draws prog w A it [it, a] items.size (fun i x => items[i]? = some x) (fun i h => ItB b h it a i ∧ SeB b h a items) where
  live := fun i h hst => by obtain ⟨o, ho, _⟩ := hst.1.obj; exact ⟨o, ho⟩
  frame := fun i h h' hst hk => ⟨hst.1.at fun o e => hk _ (by simp) o e, hst.2.at fun o e => hk _ (by simp) o e⟩
  item := fun i s Q E hi hst hQ => nextB_item hst.1 hst.2 (Array.getElem?_eq_getElem hi) fun h' hit' hs' => hQ _ h' s.toks (Array.getElem?_eq_getElem hi) ⟨hit', hst.2.at fun o e => (hs'.2 _ hne).trans e⟩ hs'
  done := fun s Q E hst hE => nextB_end hh hst.1 hst.2 (by simp) hE
/-- several untracked records have turned, one new object is laid -/
theorem Inv_turnedNew {X : Cx} {pins : List (Addr × Obj)} {σ : L2.St} {H : Hp} {s : Shared} {h' : Heap} {t' : Nat} {ch : List Addr} {a : Addr} {o : HO} (I : Inv X pins σ H s) (hf : ∀ b ∈ ch, FpOk X pins H b)
    (k : ∀ b o, b ∉ ch → s.heap.get? b = some o → h'.get? b = some o) (th : ∀ b ∈ ch, ∃ o, h'.get? b = some o) (ha : s.heap.objs.size ≤ a) (new : ObjOk X.prog X.w (upd H a o) h' a o) :
    Inv X pins σ (upd H a o) { s with heap := h', toks := t' } := by
  have hna : H a = none := I.hok.fresh ha
  have same : Same H (upd H a o) := Same.new hna o
  refine I.step (g' := s.gens) (d' := s.drawn) (ch := ch) (fun b hb => ⟨(hf b hb).2.2.2.1, (hf b hb).2.1, (hf b hb).2.2.2.2.1, (hf b hb).2.2.2.2.2⟩) (fun b u _ _ hc e _ => k b u hc e) (fun b u _ _ hc e _ => ⟨u.slots, k b u hc e⟩)
    (fun b u hc e n => by rw [upd_ne (Nat.ne_of_lt (Nat.lt_of_lt_of_le (Heap.lt_size e) ha))]; exact n) (fun b u hc e => ⟨u, k b u hc e⟩) (fun b xs e => same _ _ e) (fun b u v e => same _ _ e) (fun b ps e => ⟨#[], by rw [same _ _ e]; simp⟩) (fun m hm => ?_) (fun b u e => ?_) I.bare
  · obtain ⟨ob, es, ep, ho, r⟩ := hm
    exact ⟨ob, es, ep, k _ ob (fun z => (hf _ z).2.1 rfl) ho, r⟩
  · by_cases hb : b = a
    · subst hb; rw [upd_same] at e; cases e; exact new
    · rw [upd_ne hb] at e
      refine (I.hok b u e).stay (fun c v hc q => k c v ?_ q) (fun _ q => same _ _ q) fun _ _ q => same _ _ q
      intro z
      rcases hc with q | q
      · rw [q] at z; rw [(hf b z).1] at e; cases e
      · rw [(hf c z).1] at q; cases q

/-! ### enumerate(list or tuple), unpacked -/
def ItE (b : Bool) (K : PySem.W.Frag) (a : Addr) : It :=
  ⟨fun i H => ∃ xs x, SqB b K H a xs ∧ xs[i]? = some x, fun i H v H' => ∃ p x, (∀ xs, SqB b K H a xs → xs[i]? = some x) ∧ H p = none ∧ v = .ref p ∧ H' = upd H p (.tup [.int i, x]), fun i H => ∃ xs, SqB b K H a xs ∧ xs.length ≤ i⟩
theorem sq_small2 : (2 : Nat) ≤ sizeLine := by decide
theorem turn_enum {P : Program} {w : World} {K : PySem.W.Frag} {elts : List Expr} {k : Nat} {pos : Pos} (b : Bool) (a e it : Addr) (hae : a ≠ it) (hei : e ≠ it) (hea : e ≠ a) :
    Turn P w K (.Tuple elts k pos) (ItE b K a) [e, it] e (fun i h => (∃ old, IsEnum h e it i old) ∧ ItB b h it a i) where
  mem := by simp
  obj := fun i h st c hc => by
    rcases List.mem_cons.mp hc with rfl | hc
    · obtain ⟨old, z⟩ := st.1
      exact ⟨_, z, fun v q => by cases q⟩
    · obtain rfl : c = it := by simpa using hc
      exact st.2.obj
  keep := fun i h h' st kk => by
    obtain ⟨⟨old, z⟩, y⟩ := st
    exact ⟨⟨old, kk e (by simp) _ z⟩, y.at fun o q => kk it (by simp) o q⟩
  item := by
    intro X hP hw hK hc i pins s σ H E I hf st hg
    subst hP hw hK
    obtain ⟨⟨old, he⟩, hit⟩ := st
    obtain ⟨xs, x, hq, hx⟩ := hg
    obtain ⟨its, rv, p, hz⟩ := seB I hq
    obtain ⟨u, hu, ru⟩ := rv.get hx
    have hh := I.ok.hd hc
    have hi : i < its.toArray.size := by have := (List.getElem?_eq_some_iff.mp hu).1; simpa using this
    refine wpAny_pyNext_enum_itemD (drawsB (A := X.A.in1) hh b it a hae its.toArray) he ⟨hit, p⟩ hi hei (by simp only [List.mem_cons, List.not_mem_nil, or_false, not_or]; exact ⟨hei, hea⟩) fun x' h' tk hP ho hst hT hsz hk => ?_
    have ex : x' = u := by
      have hP' : its[i]? = some x' := by simpa using hP
      rw [hu] at hP'
      exact (Option.some.inj hP').symm
    subst ex
    refine ⟨_, rfl, wpAny_letOwnedTupleGo_enum ho fun h'' he'' hs'' => ?_⟩
    have helt : e < s.heap.objs.size := Heap.lt_size he
    have hilt : it < s.heap.objs.size := by obtain ⟨o, z, _⟩ := hit.obj; exact Heap.lt_size z
    have hT'' : h''.get? s.heap.objs.size = some { cls := .type "tuple", data := .seq #[.int i tk, x'] } := (hs''.2 _ (Nat.ne_of_gt helt)).trans hT
    refine ⟨.ref s.heap.objs.size, upd H s.heap.objs.size (.tup [.int i, x]), ?_, rfl, ⟨_, x, fun ys hy => by rw [seB_inj I hy hq]; exact hx, I.fresh, rfl, rfl⟩, ⟨⟨x', by simpa using he''⟩, hst.1.at fun o q => (hs''.2 _ hei.symm).trans q⟩, fun c hc => ?_⟩
    · refine Inv_turnedNew (s := s) (t' := tk + 1) (ch := [e, it]) I hf (fun c o hcn q => (hs''.2 c (fun z => hcn (by simp [z]))).trans (hk c o (fun z => hcn (by simp [z])) (fun z => hcn (by simp [z])) q)) (fun c hc => ?_) (Nat.le_refl _) ⟨sq_small2, [.int i tk, x'], .cons ⟨tk, rfl⟩ (.cons ru .nil), ⟨_, hT'', rfl, _, rfl⟩⟩
      rcases List.mem_cons.mp hc with rfl | hc
      · exact ⟨_, he''⟩
      · obtain rfl : c = it := by simpa using hc
        obtain ⟨o, z, _⟩ := hst.1.obj
        exact ⟨o, (hs''.2 _ hei.symm).trans z⟩
    · have hlt : c < s.heap.objs.size := by
        rcases List.mem_cons.mp hc with rfl | hc
        · exact helt
        · obtain rfl : c = it := by simpa using hc
          exact hilt
      rw [upd_ne (Nat.ne_of_lt hlt)]
      exact (hf c hc).1
  done := by
    intro X hP hw hK hc i pins s σ H E I hf st hg
    subst hP hw hK
    obtain ⟨⟨old, he⟩, hit⟩ := st
    obtain ⟨xs, hq, hx⟩ := hg
    obtain ⟨its, rv, p, hz⟩ := seB I hq
    have hh := I.ok.hd hc
    have hl := rv.length
    obtain ⟨f0, f1, f2, f3, f4, f5⟩ := hf it (by simp)
    have hT : s.TypeIs (.ref e) "enumerate" := ⟨_, he, rfl⟩
    unfold pyNext
    refine wpAny_bind (wpAny_attempt (wpAny_callSpecial?_slot (name := Str.ofString "__next__") hT F.slot_enumerate_next (wpAny_call_entry F.slot_enumerate_next hT F.entry_enumerate_next ?_ (F.args_enumerate_next_1 _))))
    show wpAny _ _ (field (.ref e) 2 >>= _) _ _ _
    refine wpAny_bind (wpAny_field he rfl (x := .ref it) rfl ?_)
    refine wpAny_bind (nextB_end (A := X.A.in1) hh hit p (by simp; omega) fun h' y he' hx' => ?_)
    obtain ⟨o, ho, hcl⟩ := hx'
    refine wpAny_bind (wpAny_isInstance (T := "StopIteration") (b := true) ⟨o, ho, hcl⟩ isSubtype_stop ?_)
    exact wpAny_pure ⟨rfl, I.turned (t' := s.toks) (fun c o hb e => he' c o hb e) f0 f1 f3 f4 f5⟩
  self := fun _ _ _ _ _ st h => by
    obtain ⟨⟨old, he⟩, _⟩ := st
    exact wpAny_pyIter_enum he h
theorem meets_enum_T (l : Addr) (items : Array Value) (n : Nat) (dct : Option Addr) (sl : Array (Option Value)) :
    Meets (Builtin.«enumerate.__new__» ⟨[.type "enumerate", .ref l], []⟩) (fun _ R s => s.heap.get? l = some { cls := .type "tuple", dict := dct, data := .seq items n, slots := sl } ∧
      R (.ok (.ret (.ref (s.heap.push { cls := .type "tuple_iterator", data := .fields #[.ref l, .int 0 0] }).objs.size)))
        { s with heap := (s.heap.push { cls := .type "tuple_iterator", data := .fields #[.ref l, .int 0 0] }).push { cls := .type "enumerate", data := .fields #[.none, .bool false, .ref s.heap.objs.size, rawInt 0, .none, .none] } }) :=
  .of_wp fun prog w A R s h => by
    obtain ⟨hp, g, d, tk, os⟩ := s; obtain ⟨hl, h⟩ := h
    have hsub := sub_enumerate
    have hL : Heap.IsTuple (Shared.heap ⟨hp, g, d, tk, os⟩) l items := ⟨_, hl, rfl, n, rfl⟩
    wp_walk using wpAny_loadPart' hl
    refine wpAny_stack_any fun st => wpAny_pure ?_
    split
    · rename_i c _ _ _ _ _
      cases (c == Value.type "enumerate")
      · wp_walk using wpAny_loadPart' hl, wpAny_pyIter_tuple hL
        exact ⟨_, rfl, h⟩
      · wp_walk using wpAny_loadPart' hl, wpAny_pyIter_tuple hL
        exact ⟨_, rfl, h⟩
    · wp_walk using wpAny_loadPart' hl, wpAny_pyIter_tuple hL
      exact ⟨_, rfl, h⟩
theorem call_enumB {prog : Program} {w : World} {A : Around} {E : Value → Shared → Prop} {s : Shared} {b : Bool} {l : Addr} {items : Array Value} {Q : Value → Shared → Prop} (hL : SeB b s.heap l items)
    (h : ∀ h', IsEnum h' (s.heap.objs.size + 1) s.heap.objs.size 0 .none → ItB b h' s.heap.objs.size l 0 → h'.objs.size = s.heap.objs.size + 2 →
      (∀ b o, s.heap.get? b = some o → h'.get? b = some o) → Q (.ref (s.heap.objs.size + 1)) { s with heap := h' }) :
    wpAny (model prog w) A (call (.type "enumerate") [.ref l]) Q E s := by
  cases b with
  | true => exact call_enumerate_list hL h
  | false =>
    obtain ⟨⟨c, dct, dt, sl⟩, hl, hc, n, hd⟩ := hL
    replace hc : c = .type "tuple" := hc
    replace hd : dt = .seq items n := hd
    subst hc hd
    refine callType_new F.called_enumerate (by decide) (F.typeCall_enumerate_1 _) (F.newCall_enumerate_1 _) (fun obj => F.args_object_init_2 obj _) F.entry_enumerate_new
      (meets_enum_T l items n dct sl) ⟨hl, ?_⟩
    have hz : (s.heap.push { cls := .type "tuple_iterator", data := .fields #[.ref l, .int 0 0] }).objs.size = s.heap.objs.size + 1 := Heap.size_push ..
    show _ ∧ _
    rw [hz]
    have he : IsEnum ((s.heap.push { cls := .type "tuple_iterator", data := .fields #[.ref l, .int 0 0] }).push
        { cls := .type "enumerate", data := .fields #[.none, .bool false, .ref s.heap.objs.size, rawInt 0, .none, .none] }) (s.heap.objs.size + 1) s.heap.objs.size 0 .none := by
      have := Heap.get?_push_size (s.heap.push { cls := .type "tuple_iterator", data := .fields #[.ref l, .int 0 0] })
        (o := { cls := .type "enumerate", data := .fields #[.none, .bool false, .ref s.heap.objs.size, rawInt 0, .none, .none] }) rfl
      rw [hz] at this; exact this
    refine ⟨⟨_, he, rfl⟩, h _ he ⟨_, Heap.get?_push_of_some _ (Heap.get?_push_size _ rfl), rfl, rfl⟩ (by rw [Heap.size_push, hz]) fun b o x => Heap.get?_push_of_some _ (Heap.get?_push_of_some _ x)⟩
section
variable {X : Cx}
def iEnum (b : Bool) (K : PySem.W.Frag) (ta : TA) : TI := fun σ H R => ta σ H fun vs H1 => ∃ a, vs = [.ref a] ∧ (∃ xs, SqB b K H1 a xs) ∧ R (ItE b K a) H1
theorem pi_enum (b : Bool) {elts : List Expr} {k : Nat} {tpos : Pos} {a : Expr} {ta : TA} {p pos : Pos} (hg : Gl X "enumerate") (hm : X.mg "enumerate" = none) (ha : PA X [a] ta) (hs : starEach [a] X.env = [(false, eval a X.env)] := by rfl) :
    PI X (.Tuple elts k tpos) (.Call (.Name "enumerate" p) [a] [] pos) (iEnum b X.K ta) := by
  intro pins s σ H R I h
  refine Call_ (ld_blt I hg hm bt_enumerate (PyProof.Rows.callWith_type1 (thn (ha pos pins s σ H _ I h) fun us s1 ⟨vs, H1, I1, r1, q1⟩ => ?_) hs rfl))
  obtain ⟨l, e, ⟨xs, hq⟩, q⟩ := q1
  subst e
  obtain ⟨u, rfl, ru⟩ := vals1 r1
  cases (show u = Value.ref l from ru)
  obtain ⟨its, rv, p1, hz⟩ := seB I1 hq
  refine call_enumB p1 fun h' he hit hsz hk => wpAny_pyIter_enum he ?_
  have I2 : Inv X pins σ H1 { s1 with heap := h' } := I1.kept (t' := s1.toks) hk
  have hl : l < s1.heap.objs.size := by obtain ⟨o, z⟩ := p1.obj; exact Heap.lt_size z
  refine ⟨s1.heap.objs.size + 1, [s1.heap.objs.size + 1, s1.heap.objs.size], _, _, H1, rfl, I2, turn_enum b l _ _ (Nat.ne_of_lt hl) (Nat.succ_ne_self _) (Nat.ne_of_gt (Nat.lt_succ_of_lt hl)), ⟨⟨_, he⟩, hit⟩, fun c hc => ?_, q⟩
  rcases List.mem_cons.mp hc with rfl | hc
  · exact I1.fpOk (Nat.le_succ _) (I1.hok.fresh (Nat.le_succ _))
  · obtain rfl : c = s1.heap.objs.size := by simpa using hc
    exact I1.fpOk (Nat.le_refl _) (I1.hok.fresh (Nat.le_refl _))
end

/-! ### zip of two, each a list or a tuple -/
theorem ItB.extBut {b : Bool} {h h' : Heap} {it a c : Addr} {i : Nat} (x : ItB b h it a i) (hs : Heap.ExtBut c h h') (hne : it ≠ c) : ItB b h' it a i := x.at fun o e => hs _ o hne e
theorem SeB.extBut {b : Bool} {h h' : Heap} {a c : Addr} {items : Array Value} (x : SeB b h a items) (hs : Heap.ExtBut c h h') (hne : a ≠ c) : SeB b h' a items := x.at fun o e => hs _ o hne e
section
variable {prog : Program} {w : World} {A : Around} {E : Value → Shared → Prop} {s : Shared}
open PySem
theorem zipB_item {c1 c2 : Bool} {z TI TO i1 i2 l1 l2 : Addr} {k1 k2 : Nat} {xs ys : Array Value} {x y a b : Value} {Q : Value → Shared → Prop} (D : ZipApart z TI TO i1 i2 l1 l2)
    (hz : IsZip s.heap z TI TO .none) (hTI : IsPair s.heap TI (.ref i1) (.ref i2)) (hTO : IsPair s.heap TO a b)
    (h1 : ItB c1 s.heap i1 l1 k1) (h2 : ItB c2 s.heap i2 l2 k2) (hl1 : SeB c1 s.heap l1 xs) (hl2 : SeB c2 s.heap l2 ys) (hx : xs[k1]? = some x) (hy : ys[k2]? = some y)
    (hQ : ∀ h', IsZip h' z TI TO (rawInt s.heap.objs.size) → IsPair h' TO x y → ItB c1 h' i1 l1 (k1 + 1) → ItB c2 h' i2 l2 (k2 + 1) → IsPair h' s.heap.objs.size x y → h'.objs.size = s.heap.objs.size + 1 →
      (∀ c o, c ≠ z → c ≠ TO → c ≠ i1 → c ≠ i2 → s.heap.get? c = some o → h'.get? c = some o) → Q (.ref s.heap.objs.size) { s with heap := h' }) :
    wpAny (model prog w) A (Builtin.«zip.__next__» ⟨[.ref z], []⟩) (fun fin s' => ∃ v, fin = .done (.ret v) ∧ Q v s') E s := by
  show wpAny _ _ (field (.ref z) 2 >>= _) _ _ _
  refine wpAny_bind (wpAny_field hz rfl (x := .bool false) rfl ?_)
  show wpAny _ _ (field (.ref z) 3 >>= _) _ _ _
  refine wpAny_bind (wpAny_field hz rfl (x := .ref TI) rfl ?_)
  refine wpAny_bind (wpAny_seqItems hTI rfl ?_)
  show wpAny _ _ (Builtin.SmallTypes.ownedTupleIsFree (.ref z) >>= _) _ _ _
  refine wpAny_bind ?_
  unfold Builtin.SmallTypes.ownedTupleIsFree
  refine wpAny_bind (wpAny_field hz rfl (x := .none) rfl (wpAny_pure ?_))
  simp only [if_true]
  refine wpAny_bind (wpAny_rule ?_)
  refine wpAny_bind (wpAny_field hz rfl (x := .ref TO) rfl ?_)
  refine wpAny_bind (wpAny_setField_rec hz (by simp) fun h₁ hz₁ hs₁ => ?_)
  replace hz₁ : IsZip h₁ z TI TO .ellipsis := hz₁
  refine wpAny_bind ?_
  simp only [List.zipIdx_cons, List.zipIdx_nil, List.forIn_cons, List.forIn_nil]

  refine wpAny_bind (wpAny_bind (wpAny_onRaise ?_))
  show wpAny _ _ (Builtin.SmallTypes.nextOf (.ref i1) >>= _) _ _ _
  refine wpAny_bind (nextB_item (h1.extBut hs₁.extBut D.i1z) (hl1.extBut hs₁.extBut D.l1z) hx fun h₂ h1₂ hs₂ => wpAny_pure ?_)
  have hTO₂ : IsPair h₂ TO a b := hs₂.extBut _ _ D.TOi1 (hs₁.extBut _ _ D.TOz hTO)
  refine wpAny_bind (wpAny_seqItems hTO₂ rfl ?_)
  refine wpAny_bind (wpAny_updateSeq_pair hTO₂ fun h₃ hTO₃ hs₃ => ?_)
  replace hTO₃ : IsPair h₃ TO x b := hTO₃
  refine wpAny_bind (wpAny_letGo (wpAny_pure ?_))

  refine wpAny_bind (wpAny_bind (wpAny_onRaise ?_))
  show wpAny _ _ (Builtin.SmallTypes.nextOf (.ref i2) >>= _) _ _ _
  refine wpAny_bind (nextB_item (((h2.extBut hs₁.extBut D.i2z).extBut hs₂.extBut D.i12.symm).extBut hs₃.extBut D.TOi2.symm)
    (((hl2.extBut hs₁.extBut D.l2z).extBut hs₂.extBut D.l2i1).extBut hs₃.extBut D.l2TO) hy fun h₄ h2₄ hs₄ => wpAny_pure ?_)
  have hTO₄ : IsPair h₄ TO x b := hs₄.extBut _ _ D.TOi2 hTO₃
  refine wpAny_bind (wpAny_seqItems hTO₄ rfl ?_)
  refine wpAny_bind (wpAny_updateSeq_pair hTO₄ fun h₅ hTO₅ hs₅ => ?_)
  replace hTO₅ : IsPair h₅ TO x y := hTO₅
  refine wpAny_bind (wpAny_letGo (wpAny_pure (wpAny_pure ?_)))

  refine wpAny_bind (wpAny_seqItems hTO₅ rfl ?_)
  refine wpAny_bind (wpAny_newTuple ?_)
  have hsz : h₅.objs.size = s.heap.objs.size := by rw [hs₅.1, hs₄.1, hs₃.1, hs₂.1, hs₁.1]
  have hz₅ : IsZip h₅ z TI TO .ellipsis := hs₅.extBut _ _ D.TOz.symm (hs₄.extBut _ _ D.i2z.symm (hs₃.extBut _ _ D.TOz.symm (hs₂.extBut _ _ D.i1z.symm hz₁)))
  have hk₅ : ∀ c o, c ≠ z → c ≠ TO → c ≠ i1 → c ≠ i2 → s.heap.get? c = some o → h₅.get? c = some o := fun c o c1 c2 c3 c4 e =>
    hs₅.extBut _ _ c2 (hs₄.extBut _ _ c4 (hs₃.extBut _ _ c2 (hs₂.extBut _ _ c3 (hs₁.extBut _ _ c1 e))))
  have h1₅ : ItB c1 h₅ i1 l1 (k1 + 1) := ((h1₂.extBut hs₃.extBut D.TOi1.symm).extBut hs₄.extBut D.i12).extBut hs₅.extBut D.TOi1.symm
  have h2₅ : ItB c2 h₅ i2 l2 (k2 + 1) := h2₄.extBut hs₅.extBut D.TOi2.symm
  have hzlt : z < h₅.objs.size := Heap.lt_size hz₅
  have hTOlt : TO < h₅.objs.size := Heap.lt_size hTO₅
  have hi1lt : i1 < h₅.objs.size := by obtain ⟨_, e, _⟩ := h1₅.obj; exact Heap.lt_size e
  have hi2lt : i2 < h₅.objs.size := by obtain ⟨_, e, _⟩ := h2₅.obj; exact Heap.lt_size e
  show wpAny _ _ (Builtin.SmallTypes.ownedTupleHandOut (.ref z) (.ref h₅.objs.size) >>= _) _ _ _
  refine wpAny_bind ?_
  unfold Builtin.SmallTypes.ownedTupleHandOut
  have hz₆ : IsZip (h₅.push { cls := .type "tuple", data := .seq #[x, y] }) z TI TO .ellipsis := Heap.get?_push_of_some _ hz₅
  refine wpAny_bind (wpAny_setField_rec hz₆ (by simp) fun h₇ hz₇ hs₇ => ?_)
  replace hz₇ : IsZip h₇ z TI TO (rawInt h₅.objs.size) := hz₇
  refine wpAny_setField_rec hz₇ (by simp) fun h₈ hz₈ hs₈ => ?_
  replace hz₈ : IsZip h₈ z TI TO (rawInt h₅.objs.size) := hz₈
  have up : ∀ c o, c ≠ z → h₅.get? c = some o → h₈.get? c = some o := fun c o c1 e => hs₈.extBut _ _ c1 (hs₇.extBut _ _ c1 (Heap.get?_push_of_some _ e))
  have hT₈ : IsPair h₈ h₅.objs.size x y := hs₈.extBut _ _ (Nat.ne_of_gt hzlt) (hs₇.extBut _ _ (Nat.ne_of_gt hzlt) (Heap.get?_push_size _ rfl))
  have hz8 : h₈.objs.size = h₅.objs.size + 1 := by rw [hs₈.1, hs₇.1, Heap.size_push]
  rw [hsz] at hz₈ hT₈ hz8
  refine wpAny_pure ⟨_, rfl, ?_⟩
  show Q (.ref h₅.objs.size) _
  rw [hsz]
  exact hQ h₈ hz₈ (up _ _ D.TOz hTO₅) (h1₅.at fun o e => up _ o D.i1z e) (h2₅.at fun o e => up _ o D.i2z e) hT₈ hz8 fun c o c1 c2 c3 c4 e => up c o c1 (hk₅ c o c1 c2 c3 c4 e)

theorem zipB_end {c1 c2 : Bool} {z TI TO i1 i2 l1 l2 : Addr} {k1 k2 : Nat} {xs ys : Array Value} {a b : Value} {Q : Fin → Shared → Prop} (hh : A.handled = none) (D : ZipApart z TI TO i1 i2 l1 l2)
    (hz : IsZip s.heap z TI TO .none) (hTI : IsPair s.heap TI (.ref i1) (.ref i2)) (hTO : IsPair s.heap TO a b)
    (h1 : ItB c1 s.heap i1 l1 k1) (h2 : ItB c2 s.heap i2 l2 k2) (hl1 : SeB c1 s.heap l1 xs) (hl2 : SeB c2 s.heap l2 ys) (hend : xs[k1]? = none ∨ ys[k2]? = none)
    (hE : ∀ h' e, (∀ c o, c ≠ z → c ≠ TO → c ≠ i1 → c ≠ i2 → s.heap.get? c = some o → h'.get? c = some o) → (∃ o, h'.get? e = some o ∧ o.cls = .type "StopIteration") → E (.ref e) { s with heap := h' }) :
    wpAny (model prog w) A (Builtin.«zip.__next__» ⟨[.ref z], []⟩) Q E s := by
  show wpAny _ _ (field (.ref z) 2 >>= _) _ _ _
  refine wpAny_bind (wpAny_field hz rfl (x := .bool false) rfl ?_)
  show wpAny _ _ (field (.ref z) 3 >>= _) _ _ _
  refine wpAny_bind (wpAny_field hz rfl (x := .ref TI) rfl ?_)
  refine wpAny_bind (wpAny_seqItems hTI rfl ?_)
  show wpAny _ _ (Builtin.SmallTypes.ownedTupleIsFree (.ref z) >>= _) _ _ _
  refine wpAny_bind ?_
  unfold Builtin.SmallTypes.ownedTupleIsFree
  refine wpAny_bind (wpAny_field hz rfl (x := .none) rfl (wpAny_pure ?_))
  simp only [if_true]
  refine wpAny_bind (wpAny_rule ?_)
  refine wpAny_bind (wpAny_field hz rfl (x := .ref TO) rfl ?_)
  refine wpAny_bind (wpAny_setField_rec hz (by simp) fun h₁ hz₁ hs₁ => ?_)
  replace hz₁ : IsZip h₁ z TI TO .ellipsis := hz₁
  refine wpAny_bind ?_
  simp only [List.zipIdx_cons, List.zipIdx_nil, List.forIn_cons, List.forIn_nil]
  refine wpAny_bind (wpAny_bind (wpAny_onRaise ?_))
  show wpAny _ _ (Builtin.SmallTypes.nextOf (.ref i1) >>= _) _ _ _
  cases hx : xs[k1]? with
  | none =>
    refine wpAny_bind (nextB_end hh (h1.extBut hs₁.extBut D.i1z) (hl1.extBut hs₁.extBut D.l1z) hx fun h₂ e hs₂ he => ?_)
    obtain ⟨oe, hoe, hce⟩ := he
    have hz₂ : IsZip h₂ z TI TO .ellipsis := hs₂ _ _ D.i1z.symm hz₁
    have hez : e ≠ z := fun x => by subst x; rw [hz₂] at hoe; cases hoe; simp at hce
    refine wpAny_setField_rec hz₂ (by simp) fun h₃ _ hs₃ => hE h₃ e (fun c o c1 _ c3 _ x => hs₃.extBut _ _ c1 (hs₂ _ _ c3 (hs₁.extBut _ _ c1 x))) ⟨oe, hs₃.extBut _ _ hez hoe, hce⟩
  | some x =>
    have hy : ys[k2]? = none := by rcases hend with h | h; rw [hx] at h; cases h; exact h
    refine wpAny_bind (nextB_item (h1.extBut hs₁.extBut D.i1z) (hl1.extBut hs₁.extBut D.l1z) hx fun h₂ h1₂ hs₂ => wpAny_pure ?_)
    have hTO₂ : IsPair h₂ TO a b := hs₂.extBut _ _ D.TOi1 (hs₁.extBut _ _ D.TOz hTO)
    refine wpAny_bind (wpAny_seqItems hTO₂ rfl ?_)
    refine wpAny_bind (wpAny_updateSeq_pair hTO₂ fun h₃ hTO₃ hs₃ => ?_)
    refine wpAny_bind (wpAny_letGo (wpAny_pure ?_))
    refine wpAny_bind (wpAny_bind (wpAny_onRaise ?_))
    show wpAny _ _ (Builtin.SmallTypes.nextOf (.ref i2) >>= _) _ _ _
    refine wpAny_bind (nextB_end hh (((h2.extBut hs₁.extBut D.i2z).extBut hs₂.extBut D.i12.symm).extBut hs₃.extBut D.TOi2.symm)
      (((hl2.extBut hs₁.extBut D.l2z).extBut hs₂.extBut D.l2i1).extBut hs₃.extBut D.l2TO) hy fun h₄ e hs₄ he => ?_)
    obtain ⟨oe, hoe, hce⟩ := he
    have hz₄ : IsZip h₄ z TI TO .ellipsis := hs₄ _ _ D.i2z.symm (hs₃.extBut _ _ D.TOz.symm (hs₂.extBut _ _ D.i1z.symm hz₁))
    have hez : e ≠ z := fun x => by subst x; rw [hz₄] at hoe; cases hoe; simp at hce
    refine wpAny_setField_rec hz₄ (by simp) fun h₅ _ hs₅ => hE h₅ e (fun c o c1 c2 c3 c4 x => hs₅.extBut _ _ c1 (hs₄ _ _ c4 (hs₃.extBut _ _ c2 (hs₂.extBut _ _ c3 (hs₁.extBut _ _ c1 x))))) ⟨oe, hs₅.extBut _ _ hez hoe, hce⟩

end
def ItZ (c1 c2 : Bool) (K : PySem.W.Frag) (a1 a2 : Addr) : It :=
  ⟨fun i H => ∃ xs ys x y, SqB c1 K H a1 xs ∧ SqB c2 K H a2 ys ∧ xs[i]? = some x ∧ ys[i]? = some y,
   fun i H v H' => ∃ p x y, (∀ xs, SqB c1 K H a1 xs → xs[i]? = some x) ∧ (∀ ys, SqB c2 K H a2 ys → ys[i]? = some y) ∧ H p = none ∧ v = .ref p ∧ H' = upd H p (.tup [x, y]),
   fun i H => ∃ xs ys, SqB c1 K H a1 xs ∧ SqB c2 K H a2 ys ∧ (xs.length ≤ i ∨ ys.length ≤ i)⟩
theorem turn_zip {P : Program} {w : World} {K : PySem.W.Frag} {elts : List Expr} {k : Nat} {pos : Pos} (c1 c2 : Bool) (z TI TO i1 i2 l1 l2 : Addr) (D : ZipApart z TI TO i1 i2 l1 l2) :
    Turn P w K (.Tuple elts k pos) (ItZ c1 c2 K l1 l2) [z, TI, TO, i1, i2] z (fun i h => IsZip h z TI TO .none ∧ IsPair h TI (.ref i1) (.ref i2) ∧ (∃ a b, IsPair h TO a b) ∧ ItB c1 h i1 l1 i ∧ ItB c2 h i2 l2 i) where
  mem := by simp
  obj := fun i h st c hc => by
    obtain ⟨hz, hTI, ⟨a, b, hTO⟩, h1, h2⟩ := st
    simp only [List.mem_cons, List.not_mem_nil, or_false] at hc
    rcases hc with rfl | rfl | rfl | rfl | rfl
    · exact ⟨_, hz, fun v q => by cases q⟩
    · exact ⟨_, hTI, fun v q => by cases q⟩
    · exact ⟨_, hTO, fun v q => by cases q⟩
    · exact h1.obj
    · exact h2.obj
  keep := fun i h h' st kk => by
    obtain ⟨hz, hTI, ⟨a, b, hTO⟩, h1, h2⟩ := st
    exact ⟨kk z (by simp) _ hz, kk TI (by simp) _ hTI, ⟨a, b, kk TO (by simp) _ hTO⟩, h1.at fun o e => kk i1 (by simp) o e, h2.at fun o e => kk i2 (by simp) o e⟩
  item := by
    intro X hP hw hK hc i pins s σ H E I hf st hg
    subst hP hw hK
    obtain ⟨hz, hTI, ⟨a, b, hTO⟩, h1, h2⟩ := st
    obtain ⟨xs, ys, x, y, hq1, hq2, hx, hy⟩ := hg
    obtain ⟨its1, rv1, p1, _⟩ := seB I hq1
    obtain ⟨its2, rv2, p2, _⟩ := seB I hq2
    obtain ⟨u1, hu1, ru1⟩ := rv1.get hx
    obtain ⟨u2, hu2, ru2⟩ := rv2.get hy
    have hT : s.TypeIs (.ref z) "zip" := ⟨_, hz, rfl⟩
    unfold pyNext
    refine wpAny_bind (wpAny_attempt (wpAny_callSpecial?_slot (name := Str.ofString "__next__") hT F.slot_zip_next (wpAny_call_entry F.slot_zip_next hT F.entry_zip_next
      (zipB_item D hz hTI hTO h1 h2 p1 p2 (x := u1) (y := u2) (by simpa using hu1) (by simpa using hu2) fun h' a1 a2 a3 a4 a5 a6 hk => wpAny_pure ?_) (F.args_zip_next_1 _))))
    refine ⟨_, rfl, wpAny_letOwnedTupleGo_zip a1 fun h'' hz'' hs'' => ?_⟩
    have lt : ∀ {c o}, s.heap.get? c = some o → c < s.heap.objs.size := fun e => Heap.lt_size e
    have i1lt : i1 < s.heap.objs.size := by obtain ⟨_, e, _⟩ := h1.obj; exact lt e
    have i2lt : i2 < s.heap.objs.size := by obtain ⟨_, e, _⟩ := h2.obj; exact lt e
    have hTI' : IsPair h' TI (.ref i1) (.ref i2) := hk _ _ D.TIz D.TITO D.TIi1 D.TIi2 hTI
    have up : ∀ c o, c ≠ z → h'.get? c = some o → h''.get? c = some o := fun c o hc e => (hs''.2 c hc).trans e
    have hT'' : h''.get? s.heap.objs.size = some { cls := .type "tuple", data := .seq #[u1, u2] } := up _ _ (Nat.ne_of_gt (lt hz)) a5
    have st'' : IsZip h'' z TI TO .none ∧ IsPair h'' TI (.ref i1) (.ref i2) ∧ (∃ a b, IsPair h'' TO a b) ∧ ItB c1 h'' i1 l1 (i + 1) ∧ ItB c2 h'' i2 l2 (i + 1) :=
      ⟨hz'', up _ _ D.TIz hTI', ⟨u1, u2, up _ _ D.TOz a2⟩, a3.at fun o e => up _ o D.i1z e, a4.at fun o e => up _ o D.i2z e⟩
    refine ⟨.ref s.heap.objs.size, upd H s.heap.objs.size (.tup [x, y]), ?_, rfl, ⟨_, x, y, fun zs hy => by rw [seB_inj I hy hq1]; exact hx, fun zs hy' => by rw [seB_inj I hy' hq2]; exact hy, I.fresh, rfl, rfl⟩, st'', fun c hc => ?_⟩
    · refine Inv_turnedNew (s := s) (t' := s.toks) (ch := [z, TI, TO, i1, i2]) I hf (fun c o hcn q => ?_) (fun c hc => ?_) (Nat.le_refl _) ⟨sq_small2, [u1, u2], .cons ru1 (.cons ru2 .nil), ⟨_, hT'', rfl, _, rfl⟩⟩
      · have n1 : c ≠ z := fun e => hcn (by simp [e])
        exact up c o n1 (hk c o n1 (fun e => hcn (by simp [e])) (fun e => hcn (by simp [e])) (fun e => hcn (by simp [e])) q)
      · obtain ⟨z1, z2, ⟨_, _, z3⟩, z4, z5⟩ := st''
        simp only [List.mem_cons, List.not_mem_nil, or_false] at hc
        rcases hc with rfl | rfl | rfl | rfl | rfl
        · exact ⟨_, z1⟩
        · exact ⟨_, z2⟩
        · exact ⟨_, z3⟩
        · obtain ⟨o, e, _⟩ := z4.obj; exact ⟨o, e⟩
        · obtain ⟨o, e, _⟩ := z5.obj; exact ⟨o, e⟩
    · have hlt : c < s.heap.objs.size := by
        simp only [List.mem_cons, List.not_mem_nil, or_false] at hc
        rcases hc with rfl | rfl | rfl | rfl | rfl
        · exact lt hz
        · exact lt hTI
        · exact lt hTO
        · exact i1lt
        · exact i2lt
      rw [upd_ne (Nat.ne_of_lt hlt)]
      exact (hf c hc).1
  done := by
    intro X hP hw hK hc i pins s σ H E I hf st hg
    subst hP hw hK
    obtain ⟨hz, hTI, ⟨a, b, hTO⟩, h1, h2⟩ := st
    obtain ⟨xs, ys, hq1, hq2, hend⟩ := hg
    obtain ⟨its1, rv1, p1, _⟩ := seB I hq1
    obtain ⟨its2, rv2, p2, _⟩ := seB I hq2
    have e1 := rv1.length
    have e2 := rv2.length
    have hh := I.ok.hd hc
    have hT : s.TypeIs (.ref z) "zip" := ⟨_, hz, rfl⟩
    unfold pyNext
    refine wpAny_bind (wpAny_attempt (wpAny_callSpecial?_slot (name := Str.ofString "__next__") hT F.slot_zip_next (wpAny_call_entry F.slot_zip_next hT F.entry_zip_next
      (zipB_end (A := X.A.in1) hh D hz hTI hTO h1 h2 p1 p2 (by simp only [List.getElem?_toArray]; rcases hend with q | q; exact .inl (List.getElem?_eq_none (by omega)); exact .inr (List.getElem?_eq_none (by omega))) fun h' e hk he => ?_) (F.args_zip_next_1 _))))
    obtain ⟨o, ho, hcl⟩ := he
    refine wpAny_bind (wpAny_isInstance (T := "StopIteration") (b := true) ⟨o, ho, hcl⟩ isSubtype_stop ?_)
    refine wpAny_pure ⟨rfl, ?_⟩
    refine I.step (g' := s.gens) (d' := s.drawn) (t' := s.toks) (H' := H) (ch := [z, TO, i1, i2]) (fun b hb => ?_) (fun b u _ _ hcn e _ => hk b u (fun q => hcn (by simp [q])) (fun q => hcn (by simp [q])) (fun q => hcn (by simp [q])) (fun q => hcn (by simp [q])) e)
      (fun b u _ _ hcn e _ => ⟨u.slots, hk b u (fun q => hcn (by simp [q])) (fun q => hcn (by simp [q])) (fun q => hcn (by simp [q])) (fun q => hcn (by simp [q])) e⟩) (fun _ _ _ _ n => n)
      (fun b u hcn e => ⟨u, hk b u (fun q => hcn (by simp [q])) (fun q => hcn (by simp [q])) (fun q => hcn (by simp [q])) (fun q => hcn (by simp [q])) e⟩) (fun _ _ e => e) (fun _ _ _ e => e) (fun b ps e => ⟨#[], by rw [e]; simp⟩) (fun m hm => ?_) (fun b u e => ?_) I.bare
    · have hb' : b ∈ [z, TI, TO, i1, i2] := by
        simp only [List.mem_cons, List.not_mem_nil, or_false] at hb ⊢
        rcases hb with q | q | q | q <;> simp [q]
      exact ⟨(hf b hb').2.2.2.1, (hf b hb').2.1, (hf b hb').2.2.2.2.1, (hf b hb').2.2.2.2.2⟩
    · obtain ⟨ob, es, ep, ho, r⟩ := hm
      exact ⟨ob, es, ep, hk _ ob (fun q => (hf z (by simp)).2.1 q.symm) (fun q => (hf TO (by simp)).2.1 q.symm) (fun q => (hf i1 (by simp)).2.1 q.symm) (fun q => (hf i2 (by simp)).2.1 q.symm) ho, r⟩
    · refine (I.hok b u e).stay (fun c v hcc q => ?_) (fun _ q => q) fun _ _ q => q
      have nf : ∀ d ∈ [z, TI, TO, i1, i2], c ≠ d := fun d hd z => by
        subst z
        rcases hcc with q | q
        · rw [← q, (hf _ hd).1] at e; cases e
        · rw [(hf _ hd).1] at q; cases q
      exact hk c v (nf z (by simp)) (nf TO (by simp)) (nf i1 (by simp)) (nf i2 (by simp)) q
  self := fun _ _ _ _ _ st h => wpAny_pyIter_zip st.1 h

def itObj (b : Bool) (l : Addr) : Obj := { cls := .type (match b with | true => "list_iterator" | false => "tuple_iterator"), data := .fields #[.ref l, .int 0 0] }
abbrev zB1 (c1 : Bool) (h : Heap) (l1 : Addr) : Heap := h.push (itObj c1 l1)
abbrev zB2 (c1 c2 : Bool) (h : Heap) (l1 l2 : Addr) : Heap := (zB1 c1 h l1).push (itObj c2 l2)
abbrev zB3 (c1 c2 : Bool) (h : Heap) (l1 l2 : Addr) : Heap := (zB2 c1 c2 h l1 l2).push { cls := .type "tuple", data := .seq #[.ref h.objs.size, .ref (zB1 c1 h l1).objs.size] }
abbrev zB4 (c1 c2 : Bool) (h : Heap) (l1 l2 : Addr) : Heap := (zB3 c1 c2 h l1 l2).push { cls := .type "tuple", data := .seq #[.none, .none] }
abbrev zB5 (c1 c2 : Bool) (h : Heap) (l1 l2 : Addr) : Heap := (zB4 c1 c2 h l1 l2).push { cls := .type "zip", data := .fields #[.none, .bool false, .bool false, .ref (zB2 c1 c2 h l1 l2).objs.size, .ref (zB3 c1 c2 h l1 l2).objs.size] }
theorem SeB.push {b : Bool} {h : Heap} {a : Addr} {items : Array Value} (x : SeB b h a items) (o : Obj) : SeB b (h.push o) a items := x.at fun _ e => Heap.get?_push_of_some _ e
theorem meets_zipB (c1 c2 : Bool) (l1 l2 : Addr) (xs ys : Array Value) :
    Meets (Builtin.«zip.__new__» ⟨[.type "zip", .ref l1, .ref l2], []⟩) (fun _ R s => SeB c1 s.heap l1 xs ∧ SeB c2 s.heap l2 ys ∧
      R (.ok (.ret (.ref (zB4 c1 c2 s.heap l1 l2).objs.size))) { s with heap := zB5 c1 c2 s.heap l1 l2 }) :=
  .of_wp fun prog w A R s h => by
    obtain ⟨hp, g, d, tk, os⟩ := s; obtain ⟨hl1, hl2, h⟩ := h
    have hsub := sub_zip
    cases c1 with
    | true =>
      have hL1 : Heap.IsList (Shared.heap ⟨hp, g, d, tk, os⟩) l1 xs := hl1
      cases c2 with
      | true =>
        have hL2 : Heap.IsList (Shared.heap ⟨hp.push { cls := .type "list_iterator", data := .fields #[.ref l1, .int 0 0] }, g, d, tk, os⟩) l2 ys := SeB.push (b := true) hl2 _
        wp_walk using wpAny_pyIter_list hL1, wpAny_pyIter_list hL2
        exact ⟨_, rfl, h⟩
      | false =>
        have hL2 : Heap.IsTuple (Shared.heap ⟨hp.push { cls := .type "list_iterator", data := .fields #[.ref l1, .int 0 0] }, g, d, tk, os⟩) l2 ys := SeB.push (b := false) hl2 _
        wp_walk using wpAny_pyIter_list hL1, wpAny_pyIter_tuple hL2
        exact ⟨_, rfl, h⟩
    | false =>
      have hL1 : Heap.IsTuple (Shared.heap ⟨hp, g, d, tk, os⟩) l1 xs := hl1
      cases c2 with
      | true =>
        have hL2 : Heap.IsList (Shared.heap ⟨hp.push { cls := .type "tuple_iterator", data := .fields #[.ref l1, .int 0 0] }, g, d, tk, os⟩) l2 ys := SeB.push (b := true) hl2 _
        wp_walk using wpAny_pyIter_tuple hL1, wpAny_pyIter_list hL2
        exact ⟨_, rfl, h⟩
      | false =>
        have hL2 : Heap.IsTuple (Shared.heap ⟨hp.push { cls := .type "tuple_iterator", data := .fields #[.ref l1, .int 0 0] }, g, d, tk, os⟩) l2 ys := SeB.push (b := false) hl2 _
        wp_walk using wpAny_pyIter_tuple hL1, wpAny_pyIter_tuple hL2
        exact ⟨_, rfl, h⟩
theorem itObj_at {b : Bool} {h : Heap} {it l : Addr} (e : h.get? it = some (itObj b l)) : ItB b h it l 0 := by
  cases b with
  | true => exact ⟨_, e, rfl, rfl⟩
  | false => exact ⟨_, e, rfl, rfl⟩
theorem itObj_free (b : Bool) (l : Addr) : (itObj b l).isFreed = false := by cases b <;> rfl
theorem call_zipB {prog : Program} {w : World} {A : Around} {E : Value → Shared → Prop} {s : Shared} {c1 c2 : Bool} {l1 l2 : Addr} {xs ys : Array Value} {Q : Value → Shared → Prop} (hl1 : SeB c1 s.heap l1 xs) (hl2 : SeB c2 s.heap l2 ys)
    (h : ∀ h', IsZip h' (s.heap.objs.size + 4) (s.heap.objs.size + 2) (s.heap.objs.size + 3) .none → IsPair h' (s.heap.objs.size + 2) (.ref s.heap.objs.size) (.ref (s.heap.objs.size + 1)) →
      IsPair h' (s.heap.objs.size + 3) .none .none → ItB c1 h' s.heap.objs.size l1 0 → ItB c2 h' (s.heap.objs.size + 1) l2 0 →
      (∀ c o, s.heap.get? c = some o → h'.get? c = some o) → Q (.ref (s.heap.objs.size + 4)) { s with heap := h' }) :
    wpAny (model prog w) A (call (.type "zip") [.ref l1, .ref l2]) Q E s := by
  refine callType_new F.called_zip (by decide) (F.typeCall_zip_2 _ _) (F.newCall_zip_2 _ _) (fun obj => F.args_object_init_3 obj _ _) F.entry_zip_new
    (meets_zipB c1 c2 l1 l2 xs ys) ⟨hl1, hl2, ?_⟩
  have z1 : (zB1 c1 s.heap l1).objs.size = s.heap.objs.size + 1 := Heap.size_push ..
  have z2 : (zB2 c1 c2 s.heap l1 l2).objs.size = s.heap.objs.size + 2 := by rw [Heap.size_push, z1]
  have z3 : (zB3 c1 c2 s.heap l1 l2).objs.size = s.heap.objs.size + 3 := by rw [Heap.size_push, z2]
  have z4 : (zB4 c1 c2 s.heap l1 l2).objs.size = s.heap.objs.size + 4 := by rw [Heap.size_push, z3]
  have g5 : (zB5 c1 c2 s.heap l1 l2).get? (zB4 c1 c2 s.heap l1 l2).objs.size = some _ := Heap.get?_push_size _ rfl
  have g4 : (zB5 c1 c2 s.heap l1 l2).get? (zB3 c1 c2 s.heap l1 l2).objs.size = some _ := Heap.get?_push_of_some _ (Heap.get?_push_size _ rfl)
  have g3 : (zB5 c1 c2 s.heap l1 l2).get? (zB2 c1 c2 s.heap l1 l2).objs.size = some _ := Heap.get?_push_of_some _ (Heap.get?_push_of_some _ (Heap.get?_push_size _ rfl))
  have g2 : (zB5 c1 c2 s.heap l1 l2).get? (zB1 c1 s.heap l1).objs.size = some _ := Heap.get?_push_of_some _ (Heap.get?_push_of_some _ (Heap.get?_push_of_some _ (Heap.get?_push_size _ (itObj_free c2 l2))))
  have g1 : (zB5 c1 c2 s.heap l1 l2).get? s.heap.objs.size = some _ := Heap.get?_push_of_some _ (Heap.get?_push_of_some _ (Heap.get?_push_of_some _ (Heap.get?_push_of_some _ (Heap.get?_push_size _ (itObj_free c1 l1)))))
  show _ ∧ _
  rw [z2, z3, z4] at g5
  rw [z1, z2] at g3
  rw [z3] at g4
  rw [z1] at g2
  rw [z4]
  exact ⟨⟨_, g5, rfl⟩, h _ g5 g3 g4 (itObj_at g1) (itObj_at g2) fun c o x => Heap.get?_push_of_some _ (Heap.get?_push_of_some _ (Heap.get?_push_of_some _ (Heap.get?_push_of_some _ (Heap.get?_push_of_some _ x))))⟩
section
variable {X : Cx}
def iZip (c1 c2 : Bool) (K : PySem.W.Frag) (ta : TA) : TI := fun σ H R => ta σ H fun vs H1 => ∃ a1 a2, vs = [.ref a1, .ref a2] ∧ (∃ xs, SqB c1 K H1 a1 xs) ∧ (∃ ys, SqB c2 K H1 a2 ys) ∧ R (ItZ c1 c2 K a1 a2) H1
theorem pi_zip (c1 c2 : Bool) {elts : List Expr} {k : Nat} {tpos : Pos} {a b : Expr} {ta : TA} {p pos : Pos} (hg : Gl X "zip") (hm : X.mg "zip" = none) (ha : PA X [a, b] ta) (hs : starEach [a, b] X.env = [(false, eval a X.env), (false, eval b X.env)] := by rfl) (hs2 : starEach [b] X.env = [(false, eval b X.env)] := by rfl) :
    PI X (.Tuple elts k tpos) (.Call (.Name "zip" p) [a, b] [] pos) (iZip c1 c2 X.K ta) := by
  intro pins s σ H R I h
  refine Call_ (ld_blt I hg hm bt_zip (PyProof.Rows.callWith_type1 (thn (ha pos pins s σ H _ I h) fun us s1 ⟨vs, H1, I1, r1, q1⟩ => ?_) (by rw [hs, hs2]) (by rw [hs2]; rfl)))
  obtain ⟨l1, l2, e, ⟨xs, hq1⟩, ⟨ys, hq2⟩, q⟩ := q1
  subst e
  obtain ⟨u1, u2, rfl, ru1, ru2⟩ := vals2 r1
  cases (show u1 = Value.ref l1 from ru1)
  cases (show u2 = Value.ref l2 from ru2)
  obtain ⟨its1, rv1, p1, _⟩ := seB I1 hq1
  obtain ⟨its2, rv2, p2, _⟩ := seB I1 hq2
  have lt1 : l1 < s1.heap.objs.size := by obtain ⟨o, z⟩ := p1.obj; exact Heap.lt_size z
  have lt2 : l2 < s1.heap.objs.size := by obtain ⟨o, z⟩ := p2.obj; exact Heap.lt_size z
  refine call_zipB p1 p2 fun h' a1 a2 a3 a4 a5 hk => wpAny_pyIter_zip a1 ?_
  have I2 : Inv X pins σ H1 { s1 with heap := h' } := I1.kept (t' := s1.toks) hk
  refine ⟨s1.heap.objs.size + 4, [s1.heap.objs.size + 4, s1.heap.objs.size + 2, s1.heap.objs.size + 3, s1.heap.objs.size, s1.heap.objs.size + 1], _, _, H1, rfl, I2, turn_zip c1 c2 _ _ _ _ _ l1 l2 (zipApart_new lt1 lt2), ⟨a1, a2, ⟨_, _, a3⟩, a4, a5⟩, fun c hc => ?_, q⟩
  have hle : s1.heap.objs.size ≤ c := by
    simp only [List.mem_cons, List.not_mem_nil, or_false] at hc
    rcases hc with z | z | z | z | z <;> rw [z] <;> first | exact Nat.le_add_right _ _ | exact Nat.le_refl _
  exact I1.fpOk hle (I1.hok.fresh hle)
end
end S

namespace S
open PySem PySem.Spec PyProof.Rows L2
/-! ### lists of fractions, by place -/
def FrsAt (H : Hp) (qs : List Rat) (vs : List V) : Prop := qs.length = vs.length ∧ ∀ (i : Nat) (q : Rat) (v : V), qs[i]? = some q → vs[i]? = some v → FrAt H q v
theorem FrsAt.nil (H : Hp) : FrsAt H [] [] := ⟨rfl, fun i q v h _ => by simp at h⟩
theorem FrsAt.mono {H H' : Hp} {qs : List Rat} {vs : List V} (h : FrsAt H qs vs) (e : Same H H') : FrsAt H' qs vs := ⟨h.1, fun i q v a b => (h.2 i q v a b).mono e⟩
theorem FrsAt.snoc {H : Hp} {qs : List Rat} {vs : List V} {q : Rat} {v : V} (h : FrsAt H qs vs) (g : FrAt H q v) : FrsAt H (qs ++ [q]) (vs ++ [v]) := by
  refine ⟨by simp [h.1], fun i a b ha hb => ?_⟩
  rw [List.getElem?_append] at ha hb
  rw [← h.1] at hb
  split at ha
  · rename_i c
    rw [if_pos c] at hb
    exact h.2 i a b ha hb
  · rename_i c
    rw [if_neg c] at hb
    cases e : i - qs.length with
    | zero =>
      rw [e] at ha hb
      cases (show q = a by simpa using ha)
      cases (show v = b by simpa using hb)
      exact g
    | succ n => rw [e] at ha; simp at ha
theorem FrAt.updL {H : Hp} {q : Rat} {v : V} {l : Addr} {xs : List V} {o : HO} (h : FrAt H q v) (hl : H l = some (.lst xs)) : FrAt (upd H l o) q v := by
  obtain ⟨p, a, b⟩ := h
  refine ⟨p, a, ?_⟩
  rw [upd_ne (ne_of b hl (by intro z; cases z))]
  exact b
theorem FrsAt.updL {H : Hp} {qs : List Rat} {vs : List V} {l : Addr} {xs : List V} {o : HO} (h : FrsAt H qs vs) (hl : H l = some (.lst xs)) : FrsAt (upd H l o) qs vs := ⟨h.1, fun i q v a b => (h.2 i q v a b).updL hl⟩
theorem FrsAt.get {H : Hp} {qs : List Rat} {vs : List V} (h : FrsAt H qs vs) {i : Nat} {q : Rat} (e : qs[i]? = some q) : ∃ v, vs[i]? = some v ∧ FrAt H q v := by
  have hi : i < qs.length := (List.getElem?_eq_some_iff.mp e).1
  have hv : i < vs.length := by rw [← h.1]; exact hi
  exact ⟨vs[i], List.getElem?_eq_getElem hv, h.2 i q _ e (List.getElem?_eq_getElem hv)⟩
theorem atI_of {α : Type} {xs : List α} {k : Int} {v : α} (h0 : 0 ≤ k) (h : xs[k.toNat]? = some v) : atI xs k = some v := by
  have ek : k = ((k.toNat : Nat) : Int) := by omega
  rw [ek]
  exact atI_nat h
theorem eqv_fr (p q : Rat) : PyData.eqv (frD p) (frD q) = decide (p = q) := by
  unfold frD
  simp only [PyData.eqv, PyData.eqvAll, Bool.and_true]
  by_cases h : p = q
  · subst h; simp
  · rw [decide_eq_false h]
    by_cases h1 : p.num = q.num
    · have h2 : p.den ≠ q.den := fun z => h (Rat.ext h1 z)
      have h3 : ((p.den : Int) == (q.den : Int)) = false := beq_eq_false_iff_ne.mpr (fun z => h2 (Int.ofNat.inj z))
      rw [h3, Bool.and_false]
    · have h3 : (p.num == q.num) = false := beq_eq_false_iff_ne.mpr h1
      rw [h3, Bool.false_and]
theorem shaped_fr (p : Rat) : SeqAt.shaped (frD p) = true := by unfold frD; simp [SeqAt.shaped, PyData.canLay0, PyData.canLayAll0, PyData.depth, PyData.depthAll]
theorem frAt_int {H : Hp} {p : Addr} {n : Int} (h : H p = some (.tup [.int n, .int 1])) : FrAt H (n : Rat) (.ref p) := ⟨p, rfl, h⟩
end S

namespace S
open PySem PySem.Spec PyProof.Rows L2
/-! ### parts, corners, paths at the abstract heap -/
abbrev Corner := Rat × List Rat
def PartsAt (H : Hp) (qs : List Rat) (v : V) : Prop := ∃ a vs, v = .ref a ∧ H a = some (.tup vs) ∧ FrsAt H qs vs
def CornAt (H : Hp) (c : Corner) (v : V) : Prop := ∃ a u1 u2, v = .ref a ∧ H a = some (.tup [u1, u2]) ∧ FrAt H c.1 u1 ∧ PartsAt H c.2 u2
def CornsAt (H : Hp) (cs : List Corner) (vs : List V) : Prop := cs.length = vs.length ∧ ∀ (i : Nat) (c : Corner) (v : V), cs[i]? = some c → vs[i]? = some v → CornAt H c v
def PathAt (H : Hp) (cs : List Corner) (v : V) : Prop := ∃ a vs, v = .ref a ∧ H a = some (.lst vs) ∧ CornsAt H cs vs
section
variable {H H' : Hp} {qs : List Rat} {c : Corner} {cs : List Corner} {v : V} {vs : List V} {l : Addr} {xs : List V} {o : HO}
theorem PartsAt.mono (h : PartsAt H qs v) (e : Same H H') : PartsAt H' qs v := let ⟨a, vs, x, y, z⟩ := h; ⟨a, vs, x, e _ _ y, z.mono e⟩
theorem CornAt.mono (h : CornAt H c v) (e : Same H H') : CornAt H' c v := let ⟨a, u1, u2, x, y, z, w⟩ := h; ⟨a, u1, u2, x, e _ _ y, z.mono e, w.mono e⟩
theorem CornsAt.mono (h : CornsAt H cs vs) (e : Same H H') : CornsAt H' cs vs := ⟨h.1, fun i c v a b => (h.2 i c v a b).mono e⟩
theorem PathAt.mono (h : PathAt H cs v) (e : Same H H') : PathAt H' cs v := let ⟨a, vs, x, y, z⟩ := h; ⟨a, vs, x, e _ _ y, z.mono e⟩
theorem tup_upd {a : Addr} {ys : List V} (h : H a = some (.tup ys)) (hl : H l = some (.lst xs)) : (upd H l o) a = some (.tup ys) := by
  rw [upd_ne (ne_of h hl (by intro z; cases z))]; exact h
theorem PartsAt.updL (h : PartsAt H qs v) (hl : H l = some (.lst xs)) : PartsAt (upd H l o) qs v := let ⟨a, vs, x, y, z⟩ := h; ⟨a, vs, x, tup_upd y hl, z.updL hl⟩
theorem CornAt.updL (h : CornAt H c v) (hl : H l = some (.lst xs)) : CornAt (upd H l o) c v := let ⟨a, u1, u2, x, y, z, w⟩ := h; ⟨a, u1, u2, x, tup_upd y hl, z.updL hl, w.updL hl⟩
theorem CornsAt.updL (h : CornsAt H cs vs) (hl : H l = some (.lst xs)) : CornsAt (upd H l o) cs vs := ⟨h.1, fun i c v a b => (h.2 i c v a b).updL hl⟩
theorem CornsAt.nil : CornsAt H [] [] := ⟨rfl, fun i c v a _ => by simp at a⟩
theorem CornsAt.get {i : Nat} (h : CornsAt H cs vs) (e : cs[i]? = some c) : ∃ v, vs[i]? = some v ∧ CornAt H c v := by
  have hi : i < cs.length := (List.getElem?_eq_some_iff.mp e).1
  have hv : i < vs.length := by rw [← h.1]; exact hi
  exact ⟨vs[i], List.getElem?_eq_getElem hv, h.2 i c _ e (List.getElem?_eq_getElem hv)⟩
theorem CornsAt.get' {i : Nat} (h : CornsAt H cs vs) (e : vs[i]? = some v) : ∃ c, cs[i]? = some c ∧ CornAt H c v := by
  have hi : i < vs.length := (List.getElem?_eq_some_iff.mp e).1
  have hv : i < cs.length := by rw [h.1]; exact hi
  exact ⟨cs[i], List.getElem?_eq_getElem hv, h.2 i _ v (List.getElem?_eq_getElem hv) e⟩
end
/-- lists pointwise related: one more -/
theorem pw_snoc {α β : Type} {R : α → β → Prop} {xs : List α} {ys : List β} (hl : xs.length = ys.length) (h : ∀ (i : Nat) (x : α) (y : β), xs[i]? = some x → ys[i]? = some y → R x y) {a : α} {b : β} (g : R a b) :
    (xs ++ [a]).length = (ys ++ [b]).length ∧ ∀ (i : Nat) (x : α) (y : β), (xs ++ [a])[i]? = some x → (ys ++ [b])[i]? = some y → R x y := by
  refine ⟨by simp [hl], fun i x y hx hy => ?_⟩
  rw [List.getElem?_append] at hx hy
  rw [← hl] at hy
  split at hx
  · rename_i c
    rw [if_pos c] at hy
    exact h i x y hx hy
  · rename_i c
    rw [if_neg c] at hy
    cases e : i - xs.length with
    | zero =>
      rw [e] at hx hy
      cases (show a = x by simpa using hx)
      cases (show b = y by simpa using hy)
      exact g
    | succ n => rw [e] at hx; simp at hx
theorem CornsAt.snoc {H : Hp} {cs : List Corner} {vs : List V} {c : Corner} {v : V} (h : CornsAt H cs vs) (g : CornAt H c v) : CornsAt H (cs ++ [c]) (vs ++ [v]) := pw_snoc h.1 h.2 g
/-! ### as data -/
def partsD (qs : List Rat) : PyData := .tuple (qs.map frD)
def cornD (c : Corner) : PyData := .tuple [frD c.1, partsD c.2]
def pathD (cs : List Corner) : PyData := .list (cs.map cornD)
theorem isAll_of {H : Hp} {α : Type} {R : α → V → Prop} {f : α → PyData} (hR : ∀ a v, R a v → Is H (f a) v) : ∀ {xs : List α} {vs : List V}, xs.length = vs.length → (∀ (i : Nat) (x : α) (v : V), xs[i]? = some x → vs[i]? = some v → R x v) → IsAll H (xs.map f) vs
  | [], [], _, _ => by rw [List.map_nil, IsAll]
  | [], _ :: _, h, _ => by simp at h
  | _ :: _, [], h, _ => by simp at h
  | x :: xs, v :: vs, hl, h => by
    rw [List.map_cons, IsAll]
    exact ⟨v, vs, rfl, hR x v (h 0 x v rfl rfl), isAll_of hR (by simpa using hl) fun i a b ha hb => h (i + 1) a b (by simpa using ha) (by simpa using hb)⟩
theorem PartsAt.is {H : Hp} {qs : List Rat} {v : V} (h : PartsAt H qs v) : Is H (partsD qs) v := by
  obtain ⟨a, vs, e, x, y⟩ := h
  unfold partsD
  rw [Is]
  exact ⟨a, vs, e, x, isAll_of (R := fun q v => FrAt H q v) (fun q v z => z.is) y.1 y.2⟩
theorem CornAt.is {H : Hp} {c : Corner} {v : V} (h : CornAt H c v) : Is H (cornD c) v := by
  obtain ⟨a, u1, u2, e, x, y, z⟩ := h
  unfold cornD
  rw [Is]
  exact ⟨a, _, e, x, by rw [IsAll]; exact ⟨u1, [u2], rfl, y.is, by rw [IsAll]; exact ⟨u2, [], rfl, z.is, by rw [IsAll]⟩⟩⟩
theorem PathAt.is {H : Hp} {cs : List Corner} {v : V} (h : PathAt H cs v) : Is H (pathD cs) v := by
  obtain ⟨a, vs, e, x, y⟩ := h
  unfold pathD
  rw [Is]
  exact ⟨a, vs, e, x, isAll_of (R := fun c v => CornAt H c v) (fun q v z => z.is) y.1 y.2⟩
theorem lay_all {α : Type} {f : α → PyData} (h : ∀ a, (f a).canLay0 = true) : ∀ xs : List α, PyData.canLayAll0 (xs.map f) = true
  | [] => rfl
  | x :: xs => by rw [List.map_cons, PyData.canLayAll0, h x, lay_all h xs]; rfl
theorem dep_all {α : Type} {f : α → PyData} {n : Nat} (h : ∀ a, (f a).depth ≤ n) : ∀ xs : List α, PyData.depthAll (xs.map f) ≤ n
  | [] => by rw [List.map_nil, PyData.depthAll]; exact Nat.zero_le _
  | x :: xs => by rw [List.map_cons, PyData.depthAll]; exact Nat.max_le.mpr ⟨h x, dep_all h xs⟩
theorem lay_fr (q : Rat) : (frD q).canLay0 = true := by unfold frD; simp [PyData.canLay0, PyData.canLayAll0]
theorem dep_fr (q : Rat) : (frD q).depth ≤ 2 := by unfold frD; simp [PyData.depth, PyData.depthAll]
theorem lay_parts (qs : List Rat) : (partsD qs).canLay0 = true := by unfold partsD; rw [PyData.canLay0]; exact lay_all lay_fr qs
theorem dep_parts (qs : List Rat) : (partsD qs).depth ≤ 3 := by unfold partsD; rw [PyData.depth]; exact Nat.succ_le_succ (dep_all dep_fr qs)
theorem lay_corn (c : Corner) : (cornD c).canLay0 = true := by unfold cornD; rw [PyData.canLay0, PyData.canLayAll0, PyData.canLayAll0, PyData.canLayAll0, lay_fr, lay_parts]; rfl
theorem dep_corn (c : Corner) : (cornD c).depth ≤ 4 := by
  unfold cornD
  rw [PyData.depth, PyData.depthAll, PyData.depthAll, PyData.depthAll]
  have h1 := dep_fr c.1
  have h2 := dep_parts c.2
  omega
theorem lay_path (cs : List Corner) : (pathD cs).canLay0 = true := by unfold pathD; rw [PyData.canLay0]; exact lay_all lay_corn cs
theorem dep_path (cs : List Corner) : (pathD cs).depth ≤ 5 := by unfold pathD; rw [PyData.depth]; exact Nat.succ_le_succ (dep_all dep_corn cs)
theorem shaped_path (cs : List Corner) : SeqAt.shaped (pathD cs) = true := by
  unfold SeqAt.shaped
  rw [lay_path, decide_eq_true (Nat.le_trans (dep_path cs) (by decide))]; rfl
theorem eqv_path (cs : List Corner) : PyData.eqv (pathD cs) (pathD cs) = true := SeqAt.eqv_refl _ (lay_path cs)
/-! ### straight -/
def straight (c0 c1 c2 : Corner) : Prop := ∀ (i : Nat) (a b c : Rat), c0.2[i]? = some a → c1.2[i]? = some b → c2.2[i]? = some c → (b - a) * (c2.1 - c0.1) = (c - a) * (c1.1 - c0.1)
/-- two numbers, not in lowest terms -/
def PairAt (H : Hp) (t b : Int) (v : V) : Prop := ∃ p, v = .ref p ∧ H p = some (.tup [.int t, .int b])
theorem PairAt.mono {H H' : Hp} {t b : Int} {v : V} (h : PairAt H t b v) (e : Same H H') : PairAt H' t b v := let ⟨p, a, c⟩ := h; ⟨p, a, e _ _ c⟩
theorem gap_rat (p q : Rat) : Rat.divInt (q.num * p.den - p.num * q.den) (p.den * q.den) = q - p := by
  rw [Rat.sub_def', Int.mul_comm (p.den : Int), ← Int.natCast_mul, Rat.divInt_ofNat]
theorem cross_iff {rn rd nn nd wn wd fn fd : Int} (h1 : rd ≠ 0) (h2 : nd ≠ 0) (h3 : wd ≠ 0) (h4 : fd ≠ 0) :
    Rat.divInt rn rd * Rat.divInt fn fd = Rat.divInt wn wd * Rat.divInt nn nd ↔ rn * nd * wd * fn = wn * fd * rd * nn := by
  rw [Rat.divInt_mul_divInt, Rat.divInt_mul_divInt, Rat.divInt_eq_divInt_iff (Int.mul_ne_zero h1 h4) (Int.mul_ne_zero h3 h2)]
  have e1 : rn * fn * (wd * nd) = rn * nd * wd * fn := by grind
  have e2 : wn * nn * (rd * fd) = wn * fd * rd * nn := by grind
  rw [e1, e2]
end S

namespace S
open PySem PySem.Spec PyProof.Rows L2

/-! ### the state of a run: lists that may change (cells), and data -/
abbrev Cells := List (Addr × List PyData)
abbrev Dat := List (PyData × V)
def AllIs (G : Hp) (ds : Dat) : Prop := ∀ p ∈ ds, Is G p.1 p.2
def Has (ds : Dat) (x : PyData) (v : V) : Prop := ∀ G, AllIs G ds → Is G x v
def HasAll (ds : Dat) (xs : List PyData) (vs : List V) : Prop := ∀ G, AllIs G ds → IsAll G xs vs
/-- B: the heap at the entry; G0: the data at the entry -/
def StaG (B G0 H : Hp) (cs : Cells) (ds : Dat) (G : Hp) : Prop :=
  Same G0 G ∧ Same G H ∧ Same B H ∧ (∀ p, B p ≠ none → G p = G0 p) ∧ (∀ c ∈ cs, B c.1 = none ∧ G c.1 = none ∧ ∃ vs, H c.1 = some (.lst vs) ∧ IsAll G c.2 vs) ∧ (cs.map (·.1)).Nodup ∧ AllIs G ds
def Sta (B G0 H : Hp) (cs : Cells) (ds : Dat) : Prop := ∃ G, StaG B G0 H cs ds G
/-- what a call may do -/
structure Grow (G H G' H' : Hp) : Prop where
  h : Same H H'
  g : Same G G'
  sub : Same G' H'
  old : ∀ p, H p ≠ none → G' p = G p

theorem AllIs.mono {G G' : Hp} {ds : Dat} (h : AllIs G ds) (e : Same G G') : AllIs G' ds := fun p hp => Is.mono e _ _ (h p hp)
theorem AllIs.cons {G : Hp} {ds : Dat} {x : PyData} {v : V} (h : AllIs G ds) (g : Is G x v) : AllIs G ((x, v) :: ds) := fun p hp => by
  rcases List.mem_cons.mp hp with rfl | hp
  · exact g
  · exact h p hp
theorem Has.int {ds : Dat} {i : Int} : Has ds (.int i) (.int i) := fun _ _ => by rw [Is]
theorem Has.bl {ds : Dat} {i : Bool} : Has ds (.bool i) (.bl i) := fun _ _ => by rw [Is]
theorem Has.non {ds : Dat} : Has ds .none .non := fun _ _ => by rw [Is]
theorem Has.str {ds : Dat} {i : Str} : Has ds (.str i) (.str i) := fun _ _ => by rw [Is]
theorem Has.mem {ds : Dat} {x : PyData} {v : V} (h : (x, v) ∈ ds) : Has ds x v := fun _ a => a _ h
theorem Has.weak {ds ds' : Dat} {x : PyData} {v : V} (h : Has ds x v) (k : ∀ p ∈ ds, Has ds' p.1 p.2) : Has ds' x v := fun G a => h G fun p hp => k p hp G a
theorem Has.tail {ds : Dat} {x : PyData} {v : V} {p : PyData × V} (h : Has ds x v) : Has (p :: ds) x v := h.weak fun q hq => .mem (List.mem_cons_of_mem _ hq)
theorem HasAll.nil {ds : Dat} : HasAll ds [] [] := fun _ _ => by rw [IsAll]
theorem HasAll.cons {ds : Dat} {x : PyData} {v : V} {xs : List PyData} {vs : List V} (h : Has ds x v) (g : HasAll ds xs vs) : HasAll ds (x :: xs) (v :: vs) := fun G a => by
  rw [IsAll]; exact ⟨v, vs, rfl, h G a, g G a⟩
theorem IsAll.len {H : Hp} : ∀ {xs : List PyData} {vs : List V}, IsAll H xs vs → xs.length = vs.length
  | [], vs, h => by rw [IsAll] at h; subst h; rfl
  | x :: xs, vs, h => by
    rw [IsAll] at h
    obtain ⟨v, r, rfl, _, g⟩ := h
    rw [List.length_cons, List.length_cons, IsAll.len g]
theorem IsAll.at {H : Hp} : ∀ {xs : List PyData} {vs : List V} {i : Nat} {x : PyData}, IsAll H xs vs → xs[i]? = some x → ∃ v, vs[i]? = some v ∧ Is H x v
  | [], _, _, _, _, e => by simp at e
  | y :: xs, vs, i, x, h, e => by
    rw [IsAll] at h
    obtain ⟨v, r, rfl, h1, g⟩ := h
    cases i with
    | zero => simp at e; subst e; exact ⟨v, rfl, h1⟩
    | succ i => simpa using IsAll.at g (by simpa using e)
theorem IsAll.app {H : Hp} : ∀ {xs ys : List PyData} {vs ws : List V}, IsAll H xs vs → IsAll H ys ws → IsAll H (xs ++ ys) (vs ++ ws)
  | [], ys, vs, ws, h, g => by rw [IsAll] at h; subst h; exact g
  | x :: xs, ys, vs, ws, h, g => by
    rw [IsAll] at h
    obtain ⟨v, r, rfl, h1, h2⟩ := h
    rw [List.cons_append, List.cons_append, IsAll]
    exact ⟨v, _, rfl, h1, IsAll.app h2 g⟩
theorem isAll_iff {H : Hp} {xs : List PyData} {vs : List V} : IsAll H xs vs ↔ xs.length = vs.length ∧ ∀ (i : Nat) (x : PyData) (v : V), xs[i]? = some x → vs[i]? = some v → Is H x v := by
  constructor
  · intro h
    refine ⟨h.len, fun i x v hx hv => ?_⟩
    obtain ⟨w, hw, g⟩ := h.at hx
    rw [hv] at hw; cases hw; exact g
  · rintro ⟨h1, h2⟩
    have := isAll_of (R := fun (a : PyData) v => Is H a v) (f := id) (fun _ _ z => z) h1 h2
    simpa using this
theorem IsAll.take {H : Hp} {xs : List PyData} {vs : List V} (h : IsAll H xs vs) (n : Nat) : IsAll H (xs.take n) (vs.take n) := by
  rw [isAll_iff] at h ⊢
  refine ⟨by rw [List.length_take, List.length_take, h.1], fun i x v hx hv => ?_⟩
  rw [List.getElem?_take] at hx hv
  split at hx
  · rename_i c; rw [if_pos c] at hv; exact h.2 i x v hx hv
  · cases hx
theorem IsAll.drop {H : Hp} {xs : List PyData} {vs : List V} (h : IsAll H xs vs) (n : Nat) : IsAll H (xs.drop n) (vs.drop n) := by
  rw [isAll_iff] at h ⊢
  refine ⟨by rw [List.length_drop, List.length_drop, h.1], fun i x v hx hv => ?_⟩
  rw [List.getElem?_drop] at hx hv
  exact h.2 _ x v hx hv
theorem IsAll.set {H : Hp} {xs : List PyData} {vs : List V} {x : PyData} {v : V} (h : IsAll H xs vs) (g : Is H x v) (n : Nat) : IsAll H (xs.set n x) (vs.set n v) := by
  rw [isAll_iff] at h ⊢
  refine ⟨by rw [List.length_set, List.length_set, h.1], fun i y w hx hv => ?_⟩
  rw [List.getElem?_set] at hx hv
  rw [← h.1] at hv
  split at hx
  · rename_i c
    rw [if_pos c] at hv
    split at hx
    · rename_i c2; rw [if_pos c2] at hv; cases hx; cases hv; exact g
    · cases hx
  · rename_i c
    rw [if_neg c] at hv
    exact h.2 i y w hx hv
theorem IsAll.rev {H : Hp} {xs : List PyData} {vs : List V} (h : IsAll H xs vs) : IsAll H xs.reverse vs.reverse := by
  rw [isAll_iff] at h ⊢
  refine ⟨by rw [List.length_reverse, List.length_reverse, h.1], fun i x v hx hv => ?_⟩
  have hi : i < xs.length := by
    have := (List.getElem?_eq_some_iff.mp hx).1; rwa [List.length_reverse] at this
  rw [List.getElem?_reverse hi] at hx
  rw [List.getElem?_reverse (by omega)] at hv
  exact h.2 _ x v hx (by rw [h.1]; exact hv)

section
variable {B G0 H H' : Hp} {cs cs' : Cells} {ds ds' : Dat} {x y : PyData} {v w : V} {xs ys : List PyData} {vs : List V} {D : Addr} {p : Addr}
theorem Sta.enter {G : Hp} (e : Same G H) (h : AllIs G ds) : Sta H G H [] ds :=
  ⟨G, Same.refl _, e, Same.refl _, fun _ _ => rfl, fun c hc => absurd hc (List.not_mem_nil), List.nodup_nil, h⟩
theorem Sta.base (S : Sta B G0 H cs ds) : Same B H := let ⟨_, _, _, b, _⟩ := S; b
theorem Sta.push (S : Sta B G0 H cs ds) (h : Has ds x v) : Sta B G0 H cs ((x, v) :: ds) :=
  let ⟨G, a, b, c, d, e, f, g⟩ := S; ⟨G, a, b, c, d, e, f, g.cons (h G g)⟩
theorem Sta.weak (S : Sta B G0 H cs ds) (hc : cs'.Sublist cs) (hd : ∀ p ∈ ds', Has ds p.1 p.2) : Sta B G0 H cs' ds' :=
  let ⟨G, a, b, c, d, e, f, g⟩ := S; ⟨G, a, b, c, d, fun q hq => e q (hc.subset hq), f.sublist (hc.map _), fun p hp => hd p hp G g⟩
theorem Sta.dat (S : Sta B G0 H cs ds) (hd : ∀ p ∈ ds', Has ds p.1 p.2) : Sta B G0 H cs ds' := S.weak (List.Sublist.refl _) hd
theorem Sta.drop1 {q : PyData × V} (S : Sta B G0 H cs (q :: ds)) : Sta B G0 H cs ds := S.dat fun p hp => .mem (List.mem_cons_of_mem _ hp)
theorem Sta.dropC {q : Addr × List PyData} (S : Sta B G0 H (q :: cs) ds) : Sta B G0 H cs ds := S.weak (List.sublist_cons_self _ _) fun p hp => .mem hp
theorem Sta.permC (S : Sta B G0 H cs ds) (h : cs.Perm cs') : Sta B G0 H cs' ds :=
  let ⟨G, a, b, c, d, e, f, g⟩ := S; ⟨G, a, b, c, d, fun q hq => e q (h.mem_iff.mpr hq), (h.map _).nodup_iff.mp f, g⟩
theorem Sta.swap {c1 c2 : Addr × List PyData} (S : Sta B G0 H (c1 :: c2 :: cs) ds) : Sta B G0 H (c2 :: c1 :: cs) ds := S.permC (List.Perm.swap _ _ _)
theorem Sta.same (S : Sta B G0 H cs ds) (h : Same H H') : Sta B G0 H' cs ds :=
  let ⟨G, a, b, c, d, e, f, g⟩ := S; ⟨G, a, b.trans h, c.trans h, d, fun q hq => let ⟨x, y, vs, z, u⟩ := e q hq; ⟨x, y, vs, h _ _ z, u⟩, f, g⟩
/-- behind a call -/
theorem StaG.grow {G G' : Hp} (S : StaG B G0 H cs ds G) (h : Grow G H G' H') : StaG B G0 H' cs ds G' := by
  obtain ⟨a, b, c, d, e, f, g⟩ := S
  refine ⟨a.trans h.g, h.sub, c.trans h.h, fun p hp => ?_, fun q hq => ?_, f, g.mono h.g⟩
  · rw [h.old p fun z => ?_, d p hp]
    cases hb : B p with
    | none => exact hp hb
    | some o => rw [c _ _ hb] at z; cases z
  · obtain ⟨x, y, vs, z, u⟩ := e q hq
    exact ⟨x, by rw [h.old q.1 (by rw [z]; simp)]; exact y, vs, h.h _ _ z, IsAll.mono h.g _ _ u⟩
theorem Sta.leave {G : Hp} (S : Sta H G H' cs ds) : ∃ G', Grow G H G' H' ∧ AllIs G' ds :=
  let ⟨G', a, b, c, d, _, _, g⟩ := S; ⟨G', ⟨c, a, b, d⟩, g⟩
theorem Sta.newT (S : Sta B G0 H cs ds) (hp : H p = none) (h : HasAll ds xs vs) : Sta B G0 (upd H p (.tup vs)) cs ((.tuple xs, .ref p) :: ds) := by
  obtain ⟨G, a, b, c, d, e, f, g⟩ := S
  have hG : G p = none := b.free hp
  have eG := Same.new hG (.tup vs)
  refine ⟨upd G p (.tup vs), a.trans eG, fun q o hq => ?_, c.trans (Same.new hp _), fun q hq => ?_, fun q hq => ?_, f, (g.mono eG).cons ?_⟩
  · by_cases hqp : q = p
    · subst hqp; rw [upd_same] at hq ⊢; exact hq
    · rw [upd_ne hqp] at hq ⊢; exact b _ _ hq
  · have hqp : q ≠ p := fun z => by subst z; exact hq (c.free hp)
    rw [upd_ne hqp]; exact d q hq
  · obtain ⟨x, y, ws, z, u⟩ := e q hq
    have hqp : q.1 ≠ p := ne_of_none z hp
    exact ⟨x, by rw [upd_ne hqp]; exact y, ws, by rw [upd_ne hqp]; exact z, IsAll.mono eG _ _ u⟩
  · rw [Is]
    exact ⟨p, vs, rfl, upd_same, IsAll.mono eG _ _ (h G g)⟩
theorem Sta.newL (S : Sta B G0 H cs ds) (hp : H p = none) (h : HasAll ds xs vs) : Sta B G0 (upd H p (.lst vs)) ((p, xs) :: cs) ds := by
  obtain ⟨G, a, b, c, d, e, f, g⟩ := S
  have hG : G p = none := b.free hp
  refine ⟨G, a, b.trans (Same.new hp _), c.trans (Same.new hp _), d, fun q hq => ?_, ?_, g⟩
  · rcases List.mem_cons.mp hq with rfl | hq
    · exact ⟨c.free hp, hG, vs, upd_same, h G g⟩
    · obtain ⟨x, y, ws, z, u⟩ := e q hq
      have hqp : q.1 ≠ p := ne_of_none z hp
      exact ⟨x, y, ws, by rw [upd_ne hqp]; exact z, u⟩
  · rw [List.map_cons, List.nodup_cons]
    refine ⟨fun z => ?_, f⟩
    obtain ⟨q, hq, hqp⟩ := List.mem_map.mp z
    obtain ⟨_, _, ws, z, _⟩ := e q hq
    rw [hqp, hp] at z; cases z
theorem Sta.freeze (S : Sta B G0 H ((D, xs) :: cs) ds) : Sta B G0 H cs ((.list xs, .ref D) :: ds) := by
  obtain ⟨G, a, b, c, d, e, f, g⟩ := S
  obtain ⟨x, y, vs, z, u⟩ := e _ (List.mem_cons_self ..)
  have eG := Same.new y (.lst vs)
  rw [List.map_cons, List.nodup_cons] at f
  refine ⟨upd G D (.lst vs), a.trans eG, fun q o hq => ?_, c, fun q hq => ?_, fun q hq => ?_, f.2, (g.mono eG).cons ?_⟩
  · by_cases hqp : q = D
    · subst hqp; rw [upd_same] at hq; rw [← hq]; exact z
    · rw [upd_ne hqp] at hq; exact b _ _ hq
  · have hqp : q ≠ D := fun z => by subst z; exact hq x
    rw [upd_ne hqp]; exact d q hq
  · obtain ⟨x', y', ws, z', u'⟩ := e q (List.mem_cons_of_mem _ hq)
    have hqp : q.1 ≠ D := fun z => f.1 (List.mem_map.mpr ⟨q, hq, z⟩)
    exact ⟨x', by rw [upd_ne hqp]; exact y', ws, z', IsAll.mono eG _ _ u'⟩
  · rw [Is]
    exact ⟨D, vs, rfl, upd_same, IsAll.mono eG _ _ u⟩
/-- a cell, opened -/
theorem Sta.cell (S : Sta B G0 H cs ds) (h : (D, xs) ∈ cs) : ∃ vs, H D = some (.lst vs) ∧ xs.length = vs.length ∧ ∀ (i : Nat) (x : PyData), xs[i]? = some x → ∃ v, vs[i]? = some v ∧ Sta B G0 H cs ((x, v) :: ds) := by
  obtain ⟨G, a, b, c, d, e, f, g⟩ := S
  obtain ⟨_, _, vs, z, u⟩ := e _ h
  refine ⟨vs, z, u.len, fun i x hx => ?_⟩
  obtain ⟨v, hv, k⟩ := u.at hx
  exact ⟨v, hv, G, a, b, c, d, e, f, g.cons k⟩
/-- the first cell, rewritten -/
theorem Sta.put (S : Sta B G0 H ((D, xs) :: cs) ds) : ∃ vs, H D = some (.lst vs) ∧ xs.length = vs.length ∧ ∀ ys ws, (∀ G, AllIs G ds → IsAll G xs vs → IsAll G ys ws) → Sta B G0 (upd H D (.lst ws)) ((D, ys) :: cs) ds := by
  obtain ⟨G, a, b, c, d, e, f, g⟩ := S
  obtain ⟨x, y, vs, z, u⟩ := e _ (List.mem_cons_self ..)
  refine ⟨vs, z, u.len, fun ys ws h => ?_⟩
  have key : ∀ {A : Hp}, Same A H → A D = none → Same A (upd H D (.lst ws)) := fun {A} s n q o hq => by
    rw [upd_ne (ne_of_none hq n)]; exact s _ _ hq
  have f' := f
  rw [List.map_cons, List.nodup_cons] at f'
  refine ⟨G, a, key b y, key c x, d, fun q hq => ?_, f, g⟩
  rcases List.mem_cons.mp hq with rfl | hq
  · exact ⟨x, y, ws, upd_same, h G g u⟩
  · obtain ⟨x', y', ws', z', u'⟩ := e q (List.mem_cons_of_mem _ hq)
    have hqp : q.1 ≠ D := fun z => f'.1 (List.mem_map.mpr ⟨q, hq, z⟩)
    exact ⟨x', y', ws', by rw [upd_ne hqp]; exact z', u'⟩
/-- a tuple of the data, opened -/
theorem Sta.tup (S : Sta B G0 H cs ds) (h : Has ds (.tuple xs) v) : ∃ p vs, v = .ref p ∧ H p = some (.tup vs) ∧ xs.length = vs.length ∧ ∀ (i : Nat) (x : PyData), xs[i]? = some x → ∃ w, vs[i]? = some w ∧ Sta B G0 H cs ((x, w) :: ds) := by
  obtain ⟨G, a, b, c, d, e, f, g⟩ := S
  have q := h G g
  rw [Is] at q
  obtain ⟨p, vs, hv, hp, u⟩ := q
  refine ⟨p, vs, hv, b _ _ hp, u.len, fun i x hx => ?_⟩
  obtain ⟨v, hv, k⟩ := u.at hx
  exact ⟨v, hv, G, a, b, c, d, e, f, g.cons k⟩
theorem Sta.lst (S : Sta B G0 H cs ds) (h : Has ds (.list xs) v) : ∃ p vs, v = .ref p ∧ H p = some (.lst vs) ∧ xs.length = vs.length ∧ ∀ (i : Nat) (x : PyData), xs[i]? = some x → ∃ w, vs[i]? = some w ∧ Sta B G0 H cs ((x, w) :: ds) := by
  obtain ⟨G, a, b, c, d, e, f, g⟩ := S
  have q := h G g
  rw [Is] at q
  obtain ⟨p, vs, hv, hp, u⟩ := q
  refine ⟨p, vs, hv, b _ _ hp, u.len, fun i x hx => ?_⟩
  obtain ⟨v, hv, k⟩ := u.at hx
  exact ⟨v, hv, G, a, b, c, d, e, f, g.cons k⟩
/-- .. all its items at once -/
theorem Sta.tupAll (S : Sta B G0 H cs ds) (h : Has ds (.tuple xs) v) : ∃ p vs, v = .ref p ∧ H p = some (.tup vs) ∧ xs.length = vs.length ∧ Sta B G0 H cs (xs.zip vs ++ ds) ∧ ∀ G, AllIs G (xs.zip vs ++ ds) → IsAll G xs vs := by
  obtain ⟨G, a, b, c, d, e, f, g⟩ := S
  have q := h G g
  rw [Is] at q
  obtain ⟨p, vs, hv, hp, u⟩ := q
  refine ⟨p, vs, hv, b _ _ hp, u.len, ⟨G, a, b, c, d, e, f, fun q hq => ?_⟩, fun G' hG => ?_⟩
  · rcases List.mem_append.mp hq with hq | hq
    · obtain ⟨i, hi⟩ := List.mem_iff_getElem?.mp hq
      rw [List.getElem?_zip_eq_some] at hi
      exact (isAll_iff.mp u).2 i _ _ hi.1 hi.2
    · exact g q hq
  · refine isAll_iff.mpr ⟨u.len, fun i x v hx hv => ?_⟩
    exact hG (x, v) (List.mem_append_left _ (List.mem_iff_getElem?.mpr ⟨i, List.getElem?_zip_eq_some.mpr ⟨hx, hv⟩⟩))
theorem Sta.lstAll (S : Sta B G0 H cs ds) (h : Has ds (.list xs) v) : ∃ p vs, v = .ref p ∧ H p = some (.lst vs) ∧ xs.length = vs.length ∧ Sta B G0 H cs (xs.zip vs ++ ds) ∧ ∀ G, AllIs G (xs.zip vs ++ ds) → IsAll G xs vs := by
  obtain ⟨G, a, b, c, d, e, f, g⟩ := S
  have q := h G g
  rw [Is] at q
  obtain ⟨p, vs, hv, hp, u⟩ := q
  refine ⟨p, vs, hv, b _ _ hp, u.len, ⟨G, a, b, c, d, e, f, fun q hq => ?_⟩, fun G' hG => ?_⟩
  · rcases List.mem_append.mp hq with hq | hq
    · obtain ⟨i, hi⟩ := List.mem_iff_getElem?.mp hq
      rw [List.getElem?_zip_eq_some] at hi
      exact (isAll_iff.mp u).2 i _ _ hi.1 hi.2
    · exact g q hq
  · refine isAll_iff.mpr ⟨u.len, fun i x v hx hv => ?_⟩
    exact hG (x, v) (List.mem_append_left _ (List.mem_iff_getElem?.mpr ⟨i, List.getElem?_zip_eq_some.mpr ⟨hx, hv⟩⟩))
theorem Sta.cellAll (S : Sta B G0 H cs ds) (h : (D, xs) ∈ cs) : ∃ vs, H D = some (.lst vs) ∧ xs.length = vs.length ∧ Sta B G0 H cs (xs.zip vs ++ ds) ∧ ∀ G, AllIs G (xs.zip vs ++ ds) → IsAll G xs vs := by
  obtain ⟨G, a, b, c, d, e, f, g⟩ := S
  obtain ⟨_, _, vs, z, u⟩ := e _ h
  refine ⟨vs, z, u.len, ⟨G, a, b, c, d, e, f, fun q hq => ?_⟩, fun G' hG => ?_⟩
  · rcases List.mem_append.mp hq with hq | hq
    · obtain ⟨i, hi⟩ := List.mem_iff_getElem?.mp hq
      rw [List.getElem?_zip_eq_some] at hi
      exact (isAll_iff.mp u).2 i _ _ hi.1 hi.2
    · exact g q hq
  · refine isAll_iff.mpr ⟨u.len, fun i x v hx hv => ?_⟩
    exact hG (x, v) (List.mem_append_left _ (List.mem_iff_getElem?.mpr ⟨i, List.getElem?_zip_eq_some.mpr ⟨hx, hv⟩⟩))
theorem Sta.hp (S : Sta B G0 H cs ds) (h : Has ds x v) : Is H x v := by
  obtain ⟨G, a, b, c, d, e, f, g⟩ := S
  exact Is.mono b _ _ (h G g)
theorem Sta.hpC (S : Sta B G0 H cs ds) (h : (D, xs) ∈ cs) : Is H (.list xs) (.ref D) := by
  obtain ⟨G, a, b, c, d, e, f, g⟩ := S
  obtain ⟨_, _, vs, z, u⟩ := e _ h
  rw [Is]; exact ⟨D, vs, rfl, z, IsAll.mono b _ _ u⟩
end

/-! ### steps of a reading -/
def mkD (D : Ends) (u : L2.St → Hp → Prop) : Ends := { D with nx := u }
def mkL (D : Ends) (u : L2.St → Hp → Prop) : Ends := { D with nx := u, ct := u, bk := D.nx }
def endD (Q : VK) : Ends := { nx := fun _ H' => Q .non H', rt := Q }
section
variable {B G0 H : Hp} {cs : Cells} {ds : Dat} {D : Ends} {σ : L2.St} {Q : VK} {x y : PyData} {v w : V} {xs : List PyData} {vs : List V} {K : PySem.W.Frag} {X : Cx}
theorem rd_seq {t u : TS} (h : t (mkD D (u D)) σ H) : tSeq t u D σ H := h
theorem rd_asg {te : TE} {g : TG} (h : te σ H fun x H1 => g x σ H1 D.nx) : tAsg te g D σ H := h
theorem rd_name {i : Nat} {N : L2.St → Hp → Prop} (h : N (σ.set i (some v)) H) : gName i v σ H N := h
theorem rd_start {t : TS} (h : t (endD Q) σ H) : t { nx := fun _ H' => Q .non H', rt := Q } σ H := h
theorem rd_nx {u : L2.St → Hp → Prop} (h : u σ H) : Ends.nx (mkD D u) σ H := h
theorem rd_rt {u : L2.St → Hp → Prop} (h : Ends.rt D v H) : Ends.rt (mkD D u) v H := h
theorem rd_ct {u : L2.St → Hp → Prop} (h : Ends.ct D σ H) : Ends.ct (mkD D u) σ H := h
theorem rd_bk {u : L2.St → Hp → Prop} (h : Ends.bk D σ H) : Ends.bk (mkD D u) σ H := h
theorem rd_nx0 (h : Q .non H) : Ends.nx (endD Q) σ H := h
theorem rd_rt0 (h : Q v H) : Ends.rt (endD Q) v H := h
theorem rd_nxL {u : L2.St → Hp → Prop} (h : u σ H) : Ends.nx (mkL D u) σ H := h
theorem rd_ctL {u : L2.St → Hp → Prop} (h : u σ H) : Ends.ct (mkL D u) σ H := h
theorem rd_bkL {u : L2.St → Hp → Prop} (h : Ends.nx D σ H) : Ends.bk (mkL D u) σ H := h
theorem rd_rtL {u : L2.St → Hp → Prop} (h : Ends.rt D v H) : Ends.rt (mkL D u) v H := h
theorem rd_next (h : D.nx σ H) : tNext D σ H := h
theorem rd_ret {te : TE} (h : te σ H D.rt) : tRet te D σ H := h
theorem rd_retN (h : D.rt .non H) : tRetN D σ H := h
theorem rd_drop {te : TE} (h : te σ H fun _ H1 => D.nx σ H1) : tDrop te D σ H := h
theorem rd_if {c : TT} {t u : TS} (h : c σ H fun b H1 => if b = true then t D σ H1 else u D σ H1) : tIfS c t u D σ H := h
theorem rd_var {i : Nat} (e : σ[i]? = some (some v)) (h : Q v H) : tVar i σ H Q := ⟨v, e, h⟩
theorem rd_c (h : Q v H) : tC v σ H Q := h
theorem rd_op {r : R2} {ta tb : TE} (h : ta σ H fun x H1 => tb σ H1 fun y H2 => r x y H2 Q) : tOp r ta tb σ H Q := h
theorem rd_un {r : V → Hp → VK → Prop} {ta : TE} (h : ta σ H fun x H1 => r x H1 Q) : tUn r ta σ H Q := h
theorem rd_rI0 {g : Int → Int → V} {i j : Int} (h : Q (g i j) H) : rI0 g (.int i) (.int j) H Q := ⟨i, j, rfl, rfl, h⟩
theorem rd_rI {C : Int → Int → Prop} {g : Int → Int → V} {i j : Int} (c : C i j) (h : Q (g i j) H) : rI C g (.int i) (.int j) H Q := ⟨i, j, rfl, rfl, c, h⟩
theorem rd_mulB {i j : Int} (c : IntMulOk i j) (h : Q (.int (i * j)) H) : rI IntMulOk (fun i j => .int (i * j)) (.int i) (.int j) H Q := ⟨i, j, rfl, rfl, c, h⟩
theorem rd_modL {i j : Int} (c : 0 < j) (h : Q (.int (i % j)) H) : rI (fun _ j => 0 < j) (fun i j => .int (i % j)) (.int i) (.int j) H Q := ⟨i, j, rfl, rfl, c, h⟩
theorem rd_modN {i j : Int} (c : j ≠ 0) (h : Q (.int (i.fmod j)) H) : rI (fun _ j => j ≠ 0) (fun i j => .int (i.fmod j)) (.int i) (.int j) H Q := ⟨i, j, rfl, rfl, c, h⟩
theorem rd_fdivL {i j : Int} (c : CDiv i j) (h : Q (.int (i / j)) H) : rI CDiv (fun i j => .int (i / j)) (.int i) (.int j) H Q := ⟨i, j, rfl, rfl, c, h⟩
theorem rd_fdivB {i j : Int} (c : CDv i j) (h : Q (.int (i.fdiv j)) H) : rI CDv (fun i j => .int (i.fdiv j)) (.int i) (.int j) H Q := ⟨i, j, rfl, rfl, c, h⟩
theorem rd_pow {i j : Int} (c : CPow i j) (h : Q (.int (i ^ j.toNat)) H) : rI CPow (fun i j => .int (i ^ j.toNat)) (.int i) (.int j) H Q := ⟨i, j, rfl, rfl, c, h⟩
theorem rd_rU {g : Int → V} {i : Int} (h : Q (g i) H) : rU g (.int i) H Q := ⟨i, rfl, h⟩
theorem rd_test {t : TE} {R : Bool → Hp → Prop} (h : t σ H fun x H' => ∃ k, x = .bl k ∧ R k H') : tTest t σ H R := h
theorem rd_tB {t : TE} {R : Bool → Hp → Prop} (h : t σ H fun x H' => ∃ k, x = .bl k ∧ R k H') : tB t σ H R := h
theorem rd_isbl {k : Bool} {R : Bool → Prop} (h : R k) : ∃ k', V.bl k = .bl k' ∧ R k' := ⟨k, rfl, h⟩
theorem rd_not {t : TT} {R : Bool → Hp → Prop} (h : t σ H fun c H1 => R (!c) H1) : tNot t σ H R := h
theorem rd_and {t u : TT} {R : Bool → Hp → Prop} (h : t σ H fun c H1 => if c = true then u σ H1 R else R false H1) : tAnd t u σ H R := h
theorem rd_or {t u : TT} {R : Bool → Hp → Prop} (h : t σ H fun c H1 => if c = true then R true H1 else u σ H1 R) : tOr t u σ H R := h
theorem rd_andV {ta tb : TE} (h : ta σ H fun x H1 => ∃ c, x = .bl c ∧ if c = true then tb σ H1 Q else Q (.bl false) H1) : tAndV ta tb σ H Q := h
theorem rd_orV {ta tb : TE} (h : ta σ H fun x H1 => ∃ c, x = .bl c ∧ if c = true then Q (.bl true) H1 else tb σ H1 Q) : tOrV ta tb σ H Q := h
theorem rd_notV {ta : TE} (h : ta σ H fun x H1 => ∃ c, x = .bl c ∧ Q (.bl (!c)) H1) : tNotV ta σ H Q := h
theorem rd_ifE {t : TT} {ta tb : TE} (h : t σ H fun c H1 => if c = true then ta σ H1 Q else tb σ H1 Q) : tIf t ta tb σ H Q := h
theorem rd_nil {R : List V → Hp → Prop} (h : R [] H) : tNil σ H R := h
theorem rd_cons {ta : TE} {tr : TA} {R : List V → Hp → Prop} (h : ta σ H fun x H1 => tr σ H1 fun xs H2 => R (x :: xs) H2) : tCons ta tr σ H R := h
theorem rd_call {sp : Sp} {E : XK} {t : TA} (h : t σ H fun vs H1 => sp vs H1 Q E) : tCall sp [] E t σ H Q := by
  unfold tCall
  simpa only [List.append_nil] using h
theorem rd_cb {r : List V → Hp → VK → Prop} {t : TA} (h : t σ H fun vs H1 => r vs H1 Q) : tCB r t σ H Q := h
theorem rd_aug {i : Nat} {te : TE} {ti : TIp} (e : σ[i]? = some (some v)) (h : te σ H fun y H1 => ti v y H1 fun z H2 => D.nx (σ.set i (some z)) H2) : tAug i te ti D σ H := ⟨v, e, h⟩
theorem rd_ipI {f : Int → Int → Int} {i j : Int} (h : Q (.int (f i j)) H) : ipI f (.int i) (.int j) H Q := ⟨i, j, rfl, rfl, h⟩
theorem rd_par {i j : Nat} {ta : TA} (h : ta σ H fun vs H1 => ∃ v w, vs = [v, w] ∧ D.nx ((σ.set i (some v)).set j (some w)) H1) : tPar i j ta D σ H := h
theorem rd_is2 {R : V → V → Prop} (h : R v w) : ∃ v' w', [v, w] = [v', w'] ∧ R v' w' := ⟨v, w, rfl, h⟩
/-- comparisons -/
def rEqA : R2 := fun x y H Q => rEq x y H Q ∨ rEqD x y H Q
def rNeA : R2 := fun x y H Q => rNe x y H Q ∨ rNeD x y H Q
theorem op_eqA (hu : X.A.units + 64 < cLine) : OpR X (compareOp .Eq) rEqA := op_eq.or (op_eqD hu)
theorem op_neA (hu : X.A.units + 64 < cLine) : OpR X (compareOp .NotEq) rNeA := op_ne.or (op_neD hu)
theorem dec_congr {a b : Prop} [Decidable a] [Decidable b] (h : a ↔ b) : decide a = decide b := by
  by_cases ha : a
  · rw [decide_eq_true ha, decide_eq_true (h.mp ha)]
  · rw [decide_eq_false ha, decide_eq_false (fun z => ha (h.mpr z))]
theorem rd_eqI {i j : Int} (h : Q (.bl (decide (i = j))) H) : rEqA (.int i) (.int j) H Q := .inl ⟨rfl, by
  rw [dec_congr (show V.int i = V.int j ↔ i = j from ⟨V.int.inj, congrArg _⟩)]; exact h⟩
theorem rd_neI {i j : Int} (h : Q (.bl (!decide (i = j))) H) : rNeA (.int i) (.int j) H Q := .inl ⟨rfl, by
  rw [dec_congr (show V.int i = V.int j ↔ i = j from ⟨V.int.inj, congrArg _⟩)]; exact h⟩
theorem rd_eqB {i j : Bool} (h : Q (.bl (decide (i = j))) H) : rEqA (.bl i) (.bl j) H Q := .inl ⟨rfl, by
  rw [dec_congr (show V.bl i = V.bl j ↔ i = j from ⟨V.bl.inj, congrArg _⟩)]; exact h⟩
theorem rd_neB {i j : Bool} (h : Q (.bl (!decide (i = j))) H) : rNeA (.bl i) (.bl j) H Q := .inl ⟨rfl, by
  rw [dec_congr (show V.bl i = V.bl j ↔ i = j from ⟨V.bl.inj, congrArg _⟩)]; exact h⟩
theorem rd_eqD (h1 : Is H x v) (h2 : Is H y w) (s1 : SeqAt.shaped x = true) (s2 : SeqAt.shaped y = true) (h : Q (.bl (PyData.eqv x y)) H) : rEqA v w H Q := .inr ⟨x, y, h1, h2, s1, s2, h⟩
theorem rd_neD (h1 : Is H x v) (h2 : Is H y w) (s1 : SeqAt.shaped x = true) (s2 : SeqAt.shaped y = true) (h : Q (.bl (!PyData.eqv x y)) H) : rNeA v w H Q := .inr ⟨x, y, h1, h2, s1, s2, h⟩
/-- displays -/
def kTup (Q : VK) (xs : List V) (H : Hp) : Prop := xs.length ≤ sizeLine ∧ ∀ p, H p = none → Q (.ref p) (upd H p (.tup xs))
def kLst (Q : VK) (xs : List V) (H : Hp) : Prop := xs.length ≤ sizeLine ∧ ∀ p, H p = none → Q (.ref p) (upd H p (.lst xs))
theorem rd_tup {t : TA} (h : t σ H (kTup Q)) : tTup t σ H Q := h
theorem rd_lst {t : TA} (h : t σ H (kLst Q)) : tLst t σ H Q := h
theorem rd_kTup (S : Sta B G0 H cs ds) (h : HasAll ds xs vs) (hl : vs.length ≤ 1000) (k : ∀ p H', Same H H' → Sta B G0 H' cs ((.tuple xs, .ref p) :: ds) → Q (.ref p) H') : kTup Q vs H :=
  ⟨Nat.le_of_lt (small1000 hl), fun p hp => k p _ (Same.new hp _) (S.newT hp h)⟩
theorem rd_kLst (S : Sta B G0 H cs ds) (h : HasAll ds xs vs) (hl : vs.length ≤ 1000) (k : ∀ p H', Same H H' → Sta B G0 H' ((p, xs) :: cs) ds → Q (.ref p) H') : kLst Q vs H :=
  ⟨Nat.le_of_lt (small1000 hl), fun p hp => k p _ (Same.new hp _) (S.newL hp h)⟩
/-- subscripts -/
theorem atI_at {α β : Type} {xs : List α} {ys : List β} {i : Int} {x : α} (hl : xs.length = ys.length) (h : atI xs i = some x) : ∃ j : Nat, xs[j]? = some x ∧ ∀ y, ys[j]? = some y → atI ys i = some y := by
  unfold atI at h ⊢
  rw [← hl]
  cases e : ixN xs.length i with
  | none => rw [e] at h; cases h
  | some j => rw [e] at h; exact ⟨j, h, fun y hy => hy⟩
theorem rd_ixT {i : Int} (S : Sta B G0 H cs ds) (hx : Has ds (.tuple xs) v) (hi : atI xs i = some x) (k : ∀ w, Sta B G0 H cs ((x, w) :: ds) → Q w H) : rIx K v (.int i) H Q := by
  obtain ⟨p, vs, rfl, hp, hl, z⟩ := S.tup hx
  obtain ⟨j, hj, hy⟩ := atI_at hl hi
  obtain ⟨w, hw, S'⟩ := z j x hj
  exact .inr (.inl ⟨p, vs, i, w, rfl, rfl, SqT.of hp, hy _ hw, k w S'⟩)
theorem Sta.top {n : PyData} (S : Sta B G0 H cs ((n, v) :: ds)) : Is H n v := S.hp (.mem (List.mem_cons_self ..))
theorem rd_ixTI {i n : Int} (S : Sta B G0 H cs ds) (hx : Has ds (.tuple xs) v) (hi : atI xs i = some (.int n)) (k : Q (.int n) H) : rIx K v (.int i) H Q :=
  rd_ixT S hx hi fun w S' => by have := S'.top; rw [Is] at this; subst this; exact k
theorem rd_ixL {i : Int} (S : Sta B G0 H cs ds) (hx : Has ds (.list xs) v) (hi : atI xs i = some x) (k : ∀ w, Sta B G0 H cs ((x, w) :: ds) → Q w H) : rIx K v (.int i) H Q := by
  obtain ⟨p, vs, rfl, hp, hl, z⟩ := S.lst hx
  obtain ⟨j, hj, hy⟩ := atI_at hl hi
  obtain ⟨w, hw, S'⟩ := z j x hj
  exact .inl ⟨p, vs, i, w, rfl, rfl, SqL.of hp, hy _ hw, k w S'⟩
theorem rd_ixLI {i n : Int} (S : Sta B G0 H cs ds) (hx : Has ds (.list xs) v) (hi : atI xs i = some (.int n)) (k : Q (.int n) H) : rIx K v (.int i) H Q :=
  rd_ixL S hx hi fun w S' => by have := S'.top; rw [Is] at this; subst this; exact k
theorem rd_ixC {i : Int} {L : Addr} (S : Sta B G0 H cs ds) (hx : (L, xs) ∈ cs) (hi : atI xs i = some x) (k : ∀ w, Sta B G0 H cs ((x, w) :: ds) → Q w H) : rIx K (.ref L) (.int i) H Q := by
  obtain ⟨vs, hp, hl, z⟩ := S.cell hx
  obtain ⟨j, hj, hy⟩ := atI_at hl hi
  obtain ⟨w, hw, S'⟩ := z j x hj
  exact .inl ⟨L, vs, i, w, rfl, rfl, SqL.of hp, hy _ hw, k w S'⟩
theorem rd_ixCI {i n : Int} {L : Addr} (S : Sta B G0 H cs ds) (hx : (L, xs) ∈ cs) (hi : atI xs i = some (.int n)) (k : Q (.int n) H) : rIx K (.ref L) (.int i) H Q :=
  rd_ixC S hx hi fun w S' => by have := S'.top; rw [Is] at this; subst this; exact k
theorem rd_ixS {i : Int} {a : Addr} {ns : List Int} (hS : SqL K H a (ns.map V.int)) (h0 : 0 ≤ i) (h1 : i < (ns.length : Int)) (k : Q (.int (ns.getD i.toNat 0)) H) : rIx K (.ref a) (.int i) H Q :=
  .inl ⟨a, _, i, _, rfl, rfl, hS, atI_ints h0 h1, k⟩
/-- len -/
def rLen (K : PySem.W.Frag) : List V → Hp → VK → Prop := fun xs H Q => ∃ p ys, xs = [.ref p] ∧ (SqL K H p ys ∨ SqT K H p ys) ∧ Q (.int ys.length) H
theorem call_lenA : CallR X (.builtin "len") (rLen X.K) := call_len_seq
theorem rd_lenT (S : Sta B G0 H cs ds) (hx : Has ds (.tuple xs) v) (k : Q (.int xs.length) H) : rLen K [v] H Q := by
  obtain ⟨p, vs, rfl, hp, hl, _⟩ := S.tup hx
  exact ⟨p, vs, rfl, .inr (SqT.of hp), by rw [← hl]; exact k⟩
theorem rd_lenL (S : Sta B G0 H cs ds) (hx : Has ds (.list xs) v) (k : Q (.int xs.length) H) : rLen K [v] H Q := by
  obtain ⟨p, vs, rfl, hp, hl, _⟩ := S.lst hx
  exact ⟨p, vs, rfl, .inl (SqL.of hp), by rw [← hl]; exact k⟩
theorem rd_lenC {L : Addr} (S : Sta B G0 H cs ds) (hx : (L, xs) ∈ cs) (k : Q (.int xs.length) H) : rLen K [.ref L] H Q := by
  obtain ⟨vs, hp, hl, _⟩ := S.cell hx
  exact ⟨L, vs, rfl, .inl (SqL.of hp), by rw [← hl]; exact k⟩
theorem rd_lenS {a : Addr} {ns : List Int} (hS : SqL K H a (ns.map V.int)) (k : Q (.int ns.length) H) : rLen K [.ref a] H Q :=
  ⟨a, _, rfl, .inl hS, by rw [List.length_map]; exact k⟩
/-- abs, min, max -/
def rAbs : List V → Hp → VK → Prop := fun xs H Q => ∃ i, xs = [.int i] ∧ Q (.int (if i < 0 then -i else i)) H
theorem call_absA : CallR X (.builtin "abs") rAbs := call_abs
theorem rd_abs {i : Int} (k : Q (.int (i.natAbs : Int)) H) : rAbs [.int i] H Q := ⟨i, rfl, by
  rw [show (if i < 0 then -i else i) = (i.natAbs : Int) by split <;> omega]; exact k⟩
def rMin : List V → Hp → VK → Prop := fun xs H Q => ∃ i j, xs = [.int i, .int j] ∧ Q (.int (if j < i then j else i)) H
theorem call_minA (hc : X.calm = true) : CallR X (.builtin "min") rMin := call_min2 hc
theorem rd_min {i j : Int} (k : Q (.int (min i j)) H) : rMin [.int i, .int j] H Q := ⟨i, j, rfl, by
  rw [show (if j < i then j else i) = min i j by split <;> omega]; exact k⟩
def rMax : List V → Hp → VK → Prop := fun xs H Q => ∃ i j, xs = [.int i, .int j] ∧ Q (.int (if j > i then j else i)) H
theorem call_maxA (hc : X.calm = true) : CallR X (.builtin "max") rMax := call_max2 hc
theorem rd_max {i j : Int} (k : Q (.int (max i j)) H) : rMax [.int i, .int j] H Q := ⟨i, j, rfl, by
  rw [show (if j > i then j else i) = max i j by split <;> omega]; exact k⟩
/-- list(x), tuple(x) -/
def rListOf (K : PySem.W.Frag) : List V → Hp → VK → Prop := fun xs H Q => ∃ p ys, xs = [.ref p] ∧ (SqL K H p ys ∨ SqT K H p ys) ∧ ∀ l, H l = none → Q (.ref l) (upd H l (.lst ys))
theorem call_listA : CallR X (.type "list") (rListOf X.K) := call_list_of
def rTupleOf (K : PySem.W.Frag) : List V → Hp → VK → Prop := fun xs H Q => ∃ p ys, xs = [.ref p] ∧ ((SqL K H p ys ∧ ∀ l, H l = none → Q (.ref l) (upd H l (.tup ys))) ∨ (SqT K H p ys ∧ Q (.ref p) H))
theorem call_tupleA : CallR X (.type "tuple") (rTupleOf X.K) := call_tuple_of
theorem rd_listL (S : Sta B G0 H cs ds) (hx : Has ds (.list xs) v) (k : ∀ l H', Same H H' → Sta B G0 H' ((l, xs) :: cs) ds → Q (.ref l) H') : rListOf K [v] H Q := by
  obtain ⟨p, vs, rfl, hp, hl, S', hA⟩ := S.lstAll hx
  exact ⟨p, vs, rfl, .inl (SqL.of hp), fun l hl => k l _ (Same.new hl _) ((S'.newL hl hA).dat fun q hq => .mem (List.mem_append_right _ hq))⟩
theorem rd_listT (S : Sta B G0 H cs ds) (hx : Has ds (.tuple xs) v) (k : ∀ l H', Same H H' → Sta B G0 H' ((l, xs) :: cs) ds → Q (.ref l) H') : rListOf K [v] H Q := by
  obtain ⟨p, vs, rfl, hp, hl, S', hA⟩ := S.tupAll hx
  exact ⟨p, vs, rfl, .inr (SqT.of hp), fun l hl => k l _ (Same.new hl _) ((S'.newL hl hA).dat fun q hq => .mem (List.mem_append_right _ hq))⟩
theorem rd_listC {L : Addr} (S : Sta B G0 H cs ds) (hx : (L, xs) ∈ cs) (k : ∀ l H', Same H H' → Sta B G0 H' ((l, xs) :: cs) ds → Q (.ref l) H') : rListOf K [.ref L] H Q := by
  obtain ⟨vs, hp, hl, S', hA⟩ := S.cellAll hx
  exact ⟨L, vs, rfl, .inl (SqL.of hp), fun l hl => k l _ (Same.new hl _) ((S'.newL hl hA).dat fun q hq => .mem (List.mem_append_right _ hq))⟩
theorem rd_tupleL (S : Sta B G0 H cs ds) (hx : Has ds (.list xs) v) (k : ∀ l H', Same H H' → Sta B G0 H' cs ((.tuple xs, .ref l) :: ds) → Q (.ref l) H') : rTupleOf K [v] H Q := by
  obtain ⟨p, vs, rfl, hp, hl, S', hA⟩ := S.lstAll hx
  exact ⟨p, vs, rfl, .inl ⟨SqL.of hp, fun l hl => k l _ (Same.new hl _) ((S'.newT hl hA).dat fun q hq => .mem (by
    rcases List.mem_cons.mp hq with rfl | hq
    · exact List.mem_cons_self ..
    · exact List.mem_cons_of_mem _ (List.mem_append_right _ hq)))⟩⟩
theorem rd_tupleC {L : Addr} (S : Sta B G0 H cs ds) (hx : (L, xs) ∈ cs) (k : ∀ l H', Same H H' → Sta B G0 H' cs ((.tuple xs, .ref l) :: ds) → Q (.ref l) H') : rTupleOf K [.ref L] H Q := by
  obtain ⟨vs, hp, hl, S', hA⟩ := S.cellAll hx
  exact ⟨L, vs, rfl, .inl ⟨SqL.of hp, fun l hl => k l _ (Same.new hl _) ((S'.newT hl hA).dat fun q hq => .mem (by
    rcases List.mem_cons.mp hq with rfl | hq
    · exact List.mem_cons_self ..
    · exact List.mem_cons_of_mem _ (List.mem_append_right _ hq)))⟩⟩
/-- methods of lists -/
def kBM (K : PySem.W.Frag) (T : String) (r : V → List V → Hp → VK → Prop) (t : TA) (σ : L2.St) (Q : VK) : VK := fun x H1 => tyV K T x H1 ∧ t σ H1 fun xs H2 => r x xs H2 Q
def kBM0 (K : PySem.W.Frag) (T : String) (r : V → List V → Hp → VK → Prop) (Q : VK) : VK := fun x H1 => tyV K T x H1 ∧ r x [] H1 Q
theorem rd_bm {T : String} {r : V → List V → Hp → VK → Prop} {to : TE} {t : TA} (h : to σ H (kBM K T r t σ Q)) : tBM K T r to t σ H Q := h
theorem rd_bm0 {T : String} {r : V → List V → Hp → VK → Prop} {to : TE} (h : to σ H (kBM0 K T r Q)) : tBM0 K T r to σ H Q := h
theorem rd_kBM {L : Addr} {r : V → List V → Hp → VK → Prop} {t : TA} (S : Sta B G0 H cs ds) (hx : (L, xs) ∈ cs) (h : t σ H fun ys H2 => r (.ref L) ys H2 Q) : kBM K "list" r t σ Q (.ref L) H := by
  obtain ⟨vs, hp, hl, _⟩ := S.cell hx
  exact ⟨.inl ⟨rfl, _, SqL.of hp⟩, h⟩
theorem rd_kBM0 {L : Addr} {r : V → List V → Hp → VK → Prop} (S : Sta B G0 H cs ds) (hx : (L, xs) ∈ cs) (h : r (.ref L) [] H Q) : kBM0 K "list" r Q (.ref L) H := by
  obtain ⟨vs, hp, hl, _⟩ := S.cell hx
  exact ⟨.inl ⟨rfl, _, SqL.of hp⟩, h⟩
theorem rd_append {L : Addr} (S : Sta B G0 H ((L, xs) :: cs) ds) (hy : Has ds y w) (hz : xs.length ≤ 1000) (k : ∀ H', Sta B G0 H' ((L, xs ++ [y]) :: cs) ds → Q .non H') : rAppend (.ref L) [w] H Q := by
  obtain ⟨vs, hp, hl, put⟩ := S.put
  exact ⟨L, vs, w, rfl, rfl, hp, small1000 (by omega), k _ (put _ _ fun G a u => u.app (by rw [IsAll]; exact ⟨w, [], rfl, hy G a, by rw [IsAll]⟩))⟩
theorem rd_clear {L : Addr} (S : Sta B G0 H ((L, xs) :: cs) ds) (k : ∀ H', Sta B G0 H' ((L, []) :: cs) ds → Q .non H') : rClear (.ref L) [] H Q := by
  obtain ⟨vs, hp, hl, put⟩ := S.put
  exact ⟨L, vs, rfl, rfl, hp, k _ (put _ _ fun G a u => by rw [IsAll])⟩
theorem rd_setL {L : Addr} {i : Int} {j : Nat} {R : Hp → Prop} (S : Sta B G0 H ((L, xs) :: cs) ds) (hy : Has ds y w) (hi : ixN xs.length i = some j) (k : ∀ H', Sta B G0 H' ((L, xs.set j y) :: cs) ds → R H') : rSetL (.ref L) (.int i) w H R := by
  obtain ⟨vs, hp, hl, put⟩ := S.put
  exact ⟨L, vs, i, j, rfl, rfl, hp, by rw [← hl]; exact hi, k _ (put _ _ fun G a u => u.set (hy G a) j)⟩
def cutD (xs : List PyData) (lo hi : Option Int) : List PyData := (xs.drop (HT.sIx xs.length 0 lo)).take (HT.sIx xs.length xs.length hi - HT.sIx xs.length 0 lo)
theorem rd_slL {lo hi : Option Int} (S : Sta B G0 H cs ds) (hx : Has ds (.list xs) v) (k : ∀ l H', Same H H' → Sta B G0 H' ((l, cutD xs lo hi) :: cs) ds → Q (.ref l) H') : rSlL K v lo hi H Q := by
  obtain ⟨p, vs, rfl, hp, hl, S', hA⟩ := S.lstAll hx
  refine ⟨p, vs, rfl, SqL.of hp, fun l hn => k l _ (Same.new hn _) ((S'.newL hn fun G a => ?_).dat fun q hq => .mem (List.mem_append_right _ hq))⟩
  unfold cutD cutV
  rw [hl]
  exact ((hA G a).drop _).take _
theorem rd_slC {lo hi : Option Int} {L : Addr} (S : Sta B G0 H cs ds) (hx : (L, xs) ∈ cs) (k : ∀ l H', Same H H' → Sta B G0 H' ((l, cutD xs lo hi) :: cs) ds → Q (.ref l) H') : rSlL K (.ref L) lo hi H Q := by
  obtain ⟨vs, hp, hl, S', hA⟩ := S.cellAll hx
  refine ⟨L, vs, rfl, SqL.of hp, fun l hn => k l _ (Same.new hn _) ((S'.newL hn fun G a => ?_).dat fun q hq => .mem (List.mem_append_right _ hq))⟩
  unfold cutD cutV
  rw [hl]
  exact ((hA G a).drop _).take _
theorem rd_cat {zs : List PyData} {L M : Addr} (S : Sta B G0 H cs ds) (hx : Is H (.list xs) (.ref L)) (hy : Is H (.list zs) (.ref M)) (hz : xs.length + zs.length ≤ 1000)
    (k : ∀ us ws, IsAll H xs us → IsAll H zs ws → ∀ p, H p = none → Q (.ref p) (upd H p (.lst (us ++ ws)))) : rCat (.ref L) (.ref M) H Q := by
  rw [Is] at hx hy
  obtain ⟨_, us, e1, h1, u1⟩ := hx
  obtain ⟨_, ws, e2, h2, u2⟩ := hy
  cases e1; cases e2
  exact ⟨L, M, us, ws, rfl, rfl, h1, h2, Nat.le_of_lt (small1000 (by rw [← u1.len, ← u2.len]; exact hz)), k us ws u1 u2⟩
end
/-! ### sizes, +, sum -/
theorem Sz.add' {m n : Nat} {x y : Int} (h : Sz m x) (g : Sz n y) : Sz (m + n + 1) (x + y) := (Sz.add (h.mono (Nat.le_add_right m n)) (g.mono (Nat.le_add_left n m)))
theorem Sz.sub' {m n : Nat} {x y : Int} (h : Sz m x) (g : Sz n y) : Sz (m + n + 1) (x - y) := (Sz.sub (h.mono (Nat.le_add_right m n)) (g.mono (Nat.le_add_left n m)))
theorem Sz.lit {x : Int} (h : x.natAbs < 2 ^ 200) : Sz 200 x := h
theorem mulModOk {a b m n : Int} (h : (0 < m ∧ m < 2 ^ 64) ∧ (0 < n ∧ n < 2 ^ 64)) : IntMulOk (a % m) (b % n) := by
  have h1 := Int.emod_nonneg a (show m ≠ 0 by omega)
  have h2 := Int.emod_lt_of_pos a h.1.1
  have h3 := Int.emod_nonneg b (show n ≠ 0 by omega)
  have h4 := Int.emod_lt_of_pos b h.2.1
  have e : (2 : Nat) ^ 64 = 18446744073709551616 := by decide
  have e' : (2 : Int) ^ 64 = 18446744073709551616 := by decide
  rw [e'] at h
  exact Sz.mulOk (m := 64) (n := 64) (by unfold Sz; rw [e]; omega) (by unfold Sz; rw [e]; omega) (by decide)
theorem iteNF {A B : Prop} (h : A) : if (!false) = true then A else B := h
theorem iteNT {A B : Prop} (h : B) : if (!true) = true then A else B := h
theorem SzQ.num {n : Nat} {q : Rat} (h : SzQ n q) : Sz n q.num := h.1
theorem SzQ.den {n : Nat} {q : Rat} (h : SzQ n q) : Sz n (q.den : Int) := h.2
section
variable {B G0 H : Hp} {cs : Cells} {ds : Dat} {Q : VK} {v : V} {xs zs : List PyData} {K : PySem.W.Frag} {X : Cx} {L M : Addr}
def rAddA : R2 := fun x y H Q => rI0 (fun i j => .int (i + j)) x y H Q ∨ rCat x y H Q
theorem op_addA : OpR X (binaryOp .Add) rAddA := op_add.or op_cat
theorem rd_addI {i j : Int} (h : Q (.int (i + j)) H) : rAddA (.int i) (.int j) H Q := .inl ⟨i, j, rfl, rfl, h⟩
/-- a list that is seen -/
def Vw (B G0 H : Hp) (cs : Cells) (ds : Dat) (L : Addr) (xs : List PyData) : Prop := ∃ vs, H L = some (.lst vs) ∧ ∀ G, StaG B G0 H cs ds G → IsAll G xs vs
theorem Sta.vwL (S : Sta B G0 H cs ds) (h : Has ds (.list xs) (.ref L)) : Vw B G0 H cs ds L xs := by
  obtain ⟨G, S⟩ := S
  have q := h G S.2.2.2.2.2.2
  rw [Is] at q
  obtain ⟨p, vs, e, hp, u⟩ := q
  cases e
  have hp' := S.2.1 _ _ hp
  refine ⟨vs, hp', fun G' S' => ?_⟩
  have q := h G' S'.2.2.2.2.2.2
  rw [Is] at q
  obtain ⟨p, vs', e, hp2, u'⟩ := q
  cases e
  have := S'.2.1 _ _ hp2
  rw [hp'] at this; cases this
  exact u'
theorem Sta.vwC (S : Sta B G0 H cs ds) (h : (L, xs) ∈ cs) : Vw B G0 H cs ds L xs := by
  obtain ⟨G, S⟩ := S
  obtain ⟨_, _, vs, z, u⟩ := S.2.2.2.2.1 _ h
  refine ⟨vs, z, fun G' S' => ?_⟩
  obtain ⟨_, _, vs', z', u'⟩ := S'.2.2.2.2.1 _ h
  rw [z] at z'; cases z'
  exact u'
theorem rd_addL (S : Sta B G0 H cs ds) (v1 : Vw B G0 H cs ds L xs) (v2 : Vw B G0 H cs ds M zs) (hz : xs.length + zs.length ≤ 1000)
    (k : ∀ p H', Same H H' → Sta B G0 H' ((p, xs ++ zs) :: cs) ds → Q (.ref p) H') : rAddA (.ref L) (.ref M) H Q := by
  obtain ⟨us, h1, u1⟩ := v1
  obtain ⟨ws, h2, u2⟩ := v2
  obtain ⟨G, S'⟩ := id S
  refine .inr ⟨L, M, us, ws, rfl, rfl, h1, h2, Nat.le_of_lt (small1000 (by rw [← (u1 G S').len, ← (u2 G S').len]; exact hz)), fun p hp => k p _ (Same.new hp _) ?_⟩
  obtain ⟨a, b, c, d, e, f, g⟩ := id S'
  have hG : G p = none := b.free hp
  refine ⟨G, a, b.trans (Same.new hp _), c.trans (Same.new hp _), d, fun q hq => ?_, ?_, g⟩
  · rcases List.mem_cons.mp hq with rfl | hq
    · exact ⟨c.free hp, hG, _, upd_same, (u1 G S').app (u2 G S')⟩
    · obtain ⟨x, y, ws, z, u⟩ := e q hq
      have hqp : q.1 ≠ p := ne_of_none z hp
      exact ⟨x, y, ws, by rw [upd_ne hqp]; exact z, u⟩
  · rw [List.map_cons, List.nodup_cons]
    refine ⟨fun z => ?_, f⟩
    obtain ⟨q, hq, hqp⟩ := List.mem_map.mp z
    obtain ⟨_, _, ws, z, _⟩ := e q hq
    rw [hqp, hp] at z; cases z
def rSum (K : PySem.W.Frag) : List V → Hp → VK → Prop := fun xs H Q => ∃ (p : Addr) (ns : List Int), xs = [.ref p] ∧ SqL K H p (ns.map V.int) ∧ Q (.int ns.sum) H
theorem call_sumA (hc : X.calm = true) : CallR X (.builtin "sum") (rSum X.K) := by
  intro pins s σ H xs us Q I r h
  obtain ⟨p, ns, rfl, hq, q⟩ := h
  obtain ⟨u, rfl, rx⟩ := vals1 r
  cases rx
  obtain ⟨its, rv, pl, _⟩ := I.list hq
  have hi := intsAre_of rv
  obtain ⟨ys, e⟩ := hi.allInts.items
  have hl : s.heap.IsList p (intItems ys) := e ▸ pl.isList
  have en : ys.toList.map (·.1) = ns := by rw [← nums_intItems, ← e]; exact hi.numsOf
  refine sum_intListG (I.ok.hd hc) hl fun h' tk t' hk => ?_
  refine ⟨.int ns.sum, H, I.kept (t' := tk) hk, ⟨t', ?_⟩, q⟩
  rw [preSum_eq, en, List.take_of_length_le (by rw [← en]; simp)]
theorem isAll_ints {G : Hp} : ∀ {ns : List Int} {vs : List V}, IsAll G (ns.map PyData.int) vs → vs = ns.map V.int
  | [], vs, h => by rw [List.map_nil, IsAll] at h; exact h
  | n :: ns, vs, h => by
    rw [List.map_cons, IsAll] at h
    obtain ⟨v, r, rfl, h1, h2⟩ := h
    rw [Is] at h1
    subst h1
    rw [isAll_ints h2, List.map_cons]
theorem rd_sumC {ns : List Int} (S : Sta B G0 H cs ds) (h : (L, ns.map PyData.int) ∈ cs) (k : Q (.int ns.sum) H) : rSum K [.ref L] H Q := by
  obtain ⟨vs, hp, u⟩ := S.vwC h
  obtain ⟨G, S'⟩ := id S
  rw [isAll_ints (u G S')] at hp
  exact ⟨L, ns, rfl, SqL.of hp, k⟩
theorem rd_sumL {ns : List Int} (S : Sta B G0 H cs ds) (h : Has ds (.list (ns.map PyData.int)) v) (k : Q (.int ns.sum) H) : rSum K [v] H Q := by
  obtain ⟨p, vs, rfl, _⟩ := S.lst h
  obtain ⟨vs, hp, u⟩ := S.vwL h
  obtain ⟨G, S'⟩ := id S
  rw [isAll_ints (u G S')] at hp
  exact ⟨_, ns, rfl, SqL.of hp, k⟩
end
end S

namespace S
open PySem PySem.Spec PyProof.Rows L2

/-- a list of the callers' that is read -/
def Ro (B G0 : Hp) (L : Addr) (xs : List PyData) : Prop := G0 L = none ∧ ∃ vs, B L = some (.lst vs) ∧ IsAll G0 xs vs
/-- where items are drawn from -/
def Src (B G0 : Hp) (b : Bool) (K : PySem.W.Frag) (a : Addr) (xs : List PyData) (P : Cells → Dat → Prop) : Prop := ∀ {H : Hp} {cs : Cells} {ds : Dat}, Sta B G0 H cs ds → P cs ds →
  ∃ vs, SqB b K H a vs ∧ xs.length = vs.length ∧ ∀ (i : Nat) (x : PyData), xs[i]? = some x → ∃ v, vs[i]? = some v ∧ Sta B G0 H cs ((x, v) :: ds)
structure Wk (B G0 : Hp) (J : It) (xs : List PyData) (P : Cells → Dat → Prop) : Prop where
  go : ∀ {H : Hp} {cs : Cells} {ds : Dat} {i : Nat}, Sta B G0 H cs ds → P cs ds → i < xs.length → J.go i H
  stop : ∀ {H : Hp} {cs : Cells} {ds : Dat} {i : Nat}, Sta B G0 H cs ds → P cs ds → xs.length ≤ i → J.stop i H
  yld : ∀ {H H' : Hp} {cs : Cells} {ds : Dat} {i : Nat} {x : PyData} {v : V}, Sta B G0 H cs ds → P cs ds → xs[i]? = some x → J.yld i H v H' → Same H H' ∧ Sta B G0 H' cs ((x, v) :: ds)
section
variable {B G0 H : Hp} {cs : Cells} {ds : Dat} {K : PySem.W.Frag} {a : Addr} {xs ys : List PyData} {P P' : Cells → Dat → Prop} {b c : Bool} {v : V}
theorem Sta.ro {L : Addr} (S : Sta B G0 H cs ds) (h : Ro B G0 L xs) : ∃ vs, H L = some (.lst vs) ∧ xs.length = vs.length ∧ ∀ (i : Nat) (x : PyData), xs[i]? = some x → ∃ v, vs[i]? = some v ∧ Sta B G0 H cs ((x, v) :: ds) := by
  obtain ⟨_, vs, hb, hi⟩ := h
  have hb' := S.base _ _ hb
  obtain ⟨G, a, b, c, d, e, f, g⟩ := S
  refine ⟨vs, hb', hi.len, fun i x hx => ?_⟩
  obtain ⟨v, hv, k⟩ := hi.at hx
  exact ⟨v, hv, G, a, b, c, d, e, f, g.cons (Is.mono a _ _ k)⟩
theorem rd_ixR {Q : VK} {x : PyData} {i : Int} {L : Addr} (S : Sta B G0 H cs ds) (hx : Ro B G0 L xs) (hi : atI xs i = some x) (k : ∀ w, Sta B G0 H cs ((x, w) :: ds) → Q w H) : rIx K (.ref L) (.int i) H Q := by
  obtain ⟨vs, hp, hl, z⟩ := S.ro hx
  obtain ⟨j, hj, hy⟩ := atI_at hl hi
  obtain ⟨w, hw, S'⟩ := z j x hj
  exact .inl ⟨L, vs, i, w, rfl, rfl, SqL.of hp, hy _ hw, k w S'⟩
theorem rd_ixRI {Q : VK} {i n : Int} {L : Addr} (S : Sta B G0 H cs ds) (hx : Ro B G0 L xs) (hi : atI xs i = some (.int n)) (k : Q (.int n) H) : rIx K (.ref L) (.int i) H Q :=
  rd_ixR S hx hi fun w S' => by have := S'.top; rw [Is] at this; subst this; exact k
theorem rd_lenR {Q : VK} {L : Addr} (S : Sta B G0 H cs ds) (hx : Ro B G0 L xs) (k : Q (.int xs.length) H) : rLen K [.ref L] H Q := by
  obtain ⟨vs, hp, hl, _⟩ := S.ro hx
  exact ⟨L, vs, rfl, .inl (SqL.of hp), by rw [← hl]; exact k⟩
theorem src_list : Src B G0 true K a xs (fun _ ds => Has ds (.list xs) (.ref a)) := fun S h => by
  obtain ⟨p, vs, e, hp, hl, z⟩ := S.lst h
  cases e
  exact ⟨vs, SqL.of hp, hl, z⟩
theorem src_tup : Src B G0 false K a xs (fun _ ds => Has ds (.tuple xs) (.ref a)) := fun S h => by
  obtain ⟨p, vs, e, hp, hl, z⟩ := S.tup h
  cases e
  exact ⟨vs, SqT.of hp, hl, z⟩
theorem src_cell : Src B G0 true K a xs (fun cs _ => (a, xs) ∈ cs) := fun S h => by
  obtain ⟨vs, hp, hl, z⟩ := S.cell h
  exact ⟨vs, SqL.of hp, hl, z⟩
theorem src_ro (h : Ro B G0 a xs) : Src B G0 true K a xs (fun _ _ => True) := fun S _ => by
  obtain ⟨vs, hp, hl, z⟩ := S.ro h
  exact ⟨vs, SqL.of hp, hl, z⟩
theorem wk_list (s : Src B G0 true K a xs P) : Wk B G0 (Itl K a) xs P where
  go := fun {H cs ds i} S h hi => by
    obtain ⟨vs, q, hl, _⟩ := s S h
    exact ⟨vs, vs[i]'(by omega), q, List.getElem?_eq_getElem _⟩
  stop := fun {H cs ds i} S h hi => by
    obtain ⟨vs, q, hl, _⟩ := s S h
    exact ⟨vs, q, by omega⟩
  yld := fun {H H' cs ds i x v} S h hx y => by
    obtain ⟨e, y⟩ := y
    subst e
    obtain ⟨vs, q, hl, z⟩ := s S h
    obtain ⟨w, hw, S'⟩ := z i x hx
    have := y vs q
    rw [hw] at this; cases this
    exact ⟨Same.refl _, S'⟩
theorem wk_tup (s : Src B G0 false K a xs P) : Wk B G0 (Itt K a) xs P where
  go := fun {H cs ds i} S h hi => by
    obtain ⟨vs, q, hl, _⟩ := s S h
    exact ⟨vs, vs[i]'(by omega), q, List.getElem?_eq_getElem _⟩
  stop := fun {H cs ds i} S h hi => by
    obtain ⟨vs, q, hl, _⟩ := s S h
    exact ⟨vs, q, by omega⟩
  yld := fun {H H' cs ds i x v} S h hx y => by
    obtain ⟨e, y⟩ := y
    subst e
    obtain ⟨vs, q, hl, z⟩ := s S h
    obtain ⟨w, hw, S'⟩ := z i x hx
    have := y vs q
    rw [hw] at this; cases this
    exact ⟨Same.refl _, S'⟩
def rangeD (lo : Int) (n : Nat) : List PyData := (List.range n).map fun i => .int (lo + (i : Nat))
theorem rangeD_len (lo : Int) (n : Nat) : (rangeD lo n).length = n := by unfold rangeD; rw [List.length_map, List.length_range]
theorem rangeD_at {lo : Int} {n i : Nat} {x : PyData} (h : (rangeD lo n)[i]? = some x) : i < n ∧ x = .int (lo + (i : Nat)) := by
  have hi : i < n := by have := (List.getElem?_eq_some_iff.mp h).1; rwa [rangeD_len] at this
  unfold rangeD at h
  rw [List.getElem?_map, List.getElem?_range hi] at h
  exact ⟨hi, (Option.some.inj h).symm⟩
theorem wk_range {lo : Int} {n : Nat} : Wk B G0 (Itr lo n) (rangeD lo n) (fun _ _ => True) where
  go := fun {H cs ds i} S h hi => by rw [rangeD_len] at hi; exact hi
  stop := fun {H cs ds i} S h hi => by rw [rangeD_len] at hi; exact hi
  yld := fun {H H' cs ds i x v} S h hx y => by
    obtain ⟨e, y⟩ := y
    obtain ⟨_, rfl⟩ := rangeD_at hx
    subst e y
    exact ⟨Same.refl _, S.push Has.int⟩
def enumD (xs : List PyData) : List PyData := xs.mapIdx fun i x => .tuple [.int (i : Nat), x]
theorem enumD_len (xs : List PyData) : (enumD xs).length = xs.length := by unfold enumD; rw [List.length_mapIdx]
theorem enumD_at {xs : List PyData} {i : Nat} {y : PyData} (h : (enumD xs)[i]? = some y) : ∃ x, xs[i]? = some x ∧ y = .tuple [.int (i : Nat), x] := by
  unfold enumD at h
  rw [List.getElem?_mapIdx] at h
  cases e : xs[i]? with
  | none => rw [e] at h; cases h
  | some x => rw [e] at h; exact ⟨x, rfl, (Option.some.inj h).symm⟩
theorem wk_enum (s : Src B G0 b K a xs P) : Wk B G0 (ItE b K a) (enumD xs) P where
  go := fun {H cs ds i} S h hi => by
    rw [enumD_len] at hi
    obtain ⟨vs, q, hl, _⟩ := s S h
    exact ⟨vs, vs[i]'(by omega), q, List.getElem?_eq_getElem _⟩
  stop := fun {H cs ds i} S h hi => by
    rw [enumD_len] at hi
    obtain ⟨vs, q, hl, _⟩ := s S h
    exact ⟨vs, q, by omega⟩
  yld := fun {H H' cs ds i x v} S h hx y => by
    obtain ⟨x0, hx0, rfl⟩ := enumD_at hx
    obtain ⟨p, u, hu, hp, rfl, rfl⟩ := y
    obtain ⟨vs, q, hl, z⟩ := s S h
    obtain ⟨w, hw, S'⟩ := z i x0 hx0
    have := hu vs q
    rw [hw] at this; cases this
    refine ⟨Same.new hp _, (S'.newT hp (xs := [.int (i : Nat), x0]) (vs := [.int (i : Nat), u]) (.cons Has.int (.cons (.mem (List.mem_cons_self ..)) .nil))).dat fun r hr => .mem ?_⟩
    rcases List.mem_cons.mp hr with rfl | hr
    · exact List.mem_cons_self ..
    · exact List.mem_cons_of_mem _ (List.mem_cons_of_mem _ hr)
def zipD (xs ys : List PyData) : List PyData := List.zipWith (fun x y => .tuple [x, y]) xs ys
theorem zipD_len (xs ys : List PyData) : (zipD xs ys).length = min xs.length ys.length := by unfold zipD; rw [List.length_zipWith]
theorem zipD_at {xs ys : List PyData} {i : Nat} {z : PyData} (h : (zipD xs ys)[i]? = some z) : ∃ x y, xs[i]? = some x ∧ ys[i]? = some y ∧ z = .tuple [x, y] := by
  unfold zipD at h
  rw [List.getElem?_zipWith] at h
  cases e : xs[i]? with
  | none => rw [e] at h; cases h
  | some x =>
    cases e2 : ys[i]? with
    | none => rw [e, e2] at h; cases h
    | some y => rw [e, e2] at h; exact ⟨x, y, rfl, rfl, (Option.some.inj h).symm⟩
theorem wk_zip {a2 : Addr} (s : Src B G0 b K a xs P) (s2 : Src B G0 c K a2 ys P') : Wk B G0 (ItZ b c K a a2) (zipD xs ys) (fun cs ds => P cs ds ∧ (∀ x v, P' cs ds → P' cs ((x, v) :: ds)) ∧ P' cs ds) where
  go := fun {H cs ds i} S h hi => by
    rw [zipD_len] at hi
    obtain ⟨vs, q, hl, _⟩ := s S h.1
    obtain ⟨ws, q2, hl2, _⟩ := s2 S h.2.2
    exact ⟨vs, ws, vs[i]'(by omega), ws[i]'(by omega), q, q2, List.getElem?_eq_getElem _, List.getElem?_eq_getElem _⟩
  stop := fun {H cs ds i} S h hi => by
    rw [zipD_len] at hi
    obtain ⟨vs, q, hl, _⟩ := s S h.1
    obtain ⟨ws, q2, hl2, _⟩ := s2 S h.2.2
    exact ⟨vs, ws, q, q2, by omega⟩
  yld := fun {H H' cs ds i x v} S h hx y => by
    obtain ⟨x0, y0, hx0, hy0, rfl⟩ := zipD_at hx
    obtain ⟨p, u, u2, hu, hu2, hp, rfl, rfl⟩ := y
    obtain ⟨vs, q, hl, z⟩ := s S h.1
    obtain ⟨w, hw, S'⟩ := z i x0 hx0
    obtain ⟨ws, q2, hl2, z2⟩ := s2 S' (h.2.1 _ _ h.2.2)
    obtain ⟨w2, hw2, S''⟩ := z2 i y0 hy0
    have := hu vs q
    rw [hw] at this; cases this
    have := hu2 ws q2
    rw [hw2] at this; cases this
    refine ⟨Same.new hp _, (S''.newT hp (xs := [x0, y0]) (vs := [u, u2]) (.cons (.mem (List.mem_cons_of_mem _ (List.mem_cons_self ..))) (.cons (.mem (List.mem_cons_self ..)) .nil))).dat fun r hr => .mem ?_⟩
    rcases List.mem_cons.mp hr with rfl | hr
    · exact List.mem_cons_self ..
    · exact List.mem_cons_of_mem _ (List.mem_cons_of_mem _ (List.mem_cons_of_mem _ hr))
/-! ### iterables in a reading -/
def kIL (K : PySem.W.Frag) (R : It → Hp → Prop) : VK := fun x H1 => ∃ a, x = .ref a ∧ (∃ xs, SqL K H1 a xs) ∧ R (Itl K a) H1
def kIT (K : PySem.W.Frag) (R : It → Hp → Prop) : VK := fun x H1 => ∃ a, x = .ref a ∧ (∃ xs, SqT K H1 a xs) ∧ R (Itt K a) H1
def kR1 (R : It → Hp → Prop) : List V → Hp → Prop := fun vs H1 => ∃ j : Int, vs = [.int j] ∧ -(2 ^ 62) ≤ j ∧ j < 2 ^ 62 ∧ R (Itr 0 j.toNat) H1
def kR2 (R : It → Hp → Prop) : List V → Hp → Prop := fun vs H1 => ∃ i j : Int, vs = [.int i, .int j] ∧ (-(2 ^ 62) ≤ i ∧ i < 2 ^ 62 ∧ -(2 ^ 62) ≤ j ∧ j < 2 ^ 62) ∧ R (Itr i (j - i).toNat) H1
def kEn (b : Bool) (K : PySem.W.Frag) (R : It → Hp → Prop) : List V → Hp → Prop := fun vs H1 => ∃ a, vs = [.ref a] ∧ (∃ xs, SqB b K H1 a xs) ∧ R (ItE b K a) H1
def kZi (b c : Bool) (K : PySem.W.Frag) (R : It → Hp → Prop) : List V → Hp → Prop := fun vs H1 => ∃ a1 a2, vs = [.ref a1, .ref a2] ∧ (∃ xs, SqB b K H1 a1 xs) ∧ (∃ ys, SqB c K H1 a2 ys) ∧ R (ItZ b c K a1 a2) H1
section
variable {σ : L2.St} {R : It → Hp → Prop} {tl : TE} {ta : TA}
theorem rd_iList (h : tl σ H (kIL K R)) : iList K tl σ H R := h
theorem rd_iTup (h : tl σ H (kIT K R)) : iTup K tl σ H R := h
theorem rd_iR1 (h : ta σ H (kR1 R)) : iRng1 ta σ H R := h
theorem rd_iR2 (h : ta σ H (kR2 R)) : iRng2 ta σ H R := h
theorem rd_iEn (h : ta σ H (kEn b K R)) : iEnum b K ta σ H R := h
theorem rd_iZi (h : ta σ H (kZi b c K R)) : iZip b c K ta σ H R := h
theorem rd_kIL (S : Sta B G0 H cs ds) (s : Src B G0 true K a xs P) (hP : P cs ds) (k : ∀ J, Wk B G0 J xs P → R J H) : kIL K R (.ref a) H := by
  obtain ⟨vs, q, _⟩ := s S hP
  exact ⟨a, rfl, ⟨_, q⟩, k _ (wk_list s)⟩
theorem rd_kIT (S : Sta B G0 H cs ds) (s : Src B G0 false K a xs P) (hP : P cs ds) (k : ∀ J, Wk B G0 J xs P → R J H) : kIT K R (.ref a) H := by
  obtain ⟨vs, q, _⟩ := s S hP
  exact ⟨a, rfl, ⟨_, q⟩, k _ (wk_tup s)⟩
theorem rd_kR1 {j : Int} (B G0 : Hp) (h1 : -1000 ≤ j) (h2 : j ≤ 1000000) (k : ∀ J, Wk B G0 J (rangeD 0 j.toNat) (fun _ _ => True) → R J H) : kR1 R [.int j] H := ⟨j, rfl, by omega, by omega, k _ wk_range⟩
theorem rd_kR2 {i j : Int} (B G0 : Hp) (h1 : -1000 ≤ i ∧ i ≤ 1000000) (h2 : -1000 ≤ j ∧ j ≤ 1000000) (k : ∀ J, Wk B G0 J (rangeD i (j - i).toNat) (fun _ _ => True) → R J H) : kR2 R [.int i, .int j] H := ⟨i, j, rfl, ⟨by omega, by omega, by omega, by omega⟩, k _ wk_range⟩
theorem rd_kEn (S : Sta B G0 H cs ds) (s : Src B G0 b K a xs P) (hP : P cs ds) (k : ∀ J, Wk B G0 J (enumD xs) P → R J H) : kEn b K R [.ref a] H := by
  obtain ⟨vs, q, _⟩ := s S hP
  exact ⟨a, rfl, ⟨_, q⟩, k _ (wk_enum s)⟩
theorem rd_kZi {a2 : Addr} (S : Sta B G0 H cs ds) (s : Src B G0 b K a xs P) (hP : P cs ds) (s2 : Src B G0 c K a2 ys P') (hP' : P' cs ds) (k : ∀ J, Wk B G0 J (zipD xs ys) (fun cs ds => P cs ds ∧ (∀ x v, P' cs ds → P' cs ((x, v) :: ds)) ∧ P' cs ds) → R J H) : kZi b c K R [.ref a, .ref a2] H := by
  obtain ⟨vs, q, _⟩ := s S hP
  obtain ⟨ws, q2, _⟩ := s2 S hP'
  exact ⟨a, a2, rfl, ⟨_, q⟩, ⟨_, q2⟩, k _ (wk_zip s s2)⟩
end
/-- unpacking -/
def kGT (K : PySem.W.Frag) (n : Nat) (t : TGs) (σ : L2.St) (N : L2.St → Hp → Prop) : VK := fun v H => ∃ a xs, v = .ref a ∧ SqT K H a xs ∧ xs.length = n ∧ t xs σ H N
theorem rd_gTup {n : Nat} {t : TGs} {σ : L2.St} {N : L2.St → Hp → Prop} (h : kGT K n t σ N v H) : gTup K n t v σ H N := h
theorem rd_kGT {n : Nat} {t : TGs} {σ : L2.St} {N : L2.St → Hp → Prop} (S : Sta B G0 H cs ds) (h : Has ds (.tuple xs) v) (hn : xs.length = n) (k : ∀ vs, xs.length = vs.length → Sta B G0 H cs (xs.zip vs ++ ds) → t vs σ H N) : kGT K n t σ N v H := by
  obtain ⟨p, vs, rfl, hp, hl, S', _⟩ := S.tupAll h
  exact ⟨p, vs, rfl, SqT.of hp, by omega, k vs hl S'⟩
theorem rd_kGT2 {t : TGs} {σ : L2.St} {N : L2.St → Hp → Prop} {x y : PyData} (S : Sta B G0 H cs ds) (h : Has ds (.tuple [x, y]) v) (k : ∀ w1 w2, Sta B G0 H cs ((x, w1) :: (y, w2) :: ds) → t [w1, w2] σ H N) : kGT K 2 t σ N v H := by
  refine rd_kGT S h rfl fun vs hl S' => ?_
  match vs, hl with
  | [w1, w2], _ => exact k w1 w2 S'
theorem rd_kGT3 {t : TGs} {σ : L2.St} {N : L2.St → Hp → Prop} {x y z : PyData} (S : Sta B G0 H cs ds) (h : Has ds (.tuple [x, y, z]) v) (k : ∀ w1 w2 w3, Sta B G0 H cs ((x, w1) :: (y, w2) :: (z, w3) :: ds) → t [w1, w2, w3] σ H N) : kGT K 3 t σ N v H := by
  refine rd_kGT S h rfl fun vs hl S' => ?_
  match vs, hl with
  | [w1, w2, w3], _ => exact k w1 w2 w3 S'
theorem rd_gCons {t : TG} {u : TGs} {σ : L2.St} {N : L2.St → Hp → Prop} {vs : List V} (h : t v σ H fun σ' H' => u vs σ' H' N) : gCons t u (v :: vs) σ H N := ⟨v, vs, rfl, h⟩
theorem rd_gNil {σ : L2.St} {N : L2.St → Hp → Prop} (h : N σ H) : gNil [] σ H N := ⟨rfl, h⟩
/-! ### for -/
def kFor (g : TG) (tb : TS) (D : Ends) (σ : L2.St) : It → Hp → Prop := fun J H1 => ∃ W : Nat → Nat → L2.St → Hp → Prop, (∃ m, W 0 m σ H1) ∧ ∀ i m σ H, W i m σ H →
  (J.stop i H ∧ D.nx σ H) ∨ (J.go i H ∧ ∃ N : L2.St → Hp → Prop, (∀ σ' H', N σ' H' → ∃ m', m' < m ∧ W (i + 1) m' σ' H') ∧ ∀ x H', J.yld i H x H' → g x σ H' fun σ2 H2 => tb { D with nx := N, ct := N, bk := D.nx } σ2 H2)
theorem rd_for {wi : TI} {g : TG} {tb : TS} {D : Ends} {σ : L2.St} (h : wi σ H (kFor g tb D σ)) : tFor wi g tb D σ H := h
def AtP (B G0 : Hp) (Pv : L2.St → Cells → Dat → Prop) : L2.St → Hp → Prop := fun σ H => ∃ cs ds, Sta B G0 H cs ds ∧ Pv σ cs ds
theorem rd_at {Pv : L2.St → Cells → Dat → Prop} {σ : L2.St} (S : Sta B G0 H cs ds) (h : Pv σ cs ds) : AtP B G0 Pv σ H := ⟨cs, ds, S, h⟩
theorem for_wk {J : It} {g : TG} {tb : TS} {D : Ends} {σ : L2.St} (w : Wk B G0 J xs P) (Pv : Nat → L2.St → Cells → Dat → Prop) (S : Sta B G0 H cs ds) (h0 : Pv 0 σ cs ds) (hP : ∀ i σ cs ds, Pv i σ cs ds → P cs ds)
    (hs : ∀ (i : Nat) (x : PyData) (v : V) (σ : L2.St) (H : Hp) (cs : Cells) (ds : Dat), xs[i]? = some x → Pv i σ cs ds → Sta B G0 H cs ((x, v) :: ds) → g v σ H fun σ2 H2 => tb (mkL D (AtP B G0 (Pv (i + 1)))) σ2 H2)
    (hd : ∀ (σ : L2.St) (H : Hp) (cs : Cells) (ds : Dat), Pv xs.length σ cs ds → Sta B G0 H cs ds → D.nx σ H) : kFor g tb D σ J H := by
  refine ⟨fun i m σ H => m = xs.length - i ∧ i ≤ xs.length ∧ AtP B G0 (Pv i) σ H, ⟨xs.length, by simp, Nat.zero_le _, cs, ds, S, h0⟩, ?_⟩
  rintro i m σ H ⟨rfl, hi, cs, ds, S, p⟩
  by_cases hlt : i < xs.length
  · refine .inr ⟨w.go S (hP _ _ _ _ p) hlt, AtP B G0 (Pv (i + 1)), fun σ' H' p' => ⟨xs.length - (i + 1), by omega, rfl, hlt, p'⟩, fun x H' y => ?_⟩
    exact hs i _ x σ H' cs ds (List.getElem?_eq_getElem hlt) p (w.yld S (hP _ _ _ _ p) (List.getElem?_eq_getElem hlt) y).2
  · have e : i = xs.length := by omega
    subst e
    exact .inl ⟨w.stop S (hP _ _ _ _ p) (Nat.le_refl _), hd σ H cs ds p S⟩
/-! ### while -/
def WP (B G0 : Hp) (Pv : Nat → L2.St → Cells → Dat → Prop) : Nat → L2.St → Hp → Prop := fun m σ H => AtP B G0 (Pv m) σ H
def kWh (W : Nat → L2.St → Hp → Prop) (tb : TS) (D : Ends) (m : Nat) (σ : L2.St) : Bool → Hp → Prop := fun b H1 => if b = true then ∃ N : L2.St → Hp → Prop, (∀ σ' H', N σ' H' → ∃ m', m' < m ∧ W m' σ' H') ∧ tb { D with nx := N, ct := N, bk := D.nx } σ H1 else D.nx σ H1
theorem rd_wh {tb : TS} {D : Ends} {m : Nat} {σ : L2.St} {b : Bool} {W : Nat → L2.St → Hp → Prop} (h1 : b = true → tb (mkL D (fun σ' H' => ∃ m', m' < m ∧ W m' σ' H')) σ H)
    (h2 : b = false → D.nx σ H) : kWh W tb D m σ b H := by
  cases b with
  | true => exact ⟨_, fun σ' H' q => q, h1 rfl⟩
  | false => exact h2 rfl
theorem while_h {c : TT} {tb : TS} {D : Ends} {σ : L2.St} (W : Nat → L2.St → Hp → Prop) (m : Nat) (h0 : W m σ H) (hs : ∀ (m : Nat) (σ : L2.St) (H : Hp), W m σ H → c σ H (kWh W tb D m σ)) : tWhile c tb D σ H := ⟨W, ⟨m, h0⟩, hs⟩
theorem while_sta {c : TT} {tb : TS} {D : Ends} {σ : L2.St} (Pv : Nat → L2.St → Cells → Dat → Prop) (m : Nat) (S : Sta B G0 H cs ds) (h0 : Pv m σ cs ds)
    (hs : ∀ (m : Nat) (σ : L2.St) (H : Hp) (cs : Cells) (ds : Dat), Pv m σ cs ds → Sta B G0 H cs ds → c σ H (kWh (WP B G0 Pv) tb D m σ)) : tWhile c tb D σ H :=
  ⟨WP B G0 Pv, ⟨m, cs, ds, S, h0⟩, fun m σ H ⟨cs, ds, S, p⟩ => hs m σ H cs ds p S⟩
/-! ### comprehensions -/
def kComp (n : Nat) (fr : List Nat) (g : Blk TG) (tt : Blk TT) (te : Blk TE) (σ : L2.St) (Q : VK) : It → Hp → Prop := fun J H1 => ∀ D, H1 D = none → ∀ C ex s0 H0,
  ∃ W : Nat → Nat → List V → Hp → Prop, (∃ m, W 0 m [] (upd H1 D (.lst []))) ∧ ∀ i m ys H2, W i m ys H2 → H2 D = some (.lst ys) ∧
    ((J.stop i H2 ∧ Q (.ref D) H2) ∨ (J.go i H2 ∧ ∀ x H3, J.yld i H2 x H3 → g C ex s0 H0 x (List.replicate n none ++ frσ σ fr) H3 fun σ4 H4 => σ4.drop n = frσ σ fr ∧ tt C ex s0 H0 σ4 H4 fun b H5 =>
      if b = true then te C ex s0 H0 σ4 H5 fun y H6 => H6 D = some (.lst ys) ∧ ys.length < sizeLine ∧ ∃ m', m' < m ∧ W (i + 1) m' (ys ++ [y]) (upd H6 D (.lst (ys ++ [y])))
      else ∃ m', m' < m ∧ W (i + 1) m' ys H5))
theorem rd_comp {n : Nat} {fr : List Nat} {wi : TI} {g : Blk TG} {tt : Blk TT} {te : Blk TE} {σ : L2.St} {Q : VK} (h : wi σ H (kComp n fr g tt te σ Q)) : tComp n fr wi g tt te σ H Q := h
/-- the state of a turn -/
structure Turn1 (B G0 : Hp) (cs : Cells) (B' G' : Hp) : Prop where
  b : Same B B'
  ro : ∀ c ∈ cs, Ro B' G' c.1 c.2
  old : ∀ {L : Addr} {xs : List PyData}, Ro B G0 L xs → Ro B' G' L xs
theorem comp_wk {J : It} {n : Nat} {fr : List Nat} {g : Blk TG} {tt : Blk TT} {te : Blk TE} {σ : L2.St} {Q : VK} (w : Wk B G0 J xs P) (f : Nat → Option PyData) (S : Sta B G0 H cs ds) (hPm : ∀ D ys, P ((D, ys) :: cs) ds) (hn : xs.length ≤ 1000)
    (hs : ∀ (i : Nat) (x : PyData) (v : V) (B' G' : Hp) (Kd : VK) (Kn : Hp → Prop), xs[i]? = some x → Turn1 B G0 cs B' G' → Sta B' G' B' [] ((x, v) :: ds) →
      (∀ {z : PyData} {y : V} {H6 : Hp} {cs' : Cells} {ds' : Dat}, f i = some z → Sta B' G' H6 cs' ds' → Has ds' z y → Kd y H6) → (∀ {H5 : Hp} {cs' : Cells} {ds' : Dat}, f i = none → Sta B' G' H5 cs' ds' → Kn H5) →
      ∀ C ex s0 H0, g C ex s0 H0 v (List.replicate n none ++ frσ σ fr) B' fun σ4 H4 => σ4.drop n = frσ σ fr ∧ tt C ex s0 H0 σ4 H4 fun b H5 => if b = true then te C ex s0 H0 σ4 H5 Kd else Kn H5)
    (k : ∀ D H', Same H H' → Sta B G0 H' ((D, (List.range xs.length).filterMap f) :: cs) ds → Q (.ref D) H') : kComp n fr g tt te σ Q J H := by
  intro D hD C ex s0 H0
  have len : ∀ i, ((List.range i).filterMap f).length ≤ i := fun i => Nat.le_trans (List.length_filterMap_le _ _) (by rw [List.length_range]; exact Nat.le_refl _)
  refine ⟨fun i m ys H2 => m = xs.length - i ∧ i ≤ xs.length ∧ H2 D = some (.lst ys) ∧ Same H H2 ∧ Sta B G0 H2 ((D, (List.range i).filterMap f) :: cs) ds, ⟨xs.length, by simp, Nat.zero_le _, upd_same, Same.new hD _, S.newL hD .nil⟩, ?_⟩
  rintro i m ys H2 ⟨rfl, hi, hDl, hS, S2⟩
  refine ⟨hDl, ?_⟩
  by_cases hlt : i < xs.length
  · refine .inr ⟨w.go S2 (hPm _ _) hlt, fun v H3 y => ?_⟩
    obtain ⟨e3, G3, S3⟩ := w.yld S2 (hPm _ _) (List.getElem?_eq_getElem hlt) y
    obtain ⟨a, b, c, d, e, f', g'⟩ := id S3
    have h3D : H3 D = some (.lst ys) := e3 _ _ hDl
    have t1 : Turn1 B G0 cs H3 G3 := by
      refine ⟨c, fun q hq => ?_, fun {L zs} ⟨r1, vs, r2, r3⟩ => ?_⟩
      · obtain ⟨_, y', vs, z', u'⟩ := e q (List.mem_cons_of_mem _ hq)
        exact ⟨y', vs, z', u'⟩
      · exact ⟨by rw [d L (by rw [r2]; simp)]; exact r1, vs, c _ _ r2, IsAll.mono a _ _ r3⟩
    have up : ∀ {H6 : Hp} {cs' : Cells} {ds' : Dat} {o : HO}, Same H H3 → H D = none → Same H H6 → Same H (upd H6 D o) := fun {H6 cs' ds' o} _ hn h q u hq => by
      rw [upd_ne (ne_of_none hq hn)]; exact h _ _ hq
    refine hs i _ v H3 G3 _ _ (List.getElem?_eq_getElem hlt) t1 (Sta.enter b g') ?_ ?_ C ex s0 H0
    · intro z y6 H6 cs' ds' fz S6 hz
      obtain ⟨G6, gr, al⟩ := S6.leave
      have h6D : H6 D = some (.lst ys) := gr.h _ _ h3D
      have S6' : StaG B G0 H6 ((D, (List.range i).filterMap f) :: cs) ((xs[i], v) :: ds) G6 := S3.grow gr
      have S7 : Sta B G0 H6 ((D, (List.range i).filterMap f) :: cs) ((z, y6) :: ds) := by
        obtain ⟨a', b', c', d', e', f'', g''⟩ := S6'
        exact ⟨G6, a', b', c', d', e', f'', AllIs.cons (fun p hp => g'' p (List.mem_cons_of_mem _ hp)) (hz G6 al)⟩
      obtain ⟨vs, hv, hl, put⟩ := S7.put
      rw [h6D] at hv
      cases hv
      refine ⟨h6D, small1000 (by have := len i; omega), xs.length - (i + 1), by omega, rfl, hlt, upd_same, up (cs' := cs') (ds' := ds') (hS.trans e3) hD ((hS.trans e3).trans gr.h), ?_⟩
      have er : (List.range (i + 1)).filterMap f = (List.range i).filterMap f ++ [z] := by
        rw [List.range_succ, List.filterMap_append]; simp [fz]
      rw [er]
      exact (put _ _ fun G a u => u.app (by rw [IsAll]; exact ⟨y6, [], rfl, a _ (List.mem_cons_self ..), by rw [IsAll]⟩)).drop1
    · intro H5 cs' ds' fz S5
      obtain ⟨G5, gr, al⟩ := S5.leave
      have S5' : Sta B G0 H5 ((D, (List.range i).filterMap f) :: cs) ((xs[i], v) :: ds) := ⟨G5, S3.grow gr⟩
      have er : (List.range (i + 1)).filterMap f = (List.range i).filterMap f := by
        rw [List.range_succ, List.filterMap_append]; simp [fz]
      exact ⟨xs.length - (i + 1), by omega, rfl, hlt, gr.h _ _ h3D, (hS.trans e3).trans gr.h, by rw [er]; exact S5'.drop1⟩
  · have e : i = xs.length := by omega
    subst e
    exact .inl ⟨w.stop S2 (hPm _ _) (Nat.le_refl _), k D H2 hS S2⟩
/-- without an if: a map -/
theorem fm_some {α β : Type} (g : α → β) (l : List α) : l.filterMap (fun i => some (g i)) = l.map g := by
  induction l with
  | nil => rfl
  | cons a l ih => simp [ih]
theorem comp_map {J : It} {n : Nat} {fr : List Nat} {g : Blk TG} {tt : Blk TT} {te : Blk TE} {σ : L2.St} {Q : VK} (w : Wk B G0 J xs P) (f : Nat → PyData) (hy : (List.range xs.length).map f = ys) (S : Sta B G0 H cs ds) (hPm : ∀ D ys, P ((D, ys) :: cs) ds) (hn : xs.length ≤ 1000)
    (hs : ∀ (i : Nat) (x : PyData) (v : V) (B' G' : Hp) (Kd : VK) (Kn : Hp → Prop), xs[i]? = some x → Turn1 B G0 cs B' G' → Sta B' G' B' [] ((x, v) :: ds) →
      (∀ {y : V} {H6 : Hp} {cs' : Cells} {ds' : Dat}, Sta B' G' H6 cs' ds' → Has ds' (f i) y → Kd y H6) →
      ∀ C ex s0 H0, g C ex s0 H0 v (List.replicate n none ++ frσ σ fr) B' fun σ4 H4 => σ4.drop n = frσ σ fr ∧ tt C ex s0 H0 σ4 H4 fun b H5 => if b = true then te C ex s0 H0 σ4 H5 Kd else Kn H5)
    (k : ∀ D H', Same H H' → Sta B G0 H' ((D, ys) :: cs) ds → Q (.ref D) H') : kComp n fr g tt te σ Q J H := by
  refine comp_wk w (fun i => some (f i)) S hPm hn (fun i x v B' G' Kd Kn hx t1 S' hd _ => hs i x v B' G' Kd Kn hx t1 S' fun {y H6 cs' ds'} a b => hd rfl a b) fun D H' e S' => k D H' e ?_
  rw [fm_some, hy] at S'
  exact S'
theorem rd_kILd {R : It → Hp → Prop} (S : Sta B G0 H cs ds) (h : Has ds (.list xs) v) (k : ∀ J, Wk B G0 J xs (fun _ ds => Has ds (.list xs) v) → R J H) : kIL K R v H := by
  obtain ⟨p, vs, rfl, hp, _⟩ := S.lst h
  exact ⟨p, rfl, ⟨_, SqL.of hp⟩, k _ (wk_list src_list)⟩
theorem rd_kITd {R : It → Hp → Prop} (S : Sta B G0 H cs ds) (h : Has ds (.tuple xs) v) (k : ∀ J, Wk B G0 J xs (fun _ ds => Has ds (.tuple xs) v) → R J H) : kIT K R v H := by
  obtain ⟨p, vs, rfl, hp, _⟩ := S.tup h
  exact ⟨p, rfl, ⟨_, SqT.of hp⟩, k _ (wk_tup src_tup)⟩
theorem rd_kILc {R : It → Hp → Prop} {L : Addr} (S : Sta B G0 H cs ds) (h : (L, xs) ∈ cs) (k : ∀ J, Wk B G0 J xs (fun cs _ => (L, xs) ∈ cs) → R J H) : kIL K R (.ref L) H := by
  obtain ⟨vs, hp, _⟩ := S.cell h
  exact ⟨L, rfl, ⟨_, SqL.of hp⟩, k _ (wk_list src_cell)⟩
theorem rd_kEnT {R : It → Hp → Prop} (S : Sta B G0 H cs ds) (h : Has ds (.tuple xs) v) (k : ∀ J, Wk B G0 J (enumD xs) (fun _ ds => Has ds (.tuple xs) v) → R J H) : kEn false K R [v] H := by
  obtain ⟨p, vs, rfl, hp, _⟩ := S.tup h
  exact ⟨p, rfl, ⟨_, SqT.of hp⟩, k _ (wk_enum src_tup)⟩
theorem rd_kEnL {R : It → Hp → Prop} (S : Sta B G0 H cs ds) (h : Has ds (.list xs) v) (k : ∀ J, Wk B G0 J (enumD xs) (fun _ ds => Has ds (.list xs) v) → R J H) : kEn true K R [v] H := by
  obtain ⟨p, vs, rfl, hp, _⟩ := S.lst h
  exact ⟨p, rfl, ⟨_, SqL.of hp⟩, k _ (wk_enum src_list)⟩
theorem rd_kZiTT {R : It → Hp → Prop} {w : V} (S : Sta B G0 H cs ds) (h : Has ds (.tuple xs) v) (h2 : Has ds (.tuple ys) w) (k : ∀ J, Wk B G0 J (zipD xs ys) (fun cs ds => Has ds (.tuple xs) v ∧ (∀ x u, Has ds (.tuple ys) w → Has ((x, u) :: ds) (.tuple ys) w) ∧ Has ds (.tuple ys) w) → R J H) : kZi false false K R [v, w] H := by
  obtain ⟨p, vs, rfl, hp, _⟩ := S.tup h
  obtain ⟨q, ws, rfl, hq, _⟩ := S.tup h2
  exact ⟨p, q, rfl, ⟨_, SqT.of hp⟩, ⟨_, SqT.of hq⟩, k _ (wk_zip src_tup src_tup)⟩
theorem Sta.refL (S : Sta B G0 H cs ds) (h : Has ds (.list xs) v) : ∃ a, v = .ref a := let ⟨p, _, e, _⟩ := S.lst h; ⟨p, e⟩
theorem Sta.refT (S : Sta B G0 H cs ds) (h : Has ds (.tuple xs) v) : ∃ a, v = .ref a := let ⟨p, _, e, _⟩ := S.tup h; ⟨p, e⟩
/-! ### what a def promises -/
section
variable {α : Type}
/-- data in, data out -/
def spT (enc : α → List PyData) (dom : α → Prop) (res : α → PyData) : Sp := fun vs H Q _ => ∃ (G : Hp) (a : α), Same G H ∧ IsAll G (enc a) vs ∧ dom a ∧ ∀ v H' G', Grow G H G' H' → Is G' (res a) v → Q v H'
/-- .. a new list -/
def spL (enc : α → List PyData) (dom : α → Prop) (res : α → List PyData) : Sp := fun vs H Q _ => ∃ (G : Hp) (a : α), Same G H ∧ IsAll G (enc a) vs ∧ dom a ∧ ∀ p H' G' us, Grow G H G' H' → H p = none → G' p = none → H' p = some (.lst us) → IsAll G' (res a) us → Q (.ref p) H'
/-- .. a bool, an int -/
def spB (enc : α → List PyData) (dom : α → Prop) (res : α → V) : Sp := fun vs H Q _ => ∃ (a : α), IsAll H (enc a) vs ∧ dom a ∧ ∀ H', Same H H' → Q (res a) H'
variable {enc : α → List PyData} {dom : α → Prop} {res : α → PyData} {resL : α → List PyData} {resB : α → V} {Q : VK} {E : XK} {vs : List V}
theorem rd_spT (a : α) (S : Sta B G0 H cs ds) (hx : HasAll ds (enc a) vs) (hd : dom a) (k : ∀ v H', Same H H' → Sta B G0 H' cs ((res a, v) :: ds) → Q v H') : spT enc dom res vs H Q E := by
  obtain ⟨G, S⟩ := S
  refine ⟨G, a, S.2.1, hx G S.2.2.2.2.2.2, hd, fun v H' G' gr hv => k v H' gr.h ?_⟩
  obtain ⟨a', b', c', d', e', f', g'⟩ := S.grow gr
  exact ⟨G', a', b', c', d', e', f', g'.cons hv⟩
theorem rd_spL (a : α) (S : Sta B G0 H cs ds) (hx : HasAll ds (enc a) vs) (hd : dom a) (k : ∀ p H', Same H H' → Sta B G0 H' ((p, resL a) :: cs) ds → Q (.ref p) H') : spL enc dom resL vs H Q E := by
  obtain ⟨G, S⟩ := S
  refine ⟨G, a, S.2.1, hx G S.2.2.2.2.2.2, hd, fun p H' G' us gr hp hg hu hv => k p H' gr.h ?_⟩
  have hc := S.2.2.1.free hp
  obtain ⟨_, _, _, _, e0, _, _⟩ := id S
  obtain ⟨a', b', c', d', e', f', g'⟩ := S.grow gr
  refine ⟨G', a', b', c', d', fun q hq => ?_, ?_, g'⟩
  · rcases List.mem_cons.mp hq with rfl | hq
    · exact ⟨hc, hg, us, hu, hv⟩
    · exact e' q hq
  · rw [List.map_cons, List.nodup_cons]
    refine ⟨fun z => ?_, f'⟩
    obtain ⟨q, hq, hqp⟩ := List.mem_map.mp z
    obtain ⟨_, _, ws, z, _⟩ := e0 q hq
    rw [hqp, hp] at z; cases z
theorem rd_spB (a : α) (hx : IsAll H (enc a) vs) (hd : dom a) (k : ∀ H', Same H H' → Q (resB a) H') : spB enc dom resB vs H Q E := ⟨a, hx, hd, k⟩
theorem Sta.hpAll (S : Sta B G0 H cs ds) {xs : List PyData} (h : HasAll ds xs vs) : IsAll H xs vs := by
  obtain ⟨G, a, b, c, d, e, f, g⟩ := S
  exact IsAll.mono b _ _ (h G g)
/-- the end of a def -/
theorem ret_T {G H' : Hp} {r : PyData} {v : V} (S : Sta H G H' cs ds) (k : ∀ v H' G', Grow G H G' H' → Is G' r v → Q v H') (h : Has ds r v) : Q v H' :=
  let ⟨G', gr, al⟩ := S.leave; k v H' G' gr (h G' al)
theorem ret_L {G H' : Hp} {r : List PyData} {p : Addr} (S : Sta H G H' ((p, r) :: cs) ds) (k : ∀ p H' G' us, Grow G H G' H' → H p = none → G' p = none → H' p = some (.lst us) → IsAll G' r us → Q (.ref p) H') : Q (.ref p) H' := by
  obtain ⟨G', a, b, c, d, e, f, g⟩ := S
  obtain ⟨x, y, us, z, u⟩ := e _ (List.mem_cons_self ..)
  exact k p H' G' us ⟨c, a, b, d⟩ x y z u
theorem ret_B {G H' : Hp} {r : V} (S : Sta H G H' cs ds) (k : ∀ H', Same H H' → Q r H') : Q r H' := k H' S.base
/-- the start of a def -/
theorem isAll1 {G : Hp} {x : PyData} {vs : List V} (h : IsAll G [x] vs) : ∃ v, vs = [v] ∧ AllIs G [(x, v)] := by
  simp only [IsAll] at h
  obtain ⟨v, _, rfl, h1, rfl⟩ := h
  exact ⟨v, rfl, fun p hp => by simp at hp; subst hp; exact h1⟩
theorem isAll2 {G : Hp} {x y : PyData} {vs : List V} (h : IsAll G [x, y] vs) : ∃ v w, vs = [v, w] ∧ AllIs G [(x, v), (y, w)] := by
  simp only [IsAll] at h
  obtain ⟨v, _, rfl, h1, w, _, rfl, h2, rfl⟩ := h
  exact ⟨v, w, rfl, fun p hp => by simp at hp; rcases hp with rfl | rfl <;> assumption⟩
theorem isAll3 {G : Hp} {x y z : PyData} {vs : List V} (h : IsAll G [x, y, z] vs) : ∃ v w u, vs = [v, w, u] ∧ AllIs G [(x, v), (y, w), (z, u)] := by
  simp only [IsAll] at h
  obtain ⟨v, _, rfl, h1, w, _, rfl, h2, u, _, rfl, h3, rfl⟩ := h
  exact ⟨v, w, u, rfl, fun p hp => by simp at hp; rcases hp with rfl | rfl | rfl <;> assumption⟩
theorem Is.int_of {G : Hp} {i : Int} {v : V} (h : Is G (.int i) v) : v = .int i := by rw [Is] at h; exact h
end
end
end S

namespace S
def addV (a b : List Int) : List Int := List.zipWith (· + ·) a b
def cornAt (B : Int) (h : List Int) : Rat × List Rat := (Rat.divInt h.sum B, h.map fun x => Rat.divInt x B)
def cornersFrom (B : Int) : List Int → List (List Int) → List (Rat × List Rat)
  | _, [] => []
  | h, s :: r => cornAt B (addV h s) :: cornersFrom B (addV h s) r
def par (c t : List Int) : Prop := c.map (· * t.sum) = t.map (· * c.sum)
instance (c t : List Int) : Decidable (par c t) := inferInstanceAs (Decidable (_ = _))
def thinFrom : List Int → List (List Int) → List (List Int)
  | c, [] => [c]
  | c, s :: r => if par c s then thinFrom (addV c s) r else c :: thinFrom s r
def thinS : List (List Int) → List (List Int)
  | [] => []
  | s :: r => thinFrom s r
open Classical in
noncomputable def keepFrom (a : Rat × List Rat) : List (Rat × List Rat) → List (Rat × List Rat)
  | [] => []
  | [b] => [b]
  | b :: c :: r => if straight a b c then keepFrom b (c :: r) else b :: keepFrom b (c :: r)
theorem addV_len {a b : List Int} {m : Nat} (ha : a.length = m) (hb : b.length = m) : (addV a b).length = m := by
  unfold addV; rw [List.length_zipWith]; omega
theorem addV_get {a b : List Int} {i : Nat} {x y : Int} (ha : a[i]? = some x) (hb : b[i]? = some y) : (addV a b)[i]? = some (x + y) := by
  unfold addV; rw [List.getElem?_zipWith, ha, hb]
theorem addV_sum : ∀ {a b : List Int}, a.length = b.length → (addV a b).sum = a.sum + b.sum
  | [], [], _ => by simp [addV]
  | x :: a, y :: b, h => by
    have ih := addV_sum (a := a) (b := b) (by simpa using h)
    unfold addV at *
    simp only [List.zipWith_cons_cons, List.sum_cons, ih]
    omega
  | [], _ :: _, h => by simp at h
  | _ :: _, [], h => by simp at h
theorem addV_assoc : ∀ (a b c : List Int), addV (addV a b) c = addV a (addV b c)
  | [], b, c => by simp [addV]
  | _ :: _, [], c => by simp [addV]
  | _ :: _, _ :: _, [] => by simp [addV]
  | x :: a, y :: b, z :: c => by
    have ih := addV_assoc a b c
    unfold addV at *
    simp only [List.zipWith_cons_cons, ih, Int.add_assoc]
theorem par_iff {c t : List Int} (h : c.length = t.length) : par c t ↔ ∀ (i : Nat) (a b : Int), c[i]? = some a → t[i]? = some b → a * t.sum = b * c.sum := by
  unfold par
  constructor
  · intro e i a b ha hb
    have := congrArg (fun l => l[i]?) e
    simp only [List.getElem?_map, ha, hb, Option.map_some, Option.some.injEq] at this
    exact this
  · intro e
    apply List.ext_getElem?
    intro i
    simp only [List.getElem?_map]
    cases ha : c[i]? with
    | none =>
      have : t[i]? = none := by rw [List.getElem?_eq_none_iff] at ha ⊢; omega
      rw [this]; rfl
    | some a =>
      have hi : i < t.length := by rw [← h]; exact (List.getElem?_eq_some_iff.mp ha).1
      rw [List.getElem?_eq_getElem hi]
      simp only [Option.map_some, Option.some.injEq]
      exact e i a _ ha (List.getElem?_eq_getElem hi)
theorem par_refl (c : List Int) : par c c := rfl
theorem par_swap {c s t : List Int} (h1 : c.length = s.length) (h2 : c.length = t.length) (hc : 0 < c.sum) (hs : 0 < s.sum) (h : par c s) : par c t ↔ par s t := by
  rw [par_iff h1] at h
  rw [par_iff h2, par_iff (h1 ▸ h2)]
  constructor
  · intro g i a b ha hb
    have hi : i < c.length := by rw [h1]; exact (List.getElem?_eq_some_iff.mp ha).1
    have e1 := h i _ a (List.getElem?_eq_getElem hi) ha
    have e2 := g i _ b (List.getElem?_eq_getElem hi) hb
    generalize c[i] = x at *
    have : (a * t.sum) * c.sum = (b * s.sum) * c.sum := by grind
    exact Int.eq_of_mul_eq_mul_right (by omega) this
  · intro g i a b ha hb
    have hi : i < s.length := by rw [← h1]; exact (List.getElem?_eq_some_iff.mp ha).1
    have e1 := h i a _ ha (List.getElem?_eq_getElem hi)
    have e2 := g i _ b (List.getElem?_eq_getElem hi) hb
    generalize s[i] = x at *
    have : (a * t.sum) * s.sum = (b * c.sum) * s.sum := by grind
    exact Int.eq_of_mul_eq_mul_right (by omega) this
theorem par_add {c t : List Int} (h : c.length = t.length) (g : par c t) : par (addV c t) t := by
  have hl : (addV c t).length = t.length := addV_len h rfl
  rw [par_iff h] at g
  rw [par_iff hl, addV_sum h]
  intro i a b ha hb
  have hi : i < c.length := by rw [h]; exact (List.getElem?_eq_some_iff.mp hb).1
  have e := g i _ b (List.getElem?_eq_getElem hi) hb
  rw [addV_get (List.getElem?_eq_getElem hi) hb] at ha
  have ha' : c[i] + b = a := Option.some.inj ha
  generalize c[i] = x at *
  subst ha'
  grind
theorem div_c (x B : Int) : Rat.divInt x B = (x : Rat) * (B : Rat)⁻¹ := by rw [Rat.divInt_eq_div, Rat.div_def]
theorem str_iff {B : Int} (hB : 0 < B) {q s t : List Int} {m : Nat} (hq : q.length = m) (hs : s.length = m) (ht : t.length = m) :
    straight (cornAt B q) (cornAt B (addV q s)) (cornAt B (addV (addV q s) t)) ↔ par s t := by
  have hqs := addV_len hq hs
  have hk : (B : Rat)⁻¹ ≠ 0 := by
    have : (B : Rat) ≠ 0 := fun z => by
      have := Rat.intCast_inj.mp (z.trans Rat.intCast_zero.symm); omega
    exact fun z => this (by rw [← Rat.inv_inv (B : Rat), z]; exact Rat.inv_zero)
  have e1 : (addV q s).sum = q.sum + s.sum := addV_sum (by omega)
  have e2 : (addV (addV q s) t).sum = q.sum + s.sum + t.sum := by rw [addV_sum (by omega), e1]
  have key : ∀ (x y z : Int), (Rat.divInt (x + y) B - Rat.divInt x B) * (Rat.divInt (q.sum + s.sum + t.sum) B - Rat.divInt q.sum B) = (Rat.divInt (x + y + z) B - Rat.divInt x B) * (Rat.divInt (q.sum + s.sum) B - Rat.divInt q.sum B) ↔ y * t.sum = z * s.sum := by
    intro x y z
    simp only [div_c, Rat.intCast_add]
    generalize (B : Rat)⁻¹ = k at *
    have : (y * t.sum = z * s.sum) ↔ ((y : Rat) * (t.sum : Rat) = (z : Rat) * (s.sum : Rat)) := by
      rw [← Rat.intCast_mul, ← Rat.intCast_mul, Rat.intCast_inj]
    rw [this]
    generalize (x : Rat) = x, (y : Rat) = y, (z : Rat) = z, (q.sum : Rat) = a, (s.sum : Rat) = b, (t.sum : Rat) = c
    constructor
    · intro h
      have : k * k * (y * c) = k * k * (z * b) := by grind
      have hkk : k * k ≠ 0 := by grind
      grind
    · intro h
      grind
  rw [par_iff (by omega)]
  unfold straight cornAt
  simp only [e1, e2, List.getElem?_map]
  constructor
  · intro h i y z hy hz
    have hi : i < q.length := by rw [hq, ← hs]; exact (List.getElem?_eq_some_iff.mp hy).1
    have f1 := addV_get (List.getElem?_eq_getElem hi) hy
    have f2 := addV_get f1 hz
    exact (key q[i] y z).mp (h i _ _ _ (by rw [List.getElem?_eq_getElem hi]; rfl) (by rw [f1]; rfl) (by rw [f2]; rfl))
  · intro h i a b c ha hb hc
    have hi : i < q.length := by
      cases e : q[i]? with
      | none => rw [e] at ha; cases ha
      | some _ => exact (List.getElem?_eq_some_iff.mp e).1
    have his : i < s.length := by omega
    have hit : i < t.length := by omega
    have f1 := addV_get (List.getElem?_eq_getElem hi) (List.getElem?_eq_getElem his)
    have f2 := addV_get f1 (List.getElem?_eq_getElem hit)
    rw [List.getElem?_eq_getElem hi] at ha
    rw [f1] at hb
    rw [f2] at hc
    cases ha; cases hb; cases hc
    exact (key _ _ _).mpr (h i _ _ (List.getElem?_eq_getElem his) (List.getElem?_eq_getElem hit))
structure GoodS (m : Nat) (s : List Int) : Prop where
  len : s.length = m
  pos : 0 < s.sum
theorem keep_run {B : Int} (hB : 0 < B) {m : Nat} : ∀ (r : List (List Int)) (h0 c q s : List Int), (∀ t ∈ r, GoodS m t) → h0.length = m → q.length = m → GoodS m c → GoodS m s → par c s → addV h0 c = addV q s →
    keepFrom (cornAt B q) (cornAt B (addV q s) :: cornersFrom B (addV q s) r) = cornersFrom B h0 (thinFrom c r)
  | [], h0, c, q, s, _, _, _, _, _, _, e => by
    simp only [cornersFrom, thinFrom, keepFrom, e]
  | t :: r, h0, c, q, s, hr, l0, lq, gc, gs, hcs, e => by
    have gt := hr t (List.mem_cons_self ..)
    have hr' := fun u hu => hr u (List.mem_cons_of_mem _ hu)
    simp only [cornersFrom, thinFrom, keepFrom]
    have sw := par_swap (c := c) (s := s) (t := t) (by rw [gc.len, gs.len]) (by rw [gc.len, gt.len]) gc.pos gs.pos hcs
    by_cases hp : par c t
    · rw [if_pos hp, if_pos ((str_iff hB lq gs.len gt.len).mpr (sw.mp hp))]
      have lct : c.length = t.length := by rw [gc.len, gt.len]
      exact keep_run hB r h0 (addV c t) (addV q s) t hr' l0 (addV_len lq gs.len) ⟨addV_len gc.len gt.len, by rw [addV_sum lct]; have := gc.pos; have := gt.pos; omega⟩ gt (par_add lct hp) (by rw [← addV_assoc, e])
    · rw [if_neg hp, if_neg (fun z => hp (sw.mpr ((str_iff hB lq gs.len gt.len).mp z)))]
      rw [keep_run hB r (addV q s) t (addV q s) t hr' (addV_len lq gs.len) (addV_len lq gs.len) gt gt (par_refl _) rfl]
      rw [cornersFrom, e]
theorem keep_all {B : Int} (hB : 0 < B) {m : Nat} {steps : List (List Int)} (hg : ∀ t ∈ steps, GoodS m t) {h0 : List Int} (l0 : h0.length = m) :
    keepFrom (cornAt B h0) (cornersFrom B h0 steps) = cornersFrom B h0 (thinS steps) := by
  cases steps with
  | nil => simp only [cornersFrom, thinS, keepFrom]
  | cons s r =>
    simp only [cornersFrom, thinS]
    exact keep_run hB r h0 s h0 s (fun t ht => hg t (List.mem_cons_of_mem _ ht)) l0 l0 (hg s (List.mem_cons_self ..)) (hg s (List.mem_cons_self ..)) (par_refl _) rfl
/-! ### thinning, step by step -/
theorem thinFrom_ne (c : List Int) : ∀ r, thinFrom c r ≠ [] 
  | [] => by simp [thinFrom]
  | s :: r => by
    rw [thinFrom]; split
    · exact thinFrom_ne _ r
    · simp
def snocT (t : List (List Int)) (s : List Int) : List (List Int) :=
  match t.getLast? with
  | none => [s]
  | some l => if par l s then t.dropLast ++ [addV l s] else t ++ [s]
theorem snocT_cons {c : List Int} {t : List (List Int)} {s : List Int} (h : t ≠ []) : snocT (c :: t) s = c :: snocT t s := by
  unfold snocT
  rw [List.getLast?_cons_of_ne_nil h]
  cases e : t.getLast? with
  | none => rw [List.getLast?_eq_none_iff] at e; exact absurd e h
  | some l =>
    dsimp only
    split
    · rw [List.dropLast_cons_of_ne_nil h, List.cons_append]
    · rw [List.cons_append]
theorem thinFrom_snoc (s : List Int) : ∀ (r : List (List Int)) (c : List Int), thinFrom c (r ++ [s]) = snocT (thinFrom c r) s
  | [], c => by
    simp only [List.nil_append, thinFrom, snocT, List.getLast?_singleton, List.dropLast_singleton]
    split <;> rfl
  | t :: r, c => by
    rw [List.cons_append, thinFrom, thinFrom]
    split
    · exact thinFrom_snoc s r _
    · rw [thinFrom_snoc s r t, snocT_cons (thinFrom_ne t r)]
theorem thinS_snoc (r : List (List Int)) (s : List Int) : thinS (r ++ [s]) = snocT (thinS r) s := by
  cases r with
  | nil => rfl
  | cons c r => exact thinFrom_snoc s r c
theorem thinFrom_len : ∀ (r : List (List Int)) (c : List Int), (thinFrom c r).length ≤ r.length + 1
  | [], c => by simp [thinFrom]
  | t :: r, c => by
    rw [thinFrom]; split
    · have := thinFrom_len r (addV c t); rw [List.length_cons]; omega
    · have := thinFrom_len r t; rw [List.length_cons, List.length_cons]; omega
theorem thinS_len (r : List (List Int)) : (thinS r).length ≤ r.length := by
  cases r with
  | nil => simp [thinS]
  | cons c r => exact thinFrom_len r c
/-- a bound of all that may come of rows -/
def BRows (m : Nat) (b : Int) (rows : List (List Int)) : Prop := ∀ r ∈ rows, r.length = m ∧ 0 < r.sum ∧ ∀ x ∈ r, 0 ≤ x ∧ x ≤ b
structure InR (m : Nat) (b : Int) (r : List Int) : Prop where
  len : r.length = m
  pos : 0 < r.sum
  bnd : ∀ x ∈ r, 0 ≤ x ∧ x ≤ b
theorem InR.good {m : Nat} {b : Int} {r : List Int} (h : InR m b r) : GoodS m r := ⟨h.len, h.pos⟩
theorem InR.add {m : Nat} {b c : Int} {r s : List Int} (h : InR m b r) (g : InR m c s) : InR m (b + c) (addV r s) := by
  refine ⟨addV_len h.len g.len, by rw [addV_sum (by rw [h.len, g.len])]; have := h.pos; have := g.pos; omega, fun x hx => ?_⟩
  obtain ⟨i, hi⟩ := List.mem_iff_getElem?.mp hx
  have hlt : i < m := by have := (List.getElem?_eq_some_iff.mp hi).1; rwa [addV_len h.len g.len] at this
  rw [addV_get (List.getElem?_eq_getElem (by rw [h.len]; exact hlt)) (List.getElem?_eq_getElem (by rw [g.len]; exact hlt))] at hi
  cases hi
  have := h.bnd _ (List.getElem_mem (show i < r.length by rw [h.len]; exact hlt))
  have := g.bnd _ (List.getElem_mem (show i < s.length by rw [g.len]; exact hlt))
  omega
theorem InR.mono {m : Nat} {b c : Int} {r : List Int} (h : InR m b r) (l : b ≤ c) : InR m c r := ⟨h.len, h.pos, fun x hx => by have := h.bnd x hx; omega⟩
theorem thinFrom_in {m : Nat} {b : Int} (hb : 0 ≤ b) : ∀ (r : List (List Int)) (c : List Int) (d : Int), InR m d c → b ≤ d → (∀ t ∈ r, InR m b t) → ∀ t ∈ thinFrom c r, InR m (d + r.length * b) t
  | [], c, d, hc, _, _, t, ht => by
    simp only [thinFrom, List.mem_singleton] at ht
    subst ht
    simpa using hc
  | s :: r, c, d, hc, hbd, hr, t, ht => by
    have hs := hr s (List.mem_cons_self ..)
    have hr' := fun u hu => hr u (List.mem_cons_of_mem _ hu)
    have e : d + ((s :: r).length : Nat) * b = (d + b) + r.length * b := by rw [List.length_cons]; push_cast; grind
    rw [thinFrom] at ht
    rw [e]
    have hrb : 0 ≤ (r.length : Int) * b := Int.mul_nonneg (Int.natCast_nonneg _) hb
    split at ht
    · exact thinFrom_in hb r _ (d + b) (hc.add hs) (by omega) hr' t ht
    · rcases List.mem_cons.mp ht with rfl | ht
      · exact hc.mono (by omega)
      · exact (thinFrom_in hb r s d (hs.mono hbd) hbd hr' t ht).mono (by omega)
theorem thinS_in {m : Nat} {b : Int} (hb : 0 ≤ b) {r : List (List Int)} (hr : ∀ t ∈ r, InR m b t) : ∀ t ∈ thinS r, InR m (r.length * b) t := by
  cases r with
  | nil => intro t ht; simp [thinS] at ht
  | cons s r =>
    intro t ht
    have := thinFrom_in hb r s b (hr s (List.mem_cons_self ..)) (Int.le_refl _) (fun t ht => hr t (List.mem_cons_of_mem _ ht)) t ht
    refine this.mono ?_
    rw [List.length_cons]; push_cast; grind
/-! ### which corners are left, by places -/
open Classical in
noncomputable def keptAt (cs : List Corner) (i : Nat) : Bool := decide (i = 0 ∨ i + 1 = cs.length ∨ ¬ ∀ (a b c : Corner), cs[i - 1]? = some a → cs[i]? = some b → cs[i + 1]? = some c → straight a b c)
open Classical in
theorem kept_true {cs : List Corner} {i : Nat} (h : i = 0 ∨ i + 1 = cs.length ∨ ¬ ∀ (a b c : Corner), cs[i - 1]? = some a → cs[i]? = some b → cs[i + 1]? = some c → straight a b c) : keptAt cs i = true := by
  unfold keptAt; exact decide_eq_true h
open Classical in
theorem kept_false {cs : List Corner} {i : Nat} (h : ¬ (i = 0 ∨ i + 1 = cs.length ∨ ¬ ∀ (a b c : Corner), cs[i - 1]? = some a → cs[i]? = some b → cs[i + 1]? = some c → straight a b c)) : keptAt cs i = false := by
  unfold keptAt; exact decide_eq_false h
noncomputable def keepAll : List Corner → List Corner
  | [] => []
  | c :: r => c :: keepFrom c r
theorem keep_aux : ∀ (r pre : List Corner) (a : Corner), (List.range' (pre.length + 1) r.length).filterMap (fun j => if keptAt (pre ++ a :: r) j then (pre ++ a :: r)[j]? else none) = keepFrom a r
  | [], pre, a => by simp [keepFrom]
  | [b], pre, a => by
    have hk : keptAt (pre ++ [a, b]) (pre.length + 1) = true := kept_true (.inr (.inl (by simp)))
    simp [keepFrom, hk]
  | b :: c :: r, pre, a => by
    have ih := keep_aux (c :: r) (pre ++ [a]) b
    rw [List.length_append, List.length_singleton, List.append_assoc, List.singleton_append] at ih
    rw [List.length_cons, List.range'_succ, List.filterMap_cons, keepFrom]
    have g0 : (pre ++ a :: b :: c :: r)[pre.length + 1 - 1]? = some a := by
      rw [Nat.add_sub_cancel, List.getElem?_append_right (Nat.le_refl _), Nat.sub_self]; rfl
    have g1 : (pre ++ a :: b :: c :: r)[pre.length + 1]? = some b := by
      rw [List.getElem?_append_right (by omega), show pre.length + 1 - pre.length = 1 by omega]; rfl
    have g2 : (pre ++ a :: b :: c :: r)[pre.length + 1 + 1]? = some c := by
      rw [List.getElem?_append_right (by omega), show pre.length + 1 + 1 - pre.length = 2 by omega]; rfl
    by_cases hs : straight a b c
    · have hk : keptAt (pre ++ a :: b :: c :: r) (pre.length + 1) = false := by
        refine kept_false ?_
        rintro (q | q | q)
        · omega
        · simp at q; omega
        · refine q fun x y z hx hy hz => ?_
          rw [g0] at hx; rw [g1] at hy; rw [g2] at hz
          cases hx; cases hy; cases hz
          exact hs
      rw [hk, if_pos hs]
      simpa using ih
    · have hk : keptAt (pre ++ a :: b :: c :: r) (pre.length + 1) = true := kept_true (.inr (.inr fun q => hs (q a b c g0 g1 g2)))
      rw [hk, if_neg hs, if_pos rfl, g1]
      dsimp only
      rw [ih]
theorem keep_range {β : Type} (cs : List Corner) (g : Corner → β) : (List.range cs.length).filterMap (fun j => if keptAt cs j then (cs[j]?).map g else none) = (keepAll cs).map g := by
  have e : (List.range cs.length).filterMap (fun j => if keptAt cs j then (cs[j]?).map g else none) = ((List.range cs.length).filterMap (fun j => if keptAt cs j then cs[j]? else none)).map g := by
    rw [List.map_filterMap]
    congr 1
    funext j
    split <;> rfl
  rw [e]
  congr 1
  cases cs with
  | nil => rfl
  | cons c r =>
    rw [List.length_cons, List.range_eq_range', List.range'_succ, List.filterMap_cons]
    have hk : keptAt (c :: r) 0 = true := kept_true (.inl rfl)
    rw [hk, if_pos rfl]
    have := keep_aux r [] c
    simp only [List.length_nil, List.nil_append, Nat.zero_add] at this
    simp only [List.getElem?_cons_zero, Nat.zero_add]
    rw [this, keepAll]
end S

namespace S
open PySem PySem.Spec PyProof.Rows L2
section
variable {α : Type} {enc : α → List PyData} {dom : α → Prop} {res : α → V} {B G0 H : Hp} {cs : Cells} {ds : Dat} {Q : VK} {E : XK} {vs : List V} {v w : V}
/-- nothing is made -/
def spP (enc : α → List PyData) (dom : α → Prop) (res : α → V) : Sp := fun vs H Q _ => ∃ (a : α), IsAll H (enc a) vs ∧ dom a ∧ Q (res a) H
theorem rd_spP (a : α) (S : Sta B G0 H cs ds) (hx : HasAll ds (enc a) vs) (hd : dom a) (k : Q (res a) H) : spP enc dom res vs H Q E := ⟨a, S.hpAll hx, hd, k⟩
/-! ### the contracts of the fractions -/
theorem SzQ.of_div {n : Nat} {q : Rat} {a b : Int} (e : q = Rat.divInt a b) (ha : Sz n a) (hb : Sz n b) (h0 : b ≠ 0) : SzQ n q := by rw [e]; exact SzQ.divInt ha hb h0
theorem den_mul_ne (p q : Rat) : (p.den : Int) * (q.den : Int) ≠ 0 := Int.ne_of_gt (Int.mul_pos (den_pos p) (den_pos q))
theorem add_div (p q : Rat) : Rat.divInt (p.num * (q.den : Int) + q.num * (p.den : Int)) ((p.den : Int) * (q.den : Int)) = p + q := by
  rw [Rat.add_def', ← Int.natCast_mul, Rat.divInt_ofNat]
theorem sub_div (p q : Rat) : Rat.divInt (p.num * (q.den : Int) - q.num * (p.den : Int)) ((p.den : Int) * (q.den : Int)) = p - q := by
  rw [Rat.sub_def', ← Int.natCast_mul, Rat.divInt_ofNat]
theorem mul_div (p q : Rat) : Rat.divInt (p.num * q.num) ((p.den : Int) * (q.den : Int)) = p * q := by
  rw [Rat.mul_def', ← Int.natCast_mul, Rat.divInt_ofNat]
theorem num_ne {q : Rat} (h : q ≠ 0) : q.num ≠ 0 := fun z => h (Rat.num_eq_zero.mp z)
theorem div_div (p q : Rat) (h : q ≠ 0) : Rat.divInt (p.num * (q.den : Int)) ((p.den : Int) * q.num) = p / q := by
  rw [← Rat.divInt_mul_divInt, Rat.num_divInt_den, Rat.div_def, Rat.inv_def]
section
variable {m n : Nat} {p q : Rat}
theorem SzQ.add (hp : SzQ m p) (hq : SzQ n q) : SzQ (m + n + 1) (p + q) :=
  SzQ.of_div (add_div p q).symm (((hp.1.mul hq.2).add ((hq.1.mul hp.2).mono (Nat.le_of_eq (Nat.add_comm n m))))) ((hp.2.mul hq.2).mono (Nat.le_succ _)) (den_mul_ne p q)
theorem SzQ.sub (hp : SzQ m p) (hq : SzQ n q) : SzQ (m + n + 1) (p - q) :=
  SzQ.of_div (sub_div p q).symm (((hp.1.mul hq.2).sub ((hq.1.mul hp.2).mono (Nat.le_of_eq (Nat.add_comm n m))))) ((hp.2.mul hq.2).mono (Nat.le_succ _)) (den_mul_ne p q)
theorem SzQ.mul (hp : SzQ m p) (hq : SzQ n q) : SzQ (m + n) (p * q) :=
  SzQ.of_div (mul_div p q).symm (hp.1.mul hq.1) (hp.2.mul hq.2) (den_mul_ne p q)
theorem SzQ.div (hp : SzQ m p) (hq : SzQ n q) : SzQ (m + n) (p / q) := by
  by_cases h : q = 0
  · subst h
    rw [Rat.div_def, Rat.inv_zero, Rat.mul_zero]
    have hm : 1 ≤ m := by
      cases m with
      | zero =>
        have h1 : (p.den : Int).natAbs < 2 ^ 0 := hp.2
        have h2 := den_pos p
        simp at h1
        omega
      | succ m => omega
    exact ⟨sz_small (n := m + n) (by omega) (show (-2 : Int) < 0 by decide) (show (0 : Int) < 2 by decide), sz_small (n := m + n) (by omega) (show (-2 : Int) < 1 by decide) (show (1 : Int) < 2 by decide)⟩
  · exact SzQ.of_div (div_div p q h).symm (hp.1.mul hq.2) (hp.2.mul hq.1) (Int.mul_ne_zero (Int.ne_of_gt (den_pos p)) (num_ne h))
theorem SzQ.int {x : Int} (h : Sz n x) (h1 : 1 ≤ n) : SzQ n (x : Rat) := ⟨h, sz_small h1 (show (-2 : Int) < 1 by decide) (show (1 : Int) < 2 by decide)⟩
end
/-- two numbers to a fraction -/
def spLowest : Sp := spT (α := Int × Int) (fun a => [.int a.1, .int a.2]) (fun a => a.2 ≠ 0 ∧ Sz 8999 a.2) (fun a => frD (Rat.divInt a.1 a.2))
theorem rd_lowest {i j : Int} (S : Sta B G0 H cs ds) (h0 : j ≠ 0) (hz : Sz 8999 j) (k : ∀ r H', Same H H' → Sta B G0 H' cs ((frD (Rat.divInt i j), r) :: ds) → Q r H') : spLowest [.int i, .int j] H Q E :=
  rd_spT (i, j) S (.cons Has.int (.cons Has.int .nil)) ⟨h0, hz⟩ k
def spQ2 (dom : Rat → Rat → Prop) (g : Rat → Rat → Rat) : Sp := spT (α := Rat × Rat) (fun a => [frD a.1, frD a.2]) (fun a => (∃ m n, SzQ m a.1 ∧ SzQ n a.2 ∧ m + n ≤ 8999) ∧ dom a.1 a.2) (fun a => frD (g a.1 a.2))
theorem rd_q2 {dm : Rat → Rat → Prop} {g : Rat → Rat → Rat} {p q : Rat} {m n : Nat} (S : Sta B G0 H cs ds) (h1 : Has ds (frD p) v) (h2 : Has ds (frD q) w) (s1 : SzQ m p) (s2 : SzQ n q) (hmn : m + n ≤ 8999) (hd : dm p q)
    (k : ∀ r H', Same H H' → Sta B G0 H' cs ((frD (g p q), r) :: ds) → Q r H') : spQ2 dm g [v, w] H Q E :=
  rd_spT (p, q) S (.cons h1 (.cons h2 .nil)) ⟨⟨m, n, s1, s2, hmn⟩, hd⟩ k
abbrev domT : Rat → Rat → Prop := fun _ _ => True
abbrev spPlus : Sp := spQ2 domT fun p q => p + q
abbrev spMinus : Sp := spQ2 domT fun p q => p - q
abbrev spTimes : Sp := spQ2 domT fun p q => p * q
abbrev spOver : Sp := spQ2 (fun _ q => q ≠ 0) fun p q => p / q
def spBefore : Sp := spP (α := Rat × Rat) (fun a => [frD a.1, frD a.2]) (fun a => ∃ m n, SzQ m a.1 ∧ SzQ n a.2 ∧ m + n ≤ 100000000) (fun a => .bl (decide (a.1 < a.2)))
theorem rd_before {p q : Rat} {m n : Nat} (S : Sta B G0 H cs ds) (h1 : Has ds (frD p) v) (h2 : Has ds (frD q) w) (s1 : SzQ m p) (s2 : SzQ n q) (hmn : m + n ≤ 100000000) (k : Q (.bl (decide (p < q))) H) : spBefore [v, w] H Q E :=
  rd_spP (p, q) S (.cons h1 (.cons h2 .nil)) ⟨m, n, s1, s2, hmn⟩ k
/-! ### the contracts of what laws read -/
def cellAt (ns : List Int) (k : Int) : Int := if k < (ns.length : Int) then ns.getD k.toNat 0 else 0
def spCell (K : PySem.W.Frag) : Sp := fun vs H Q _ => ∃ (a : Addr) (ns : List Int) (k : Int), vs = [.ref a, .int k] ∧ SqL K H a (ns.map V.int) ∧ 0 ≤ k ∧ Q (.int (cellAt ns k)) H
theorem rd_cell {K : PySem.W.Frag} {a : Addr} {ns : List Int} {k : Int} (hS : SqL K H a (ns.map V.int)) (h0 : 0 ≤ k) (h : Q (.int (cellAt ns k)) H) : spCell K [.ref a, .int k] H Q E := ⟨a, ns, k, rfl, hS, h0, h⟩
def spDiv2 : Sp := fun vs H Q _ => ∃ a b : Int, vs = [.int a, .int b] ∧ 0 ≤ b ∧ Q (.int (Int.gcd a b : Nat)) H
theorem rd_div2 {a b : Int} (h0 : 0 ≤ b) (h : Q (.int (Int.gcd a b : Nat)) H) : spDiv2 [.int a, .int b] H Q E := ⟨a, b, rfl, h0, h⟩
def spLawLow : Sp := spT (α := Int × Int) (fun a => [.int a.1, .int a.2]) (fun a => 0 < a.2 ∧ Sz 8999 a.2) (fun a => frD (Rat.divInt a.1 a.2))
theorem rd_lawlow {i j : Int} (S : Sta B G0 H cs ds) (h0 : 0 < j) (hz : Sz 8999 j) (k : ∀ r H', Same H H' → Sta B G0 H' cs ((frD (Rat.divInt i j), r) :: ds) → Q r H') : spLawLow [.int i, .int j] H Q E :=
  rd_spT (i, j) S (.cons Has.int (.cons Has.int .nil)) ⟨h0, hz⟩ k
def mixV (c p : Int) : Int := (((c % 2147483629 * 16807 + 69621 * p + 11) % 2147483629) * ((c % 2147483629 * 16807 + 69621 * p + 11) % 2147483629) + 48271 * p + 7) % 2147483629 * 69621 % 2147483587
theorem mixV_le (c p : Int) : 0 ≤ mixV c p ∧ mixV c p < 2147483587 := by unfold mixV; omega
def spMix : Sp := fun vs H Q _ => ∃ c p : Int, vs = [.int c, .int p] ∧ Q (.int (mixV c p)) H
theorem rd_mix {c p : Int} (h : Q (.int (mixV c p)) H) : spMix [.int c, .int p] H Q E := ⟨c, p, rfl, h⟩
/-! ### rows of steps -/
def rowD (r : List Int) : PyData := .list (r.map PyData.int)
def rowsD (rs : List (List Int)) : PyData := .list (rs.map rowD)
/-- the bound of the i-th row -/
def BR (i : Nat) (r : List Int) : Prop := ∀ x ∈ r, 0 ≤ x ∧ x ≤ 10 ^ 21 * 3 ^ i
structure RowsOk (m : Nat) (rows : List (List Int)) : Prop where
  len : ∀ r ∈ rows, r.length = m
  pos : ∀ r ∈ rows, 0 < r.sum
  bnd : ∀ (i : Nat) (r : List Int), rows[i]? = some r → BR i r
def spSteps (K : PySem.W.Frag) : Sp := fun vs H Q _ => ∃ (G : Hp) (a : Addr) (ns : List Int) (at' many parts : Int), vs = [.ref a, .int at', .int many, .int parts] ∧ Same G H ∧ SqL K H a (ns.map V.int) ∧ (0 ≤ at' ∧ 0 ≤ many ∧ many ≤ 70 ∧ 1 ≤ parts ∧ parts ≤ 8) ∧
  ∀ (rows : List (List Int)) (p : Addr) (H' G' : Hp) (us : List V), rows.length = many.toNat → RowsOk parts.toNat rows → Grow G H G' H' → H p = none → G' p = none → H' p = some (.lst us) → IsAll G' (rows.map rowD) us → Q (.ref p) H'
theorem Sta.put_call {G G' H' : Hp} {p : Addr} {us : List V} {xs : List PyData} (S : StaG B G0 H cs ds G) (gr : Grow G H G' H') (hp : H p = none) (hg : G' p = none) (hu : H' p = some (.lst us)) (hv : IsAll G' xs us) : Sta B G0 H' ((p, xs) :: cs) ds := by
  have hc := S.2.2.1.free hp
  obtain ⟨_, _, _, _, e0, _, _⟩ := id S
  obtain ⟨a', b', c', d', e', f', g'⟩ := S.grow gr
  refine ⟨G', a', b', c', d', fun q hq => ?_, ?_, g'⟩
  · rcases List.mem_cons.mp hq with rfl | hq
    · exact ⟨hc, hg, us, hu, hv⟩
    · exact e' q hq
  · rw [List.map_cons, List.nodup_cons]
    refine ⟨fun z => ?_, f'⟩
    obtain ⟨q, hq, hqp⟩ := List.mem_map.mp z
    obtain ⟨_, _, ws, z, _⟩ := e0 q hq
    rw [hqp, hp] at z; cases z
theorem rd_steps {K : PySem.W.Frag} {a : Addr} {ns : List Int} {at' many parts : Int} (S : Sta B G0 H cs ds) (hS : SqL K H a (ns.map V.int)) (hb : 0 ≤ at' ∧ 0 ≤ many ∧ many ≤ 70 ∧ 1 ≤ parts ∧ parts ≤ 8)
    (k : ∀ (rows : List (List Int)) (p : Addr) (H' : Hp), rows.length = many.toNat → RowsOk parts.toNat rows → Same H H' → Sta B G0 H' ((p, rows.map rowD) :: cs) ds → Q (.ref p) H') : spSteps K [.ref a, .int at', .int many, .int parts] H Q E := by
  obtain ⟨G, S⟩ := S
  exact ⟨G, a, ns, at', many, parts, rfl, S.2.1, hS, hb, fun rows p H' G' us h1 h2 gr hp hg hu hv => k rows p H' h1 h2 gr.h (Sta.put_call S gr hp hg hu hv)⟩
theorem rd_true {σ : L2.St} {R : Bool → Hp → Prop} (h : R true H) : tTrue σ H R := h
def zeroV (m : Nat) : List Int := List.replicate m 0
theorem zeroV_len (m : Nat) : (zeroV m).length = m := List.length_replicate
def cornersV (b : Int) (m : Nat) (rows : List (List Int)) : List Corner := cornAt b (zeroV m) :: cornersFrom b (zeroV m) rows
def spCorners : Sp := spL (α := List (List Int) × Int × Int) (fun a => [rowsD a.1, .int a.2.1, .int a.2.2]) (fun a => (1 ≤ a.2.1 ∧ a.2.1 ≤ 8) ∧ (1 ≤ a.2.2 ∧ a.2.2 ≤ 200) ∧ a.1.length ≤ 200 ∧ ∀ r ∈ a.1, r.length = a.2.1.toNat) (fun a => (cornersV a.2.2 a.2.1.toNat a.1).map cornD)
theorem rd_corners {rows : List (List Int)} {parts bottom : Int} (S : Sta B G0 H cs ds) (h : Has ds (rowsD rows) v) (hp : 1 ≤ parts ∧ parts ≤ 8) (hb : 1 ≤ bottom ∧ bottom ≤ 200) (hl : rows.length ≤ 200) (hr : ∀ r ∈ rows, r.length = parts.toNat)
    (k : ∀ p H', Same H H' → Sta B G0 H' ((p, (cornersV bottom parts.toNat rows).map cornD) :: cs) ds → Q (.ref p) H') : spCorners [v, .int parts, .int bottom] H Q E :=
  rd_spL (rows, parts, bottom) S (.cons h (.cons Has.int (.cons Has.int .nil))) ⟨hp, hb, hl, hr⟩ k
/-- along -/
def SzR (r : List Int) : Prop := Sz 100000 r.sum ∧ ∀ x ∈ r, Sz 100000 x
def spAlong : Sp := spB (α := List Int × List Int) (fun a => [rowD a.1, rowD a.2]) (fun a => SzR a.1 ∧ SzR a.2 ∧ a.1.length ≤ 100 ∧ a.2.length ≤ 100) (fun a => .bl (decide (par a.1 a.2)))
theorem rd_along {l r : List Int} (S : Sta B G0 H cs ds) (h1 : Has ds (rowD l) v) (h2 : Has ds (rowD r) w) (s1 : SzR l) (s2 : SzR r) (hl : l.length ≤ 100) (hr : r.length ≤ 100) (k : ∀ H', Sta B G0 H' cs ds → Q (.bl (decide (par l r))) H') : spAlong [v, w] H Q E :=
  rd_spB (l, r) (S.hpAll (.cons h1 (.cons h2 .nil))) ⟨s1, s2, hl, hr⟩ fun H' e => k H' (S.same e)
theorem sum_le {b : Int} : ∀ {r : List Int}, (∀ x ∈ r, 0 ≤ x ∧ x ≤ b) → 0 ≤ r.sum ∧ r.sum ≤ r.length * b
  | [], _ => by simp
  | x :: r, h => by
    have h1 := h x (List.mem_cons_self ..)
    have h2 := sum_le (r := r) fun y hy => h y (List.mem_cons_of_mem _ hy)
    have e : ((x :: r).length : Int) * b = b + r.length * b := by rw [List.length_cons]; push_cast; grind
    rw [e, List.sum_cons]
    omega
theorem sz_of_le {x : Int} {n : Nat} (h0 : 0 ≤ x) (h : x < 2 ^ n) : Sz n x := by
  unfold Sz
  have e : ((2 ^ n : Nat) : Int) = 2 ^ n := by push_cast; rfl
  omega
theorem InR.sz {m : Nat} {b : Int} {r : List Int} (h : InR m b r) (hm : m ≤ 8) (hb : b ≤ 2 ^ 400) : SzR r := by
  have h1 := sum_le h.bnd
  have h0 : 0 ≤ b := by
    cases r with
    | nil => have := h.pos; simp at this
    | cons x r => have := h.bnd x (List.mem_cons_self ..); omega
  have e4 : (2 : Int) ^ 404 = 16 * 2 ^ 400 := by decide
  have hl : (r.length : Int) ≤ 8 := by have := h.len; omega
  have h2 : (r.length : Int) * b ≤ 8 * b := Int.mul_le_mul_of_nonneg_right hl h0
  refine ⟨(sz_of_le (n := 404) h1.1 (by rw [e4]; omega)).mono (by decide), fun x hx => ?_⟩
  have := h.bnd x hx
  exact (sz_of_le (n := 404) this.1 (by rw [e4]; omega)).mono (by decide)
def spThinL : Sp := spL (α := List (List Int)) (fun a => [rowsD a]) (fun a => a.length ≤ 200 ∧ ∃ (m : Nat) (b : Int), (1 ≤ m ∧ m ≤ 8) ∧ (0 ≤ b ∧ b ≤ 2 ^ 300) ∧ ∀ r ∈ a, InR m b r) (fun a => (thinS a).map rowD)
theorem rd_thin {rows : List (List Int)} {m : Nat} {b : Int} (S : Sta B G0 H cs ds) (h : Has ds (rowsD rows) v) (hl : rows.length ≤ 200) (hm : 1 ≤ m ∧ m ≤ 8) (hb : 0 ≤ b ∧ b ≤ 2 ^ 300) (hr : ∀ r ∈ rows, InR m b r)
    (k : ∀ p H', Same H H' → Sta B G0 H' ((p, (thinS rows).map rowD) :: cs) ds → Q (.ref p) H') : spThinL [v] H Q E :=
  rd_spL rows S (.cons h .nil) ⟨hl, m, b, hm, hb, hr⟩ k
/-! ### equality of data -/
theorem eqvAll_map {β : Type} [DecidableEq β] {f : β → PyData} (hf : ∀ a b, PyData.eqv (f a) (f b) = decide (a = b)) : ∀ xs ys : List β, PyData.eqvAll (xs.map f) (ys.map f) = decide (xs = ys)
  | [], [] => by rw [List.map_nil, PyData.eqvAll]; rfl
  | [], _ :: _ => by rw [List.map_nil, List.map_cons, PyData.eqvAll, decide_eq_false (by simp)]
  | _ :: _, [] => by rw [List.map_nil, List.map_cons, PyData.eqvAll, decide_eq_false (by simp)]
  | x :: xs, y :: ys => by
    rw [List.map_cons, List.map_cons, PyData.eqvAll, hf, eqvAll_map hf xs ys, ← Bool.decide_and]
    exact dec_congr (by simp)
theorem eqv_int (a b : Int) : PyData.eqv (.int a) (.int b) = decide (a = b) := by rw [PyData.eqv]; rfl
theorem eqv_row (a b : List Int) : PyData.eqv (rowD a) (rowD b) = decide (a = b) := by unfold rowD; rw [PyData.eqv]; exact eqvAll_map eqv_int a b
theorem eqv_rows (a b : List (List Int)) : PyData.eqv (rowsD a) (rowsD b) = decide (a = b) := by unfold rowsD; rw [PyData.eqv]; exact eqvAll_map eqv_row a b
theorem eqv_frD (p q : Rat) : PyData.eqv (frD p) (frD q) = decide (p = q) := eqv_fr p q
theorem eqv_partsD (p q : List Rat) : PyData.eqv (partsD p) (partsD q) = decide (p = q) := by unfold partsD; rw [PyData.eqv]; exact eqvAll_map eqv_frD p q
theorem eqv_cornD (p q : Corner) : PyData.eqv (cornD p) (cornD q) = decide (p = q) := by
  unfold cornD
  rw [PyData.eqv, PyData.eqvAll, PyData.eqvAll, PyData.eqvAll, eqv_frD, eqv_partsD, Bool.and_true, ← Bool.decide_and]
  exact dec_congr ⟨fun ⟨h1, h2⟩ => Prod.ext h1 h2, fun h => by subst h; exact ⟨rfl, rfl⟩⟩
theorem eqv_pathD (p q : List Corner) : PyData.eqv (pathD p) (pathD q) = decide (p = q) := by unfold pathD; rw [PyData.eqv]; exact eqvAll_map eqv_cornD p q
theorem lay_int (a : Int) : (PyData.int a).canLay0 = true := by rw [PyData.canLay0]
theorem dep_int (a : Int) : (PyData.int a).depth ≤ 1 := by rw [PyData.depth]; exact Nat.zero_le _
theorem lay_row (a : List Int) : (rowD a).canLay0 = true := by unfold rowD; rw [PyData.canLay0]; exact lay_all lay_int a
theorem dep_row (a : List Int) : (rowD a).depth ≤ 2 := by unfold rowD; rw [PyData.depth]; exact Nat.succ_le_succ (dep_all dep_int a)
theorem lay_rows (a : List (List Int)) : (rowsD a).canLay0 = true := by unfold rowsD; rw [PyData.canLay0]; exact lay_all lay_row a
theorem dep_rows (a : List (List Int)) : (rowsD a).depth ≤ 3 := by unfold rowsD; rw [PyData.depth]; exact Nat.succ_le_succ (dep_all dep_row a)
theorem shaped_of {d : PyData} {n : Nat} (h : d.canLay0 = true) (g : d.depth ≤ n) (l : n ≤ 64) : SeqAt.shaped d = true := by
  unfold SeqAt.shaped
  rw [h, decide_eq_true (Nat.le_trans g l)]; rfl
theorem shaped_row (a : List Int) : SeqAt.shaped (rowD a) = true := shaped_of (lay_row a) (dep_row a) (by decide)
theorem shaped_rows (a : List (List Int)) : SeqAt.shaped (rowsD a) = true := shaped_of (lay_rows a) (dep_rows a) (by decide)
theorem shaped_frD (a : Rat) : SeqAt.shaped (frD a) = true := shaped_of (lay_fr a) (dep_fr a) (by decide)
theorem shaped_partsD (a : List Rat) : SeqAt.shaped (partsD a) = true := shaped_of (lay_parts a) (dep_parts a) (by decide)
theorem shaped_cornD (a : Corner) : SeqAt.shaped (cornD a) = true := shaped_of (lay_corn a) (dep_corn a) (by decide)
/-! ### same -/
def plainD : Nat → PyData → Prop
  | 0, _ => False
  | n + 1, d => match d with
    | .int _ => True
    | .tuple xs => xs.length ≤ 1000 ∧ ∀ x ∈ xs, plainD n x
    | .list xs => xs.length ≤ 1000 ∧ ∀ x ∈ xs, plainD n x
    | .none => False
    | .bool _ => False
    | .str _ => True
    | .dict _ => False
def spSame (n : Nat) : Sp := spB (α := PyData) (fun d => [d, d]) (fun d => plainD n d) (fun _ => .bl true)
theorem plain_fr (q : Rat) : plainD 2 (frD q) := by
  unfold frD; rw [plainD]
  refine ⟨by simp, fun x hx => ?_⟩
  simp at hx
  rcases hx with rfl | rfl <;> rw [plainD] <;> trivial
theorem plain_parts {q : List Rat} (h : q.length ≤ 1000) : plainD 3 (partsD q) := by
  unfold partsD; rw [plainD]
  refine ⟨by simpa using h, fun x hx => ?_⟩
  obtain ⟨y, _, rfl⟩ := List.mem_map.mp hx
  exact plain_fr y
theorem plainD_succ : ∀ (n : Nat) (d : PyData), plainD n d → plainD (n + 1) d
  | 0, d, h => by rw [plainD] at h; exact h.elim
  | n + 1, .int i, h => by rw [plainD]; trivial
  | n + 1, .tuple xs, h => by rw [plainD] at h ⊢; exact ⟨h.1, fun x hx => plainD_succ n x (h.2 x hx)⟩
  | n + 1, .list xs, h => by rw [plainD] at h ⊢; exact ⟨h.1, fun x hx => plainD_succ n x (h.2 x hx)⟩
  | n + 1, .none, h => by rw [plainD] at h; exact h.elim
  | n + 1, .bool _, h => by rw [plainD] at h; exact h.elim
  | n + 1, .str _, h => by rw [plainD]; trivial
  | n + 1, .dict _, h => by rw [plainD] at h; exact h.elim
theorem plain_corn {c : Corner} (h : c.2.length ≤ 1000) : plainD 4 (cornD c) := by
  unfold cornD; rw [plainD]
  refine ⟨by simp, fun x hx => ?_⟩
  simp at hx
  rcases hx with rfl | rfl
  · exact plainD_succ _ _ (plain_fr _)
  · exact plain_parts h
theorem plain_path {cs : List Corner} (hl : cs.length ≤ 1000) (h : ∀ c ∈ cs, c.2.length ≤ 1000) : plainD 5 (pathD cs) := by
  unfold pathD; rw [plainD]
  refine ⟨by simpa using hl, fun x hx => ?_⟩
  obtain ⟨y, hy, rfl⟩ := List.mem_map.mp hx
  exact plain_corn (h y hy)
/-! ### isinstance of data -/
def tyD : PyData → String
  | .none => "NoneType"
  | .bool _ => "bool"
  | .int _ => "int"
  | .str _ => "str"
  | .list _ => "list"
  | .tuple _ => "tuple"
  | .dict _ => "dict"
def noIns : PyData → Bool
  | .dict _ => false
  | _ => true
theorem Is.ty {K : PySem.W.Frag} {d : PyData} (h : Is H d v) (nd : noIns d = true) : TyOf K H v (.type (tyD d)) := by
  cases d with
  | none => rw [Is] at h; subst h; exact .non
  | bool b => rw [Is] at h; subst h; exact .bl b
  | int b => rw [Is] at h; subst h; exact .int b
  | str b => rw [Is] at h; subst h; exact .str b
  | list xs => rw [Is] at h; obtain ⟨p, vs, rfl, e, _⟩ := h; exact .lst e
  | tuple xs => rw [Is] at h; obtain ⟨p, vs, rfl, e, _⟩ := h; exact .tup e
  | dict _ => cases nd
theorem rd_isi {K : PySem.W.Frag} {d : PyData} {T : String} {b : Bool} (h : Is H d v) (e : PySem.W.kitOne K (.type (tyD d)) (.type T) = some b) (k : Q (.bl b) H) (nd : noIns d = true) : rIsi K [v, .ty T] H Q := ⟨v, T, _, b, rfl, h.ty nd, e, k⟩
section
variable {K : PySem.W.Frag}
theorem kit_tt : PySem.W.kitOne K (.type "tuple") (.type "tuple") = some true := by rfl
theorem kit_tl : PySem.W.kitOne K (.type "tuple") (.type "list") = some false := by rfl
theorem kit_lt : PySem.W.kitOne K (.type "list") (.type "tuple") = some false := by rfl
theorem kit_ll : PySem.W.kitOne K (.type "list") (.type "list") = some true := by rfl
theorem kit_it : PySem.W.kitOne K (.type "int") (.type "tuple") = some false := by rfl
theorem kit_il : PySem.W.kitOne K (.type "int") (.type "list") = some false := by rfl
theorem kit_ib : PySem.W.kitOne K (.type "int") (.type "bool") = some false := by rfl
theorem kit_ii : PySem.W.kitOne K (.type "int") (.type "int") = some true := by rfl
end
/-! ### lists of ints, by places -/
theorem mapAt {α β : Type} {f : α → β} {l : List α} {i : Nat} {x : β} (h : (l.map f)[i]? = some x) : ∃ n, l[i]? = some n ∧ x = f n := by
  rw [List.getElem?_map] at h
  cases e : l[i]? with
  | none => rw [e] at h; cases h
  | some n => rw [e] at h; exact ⟨n, rfl, (Option.some.inj h).symm⟩
theorem range_getD {α β : Type} (g : α → β) (d : α) : ∀ l : List α, (List.range l.length).map (fun i => g (l.getD i d)) = l.map g := by
  intro l
  apply List.ext_getElem?
  intro i
  rw [List.getElem?_map, List.getElem?_map]
  by_cases h : i < l.length
  · rw [List.getElem?_range h, List.getElem?_eq_getElem h]
    simp [h]
  · rw [List.getElem?_eq_none (by simpa using Nat.le_of_not_lt h), List.getElem?_eq_none (by omega)]; rfl
theorem getD_of {α : Type} {l : List α} {i : Nat} {n d : α} (h : l[i]? = some n) : l.getD i d = n := by rw [List.getD_eq_getElem?_getD, h]; rfl
theorem Sta.int1 {n : Int} (S : Sta B G0 H cs ((.int n, v) :: ds)) : v = .int n := S.top.int_of
theorem rd_gsub {to ti : TE} {t : TSet} {σ : L2.St} {N : L2.St → Hp → Prop} (h : to σ H fun o H1 => ti σ H1 fun i H2 => t o i v H2 fun H3 => N σ H3) : gSub to ti t v σ H N := h
theorem atI_neg1 {α : Type} {xs : List α} {x : α} (h : xs.getLast? = some x) : atI xs (-1) = some x := by
  obtain ⟨ys, rfl⟩ : ∃ ys, xs = ys ++ [x] := by
    have hne : xs ≠ [] := by intro e; subst e; simp at h
    refine ⟨xs.dropLast, ?_⟩
    rw [List.getLast?_eq_some_getLast hne] at h
    rw [← Option.some.inj h, List.dropLast_concat_getLast]
  exact atI_last ys x
theorem ixN_neg1 {n : Nat} (h : 0 < n) : ixN n (-1) = some (n - 1) := by
  unfold ixN
  rw [if_neg (by omega), if_pos (by omega)]
  congr 1
  omega
theorem set_last {α : Type} {xs : List α} (h : xs ≠ []) (y : α) : xs.set (xs.length - 1) y = xs.dropLast ++ [y] := by
  obtain ⟨ys, x, rfl⟩ : ∃ ys x, xs = ys ++ [x] := ⟨xs.dropLast, xs.getLast h, (List.dropLast_concat_getLast h).symm⟩
  simp
theorem Dats.nil : ∀ p ∈ ([] : Dat), Has ds p.1 p.2 := fun p hp => absurd hp List.not_mem_nil
theorem Dats.cons {x : PyData} {r : Dat} (h : Has ds x v) (g : ∀ p ∈ r, Has ds p.1 p.2) : ∀ p ∈ (x, v) :: r, Has ds p.1 p.2 := fun p hp => by
  rcases List.mem_cons.mp hp with rfl | hp
  · exact h
  · exact g p hp
theorem sum_pos {r : List Int} (h : ∀ x ∈ r, 0 ≤ x) (g : ∃ x ∈ r, 0 < x) : 0 < r.sum := by
  induction r with
  | nil => obtain ⟨x, hx, _⟩ := g; simp at hx
  | cons y r ih =>
    rw [List.sum_cons]
    have hy := h y (List.mem_cons_self ..)
    have hs : 0 ≤ r.sum := by
      have : ∀ (l : List Int), (∀ x ∈ l, 0 ≤ x) → 0 ≤ l.sum := by
        intro l
        induction l with
        | nil => intro _; simp
        | cons z l ih2 => intro hz; rw [List.sum_cons]; have := hz z (List.mem_cons_self ..); have := ih2 fun x hx => hz x (List.mem_cons_of_mem _ hx); omega
      exact this r fun x hx => h x (List.mem_cons_of_mem _ hx)
    obtain ⟨x, hx, hp⟩ := g
    rcases List.mem_cons.mp hx with rfl | hx
    · omega
    · have := ih (fun x hx => h x (List.mem_cons_of_mem _ hx)) ⟨x, hx, hp⟩; omega
theorem RowsOk.snoc {m : Nat} {rows : List (List Int)} {r : List Int} (h : RowsOk m rows) (h1 : r.length = m) (h2 : 0 < r.sum) (h3 : BR rows.length r) : RowsOk m (rows ++ [r]) := by
  refine ⟨fun t ht => ?_, fun t ht => ?_, fun i t ht => ?_⟩
  · rcases List.mem_append.mp ht with ht | ht
    · exact h.len t ht
    · simp at ht; subst ht; exact h1
  · rcases List.mem_append.mp ht with ht | ht
    · exact h.pos t ht
    · simp at ht; subst ht; exact h2
  · rw [List.getElem?_append] at ht
    split at ht
    · exact h.bnd i t ht
    · rename_i c
      have hi : i = rows.length := by
        have := (List.getElem?_eq_some_iff.mp ht).1
        simp at this; omega
      subst hi
      simp at ht
      subst ht
      exact h3
theorem RowsOk.inR {m : Nat} {rows : List (List Int)} (h : RowsOk m rows) (hl : rows.length ≤ 70) : ∀ r ∈ rows, InR m (10 ^ 21 * 3 ^ 70) r := by
  intro r hr
  obtain ⟨i, hi⟩ := List.mem_iff_getElem?.mp hr
  have hlt : i < rows.length := (List.getElem?_eq_some_iff.mp hi).1
  refine ⟨h.len r hr, h.pos r hr, fun x hx => ?_⟩
  have := h.bnd i r hi x hx
  refine ⟨this.1, Int.le_trans this.2 ?_⟩
  have e0 : (3 : Nat) ^ i ≤ 3 ^ 70 := Nat.pow_le_pow_right (by decide) (by omega)
  have e : (3 : Int) ^ i ≤ 3 ^ 70 := by exact_mod_cast e0
  omega
/-- where steps lead -/
def endV : List Int → List (List Int) → List Int
  | h, [] => h
  | h, s :: r => endV (addV h s) r
theorem endV_snoc (s : List Int) : ∀ (r : List (List Int)) (h : List Int), endV h (r ++ [s]) = addV (endV h r) s
  | [], h => rfl
  | t :: r, h => by rw [List.cons_append, endV, endV, endV_snoc s r]
theorem cornersFrom_snoc (b : Int) (s : List Int) : ∀ (r : List (List Int)) (h : List Int), cornersFrom b h (r ++ [s]) = cornersFrom b h r ++ [cornAt b (addV (endV h r) s)]
  | [], h => by simp [cornersFrom, endV]
  | t :: r, h => by rw [List.cons_append, cornersFrom, cornersFrom, endV, cornersFrom_snoc b s r, List.cons_append]
theorem endV_len {m : Nat} : ∀ {r : List (List Int)} {h : List Int}, h.length = m → (∀ s ∈ r, s.length = m) → (endV h r).length = m
  | [], h, hh, _ => hh
  | t :: r, h, hh, hr => by
    rw [endV]
    exact endV_len (addV_len hh (hr t (List.mem_cons_self ..))) fun s hs => hr s (List.mem_cons_of_mem _ hs)
theorem cornersFrom_length (b : Int) : ∀ (r : List (List Int)) (h : List Int), (cornersFrom b h r).length = r.length
  | [], h => rfl
  | t :: r, h => by rw [cornersFrom, List.length_cons, List.length_cons, cornersFrom_length b r]
theorem cornAt_zero (b : Int) (m : Nat) : cornAt b (zeroV m) = (0, List.replicate m 0) := by
  unfold cornAt zeroV
  have h : (List.replicate m (0 : Int)).sum = 0 := by
    induction m with
    | zero => rfl
    | succ m ih => rw [List.replicate_succ, List.sum_cons, ih]; rfl
  rw [h, Rat.zero_divInt, List.map_replicate, Rat.zero_divInt]
/-! ### tests of two parts, cuts -/
theorem rd_ifand {p q : Bool} {A X Y : Prop} (hA : (if q = true then X else Y) → A) (h1 : (p && q) = true → X) (h2 : (p && q) = false → Y) : if p = true then A else (if false = true then X else Y) := by
  cases p with
  | false => exact h2 rfl
  | true =>
    refine hA ?_
    cases q with
    | false => exact h2 rfl
    | true => exact h1 rfl
theorem rd_ifor {p q : Bool} {A X Y : Prop} (hA : (if q = true then X else Y) → A) (h1 : (p || q) = true → X) (h2 : (p || q) = false → Y) : if p = true then (if true = true then X else Y) else A := by
  cases p with
  | true => exact h1 rfl
  | false =>
    refine hA ?_
    cases q with
    | false => exact h2 rfl
    | true => exact h1 rfl
theorem seq_cut' {t u : TS} {D : Ends} {σ : L2.St} (M : L2.St → Hp → Prop) (h2 : ∀ σ' H', M σ' H' → u D σ' H') (h1 : (∀ σ' H', M σ' H' → u D σ' H') → t (mkD D (u D)) σ H) : tSeq t u D σ H := h1 h2
theorem atI_mapD {r : List Int} {k : Int} (h0 : 0 ≤ k) (h : k < (r.length : Int)) : atI (r.map PyData.int) k = some (.int (r.getD k.toNat 0)) := by
  refine atI_of h0 ?_
  have hk : k.toNat < r.length := by omega
  rw [List.getElem?_map, List.getElem?_eq_getElem hk, List.getD_eq_getElem?_getD, List.getElem?_eq_getElem hk]; rfl
theorem ixN_of {n : Nat} {k : Int} (h0 : 0 ≤ k) (h : k < (n : Int)) : ixN n k = some k.toNat := by
  unfold ixN
  rw [if_pos h0, if_pos h]
theorem pow3_pos (i : Nat) : (1 : Int) ≤ 3 ^ i := by
  have : (1 : Nat) ≤ 3 ^ i := Nat.one_le_pow _ _ (by decide)
  exact_mod_cast this
theorem sum_mulL (c : Int) : ∀ l : List Int, (l.map (c * ·)).sum = c * l.sum
  | [] => by simp
  | x :: l => by rw [List.map_cons, List.sum_cons, List.sum_cons, sum_mulL c l]; grind
theorem fmod_le {x n : Int} (h : 0 < n) : 0 ≤ x.fmod n ∧ x.fmod n < n := by
  rw [Int.fmod_eq_emod_of_nonneg x (by omega)]
  exact ⟨Int.emod_nonneg x (by omega), Int.emod_lt_of_pos x h⟩
/-! ### gap, straight, thinned -/
def gapD (p q : Rat) : PyData := .tuple [.int (q.num * (p.den : Int) - p.num * (q.den : Int)), .int ((p.den : Int) * (q.den : Int))]
def spGap : Sp := spT (α := Rat × Rat) (fun a => [frD a.1, frD a.2]) (fun a => SzQ 2000 a.1 ∧ SzQ 2000 a.2) (fun a => gapD a.1 a.2)
theorem rd_gap {p q : Rat} (S : Sta B G0 H cs ds) (h1 : Has ds (frD p) v) (h2 : Has ds (frD q) w) (s1 : SzQ 2000 p) (s2 : SzQ 2000 q) (k : ∀ r H', Same H H' → Sta B G0 H' cs ((gapD p q, r) :: ds) → Q r H') : spGap [v, w] H Q E :=
  rd_spT (p, q) S (.cons h1 (.cons h2 .nil)) ⟨s1, s2⟩ k
def SzC (n : Nat) (c : Corner) : Prop := SzQ n c.1 ∧ ∀ q ∈ c.2, SzQ n q
theorem gap_sz {p q : Rat} (hp : SzQ 2000 p) (hq : SzQ 2000 q) : Sz 4001 (q.num * (p.den : Int) - p.num * (q.den : Int)) ∧ Sz 4001 ((p.den : Int) * (q.den : Int)) :=
  ⟨(hq.1.mul hp.2).sub (hp.1.mul hq.2), (hp.2.mul hq.2).mono (by decide)⟩
open Classical in
noncomputable def spStr : Sp := spB (α := Corner × Corner × Corner) (fun a => [cornD a.1, cornD a.2.1, cornD a.2.2]) (fun a => SzC 2000 a.1 ∧ SzC 2000 a.2.1 ∧ SzC 2000 a.2.2 ∧ a.2.1.2.length = a.1.2.length ∧ a.2.2.2.length = a.1.2.length ∧ a.1.2.length ≤ 1000) (fun a => .bl (decide (straight a.1 a.2.1 a.2.2)))
open Classical in
theorem rd_str {a b c : Corner} {u : V} (S : Sta B G0 H cs ds) (h1 : Has ds (cornD a) v) (h2 : Has ds (cornD b) w) (h3 : Has ds (cornD c) u) (sa : SzC 2000 a) (sb : SzC 2000 b) (sc : SzC 2000 c) (l1 : b.2.length = a.2.length) (l2 : c.2.length = a.2.length) (l3 : a.2.length ≤ 1000)
    (k : ∀ H', Sta B G0 H' cs ds → Q (.bl (decide (straight a b c))) H') : spStr [v, w, u] H Q E :=
  rd_spB (a, b, c) (S.hpAll (.cons h1 (.cons h2 (.cons h3 .nil)))) ⟨sa, sb, sc, l1, l2, l3⟩ fun H' e => k H' (S.same e)
structure PathOk (m : Nat) (cs : List Corner) : Prop where
  sz : ∀ c ∈ cs, SzC 2000 c
  len : ∀ c ∈ cs, c.2.length = m
  m : m ≤ 1000
  few : cs.length ≤ 900
noncomputable def spThinned : Sp := spL (α := List Corner) (fun a => [pathD a]) (fun a => ∃ m, PathOk m a) (fun a => (keepAll a).map cornD)
theorem rd_thinned {a : List Corner} {m : Nat} (S : Sta B G0 H cs ds) (h : Has ds (pathD a) v) (ok : PathOk m a) (k : ∀ p H', Same H H' → Sta B G0 H' ((p, (keepAll a).map cornD) :: cs) ds → Q (.ref p) H') : spThinned [v] H Q E :=
  rd_spL a S (.cons h .nil) ⟨m, ok⟩ k
/-! ### slices -/
def kPart (R : Option Int → Hp → Prop) : VK := fun x H1 => ∃ i, x = .int i ∧ R (some i) H1
section
variable {σ : L2.St} {R : Option Int → Hp → Prop} {K : PySem.W.Frag}
theorem rd_sl {r : V → Option Int → Option Int → Hp → VK → Prop} {te : TE} {tl th : TO} (h : te σ H fun x H1 => tl σ H1 fun l H2 => th σ H2 fun u H3 => r x l u H3 Q) : tSl r te tl th σ H Q := h
theorem rd_noPart (h : R none H) : tNoPart σ H R := h
theorem rd_part {t : TE} (h : t σ H (kPart R)) : tPart t σ H R := h
theorem rd_kPart {i : Int} (h : R (some i) H) : kPart R (.int i) H := ⟨i, rfl, h⟩
def cutI (ns : List Int) (lo hi : Option Int) : List Int := (ns.drop (HT.sIx ns.length 0 lo)).take (HT.sIx ns.length ns.length hi - HT.sIx ns.length 0 lo)
theorem cutI_len (ns : List Int) (lo hi : Option Int) : (cutI ns lo hi).length ≤ ns.length := by
  unfold cutI; rw [List.length_take, List.length_drop]; omega
theorem isAll_of_ints {G : Hp} : ∀ ns : List Int, IsAll G (ns.map PyData.int) (ns.map V.int)
  | [] => by rw [List.map_nil, List.map_nil, IsAll]
  | n :: ns => by rw [List.map_cons, List.map_cons, IsAll]; exact ⟨_, _, rfl, by rw [Is], isAll_of_ints ns⟩
theorem rd_slS {a : Addr} {ns : List Int} {lo hi : Option Int} (S : Sta B G0 H cs ds) (hS : SqL K H a (ns.map V.int)) (k : ∀ l H', Same H H' → Sta B G0 H' ((l, (cutI ns lo hi).map PyData.int) :: cs) ds → Q (.ref l) H') : rSlL K (.ref a) lo hi H Q := by
  refine ⟨a, _, rfl, hS, fun l hl => k l _ (Same.new hl _) ?_⟩
  have e : cutV (ns.map V.int) lo hi = (cutI ns lo hi).map V.int := by
    unfold cutV cutI
    rw [List.length_map, ← List.map_drop, ← List.map_take]
  rw [e]
  exact S.newL hl fun G _ => isAll_of_ints _
end
theorem isAll_pair {x : PyData} (h1 : Is H x v) (h2 : Is H x w) : IsAll H [x, x] [v, w] := by
  simp only [IsAll]; exact ⟨_, _, rfl, h1, _, _, rfl, h2, rfl⟩
/-! ### sizes of corners -/
theorem cornAt_sz {b : Int} {h : List Int} (hb : 1 ≤ b ∧ b ≤ 200) (hm : h.length ≤ 8) (hx : ∀ x ∈ h, 0 ≤ x ∧ x ≤ 2 ^ 400) : SzC 2000 (cornAt b h) := by
  have e4 : (2 : Int) ^ 404 = 16 * 2 ^ 400 := by decide
  have hbz : Sz 404 b := sz_of_le (by omega) (by rw [e4]; have : (0 : Int) < 2 ^ 400 := by decide
                                                 have : (200 : Int) ≤ 2 ^ 400 := by decide
                                                 omega)
  have h1 := sum_le hx
  have hl : (h.length : Int) ≤ 8 := by omega
  have h2 : (h.length : Int) * 2 ^ 400 ≤ 8 * 2 ^ 400 := Int.mul_le_mul_of_nonneg_right hl (by decide)
  have h0 : (0 : Int) < 2 ^ 400 := by decide
  unfold cornAt
  refine ⟨(SzQ.divInt (sz_of_le h1.1 (by rw [e4]; omega)) hbz (by omega)).mono (by decide), fun q hq => ?_⟩
  obtain ⟨x, hx', rfl⟩ := List.mem_map.mp hq
  have := hx x hx'
  exact (SzQ.divInt (sz_of_le (n := 404) this.1 (by rw [e4]; omega)) hbz (by omega)).mono (by decide)
theorem cornersFrom_ok {b : Int} {m : Nat} {d : Int} (hb : 1 ≤ b ∧ b ≤ 200) (hm : m ≤ 8) (hd : 0 ≤ d) : ∀ (rows : List (List Int)) (h : List Int) (c : Int), (∀ r ∈ rows, InR m d r) → h.length = m → (∀ x ∈ h, 0 ≤ x ∧ x ≤ c) → 0 ≤ c → c + rows.length * d ≤ 2 ^ 400 →
    ∀ k ∈ cornersFrom b h rows, SzC 2000 k ∧ k.2.length = m
  | [], h, c, _, _, _, _, _, k, hk => by simp [cornersFrom] at hk
  | r :: rows, h, c, hr, lh, hx, h0, hc, k, hk => by
    have gr := hr r (List.mem_cons_self ..)
    have e : c + ((r :: rows).length : Nat) * d = (c + d) + rows.length * d := by rw [List.length_cons]; push_cast; grind
    rw [e] at hc
    have hrd : 0 ≤ (rows.length : Int) * d := Int.mul_nonneg (Int.natCast_nonneg _) hd
    have la := addV_len lh gr.len
    have ha : ∀ x ∈ addV h r, 0 ≤ x ∧ x ≤ c + d := by
      intro x hx'
      obtain ⟨i, hi⟩ := List.mem_iff_getElem?.mp hx'
      have hlt : i < m := by have := (List.getElem?_eq_some_iff.mp hi).1; rwa [la] at this
      rw [addV_get (List.getElem?_eq_getElem (by rw [lh]; exact hlt)) (List.getElem?_eq_getElem (by rw [gr.len]; exact hlt))] at hi
      cases hi
      have := hx _ (List.getElem_mem (show i < h.length by rw [lh]; exact hlt))
      have := gr.bnd _ (List.getElem_mem (show i < r.length by rw [gr.len]; exact hlt))
      omega
    rw [cornersFrom] at hk
    rcases List.mem_cons.mp hk with rfl | hk
    · refine ⟨cornAt_sz hb (by omega) fun x hx' => ?_, by unfold cornAt; rw [List.length_map]; exact la⟩
      have := ha x hx'
      omega
    · exact cornersFrom_ok hb hm hd rows (addV h r) (c + d) (fun t ht => hr t (List.mem_cons_of_mem _ ht)) la ha (by omega) hc k hk
theorem cornersV_ok {b : Int} {m : Nat} {d : Int} {rows : List (List Int)} (hb : 1 ≤ b ∧ b ≤ 200) (hm : m ≤ 8) (hd : 0 ≤ d ∧ d ≤ 2 ^ 300) (hl : rows.length ≤ 200) (hr : ∀ r ∈ rows, InR m d r) : PathOk m (cornersV b m rows) := by
  have hz : ∀ x ∈ zeroV m, (0 : Int) ≤ x ∧ x ≤ 0 := fun x hx => by
    have := List.eq_of_mem_replicate hx
    omega
  have h3 : (2 : Int) ^ 400 = 2 ^ 100 * 2 ^ 300 := by decide
  have h4 : (200 : Int) ≤ 2 ^ 100 := by decide
  have h6 : (200 : Int) * 2 ^ 300 ≤ 2 ^ 100 * 2 ^ 300 := Int.mul_le_mul_of_nonneg_right h4 (by decide)
  have h7 : (rows.length : Int) * d ≤ 200 * d := Int.mul_le_mul_of_nonneg_right (by omega) hd.1
  have key := cornersFrom_ok hb hm hd.1 rows (zeroV m) 0 hr (zeroV_len m) hz (Int.le_refl _) (by omega)
  have k0 : SzC 2000 (cornAt b (zeroV m)) ∧ (cornAt b (zeroV m)).2.length = m := ⟨cornAt_sz hb (by rw [zeroV_len]; exact hm) fun x hx => by have := hz x hx; have : (0 : Int) < 2 ^ 400 := by decide
                                                                                                                                            omega, by unfold cornAt; rw [List.length_map, zeroV_len]⟩
  refine ⟨fun c hc => ?_, fun c hc => ?_, by omega, by unfold cornersV; rw [List.length_cons, cornersFrom_length]; omega⟩
  · rcases List.mem_cons.mp hc with rfl | hc
    · exact k0.1
    · exact (key c hc).1
  · rcases List.mem_cons.mp hc with rfl | hc
    · exact k0.2
    · exact (key c hc).2
theorem keepAll_corners {b : Int} {m : Nat} {rows : List (List Int)} (hb : 0 < b) (hr : ∀ r ∈ rows, GoodS m r) : keepAll (cornersV b m rows) = cornersV b m (thinS rows) := by
  unfold cornersV
  rw [keepAll, keep_all hb hr (zeroV_len m)]
theorem PathOk.plain {m : Nat} {a : List Corner} (h : PathOk m a) : plainD 5 (pathD a) := plain_path (by have := h.few; omega) fun c hc => by rw [h.len c hc]; exact h.m
end
end S

namespace S
open PySem PySem.Spec PyProof.Rows L2
/-! ### rules: shapes and texts -/
inductive Rl where
  | shares | evenly | losses | halves
  | other (r : Rl) | ranks (r : Rl) | groups (a b : Rl) | upto (t b : Int) (x y : Rl)
def itS (i : Int) : Str := Str.ofString (toString i)
def Rl.shape : Rl → PyData
  | .shares => .tuple [.str "shares"]
  | .evenly => .tuple [.str "evenly"]
  | .losses => .tuple [.str "losses"]
  | .halves => .tuple [.str "halves"]
  | .other r => .tuple [.str "other", r.shape]
  | .ranks r => .tuple [.str "ranks", r.shape]
  | .groups a b => .tuple [.str "groups", a.shape, b.shape]
  | .upto t b x y => .tuple [.str "upto", .tuple [.int t, .int b], x.shape, y.shape]
def Rl.text : Rl → Str
  | .shares => "shares"
  | .evenly => "evenly"
  | .losses => "losses"
  | .halves => "halves"
  | .other r => ("other(" : Str) ++ r.text ++ (")" : Str)
  | .ranks r => ("ranks(" : Str) ++ r.text ++ (")" : Str)
  | .groups a b => ("groups(" : Str) ++ a.text ++ (", " : Str) ++ b.text ++ (")" : Str)
  | .upto t b x y => ("upto(" : Str) ++ itS t ++ ("/" : Str) ++ itS b ++ (", " : Str) ++ x.text ++ (", " : Str) ++ y.text ++ (")" : Str)
def Rl.size : Rl → Nat
  | .other r => r.size + 1
  | .ranks r => r.size + 1
  | .groups a b => a.size + b.size + 1
  | .upto _ _ x y => x.size + y.size + 1
  | _ => 1
/-- how deep -/
def Rl.deep : Rl → Nat
  | .other r => r.deep + 1
  | .ranks r => r.deep + 1
  | .groups a b => max a.deep b.deep + 1
  | .upto _ _ x y => max x.deep y.deep + 1
  | _ => 1
/-- portions that are not too long -/
def Rl.Ok : Rl → Prop
  | .other r => r.Ok
  | .ranks r => r.Ok
  | .groups a b => a.Ok ∧ b.Ok
  | .upto t b x y => (Sz 210 t ∧ Sz 210 b) ∧ x.Ok ∧ y.Ok
  | _ => True
theorem Rl.deep_le : ∀ r : Rl, r.deep ≤ r.size
  | .shares => Nat.le_refl _
  | .evenly => Nat.le_refl _
  | .losses => Nat.le_refl _
  | .halves => Nat.le_refl _
  | .other r => Nat.succ_le_succ r.deep_le
  | .ranks r => Nat.succ_le_succ r.deep_le
  | .groups a b => by have h1 := a.deep_le; have h2 := b.deep_le; simp only [Rl.deep, Rl.size]; omega
  | .upto _ _ x y => by have h1 := x.deep_le; have h2 := y.deep_le; simp only [Rl.deep, Rl.size]; omega
theorem Rl.size_pos : ∀ r : Rl, 1 ≤ r.size
  | .shares => Nat.le_refl _
  | .evenly => Nat.le_refl _
  | .losses => Nat.le_refl _
  | .halves => Nat.le_refl _
  | .other r => Nat.le_add_left ..
  | .ranks r => Nat.le_add_left ..
  | .groups a b => Nat.le_add_left ..
  | .upto _ _ x y => Nat.le_add_left ..
/-! ### texts -/
theorem str_assoc (a b c : Str) : a ++ b ++ c = a ++ (b ++ c) := by
  show Str.append (Str.append a b) c = Str.append a (Str.append b c)
  unfold Str.append
  rw [Array.append_assoc]
theorem str_len (a b : Str) : (a ++ b).length = a.length + b.length := by
  show (Str.append a b).length = _
  unfold Str.append Str.length
  rw [Array.size_append]
theorem empty_app (a : Str) : Str.empty ++ a = a := by
  show Str.append Str.empty a = a
  unfold Str.append Str.empty
  rw [Array.empty_append]
theorem glued1 (g x : Str) : Builtin.Str.glued g [x] = x := rfl
theorem glued2 (g x y : Str) : Builtin.Str.glued g [x, y] = x ++ g ++ y := rfl
theorem glued3 (g x y z : Str) : Builtin.Str.glued g [x, y, z] = x ++ g ++ y ++ g ++ z := rfl
theorem sz_log2 {n : Nat} {x : Int} (h : Sz n x) (l : n ≤ 1919) : x.natAbs.log2 < 1920 := by
  by_cases h0 : x.natAbs = 0
  · rw [h0]; decide +kernel
  · have := (Nat.log2_lt h0).mpr (Sz.mono h l)
    omega
theorem itS_len {i : Int} (h : Sz 210 i) : (itS i).length ≤ 1921 := int_text_len_1921 (sz_log2 h (by decide))
theorem Rl.text_len : ∀ r : Rl, r.Ok → r.text.length ≤ 4000 * r.size
  | .shares, _ => by decide
  | .evenly, _ => by decide
  | .losses, _ => by decide
  | .halves, _ => by decide
  | .other r, h => by
    have h1 := r.text_len h
    simp only [Rl.text, Rl.size, str_len]
    have l1 : ("other(" : Str).length = 6 := by decide +kernel
    have l2 : (")" : Str).length = 1 := by decide +kernel
    omega
  | .ranks r, h => by
    have h1 := r.text_len h
    simp only [Rl.text, Rl.size, str_len]
    have l1 : ("ranks(" : Str).length = 6 := by decide +kernel
    have l2 : (")" : Str).length = 1 := by decide +kernel
    omega
  | .groups a b, h => by
    have h1 := a.text_len h.1
    have h2 := b.text_len h.2
    simp only [Rl.text, Rl.size, str_len]
    have l1 : ("groups(" : Str).length = 7 := by decide +kernel
    have l2 : (")" : Str).length = 1 := by decide +kernel
    have l3 : (", " : Str).length = 2 := by decide +kernel
    omega
  | .upto t b x y, h => by
    have h1 := x.text_len h.2.1
    have h2 := y.text_len h.2.2
    have h3 := itS_len h.1.1
    have h4 := itS_len h.1.2
    simp only [Rl.text, Rl.size, str_len]
    have l1 : ("upto(" : Str).length = 5 := by decide +kernel
    have l2 : (")" : Str).length = 1 := by decide +kernel
    have l3 : (", " : Str).length = 2 := by decide +kernel
    have l4 : ("/" : Str).length = 1 := by decide +kernel
    omega
/-! ### instances -/
structure RAd where
  (sh ev lo ha ot ra gr up : Addr)
def RAd.cls (A : RAd) : Rl → Addr
  | .shares => A.sh
  | .evenly => A.ev
  | .losses => A.lo
  | .halves => A.ha
  | .other _ => A.ot
  | .ranks _ => A.ra
  | .groups _ _ => A.gr
  | .upto _ _ _ _ => A.up
def insD (C : Addr) (form : PyData) : PyData := .dict [(.int ((C : Nat) : Int), form)]
def Rl.ins (A : RAd) (r : Rl) : PyData := insD (A.cls r) r.shape
def Rl.trip (A : RAd) (r : Rl) : PyData := .tuple [r.ins A, r.shape, .str r.text]
/-- what is asked of a class of rules -/
structure ROk (K : PySem.W.Frag) (fS fT Ru C : Addr) : Prop where
  cl : Cls K C
  na : NoAttr K C "form"
  ms : Meth K C "shape" fS
  mt : Meth K C "text" fT
  ha : PySem.W.findIn K (.ref C) "__class__" = some (some (.builtin "object.__class__"))
  hn : PySem.W.specialIn K (.builtin "object.__class__") "__get__" = some (some (.builtin "getset_descriptor.__get__"))
  htk : PySem.W.takesIn K (.builtin "object.__class__") = some true
  hm : PySem.W.mroIn K C (.type "object") = some true
  kit : PySem.W.kitOne K (.ref C) (.ref Ru) = some true
section
variable {B G0 H : Hp} {cs : Cells} {ds : Dat} {Q : VK} {E : XK} {v w u : V} {K : PySem.W.Frag} {α : Type} {C : Addr} {x : PyData} {vs : List V}
theorem is_ins {G : Hp} (h : Is G (insD C x) v) : ∃ p dx w, v = .ref p ∧ G p = some (.ins C dx [("form", w)]) ∧ Is G x w := by
  unfold insD at h
  rw [Is, IsIn] at h
  obtain ⟨p, C', dx, w, e, h1, h2, h3⟩ := h
  have : C = C' := Int.ofNat.inj (PyData.int.inj e)
  subst this
  exact ⟨p, dx, w, h1, h2, h3⟩
theorem Sta.ins (S : Sta B G0 H cs ds) (h : Has ds (insD C x) v) : ∃ p dx w, v = .ref p ∧ H p = some (.ins C dx [("form", w)]) ∧ Sta B G0 H cs ((x, w) :: ds) := by
  obtain ⟨G, a, b, c, d, e, f, g⟩ := S
  obtain ⟨p, dx, w, h1, h2, h3⟩ := is_ins (h G g)
  exact ⟨p, dx, w, h1, b _ _ h2, G, a, b, c, d, e, f, g.cons h3⟩
/-- x.form -/
def kFld (K : PySem.W.Frag) (f : Str) (Q : VK) : VK := fun x H1 => ∃ a C dx fs v, x = .ref a ∧ H1 a = some (.ins C dx fs) ∧ Cls K C ∧ NoAttr K C f ∧ fs.lookup f = some v ∧ Q v H1
theorem rd_fld {ta : TE} {f : Str} {σ : L2.St} (h : ta σ H (kFld K f Q)) : tFld K ta f σ H Q := h
theorem rd_kFld {fS fT Ru : Addr} (S : Sta B G0 H cs ds) (h : Has ds (insD C x) v) (ok : ROk K fS fT Ru C) (k : ∀ w, Sta B G0 H cs ((x, w) :: ds) → Q w H) : kFld K "form" Q v H := by
  obtain ⟨p, dx, w, rfl, hp, S'⟩ := S.ins h
  exact ⟨p, C, dx, _, w, rfl, hp, ok.cl, ok.na, rfl, k w S'⟩
/-- o.m() -/
def kMA (K : PySem.W.Frag) (m : Str) (f : Addr) (sp : Sp) (E : XK) (Q : VK) : VK := fun x H1 => ∃ a C dx fs, x = .ref a ∧ H1 a = some (.ins C dx fs) ∧ Cls K C ∧ Meth K C m f ∧ fs.lookup m = none ∧ sp [x] H1 Q E
theorem rd_methA {m : Str} {f : Addr} {sp : Sp} {ta : TE} {σ : L2.St} (h : ta σ H (kMA K m f sp E Q)) : tMethA K m f sp E ta σ H Q := h
theorem rd_kMS {fS fT Ru : Addr} {sp : Sp} (S : Sta B G0 H cs ds) (h : Has ds (insD C x) v) (ok : ROk K fS fT Ru C) (k : sp [v] H Q E) : kMA K "shape" fS sp E Q v H := by
  obtain ⟨p, dx, w, rfl, hp, S'⟩ := S.ins h
  exact ⟨p, C, dx, _, rfl, hp, ok.cl, ok.ms, rfl, k⟩
theorem rd_kMT {fS fT Ru : Addr} {sp : Sp} (S : Sta B G0 H cs ds) (h : Has ds (insD C x) v) (ok : ROk K fS fT Ru C) (k : sp [v] H Q E) : kMA K "text" fT sp E Q v H := by
  obtain ⟨p, dx, w, rfl, hp, S'⟩ := S.ins h
  exact ⟨p, C, dx, _, rfl, hp, ok.cl, ok.mt, rfl, k⟩
theorem rd_isC {fS fT Ru : Addr} (S : Sta B G0 H cs ds) (h : Has ds (insD C x) v) (ok : ROk K fS fT Ru C) (k : Q (.bl true) H) : rIsC K [v, .ref Ru] H Q := by
  obtain ⟨p, dx, w, rfl, hp, S'⟩ := S.ins h
  exact ⟨_, Ru, _, true, rfl, .ins hp ok.cl ok.ha ok.hn ok.htk ok.hm, ok.kit, k⟩
/-- __init__: the form is laid down -/
def spInit (C : Addr) (enc : α → List PyData) (form : α → PyData) : Sp := fun vs H Q _ => ∃ (G : Hp) (a : α) (x dx : Addr) (us : List V), vs = .ref x :: us ∧ Same G H ∧ G x = none ∧ H x = some (.ins C dx []) ∧ IsAll G (enc a) us ∧
  ∀ H' G' w, (∀ p o, p ≠ x → H p = some o → H' p = some o) → Same G G' → Same G' H' → (∀ p, H p ≠ none → G' p = G p) → H' x = some (.ins C dx [("form", w)]) → Is G' (form a) w → Q .non H'
/-- C(..) -/
def kMake (C : Addr) (sp : Sp) (E : XK) (Q : VK) (vs : List V) (H1 : Hp) : Prop := ∀ x dx, H1 x = none → H1 dx = none → dx ≠ x → sp (.ref x :: (vs ++ [])) (upd (upd H1 dx (.own x)) x (.ins C dx [])) (fun v H2 => v = .non ∧ Q (.ref x) H2) E
theorem rd_make {sp : Sp} {t : TA} {σ : L2.St} (h : t σ H (kMake C sp E Q)) : tMake C sp [] E t σ H Q := h
theorem rd_kMake {enc : α → List PyData} {form : α → PyData} (a : α) (S : Sta B G0 H cs ds) (hx : HasAll ds (enc a) vs) (k : ∀ x H', Same H H' → Sta B G0 H' cs ((insD C (form a), .ref x) :: ds) → Q (.ref x) H') : kMake C (spInit C enc form) E Q vs H := by
  intro x dx hx0 hd0 hne
  obtain ⟨G, s1, s2, s3, s4, s5, s6, s7⟩ := S
  have gx : G x = none := s2.free hx0
  have gd : G dx = none := s2.free hd0
  have old : ∀ p o, H p = some o → upd (upd H dx (.own x)) x (.ins C dx []) p = some o := fun p o hp => by
    rw [upd_ne (ne_of_none hp hx0), upd_ne (ne_of_none hp hd0)]; exact hp
  refine ⟨G, a, x, dx, vs, by rw [List.append_nil], fun p o hp => old p o (s2 p o hp), gx, upd_same, hx G s7, fun H' G' w h1 h2 h3 h4 h5 h6 => ⟨rfl, ?_⟩⟩
  have keep : ∀ p o, H p = some o → H' p = some o := fun p o hp => h1 p o (ne_of_none hp hx0) (old p o hp)
  have gx' : G' x = none := by rw [h4 x (by rw [upd_same]; simp)]; exact gx
  have eG := Same.new gx' (.ins C dx [("form", w)])
  refine k x H' keep ⟨upd G' x (.ins C dx [("form", w)]), (s1.trans h2).trans eG, fun p o hp => ?_, fun p o hp => keep p o (s3 p o hp), fun p hp => ?_, fun c hc => ?_, s6, (s7.mono (h2.trans eG)).cons ?_⟩
  · by_cases hpx : p = x
    · subst hpx; rw [upd_same] at hp; rw [← hp]; exact h5
    · rw [upd_ne hpx] at hp; exact h3 p o hp
  · cases hb : B p with
    | none => exact absurd hb hp
    | some o =>
      have hH := s3 p o hb
      rw [upd_ne (ne_of_none hH hx0), h4 p (by rw [old p o hH]; simp), s4 p hp]
  · obtain ⟨z1, z2, us, z3, z4⟩ := s5 c hc
    have hcx := ne_of_none z3 hx0
    exact ⟨z1, by rw [upd_ne hcx, h4 c.1 (by rw [old _ _ z3]; simp)]; exact z2, us, keep _ _ z3, IsAll.mono (h2.trans eG) _ _ z4⟩
  · unfold insD
    rw [Is, IsIn]
    exact ⟨x, C, dx, w, rfl, rfl, upd_same, Is.mono eG _ _ h6⟩
/-- Rule.__init__(self, form) -/
def spRInit (K : PySem.W.Frag) (fS fT Ru : Addr) : Sp := fun vs H Q E => ∃ C, ROk K fS fT Ru C ∧ spInit C (α := PyData) (fun d => [d]) (fun d => d) vs H Q E
theorem rd_rinit {fS fT Ru y dx : Addr} {G H1 : Hp} {d : PyData} (S : Sta H G H1 [] ds) (gx : G y = none) (hx : H y = some (.ins C dx [])) (ok : ROk K fS fT Ru C) (hd : Has ds d v)
    (k : ∀ H' G' w, (∀ p o, p ≠ y → H p = some o → H' p = some o) → Same G G' → Same G' H' → (∀ p, H p ≠ none → G' p = G p) → H' y = some (.ins C dx [("form", w)]) → Is G' d w → Q .non H') : spRInit K fS fT Ru [.ref y, v] H1 Q E := by
  obtain ⟨G1, a1, b1, c1, d1, _, _, g1⟩ := S
  refine ⟨C, ok, G1, d, y, dx, [v], rfl, b1, by rw [d1 y (by rw [hx]; simp)]; exact gx, c1 _ _ hx, (HasAll.cons hd HasAll.nil) G1 g1, fun H' G' w h1 h2 h3 h4 h5 h6 => k H' G' w (fun p o hp ho => h1 p o hp (c1 p o ho)) (a1.trans h2) h3 (fun p hp => ?_) h5 h6⟩
  rw [h4 p ?_, d1 p hp]
  cases hb : H p with
  | none => exact absurd hb hp
  | some o => rw [c1 p o hb]; simp
/-! ### texts that are put together -/
def kJ (t : TJ) (out : Str) (σ : L2.St) (Q : VK) : VK := fun x H1 => ∃ y, x = .str y ∧ (out ++ y).length ≤ sizeLine ∧ t (out ++ y) σ H1 Q
theorem rd_jCons {te : TE} {t : TJ} {out : Str} {σ : L2.St} (h : te σ H (kJ t out σ Q)) : jCons te t out σ H Q := h
theorem rd_kJ {t : TJ} {out y : Str} {σ : L2.St} (hl : out.length + y.length ≤ 1000000) (h : t (out ++ y) σ H Q) : kJ t out σ Q (.str y) H := ⟨y, rfl, by rw [str_len]; exact Nat.le_trans hl (by decide), h⟩
theorem rd_jNil {out : Str} {σ : L2.St} (hl : out.length ≤ 1000000) (h : Q (.str out) H) : jNil out σ H Q := ⟨Nat.le_trans hl (by decide), h⟩
def kFmt (Q : VK) : VK := fun x H1 => (∃ y, x = .str y ∧ y.length ≤ sizeLine ∧ Q (.str y) H1) ∨ ∃ i : Int, x = .int i ∧ i.natAbs.log2 < 1920 ∧ Q (.str (toString i)) H1
theorem rd_fmt {te : TE} {σ : L2.St} (h : te σ H (kFmt Q)) : tFmt te σ H Q := h
theorem rd_kFmtS {y : Str} (hl : y.length ≤ 1000000) (h : Q (.str y) H) : kFmt Q (.str y) H := .inl ⟨y, rfl, Nat.le_trans hl (by decide), h⟩
theorem rd_kFmtI {i : Int} (hz : Sz 210 i) (h : Q (.str (itS i)) H) : kFmt Q (.int i) H := .inr ⟨i, rfl, sz_log2 hz (by decide), h⟩
def rAddS : R2 := fun x y H Q => rAddA x y H Q ∨ ∃ i j, x = .str i ∧ y = .str j ∧ i.length + j.length ≤ sizeLine ∧ Q (.str (i ++ j)) H
theorem op_addS {X : Cx} : OpR X (binaryOp .Add) rAddS := op_addA.or op_add_str
theorem rd_addS {i j : Str} (hl : i.length + j.length ≤ 1000000) (h : Q (.str (i ++ j)) H) : rAddS (.str i) (.str j) H Q := .inr ⟨i, j, rfl, rfl, Nat.le_trans hl (by decide), h⟩
theorem rd_addSI {i j : Int} (h : Q (.int (i + j)) H) : rAddS (.int i) (.int j) H Q := .inl (rd_addI h)
theorem rd_eqS {i j : Str} (h : Q (.bl (decide (i = j))) H) : rEqA (.str i) (.str j) H Q := .inl ⟨rfl, by
  rw [dec_congr (show V.str i = V.str j ↔ i = j from ⟨V.str.inj, congrArg _⟩)]; exact h⟩
theorem rd_neS {i j : Str} (h : Q (.bl (!decide (i = j))) H) : rNeA (.str i) (.str j) H Q := .inl ⟨rfl, by
  rw [dec_congr (show V.str i = V.str j ↔ i = j from ⟨V.str.inj, congrArg _⟩)]; exact h⟩
def rStrI : List V → Hp → VK → Prop := fun xs H Q => ∃ i : Int, xs = [.int i] ∧ i.natAbs.log2 < 1920 ∧ Q (.str (toString i)) H
theorem call_strI {X : Cx} : CallR X (.type "str") rStrI := call_str_int
theorem rd_strI {i : Int} (hz : Sz 210 i) (h : Q (.str (itS i)) H) : rStrI [.int i] H Q := ⟨i, rfl, sz_log2 hz (by decide), h⟩
theorem Is.str_of {x : Str} (h : Is H (.str x) v) : v = .str x := by rw [Is] at h; exact h
theorem kit_st : PySem.W.kitOne K (.type "str") (.type "tuple") = some false := by rfl
theorem kit_sl : PySem.W.kitOne K (.type "str") (.type "list") = some false := by rfl
theorem kit_sb : PySem.W.kitOne K (.type "str") (.type "bool") = some false := by rfl
theorem kit_si : PySem.W.kitOne K (.type "str") (.type "int") = some false := by rfl
theorem kit_ss : PySem.W.kitOne K (.type "str") (.type "str") = some true := by rfl
/-- l.pop() -/
theorem rd_pop {L : Addr} {xs : List PyData} (S : Sta B G0 H ((L, xs ++ [x]) :: cs) ds) (k : ∀ v H', Sta B G0 H' ((L, xs) :: cs) ((x, v) :: ds) → Q v H') : rPop (.ref L) [] H Q := by
  obtain ⟨G, a, b, c, d, e, f, g⟩ := S
  obtain ⟨z1, z2, vs, z, u⟩ := e _ (List.mem_cons_self ..)
  have hl := u.len
  rw [List.length_append, List.length_singleton] at hl
  obtain ⟨y, hy, hi⟩ := u.at (i := xs.length) (x := x) (by simp)
  have S' : Sta B G0 H ((L, xs ++ [x]) :: cs) ((x, y) :: ds) := ⟨G, a, b, c, d, e, f, g.cons hi⟩
  obtain ⟨vs', hv', _, put⟩ := S'.put
  rw [z] at hv'
  cases hv'
  refine ⟨L, vs, y, rfl, rfl, z, by rw [show vs.length - 1 = xs.length by omega]; exact hy, k y _ (put xs vs.dropLast fun G' _ h => ?_)⟩
  have h' := h.take xs.length
  rw [List.take_left'] at h'
  · rw [List.dropLast_eq_take, show vs.length - 1 = xs.length by omega]
    exact h'
  · rfl
/-- l[::-1] -/
def kRevL (K : PySem.W.Frag) (Q : VK) : VK := fun x H1 => ∃ a xs, x = .ref a ∧ SqL K H1 a xs ∧ ∀ p, H1 p = none → Q (.ref p) (upd H1 p (.lst xs.reverse))
theorem rd_rev {te : TE} {σ : L2.St} (h : te σ H (kRevL K Q)) : tRevL K te σ H Q := h
theorem rd_kRevL {xs : List PyData} (S : Sta B G0 H cs ds) (hx : Has ds (.list xs) v) (k : ∀ l H', Same H H' → Sta B G0 H' ((l, xs.reverse) :: cs) ds → Q (.ref l) H') : kRevL K Q v H := by
  obtain ⟨p, vs, rfl, hp, hl, S', hA⟩ := S.lstAll hx
  exact ⟨p, vs, rfl, SqL.of hp, fun l hl => k l _ (Same.new hl _) ((S'.newL hl fun G a => (hA G a).rev).dat fun q hq => .mem (List.mem_append_right _ hq))⟩
theorem rd_slT {lo hi : Option Int} {xs : List PyData} (S : Sta B G0 H cs ds) (hx : Has ds (.tuple xs) v) (hw : ¬ (HT.sIx xs.length 0 lo = 0 ∧ HT.sIx xs.length xs.length hi = xs.length)) (k : ∀ l H', Same H H' → Sta B G0 H' cs ((.tuple (cutD xs lo hi), .ref l) :: ds) → Q (.ref l) H') : rSlT K v lo hi H Q := by
  obtain ⟨p, vs, rfl, hp, hl, S', hA⟩ := S.tupAll hx
  refine ⟨p, vs, rfl, SqT.of hp, by rw [← hl]; exact hw, fun l hn => k l _ (Same.new hn _) ((S'.newT hn fun G a => ?_).dat fun q hq => .mem (by
    rcases List.mem_cons.mp hq with rfl | hq
    · exact List.mem_cons_self ..
    · exact List.mem_cons_of_mem _ (List.mem_append_right _ hq)))⟩
  unfold cutD cutV
  rw [hl]
  exact ((hA G a).drop _).take _
theorem rd_kBMs {sep : Str} {r : V → List V → Hp → VK → Prop} {t : TA} {σ : L2.St} (h : t σ H fun ys H2 => r (.str sep) ys H2 Q) : kBM K "str" r t σ Q (.str sep) H := ⟨rfl, h⟩
theorem isAll_strs {G : Hp} : ∀ {ns : List Str} {vs : List V}, IsAll G (ns.map PyData.str) vs → vs = ns.map V.str
  | [], vs, h => by rw [List.map_nil, IsAll] at h; exact h
  | n :: ns, vs, h => by
    rw [List.map_cons, IsAll] at h
    obtain ⟨v, r, rfl, h1, h2⟩ := h
    rw [Is] at h1
    subst h1
    rw [isAll_strs h2, List.map_cons]
theorem rd_join {L : Addr} {sep : Str} {ys : List Str} (S : Sta B G0 H cs ds) (h : (L, ys.map PyData.str) ∈ cs) (hok : JoinOk sep ys = true) (k : Q (.str (Builtin.Str.glued sep ys)) H) : rJoin K (.str sep) [.ref L] H Q := by
  obtain ⟨vs, hp, u⟩ := S.vwC h
  obtain ⟨G, S'⟩ := id S
  rw [isAll_strs (u G S')] at hp
  exact ⟨sep, L, ys, rfl, rfl, SqL.of hp, hok, k⟩
theorem rd_ixTS {i : Int} {n : Str} {xs : List PyData} (S : Sta B G0 H cs ds) (hx : Has ds (.tuple xs) v) (hi : atI xs i = some (.str n)) (k : Q (.str n) H) : rIx K v (.int i) H Q :=
  rd_ixT S hx hi fun w S' => by have := S'.top; rw [Is] at this; subst this; exact k
theorem join_ok1 {a : Str} (h : a.length ≤ 100000) : JoinOk ", " [a] = true := by
  have l : (", " : Str).length = 2 := by decide +kernel
  have z : sizeLine = 16777216 := by decide
  unfold JoinOk
  rw [Bool.not_eq_true', Builtin.Str.tooLong, decide_eq_false_iff_not, ← Array.foldl_toList]
  show ¬ (0 + a.length + (", " : Str).length > sizeLine)
  omega
theorem join_ok2 {a b : Str} (h : a.length ≤ 100000) (g : b.length ≤ 100000) : JoinOk ", " [a, b] = true := by
  have l : (", " : Str).length = 2 := by decide +kernel
  have z : sizeLine = 16777216 := by decide
  unfold JoinOk
  rw [Bool.not_eq_true', Builtin.Str.tooLong, decide_eq_false_iff_not, ← Array.foldl_toList]
  show ¬ (0 + a.length + (", " : Str).length + b.length + (", " : Str).length > sizeLine)
  omega
theorem join_ok3 {a b c : Str} (h : a.length ≤ 100000) (g : b.length ≤ 100000) (f : c.length ≤ 100000) : JoinOk ", " [a, b, c] = true := by
  have l : (", " : Str).length = 2 := by decide +kernel
  have z : sizeLine = 16777216 := by decide
  unfold JoinOk
  rw [Bool.not_eq_true', Builtin.Str.tooLong, decide_eq_false_iff_not, ← Array.foldl_toList]
  show ¬ (0 + a.length + (", " : Str).length + b.length + (", " : Str).length + c.length + (", " : Str).length > sizeLine)
  omega
/-! ### contracts -/
def spShape (A : RAd) : Sp := spT (α := Rl) (fun r => [r.ins A]) (fun _ => True) (fun r => r.shape)
theorem rd_shape {A : RAd} {r : Rl} (S : Sta B G0 H cs ds) (h : Has ds (r.ins A) v) (k : ∀ w H', Same H H' → Sta B G0 H' cs ((r.shape, w) :: ds) → Q w H') : spShape A [v] H Q E := rd_spT (α := Rl) r S (HasAll.cons h HasAll.nil) trivial k
def spText (A : RAd) (n : Nat) : Sp := spB (α := Rl) (fun r => [r.ins A]) (fun r => r.Ok ∧ r.size ≤ 12 ∧ r.deep ≤ n) (fun r => .str r.text)
theorem rd_text {A : RAd} {n : Nat} {r : Rl} (S : Sta B G0 H cs ds) (h : Has ds (r.ins A) v) (ok : r.Ok) (hs : r.size ≤ 12) (hd : r.deep ≤ n) (k : ∀ H', Sta B G0 H' cs ds → Q (.str r.text) H') : spText A n [v] H Q E := rd_spB (α := Rl) r (S.hpAll (HasAll.cons h HasAll.nil)) ⟨ok, hs, hd⟩ fun H' e => k H' (S.same e)
def spTextOf (n : Nat) : Sp := spB (α := Rl) (fun r => [r.shape]) (fun r => r.Ok ∧ r.size ≤ 12 ∧ r.deep ≤ n) (fun r => .str r.text)
theorem rd_textof {n : Nat} {r : Rl} (S : Sta B G0 H cs ds) (h : Has ds r.shape v) (ok : r.Ok) (hs : r.size ≤ 12) (hd : r.deep ≤ n) (k : ∀ H', Sta B G0 H' cs ds → Q (.str r.text) H') : spTextOf n [v] H Q E := rd_spB (α := Rl) r (S.hpAll (HasAll.cons h HasAll.nil)) ⟨ok, hs, hd⟩ fun H' e => k H' (S.same e)
def spPText : Sp := spB (α := Int × Int) (fun a => [.tuple [.int a.1, .int a.2]]) (fun a => Sz 210 a.1 ∧ Sz 210 a.2) (fun a => .str (itS a.1 ++ ("/" : Str) ++ itS a.2))
theorem rd_ptext {t b : Int} (S : Sta B G0 H cs ds) (h : Has ds (.tuple [.int t, .int b]) v) (h1 : Sz 210 t) (h2 : Sz 210 b) (k : ∀ H', Sta B G0 H' cs ds → Q (.str (itS t ++ ("/" : Str) ++ itS b)) H') : spPText [v] H Q E := rd_spB (α := Int × Int) (t, b) (S.hpAll (HasAll.cons h HasAll.nil)) ⟨h1, h2⟩ fun H' e => k H' (S.same e)
/-- a def that tells a rule with its shape and its text -/
def spRl (A : RAd) (enc : α → List PyData) (dom : α → Prop) (good : α → Rl → Prop) : Sp := fun vs H Q _ => ∃ (G : Hp) (a : α), Same G H ∧ IsAll G (enc a) vs ∧ dom a ∧ ∀ v H' G' r, Grow G H G' H' → Is G' (r.trip A) v → good a r → Q v H'
theorem rd_rl {A : RAd} {enc : α → List PyData} {dom : α → Prop} {good : α → Rl → Prop} (a : α) (S : Sta B G0 H cs ds) (hx : HasAll ds (enc a) vs) (hd : dom a) (k : ∀ v H' r, Same H H' → Sta B G0 H' cs ((r.trip A, v) :: ds) → good a r → Q v H') : spRl A enc dom good vs H Q E := by
  obtain ⟨G, S⟩ := S
  refine ⟨G, a, S.2.1, hx G S.2.2.2.2.2.2, hd, fun v H' G' r gr hv hg => k v H' r gr.h ?_ hg⟩
  obtain ⟨a', b', c', d', e', f', g'⟩ := S.grow gr
  exact ⟨G', a', b', c', d', e', f', g'.cons hv⟩
theorem ret_Rl {A : RAd} {G H' : Hp} {good : Rl → Prop} {r : Rl} (S : Sta H G H' cs ds) (k : ∀ v H' G' r, Grow G H G' H' → Is G' (r.trip A) v → good r → Q v H') (h : Has ds (r.trip A) v) (hg : good r) : Q v H' :=
  let ⟨G', gr, al⟩ := S.leave; k v H' G' r gr (h G' al) hg
def spLeaf (A : RAd) : Sp := spRl A (α := Int) (fun n => [.int n]) (fun _ => True) (fun _ r => r.size = 1 ∧ r.Ok)
def spLone (A : RAd) : Sp := spRl A (α := Int × Rl) (fun a => [.int a.1, a.2.trip A]) (fun a => a.2.Ok ∧ a.2.size ≤ 12) (fun a r => r.size = a.2.size + 1 ∧ r.Ok)
def spPair (A : RAd) : Sp := spRl A (α := Int × (Int × Int) × Rl × Rl) (fun a => [.int a.1, .tuple [.int a.2.1.1, .int a.2.1.2], a.2.2.1.trip A, a.2.2.2.trip A]) (fun a => (Sz 210 a.2.1.1 ∧ Sz 210 a.2.1.2) ∧ (a.2.2.1.Ok ∧ a.2.2.1.size ≤ 12) ∧ a.2.2.2.Ok ∧ a.2.2.2.size ≤ 12) (fun a r => r.size = a.2.2.1.size + a.2.2.2.size + 1 ∧ r.Ok)
theorem isAll4R {G : Hp} {x y z t : PyData} {vs : List V} (h : IsAll G [x, y, z, t] vs) : ∃ v w u r, vs = [v, w, u, r] ∧ AllIs G [(x, v), (y, w), (z, u), (t, r)] := by
  simp only [IsAll] at h
  obtain ⟨v, _, rfl, h1, w, _, rfl, h2, u, _, rfl, h3, r, _, rfl, h4, rfl⟩ := h
  exact ⟨v, w, u, r, rfl, fun p hp => by simp at hp; rcases hp with rfl | rfl | rfl | rfl <;> assumption⟩
def spMixL : Sp := fun vs H Q _ => ∃ (G : Hp) (c : Int), Same G H ∧ vs = [.int c, .int 4] ∧ ∀ v H' G' a b d e, Grow G H G' H' → Is G' (.list [.int a, .int b, .int d, .int e]) v → Q v H'
theorem rd_mixl {c : Int} (S : Sta B G0 H cs ds) (k : ∀ v H' a b d e, Same H H' → Sta B G0 H' cs ((.list [.int a, .int b, .int d, .int e], v) :: ds) → Q v H') : spMixL [.int c, .int 4] H Q E := by
  obtain ⟨G, S⟩ := S
  refine ⟨G, c, S.2.1, rfl, fun v H' G' x y z t gr hv => k v H' x y z t gr.h ?_⟩
  obtain ⟨a', b', c', d', e', f', g'⟩ := S.grow gr
  exact ⟨G', a', b', c', d', e', f', g'.cons hv⟩
def spPort : Sp := fun vs H Q _ => ∃ (G : Hp) (a b : Int), Same G H ∧ vs = [.int a, .int b] ∧ (0 ≤ b ∧ b ≤ 10 ^ 60) ∧ ∀ v H' G' t u, Grow G H G' H' → Is G' (.tuple [.int t, .int u]) v → Sz 210 t → Sz 210 u → Q v H'
theorem rd_port {a b : Int} (S : Sta B G0 H cs ds) (hb : 0 ≤ b ∧ b ≤ 10 ^ 60) (k : ∀ v H' t u, Same H H' → Sta B G0 H' cs ((.tuple [.int t, .int u], v) :: ds) → Sz 210 t → Sz 210 u → Q v H') : spPort [.int a, .int b] H Q E := by
  obtain ⟨G, S⟩ := S
  refine ⟨G, a, b, S.2.1, rfl, hb, fun v H' G' t u gr hv h1 h2 => k v H' t u gr.h ?_ h1 h2⟩
  obtain ⟨a', b', c', d', e', f', g'⟩ := S.grow gr
  exact ⟨G', a', b', c', d', e', f', g'.cons hv⟩
def spBuilt (A : RAd) : Sp := spRl A (α := List Int × Int) (fun a => [.list (a.1.map PyData.int), .int a.2]) (fun a => a.1.length ≤ 1000) (fun _ r => r.size ≤ 11 ∧ r.Ok)
end
theorem sz_le210 {x : Int} (h1 : 0 ≤ x) (h2 : x ≤ 10 ^ 61) : Sz 210 x := by
  unfold Sz
  have e : (2 : Nat) ^ 210 = 1645504557321206042154969182557350504982735865633579863348609024 := by decide
  rw [e]
  omega
def totR (rs : List Rl) : Nat := (rs.map Rl.size).sum
theorem totR_snoc (rs : List Rl) (r : Rl) : totR (rs ++ [r]) = totR rs + r.size := by unfold totR; rw [List.map_append, List.sum_append]; simp
theorem mem_tot {r : Rl} : ∀ {rs : List Rl}, r ∈ rs → r.size ≤ totR rs
  | x :: rs, h => by
    have e : totR (x :: rs) = x.size + totR rs := rfl
    rw [e]
    rcases List.mem_cons.mp h with rfl | h
    · omega
    · have := mem_tot h
      omega
theorem plain_shape : ∀ (r : Rl) (n : Nat), r.deep ≤ n → plainD (n + 2) r.shape := by
  intro r
  induction r with
  | shares => intro n _; rw [Rl.shape, plainD]; exact ⟨by simp, fun x hx => by cases List.mem_singleton.mp hx; rw [plainD]; trivial⟩
  | evenly => intro n _; rw [Rl.shape, plainD]; exact ⟨by simp, fun x hx => by cases List.mem_singleton.mp hx; rw [plainD]; trivial⟩
  | losses => intro n _; rw [Rl.shape, plainD]; exact ⟨by simp, fun x hx => by cases List.mem_singleton.mp hx; rw [plainD]; trivial⟩
  | halves => intro n _; rw [Rl.shape, plainD]; exact ⟨by simp, fun x hx => by cases List.mem_singleton.mp hx; rw [plainD]; trivial⟩
  | other r ih =>
    intro n hn
    simp only [Rl.deep] at hn
    obtain ⟨m, rfl⟩ : ∃ m, n = m + 1 := ⟨n - 1, by omega⟩
    have h := ih m (by omega)
    rw [Rl.shape, plainD]
    refine ⟨by simp, fun x hx => ?_⟩
    simp at hx
    rcases hx with rfl | rfl
    · rw [plainD]; trivial
    · exact h
  | ranks r ih =>
    intro n hn
    simp only [Rl.deep] at hn
    obtain ⟨m, rfl⟩ : ∃ m, n = m + 1 := ⟨n - 1, by omega⟩
    have h := ih m (by omega)
    rw [Rl.shape, plainD]
    refine ⟨by simp, fun x hx => ?_⟩
    simp at hx
    rcases hx with rfl | rfl
    · rw [plainD]; trivial
    · exact h
  | groups a b iha ihb =>
    intro n hn
    simp only [Rl.deep] at hn
    obtain ⟨m, rfl⟩ : ∃ m, n = m + 1 := ⟨n - 1, by omega⟩
    have h := iha m (by omega)
    have h2 := ihb m (by omega)
    rw [Rl.shape, plainD]
    refine ⟨by simp, fun x hx => ?_⟩
    simp at hx
    rcases hx with rfl | rfl | rfl
    · rw [plainD]; trivial
    · exact h
    · exact h2
  | upto t b x y ihx ihy =>
    intro n hn
    simp only [Rl.deep] at hn
    obtain ⟨m, rfl⟩ : ∃ m, n = m + 1 := ⟨n - 1, by omega⟩
    have h := ihx m (by omega)
    have h2 := ihy m (by omega)
    rw [Rl.shape, plainD]
    refine ⟨by simp, fun z hz => ?_⟩
    simp at hz
    rcases hz with rfl | rfl | rfl | rfl
    · rw [plainD]; trivial
    · rw [plainD]
      refine ⟨by simp, fun z hz => ?_⟩
      simp at hz
      rcases hz with rfl | rfl <;> rw [plainD] <;> trivial
    · exact h
    · exact h2
/-- a maker of a class -/
def Maker (P : Program) (w : World) (K : PySem.W.Frag) (mg : Str → Option Value) (base : Heap) (x : Str) (C : Addr) (ps : List Str) (sp : Sp) : Prop := ∃ f fd, Mk K C f ∧ FnOk P w K mg base CX0 2 f fd ps sp ∧ Binds K fd ps [] ∧ mg x = some (.ref C)
end S

namespace K
open PySem L2 S
local macro_rules | `(tactic| walk_at "mem") => `(tactic| first | exact List.Mem.head _ | (refine List.Mem.tail _ ?_; walk_at "mem"))
local macro_rules | `(tactic| walk_at "has") => `(tactic| first | exact Has.int | exact Has.bl | exact Has.non | exact Has.str | exact Has.mem (by walk_at "mem"))
local macro_rules | `(tactic| walk_at "hasall") => `(tactic| first | exact HasAll.nil | ((refine' HasAll.cons ?a ?b); (case a => walk_at "has"); (case b => walk_at "hasall")))
local macro_rules | `(tactic| walk_at "sz") => `(tactic| first | assumption | exact SzQ.num (by assumption) | exact SzQ.den (by assumption) | exact Sz.mul (by walk_at "sz") (by walk_at "sz") | exact Sz.add' (by walk_at "sz") (by walk_at "sz") | exact Sz.sub' (by walk_at "sz") (by walk_at "sz") | exact Sz.lit (by decide))
local macro_rules | `(tactic| walk_at "mul") => `(tactic| first | assumption | exact IntMulOk.of_left (by decide) | exact IntMulOk.of_right (by decide) | exact mulModOk (by decide) | exact Sz.mulOk (by walk_at "sz") (by walk_at "sz") (by decide))
local macro_rules | `(tactic| walk_at "div") => `(tactic| exact ⟨by decide, by decide⟩)
local macro_rules | `(tactic| walk_at "mod") => `(tactic| first | (show (0 : Int) < _; decide) | (show (0 : Int) < _; omega) | decide | assumption)
local macro_rules | `(tactic| walk_at "rd") => `(tactic| first
  | ((with_reducible refine' rd_var ?e ?k); (case e => exact rfl))
  | with_reducible refine' rd_c ?_ | with_reducible refine' rd_op ?_ | with_reducible refine' rd_rI0 ?_ | with_reducible refine' rd_addI ?_
  | ((with_reducible refine' rd_ixTI ?S ?h ?i ?k); (case S => assumption); (case h => walk_at "has"); (case i => exact rfl))
  | ((with_reducible refine' rd_ixT ?S ?h ?i ?k); (case S => assumption); (case h => walk_at "has"); (case i => exact rfl); intro w S)
  | ((with_reducible refine' rd_ixLI ?S ?h ?i ?k); (case S => assumption); (case h => walk_at "has"); (case i => exact rfl))
  | ((with_reducible refine' rd_ixL ?S ?h ?i ?k); (case S => assumption); (case h => walk_at "has"); (case i => exact rfl); intro w S)
  | ((with_reducible refine' rd_mulB ?c ?k); (case c => walk_at "mul"))
  | ((with_reducible refine' rd_modL ?c ?k); (case c => first | decide | omega))
  | ((with_reducible refine' rd_modN ?c ?k); (case c => first | assumption | omega))
  | ((with_reducible refine' rd_fdivL ?c ?k); (case c => exact ⟨by decide, by decide⟩))
  | ((with_reducible refine' rd_fdivB ?c ?k); (case c => assumption))
  | ((with_reducible refine' rd_pow ?c ?k); (case c => exact ⟨by decide, by decide, by decide⟩))
  | with_reducible refine' rd_seq ?_ | with_reducible refine' rd_asg ?_ | with_reducible refine' rd_name ?_ | with_reducible refine' rd_nx ?_ | with_reducible refine' rd_rt ?_ | with_reducible refine' rd_ret ?_ | with_reducible refine' rd_rt0 ?_ | with_reducible refine' rd_nxL ?_ | with_reducible refine' rd_rtL ?_
  | with_reducible refine' rd_cons ?_ | with_reducible refine' rd_nil ?_ | with_reducible refine' rd_call ?_ | with_reducible refine' rd_cb ?_ | with_reducible refine' rd_tup ?_ | with_reducible refine' rd_lst ?_
  | ((with_reducible refine' rd_kTup ?S ?h ?l ?k); (case S => assumption); (case h => walk_at "hasall"); (case l => exact Nat.le_of_ble_eq_true rfl); intro p H' e S)
  | ((with_reducible refine' rd_kLst ?S ?h ?l ?k); (case S => assumption); (case h => walk_at "hasall"); (case l => exact Nat.le_of_ble_eq_true rfl); intro p H' e S)
  | with_reducible refine' rd_if ?_ | with_reducible refine' rd_test ?_ | with_reducible refine' rd_tB ?_ | with_reducible refine' rd_isbl ?_ | with_reducible refine' rd_eqI ?_ | with_reducible refine' rd_neI ?_
  | with_reducible refine' rd_not ?_ | with_reducible refine' rd_and ?_ | with_reducible refine' rd_or ?_ | with_reducible refine' rd_andV ?_ | with_reducible refine' rd_orV ?_ | with_reducible refine' rd_notV ?_ | with_reducible refine' rd_ifE ?_
  | with_reducible refine' rd_un ?_ | with_reducible refine' rd_rU ?_ | with_reducible refine' rd_drop ?_ | with_reducible refine' rd_next ?_ | with_reducible refine' rd_retN ?_
  | ((with_reducible refine' rd_lenT ?S ?h ?k); (case S => assumption); (case h => walk_at "has"))
  | ((with_reducible refine' rd_lenL ?S ?h ?k); (case S => assumption); (case h => walk_at "has"))
  | ((with_reducible refine' rd_lenC ?S ?h ?k); (case S => assumption); (case h => walk_at "mem"))
  | with_reducible refine' rd_abs ?_ | with_reducible refine' rd_min ?_ | with_reducible refine' rd_max ?_
  | with_reducible refine' rd_for ?_ | with_reducible refine' rd_comp ?_ | with_reducible refine' rd_iList ?_ | with_reducible refine' rd_iTup ?_ | with_reducible refine' rd_iR1 ?_ | with_reducible refine' rd_iR2 ?_ | with_reducible refine' rd_iEn ?_ | with_reducible refine' rd_iZi ?_
  | with_reducible refine' rd_gTup ?_ | with_reducible refine' rd_gCons ?_ | with_reducible refine' rd_gNil ?_
  | ((with_reducible refine' rd_kGT2 ?S ?h ?k); (case S => assumption); (case h => walk_at "has"); intro w1 w2 S)
  | ((with_reducible refine' rd_kGT3 ?S ?h ?k); (case S => assumption); (case h => walk_at "has"); intro w1 w2 w3 S)
  | with_reducible refine' rd_bm ?_ | with_reducible refine' rd_bm0 ?_
  | ((with_reducible refine' rd_kBM ?S ?h ?k); (case S => assumption); (case h => walk_at "mem"))
  | ((with_reducible refine' rd_kBM0 ?S ?h ?k); (case S => assumption); (case h => walk_at "mem"))
  | ((with_reducible refine' rd_listL ?S ?h ?k); (case S => assumption); (case h => walk_at "has"); intro p H' e S)
  | ((with_reducible refine' rd_listC ?S ?h ?k); (case S => assumption); (case h => walk_at "mem"); intro p H' e S)
  | ((with_reducible refine' rd_listT ?S ?h ?k); (case S => assumption); (case h => walk_at "has"); intro p H' e S)
  | ((with_reducible refine' rd_tupleL ?S ?h ?k); (case S => assumption); (case h => walk_at "has"); intro p H' e S)
  | ((with_reducible refine' rd_tupleC ?S ?h ?k); (case S => assumption); (case h => walk_at "mem"); intro p H' e S)
  | with_reducible refine' rd_par ?_ | with_reducible refine' rd_is2 ?_
  | ((with_reducible refine' rd_aug ?e ?k); (case e => exact rfl)) | with_reducible refine' rd_ipI ?_
  | with_reducible refine' iteT ?_ | with_reducible refine' iteF ?_ | with_reducible refine' iteNF ?_ | with_reducible refine' iteNT ?_
  | with_reducible refine' rd_nx0 ?_ | with_reducible refine' rd_ctL ?_ | with_reducible refine' rd_bkL ?_ | with_reducible refine' rd_ct ?_ | with_reducible refine' rd_bk ?_ | with_reducible refine' rd_eqB ?_ | with_reducible refine' rd_neB ?_)
local macro_rules | `(tactic| walk_at "sub") => `(tactic| first | exact List.Sublist.refl _ | exact List.nil_sublist _ | (refine List.Sublist.cons₂ _ ?_; walk_at "sub") | (refine List.Sublist.cons _ ?_; walk_at "sub"))
local macro_rules | `(tactic| walk_at "dats") => `(tactic| first | exact Dats.nil | ((refine' Dats.cons ?a ?b); (case a => walk_at "has"); (case b => walk_at "dats")))
local macro_rules | `(tactic| walk_at "walk") => `(tactic| repeat walk_at "rd")
local macro_rules | `(tactic| walk_at "szq") => `(tactic| first | assumption | exact SzQ.add (by walk_at "szq") (by walk_at "szq") | exact SzQ.sub (by walk_at "szq") (by walk_at "szq") | exact SzQ.mul (by walk_at "szq") (by walk_at "szq") | exact SzQ.div (by walk_at "szq") (by walk_at "szq"))
local macro_rules | `(tactic| walk_at "dom") => `(tactic| first | exact True.intro | assumption)
local macro_rules | `(tactic| walk_at "rd") => `(tactic| first
  | ((with_reducible refine' rd_q2 ?S ?h1 ?h2 ?s1 ?s2 ?l ?d ?k); (case S => assumption); (case h1 => walk_at "has"); (case h2 => walk_at "has"); (case s1 => walk_at "szq"); (case s2 => walk_at "szq"); (case l => decide); (case d => walk_at "dom"); intro r H' e S)
  | ((with_reducible refine' rd_before ?S ?h1 ?h2 ?s1 ?s2 ?l ?k); (case S => assumption); (case h1 => walk_at "has"); (case h2 => walk_at "has"); (case s1 => walk_at "szq"); (case s2 => walk_at "szq"); (case l => decide))
  | ((with_reducible refine' rd_cell ?S ?h ?k); (case S => assumption); (case h => omega))
  | ((with_reducible refine' rd_div2 ?h ?k); (case h => omega))
  | ((with_reducible refine' rd_isi ?h ?e ?k); (case h => assumption); (case e => first | exact kit_tt | exact kit_tl | exact kit_lt | exact kit_ll | exact kit_it | exact kit_il | exact kit_ib | exact kit_ii))
  | with_reducible refine' rd_sl ?_ | with_reducible refine' rd_noPart ?_ | with_reducible refine' rd_part ?_ | with_reducible refine' rd_kPart ?_
  | with_reducible refine' rd_iRv ?_
  | with_reducible refine' rd_true ?_ | with_reducible refine' rd_gsub ?_ | with_reducible refine' rd_mix ?_
  | ((with_reducible refine' rd_sumL ?S ?h ?k); (case S => assumption); (case h => walk_at "has"))
  | ((with_reducible refine' rd_sumC ?S ?h ?k); (case S => assumption); (case h => walk_at "mem")))
def spLaw (K : PySem.W.Frag) : Sp := fun vs H Q _ => ∃ (a : Addr) (ns : List Int), vs = [.ref a] ∧ SqL K H a (ns.map V.int) ∧ ns.length ≤ 63 ∧ Only H ∧ ∀ H', Q (.bl true) H'
theorem cal_mk {P : Program} {w : World} {K : PySem.W.Frag} {mg : Str → Option Value} {base : Heap} {f : Addr} {fd : FuncData} {k : Nat} {x : Str} {st : Stmt} {ps : List Str} {sp : Sp} (F : Fun K x x st f fd) (G : FnOk P w K mg base CX0 k f fd ps sp) (hm : mg x = some (.ref f)) (b : Binds K fd ps []) : Cal P w K mg base CX0 k x ps sp := ⟨f, fd, G, hm, F.kp, b⟩
section
variable {P : Program} {w : World} {K : PySem.W.Frag} {mg : Str → Option Value} {base : Heap} {f : Addr} {fd : FuncData}

local macro_rules | `(tactic| walk_at "rd") => `(tactic| first
  | ((with_reducible refine' rd_ixTS ?S ?h ?i ?k); (case S => assumption); (case h => walk_at "has"); (case i => exact rfl))
  | ((with_reducible refine' rd_strI ?z ?k); (case z => assumption)) | with_reducible refine' rd_rev ?_
  | ((with_reducible refine' rd_isi ?h ?e ?k ?nd); (case h => assumption); (case nd => exact rfl); (case e => first | exact kit_tt | exact kit_tl | exact kit_lt | exact kit_ll | exact kit_it | exact kit_il | exact kit_ib | exact kit_ii | exact kit_st | exact kit_sl | exact kit_sb | exact kit_si | exact kit_ss))
  | with_reducible refine' rd_jCons ?_ | with_reducible refine' rd_fmt ?_ | with_reducible refine' rd_fld ?_ | with_reducible refine' rd_methA ?_ | with_reducible refine' rd_make ?_ | with_reducible refine' rd_kBMs ?_ | with_reducible refine' rd_addSI ?_ | with_reducible refine' rd_eqS ?_ | with_reducible refine' rd_neS ?_
  | ((with_reducible refine' rd_kJ ?l ?k); (case l => first | assumption | omega | (simp only [str_len]; omega) | (simp only [str_len] at *; omega)))
  | ((with_reducible refine' rd_jNil ?l ?k); (case l => first | assumption | omega | (simp only [str_len]; omega) | (simp only [str_len] at *; omega)))
  | ((with_reducible refine' rd_kFmtS ?l ?k); (case l => first | assumption | omega | (simp only [str_len]; omega) | (simp only [str_len] at *; omega)))
  | ((with_reducible refine' rd_kFmtI ?l ?k); (case l => assumption))
  | ((with_reducible refine' rd_addS ?l ?k); (case l => first | assumption | omega | (simp only [str_len]; omega) | (simp only [str_len] at *; omega))))

def top (i : Nat) : Stmt := PySem.Challenge.pw_shortpurse_k21_shapes_and_texts.main.body.getD i (.Pass ⟨0, 0, 0, 0⟩)
section
variable {fS fT Ru : Addr} {A : RAd}
abbrev s_Rule___init__ : Stmt := inClass (top 2) 0
theorem sc_Rule___init__ : FnScope ["self", "form"] ["self", "form"] (defScope s_Rule___init__) := ⟨rfl, rfl, rfl, by decide +kernel, rfl, by decide +kernel, by decide +kernel⟩
theorem ok_rinit (F : Fun K "__init__" "Rule.__init__" s_Rule___init__ f fd) : FnOk P w K mg base CX0 1 f fd ["self", "form"] (spRInit K fS fT Ru) := by
  refine F.ok sc_Rule___init__ (fun vs H Q E h => ?_) (fun cdv A outer s H vs Q E hr h => ?_)
  · obtain ⟨C, ok, G, d, x, dx, us, rfl, _, _, _, hA, _⟩ := h
    rw [List.length_cons, ← hA.len]; rfl
  obtain ⟨C, ok, G, d, x, dx, us, rfl, eG, gx, hx, hA, k⟩ := h
  obtain ⟨v, rfl, al⟩ := isAll1 hA
  refine ⟨_, (pss_one (ps_fld (pv 0) (pv 1) rfl)), rd_start ?_⟩
  refine ⟨v, rfl, .ref x, rfl, x, C, dx, [], rfl, hx, ok.cl, ok.na, by decide, ?_⟩
  refine k _ G v (fun p o hp ho => by rw [upd_ne hp]; exact ho) (Same.refl _) (fun p o hp => ?_) (fun _ _ => rfl) ?_ (al _ (List.mem_singleton.mpr rfl))
  · rw [upd_ne (ne_of_none hp gx)]; exact eG p o hp
  · rw [upd_same]; rfl
abbrev s_Rule_shape : Stmt := inClass (top 2) 1
theorem sc_Rule_shape : FnScope ["self"] ["self"] (defScope s_Rule_shape) := ⟨rfl, rfl, rfl, by decide +kernel, rfl, by decide +kernel, by decide +kernel⟩
theorem ok_shape (okA : ∀ r : Rl, ROk K fS fT Ru (A.cls r)) (F : Fun K "shape" "Rule.shape" s_Rule_shape f fd) : FnOk P w K mg base CX0 1 f fd ["self"] (spShape A) := by
  refine F.ok sc_Rule_shape (fun vs H Q E h => ?_) (fun cdv A' outer s H vs Q E hr h => ?_)
  · obtain ⟨G, r, _, h, _⟩ := h
    rw [← h.len]; rfl
  obtain ⟨G, r, eG, hA, _, k⟩ := h
  obtain ⟨v, rfl, al⟩ := isAll1 hA
  have S : Sta H G H [] _ := Sta.enter eG al
  refine ⟨_, (pss_one (ps_ret (pe_fld (pv 0) rfl))), rd_start ?_⟩
  refine rd_ret (rd_fld ?_)
  walk_at "walk"
  refine rd_kFld S (.mem (by walk_at "mem")) (okA r) fun w S1 => ?_
  exact ret_T S1 k (.mem (by walk_at "mem"))
abbrev s_Shares___init__ : Stmt := inClass (top 3) 0
theorem sc_Shares___init__ : FnScope ["self"] ["self"] (defScope s_Shares___init__) := ⟨rfl, rfl, rfl, by decide +kernel, rfl, by decide +kernel, by decide +kernel⟩
theorem ok_init_Shares (g_Rule : mg "Rule" = some (.ref Ru)) (s_Rule : PySem.W.specialIn K (.ref Ru) "__getattribute__" = some (some (.builtin "type.__getattribute__"))) (r_Rule : PySem.W.readsIn K Ru (.type "type") = true) {fI : Addr} {fdI : FuncData} (f_Rule_init : PySem.W.findCls K (.ref Ru) (.type "type") "__init__" = some (.val (.ref fI))) (F_Rule_init : FnOk P w K mg base CX0 1 fI fdI ["self", "form"] (spRInit K fS fT Ru)) (k_Rule_init : PySem.W.keepIn K (.ref fI) = true) (b_Rule_init : Binds K fdI ["self", "form"] []) (ok : ROk K fS fT Ru (A.cls .shares)) (F : Fun K "__init__" "Shares.__init__" s_Shares___init__ f fd) : FnOk P w K mg base CX0 2 f fd ["self"] (spInit (A.cls .shares) (α := Unit) (fun _ => []) (fun _ => Rl.shares.shape)) := by
  refine F.ok sc_Shares___init__ (fun vs H Q E h => ?_) (fun cdv A outer s H vs Q E hr h => ?_)
  · obtain ⟨G, d, x, dx, us, rfl, _, _, _, hA, _⟩ := h
    rw [List.length_cons, ← hA.len]; rfl
  obtain ⟨G, d, x, dx, us, rfl, eG, gx, hx, hA, k⟩ := h
  rw [IsAll] at hA
  subst hA
  have S : Sta H G H [] [] := Sta.enter eG fun p hp => absurd hp List.not_mem_nil
  refine ⟨_, (pss_one (ps_expr (pe_ccall rfl g_Rule s_Rule r_Rule f_Rule_init (F_Rule_init.mono (by first | decide | exact Nat.le_refl _ | omega)) hr k_Rule_init b_Rule_init pass0 (pa_cons (pv 0) (pa_cons (pe_tup (pa_cons pe_str pa_nil)) pa_nil))))), rd_start ?_⟩
  walk_at "walk"
  refine rd_rinit (d := Rl.shares.shape) (by assumption) gx hx ok (.mem (by walk_at "mem")) fun H' G' w h1 h2 h3 h4 h5 h6 => ?_
  exact k H' G' w h1 h2 h3 h4 h5 h6
abbrev s_Evenly___init__ : Stmt := inClass (top 4) 0
theorem sc_Evenly___init__ : FnScope ["self"] ["self"] (defScope s_Evenly___init__) := ⟨rfl, rfl, rfl, by decide +kernel, rfl, by decide +kernel, by decide +kernel⟩
theorem ok_init_Evenly (g_Rule : mg "Rule" = some (.ref Ru)) (s_Rule : PySem.W.specialIn K (.ref Ru) "__getattribute__" = some (some (.builtin "type.__getattribute__"))) (r_Rule : PySem.W.readsIn K Ru (.type "type") = true) {fI : Addr} {fdI : FuncData} (f_Rule_init : PySem.W.findCls K (.ref Ru) (.type "type") "__init__" = some (.val (.ref fI))) (F_Rule_init : FnOk P w K mg base CX0 1 fI fdI ["self", "form"] (spRInit K fS fT Ru)) (k_Rule_init : PySem.W.keepIn K (.ref fI) = true) (b_Rule_init : Binds K fdI ["self", "form"] []) (ok : ROk K fS fT Ru (A.cls .evenly)) (F : Fun K "__init__" "Evenly.__init__" s_Evenly___init__ f fd) : FnOk P w K mg base CX0 2 f fd ["self"] (spInit (A.cls .evenly) (α := Unit) (fun _ => []) (fun _ => Rl.evenly.shape)) := by
  refine F.ok sc_Evenly___init__ (fun vs H Q E h => ?_) (fun cdv A outer s H vs Q E hr h => ?_)
  · obtain ⟨G, d, x, dx, us, rfl, _, _, _, hA, _⟩ := h
    rw [List.length_cons, ← hA.len]; rfl
  obtain ⟨G, d, x, dx, us, rfl, eG, gx, hx, hA, k⟩ := h
  rw [IsAll] at hA
  subst hA
  have S : Sta H G H [] [] := Sta.enter eG fun p hp => absurd hp List.not_mem_nil
  refine ⟨_, (pss_one (ps_expr (pe_ccall rfl g_Rule s_Rule r_Rule f_Rule_init (F_Rule_init.mono (by first | decide | exact Nat.le_refl _ | omega)) hr k_Rule_init b_Rule_init pass0 (pa_cons (pv 0) (pa_cons (pe_tup (pa_cons pe_str pa_nil)) pa_nil))))), rd_start ?_⟩
  walk_at "walk"
  refine rd_rinit (d := Rl.evenly.shape) (by assumption) gx hx ok (.mem (by walk_at "mem")) fun H' G' w h1 h2 h3 h4 h5 h6 => ?_
  exact k H' G' w h1 h2 h3 h4 h5 h6
abbrev s_Losses___init__ : Stmt := inClass (top 5) 0
theorem sc_Losses___init__ : FnScope ["self"] ["self"] (defScope s_Losses___init__) := ⟨rfl, rfl, rfl, by decide +kernel, rfl, by decide +kernel, by decide +kernel⟩
theorem ok_init_Losses (g_Rule : mg "Rule" = some (.ref Ru)) (s_Rule : PySem.W.specialIn K (.ref Ru) "__getattribute__" = some (some (.builtin "type.__getattribute__"))) (r_Rule : PySem.W.readsIn K Ru (.type "type") = true) {fI : Addr} {fdI : FuncData} (f_Rule_init : PySem.W.findCls K (.ref Ru) (.type "type") "__init__" = some (.val (.ref fI))) (F_Rule_init : FnOk P w K mg base CX0 1 fI fdI ["self", "form"] (spRInit K fS fT Ru)) (k_Rule_init : PySem.W.keepIn K (.ref fI) = true) (b_Rule_init : Binds K fdI ["self", "form"] []) (ok : ROk K fS fT Ru (A.cls .losses)) (F : Fun K "__init__" "Losses.__init__" s_Losses___init__ f fd) : FnOk P w K mg base CX0 2 f fd ["self"] (spInit (A.cls .losses) (α := Unit) (fun _ => []) (fun _ => Rl.losses.shape)) := by
  refine F.ok sc_Losses___init__ (fun vs H Q E h => ?_) (fun cdv A outer s H vs Q E hr h => ?_)
  · obtain ⟨G, d, x, dx, us, rfl, _, _, _, hA, _⟩ := h
    rw [List.length_cons, ← hA.len]; rfl
  obtain ⟨G, d, x, dx, us, rfl, eG, gx, hx, hA, k⟩ := h
  rw [IsAll] at hA
  subst hA
  have S : Sta H G H [] [] := Sta.enter eG fun p hp => absurd hp List.not_mem_nil
  refine ⟨_, (pss_one (ps_expr (pe_ccall rfl g_Rule s_Rule r_Rule f_Rule_init (F_Rule_init.mono (by first | decide | exact Nat.le_refl _ | omega)) hr k_Rule_init b_Rule_init pass0 (pa_cons (pv 0) (pa_cons (pe_tup (pa_cons pe_str pa_nil)) pa_nil))))), rd_start ?_⟩
  walk_at "walk"
  refine rd_rinit (d := Rl.losses.shape) (by assumption) gx hx ok (.mem (by walk_at "mem")) fun H' G' w h1 h2 h3 h4 h5 h6 => ?_
  exact k H' G' w h1 h2 h3 h4 h5 h6
abbrev s_Halves___init__ : Stmt := inClass (top 6) 0
theorem sc_Halves___init__ : FnScope ["self"] ["self"] (defScope s_Halves___init__) := ⟨rfl, rfl, rfl, by decide +kernel, rfl, by decide +kernel, by decide +kernel⟩
theorem ok_init_Halves (g_Rule : mg "Rule" = some (.ref Ru)) (s_Rule : PySem.W.specialIn K (.ref Ru) "__getattribute__" = some (some (.builtin "type.__getattribute__"))) (r_Rule : PySem.W.readsIn K Ru (.type "type") = true) {fI : Addr} {fdI : FuncData} (f_Rule_init : PySem.W.findCls K (.ref Ru) (.type "type") "__init__" = some (.val (.ref fI))) (F_Rule_init : FnOk P w K mg base CX0 1 fI fdI ["self", "form"] (spRInit K fS fT Ru)) (k_Rule_init : PySem.W.keepIn K (.ref fI) = true) (b_Rule_init : Binds K fdI ["self", "form"] []) (ok : ROk K fS fT Ru (A.cls .halves)) (F : Fun K "__init__" "Halves.__init__" s_Halves___init__ f fd) : FnOk P w K mg base CX0 2 f fd ["self"] (spInit (A.cls .halves) (α := Unit) (fun _ => []) (fun _ => Rl.halves.shape)) := by
  refine F.ok sc_Halves___init__ (fun vs H Q E h => ?_) (fun cdv A outer s H vs Q E hr h => ?_)
  · obtain ⟨G, d, x, dx, us, rfl, _, _, _, hA, _⟩ := h
    rw [List.length_cons, ← hA.len]; rfl
  obtain ⟨G, d, x, dx, us, rfl, eG, gx, hx, hA, k⟩ := h
  rw [IsAll] at hA
  subst hA
  have S : Sta H G H [] [] := Sta.enter eG fun p hp => absurd hp List.not_mem_nil
  refine ⟨_, (pss_one (ps_expr (pe_ccall rfl g_Rule s_Rule r_Rule f_Rule_init (F_Rule_init.mono (by first | decide | exact Nat.le_refl _ | omega)) hr k_Rule_init b_Rule_init pass0 (pa_cons (pv 0) (pa_cons (pe_tup (pa_cons pe_str pa_nil)) pa_nil))))), rd_start ?_⟩
  walk_at "walk"
  refine rd_rinit (d := Rl.halves.shape) (by assumption) gx hx ok (.mem (by walk_at "mem")) fun H' G' w h1 h2 h3 h4 h5 h6 => ?_
  exact k H' G' w h1 h2 h3 h4 h5 h6
abbrev s_Other___init__ : Stmt := inClass (top 7) 0
theorem sc_Other___init__ : FnScope ["self", "inner"] ["self", "inner"] (defScope s_Other___init__) := ⟨rfl, rfl, rfl, by decide +kernel, rfl, by decide +kernel, by decide +kernel⟩
theorem ok_init_Other (g_Rule : mg "Rule" = some (.ref Ru)) (s_Rule : PySem.W.specialIn K (.ref Ru) "__getattribute__" = some (some (.builtin "type.__getattribute__"))) (r_Rule : PySem.W.readsIn K Ru (.type "type") = true) {fI : Addr} {fdI : FuncData} (f_Rule_init : PySem.W.findCls K (.ref Ru) (.type "type") "__init__" = some (.val (.ref fI))) (F_Rule_init : FnOk P w K mg base CX0 1 fI fdI ["self", "form"] (spRInit K fS fT Ru)) (k_Rule_init : PySem.W.keepIn K (.ref fI) = true) (b_Rule_init : Binds K fdI ["self", "form"] []) {fdS : FuncData} (F_Rule_shape : FnOk P w K mg base CX0 1 fS fdS ["self"] (spShape A)) (b_Rule_shape : Binds K fdS ["self"] []) (okA : ∀ r : Rl, ROk K fS fT Ru (A.cls r)) (F : Fun K "__init__" "Other.__init__" s_Other___init__ f fd) : FnOk P w K mg base CX0 2 f fd ["self", "inner"] (spInit (A.cls (.other .shares)) (α := Rl) (fun r => [r.ins A]) (fun r => (Rl.other r).shape)) := by
  refine F.ok sc_Other___init__ (fun vs H Q E h => ?_) (fun cdv A' outer s H vs Q E hr h => ?_)
  · obtain ⟨G, d, x, dx, us, rfl, _, _, _, hA, _⟩ := h
    rw [List.length_cons, ← hA.len]; rfl
  obtain ⟨G, r, x, dx, us, rfl, eG, gx, hx, hA, k⟩ := h
  obtain ⟨v, rfl, al⟩ := isAll1 hA
  have S : Sta H G H [] _ := Sta.enter eG al
  refine ⟨_, (pss_one (ps_expr (pe_ccall rfl g_Rule s_Rule r_Rule f_Rule_init (F_Rule_init.mono (by first | decide | exact Nat.le_refl _ | omega)) hr k_Rule_init b_Rule_init pass0 (pa_cons (pv 0) (pa_cons (pe_tup (pa_cons pe_str (pa_cons (pe_methA (pv 1) (F_Rule_shape.mono (by first | decide | exact Nat.le_refl _ | omega)) hr b_Rule_shape pass0) pa_nil))) pa_nil))))), rd_start ?_⟩
  walk_at "walk"
  refine rd_kMS S (.mem (by walk_at "mem")) (okA r) ?_
  refine rd_shape S (.mem (by walk_at "mem")) fun w1 H1 e1 S1 => ?_
  walk_at "walk"
  refine rd_rinit (d := (Rl.other r).shape) (by assumption) gx hx (okA (.other .shares)) (.mem (by walk_at "mem")) fun H' G' w h1 h2 h3 h4 h5 h6 => ?_
  exact k H' G' w h1 h2 h3 h4 h5 h6
abbrev s_Ranks___init__ : Stmt := inClass (top 8) 0
theorem sc_Ranks___init__ : FnScope ["self", "inner"] ["self", "inner"] (defScope s_Ranks___init__) := ⟨rfl, rfl, rfl, by decide +kernel, rfl, by decide +kernel, by decide +kernel⟩
theorem ok_init_Ranks (g_Rule : mg "Rule" = some (.ref Ru)) (s_Rule : PySem.W.specialIn K (.ref Ru) "__getattribute__" = some (some (.builtin "type.__getattribute__"))) (r_Rule : PySem.W.readsIn K Ru (.type "type") = true) {fI : Addr} {fdI : FuncData} (f_Rule_init : PySem.W.findCls K (.ref Ru) (.type "type") "__init__" = some (.val (.ref fI))) (F_Rule_init : FnOk P w K mg base CX0 1 fI fdI ["self", "form"] (spRInit K fS fT Ru)) (k_Rule_init : PySem.W.keepIn K (.ref fI) = true) (b_Rule_init : Binds K fdI ["self", "form"] []) {fdS : FuncData} (F_Rule_shape : FnOk P w K mg base CX0 1 fS fdS ["self"] (spShape A)) (b_Rule_shape : Binds K fdS ["self"] []) (okA : ∀ r : Rl, ROk K fS fT Ru (A.cls r)) (F : Fun K "__init__" "Ranks.__init__" s_Ranks___init__ f fd) : FnOk P w K mg base CX0 2 f fd ["self", "inner"] (spInit (A.cls (.ranks .shares)) (α := Rl) (fun r => [r.ins A]) (fun r => (Rl.ranks r).shape)) := by
  refine F.ok sc_Ranks___init__ (fun vs H Q E h => ?_) (fun cdv A' outer s H vs Q E hr h => ?_)
  · obtain ⟨G, d, x, dx, us, rfl, _, _, _, hA, _⟩ := h
    rw [List.length_cons, ← hA.len]; rfl
  obtain ⟨G, r, x, dx, us, rfl, eG, gx, hx, hA, k⟩ := h
  obtain ⟨v, rfl, al⟩ := isAll1 hA
  have S : Sta H G H [] _ := Sta.enter eG al
  refine ⟨_, (pss_one (ps_expr (pe_ccall rfl g_Rule s_Rule r_Rule f_Rule_init (F_Rule_init.mono (by first | decide | exact Nat.le_refl _ | omega)) hr k_Rule_init b_Rule_init pass0 (pa_cons (pv 0) (pa_cons (pe_tup (pa_cons pe_str (pa_cons (pe_methA (pv 1) (F_Rule_shape.mono (by first | decide | exact Nat.le_refl _ | omega)) hr b_Rule_shape pass0) pa_nil))) pa_nil))))), rd_start ?_⟩
  walk_at "walk"
  refine rd_kMS S (.mem (by walk_at "mem")) (okA r) ?_
  refine rd_shape S (.mem (by walk_at "mem")) fun w1 H1 e1 S1 => ?_
  walk_at "walk"
  refine rd_rinit (d := (Rl.ranks r).shape) (by assumption) gx hx (okA (.ranks .shares)) (.mem (by walk_at "mem")) fun H' G' w h1 h2 h3 h4 h5 h6 => ?_
  exact k H' G' w h1 h2 h3 h4 h5 h6
abbrev s_Groups___init__ : Stmt := inClass (top 9) 0
theorem sc_Groups___init__ : FnScope ["self", "outer", "inner"] ["self", "outer", "inner"] (defScope s_Groups___init__) := ⟨rfl, rfl, rfl, by decide +kernel, rfl, by decide +kernel, by decide +kernel⟩
theorem ok_init_Groups (g_Rule : mg "Rule" = some (.ref Ru)) (s_Rule : PySem.W.specialIn K (.ref Ru) "__getattribute__" = some (some (.builtin "type.__getattribute__"))) (r_Rule : PySem.W.readsIn K Ru (.type "type") = true) {fI : Addr} {fdI : FuncData} (f_Rule_init : PySem.W.findCls K (.ref Ru) (.type "type") "__init__" = some (.val (.ref fI))) (F_Rule_init : FnOk P w K mg base CX0 1 fI fdI ["self", "form"] (spRInit K fS fT Ru)) (k_Rule_init : PySem.W.keepIn K (.ref fI) = true) (b_Rule_init : Binds K fdI ["self", "form"] []) {fdS : FuncData} (F_Rule_shape : FnOk P w K mg base CX0 1 fS fdS ["self"] (spShape A)) (b_Rule_shape : Binds K fdS ["self"] []) (okA : ∀ r : Rl, ROk K fS fT Ru (A.cls r)) (F : Fun K "__init__" "Groups.__init__" s_Groups___init__ f fd) : FnOk P w K mg base CX0 2 f fd ["self", "outer", "inner"] (spInit (A.cls (.groups .shares .shares)) (α := Rl × Rl) (fun r => [r.1.ins A, r.2.ins A]) (fun r => (Rl.groups r.1 r.2).shape)) := by
  refine F.ok sc_Groups___init__ (fun vs H Q E h => ?_) (fun cdv A' outer s H vs Q E hr h => ?_)
  · obtain ⟨G, d, x, dx, us, rfl, _, _, _, hA, _⟩ := h
    rw [List.length_cons, ← hA.len]; rfl
  obtain ⟨G, ⟨r, r2⟩, x, dx, us, rfl, eG, gx, hx, hA, k⟩ := h
  obtain ⟨v, v2, rfl, al⟩ := isAll2 hA
  have S : Sta H G H [] _ := Sta.enter eG al
  dsimp only at k S
  refine ⟨_, (pss_one (ps_expr (pe_ccall rfl g_Rule s_Rule r_Rule f_Rule_init (F_Rule_init.mono (by first | decide | exact Nat.le_refl _ | omega)) hr k_Rule_init b_Rule_init pass0 (pa_cons (pv 0) (pa_cons (pe_tup (pa_cons pe_str (pa_cons (pe_methA (pv 1) (F_Rule_shape.mono (by first | decide | exact Nat.le_refl _ | omega)) hr b_Rule_shape pass0) (pa_cons (pe_methA (pv 2) (F_Rule_shape.mono (by first | decide | exact Nat.le_refl _ | omega)) hr b_Rule_shape pass0) pa_nil)))) pa_nil))))), rd_start ?_⟩
  walk_at "walk"
  refine rd_kMS S (.mem (by walk_at "mem")) (okA r) ?_
  refine rd_shape S (.mem (by walk_at "mem")) fun w1 H1 e1 S1 => ?_
  walk_at "walk"
  refine rd_kMS S1 (.mem (by walk_at "mem")) (okA r2) ?_
  refine rd_shape S1 (.mem (by walk_at "mem")) fun w2 H2 e2 S2 => ?_
  walk_at "walk"
  refine rd_rinit (d := (Rl.groups r r2).shape) (by assumption) gx hx (okA (.groups .shares .shares)) (.mem (by walk_at "mem")) fun H' G' w h1 h2 h3 h4 h5 h6 => ?_
  exact k H' G' w h1 h2 h3 h4 h5 h6
abbrev s_Upto___init__ : Stmt := inClass (top 10) 0
theorem sc_Upto___init__ : FnScope ["self", "portion", "first", "last"] ["self", "portion", "first", "last"] (defScope s_Upto___init__) := ⟨rfl, rfl, rfl, by decide +kernel, rfl, by decide +kernel, by decide +kernel⟩
theorem ok_init_Upto (g_Rule : mg "Rule" = some (.ref Ru)) (s_Rule : PySem.W.specialIn K (.ref Ru) "__getattribute__" = some (some (.builtin "type.__getattribute__"))) (r_Rule : PySem.W.readsIn K Ru (.type "type") = true) {fI : Addr} {fdI : FuncData} (f_Rule_init : PySem.W.findCls K (.ref Ru) (.type "type") "__init__" = some (.val (.ref fI))) (F_Rule_init : FnOk P w K mg base CX0 1 fI fdI ["self", "form"] (spRInit K fS fT Ru)) (k_Rule_init : PySem.W.keepIn K (.ref fI) = true) (b_Rule_init : Binds K fdI ["self", "form"] []) {fdS : FuncData} (F_Rule_shape : FnOk P w K mg base CX0 1 fS fdS ["self"] (spShape A)) (b_Rule_shape : Binds K fdS ["self"] []) (okA : ∀ r : Rl, ROk K fS fT Ru (A.cls r)) (F : Fun K "__init__" "Upto.__init__" s_Upto___init__ f fd) : FnOk P w K mg base CX0 2 f fd ["self", "portion", "first", "last"] (spInit (A.cls (.upto 0 0 .shares .shares)) (α := (Int × Int) × Rl × Rl) (fun r => [.tuple [.int r.1.1, .int r.1.2], r.2.1.ins A, r.2.2.ins A]) (fun r => (Rl.upto r.1.1 r.1.2 r.2.1 r.2.2).shape)) := by
  refine F.ok sc_Upto___init__ (fun vs H Q E h => ?_) (fun cdv A' outer s H vs Q E hr h => ?_)
  · obtain ⟨G, d, x, dx, us, rfl, _, _, _, hA, _⟩ := h
    rw [List.length_cons, ← hA.len]; rfl
  obtain ⟨G, ⟨⟨t, b⟩, r, r2⟩, x, dx, us, rfl, eG, gx, hx, hA, k⟩ := h
  obtain ⟨v0, v, v2, rfl, al⟩ := isAll3 hA
  have S : Sta H G H [] _ := Sta.enter eG al
  dsimp only at k S
  refine ⟨_, (pss_one (ps_expr (pe_ccall rfl g_Rule s_Rule r_Rule f_Rule_init (F_Rule_init.mono (by first | decide | exact Nat.le_refl _ | omega)) hr k_Rule_init b_Rule_init pass0 (pa_cons (pv 0) (pa_cons (pe_tup (pa_cons pe_str (pa_cons (pv 1) (pa_cons (pe_methA (pv 2) (F_Rule_shape.mono (by first | decide | exact Nat.le_refl _ | omega)) hr b_Rule_shape pass0) (pa_cons (pe_methA (pv 3) (F_Rule_shape.mono (by first | decide | exact Nat.le_refl _ | omega)) hr b_Rule_shape pass0) pa_nil))))) pa_nil))))), rd_start ?_⟩
  walk_at "walk"
  refine rd_kMS S (.mem (by walk_at "mem")) (okA r) ?_
  refine rd_shape S (.mem (by walk_at "mem")) fun w1 H1 e1 S1 => ?_
  walk_at "walk"
  refine rd_kMS S1 (.mem (by walk_at "mem")) (okA r2) ?_
  refine rd_shape S1 (.mem (by walk_at "mem")) fun w2 H2 e2 S2 => ?_
  walk_at "walk"
  refine rd_rinit (d := (Rl.upto t b r r2).shape) (by assumption) gx hx (okA (.upto 0 0 .shares .shares)) (.mem (by walk_at "mem")) fun H' G' w h1 h2 h3 h4 h5 h6 => ?_
  exact k H' G' w h1 h2 h3 h4 h5 h6
end

section
variable {fS fT Ru : Addr} {A : RAd}
abbrev s_portion_text : Stmt := top 12
theorem sc_portion_text : FnScope ["portion", "top", "bottom"] ["portion"] (defScope s_portion_text) := ⟨rfl, rfl, rfl, by decide +kernel, rfl, by decide +kernel, by decide +kernel⟩
theorem ok_ptext (F : Fun K "portion_text" "portion_text" s_portion_text f fd) : FnOk P w K mg base CX0 1 f fd ["portion"] spPText := by
  refine F.ok sc_portion_text (fun vs H Q E h => ?_) (fun cdv A outer s H vs Q E hr h => ?_)
  · obtain ⟨r, h, _⟩ := h
    rw [← h.len]; rfl
  obtain ⟨⟨t, b⟩, hA, ⟨ht, hb⟩, k⟩ := h
  obtain ⟨v, rfl, al⟩ := isAll1 hA
  have S : Sta H H H [] _ := Sta.enter (Same.refl _) al
  dsimp only at ht hb k S
  have l1 := itS_len ht
  have l2 := itS_len hb
  have l3 : ("/" : Str).length = 1 := by decide +kernel
  have l4 : Str.empty.length = 0 := rfl
  refine ⟨_, (pss_cons (ps_set (i := 1) sc_portion_text.nd rfl (by first | exact Or.inl rfl | exact Or.inr rfl) (pe_ix ix_seq (pv 0) pe_int (fun _ _ => rfl))) (pss_cons (ps_set (i := 2) sc_portion_text.nd rfl (by first | exact Or.inl rfl | exact Or.inr rfl) (pe_ix ix_seq (pv 0) pe_int (fun _ _ => rfl))) (pss_one (ps_ret (pe_joined (pj_cons (pe_fmt (pv 1)) (pj_cons pe_str (pj_cons (pe_fmt (pv 2)) pj_nil)))))))), rd_start ?_⟩
  walk_at "walk"
  rw [empty_app]
  exact ret_B S k
abbrev s_text_of : Stmt := top 11
theorem sc_text_of : FnScope ["shape", "word", "within_brackets", "pieces"] ["shape"] (defScope s_text_of) := ⟨rfl, rfl, rfl, by decide +kernel, rfl, by decide +kernel, by decide +kernel⟩
theorem ok_textof (B : Bl mg) (C_portion_text : Cal P w K mg base CX0 1 "portion_text" ["portion"] spPText) (F : Fun K "text_of" "text_of" s_text_of f fd) (hm : mg "text_of" = some (.ref f)) (b : Binds K fd ["shape"] []) : ∀ n : Nat, FnOk P w K mg base CX0 (n + 2) f fd ["shape"] (spTextOf n) := by
  intro n
  induction n with
  | zero =>
    refine F.ok sc_text_of (fun vs H Q E h => ?_) (fun cdv A outer s H vs Q E hr h => ?_)
    · obtain ⟨r, h, _⟩ := h
      rw [← h.len]; rfl
    obtain ⟨r, _, ⟨_, _, hd⟩, _⟩ := h
    exact absurd hd (by cases r <;> simp [Rl.deep])
  | succ n ih =>
    have C_text_of : Cal P w K mg base CX0 (n + 2) "text_of" ["shape"] (spTextOf n) := cal_mk F ih hm b
    refine F.ok sc_text_of (fun vs H Q E h => ?_) (fun cdv A outer s H vs Q E hr h => ?_)
    · obtain ⟨r, h, _⟩ := h
      rw [← h.len]; rfl
    obtain ⟨r, hA, ⟨hok, hsz, hdp⟩, k⟩ := h
    obtain ⟨v, rfl, al⟩ := isAll1 hA
    dsimp only at k
    have S : Sta H H H [] [(r.shape, v)] := Sta.enter (Same.refl _) al
    have l3 : ("(" : Str).length = 1 := by decide +kernel
    have l4 : Str.empty.length = 0 := rfl
    have l5 : (")" : Str).length = 1 := by decide +kernel
    have l6 : (", " : Str).length = 2 := by decide +kernel
    refine ⟨_, (pss_cons (ps_set (i := 1) sc_text_of.nd rfl (by first | exact Or.inl rfl | exact Or.inr rfl) (pe_ix ix_seq (pv 0) pe_int (fun _ _ => rfl))) (pss_cons (ps_if (pt_cmpR (op_eqA (units_of hr)) (pe_callB call_lenA rfl B.len bt_len (pa_cons (pv 0) pa_nil)) pe_int (nomark _)) (pss_one (ps_ret (pv 1))) pss_nil) (pss_cons (ps_if (pt_cmpR (op_eqA (units_of hr)) (pv 1) pe_str (nomark _)) (pss_one (ps_set (i := 3) sc_text_of.nd rfl (by first | exact Or.inl rfl | exact Or.inr rfl) (pe_op op_addA (pe_lst (pa_cons (pe_cal C_portion_text hr (by first | decide | exact Nat.le_refl _ | omega) pass0 rfl (pa_cons (pe_ix ix_seq (pv 0) pe_int (fun _ _ => rfl)) pa_nil)) pa_nil)) (pe_comp (N := ["inner"]) (n := 1) (fr := []) rfl ⟨rfl, by decide +kernel, rfl, by decide, rfl, rfl, rfl, rfl, rfl⟩ (pi_tup (pe_slice sl_tup (pv 0) (po_some pe_int) po_none)) (fun _ _ _ _ => (pg_name (i := 0) (show (["inner"] : List Str).Nodup from by decide +kernel) rfl (by first | exact Or.inl rfl | exact Or.inr rfl))) (fun _ _ _ _ => pif_nil) (fun _ _ _ _ => (pe_cal C_text_of hr (by first | decide | exact Nat.le_refl _ | omega) pass0 rfl (pa_cons (pv 0) pa_nil))))))) (pss_one (ps_setComp (i := 3) (N := ["inner"]) (n := 1) (fr := []) sc_text_of.nd rfl rfl rfl ⟨rfl, by decide +kernel, rfl, by decide, rfl, rfl, rfl, rfl, rfl⟩ (pi_tup (pe_slice sl_tup (pv 0) (po_some pe_int) po_none)) (fun _ _ _ _ => (pg_name (i := 0) (show (["inner"] : List Str).Nodup from by decide +kernel) rfl (by first | exact Or.inl rfl | exact Or.inr rfl))) (fun _ _ _ _ => pif_nil) (fun _ _ _ _ => (pe_cal C_text_of hr (by first | decide | exact Nat.le_refl _ | omega) pass0 rfl (pa_cons (pv 0) pa_nil)))))) (pss_cons (ps_set (i := 2) sc_text_of.nd rfl (by first | exact Or.inl rfl | exact Or.inr rfl) (pe_bm PySem.F.plainAttrs_str PySem.F.slot_str_join PySem.F.type_str_join mt_join pe_str (pa_cons (pv 3) pa_nil))) (pss_one (ps_ret (pe_joined (pj_cons (pe_fmt (pv 1)) (pj_cons pe_str (pj_cons (pe_fmt (pv 2)) (pj_cons pe_str pj_nil))))))))))), rd_start ?_⟩
    rcases (show (∃ wd : Str, r.shape = .tuple [.str wd] ∧ r.text = wd) ∨ (∃ (wd : Str) (x : Rl), r.shape = .tuple [.str wd, x.shape] ∧ wd ≠ "upto" ∧ wd.length ≤ 10 ∧ (x.Ok ∧ x.size ≤ 12 ∧ x.deep ≤ n) ∧ r.text = wd ++ ("(" : Str) ++ x.text ++ (")" : Str)) ∨ (∃ x y, r = .groups x y) ∨ ∃ (t b : Int) (x y : Rl), r = .upto t b x y from by
      cases r with
      | shares => exact .inl ⟨_, rfl, rfl⟩
      | evenly => exact .inl ⟨_, rfl, rfl⟩
      | losses => exact .inl ⟨_, rfl, rfl⟩
      | halves => exact .inl ⟨_, rfl, rfl⟩
      | other x =>
        simp only [Rl.size, Rl.deep] at hsz hdp
        refine .inr (.inl ⟨"other", x, rfl, by decide +kernel, by decide +kernel, ⟨hok, by omega, by omega⟩, ?_⟩)
        rw [Rl.text, show ("other(" : Str) = ("other" : Str) ++ ("(" : Str) by decide +kernel]
      | ranks x =>
        simp only [Rl.size, Rl.deep] at hsz hdp
        refine .inr (.inl ⟨"ranks", x, rfl, by decide +kernel, by decide +kernel, ⟨hok, by omega, by omega⟩, ?_⟩)
        rw [Rl.text, show ("ranks(" : Str) = ("ranks" : Str) ++ ("(" : Str) by decide +kernel]
      | groups x y => exact .inr (.inr (.inl ⟨x, y, rfl⟩))
      | upto t b x y => exact .inr (.inr (.inr ⟨t, b, x, y, rfl⟩))) with ⟨wd, e1, e2⟩ | ⟨wd, x, e1, hw, hwl, ⟨ox, sx, dx⟩, e2⟩ | ⟨x, y, rfl⟩ | ⟨t, b, x, y, rfl⟩
    · rw [e1] at S
      rw [e2] at k
      walk_at "walk"
      refine iteD (fun _ => ?_) (fun c => absurd rfl c)
      walk_at "walk"
      exact ret_B S k
    · rw [e1] at S
      rw [e2] at k
      have lx : x.text.length ≤ 48000 := Nat.le_trans (x.text_len ox) (by omega)
      walk_at "walk"
      refine iteD (fun c => by simp at c) (fun _ => ?_)
      walk_at "walk"
      refine iteD (fun c => absurd c hw) (fun _ => ?_)
      walk_at "walk"
      refine rd_slT (xs := [.str wd, x.shape]) S (.mem (by walk_at "mem")) (by show ¬ (HT.sIx 2 0 (some 1) = 0 ∧ HT.sIx 2 2 none = 2); decide) fun l2 H2 e2 S2 => ?_
      refine rd_kITd (xs := [x.shape]) S2 (.mem (by walk_at "mem")) fun J wk => ?_
      refine comp_map wk (fun _ => .str x.text) (ys := [x.text].map PyData.str) rfl S2 (fun _ _ => .mem (by walk_at "mem")) (by show 1 ≤ 1000; decide) (fun j u v B' G' Kd Kn hx t1 S hd C ex s0 H0 => ?_) fun D H3 e3 S3 => ?_
      · obtain rfl : u = x.shape := by
          match j, hx with
          | 0, hx => exact (Option.some.inj hx).symm
        refine rd_name ⟨rfl, ?_⟩
        walk_at "walk"
        refine rd_textof S (.mem (by walk_at "mem")) ox sx dx fun H4 S4 => ?_
        exact hd S4 Has.str
      walk_at "walk"
      refine rd_join (ys := [x.text]) S3 (by walk_at "mem") (join_ok1 (by omega)) ?_
      rw [glued1]
      walk_at "walk"
      rw [empty_app]
      exact ret_B S3 k
    · simp only [Rl.size, Rl.deep] at hsz hdp
      have ox := hok.1
      have oy := hok.2
      have sx : x.size ≤ 12 := by omega
      have sy : y.size ≤ 12 := by omega
      have lx : x.text.length ≤ 48000 := Nat.le_trans (x.text_len ox) (by omega)
      have ly : y.text.length ≤ 48000 := Nat.le_trans (y.text_len oy) (by omega)
      have S : Sta H H H [] [(.tuple [.str "groups", x.shape, y.shape], v)] := S
      rw [Rl.text, show ("groups(" : Str) = ("groups" : Str) ++ ("(" : Str) by decide +kernel] at k
      have lg : ("groups" : Str).length = 6 := by decide +kernel
      walk_at "walk"
      refine iteD (fun c => by simp at c) (fun _ => ?_)
      walk_at "walk"
      refine iteD (fun c => absurd c (by decide +kernel)) (fun _ => ?_)
      walk_at "walk"
      refine rd_slT (xs := [.str "groups", x.shape, y.shape]) S (.mem (by walk_at "mem")) (by show ¬ (HT.sIx 3 0 (some 1) = 0 ∧ HT.sIx 3 3 none = 3); decide) fun l2 H2 e2 S2 => ?_
      refine rd_kITd (xs := [x.shape, y.shape]) S2 (.mem (by walk_at "mem")) fun J wk => ?_
      refine comp_map wk (fun j => .str ([x, y].getD j x).text) (ys := [x.text, y.text].map PyData.str) rfl S2 (fun _ _ => .mem (by walk_at "mem")) (by show 2 ≤ 1000; decide) (fun j u v B' G' Kd Kn hx t1 S hd C ex s0 H0 => ?_) fun D H3 e3 S3 => ?_
      · have hj : u = ([x, y].getD j x).shape ∧ ([x, y].getD j x).Ok ∧ ([x, y].getD j x).size ≤ 12 ∧ ([x, y].getD j x).deep ≤ n := by
          match j, hx with
          | 0, hx => exact ⟨(Option.some.inj hx).symm, ox, sx, by show x.deep ≤ n; omega⟩
          | 1, hx => exact ⟨(Option.some.inj hx).symm, oy, sy, by show y.deep ≤ n; omega⟩
        obtain ⟨rfl, o1, o2, o3⟩ := hj
        refine rd_name ⟨rfl, ?_⟩
        walk_at "walk"
        refine rd_textof S (.mem (by walk_at "mem")) o1 o2 o3 fun H4 S4 => ?_
        exact hd S4 Has.str
      walk_at "walk"
      refine rd_join (ys := [x.text, y.text]) S3 (by walk_at "mem") (join_ok2 (by omega) (by omega)) ?_
      rw [glued2]
      have lg2 : (x.text ++ (", " : Str) ++ y.text).length ≤ 100000 := by simp only [str_len]; omega
      walk_at "walk"
      rw [empty_app]
      simp only [str_assoc] at k ⊢
      exact ret_B S3 k
    · simp only [Rl.size, Rl.deep] at hsz hdp
      obtain ⟨⟨ht, hb⟩, ox, oy⟩ := hok
      have sx : x.size ≤ 12 := by omega
      have sy : y.size ≤ 12 := by omega
      have lx : x.text.length ≤ 48000 := Nat.le_trans (x.text_len ox) (by omega)
      have ly : y.text.length ≤ 48000 := Nat.le_trans (y.text_len oy) (by omega)
      have lt := itS_len ht
      have lb := itS_len hb
      have S : Sta H H H [] [(.tuple [.str "upto", .tuple [.int t, .int b], x.shape, y.shape], v)] := S
      rw [Rl.text, show ("upto(" : Str) = ("upto" : Str) ++ ("(" : Str) by decide +kernel] at k
      have lg : ("upto" : Str).length = 4 := by decide +kernel
      have ls : ("/" : Str).length = 1 := by decide +kernel
      walk_at "walk"
      refine iteD (fun c => by simp at c) (fun _ => ?_)
      walk_at "walk"
      refine iteD (fun _ => ?_) (fun c => absurd rfl c)
      walk_at "walk"
      rename_i w1 S1
      refine rd_ptext S1 (.mem (by walk_at "mem")) ht hb fun H2 S2 => ?_
      walk_at "walk"
      rename_i p3 H3 e3 S3
      refine rd_slT (xs := [.str "upto", .tuple [.int t, .int b], x.shape, y.shape]) S3 (.mem (by walk_at "mem")) (by show ¬ (HT.sIx 4 0 (some 2) = 0 ∧ HT.sIx 4 4 none = 4); decide) fun l4 H4 e4 S4 => ?_
      refine rd_kITd (xs := [x.shape, y.shape]) S4 (.mem (by walk_at "mem")) fun J wk => ?_
      refine comp_map wk (fun j => .str ([x, y].getD j x).text) (ys := [x.text, y.text].map PyData.str) rfl S4 (fun _ _ => .mem (by walk_at "mem")) (by show 2 ≤ 1000; decide) (fun j u v B' G' Kd Kn hx t1 S hd C ex s0 H0 => ?_) fun D H5 e5 S5 => ?_
      · have hj : u = ([x, y].getD j x).shape ∧ ([x, y].getD j x).Ok ∧ ([x, y].getD j x).size ≤ 12 ∧ ([x, y].getD j x).deep ≤ n := by
          match j, hx with
          | 0, hx => exact ⟨(Option.some.inj hx).symm, ox, sx, by show x.deep ≤ n; omega⟩
          | 1, hx => exact ⟨(Option.some.inj hx).symm, oy, sy, by show y.deep ≤ n; omega⟩
        obtain ⟨rfl, o1, o2, o3⟩ := hj
        refine rd_name ⟨rfl, ?_⟩
        walk_at "walk"
        refine rd_textof S (.mem (by walk_at "mem")) o1 o2 o3 fun H6 S6 => ?_
        exact hd S6 Has.str
      refine rd_addL S5 (S5.vwC (by walk_at "mem")) (S5.vwC (by walk_at "mem")) (by show 1 + 2 ≤ 1000; decide) fun p6 H6 e6 S6 => ?_
      have S6 : Sta H H H6 [(p6, [itS t ++ ("/" : Str) ++ itS b, x.text, y.text].map PyData.str)] [] := S6.weak (by walk_at "sub") (by walk_at "dats")
      walk_at "walk"
      refine rd_join (ys := [itS t ++ ("/" : Str) ++ itS b, x.text, y.text]) S6 (by walk_at "mem") (join_ok3 (by simp only [str_len]; omega) (by omega) (by omega)) ?_
      rw [glued3]
      have lg2 : (itS t ++ ("/" : Str) ++ itS b ++ (", " : Str) ++ x.text ++ (", " : Str) ++ y.text).length ≤ 110000 := by simp only [str_len]; omega
      walk_at "walk"
      rw [empty_app]
      simp only [str_assoc] at k ⊢
      exact ret_B S6 k
abbrev s_Rule_text : Stmt := inClass (top 2) 2
theorem sc_Rule_text : FnScope ["self"] ["self"] (defScope s_Rule_text) := ⟨rfl, rfl, rfl, by decide +kernel, rfl, by decide +kernel, by decide +kernel⟩
theorem ok_text {n : Nat} (okA : ∀ r : Rl, ROk K fS fT Ru (A.cls r)) (C_text_of : Cal P w K mg base CX0 (n + 2) "text_of" ["shape"] (spTextOf n)) (F : Fun K "text" "Rule.text" s_Rule_text f fd) : FnOk P w K mg base CX0 (n + 3) f fd ["self"] (spText A n) := by
  refine F.ok sc_Rule_text (fun vs H Q E h => ?_) (fun cdv A' outer s H vs Q E hr h => ?_)
  · obtain ⟨r, h, _⟩ := h
    rw [← h.len]; rfl
  obtain ⟨r, hA, ⟨h1, h2, h3⟩, k⟩ := h
  obtain ⟨v, rfl, al⟩ := isAll1 hA
  have S : Sta H H H [] _ := Sta.enter (Same.refl _) al
  refine ⟨_, (pss_one (ps_ret (pe_cal C_text_of hr (by first | decide | exact Nat.le_refl _ | omega) pass0 rfl (pa_cons (pe_fld (pv 0) rfl) pa_nil)))), rd_start ?_⟩
  walk_at "walk"
  refine rd_kFld S (.mem (by walk_at "mem")) (okA r) fun w S1 => ?_
  refine rd_textof S1 (.mem (by walk_at "mem")) h1 h2 h3 fun H2 S2 => ?_
  exact ret_B S2 k
end

abbrev s_law_cell_at : Stmt := top 14
theorem sc_law_cell_at : FnScope ["_law_script", "_law_k"] ["_law_script", "_law_k"] (defScope s_law_cell_at) := ⟨rfl, rfl, rfl, by decide +kernel, rfl, by decide +kernel, by decide +kernel⟩
theorem ok_cell (B : Bl mg) (F : Fun K "_law_cell_at" "_law_cell_at" s_law_cell_at f fd) : FnOk P w K mg base CX0 1 f fd ["_law_script", "_law_k"] (spCell K) := by
  refine F.ok sc_law_cell_at (fun vs H Q E h => ?_) (fun cdv A outer s H vs Q E hr h => ?_)
  · obtain ⟨a, ns, k, rfl, _⟩ := h
    rfl
  obtain ⟨a, ns, k, rfl, hS, h0, q⟩ := h
  refine ⟨_, (pss_cons (ps_if (pt_cmpR op_lt (pv 1) (pe_callB call_lenA rfl B.len bt_len (pa_cons (pv 0) pa_nil)) (nomark _)) (pss_one (ps_ret (pe_ix ix_seq (pv 0) (pv 1) (fun _ _ => rfl)))) pss_nil) (pss_one (ps_ret pe_int))), rd_start ?_⟩
  walk_at "walk"
  refine rd_lenS hS ?_
  walk_at "walk"
  refine iteD (fun c => ?_) (fun c => ?_)
  · walk_at "walk"
    refine rd_ixS hS h0 c ?_
    unfold cellAt at q
    rw [if_pos c] at q
    exact q
  · walk_at "walk"
    unfold cellAt at q
    rw [if_neg c] at q
    exact q

abbrev s_law_divisor : Stmt := top 15
theorem sc_law_divisor : FnScope ["_law_one", "_law_other", "_law_rest"] ["_law_one", "_law_other"] (defScope s_law_divisor) := ⟨rfl, rfl, rfl, by decide +kernel, rfl, by decide +kernel, by decide +kernel⟩
theorem ok_divisor (B : Bl mg) (F : Fun K "_law_divisor" "_law_divisor" s_law_divisor f fd) : FnOk P w K mg base CX0 1 f fd ["_law_one", "_law_other"] spDiv2 := by
  refine F.ok sc_law_divisor (fun vs H Q E h => ?_) (fun cdv A outer s H vs Q E hr h => ?_)
  · obtain ⟨a, b, rfl, _⟩ := h
    rfl
  obtain ⟨a, b, rfl, hb, q⟩ := h
  refine ⟨_, (pss_cons (ps_while PassesOwn.never (pt_cmpR (op_neA (units_of hr)) (pv 1) pe_int (nomark _)) (pss_cons (ps_set (i := 2) sc_law_divisor.nd rfl (by first | exact Or.inl rfl | exact Or.inr rfl) (pe_op op_modN (pv 0) (pv 1))) (pss_cons (ps_set (i := 0) sc_law_divisor.nd rfl (by first | exact Or.inl rfl | exact Or.inr rfl) (pv 1)) (pss_one (ps_set (i := 1) sc_law_divisor.nd rfl (by first | exact Or.inl rfl | exact Or.inr rfl) (pv 2)))))) (pss_one (ps_ret (pe_callB call_absA rfl B.abs bt_abs (pa_cons (pv 0) pa_nil))))), rd_start ?_⟩
  refine while_h (fun m σ H2 => ∃ (x y : Int) (v : Option V), σ = [some (.int x), some (.int y), v] ∧ 0 ≤ y ∧ Int.gcd x y = Int.gcd a b ∧ H2 = H ∧ m = y.toNat) _ ⟨a, b, none, rfl, hb, rfl, rfl, rfl⟩ ?_
  rintro m σ H2 ⟨x, y, v, rfl, hy, hg, rfl, rfl⟩
  walk_at "walk"
  refine rd_wh (fun c => ?_) (fun c => ?_)
  · have c : y ≠ 0 := by simpa using c
    walk_at "walk"
    have e : x.fmod y = x % y := Int.fmod_eq_emod_of_nonneg x hy
    have l1 := Int.emod_nonneg x c
    have l2 := Int.emod_lt_of_pos x (show 0 < y by omega)
    refine ⟨(x.fmod y).toNat, by rw [e]; omega, y, x.fmod y, _, rfl, by rw [e]; exact l1, ?_, rfl, rfl⟩
    rw [e, gcd_step, hg]
  · have c : y = 0 := by simpa using c
    subst c
    walk_at "walk"
    have e : (x.natAbs : Int) = ((Int.gcd a b : Nat) : Int) := by
      rw [← hg, Int.gcd_zero]
    rw [e]
    exact q

abbrev s_law_same : Stmt := top 22
theorem sc_law_same : FnScope ["_law_found", "_law_due", "_law_k"] ["_law_found", "_law_due"] (defScope s_law_same) := ⟨rfl, rfl, rfl, by decide +kernel, rfl, by decide +kernel, by decide +kernel⟩
theorem ok_same (B : Bl mg) (F : Fun K "_law_same" "_law_same" s_law_same f fd) (hm : mg "_law_same" = some (.ref f)) (b : Binds K fd ["_law_found", "_law_due"] []) : ∀ n : Nat, FnOk P w K mg base CX0 (n + 1) f fd ["_law_found", "_law_due"] (spSame n) := by
  intro n
  induction n with
  | zero =>
    refine F.ok sc_law_same (fun vs H Q E h => ?_) (fun cdv A outer s H vs Q E hr h => ?_)
    · obtain ⟨d, _, h, _⟩ := h
      rw [plainD] at h; exact h.elim
    · obtain ⟨d, _, h, _⟩ := h
      rw [plainD] at h; exact h.elim
  | succ n ih =>
    have C_law_same := cal_mk F ih hm b
    refine F.ok sc_law_same (fun vs H Q E h => ?_) (fun cdv A outer s H vs Q E hr h => ?_)
    · obtain ⟨a, h, _⟩ := h
      rw [← h.len]; rfl
    obtain ⟨d, hA, hd, k⟩ := h
    obtain ⟨v, w', rfl, al⟩ := isAll2 hA
    have S : Sta H H H [] _ := Sta.enter (Same.refl _) al
    have hv := S.hp (x := d) (v := v) (.mem (by walk_at "mem"))
    have hw := S.hp (x := d) (v := w') (.mem (by walk_at "mem"))
    refine ⟨_, (pss_cons (ps_if (PW.pt (pw_or (pt_val (pe_callB call_isi rfl B.isinstance bt_isinstance (pa_cons (pv 1) (pa_cons (pe_bltn (v := .ty "tuple") rfl B.tuple bt_tuple rfl) pa_nil)))) (pw_or1 (pt_val (pe_callB call_isi rfl B.isinstance bt_isinstance (pa_cons (pv 1) (pa_cons (pe_bltn (v := .ty "list") rfl B.list bt_list rfl) pa_nil))))))) (pss_cons (ps_if (PW.pt (pw_or (pt_cmpR (op_neA (units_of hr)) (pe_callB call_isi rfl B.isinstance bt_isinstance (pa_cons (pv 0) (pa_cons (pe_bltn (v := .ty "tuple") rfl B.tuple bt_tuple rfl) pa_nil))) (pe_callB call_isi rfl B.isinstance bt_isinstance (pa_cons (pv 1) (pa_cons (pe_bltn (v := .ty "tuple") rfl B.tuple bt_tuple rfl) pa_nil))) (nomark _)) (pw_or1 (pt_cmpR (op_neA (units_of hr)) (pe_callB call_isi rfl B.isinstance bt_isinstance (pa_cons (pv 0) (pa_cons (pe_bltn (v := .ty "list") rfl B.list bt_list rfl) pa_nil))) (pe_callB call_isi rfl B.isinstance bt_isinstance (pa_cons (pv 1) (pa_cons (pe_bltn (v := .ty "list") rfl B.list bt_list rfl) pa_nil))) (nomark _))))) (pss_one (ps_ret pe_bl)) pss_nil) (pss_cons (ps_if (pt_cmpR (op_neA (units_of hr)) (pe_callB call_lenA rfl B.len bt_len (pa_cons (pv 0) pa_nil)) (pe_callB call_lenA rfl B.len bt_len (pa_cons (pv 1) pa_nil)) (nomark _)) (pss_one (ps_ret pe_bl)) pss_nil) (pss_cons (ps_for PassesOwn.never rfl (pi_range1 rfl B.range (pa_cons (pe_callB call_lenA rfl B.len bt_len (pa_cons (pv 1) pa_nil)) pa_nil)) (pg_name (i := 2) sc_law_same.nd rfl (by first | exact Or.inl rfl | exact Or.inr rfl)) (pss_one (ps_if (pt_not (pt_val (pe_cal C_law_same hr (by first | decide | exact Nat.le_refl _ | omega) pass0 rfl (pa_cons (pe_ix ix_seq (pv 0) (pv 2) (fun _ _ => rfl)) (pa_cons (pe_ix ix_seq (pv 1) (pv 2) (fun _ _ => rfl)) pa_nil))))) (pss_one (ps_ret pe_bl)) pss_nil))) (pss_one (ps_ret pe_bl))))) pss_nil) (pss_cons (ps_if (pt_val (pe_callB call_isi rfl B.isinstance bt_isinstance (pa_cons (pv 1) (pa_cons (pe_bltn (v := .ty "bool") rfl B.bool bt_bool rfl) pa_nil)))) (pss_one (ps_ret (pe_and (pe_callB call_isi rfl B.isinstance bt_isinstance (pa_cons (pv 0) (pa_cons (pe_bltn (v := .ty "bool") rfl B.bool bt_bool rfl) pa_nil))) (pe_one (pe_cmpR (op_eqA (units_of hr)) (pv 0) (pv 1) (nomark _)))))) pss_nil) (pss_cons (ps_if (pt_val (pe_callB call_isi rfl B.isinstance bt_isinstance (pa_cons (pv 1) (pa_cons (pe_bltn (v := .ty "int") rfl B.int bt_int rfl) pa_nil)))) (pss_one (ps_ret (pe_and (pe_callB call_isi rfl B.isinstance bt_isinstance (pa_cons (pv 0) (pa_cons (pe_bltn (v := .ty "int") rfl B.int bt_int rfl) pa_nil))) (pe_and (pe_not (pe_callB call_isi rfl B.isinstance bt_isinstance (pa_cons (pv 0) (pa_cons (pe_bltn (v := .ty "bool") rfl B.bool bt_bool rfl) pa_nil)))) (pe_one (pe_cmpR (op_eqA (units_of hr)) (pv 0) (pv 1) (nomark _))))))) pss_nil) (pss_cons (ps_if (pt_val (pe_callB call_isi rfl B.isinstance bt_isinstance (pa_cons (pv 1) (pa_cons (pe_bltn (v := .ty "str") rfl B.str bt_str rfl) pa_nil)))) (pss_one (ps_ret (pe_and (pe_callB call_isi rfl B.isinstance bt_isinstance (pa_cons (pv 0) (pa_cons (pe_bltn (v := .ty "str") rfl B.str bt_str rfl) pa_nil))) (pe_one (pe_cmpR (op_eqA (units_of hr)) (pv 0) (pv 1) (nomark _)))))) pss_nil) (pss_one (ps_ret (pe_and (pe_cmpR op_isN (pv 1) pe_non (nomark _)) (pe_one (pe_cmpR op_isN (pv 0) pe_non (nomark _)))))))))), rd_start ?_⟩
    cases d with
    | int i =>
      cases hv.int_of
      cases hw.int_of
      walk_at "walk"
      rw [decide_eq_true rfl]
      exact k H (Same.refl _)
    | tuple xs =>
      rw [plainD] at hd
      walk_at "walk"
      refine iteNS rfl ?_
      walk_at "walk"
      refine iteNS rfl ?_
      walk_at "walk"
      refine iteNS rfl ?_
      walk_at "walk"
      refine rd_kR1 H H (by omega) (by omega) fun J wk => ?_
      refine for_wk wk (fun i σ cs ds => ∃ x2, σ = [some v, some w', x2] ∧ cs = [] ∧ ds = [(.tuple xs, v), (.tuple xs, w')]) S ⟨none, rfl, rfl, rfl⟩ (fun _ _ _ _ _ => trivial) ?_ ?_
      · rintro i x u σ H2 cs ds hx ⟨x2, rfl, rfl, rfl⟩ S2
        obtain ⟨hi, rfl⟩ := rangeD_at hx
        cases S2.int1
        have hi' : i < xs.length := by omega
        have ha : atI xs (0 + (i : Int)) = some xs[i] := atI_of (by omega) (by rw [show ((0 : Int) + (i : Int)).toNat = i by omega]; exact List.getElem?_eq_getElem hi')
        walk_at "walk"
        refine rd_ixT S2 (.mem (by walk_at "mem")) ha fun a S3 => ?_
        walk_at "walk"
        refine rd_ixT S3 (.mem (by walk_at "mem")) ha fun b S4 => ?_
        walk_at "walk"
        refine rd_spB xs[i] (S4.hpAll (.cons (.mem (by walk_at "mem")) (.cons (.mem (by walk_at "mem")) .nil))) (hd.2 _ (List.getElem_mem _)) fun H5 e5 => ?_
        walk_at "walk"
        refine rd_at ((S4.same e5).dat (by walk_at "dats")) ⟨_, rfl, rfl, rfl⟩
      · rintro σ H2 cs ds ⟨x2, rfl, rfl, rfl⟩ S2
        walk_at "walk"
        exact ret_B S2 k
    | list xs =>
      rw [plainD] at hd
      walk_at "walk"
      refine iteNS rfl ?_
      walk_at "walk"
      refine iteNS rfl ?_
      walk_at "walk"
      refine iteNS rfl ?_
      walk_at "walk"
      refine rd_kR1 H H (by omega) (by omega) fun J wk => ?_
      refine for_wk wk (fun i σ cs ds => ∃ x2, σ = [some v, some w', x2] ∧ cs = [] ∧ ds = [(.list xs, v), (.list xs, w')]) S ⟨none, rfl, rfl, rfl⟩ (fun _ _ _ _ _ => trivial) ?_ ?_
      · rintro i x u σ H2 cs ds hx ⟨x2, rfl, rfl, rfl⟩ S2
        obtain ⟨hi, rfl⟩ := rangeD_at hx
        cases S2.int1
        have hi' : i < xs.length := by omega
        have ha : atI xs (0 + (i : Int)) = some xs[i] := atI_of (by omega) (by rw [show ((0 : Int) + (i : Int)).toNat = i by omega]; exact List.getElem?_eq_getElem hi')
        walk_at "walk"
        refine rd_ixL S2 (.mem (by walk_at "mem")) ha fun a S3 => ?_
        walk_at "walk"
        refine rd_ixL S3 (.mem (by walk_at "mem")) ha fun b S4 => ?_
        walk_at "walk"
        refine rd_spB xs[i] (S4.hpAll (.cons (.mem (by walk_at "mem")) (.cons (.mem (by walk_at "mem")) .nil))) (hd.2 _ (List.getElem_mem _)) fun H5 e5 => ?_
        walk_at "walk"
        refine rd_at ((S4.same e5).dat (by walk_at "dats")) ⟨_, rfl, rfl, rfl⟩
      · rintro σ H2 cs ds ⟨x2, rfl, rfl, rfl⟩ S2
        walk_at "walk"
        exact ret_B S2 k
    | none => rw [plainD] at hd; exact hd.elim
    | bool _ => rw [plainD] at hd; exact hd.elim
    | str x =>
      cases hv.str_of
      cases hw.str_of
      walk_at "walk"
      rw [decide_eq_true rfl]
      exact k H (Same.refl _)
    | dict _ => rw [plainD] at hd; exact hd.elim

abbrev s_law_mixed : Stmt := top 16
theorem sc_law_mixed : FnScope ["_law_cell", "_law_many", "_law_number", "_law_found", "_law_k"] ["_law_cell", "_law_many"] (defScope s_law_mixed) := ⟨rfl, rfl, rfl, by decide +kernel, rfl, by decide +kernel, by decide +kernel⟩
theorem ok_mixl (F : Fun K "_law_mixed" "_law_mixed" s_law_mixed f fd) (B : Bl mg) : FnOk P w K mg base CX0 1 f fd ["_law_cell", "_law_many"] spMixL := by
  refine F.ok sc_law_mixed (fun vs H Q E h => ?_) (fun cdv A outer s H vs Q E hr h => ?_)
  · obtain ⟨_, _, _, rfl, _⟩ := h
    rfl
  obtain ⟨G, c, eG, rfl, k⟩ := h
  have S : Sta H G H [] [] := Sta.enter eG fun p hp => absurd hp List.not_mem_nil
  refine ⟨_, (pss_cons (ps_set (i := 2) sc_law_mixed.nd rfl (by first | exact Or.inl rfl | exact Or.inr rfl) (pe_op op_mod (pe_op op_addA (pe_op op_mulB (pe_op op_mod (pv 0) pe_int) pe_int) pe_int) pe_int)) (pss_cons (ps_set (i := 3) sc_law_mixed.nd rfl (by first | exact Or.inl rfl | exact Or.inr rfl) (pe_lst pa_nil)) (pss_cons (ps_for PassesOwn.never rfl (pi_range1 rfl B.range (pa_cons (pv 1) pa_nil)) (pg_name (i := 4) sc_law_mixed.nd rfl (by first | exact Or.inl rfl | exact Or.inr rfl)) (pss_cons (ps_set (i := 2) sc_law_mixed.nd rfl (by first | exact Or.inl rfl | exact Or.inr rfl) (pe_op op_mod (pe_op op_addA (pe_op op_addA (pe_op op_addA (pe_op op_mulB (pv 2) (pv 2)) (pe_op op_mulB pe_int (pv 2))) (pv 4)) pe_int) pe_int)) (pss_one (ps_expr (pe_bm PySem.F.plainAttrs_list PySem.F.slot_list_append PySem.F.type_list_append mt_append (pv 3) (pa_cons (pv 2) pa_nil)))))) (pss_one (ps_ret (pv 3)))))), rd_start ?_⟩
  walk_at "walk"
  rename_i p1 H1 e1 S1
  refine rd_kR1 H G (by decide) (by decide) fun J wk => ?_
  refine for_wk wk (fun i σ cs ds => ∃ (m : Int) (ns : List Int) (x4 : Option V), σ = [some (.int c), some (.int 4), some (.int m), some (.ref p1), x4] ∧ cs = [(p1, ns.map PyData.int)] ∧ ds = [] ∧ ns.length = i ∧ 0 ≤ m ∧ m < 2147483647) S1
    ⟨_, [], none, rfl, rfl, rfl, rfl, Int.emod_nonneg _ (by decide), Int.emod_lt_of_pos _ (by decide)⟩ (fun _ _ _ _ _ => trivial) ?_ ?_
  · rintro i x v σ H2 cs ds hx ⟨m, ns, x4, rfl, rfl, rfl, hl, hm0, hm1⟩ S
    obtain ⟨hi, rfl⟩ := rangeD_at hx
    cases S.int1
    have S := S.drop1
    have zm : Sz 64 m := by
      unfold Sz
      have e : (2 : Nat) ^ 64 = 18446744073709551616 := by decide
      rw [e]; omega
    have o1 : IntMulOk m m := Sz.mulOk zm zm (by decide)
    walk_at "walk"
    refine rd_append S Has.int (by rw [List.length_map]; have : i < 4 := hi; omega) fun H3 S3 => ?_
    walk_at "walk"
    refine rd_at (cs := [(p1, (ns ++ [_]).map PyData.int)]) (ds := []) (by rw [List.map_append]; exact S3) ⟨_, _, _, rfl, rfl, rfl, by rw [List.length_append, hl]; rfl, Int.emod_nonneg _ (by decide), Int.emod_lt_of_pos _ (by decide)⟩
  · rintro σ H2 cs ds ⟨m, ns, x4, rfl, rfl, rfl, hl, hm0, hm1⟩ S
    rw [show (rangeD 0 (Int.toNat 4)).length = 4 from rfl] at hl
    obtain ⟨a, b, d, e, rfl⟩ : ∃ a b d e, ns = [a, b, d, e] := by
      match ns, hl with
      | [a, b, d, e], _ => exact ⟨a, b, d, e, rfl⟩
    walk_at "walk"
    obtain ⟨G', gr, al'⟩ := S.freeze.leave
    exact k _ _ G' a b d e gr (al' _ (by walk_at "mem"))
abbrev s_law_portion : Stmt := top 17
theorem sc_law_portion : FnScope ["_law_top", "_law_bottom", "_law_share"] ["_law_top", "_law_bottom"] (defScope s_law_portion) := ⟨rfl, rfl, rfl, by decide +kernel, rfl, by decide +kernel, by decide +kernel⟩
theorem ok_port (C_law_divisor : Cal P w K mg base CX0 1 "_law_divisor" ["_law_one", "_law_other"] spDiv2) (F : Fun K "_law_portion" "_law_portion" s_law_portion f fd) : FnOk P w K mg base CX0 2 f fd ["_law_top", "_law_bottom"] spPort := by
  refine F.ok sc_law_portion (fun vs H Q E h => ?_) (fun cdv A outer s H vs Q E hr h => ?_)
  · obtain ⟨_, _, _, _, rfl, _⟩ := h
    rfl
  obtain ⟨G, a, b, eG, rfl, ⟨hb0, hb1⟩, k⟩ := h
  have S : Sta H G H [] [] := Sta.enter eG fun p hp => absurd hp List.not_mem_nil
  have hn : 2 + b - 1 ≠ 0 := by omega
  have hf := fmod_le (x := a) (n := 2 + b - 1) (by omega)
  have gp : 0 < Int.gcd (1 + a.fmod (2 + b - 1)) (2 + b) := Int.gcd_pos_of_ne_zero_right _ (by omega)
  have gl : (Int.gcd (1 + a.fmod (2 + b - 1)) (2 + b) : Int) ≤ 2 + b := by
    have := Nat.le_of_dvd (by omega) (Int.gcd_dvd_natAbs_right (1 + a.fmod (2 + b - 1)) (2 + b))
    omega
  have hc1 : CDv (1 + a.fmod (2 + b - 1)) ((Int.gcd (1 + a.fmod (2 + b - 1)) (2 + b) : Nat) : Int) := ⟨by omega, Sz.mono (sz_le210 (by omega) (by omega)) (by decide)⟩
  have hc2 : CDv (2 + b) ((Int.gcd (1 + a.fmod (2 + b - 1)) (2 + b) : Nat) : Int) := hc1
  refine ⟨_, (pss_cons (ps_set (i := 1) sc_law_portion.nd rfl (by first | exact Or.inl rfl | exact Or.inr rfl) (pe_op op_addA pe_int (pv 1))) (pss_cons (ps_set (i := 0) sc_law_portion.nd rfl (by first | exact Or.inl rfl | exact Or.inr rfl) (pe_op op_addA pe_int (pe_op op_modN (pv 0) (pe_op op_sub (pv 1) pe_int)))) (pss_cons (ps_set (i := 2) sc_law_portion.nd rfl (by first | exact Or.inl rfl | exact Or.inr rfl) (pe_cal C_law_divisor hr (by first | decide | exact Nat.le_refl _ | omega) pass0 rfl (pa_cons (pv 0) (pa_cons (pv 1) pa_nil)))) (pss_one (ps_ret (pe_tup (pa_cons (pe_op op_fdivB (pv 0) (pv 2)) (pa_cons (pe_op op_fdivB (pv 1) (pv 2)) pa_nil)))))))), rd_start ?_⟩
  walk_at "walk"
  rename_i p1 H1 e1 S1
  obtain ⟨G', gr, al'⟩ := S1.leave
  refine k _ _ G' _ _ gr (al' _ (by walk_at "mem")) ?_ ?_
  · exact Sz.le (sz_le210 (x := 1 + a.fmod (2 + b - 1)) (by omega) (by omega)) (natAbs_fdiv_le _ _)
  · exact Sz.le (sz_le210 (x := 2 + b) (by omega) (by omega)) (natAbs_fdiv_le _ _)
section
variable {A : RAd}
abbrev s_law_leaf : Stmt := top 18
theorem sc_law_leaf : FnScope ["_law_number"] ["_law_number"] (defScope s_law_leaf) := ⟨rfl, rfl, rfl, by decide +kernel, rfl, by decide +kernel, by decide +kernel⟩
theorem ok_leaf (mShares : Maker P w K mg base "Shares" (A.cls .shares) ["self"] (spInit (A.cls .shares) (α := Unit) (fun _ => []) (fun _ => Rl.shares.shape))) (mEvenly : Maker P w K mg base "Evenly" (A.cls .evenly) ["self"] (spInit (A.cls .evenly) (α := Unit) (fun _ => []) (fun _ => Rl.evenly.shape))) (mLosses : Maker P w K mg base "Losses" (A.cls .losses) ["self"] (spInit (A.cls .losses) (α := Unit) (fun _ => []) (fun _ => Rl.losses.shape))) (mHalves : Maker P w K mg base "Halves" (A.cls .halves) ["self"] (spInit (A.cls .halves) (α := Unit) (fun _ => []) (fun _ => Rl.halves.shape))) (F : Fun K "_law_leaf" "_law_leaf" s_law_leaf f fd) : FnOk P w K mg base CX0 4 f fd ["_law_number"] (spLeaf A) := by
  obtain ⟨f_Shares, fd_Shares, MK_Shares, F_Shares__init, b_Shares__init, g_Shares⟩ := mShares
  obtain ⟨f_Evenly, fd_Evenly, MK_Evenly, F_Evenly__init, b_Evenly__init, g_Evenly⟩ := mEvenly
  obtain ⟨f_Losses, fd_Losses, MK_Losses, F_Losses__init, b_Losses__init, g_Losses⟩ := mLosses
  obtain ⟨f_Halves, fd_Halves, MK_Halves, F_Halves__init, b_Halves__init, g_Halves⟩ := mHalves
  refine F.ok sc_law_leaf (fun vs H Q E h => ?_) (fun cdv A' outer s H vs Q E hr h => ?_)
  · obtain ⟨G, a, _, h, _⟩ := h
    rw [← h.len]; rfl
  obtain ⟨G, n, eG, hA, _, k⟩ := h
  cases (isAll_ints (ns := [n]) hA)
  have S : Sta H G H [] [] := Sta.enter eG fun p hp => absurd hp List.not_mem_nil
  refine ⟨_, (pss_cons (ps_if (pt_cmpR (op_eqA (units_of hr)) (pe_op op_mod (pv 0) pe_int) pe_int (nomark _)) (pss_one (ps_ret (pe_tup (pa_cons (pe_make0 MK_Shares (F_Shares__init.mono (by first | decide | exact Nat.le_refl _ | omega)) hr rfl g_Shares b_Shares__init .nil pass0) (pa_cons (pe_tup (pa_cons pe_str pa_nil)) (pa_cons pe_str pa_nil)))))) pss_nil) (pss_cons (ps_if (pt_cmpR (op_eqA (units_of hr)) (pe_op op_mod (pv 0) pe_int) pe_int (nomark _)) (pss_one (ps_ret (pe_tup (pa_cons (pe_make0 MK_Evenly (F_Evenly__init.mono (by first | decide | exact Nat.le_refl _ | omega)) hr rfl g_Evenly b_Evenly__init .nil pass0) (pa_cons (pe_tup (pa_cons pe_str pa_nil)) (pa_cons pe_str pa_nil)))))) pss_nil) (pss_cons (ps_if (pt_cmpR (op_eqA (units_of hr)) (pe_op op_mod (pv 0) pe_int) pe_int (nomark _)) (pss_one (ps_ret (pe_tup (pa_cons (pe_make0 MK_Losses (F_Losses__init.mono (by first | decide | exact Nat.le_refl _ | omega)) hr rfl g_Losses b_Losses__init .nil pass0) (pa_cons (pe_tup (pa_cons pe_str pa_nil)) (pa_cons pe_str pa_nil)))))) pss_nil) (pss_one (ps_ret (pe_tup (pa_cons (pe_make0 MK_Halves (F_Halves__init.mono (by first | decide | exact Nat.le_refl _ | omega)) hr rfl g_Halves b_Halves__init .nil pass0) (pa_cons (pe_tup (pa_cons pe_str pa_nil)) (pa_cons pe_str pa_nil))))))))), rd_start ?_⟩
  walk_at "walk"
  refine iteD (fun _ => ?_) (fun _ => ?_)
  · skip
    walk_at "walk"
    refine rd_kMake () S HasAll.nil fun x1 H1 e1 S1 => ?_
    walk_at "walk"
    exact ret_Rl (r := .shares) (by assumption) k (.mem (by walk_at "mem")) ⟨rfl, trivial⟩
  · walk_at "walk"
    refine iteD (fun _ => ?_) (fun _ => ?_)
    · skip
      walk_at "walk"
      refine rd_kMake () S HasAll.nil fun x1 H1 e1 S1 => ?_
      walk_at "walk"
      exact ret_Rl (r := .evenly) (by assumption) k (.mem (by walk_at "mem")) ⟨rfl, trivial⟩
    · walk_at "walk"
      refine iteD (fun _ => ?_) (fun _ => ?_)
      · skip
        walk_at "walk"
        refine rd_kMake () S HasAll.nil fun x1 H1 e1 S1 => ?_
        walk_at "walk"
        exact ret_Rl (r := .losses) (by assumption) k (.mem (by walk_at "mem")) ⟨rfl, trivial⟩
      · skip
        walk_at "walk"
        refine rd_kMake () S HasAll.nil fun x1 H1 e1 S1 => ?_
        walk_at "walk"
        exact ret_Rl (r := .halves) (by assumption) k (.mem (by walk_at "mem")) ⟨rfl, trivial⟩
abbrev s_law_lone : Stmt := top 19
theorem sc_law_lone : FnScope ["_law_number", "_law_one"] ["_law_number", "_law_one"] (defScope s_law_lone) := ⟨rfl, rfl, rfl, by decide +kernel, rfl, by decide +kernel, by decide +kernel⟩
theorem ok_lone (mOther : Maker P w K mg base "Other" (A.cls (.other .shares)) ["self", "inner"] (spInit (A.cls (.other .shares)) (α := Rl) (fun r => [r.ins A]) (fun r => (Rl.other r).shape))) (mRanks : Maker P w K mg base "Ranks" (A.cls (.ranks .shares)) ["self", "inner"] (spInit (A.cls (.ranks .shares)) (α := Rl) (fun r => [r.ins A]) (fun r => (Rl.ranks r).shape))) (F : Fun K "_law_lone" "_law_lone" s_law_lone f fd) : FnOk P w K mg base CX0 4 f fd ["_law_number", "_law_one"] (spLone A) := by
  obtain ⟨f_Other, fd_Other, MK_Other, F_Other__init, b_Other__init, g_Other⟩ := mOther
  obtain ⟨f_Ranks, fd_Ranks, MK_Ranks, F_Ranks__init, b_Ranks__init, g_Ranks⟩ := mRanks
  refine F.ok sc_law_lone (fun vs H Q E h => ?_) (fun cdv A' outer s H vs Q E hr h => ?_)
  · obtain ⟨G, a, _, h, _⟩ := h
    rw [← h.len]; rfl
  obtain ⟨G, ⟨n, r⟩, eG, hA, ⟨ok, sz⟩, k⟩ := h
  obtain ⟨v1, v2, rfl, al⟩ := isAll2 hA
  have S : Sta H G H [] _ := Sta.enter eG al
  cases (S.hp (x := .int n) (v := v1) (.mem (by walk_at "mem"))).int_of
  dsimp only at k S ok sz
  have lr : r.text.length ≤ 48000 := Nat.le_trans (r.text_len ok) (by omega)
  have l1 : ("other(" : Str).length = 6 := by decide +kernel
  have l2 : ("ranks(" : Str).length = 6 := by decide +kernel
  have l3 : (")" : Str).length = 1 := by decide +kernel
  refine ⟨_, (pss_cons (ps_if (pt_cmpR (op_eqA (units_of hr)) (pe_op op_mod (pv 0) pe_int) pe_int (nomark _)) (pss_one (ps_ret (pe_tup (pa_cons (pe_make MK_Other (F_Other__init.mono (by first | decide | exact Nat.le_refl _ | omega)) hr rfl g_Other b_Other__init .nil pass0 (pa_cons (pe_ix ix_seq (pv 1) pe_int (fun _ _ => rfl)) pa_nil)) (pa_cons (pe_tup (pa_cons pe_str (pa_cons (pe_ix ix_seq (pv 1) pe_int (fun _ _ => rfl)) pa_nil))) (pa_cons (pe_op op_addS (pe_op op_addS pe_str (pe_ix ix_seq (pv 1) pe_int (fun _ _ => rfl))) pe_str) pa_nil)))))) pss_nil) (pss_one (ps_ret (pe_tup (pa_cons (pe_make MK_Ranks (F_Ranks__init.mono (by first | decide | exact Nat.le_refl _ | omega)) hr rfl g_Ranks b_Ranks__init .nil pass0 (pa_cons (pe_ix ix_seq (pv 1) pe_int (fun _ _ => rfl)) pa_nil)) (pa_cons (pe_tup (pa_cons pe_str (pa_cons (pe_ix ix_seq (pv 1) pe_int (fun _ _ => rfl)) pa_nil))) (pa_cons (pe_op op_addS (pe_op op_addS pe_str (pe_ix ix_seq (pv 1) pe_int (fun _ _ => rfl))) pe_str) pa_nil))))))), rd_start ?_⟩
  walk_at "walk"
  refine iteD (fun _ => ?_) (fun _ => ?_)
  · walk_at "walk"
    rename_i w1 S1
    refine rd_kMake r S1 (HasAll.cons (.mem (by walk_at "mem")) HasAll.nil) fun x2 H2 e2 S2 => ?_
    walk_at "walk"
    exact ret_Rl (r := .other r) (by assumption) k (.mem (by walk_at "mem")) ⟨rfl, ok⟩
  · walk_at "walk"
    rename_i w1 S1
    refine rd_kMake r S1 (HasAll.cons (.mem (by walk_at "mem")) HasAll.nil) fun x2 H2 e2 S2 => ?_
    walk_at "walk"
    exact ret_Rl (r := .ranks r) (by assumption) k (.mem (by walk_at "mem")) ⟨rfl, ok⟩
abbrev s_law_pair : Stmt := top 20
theorem sc_law_pair : FnScope ["_law_number", "_law_portion_here", "_law_one", "_law_two", "_law_text"] ["_law_number", "_law_portion_here", "_law_one", "_law_two"] (defScope s_law_pair) := ⟨rfl, rfl, rfl, by decide +kernel, rfl, by decide +kernel, by decide +kernel⟩
theorem ok_pair (B : Bl mg) (mGroups : Maker P w K mg base "Groups" (A.cls (.groups .shares .shares)) ["self", "outer", "inner"] (spInit (A.cls (.groups .shares .shares)) (α := Rl × Rl) (fun r => [r.1.ins A, r.2.ins A]) (fun r => (Rl.groups r.1 r.2).shape))) (mUpto : Maker P w K mg base "Upto" (A.cls (.upto 0 0 .shares .shares)) ["self", "portion", "first", "last"] (spInit (A.cls (.upto 0 0 .shares .shares)) (α := (Int × Int) × Rl × Rl) (fun r => [.tuple [.int r.1.1, .int r.1.2], r.2.1.ins A, r.2.2.ins A]) (fun r => (Rl.upto r.1.1 r.1.2 r.2.1 r.2.2).shape))) (F : Fun K "_law_pair" "_law_pair" s_law_pair f fd) : FnOk P w K mg base CX0 4 f fd ["_law_number", "_law_portion_here", "_law_one", "_law_two"] (spPair A) := by
  obtain ⟨f_Groups, fd_Groups, MK_Groups, F_Groups__init, b_Groups__init, g_Groups⟩ := mGroups
  obtain ⟨f_Upto, fd_Upto, MK_Upto, F_Upto__init, b_Upto__init, g_Upto⟩ := mUpto
  refine F.ok sc_law_pair (fun vs H Q E h => ?_) (fun cdv A' outer s H vs Q E hr h => ?_)
  · obtain ⟨G, a, _, h, _⟩ := h
    rw [← h.len]; rfl
  obtain ⟨G, ⟨n, ⟨t, b⟩, r, r2⟩, eG, hA, ⟨⟨ht, hb⟩, ⟨ok, sz⟩, ok2, sz2⟩, k⟩ := h
  obtain ⟨v1, v2, v3, v4, rfl, al⟩ := isAll4R hA
  have S : Sta H G H [] _ := Sta.enter eG al
  cases (S.hp (x := .int n) (v := v1) (.mem (by walk_at "mem"))).int_of
  dsimp only at k S ok sz ok2 sz2 ht hb
  have lr : r.text.length ≤ 48000 := Nat.le_trans (r.text_len ok) (by omega)
  have lr2 : r2.text.length ≤ 48000 := Nat.le_trans (r2.text_len ok2) (by omega)
  have lt := itS_len ht
  have lb := itS_len hb
  have l1 : ("groups(" : Str).length = 7 := by decide +kernel
  have l2 : ("upto(" : Str).length = 5 := by decide +kernel
  have l3 : (")" : Str).length = 1 := by decide +kernel
  have l4 : (", " : Str).length = 2 := by decide +kernel
  have l5 : ("/" : Str).length = 1 := by decide +kernel
  refine ⟨_, (pss_cons (ps_if (pt_cmpR (op_eqA (units_of hr)) (pe_op op_mod (pv 0) pe_int) pe_int (nomark _)) (pss_cons (ps_set (i := 4) sc_law_pair.nd rfl (by first | exact Or.inl rfl | exact Or.inr rfl) (pe_op op_addS (pe_op op_addS (pe_op op_addS (pe_op op_addS pe_str (pe_ix ix_seq (pv 2) pe_int (fun _ _ => rfl))) pe_str) (pe_ix ix_seq (pv 3) pe_int (fun _ _ => rfl))) pe_str)) (pss_one (ps_ret (pe_tup (pa_cons (pe_make MK_Groups (F_Groups__init.mono (by first | decide | exact Nat.le_refl _ | omega)) hr rfl g_Groups b_Groups__init .nil pass0 (pa_cons (pe_ix ix_seq (pv 2) pe_int (fun _ _ => rfl)) (pa_cons (pe_ix ix_seq (pv 3) pe_int (fun _ _ => rfl)) pa_nil))) (pa_cons (pe_tup (pa_cons pe_str (pa_cons (pe_ix ix_seq (pv 2) pe_int (fun _ _ => rfl)) (pa_cons (pe_ix ix_seq (pv 3) pe_int (fun _ _ => rfl)) pa_nil)))) (pa_cons (pv 4) pa_nil))))))) pss_nil) (pss_cons (ps_set (i := 4) sc_law_pair.nd rfl (by first | exact Or.inl rfl | exact Or.inr rfl) (pe_op op_addS (pe_op op_addS (pe_op op_addS (pe_op op_addS pe_str (pe_callTy call_strI rfl B.str bt_str (pa_cons (pe_ix ix_seq (pv 1) pe_int (fun _ _ => rfl)) pa_nil))) pe_str) (pe_callTy call_strI rfl B.str bt_str (pa_cons (pe_ix ix_seq (pv 1) pe_int (fun _ _ => rfl)) pa_nil))) pe_str)) (pss_cons (ps_set (i := 4) sc_law_pair.nd rfl (by first | exact Or.inl rfl | exact Or.inr rfl) (pe_op op_addS (pe_op op_addS (pe_op op_addS (pe_op op_addS (pv 4) (pe_ix ix_seq (pv 2) pe_int (fun _ _ => rfl))) pe_str) (pe_ix ix_seq (pv 3) pe_int (fun _ _ => rfl))) pe_str)) (pss_one (ps_ret (pe_tup (pa_cons (pe_make MK_Upto (F_Upto__init.mono (by first | decide | exact Nat.le_refl _ | omega)) hr rfl g_Upto b_Upto__init .nil pass0 (pa_cons (pv 1) (pa_cons (pe_ix ix_seq (pv 2) pe_int (fun _ _ => rfl)) (pa_cons (pe_ix ix_seq (pv 3) pe_int (fun _ _ => rfl)) pa_nil)))) (pa_cons (pe_tup (pa_cons pe_str (pa_cons (pv 1) (pa_cons (pe_ix ix_seq (pv 2) pe_int (fun _ _ => rfl)) (pa_cons (pe_ix ix_seq (pv 3) pe_int (fun _ _ => rfl)) pa_nil))))) (pa_cons (pv 4) pa_nil))))))))), rd_start ?_⟩
  walk_at "walk"
  refine iteD (fun _ => ?_) (fun _ => ?_)
  · walk_at "walk"
    rename_i w1 S1 w2 S2
    refine rd_kMake (r, r2) S2 (HasAll.cons (.mem (by walk_at "mem")) (HasAll.cons (.mem (by walk_at "mem")) HasAll.nil)) fun x2 H2 e2 S3 => ?_
    walk_at "walk"
    exact ret_Rl (r := .groups r r2) (by assumption) k (.mem (by walk_at "mem")) ⟨rfl, ok, ok2⟩
  · walk_at "walk"
    rename_i w1 S1 w2 S2
    refine rd_kMake ((t, b), r, r2) S2 (HasAll.cons (.mem (by walk_at "mem")) (HasAll.cons (.mem (by walk_at "mem")) (HasAll.cons (.mem (by walk_at "mem")) HasAll.nil))) fun x2 H2 e2 S3 => ?_
    walk_at "walk"
    exact ret_Rl (r := .upto t b r r2) (by assumption) k (.mem (by walk_at "mem")) ⟨rfl, ⟨ht, hb⟩, ok, ok2⟩
end

section
variable {A : RAd}
abbrev s_law_built : Stmt := top 21
theorem sc_law_built : FnScope ["_law_cells", "_law_great", "_law_pile", "_law_parts", "_law_cell", "_law_xs", "_law_two", "_law_portion_here"] ["_law_cells", "_law_great"] (defScope s_law_built) := ⟨rfl, rfl, rfl, by decide +kernel, rfl, by decide +kernel, by decide +kernel⟩
theorem ok_built (B : Bl mg) (C_law_leaf : Cal P w K mg base CX0 4 "_law_leaf" ["_law_number"] (spLeaf A)) (C_law_lone : Cal P w K mg base CX0 4 "_law_lone" ["_law_number", "_law_one"] (spLone A)) (C_law_pair : Cal P w K mg base CX0 4 "_law_pair" ["_law_number", "_law_portion_here", "_law_one", "_law_two"] (spPair A))
    (C_law_mixed : Cal P w K mg base CX0 1 "_law_mixed" ["_law_cell", "_law_many"] spMixL) (C_law_portion : Cal P w K mg base CX0 2 "_law_portion" ["_law_top", "_law_bottom"] spPort) (F : Fun K "_law_built" "_law_built" s_law_built f fd) : FnOk P w K mg base CX0 5 f fd ["_law_cells", "_law_great"] (spBuilt A) := by
  refine F.ok sc_law_built (fun vs H Q E h => ?_) (fun cdv A' outer s H vs Q E hr h => ?_)
  · obtain ⟨G, a, _, h, _⟩ := h
    rw [← h.len]; rfl
  obtain ⟨G, ⟨cells, g⟩, eG, hA, hcl, k⟩ := h
  obtain ⟨v1, v2, rfl, al⟩ := isAll2 hA
  have S : Sta H G H [] _ := Sta.enter eG al
  cases (S.hp (x := .int g) (v := v2) (.mem (by walk_at "mem"))).int_of
  dsimp only at k S hcl
  refine ⟨_, (pss_cons (ps_set (i := 2) sc_law_built.nd rfl (by first | exact Or.inl rfl | exact Or.inr rfl) (pe_lst (pa_cons (pe_cal C_law_leaf hr (by first | decide | exact Nat.le_refl _ | omega) pass0 rfl (pa_cons (pe_op op_fdiv (pv 1) pe_int) pa_nil)) pa_nil))) (pss_cons (ps_set (i := 3) sc_law_built.nd rfl (by first | exact Or.inl rfl | exact Or.inr rfl) pe_int) (pss_cons (ps_for PassesOwn.never rfl (pi_list (pv 0)) (pg_name (i := 4) sc_law_built.nd rfl (by first | exact Or.inl rfl | exact Or.inr rfl)) (pss_cons (ps_set (i := 5) sc_law_built.nd rfl (by first | exact Or.inl rfl | exact Or.inr rfl) (pe_cal C_law_mixed hr (by first | decide | exact Nat.le_refl _ | omega) pass0 rfl (pa_cons (pv 4) (pa_cons pe_int pa_nil)))) (pss_one (ps_if (PW.pt (pw_and (pt_cmpR (op_eqA (units_of hr)) (pe_op op_mod (pe_ix ix_seq (pv 5) pe_int (fun _ _ => rfl)) pe_int) pe_int (nomark _)) (pw_and1 (pt_cmpR op_gt (pe_callB call_lenA rfl B.len bt_len (pa_cons (pv 2) pa_nil)) pe_int (nomark _))))) (pss_cons (ps_set (i := 6) sc_law_built.nd rfl (by first | exact Or.inl rfl | exact Or.inr rfl) (pe_bm0 PySem.F.plainAttrs_list PySem.F.slot_list_pop PySem.F.type_list_pop mt_pop (pv 2))) (pss_cons (ps_expr (pe_bm PySem.F.plainAttrs_list PySem.F.slot_list_append PySem.F.type_list_append mt_append (pv 2) (pa_cons (pe_cal C_law_pair hr (by first | decide | exact Nat.le_refl _ | omega) pass0 rfl (pa_cons (pe_ix ix_seq (pv 5) pe_int (fun _ _ => rfl)) (pa_cons (pe_cal C_law_portion hr (by first | decide | exact Nat.le_refl _ | omega) pass0 rfl (pa_cons (pe_ix ix_seq (pv 5) pe_int (fun _ _ => rfl)) (pa_cons (pe_op op_mod (pe_ix ix_seq (pv 5) pe_int (fun _ _ => rfl)) pe_int) pa_nil))) (pa_cons (pe_bm0 PySem.F.plainAttrs_list PySem.F.slot_list_pop PySem.F.type_list_pop mt_pop (pv 2)) (pa_cons (pv 6) pa_nil))))) pa_nil))) (pss_one (ps_set (i := 3) sc_law_built.nd rfl (by first | exact Or.inl rfl | exact Or.inr rfl) (pe_op op_addA (pv 3) pe_int))))) (pss_one (ps_if (PW.pt (pw_and (pt_cmpR op_lt (pe_op op_addA (pv 3) (pe_callB call_lenA rfl B.len bt_len (pa_cons (pv 2) pa_nil))) pe_int (nomark _)) (pw_and1 (pt_cmpR op_lt (pe_op op_mod (pe_ix ix_seq (pv 5) pe_int (fun _ _ => rfl)) pe_int) pe_int (nomark _))))) (pss_cons (ps_expr (pe_bm PySem.F.plainAttrs_list PySem.F.slot_list_append PySem.F.type_list_append mt_append (pv 2) (pa_cons (pe_cal C_law_leaf hr (by first | decide | exact Nat.le_refl _ | omega) pass0 rfl (pa_cons (pe_ix ix_seq (pv 5) pe_int (fun _ _ => rfl)) pa_nil)) pa_nil))) (pss_one (ps_set (i := 3) sc_law_built.nd rfl (by first | exact Or.inl rfl | exact Or.inr rfl) (pe_op op_addA (pv 3) pe_int)))) (pss_one (ps_if (pt_cmpR op_lt (pe_op op_addA (pv 3) (pe_callB call_lenA rfl B.len bt_len (pa_cons (pv 2) pa_nil))) pe_int (nomark _)) (pss_cons (ps_expr (pe_bm PySem.F.plainAttrs_list PySem.F.slot_list_append PySem.F.type_list_append mt_append (pv 2) (pa_cons (pe_cal C_law_lone hr (by first | decide | exact Nat.le_refl _ | omega) pass0 rfl (pa_cons (pe_ix ix_seq (pv 5) pe_int (fun _ _ => rfl)) (pa_cons (pe_bm0 PySem.F.plainAttrs_list PySem.F.slot_list_pop PySem.F.type_list_pop mt_pop (pv 2)) pa_nil))) pa_nil))) (pss_one (ps_set (i := 3) sc_law_built.nd rfl (by first | exact Or.inl rfl | exact Or.inr rfl) (pe_op op_addA (pv 3) pe_int)))) pss_nil)))))))) (pss_cons (ps_while PassesOwn.never (pt_cmpR op_gt (pe_callB call_lenA rfl B.len bt_len (pa_cons (pv 2) pa_nil)) pe_int (nomark _)) (pss_cons (ps_set (i := 6) sc_law_built.nd rfl (by first | exact Or.inl rfl | exact Or.inr rfl) (pe_bm0 PySem.F.plainAttrs_list PySem.F.slot_list_pop PySem.F.type_list_pop mt_pop (pv 2))) (pss_cons (ps_set (i := 7) sc_law_built.nd rfl (by first | exact Or.inl rfl | exact Or.inr rfl) (pe_cal C_law_portion hr (by first | decide | exact Nat.le_refl _ | omega) pass0 rfl (pa_cons (pv 1) (pa_cons (pe_op op_mod (pe_op op_fdiv (pv 1) pe_int) (pe_op op_sub (pe_op op_pow pe_int pe_int) pe_int)) pa_nil)))) (pss_cons (ps_if (pt_cmpR op_gt (pe_callB call_lenA rfl B.len bt_len (pa_cons (pv 2) pa_nil)) pe_int (nomark _)) (pss_one (ps_set (i := 7) sc_law_built.nd rfl (by first | exact Or.inl rfl | exact Or.inr rfl) (pe_cal C_law_portion hr (by first | decide | exact Nat.le_refl _ | omega) pass0 rfl (pa_cons (pv 1) (pa_cons (pe_op op_mod (pe_op op_fdiv (pv 1) pe_int) pe_int) pa_nil))))) pss_nil) (pss_one (ps_expr (pe_bm PySem.F.plainAttrs_list PySem.F.slot_list_append PySem.F.type_list_append mt_append (pv 2) (pa_cons (pe_cal C_law_pair hr (by first | decide | exact Nat.le_refl _ | omega) pass0 rfl (pa_cons (pe_op op_addA (pe_op op_fdiv (pv 1) pe_int) (pe_callB call_lenA rfl B.len bt_len (pa_cons (pv 2) pa_nil))) (pa_cons (pv 7) (pa_cons (pe_bm0 PySem.F.plainAttrs_list PySem.F.slot_list_pop PySem.F.type_list_pop mt_pop (pv 2)) (pa_cons (pv 6) pa_nil))))) pa_nil)))))))) (pss_one (ps_ret (pe_ix ix_seq (pv 2) pe_int (fun _ _ => rfl)))))))), rd_start ?_⟩
  walk_at "walk"
  refine rd_rl (α := Int) _ S (HasAll.cons Has.int HasAll.nil) trivial fun w1 H1 r1 e1 S1 h1 => ?_
  walk_at "walk"
  rename_i p2 H2 e2 S2
  have S2 : Sta H G H2 [(p2, [r1].map (Rl.trip A))] [(.list (cells.map PyData.int), v1)] := S2.dat (by walk_at "dats")
  -- what holds of the pile
  refine rd_kILd (xs := cells.map PyData.int) S2 (.mem (by walk_at "mem")) fun J wk => ?_
  refine for_wk wk (fun i σ cs ds => ∃ (rs : List Rl) (x4 x5 x6 : Option V), σ = [some v1, some (.int g), some (.ref p2), some (.int (totR rs : Nat)), x4, x5, x6, none] ∧ cs = [(p2, rs.map (Rl.trip A))] ∧ ds = [(.list (cells.map PyData.int), v1)] ∧ totR rs + rs.length ≤ 12 ∧ 1 ≤ rs.length ∧ ∀ r ∈ rs, r.Ok) S2
    ⟨[r1], none, none, none, by rw [show totR [r1] = 1 by show [r1.size].sum = 1; simp [h1.1]]; rfl, rfl, rfl, by rw [show totR [r1] = 1 by show [r1.size].sum = 1; simp [h1.1]]; simp, by simp, fun r hr => by cases List.mem_singleton.mp hr; exact h1.2⟩ (fun i σ cs ds h => ?_) ?_ ?_
  · obtain ⟨_, _, _, _, _, _, rfl, _⟩ := h
    exact .mem (by walk_at "mem")
  · rintro i x v σ H3 cs ds hx ⟨rs, x4, x5, x6, rfl, rfl, rfl, hsum, hlen, hoks⟩ S3
    obtain ⟨c, hc, rfl⟩ := mapAt hx
    cases S3.int1
    have S3 := S3.drop1
    -- a pile, whatever it is
    have fin : ∀ (ls : List Rl) (σ' : L2.St) (H5 : Hp) (y4 y5 y6 : Option V) (ds' : Dat), σ' = [some v1, some (.int g), some (.ref p2), some (.int (totR ls : Nat)), y4, y5, y6, none] → totR ls + ls.length ≤ 12 → 1 ≤ ls.length → (∀ r ∈ ls, r.Ok) → Sta H G H5 [(p2, ls.map (Rl.trip A))] ds' → (∀ p ∈ [((PyData.list (cells.map PyData.int), v1) : PyData × V)], Has ds' p.1 p.2) →
        AtP H G (fun σ cs ds => ∃ (rs : List Rl) (x4 x5 x6 : Option V), σ = [some v1, some (.int g), some (.ref p2), some (.int (totR rs : Nat)), x4, x5, x6, none] ∧ cs = [(p2, rs.map (Rl.trip A))] ∧ ds = [(.list (cells.map PyData.int), v1)] ∧ totR rs + rs.length ≤ 12 ∧ 1 ≤ rs.length ∧ ∀ r ∈ rs, r.Ok) σ' H5 := by
      rintro ls σ' H5 y4 y5 y6 ds' rfl h1 h2 h3 S5 hd
      exact rd_at (S5.dat hd) ⟨ls, y4, y5, y6, rfl, rfl, rfl, h1, h2, h3⟩
    have szs : ∀ r ∈ rs, r.size ≤ 12 := fun r hr => by
      have := mem_tot hr
      omega
    walk_at "walk"
    refine rd_mixl S3 fun wx H4 a0 a1 a2 a3 e4 S4 => ?_
    walk_at "walk"
    refine' rd_ifand (fun h => ?_) (fun cc => ?_) (fun cc => ?_)
    rotate_left
    · walk_at "walk"
      exact h
    · rw [Bool.and_eq_true, decide_eq_true_eq, decide_eq_true_eq, List.length_map] at cc
      obtain ⟨ls, ra, rb, rfl⟩ : ∃ ls ra rb, rs = ls ++ [ra] ++ [rb] := by
        refine ⟨rs.dropLast.dropLast, rs.dropLast.getLast (fun z => ?_), rs.getLast (fun z => ?_), ?_⟩
        · have := congrArg List.length z
          rw [List.length_dropLast, List.length_nil] at this
          omega
        · rw [z, List.length_nil] at hlen
          omega
        · rw [List.dropLast_concat_getLast, List.dropLast_concat_getLast]
      have oa := hoks ra (by simp)
      have ob := hoks rb (by simp)
      have za := szs ra (by simp)
      have zb := szs rb (by simp)
      rw [totR_snoc, totR_snoc] at hsum
      rw [List.length_append, List.length_append, List.length_singleton, List.length_singleton] at hsum
      have S4 : Sta H G H4 [(p2, (ls ++ [ra]).map (Rl.trip A) ++ [rb.trip A])] [(.list [.int a0, .int a1, .int a2, .int a3], wx), (.list (cells.map PyData.int), v1)] := by
        rw [List.map_append] at S4
        exact S4
      walk_at "walk"
      refine rd_pop S4 fun vb H5 S5 => ?_
      have S5 : Sta H G H5 [(p2, ls.map (Rl.trip A) ++ [ra.trip A])] [(rb.trip A, vb), (.list [.int a0, .int a1, .int a2, .int a3], wx), (.list (cells.map PyData.int), v1)] := by
        rw [List.map_append] at S5
        exact S5
      walk_at "walk"
      refine rd_port S5 ⟨by omega, by omega⟩ fun wp H6 t u e6 S6 ht hu => ?_
      walk_at "walk"
      refine rd_pop S6 fun va H7 S7 => ?_
      walk_at "walk"
      refine rd_rl (α := Int × (Int × Int) × Rl × Rl) (a1, (t, u), ra, rb) S7 (HasAll.cons Has.int (HasAll.cons (.mem (by walk_at "mem")) (HasAll.cons (.mem (by walk_at "mem")) (HasAll.cons (.mem (by walk_at "mem")) HasAll.nil)))) ⟨⟨ht, hu⟩, ⟨oa, za⟩, ob, zb⟩ fun vr H8 r e8 S8 hg => ?_
      try dsimp only at hg
      walk_at "walk"
      refine rd_append S8 (.mem (List.Mem.head _)) (by rw [List.length_map]; omega) fun H9 S9 => ?_
      walk_at "walk"
      rw [show ls.map (Rl.trip A) ++ [r.trip A] = (ls ++ [r]).map (Rl.trip A) by rw [List.map_append]; rfl] at S9
      refine fin (ls ++ [r]) _ H9 (some (.int c)) (some wx) (some vb) _ ?_ ?_ ?_ ?_ S9 (by walk_at "dats")
      · rw [show ((totR (ls ++ [r]) : Nat) : Int) = ((totR (ls ++ [ra] ++ [rb]) : Nat) : Int) + 1 by rw [totR_snoc, totR_snoc, totR_snoc, hg.1]; omega]
        rfl
      · rw [totR_snoc, List.length_append, List.length_singleton, hg.1]
        omega
      · simp
      · intro z hz
        rcases List.mem_append.mp hz with h | h
        · exact hoks z (by simp [h])
        · cases List.mem_singleton.mp h
          exact hg.2
    · walk_at "walk"
      refine' rd_ifand (fun h => ?_) (fun c2 => ?_) (fun c2 => ?_)
      rotate_left
      · walk_at "walk"
        exact h
      · rw [Bool.and_eq_true, decide_eq_true_eq, List.length_map] at c2
        walk_at "walk"
        refine rd_rl (α := Int) a1 S4 (HasAll.cons Has.int HasAll.nil) trivial fun vr H8 r e8 S8 hg => ?_
        try dsimp only at hg
        walk_at "walk"
        refine rd_append S8 (.mem (List.Mem.head _)) (by rw [List.length_map]; omega) fun H9 S9 => ?_
        walk_at "walk"
        rw [show rs.map (Rl.trip A) ++ [r.trip A] = (rs ++ [r]).map (Rl.trip A) by rw [List.map_append]; rfl] at S9
        refine fin (rs ++ [r]) _ H9 (some (.int c)) (some wx) x6 _ ?_ ?_ ?_ ?_ S9 (by walk_at "dats")
        · rw [show ((totR (rs ++ [r]) : Nat) : Int) = ((totR rs : Nat) : Int) + 1 by rw [totR_snoc, hg.1]; omega]
          rfl
        · rw [totR_snoc, List.length_append, List.length_singleton, hg.1]
          omega
        · simp
        · intro z hz
          rcases List.mem_append.mp hz with h | h
          · exact hoks z h
          · cases List.mem_singleton.mp h
            exact hg.2
      · walk_at "walk"
        refine iteD (fun c3 => ?_) (fun c3 => ?_)
        · rw [List.length_map] at c3
          obtain ⟨ls, ra, rfl⟩ : ∃ ls ra, rs = ls ++ [ra] := ⟨rs.dropLast, rs.getLast (fun z => by rw [z, List.length_nil] at hlen; omega), (List.dropLast_concat_getLast _).symm⟩
          have oa := hoks ra (by simp)
          have za := szs ra (by simp)
          rw [totR_snoc, List.length_append, List.length_singleton] at hsum c3
          have S4 : Sta H G H4 [(p2, ls.map (Rl.trip A) ++ [ra.trip A])] [(.list [.int a0, .int a1, .int a2, .int a3], wx), (.list (cells.map PyData.int), v1)] := by
            rw [List.map_append] at S4
            exact S4
          walk_at "walk"
          refine rd_pop S4 fun va H7 S7 => ?_
          walk_at "walk"
          refine rd_rl (α := Int × Rl) (a1, ra) S7 (HasAll.cons Has.int (HasAll.cons (.mem (by walk_at "mem")) HasAll.nil)) ⟨oa, za⟩ fun vr H8 r e8 S8 hg => ?_
          try dsimp only at hg
          walk_at "walk"
          refine rd_append S8 (.mem (List.Mem.head _)) (by rw [List.length_map]; omega) fun H9 S9 => ?_
          walk_at "walk"
          rw [show ls.map (Rl.trip A) ++ [r.trip A] = (ls ++ [r]).map (Rl.trip A) by rw [List.map_append]; rfl] at S9
          refine fin (ls ++ [r]) _ H9 (some (.int c)) (some wx) x6 _ ?_ ?_ ?_ ?_ S9 (by walk_at "dats")
          · rw [show ((totR (ls ++ [r]) : Nat) : Int) = ((totR (ls ++ [ra]) : Nat) : Int) + 1 by rw [totR_snoc, totR_snoc, hg.1]; omega]
            rfl
          · rw [totR_snoc, List.length_append, List.length_singleton, hg.1]
            omega
          · simp
          · intro z hz
            rcases List.mem_append.mp hz with h | h
            · exact hoks z (by simp [h])
            · cases List.mem_singleton.mp h
              exact hg.2
        · walk_at "walk"
          exact fin rs _ H4 _ _ _ _ rfl hsum hlen hoks S4 (by walk_at "dats")
  · rintro σ H3 cs ds ⟨rs, x4, x5, x6, rfl, rfl, rfl, hsum, hlen, hoks⟩ S3
    walk_at "walk"
    refine while_sta (fun m σ cs ds => ∃ (rs : List Rl) (x4 x5 x6 x7 x8 : Option V), σ = [some v1, some (.int g), some (.ref p2), x8, x4, x5, x6, x7] ∧ cs = [(p2, rs.map (Rl.trip A))] ∧ ds = [(.list (cells.map PyData.int), v1)] ∧ totR rs + rs.length ≤ 12 ∧ 1 ≤ rs.length ∧ (∀ r ∈ rs, r.Ok) ∧ m = rs.length) _ S3 ⟨rs, _, _, _, _, _, rfl, rfl, rfl, hsum, hlen, hoks, rfl⟩ ?_
    clear hsum hlen hoks S3 x4 x5 x6 rs
    rintro m σ H3 cs ds ⟨rs, x4, x5, x6, x7, x8, rfl, rfl, rfl, hsum, hlen, hoks, rfl⟩ S3
    walk_at "walk"
    refine rd_wh (fun c => ?_) (fun c => ?_)
    · have c : 1 < rs.length := by
        have : (1 : Int) < (rs.length : Int) := by simpa using c
        omega
      have szs : ∀ r ∈ rs, r.size ≤ 12 := fun r hr => by
        have := mem_tot hr
        omega
      obtain ⟨ls, ra, rb, rfl⟩ : ∃ ls ra rb, rs = ls ++ [ra] ++ [rb] := by
        refine ⟨rs.dropLast.dropLast, rs.dropLast.getLast (fun z => ?_), rs.getLast (fun z => ?_), ?_⟩
        · have := congrArg List.length z
          rw [List.length_dropLast, List.length_nil] at this
          omega
        · rw [z, List.length_nil] at hlen
          omega
        · rw [List.dropLast_concat_getLast, List.dropLast_concat_getLast]
      have oa := hoks ra (by simp)
      have ob := hoks rb (by simp)
      have za := szs ra (by simp)
      have zb := szs rb (by simp)
      rw [totR_snoc, totR_snoc] at hsum
      rw [List.length_append, List.length_append, List.length_singleton, List.length_singleton] at hsum
      have S3 : Sta H G H3 [(p2, (ls ++ [ra]).map (Rl.trip A) ++ [rb.trip A])] [(.list (cells.map PyData.int), v1)] := by
        rw [List.map_append] at S3
        exact S3
      walk_at "walk"
      refine rd_pop S3 fun vb H5 S5 => ?_
      have S5 : Sta H G H5 [(p2, ls.map (Rl.trip A) ++ [ra.trip A])] [(rb.trip A, vb), (.list (cells.map PyData.int), v1)] := by
        rw [List.map_append] at S5
        exact S5
      walk_at "walk"
      refine rd_port S5 ⟨by
        exact Int.emod_nonneg _ (by decide), by
        have := Int.emod_lt_of_pos (g / 2) (show (0 : Int) < 10 ^ Int.toNat 60 - 2 by decide)
        have e : (10 : Int) ^ Int.toNat 60 = 10 ^ 60 := rfl
        rw [e] at this ⊢
        omega⟩ fun wp H6 t u e6 S6 ht hu => ?_
      refine rd_name (rd_nx ?_)
      refine seq_cut' (AtP H G (fun σ cs ds => ∃ (t u : Int) (y : V), σ = [some v1, some (.int g), some (.ref p2), x8, x4, x5, some vb, some y] ∧ cs = [(p2, ls.map (Rl.trip A) ++ [ra.trip A])] ∧ ds = [(.tuple [.int t, .int u], y), (rb.trip A, vb), (.list (cells.map PyData.int), v1)] ∧ Sz 210 t ∧ Sz 210 u)) ?_ (fun nxt => ?_)
      · rintro σ' H7 ⟨cs, ds, S7, t, u, y, rfl, rfl, rfl, ht, hu⟩
        walk_at "walk"
        refine rd_pop S7 fun va H8 S8 => ?_
        walk_at "walk"
        refine rd_rl (α := Int × (Int × Int) × Rl × Rl) (_, (t, u), ra, rb) S8 (HasAll.cons Has.int (HasAll.cons (.mem (by walk_at "mem")) (HasAll.cons (.mem (by walk_at "mem")) (HasAll.cons (.mem (by walk_at "mem")) HasAll.nil)))) ⟨⟨ht, hu⟩, ⟨oa, za⟩, ob, zb⟩ fun vr H9 r e9 S9 hg => ?_
        try dsimp only at hg
        walk_at "walk"
        refine rd_append S9 (.mem (List.Mem.head _)) (by rw [List.length_map]; omega) fun H10 S10 => ?_
        walk_at "walk"
        rw [show ls.map (Rl.trip A) ++ [r.trip A] = (ls ++ [r]).map (Rl.trip A) by rw [List.map_append]; rfl] at S10
        refine ⟨ls.length + 1, by simp, _, _, S10.dat (by walk_at "dats"), ls ++ [r], _, _, _, _, _, rfl, rfl, rfl, ?_, ?_, ?_, by simp⟩
        · rw [totR_snoc, List.length_append, List.length_singleton, hg.1]
          omega
        · simp
        · intro z hz
          rcases List.mem_append.mp hz with h | h
          · exact hoks z (by simp [h])
          · cases List.mem_singleton.mp h
            exact hg.2
      · walk_at "walk"
        refine iteD (fun c5 => ?_) (fun c5 => ?_)
        · walk_at "walk"
          refine rd_port S6 ⟨by omega, by omega⟩ fun wq H7 t' u' e7 S7 ht' hu' => ?_
          refine rd_name (rd_nx ?_)
          exact nxt _ _ ⟨_, _, S7.dat (by walk_at "dats"), t', u', wq, rfl, rfl, rfl, ht', hu'⟩
        · refine rd_next (rd_nx ?_)
          exact nxt _ _ ⟨_, _, S6.dat (by walk_at "dats"), t, u, wp, rfl, rfl, rfl, ht, hu⟩
    · have c : ¬ 1 < rs.length := by
        have : ¬ (1 : Int) < (rs.length : Int) := by simpa using c
        omega
      obtain ⟨r, rfl⟩ : ∃ r, rs = [r] := by
        match rs, hlen, c with
        | [r], _, _ => exact ⟨r, rfl⟩
        | _ :: _ :: _, _, c => exact absurd (by simp) c
      walk_at "walk"
      refine rd_ixC (x := r.trip A) S3 (by walk_at "mem") rfl fun wr S4 => ?_
      refine ret_Rl (r := r) S4 k (.mem (by walk_at "mem")) ⟨?_, hoks r (by simp)⟩
      have : totR [r] = r.size := by show [r.size].sum = _; simp
      rw [this, List.length_singleton] at hsum
      omega
end

section
variable {A : RAd}
abbrev s_law : Stmt := top 23
theorem sc_law : FnScope ["_law_script", "_law_cells", "_law_first", "_law_second", "_law_both", "_law_rule", "_law_shape", "_law_text", "_law_told"] ["_law_script"] (defScope s_law) := ⟨rfl, rfl, rfl, by decide +kernel, rfl, by decide +kernel, by decide +kernel⟩
theorem ok_law {fS fT c_Rule : Addr} {fdS fdT : FuncData} (B : Bl mg) (okA : ∀ r : Rl, ROk K fS fT c_Rule (A.cls r)) (g_Rule : mg "Rule" = some (.ref c_Rule)) (F_Rule_shape : FnOk P w K mg base CX0 1 fS fdS ["self"] (spShape A)) (b_Rule_shape : Binds K fdS ["self"] []) (F_Rule_text : FnOk P w K mg base CX0 15 fT fdT ["self"] (spText A 12)) (b_Rule_text : Binds K fdT ["self"] [])
    (mOther : Maker P w K mg base "Other" (A.cls (.other .shares)) ["self", "inner"] (spInit (A.cls (.other .shares)) (α := Rl) (fun r => [r.ins A]) (fun r => (Rl.other r).shape))) (C_law_cell_at : Cal P w K mg base CX0 1 "_law_cell_at" ["_law_script", "_law_k"] (spCell K)) (C_law_built : Cal P w K mg base CX0 5 "_law_built" ["_law_cells", "_law_great"] (spBuilt A)) (C_law_same : Cal P w K mg base CX0 15 "_law_same" ["_law_found", "_law_due"] (spSame 14)) (F : Fun K "law" "law" s_law f fd) : FnOk P w K mg base CX0 16 f fd ["_law_script"] (spLaw K) := by
  obtain ⟨f_Other, fd_Other, MK_Other, F_Other__init, b_Other__init, g_Other⟩ := mOther
  refine F.ok sc_law (fun vs H Q E h => ?_) (fun cdv A' outer s H vs Q E hr h => ?_)
  · obtain ⟨a, ns, rfl, _⟩ := h
    rfl
  obtain ⟨a, ns, rfl, hS, hlen, _, q⟩ := h
  have S : Sta H H H [] [] := Sta.enter (Same.refl _) fun p hp => absurd hp List.not_mem_nil
  refine ⟨_, (pss_cons (ps_set (i := 1) sc_law.nd rfl (by first | exact Or.inl rfl | exact Or.inr rfl) (pe_slice sl_list (pv 0) (po_some pe_int) (po_some pe_int))) (pss_cons (ps_set (i := 2) sc_law.nd rfl (by first | exact Or.inl rfl | exact Or.inr rfl) (pe_cal C_law_built hr (by first | decide | exact Nat.le_refl _ | omega) pass0 rfl (pa_cons (pv 1) (pa_cons (pe_cal C_law_cell_at hr (by first | decide | exact Nat.le_refl _ | omega) pass0 rfl (pa_cons (pv 0) (pa_cons pe_int pa_nil))) pa_nil)))) (pss_cons (ps_set (i := 3) sc_law.nd rfl (by first | exact Or.inl rfl | exact Or.inr rfl) (pe_cal C_law_built hr (by first | decide | exact Nat.le_refl _ | omega) pass0 rfl (pa_cons (pe_rev (pv 1)) (pa_cons (pe_cal C_law_cell_at hr (by first | decide | exact Nat.le_refl _ | omega) pass0 rfl (pa_cons (pv 0) (pa_cons pe_int pa_nil))) pa_nil)))) (pss_cons (ps_set (i := 4) sc_law.nd rfl (by first | exact Or.inl rfl | exact Or.inr rfl) (pe_make MK_Other (F_Other__init.mono (by first | decide | exact Nat.le_refl _ | omega)) hr rfl g_Other b_Other__init .nil pass0 (pa_cons (pe_ix ix_seq (pv 2) pe_int (fun _ _ => rfl)) pa_nil))) (pss_cons (ps_for PassesOwn.never rfl (pi_list (pe_lst (pa_cons (pv 2) (pa_cons (pv 3) (pa_cons (pv 2) (pa_cons (pe_tup (pa_cons (pv 4) (pa_cons (pe_tup (pa_cons pe_str (pa_cons (pe_ix ix_seq (pv 2) pe_int (fun _ _ => rfl)) pa_nil))) (pa_cons (pe_op op_addS (pe_op op_addS pe_str (pe_ix ix_seq (pv 2) pe_int (fun _ _ => rfl))) pe_str) pa_nil)))) (pa_cons (pv 2) pa_nil))))))) (pg_tup rfl (pgs_cons (pg_name (i := 5) sc_law.nd rfl (by first | exact Or.inl rfl | exact Or.inr rfl)) (pgs_cons (pg_name (i := 6) sc_law.nd rfl (by first | exact Or.inl rfl | exact Or.inr rfl)) (pgs_cons (pg_name (i := 7) sc_law.nd rfl (by first | exact Or.inl rfl | exact Or.inr rfl)) pgs_nil)))) (pss_cons (ps_if (PW.pt (pw_or (pt_not (pt_val (pe_callB call_isC rfl B.isinstance bt_isinstance (pa_cons (pv 5) (pa_cons (pe_glob (v := .ref c_Rule) rfl g_Rule rfl) pa_nil))))) (pw_or1 (pt_not (pt_val (pe_cal C_law_same hr (by first | decide | exact Nat.le_refl _ | omega) pass0 rfl (pa_cons (pe_methA (pv 5) (F_Rule_shape.mono (by first | decide | exact Nat.le_refl _ | omega)) hr b_Rule_shape pass0) (pa_cons (pv 6) pa_nil)))))))) (pss_one (ps_ret pe_bl)) pss_nil) (pss_cons (ps_set (i := 8) sc_law.nd rfl (by first | exact Or.inl rfl | exact Or.inr rfl) (pe_methA (pv 5) (F_Rule_text.mono (by first | decide | exact Nat.le_refl _ | omega)) hr b_Rule_text pass0)) (pss_one (ps_if (PW.pt (pw_or (pt_not (pt_val (pe_callB call_isi rfl B.isinstance bt_isinstance (pa_cons (pv 8) (pa_cons (pe_bltn (v := .ty "str") rfl B.str bt_str rfl) pa_nil))))) (pw_or1 (pt_cmpR (op_neA (units_of hr)) (pv 8) (pv 7) (nomark _))))) (pss_one (ps_ret pe_bl)) pss_nil))))) (pss_one (ps_ret pe_bl))))))), rd_start ?_⟩
  walk_at "walk"
  refine rd_slS S hS fun l1 H1 e1 S1 => ?_
  have hcl : (cutI ns (some 3) (some 63)).length ≤ 63 := by unfold cutI; rw [List.length_take, List.length_drop]; omega
  generalize cutI ns (some 3) (some 63) = cells at *
  have S2 := S1.freeze
  have hS2 : SqL K H1 a (ns.map V.int) := S2.base.seq hS
  walk_at "walk"
  refine rd_rl (α := List Int × Int) (cells, cellAt ns 0) S2 (HasAll.cons (.mem (by walk_at "mem")) (HasAll.cons Has.int HasAll.nil)) (by show cells.length ≤ 1000; omega) fun w3 H3 r1 e3 S3 h1 => ?_
  walk_at "walk"
  refine rd_kRevL (xs := cells.map PyData.int) S3 (.mem (by walk_at "mem")) fun l4 H4 e4 S4 => ?_
  rw [← List.map_reverse] at S4
  have S5 := S4.freeze
  have hS5 : SqL K H4 a (ns.map V.int) := S5.base.seq hS
  walk_at "walk"
  refine rd_rl (α := List Int × Int) (cells.reverse, cellAt ns 1) S5 (HasAll.cons (.mem (by walk_at "mem")) (HasAll.cons Has.int HasAll.nil)) (by show cells.reverse.length ≤ 1000; rw [List.length_reverse]; omega) fun w6 H6 r2 e6 S6 h2 => ?_
  have lr : r1.text.length ≤ 48000 := Nat.le_trans (r1.text_len h1.2) (by omega)
  have lo1 : ("other(" : Str).length = 6 := by decide +kernel
  have lo3 : (")" : Str).length = 1 := by decide +kernel
  have S6 : Sta H H H6 [] [(r2.trip A, w6), (r1.trip A, w3)] := S6.dat (by walk_at "dats")
  walk_at "walk"
  rename_i w7 S7
  refine rd_kMake r1 S7 (HasAll.cons (.mem (by walk_at "mem")) HasAll.nil) fun x8 H8 e8 S8 => ?_
  walk_at "walk"
  rename_i p13 H13 e13 S13
  have S14 : Sta H H H13 [] [(.list ([r1, r2, r1, .other r1, r1].map (Rl.trip A)), .ref p13)] := S13.freeze.dat (by walk_at "dats")
  have hall : ∀ r ∈ [r1, r2, r1, .other r1, r1], r.Ok ∧ r.size ≤ 12 := by
    intro r hr
    simp at hr
    rcases hr with rfl | rfl | rfl | rfl | rfl
    · exact ⟨h1.2, by omega⟩
    · exact ⟨h2.2, by omega⟩
    · exact ⟨h1.2, by omega⟩
    · exact ⟨h1.2, by show r1.size + 1 ≤ 12; omega⟩
    · exact ⟨h1.2, by omega⟩
  generalize [r1, r2, r1, .other r1, r1] = L at *
  refine rd_kILd (xs := L.map (Rl.trip A)) S14 (.mem (by walk_at "mem")) fun J wk => ?_
  refine for_wk wk (fun t σ cs ds => ∃ (y5 y6 y7 y8 : Option V), σ = [some (.ref a), some (.ref l1), some w3, some w6, some (.ref x8), y5, y6, y7, y8] ∧ cs = [] ∧ ds = [(.list (L.map (Rl.trip A)), .ref p13)]) S14 ⟨none, none, none, none, rfl, rfl, rfl⟩ (fun t σ cs ds h => ?_) ?_ ?_
  · obtain ⟨_, _, _, _, _, _, rfl⟩ := h
    exact .mem (by walk_at "mem")
  · rintro t x u σ H15 cs ds hx ⟨y5, y6, y7, y8, rfl, rfl, rfl⟩ S15
    obtain ⟨r, hr, rfl⟩ := mapAt hx
    obtain ⟨ok, sz⟩ := hall r (List.mem_of_getElem? hr)
    have dp : r.deep ≤ 12 := Nat.le_trans r.deep_le sz
    walk_at "walk"
    refine rd_kGT3 (x := r.ins A) (y := r.shape) (z := .str r.text) S15 (.mem (by walk_at "mem")) fun u1 u2 u3 S16 => ?_
    cases (S16.hp (x := .str r.text) (v := u3) (.mem (by walk_at "mem"))).str_of
    walk_at "walk"
    refine rd_isC S16 (.mem (by walk_at "mem")) (okA r) ?_
    walk_at "walk"
    refine rd_kMS S16 (.mem (by walk_at "mem")) (okA r) ?_
    refine rd_shape S16 (.mem (by walk_at "mem")) fun w17 H17 e17 S17 => ?_
    walk_at "walk"
    refine rd_spB (α := PyData) r.shape (S17.hpAll (HasAll.cons (.mem (by walk_at "mem")) (HasAll.cons (.mem (by walk_at "mem")) HasAll.nil))) (plain_shape r 12 dp) fun H18 e18 => ?_
    have S18 := S17.same e18
    walk_at "walk"
    refine rd_kMT S18 (.mem (by walk_at "mem")) (okA r) ?_
    refine rd_text S18 (.mem (by walk_at "mem")) ok sz dp fun H19 S19 => ?_
    walk_at "walk"
    refine rd_isi (d := .str r.text) (by rw [Is]) kit_ss ?_ rfl
    walk_at "walk"
    rw [decide_eq_true rfl]
    walk_at "walk"
    exact rd_at (S19.dat (by walk_at "dats")) ⟨_, _, _, _, rfl, rfl, rfl⟩
  · rintro σ H15 cs ds ⟨y5, y6, y7, y8, rfl, rfl, rfl⟩ S15
    walk_at "walk"
    exact q _
end
end
theorem all_mk {l : PySem.W.OpenLaw} {w : World} {K : PySem.W.Frag} {h : Heap} {mg : Str → Option Value} {fa : Addr} (X : K.In h) (G : h.Ns mainGlobals mg) (hfa : mg "law" = some (.ref fa))
    {f1 f2 f3 f4 f5 f6 f7 f8 f9 f10 f11 f12 : Addr} {od1 od2 od3 od4 od5 od6 od7 od8 od9 od10 od11 od12 an1 an2 an3 an4 an5 an6 an7 an8 an9 an10 an11 an12 : Option Addr} {sl1 sl2 sl3 sl4 sl5 sl6 sl7 sl8 sl9 sl10 sl11 sl12 : Array (Option Value)} {oc1 oc2 oc3 oc4 oc5 oc6 oc7 oc8 oc9 oc10 oc11 oc12 kV1 kV2 kV3 kV4 kV5 kV6 kV7 kV8 kV9 kV10 kV11 kV12 dc1 dc2 dc3 dc4 dc5 dc6 dc7 dc8 dc9 dc10 dc11 dc12 pm1 pm2 pm3 pm4 pm5 pm6 pm7 pm8 pm9 pm10 pm11 pm12 cd1 cd2 cd3 cd4 cd5 cd6 cd7 cd8 cd9 cd10 cd11 cd12 ct1 ct2 ct3 ct4 ct5 ct6 ct7 ct8 ct9 ct10 ct11 ct12 : Value}
    (a1 : PySem.W.nsIn K mainGlobals "text_of" = some (some (.ref f1))) (l1 : K.lookup f1 = some ⟨oc1, od1, .func (PySem.W.fnOf "text_of" "text_of" (defArgs s_text_of) (defBody s_text_of) (defScope s_text_of) .none kV1 dc1 pm1 an1 cd1 ct1), sl1⟩) (c1 : PySem.W.codeIn K cd1 "text_of" = true) (k1 : PySem.W.keepIn K (.ref f1) = true)
    (a2 : PySem.W.nsIn K mainGlobals "portion_text" = some (some (.ref f2))) (l2 : K.lookup f2 = some ⟨oc2, od2, .func (PySem.W.fnOf "portion_text" "portion_text" (defArgs s_portion_text) (defBody s_portion_text) (defScope s_portion_text) .none kV2 dc2 pm2 an2 cd2 ct2), sl2⟩) (c2 : PySem.W.codeIn K cd2 "portion_text" = true) (k2 : PySem.W.keepIn K (.ref f2) = true)
    (a3 : PySem.W.nsIn K mainGlobals "_law_cell_at" = some (some (.ref f3))) (l3 : K.lookup f3 = some ⟨oc3, od3, .func (PySem.W.fnOf "_law_cell_at" "_law_cell_at" (defArgs s_law_cell_at) (defBody s_law_cell_at) (defScope s_law_cell_at) .none kV3 dc3 pm3 an3 cd3 ct3), sl3⟩) (c3 : PySem.W.codeIn K cd3 "_law_cell_at" = true) (k3 : PySem.W.keepIn K (.ref f3) = true)
    (a4 : PySem.W.nsIn K mainGlobals "_law_divisor" = some (some (.ref f4))) (l4 : K.lookup f4 = some ⟨oc4, od4, .func (PySem.W.fnOf "_law_divisor" "_law_divisor" (defArgs s_law_divisor) (defBody s_law_divisor) (defScope s_law_divisor) .none kV4 dc4 pm4 an4 cd4 ct4), sl4⟩) (c4 : PySem.W.codeIn K cd4 "_law_divisor" = true) (k4 : PySem.W.keepIn K (.ref f4) = true)
    (a5 : PySem.W.nsIn K mainGlobals "_law_mixed" = some (some (.ref f5))) (l5 : K.lookup f5 = some ⟨oc5, od5, .func (PySem.W.fnOf "_law_mixed" "_law_mixed" (defArgs s_law_mixed) (defBody s_law_mixed) (defScope s_law_mixed) .none kV5 dc5 pm5 an5 cd5 ct5), sl5⟩) (c5 : PySem.W.codeIn K cd5 "_law_mixed" = true) (k5 : PySem.W.keepIn K (.ref f5) = true)
    (a6 : PySem.W.nsIn K mainGlobals "_law_portion" = some (some (.ref f6))) (l6 : K.lookup f6 = some ⟨oc6, od6, .func (PySem.W.fnOf "_law_portion" "_law_portion" (defArgs s_law_portion) (defBody s_law_portion) (defScope s_law_portion) .none kV6 dc6 pm6 an6 cd6 ct6), sl6⟩) (c6 : PySem.W.codeIn K cd6 "_law_portion" = true) (k6 : PySem.W.keepIn K (.ref f6) = true)
    (a7 : PySem.W.nsIn K mainGlobals "_law_leaf" = some (some (.ref f7))) (l7 : K.lookup f7 = some ⟨oc7, od7, .func (PySem.W.fnOf "_law_leaf" "_law_leaf" (defArgs s_law_leaf) (defBody s_law_leaf) (defScope s_law_leaf) .none kV7 dc7 pm7 an7 cd7 ct7), sl7⟩) (c7 : PySem.W.codeIn K cd7 "_law_leaf" = true) (k7 : PySem.W.keepIn K (.ref f7) = true)
    (a8 : PySem.W.nsIn K mainGlobals "_law_lone" = some (some (.ref f8))) (l8 : K.lookup f8 = some ⟨oc8, od8, .func (PySem.W.fnOf "_law_lone" "_law_lone" (defArgs s_law_lone) (defBody s_law_lone) (defScope s_law_lone) .none kV8 dc8 pm8 an8 cd8 ct8), sl8⟩) (c8 : PySem.W.codeIn K cd8 "_law_lone" = true) (k8 : PySem.W.keepIn K (.ref f8) = true)
    (a9 : PySem.W.nsIn K mainGlobals "_law_pair" = some (some (.ref f9))) (l9 : K.lookup f9 = some ⟨oc9, od9, .func (PySem.W.fnOf "_law_pair" "_law_pair" (defArgs s_law_pair) (defBody s_law_pair) (defScope s_law_pair) .none kV9 dc9 pm9 an9 cd9 ct9), sl9⟩) (c9 : PySem.W.codeIn K cd9 "_law_pair" = true) (k9 : PySem.W.keepIn K (.ref f9) = true)
    (a10 : PySem.W.nsIn K mainGlobals "_law_built" = some (some (.ref f10))) (l10 : K.lookup f10 = some ⟨oc10, od10, .func (PySem.W.fnOf "_law_built" "_law_built" (defArgs s_law_built) (defBody s_law_built) (defScope s_law_built) .none kV10 dc10 pm10 an10 cd10 ct10), sl10⟩) (c10 : PySem.W.codeIn K cd10 "_law_built" = true) (k10 : PySem.W.keepIn K (.ref f10) = true)
    (a11 : PySem.W.nsIn K mainGlobals "_law_same" = some (some (.ref f11))) (l11 : K.lookup f11 = some ⟨oc11, od11, .func (PySem.W.fnOf "_law_same" "_law_same" (defArgs s_law_same) (defBody s_law_same) (defScope s_law_same) .none kV11 dc11 pm11 an11 cd11 ct11), sl11⟩) (c11 : PySem.W.codeIn K cd11 "_law_same" = true) (k11 : PySem.W.keepIn K (.ref f11) = true)
    (a12 : PySem.W.nsIn K mainGlobals "law" = some (some (.ref f12))) (l12 : K.lookup f12 = some ⟨oc12, od12, .func (PySem.W.fnOf "law" "law" (defArgs s_law) (defBody s_law) (defScope s_law) .none kV12 dc12 pm12 an12 cd12 ct12), sl12⟩) (c12 : PySem.W.codeIn K cd12 "law" = true) (k12 : PySem.W.keepIn K (.ref f12) = true)
    {c_Rule c_Shares c_Evenly c_Losses c_Halves c_Other c_Ranks c_Groups c_Upto : Addr} {f_Rule___init__ f_Rule_shape f_Rule_text f_Shares___init__ f_Evenly___init__ f_Losses___init__ f_Halves___init__ f_Other___init__ f_Ranks___init__ f_Groups___init__ f_Upto___init__ : Addr} {od_Rule___init__ an_Rule___init__ od_Rule_shape an_Rule_shape od_Rule_text an_Rule_text od_Shares___init__ an_Shares___init__ od_Evenly___init__ an_Evenly___init__ od_Losses___init__ an_Losses___init__ od_Halves___init__ an_Halves___init__ od_Other___init__ an_Other___init__ od_Ranks___init__ an_Ranks___init__ od_Groups___init__ an_Groups___init__ od_Upto___init__ an_Upto___init__ : Option Addr} {sl_Rule___init__ sl_Rule_shape sl_Rule_text sl_Shares___init__ sl_Evenly___init__ sl_Losses___init__ sl_Halves___init__ sl_Other___init__ sl_Ranks___init__ sl_Groups___init__ sl_Upto___init__ : Array (Option Value)} {oc_Rule___init__ kV_Rule___init__ dc_Rule___init__ pm_Rule___init__ cd_Rule___init__ ct_Rule___init__ oc_Rule_shape kV_Rule_shape dc_Rule_shape pm_Rule_shape cd_Rule_shape ct_Rule_shape oc_Rule_text kV_Rule_text dc_Rule_text pm_Rule_text cd_Rule_text ct_Rule_text oc_Shares___init__ kV_Shares___init__ dc_Shares___init__ pm_Shares___init__ cd_Shares___init__ ct_Shares___init__ oc_Evenly___init__ kV_Evenly___init__ dc_Evenly___init__ pm_Evenly___init__ cd_Evenly___init__ ct_Evenly___init__ oc_Losses___init__ kV_Losses___init__ dc_Losses___init__ pm_Losses___init__ cd_Losses___init__ ct_Losses___init__ oc_Halves___init__ kV_Halves___init__ dc_Halves___init__ pm_Halves___init__ cd_Halves___init__ ct_Halves___init__ oc_Other___init__ kV_Other___init__ dc_Other___init__ pm_Other___init__ cd_Other___init__ ct_Other___init__ oc_Ranks___init__ kV_Ranks___init__ dc_Ranks___init__ pm_Ranks___init__ cd_Ranks___init__ ct_Ranks___init__ oc_Groups___init__ kV_Groups___init__ dc_Groups___init__ pm_Groups___init__ cd_Groups___init__ ct_Groups___init__ oc_Upto___init__ kV_Upto___init__ dc_Upto___init__ pm_Upto___init__ cd_Upto___init__ ct_Upto___init__ : Value} (x_Rule : PySem.W.nsIn K mainGlobals "Rule" = some (some (.ref c_Rule))) (x_Shares : PySem.W.nsIn K mainGlobals "Shares" = some (some (.ref c_Shares))) (x_Evenly : PySem.W.nsIn K mainGlobals "Evenly" = some (some (.ref c_Evenly))) (x_Losses : PySem.W.nsIn K mainGlobals "Losses" = some (some (.ref c_Losses))) (x_Halves : PySem.W.nsIn K mainGlobals "Halves" = some (some (.ref c_Halves))) (x_Other : PySem.W.nsIn K mainGlobals "Other" = some (some (.ref c_Other))) (x_Ranks : PySem.W.nsIn K mainGlobals "Ranks" = some (some (.ref c_Ranks))) (x_Groups : PySem.W.nsIn K mainGlobals "Groups" = some (some (.ref c_Groups))) (x_Upto : PySem.W.nsIn K mainGlobals "Upto" = some (some (.ref c_Upto)))
    (e_Rule___init__ : PySem.W.findCls K (.ref c_Rule) (.type "type") "__init__" = some (.val (.ref f_Rule___init__))) (e_Shares___init__ : PySem.W.findIn K (.ref c_Shares) "__init__" = some (some (.ref f_Shares___init__))) (e_Evenly___init__ : PySem.W.findIn K (.ref c_Evenly) "__init__" = some (some (.ref f_Evenly___init__))) (e_Losses___init__ : PySem.W.findIn K (.ref c_Losses) "__init__" = some (some (.ref f_Losses___init__))) (e_Halves___init__ : PySem.W.findIn K (.ref c_Halves) "__init__" = some (some (.ref f_Halves___init__))) (e_Other___init__ : PySem.W.findIn K (.ref c_Other) "__init__" = some (some (.ref f_Other___init__))) (e_Ranks___init__ : PySem.W.findIn K (.ref c_Ranks) "__init__" = some (some (.ref f_Ranks___init__))) (e_Groups___init__ : PySem.W.findIn K (.ref c_Groups) "__init__" = some (some (.ref f_Groups___init__))) (e_Upto___init__ : PySem.W.findIn K (.ref c_Upto) "__init__" = some (some (.ref f_Upto___init__))) (es_Shares : PySem.W.findIn K (.ref c_Shares) "shape" = some (some (.ref f_Rule_shape))) (et_Shares : PySem.W.findIn K (.ref c_Shares) "text" = some (some (.ref f_Rule_text))) (es_Evenly : PySem.W.findIn K (.ref c_Evenly) "shape" = some (some (.ref f_Rule_shape))) (et_Evenly : PySem.W.findIn K (.ref c_Evenly) "text" = some (some (.ref f_Rule_text))) (es_Losses : PySem.W.findIn K (.ref c_Losses) "shape" = some (some (.ref f_Rule_shape))) (et_Losses : PySem.W.findIn K (.ref c_Losses) "text" = some (some (.ref f_Rule_text))) (es_Halves : PySem.W.findIn K (.ref c_Halves) "shape" = some (some (.ref f_Rule_shape))) (et_Halves : PySem.W.findIn K (.ref c_Halves) "text" = some (some (.ref f_Rule_text))) (es_Other : PySem.W.findIn K (.ref c_Other) "shape" = some (some (.ref f_Rule_shape))) (et_Other : PySem.W.findIn K (.ref c_Other) "text" = some (some (.ref f_Rule_text))) (es_Ranks : PySem.W.findIn K (.ref c_Ranks) "shape" = some (some (.ref f_Rule_shape))) (et_Ranks : PySem.W.findIn K (.ref c_Ranks) "text" = some (some (.ref f_Rule_text))) (es_Groups : PySem.W.findIn K (.ref c_Groups) "shape" = some (some (.ref f_Rule_shape))) (et_Groups : PySem.W.findIn K (.ref c_Groups) "text" = some (some (.ref f_Rule_text))) (es_Upto : PySem.W.findIn K (.ref c_Upto) "shape" = some (some (.ref f_Rule_shape))) (et_Upto : PySem.W.findIn K (.ref c_Upto) "text" = some (some (.ref f_Rule_text)))
    (l_Rule___init__ : K.lookup f_Rule___init__ = some ⟨oc_Rule___init__, od_Rule___init__, .func (PySem.W.fnOf "__init__" "Rule.__init__" (defArgs s_Rule___init__) (defBody s_Rule___init__) (defScope s_Rule___init__) .none kV_Rule___init__ dc_Rule___init__ pm_Rule___init__ an_Rule___init__ cd_Rule___init__ ct_Rule___init__), sl_Rule___init__⟩) (c2_Rule___init__ : PySem.W.codeIn K cd_Rule___init__ "Rule.__init__" = true) (k_Rule___init__ : PySem.W.keepIn K (.ref f_Rule___init__) = true)
    (l_Rule_shape : K.lookup f_Rule_shape = some ⟨oc_Rule_shape, od_Rule_shape, .func (PySem.W.fnOf "shape" "Rule.shape" (defArgs s_Rule_shape) (defBody s_Rule_shape) (defScope s_Rule_shape) .none kV_Rule_shape dc_Rule_shape pm_Rule_shape an_Rule_shape cd_Rule_shape ct_Rule_shape), sl_Rule_shape⟩) (c2_Rule_shape : PySem.W.codeIn K cd_Rule_shape "Rule.shape" = true) (k_Rule_shape : PySem.W.keepIn K (.ref f_Rule_shape) = true)
    (l_Rule_text : K.lookup f_Rule_text = some ⟨oc_Rule_text, od_Rule_text, .func (PySem.W.fnOf "text" "Rule.text" (defArgs s_Rule_text) (defBody s_Rule_text) (defScope s_Rule_text) .none kV_Rule_text dc_Rule_text pm_Rule_text an_Rule_text cd_Rule_text ct_Rule_text), sl_Rule_text⟩) (c2_Rule_text : PySem.W.codeIn K cd_Rule_text "Rule.text" = true) (k_Rule_text : PySem.W.keepIn K (.ref f_Rule_text) = true)
    (l_Shares___init__ : K.lookup f_Shares___init__ = some ⟨oc_Shares___init__, od_Shares___init__, .func (PySem.W.fnOf "__init__" "Shares.__init__" (defArgs s_Shares___init__) (defBody s_Shares___init__) (defScope s_Shares___init__) .none kV_Shares___init__ dc_Shares___init__ pm_Shares___init__ an_Shares___init__ cd_Shares___init__ ct_Shares___init__), sl_Shares___init__⟩) (c2_Shares___init__ : PySem.W.codeIn K cd_Shares___init__ "Shares.__init__" = true) (k_Shares___init__ : PySem.W.keepIn K (.ref f_Shares___init__) = true)
    (l_Evenly___init__ : K.lookup f_Evenly___init__ = some ⟨oc_Evenly___init__, od_Evenly___init__, .func (PySem.W.fnOf "__init__" "Evenly.__init__" (defArgs s_Evenly___init__) (defBody s_Evenly___init__) (defScope s_Evenly___init__) .none kV_Evenly___init__ dc_Evenly___init__ pm_Evenly___init__ an_Evenly___init__ cd_Evenly___init__ ct_Evenly___init__), sl_Evenly___init__⟩) (c2_Evenly___init__ : PySem.W.codeIn K cd_Evenly___init__ "Evenly.__init__" = true) (k_Evenly___init__ : PySem.W.keepIn K (.ref f_Evenly___init__) = true)
    (l_Losses___init__ : K.lookup f_Losses___init__ = some ⟨oc_Losses___init__, od_Losses___init__, .func (PySem.W.fnOf "__init__" "Losses.__init__" (defArgs s_Losses___init__) (defBody s_Losses___init__) (defScope s_Losses___init__) .none kV_Losses___init__ dc_Losses___init__ pm_Losses___init__ an_Losses___init__ cd_Losses___init__ ct_Losses___init__), sl_Losses___init__⟩) (c2_Losses___init__ : PySem.W.codeIn K cd_Losses___init__ "Losses.__init__" = true) (k_Losses___init__ : PySem.W.keepIn K (.ref f_Losses___init__) = true)
    (l_Halves___init__ : K.lookup f_Halves___init__ = some ⟨oc_Halves___init__, od_Halves___init__, .func (PySem.W.fnOf "__init__" "Halves.__init__" (defArgs s_Halves___init__) (defBody s_Halves___init__) (defScope s_Halves___init__) .none kV_Halves___init__ dc_Halves___init__ pm_Halves___init__ an_Halves___init__ cd_Halves___init__ ct_Halves___init__), sl_Halves___init__⟩) (c2_Halves___init__ : PySem.W.codeIn K cd_Halves___init__ "Halves.__init__" = true) (k_Halves___init__ : PySem.W.keepIn K (.ref f_Halves___init__) = true)
    (l_Other___init__ : K.lookup f_Other___init__ = some ⟨oc_Other___init__, od_Other___init__, .func (PySem.W.fnOf "__init__" "Other.__init__" (defArgs s_Other___init__) (defBody s_Other___init__) (defScope s_Other___init__) .none kV_Other___init__ dc_Other___init__ pm_Other___init__ an_Other___init__ cd_Other___init__ ct_Other___init__), sl_Other___init__⟩) (c2_Other___init__ : PySem.W.codeIn K cd_Other___init__ "Other.__init__" = true) (k_Other___init__ : PySem.W.keepIn K (.ref f_Other___init__) = true)
    (l_Ranks___init__ : K.lookup f_Ranks___init__ = some ⟨oc_Ranks___init__, od_Ranks___init__, .func (PySem.W.fnOf "__init__" "Ranks.__init__" (defArgs s_Ranks___init__) (defBody s_Ranks___init__) (defScope s_Ranks___init__) .none kV_Ranks___init__ dc_Ranks___init__ pm_Ranks___init__ an_Ranks___init__ cd_Ranks___init__ ct_Ranks___init__), sl_Ranks___init__⟩) (c2_Ranks___init__ : PySem.W.codeIn K cd_Ranks___init__ "Ranks.__init__" = true) (k_Ranks___init__ : PySem.W.keepIn K (.ref f_Ranks___init__) = true)
    (l_Groups___init__ : K.lookup f_Groups___init__ = some ⟨oc_Groups___init__, od_Groups___init__, .func (PySem.W.fnOf "__init__" "Groups.__init__" (defArgs s_Groups___init__) (defBody s_Groups___init__) (defScope s_Groups___init__) .none kV_Groups___init__ dc_Groups___init__ pm_Groups___init__ an_Groups___init__ cd_Groups___init__ ct_Groups___init__), sl_Groups___init__⟩) (c2_Groups___init__ : PySem.W.codeIn K cd_Groups___init__ "Groups.__init__" = true) (k_Groups___init__ : PySem.W.keepIn K (.ref f_Groups___init__) = true)
    (l_Upto___init__ : K.lookup f_Upto___init__ = some ⟨oc_Upto___init__, od_Upto___init__, .func (PySem.W.fnOf "__init__" "Upto.__init__" (defArgs s_Upto___init__) (defBody s_Upto___init__) (defScope s_Upto___init__) .none kV_Upto___init__ dc_Upto___init__ pm_Upto___init__ an_Upto___init__ cd_Upto___init__ ct_Upto___init__), sl_Upto___init__⟩) (c2_Upto___init__ : PySem.W.codeIn K cd_Upto___init__ "Upto.__init__" = true) (k_Upto___init__ : PySem.W.keepIn K (.ref f_Upto___init__) = true) (n_Rule_shape : PySem.W.isFn K (.ref f_Rule_shape) = true) (n_Rule_text : PySem.W.isFn K (.ref f_Rule_text) = true)
    (sp_Rule : PySem.W.specialIn K (.ref c_Rule) "__getattribute__" = some (some (.builtin "type.__getattribute__"))) (rd_Rule : PySem.W.readsIn K c_Rule (.type "type") = true) (hn0 : PySem.W.specialIn K (.builtin "object.__class__") "__get__" = some (some (.builtin "getset_descriptor.__get__"))) (ht0 : PySem.W.takesIn K (.builtin "object.__class__") = some true)
    (pg_Shares : PySem.W.plainGet K c_Shares Str.empty = true) (hd_Shares : PySem.W.hasDictIn K c_Shares = true) (po_Shares : PySem.W.plainOver K c_Shares = true) (sa_Shares : PySem.W.findIn K (.ref c_Shares) "__setattr__" = some (some (.builtin "object.__setattr__"))) (na_Shares : PySem.W.findIn K (.ref c_Shares) "form" = some none) (ha_Shares : PySem.W.findIn K (.ref c_Shares) "__class__" = some (some (.builtin "object.__class__"))) (mo_Shares : PySem.W.mroIn K c_Shares (.type "object") = some true) (kt_Shares : PySem.W.kitOne K (.ref c_Shares) (.ref c_Rule) = some true) (mk_Shares : PySem.W.makesIn K c_Shares = true) (nf_Shares : PySem.W.isFn K (.ref f_Shares___init__) = true) (kc_Shares : PySem.W.keepIn K (.ref c_Shares) = true)
    (pg_Evenly : PySem.W.plainGet K c_Evenly Str.empty = true) (hd_Evenly : PySem.W.hasDictIn K c_Evenly = true) (po_Evenly : PySem.W.plainOver K c_Evenly = true) (sa_Evenly : PySem.W.findIn K (.ref c_Evenly) "__setattr__" = some (some (.builtin "object.__setattr__"))) (na_Evenly : PySem.W.findIn K (.ref c_Evenly) "form" = some none) (ha_Evenly : PySem.W.findIn K (.ref c_Evenly) "__class__" = some (some (.builtin "object.__class__"))) (mo_Evenly : PySem.W.mroIn K c_Evenly (.type "object") = some true) (kt_Evenly : PySem.W.kitOne K (.ref c_Evenly) (.ref c_Rule) = some true) (mk_Evenly : PySem.W.makesIn K c_Evenly = true) (nf_Evenly : PySem.W.isFn K (.ref f_Evenly___init__) = true) (kc_Evenly : PySem.W.keepIn K (.ref c_Evenly) = true)
    (pg_Losses : PySem.W.plainGet K c_Losses Str.empty = true) (hd_Losses : PySem.W.hasDictIn K c_Losses = true) (po_Losses : PySem.W.plainOver K c_Losses = true) (sa_Losses : PySem.W.findIn K (.ref c_Losses) "__setattr__" = some (some (.builtin "object.__setattr__"))) (na_Losses : PySem.W.findIn K (.ref c_Losses) "form" = some none) (ha_Losses : PySem.W.findIn K (.ref c_Losses) "__class__" = some (some (.builtin "object.__class__"))) (mo_Losses : PySem.W.mroIn K c_Losses (.type "object") = some true) (kt_Losses : PySem.W.kitOne K (.ref c_Losses) (.ref c_Rule) = some true) (mk_Losses : PySem.W.makesIn K c_Losses = true) (nf_Losses : PySem.W.isFn K (.ref f_Losses___init__) = true) (kc_Losses : PySem.W.keepIn K (.ref c_Losses) = true)
    (pg_Halves : PySem.W.plainGet K c_Halves Str.empty = true) (hd_Halves : PySem.W.hasDictIn K c_Halves = true) (po_Halves : PySem.W.plainOver K c_Halves = true) (sa_Halves : PySem.W.findIn K (.ref c_Halves) "__setattr__" = some (some (.builtin "object.__setattr__"))) (na_Halves : PySem.W.findIn K (.ref c_Halves) "form" = some none) (ha_Halves : PySem.W.findIn K (.ref c_Halves) "__class__" = some (some (.builtin "object.__class__"))) (mo_Halves : PySem.W.mroIn K c_Halves (.type "object") = some true) (kt_Halves : PySem.W.kitOne K (.ref c_Halves) (.ref c_Rule) = some true) (mk_Halves : PySem.W.makesIn K c_Halves = true) (nf_Halves : PySem.W.isFn K (.ref f_Halves___init__) = true) (kc_Halves : PySem.W.keepIn K (.ref c_Halves) = true)
    (pg_Other : PySem.W.plainGet K c_Other Str.empty = true) (hd_Other : PySem.W.hasDictIn K c_Other = true) (po_Other : PySem.W.plainOver K c_Other = true) (sa_Other : PySem.W.findIn K (.ref c_Other) "__setattr__" = some (some (.builtin "object.__setattr__"))) (na_Other : PySem.W.findIn K (.ref c_Other) "form" = some none) (ha_Other : PySem.W.findIn K (.ref c_Other) "__class__" = some (some (.builtin "object.__class__"))) (mo_Other : PySem.W.mroIn K c_Other (.type "object") = some true) (kt_Other : PySem.W.kitOne K (.ref c_Other) (.ref c_Rule) = some true) (mk_Other : PySem.W.makesIn K c_Other = true) (nf_Other : PySem.W.isFn K (.ref f_Other___init__) = true) (kc_Other : PySem.W.keepIn K (.ref c_Other) = true)
    (pg_Ranks : PySem.W.plainGet K c_Ranks Str.empty = true) (hd_Ranks : PySem.W.hasDictIn K c_Ranks = true) (po_Ranks : PySem.W.plainOver K c_Ranks = true) (sa_Ranks : PySem.W.findIn K (.ref c_Ranks) "__setattr__" = some (some (.builtin "object.__setattr__"))) (na_Ranks : PySem.W.findIn K (.ref c_Ranks) "form" = some none) (ha_Ranks : PySem.W.findIn K (.ref c_Ranks) "__class__" = some (some (.builtin "object.__class__"))) (mo_Ranks : PySem.W.mroIn K c_Ranks (.type "object") = some true) (kt_Ranks : PySem.W.kitOne K (.ref c_Ranks) (.ref c_Rule) = some true) (mk_Ranks : PySem.W.makesIn K c_Ranks = true) (nf_Ranks : PySem.W.isFn K (.ref f_Ranks___init__) = true) (kc_Ranks : PySem.W.keepIn K (.ref c_Ranks) = true)
    (pg_Groups : PySem.W.plainGet K c_Groups Str.empty = true) (hd_Groups : PySem.W.hasDictIn K c_Groups = true) (po_Groups : PySem.W.plainOver K c_Groups = true) (sa_Groups : PySem.W.findIn K (.ref c_Groups) "__setattr__" = some (some (.builtin "object.__setattr__"))) (na_Groups : PySem.W.findIn K (.ref c_Groups) "form" = some none) (ha_Groups : PySem.W.findIn K (.ref c_Groups) "__class__" = some (some (.builtin "object.__class__"))) (mo_Groups : PySem.W.mroIn K c_Groups (.type "object") = some true) (kt_Groups : PySem.W.kitOne K (.ref c_Groups) (.ref c_Rule) = some true) (mk_Groups : PySem.W.makesIn K c_Groups = true) (nf_Groups : PySem.W.isFn K (.ref f_Groups___init__) = true) (kc_Groups : PySem.W.keepIn K (.ref c_Groups) = true)
    (pg_Upto : PySem.W.plainGet K c_Upto Str.empty = true) (hd_Upto : PySem.W.hasDictIn K c_Upto = true) (po_Upto : PySem.W.plainOver K c_Upto = true) (sa_Upto : PySem.W.findIn K (.ref c_Upto) "__setattr__" = some (some (.builtin "object.__setattr__"))) (na_Upto : PySem.W.findIn K (.ref c_Upto) "form" = some none) (ha_Upto : PySem.W.findIn K (.ref c_Upto) "__class__" = some (some (.builtin "object.__class__"))) (mo_Upto : PySem.W.mroIn K c_Upto (.type "object") = some true) (kt_Upto : PySem.W.kitOne K (.ref c_Upto) (.ref c_Rule) = some true) (mk_Upto : PySem.W.makesIn K c_Upto = true) (nf_Upto : PySem.W.isFn K (.ref f_Upto___init__) = true) (kc_Upto : PySem.W.keepIn K (.ref c_Upto) = true)
    (z_len : PySem.W.nsIn K mainGlobals "len" = some none) (z_abs : PySem.W.nsIn K mainGlobals "abs" = some none) (z_min : PySem.W.nsIn K mainGlobals "min" = some none) (z_max : PySem.W.nsIn K mainGlobals "max" = some none) (z_isinstance : PySem.W.nsIn K mainGlobals "isinstance" = some none) (z_range : PySem.W.nsIn K mainGlobals "range" = some none) (z_int : PySem.W.nsIn K mainGlobals "int" = some none) (z_bool : PySem.W.nsIn K mainGlobals "bool" = some none) (z_tuple : PySem.W.nsIn K mainGlobals "tuple" = some none) (z_list : PySem.W.nsIn K mainGlobals "list" = some none) (z_enumerate : PySem.W.nsIn K mainGlobals "enumerate" = some none) (z_zip : PySem.W.nsIn K mainGlobals "zip" = some none) (z_reversed : PySem.W.nsIn K mainGlobals "reversed" = some none) (z_ValueError : PySem.W.nsIn K mainGlobals "ValueError" = some none) (z_sum : PySem.W.nsIn K mainGlobals "sum" = some none) (z_str : PySem.W.nsIn K mainGlobals "str" = some none) :
    ∃ fd : FuncData, (∀ (s : Shared) (v : Value), BindsTo s fd ⟨[v], []⟩ [("_law_script", v)]) ∧ ∀ base : Heap, K.In base → base.Ns mainGlobals mg → FnOk l.prog w K mg base CX0 16 fa fd ["_law_script"] (spLaw K) := by
  have e := hfa.symm.trans (PySem.W.mg_of X G a12)
  cases e
  have F_text_of := fun_mk (st := s_text_of) l1 c1 k1
  have b_text_of := F_text_of.binds (ps := ["shape"]) fun _ _ _ _ _ _ us hl => match us, hl with | [_], _ => rfl
  have m_text_of := PySem.W.mg_of X G a1
  have F_portion_text := fun_mk (st := s_portion_text) l2 c2 k2
  have b_portion_text := F_portion_text.binds (ps := ["portion"]) fun _ _ _ _ _ _ us hl => match us, hl with | [_], _ => rfl
  have m_portion_text := PySem.W.mg_of X G a2
  have F_law_cell_at := fun_mk (st := s_law_cell_at) l3 c3 k3
  have b_law_cell_at := F_law_cell_at.binds (ps := ["_law_script", "_law_k"]) fun _ _ _ _ _ _ us hl => match us, hl with | [_, _], _ => rfl
  have m_law_cell_at := PySem.W.mg_of X G a3
  have F_law_divisor := fun_mk (st := s_law_divisor) l4 c4 k4
  have b_law_divisor := F_law_divisor.binds (ps := ["_law_one", "_law_other"]) fun _ _ _ _ _ _ us hl => match us, hl with | [_, _], _ => rfl
  have m_law_divisor := PySem.W.mg_of X G a4
  have F_law_mixed := fun_mk (st := s_law_mixed) l5 c5 k5
  have b_law_mixed := F_law_mixed.binds (ps := ["_law_cell", "_law_many"]) fun _ _ _ _ _ _ us hl => match us, hl with | [_, _], _ => rfl
  have m_law_mixed := PySem.W.mg_of X G a5
  have F_law_portion := fun_mk (st := s_law_portion) l6 c6 k6
  have b_law_portion := F_law_portion.binds (ps := ["_law_top", "_law_bottom"]) fun _ _ _ _ _ _ us hl => match us, hl with | [_, _], _ => rfl
  have m_law_portion := PySem.W.mg_of X G a6
  have F_law_leaf := fun_mk (st := s_law_leaf) l7 c7 k7
  have b_law_leaf := F_law_leaf.binds (ps := ["_law_number"]) fun _ _ _ _ _ _ us hl => match us, hl with | [_], _ => rfl
  have m_law_leaf := PySem.W.mg_of X G a7
  have F_law_lone := fun_mk (st := s_law_lone) l8 c8 k8
  have b_law_lone := F_law_lone.binds (ps := ["_law_number", "_law_one"]) fun _ _ _ _ _ _ us hl => match us, hl with | [_, _], _ => rfl
  have m_law_lone := PySem.W.mg_of X G a8
  have F_law_pair := fun_mk (st := s_law_pair) l9 c9 k9
  have b_law_pair := F_law_pair.binds (ps := ["_law_number", "_law_portion_here", "_law_one", "_law_two"]) fun _ _ _ _ _ _ us hl => match us, hl with | [_, _, _, _], _ => rfl
  have m_law_pair := PySem.W.mg_of X G a9
  have F_law_built := fun_mk (st := s_law_built) l10 c10 k10
  have b_law_built := F_law_built.binds (ps := ["_law_cells", "_law_great"]) fun _ _ _ _ _ _ us hl => match us, hl with | [_, _], _ => rfl
  have m_law_built := PySem.W.mg_of X G a10
  have F_law_same := fun_mk (st := s_law_same) l11 c11 k11
  have b_law_same := F_law_same.binds (ps := ["_law_found", "_law_due"]) fun _ _ _ _ _ _ us hl => match us, hl with | [_, _], _ => rfl
  have m_law_same := PySem.W.mg_of X G a11
  have F_law := fun_mk (st := s_law) l12 c12 k12
  have b_law := F_law.binds (ps := ["_law_script"]) fun _ _ _ _ _ _ us hl => match us, hl with | [_], _ => rfl
  have m_law := PySem.W.mg_of X G a12
  have B : Bl mg := ⟨PySem.W.mg_none_of X G z_len, PySem.W.mg_none_of X G z_abs, PySem.W.mg_none_of X G z_min, PySem.W.mg_none_of X G z_max, PySem.W.mg_none_of X G z_isinstance, PySem.W.mg_none_of X G z_range, PySem.W.mg_none_of X G z_int, PySem.W.mg_none_of X G z_bool, PySem.W.mg_none_of X G z_tuple, PySem.W.mg_none_of X G z_list, PySem.W.mg_none_of X G z_enumerate, PySem.W.mg_none_of X G z_zip, PySem.W.mg_none_of X G z_reversed, PySem.W.mg_none_of X G z_ValueError, PySem.W.mg_none_of X G z_sum, PySem.W.mg_none_of X G z_str⟩
  refine ⟨PySem.W.fnOf "law" "law" (defArgs s_law) (defBody s_law) (defScope s_law) .none kV12 dc12 pm12 an12 cd12 ct12, fun s v => .of_eq rfl, fun base XB GB => ?_⟩
  have F_Rule___init__ := fun_mk (st := s_Rule___init__) l_Rule___init__ c2_Rule___init__ k_Rule___init__
  have b_Rule___init__ := F_Rule___init__.binds (ps := ["self", "form"]) fun _ _ _ _ _ _ us hl => match us, hl with | [_, _], _ => rfl
  have F_Rule_shape := fun_mk (st := s_Rule_shape) l_Rule_shape c2_Rule_shape k_Rule_shape
  have b_Rule_shape := F_Rule_shape.binds (ps := ["self"]) fun _ _ _ _ _ _ us hl => match us, hl with | [_], _ => rfl
  have F_Rule_text := fun_mk (st := s_Rule_text) l_Rule_text c2_Rule_text k_Rule_text
  have b_Rule_text := F_Rule_text.binds (ps := ["self"]) fun _ _ _ _ _ _ us hl => match us, hl with | [_], _ => rfl
  have F_Shares___init__ := fun_mk (st := s_Shares___init__) l_Shares___init__ c2_Shares___init__ k_Shares___init__
  have b_Shares___init__ := F_Shares___init__.binds (ps := ["self"]) fun _ _ _ _ _ _ us hl => match us, hl with | [_], _ => rfl
  have F_Evenly___init__ := fun_mk (st := s_Evenly___init__) l_Evenly___init__ c2_Evenly___init__ k_Evenly___init__
  have b_Evenly___init__ := F_Evenly___init__.binds (ps := ["self"]) fun _ _ _ _ _ _ us hl => match us, hl with | [_], _ => rfl
  have F_Losses___init__ := fun_mk (st := s_Losses___init__) l_Losses___init__ c2_Losses___init__ k_Losses___init__
  have b_Losses___init__ := F_Losses___init__.binds (ps := ["self"]) fun _ _ _ _ _ _ us hl => match us, hl with | [_], _ => rfl
  have F_Halves___init__ := fun_mk (st := s_Halves___init__) l_Halves___init__ c2_Halves___init__ k_Halves___init__
  have b_Halves___init__ := F_Halves___init__.binds (ps := ["self"]) fun _ _ _ _ _ _ us hl => match us, hl with | [_], _ => rfl
  have F_Other___init__ := fun_mk (st := s_Other___init__) l_Other___init__ c2_Other___init__ k_Other___init__
  have b_Other___init__ := F_Other___init__.binds (ps := ["self", "inner"]) fun _ _ _ _ _ _ us hl => match us, hl with | [_, _], _ => rfl
  have F_Ranks___init__ := fun_mk (st := s_Ranks___init__) l_Ranks___init__ c2_Ranks___init__ k_Ranks___init__
  have b_Ranks___init__ := F_Ranks___init__.binds (ps := ["self", "inner"]) fun _ _ _ _ _ _ us hl => match us, hl with | [_, _], _ => rfl
  have F_Groups___init__ := fun_mk (st := s_Groups___init__) l_Groups___init__ c2_Groups___init__ k_Groups___init__
  have b_Groups___init__ := F_Groups___init__.binds (ps := ["self", "outer", "inner"]) fun _ _ _ _ _ _ us hl => match us, hl with | [_, _, _], _ => rfl
  have F_Upto___init__ := fun_mk (st := s_Upto___init__) l_Upto___init__ c2_Upto___init__ k_Upto___init__
  have b_Upto___init__ := F_Upto___init__.binds (ps := ["self", "portion", "first", "last"]) fun _ _ _ _ _ _ us hl => match us, hl with | [_, _, _, _], _ => rfl
  have g_Rule := PySem.W.mg_of XB GB x_Rule
  have g_Shares := PySem.W.mg_of XB GB x_Shares
  have ok_Shares : ROk K f_Rule_shape f_Rule_text c_Rule c_Shares := ⟨⟨pg_Shares, hd_Shares, po_Shares, sa_Shares⟩, na_Shares, ⟨es_Shares, n_Rule_shape, k_Rule_shape⟩, ⟨et_Shares, n_Rule_text, k_Rule_text⟩, ha_Shares, hn0, ht0, mo_Shares, kt_Shares⟩
  have MK_Shares : Mk K c_Shares f_Shares___init__ := ⟨mk_Shares, e_Shares___init__, nf_Shares, kc_Shares⟩
  have g_Evenly := PySem.W.mg_of XB GB x_Evenly
  have ok_Evenly : ROk K f_Rule_shape f_Rule_text c_Rule c_Evenly := ⟨⟨pg_Evenly, hd_Evenly, po_Evenly, sa_Evenly⟩, na_Evenly, ⟨es_Evenly, n_Rule_shape, k_Rule_shape⟩, ⟨et_Evenly, n_Rule_text, k_Rule_text⟩, ha_Evenly, hn0, ht0, mo_Evenly, kt_Evenly⟩
  have MK_Evenly : Mk K c_Evenly f_Evenly___init__ := ⟨mk_Evenly, e_Evenly___init__, nf_Evenly, kc_Evenly⟩
  have g_Losses := PySem.W.mg_of XB GB x_Losses
  have ok_Losses : ROk K f_Rule_shape f_Rule_text c_Rule c_Losses := ⟨⟨pg_Losses, hd_Losses, po_Losses, sa_Losses⟩, na_Losses, ⟨es_Losses, n_Rule_shape, k_Rule_shape⟩, ⟨et_Losses, n_Rule_text, k_Rule_text⟩, ha_Losses, hn0, ht0, mo_Losses, kt_Losses⟩
  have MK_Losses : Mk K c_Losses f_Losses___init__ := ⟨mk_Losses, e_Losses___init__, nf_Losses, kc_Losses⟩
  have g_Halves := PySem.W.mg_of XB GB x_Halves
  have ok_Halves : ROk K f_Rule_shape f_Rule_text c_Rule c_Halves := ⟨⟨pg_Halves, hd_Halves, po_Halves, sa_Halves⟩, na_Halves, ⟨es_Halves, n_Rule_shape, k_Rule_shape⟩, ⟨et_Halves, n_Rule_text, k_Rule_text⟩, ha_Halves, hn0, ht0, mo_Halves, kt_Halves⟩
  have MK_Halves : Mk K c_Halves f_Halves___init__ := ⟨mk_Halves, e_Halves___init__, nf_Halves, kc_Halves⟩
  have g_Other := PySem.W.mg_of XB GB x_Other
  have ok_Other : ROk K f_Rule_shape f_Rule_text c_Rule c_Other := ⟨⟨pg_Other, hd_Other, po_Other, sa_Other⟩, na_Other, ⟨es_Other, n_Rule_shape, k_Rule_shape⟩, ⟨et_Other, n_Rule_text, k_Rule_text⟩, ha_Other, hn0, ht0, mo_Other, kt_Other⟩
  have MK_Other : Mk K c_Other f_Other___init__ := ⟨mk_Other, e_Other___init__, nf_Other, kc_Other⟩
  have g_Ranks := PySem.W.mg_of XB GB x_Ranks
  have ok_Ranks : ROk K f_Rule_shape f_Rule_text c_Rule c_Ranks := ⟨⟨pg_Ranks, hd_Ranks, po_Ranks, sa_Ranks⟩, na_Ranks, ⟨es_Ranks, n_Rule_shape, k_Rule_shape⟩, ⟨et_Ranks, n_Rule_text, k_Rule_text⟩, ha_Ranks, hn0, ht0, mo_Ranks, kt_Ranks⟩
  have MK_Ranks : Mk K c_Ranks f_Ranks___init__ := ⟨mk_Ranks, e_Ranks___init__, nf_Ranks, kc_Ranks⟩
  have g_Groups := PySem.W.mg_of XB GB x_Groups
  have ok_Groups : ROk K f_Rule_shape f_Rule_text c_Rule c_Groups := ⟨⟨pg_Groups, hd_Groups, po_Groups, sa_Groups⟩, na_Groups, ⟨es_Groups, n_Rule_shape, k_Rule_shape⟩, ⟨et_Groups, n_Rule_text, k_Rule_text⟩, ha_Groups, hn0, ht0, mo_Groups, kt_Groups⟩
  have MK_Groups : Mk K c_Groups f_Groups___init__ := ⟨mk_Groups, e_Groups___init__, nf_Groups, kc_Groups⟩
  have g_Upto := PySem.W.mg_of XB GB x_Upto
  have ok_Upto : ROk K f_Rule_shape f_Rule_text c_Rule c_Upto := ⟨⟨pg_Upto, hd_Upto, po_Upto, sa_Upto⟩, na_Upto, ⟨es_Upto, n_Rule_shape, k_Rule_shape⟩, ⟨et_Upto, n_Rule_text, k_Rule_text⟩, ha_Upto, hn0, ht0, mo_Upto, kt_Upto⟩
  have MK_Upto : Mk K c_Upto f_Upto___init__ := ⟨mk_Upto, e_Upto___init__, nf_Upto, kc_Upto⟩
  have okA : ∀ r : Rl, ROk K f_Rule_shape f_Rule_text c_Rule ((⟨c_Shares, c_Evenly, c_Losses, c_Halves, c_Other, c_Ranks, c_Groups, c_Upto⟩ : RAd).cls r) := fun r => by cases r <;> assumption
  generalize hAA : (⟨c_Shares, c_Evenly, c_Losses, c_Halves, c_Other, c_Ranks, c_Groups, c_Upto⟩ : RAd) = A at okA
  have F_rinit := ok_rinit (P := l.prog) (w := w) (mg := mg) (base := base) (fS := f_Rule_shape) (fT := f_Rule_text) (Ru := c_Rule) F_Rule___init__
  have F_shape := ok_shape (P := l.prog) (w := w) (mg := mg) (base := base) okA F_Rule_shape
  have i_Shares := ok_init_Shares (A := A) g_Rule sp_Rule rd_Rule e_Rule___init__ F_rinit k_Rule___init__ b_Rule___init__ (okA .shares) F_Shares___init__
  have m_Shares : Maker l.prog w K mg base "Shares" (A.cls .shares) ["self"] (spInit (A.cls .shares) (α := Unit) (fun _ => []) (fun _ => Rl.shares.shape)) := by
    subst hAA
    exact ⟨_, _, MK_Shares, i_Shares, b_Shares___init__, g_Shares⟩
  have i_Evenly := ok_init_Evenly (A := A) g_Rule sp_Rule rd_Rule e_Rule___init__ F_rinit k_Rule___init__ b_Rule___init__ (okA .evenly) F_Evenly___init__
  have m_Evenly : Maker l.prog w K mg base "Evenly" (A.cls .evenly) ["self"] (spInit (A.cls .evenly) (α := Unit) (fun _ => []) (fun _ => Rl.evenly.shape)) := by
    subst hAA
    exact ⟨_, _, MK_Evenly, i_Evenly, b_Evenly___init__, g_Evenly⟩
  have i_Losses := ok_init_Losses (A := A) g_Rule sp_Rule rd_Rule e_Rule___init__ F_rinit k_Rule___init__ b_Rule___init__ (okA .losses) F_Losses___init__
  have m_Losses : Maker l.prog w K mg base "Losses" (A.cls .losses) ["self"] (spInit (A.cls .losses) (α := Unit) (fun _ => []) (fun _ => Rl.losses.shape)) := by
    subst hAA
    exact ⟨_, _, MK_Losses, i_Losses, b_Losses___init__, g_Losses⟩
  have i_Halves := ok_init_Halves (A := A) g_Rule sp_Rule rd_Rule e_Rule___init__ F_rinit k_Rule___init__ b_Rule___init__ (okA .halves) F_Halves___init__
  have m_Halves : Maker l.prog w K mg base "Halves" (A.cls .halves) ["self"] (spInit (A.cls .halves) (α := Unit) (fun _ => []) (fun _ => Rl.halves.shape)) := by
    subst hAA
    exact ⟨_, _, MK_Halves, i_Halves, b_Halves___init__, g_Halves⟩
  have i_Other := ok_init_Other (A := A) g_Rule sp_Rule rd_Rule e_Rule___init__ F_rinit k_Rule___init__ b_Rule___init__ F_shape b_Rule_shape okA F_Other___init__
  have m_Other : Maker l.prog w K mg base "Other" (A.cls (.other .shares)) ["self", "inner"] (spInit (A.cls (.other .shares)) (α := Rl) (fun r => [r.ins A]) (fun r => (Rl.other r).shape)) := by
    subst hAA
    exact ⟨_, _, MK_Other, i_Other, b_Other___init__, g_Other⟩
  have i_Ranks := ok_init_Ranks (A := A) g_Rule sp_Rule rd_Rule e_Rule___init__ F_rinit k_Rule___init__ b_Rule___init__ F_shape b_Rule_shape okA F_Ranks___init__
  have m_Ranks : Maker l.prog w K mg base "Ranks" (A.cls (.ranks .shares)) ["self", "inner"] (spInit (A.cls (.ranks .shares)) (α := Rl) (fun r => [r.ins A]) (fun r => (Rl.ranks r).shape)) := by
    subst hAA
    exact ⟨_, _, MK_Ranks, i_Ranks, b_Ranks___init__, g_Ranks⟩
  have i_Groups := ok_init_Groups (A := A) g_Rule sp_Rule rd_Rule e_Rule___init__ F_rinit k_Rule___init__ b_Rule___init__ F_shape b_Rule_shape okA F_Groups___init__
  have m_Groups : Maker l.prog w K mg base "Groups" (A.cls (.groups .shares .shares)) ["self", "outer", "inner"] (spInit (A.cls (.groups .shares .shares)) (α := Rl × Rl) (fun r => [r.1.ins A, r.2.ins A]) (fun r => (Rl.groups r.1 r.2).shape)) := by
    subst hAA
    exact ⟨_, _, MK_Groups, i_Groups, b_Groups___init__, g_Groups⟩
  have i_Upto := ok_init_Upto (A := A) g_Rule sp_Rule rd_Rule e_Rule___init__ F_rinit k_Rule___init__ b_Rule___init__ F_shape b_Rule_shape okA F_Upto___init__
  have m_Upto : Maker l.prog w K mg base "Upto" (A.cls (.upto 0 0 .shares .shares)) ["self", "portion", "first", "last"] (spInit (A.cls (.upto 0 0 .shares .shares)) (α := (Int × Int) × Rl × Rl) (fun r => [.tuple [.int r.1.1, .int r.1.2], r.2.1.ins A, r.2.2.ins A]) (fun r => (Rl.upto r.1.1 r.1.2 r.2.1 r.2.2).shape)) := by
    subst hAA
    exact ⟨_, _, MK_Upto, i_Upto, b_Upto___init__, g_Upto⟩
  have C_ptext := cal_mk (P := l.prog) (w := w) (base := base) F_portion_text (ok_ptext F_portion_text) m_portion_text b_portion_text
  have C_textof := cal_mk (P := l.prog) (w := w) (base := base) F_text_of (ok_textof B C_ptext F_text_of m_text_of b_text_of 12) m_text_of b_text_of
  have F_text := ok_text (n := 12) okA C_textof F_Rule_text
  have C_cell := cal_mk (P := l.prog) (w := w) (base := base) F_law_cell_at (ok_cell B F_law_cell_at) m_law_cell_at b_law_cell_at
  have C_div := cal_mk (P := l.prog) (w := w) (base := base) F_law_divisor (ok_divisor B F_law_divisor) m_law_divisor b_law_divisor
  have C_mix := cal_mk (P := l.prog) (w := w) (base := base) F_law_mixed (ok_mixl F_law_mixed B) m_law_mixed b_law_mixed
  have C_port := cal_mk (P := l.prog) (w := w) (base := base) F_law_portion (ok_port C_div F_law_portion) m_law_portion b_law_portion
  have C_leaf := cal_mk (P := l.prog) (w := w) (base := base) F_law_leaf (ok_leaf m_Shares m_Evenly m_Losses m_Halves F_law_leaf) m_law_leaf b_law_leaf
  have C_lone := cal_mk (P := l.prog) (w := w) (base := base) F_law_lone (ok_lone m_Other m_Ranks F_law_lone) m_law_lone b_law_lone
  have C_pair := cal_mk (P := l.prog) (w := w) (base := base) F_law_pair (ok_pair B m_Groups m_Upto F_law_pair) m_law_pair b_law_pair
  have C_built := cal_mk (P := l.prog) (w := w) (base := base) F_law_built (ok_built B C_leaf C_lone C_pair C_mix C_port F_law_built) m_law_built b_law_built
  have C_same := cal_mk (P := l.prog) (w := w) (base := base) F_law_same (ok_same B F_law_same m_law_same b_law_same 14) m_law_same b_law_same
  exact ok_law B okA g_Rule F_shape b_Rule_shape F_text b_Rule_text m_Other C_cell C_built C_same F_law
theorem walk {l : PySem.W.OpenLaw} {q : Program} {loose : List Str} {XP : (Str → Option Value) → Heap → Prop} {YP : World → Heap → Prop} {d : DefRec} {K : Params → PySem.W.Frag} (hn : l.most = some 63) (hdf : d.params.defaults = [])
    (hY : ∀ (w : World) (h : Heap), YP w h → (K w.params).In h)
    (F : ∀ (w : World) (mg : Str → Option Value) (fa : Addr) (h : Heap), (K w.params).In h → h.Ns mainGlobals mg → mg d.name = some (.ref fa) →
      ∃ fd : FuncData, (∀ (s : Shared) (u : Value), BindsTo s fd ⟨[u], []⟩ [("_law_script", u)]) ∧ ∀ base : Heap, (K w.params).In base → base.Ns mainGlobals mg → FnOk l.prog w (K w.params) mg base CX0 16 fa fd ["_law_script"] (spLaw (K w.params))) :
    PySem.W.WalkO q loose XP YP l.row.toRowW d [] (fun f vs => PySem.call f vs) :=
  L2.walk_of (n := 63) (k := 16) (x := "_law_script") (CX := fun _ => CX0) (sp := fun w => spLaw (K w.params)) hn (by decide) hdf ⟨rfl, by decide, by decide⟩ hY F (fun _ _ a ns hl hO hS => ⟨a, ns, rfl, hS, hl, hO, fun _ => rfl⟩) fun _ _ _ _ _ z => z
end K
open PySem PySem.W PyProof.Rows
set_option maxRecDepth 100000 in
set_option maxHeartbeats 0 in
theorem PySem.Challenge.cw_shortpurse_k21_shapes_and_texts_holds : PySem.Challenge.rw_shortpurse_k21_shapes_and_texts.Holds := by
  w_on; o_law; k_head; (case hw => w_witness2)
  k_fill
  refine K.walk (l := PySem.Challenge.rw_shortpurse_k21_shapes_and_texts) rfl rfl (fun w h Y => PySem.W.kIn_of Y) ?F
  case F =>
    intro w mg fa h KX G hmg
    refine' K.all_mk KX G hmg ?a1 ?l1 ?c1 ?k1 ?a2 ?l2 ?c2 ?k2 ?a3 ?l3 ?c3 ?k3 ?a4 ?l4 ?c4 ?k4 ?a5 ?l5 ?c5 ?k5 ?a6 ?l6 ?c6 ?k6 ?a7 ?l7 ?c7 ?k7 ?a8 ?l8 ?c8 ?k8 ?a9 ?l9 ?c9 ?k9 ?a10 ?l10 ?c10 ?k10 ?a11 ?l11 ?c11 ?k11 ?a12 ?l12 ?c12 ?k12 ?x_Rule ?x_Shares ?x_Evenly ?x_Losses ?x_Halves ?x_Other ?x_Ranks ?x_Groups ?x_Upto ?e_Rule___init__ ?e_Shares___init__ ?e_Evenly___init__ ?e_Losses___init__ ?e_Halves___init__ ?e_Other___init__ ?e_Ranks___init__ ?e_Groups___init__ ?e_Upto___init__ ?es_Shares ?et_Shares ?es_Evenly ?et_Evenly ?es_Losses ?et_Losses ?es_Halves ?et_Halves ?es_Other ?et_Other ?es_Ranks ?et_Ranks ?es_Groups ?et_Groups ?es_Upto ?et_Upto ?l_Rule___init__ ?c2_Rule___init__ ?k_Rule___init__ ?l_Rule_shape ?c2_Rule_shape ?k_Rule_shape ?l_Rule_text ?c2_Rule_text ?k_Rule_text ?l_Shares___init__ ?c2_Shares___init__ ?k_Shares___init__ ?l_Evenly___init__ ?c2_Evenly___init__ ?k_Evenly___init__ ?l_Losses___init__ ?c2_Losses___init__ ?k_Losses___init__ ?l_Halves___init__ ?c2_Halves___init__ ?k_Halves___init__ ?l_Other___init__ ?c2_Other___init__ ?k_Other___init__ ?l_Ranks___init__ ?c2_Ranks___init__ ?k_Ranks___init__ ?l_Groups___init__ ?c2_Groups___init__ ?k_Groups___init__ ?l_Upto___init__ ?c2_Upto___init__ ?k_Upto___init__ ?n_Rule_shape ?n_Rule_text ?sp_Rule ?rd_Rule ?hn0 ?ht0 ?pg_Shares ?hd_Shares ?po_Shares ?sa_Shares ?na_Shares ?ha_Shares ?mo_Shares ?kt_Shares ?mk_Shares ?nf_Shares ?kc_Shares ?pg_Evenly ?hd_Evenly ?po_Evenly ?sa_Evenly ?na_Evenly ?ha_Evenly ?mo_Evenly ?kt_Evenly ?mk_Evenly ?nf_Evenly ?kc_Evenly ?pg_Losses ?hd_Losses ?po_Losses ?sa_Losses ?na_Losses ?ha_Losses ?mo_Losses ?kt_Losses ?mk_Losses ?nf_Losses ?kc_Losses ?pg_Halves ?hd_Halves ?po_Halves ?sa_Halves ?na_Halves ?ha_Halves ?mo_Halves ?kt_Halves ?mk_Halves ?nf_Halves ?kc_Halves ?pg_Other ?hd_Other ?po_Other ?sa_Other ?na_Other ?ha_Other ?mo_Other ?kt_Other ?mk_Other ?nf_Other ?kc_Other ?pg_Ranks ?hd_Ranks ?po_Ranks ?sa_Ranks ?na_Ranks ?ha_Ranks ?mo_Ranks ?kt_Ranks ?mk_Ranks ?nf_Ranks ?kc_Ranks ?pg_Groups ?hd_Groups ?po_Groups ?sa_Groups ?na_Groups ?ha_Groups ?mo_Groups ?kt_Groups ?mk_Groups ?nf_Groups ?kc_Groups ?pg_Upto ?hd_Upto ?po_Upto ?sa_Upto ?na_Upto ?ha_Upto ?mo_Upto ?kt_Upto ?mk_Upto ?nf_Upto ?kc_Upto ?z_len ?z_abs ?z_min ?z_max ?z_isinstance ?z_range ?z_int ?z_bool ?z_tuple ?z_list ?z_enumerate ?z_zip ?z_reversed ?z_ValueError ?z_sum ?z_str
    (case a1 => k_is)
    (case l1 => k_is)
    (case c1 => k_is)
    (case k1 => k_is)
    (case a2 => k_is)
    (case l2 => k_is)
    (case c2 => k_is)
    (case k2 => k_is)
    (case a3 => k_is)
    (case l3 => k_is)
    (case c3 => k_is)
    (case k3 => k_is)
    (case a4 => k_is)
    (case l4 => k_is)
    (case c4 => k_is)
    (case k4 => k_is)
    (case a5 => k_is)
    (case l5 => k_is)
    (case c5 => k_is)
    (case k5 => k_is)
    (case a6 => k_is)
    (case l6 => k_is)
    (case c6 => k_is)
    (case k6 => k_is)
    (case a7 => k_is)
    (case l7 => k_is)
    (case c7 => k_is)
    (case k7 => k_is)
    (case a8 => k_is)
    (case l8 => k_is)
    (case c8 => k_is)
    (case k8 => k_is)
    (case a9 => k_is)
    (case l9 => k_is)
    (case c9 => k_is)
    (case k9 => k_is)
    (case a10 => k_is)
    (case l10 => k_is)
    (case c10 => k_is)
    (case k10 => k_is)
    (case a11 => k_is)
    (case l11 => k_is)
    (case c11 => k_is)
    (case k11 => k_is)
    (case a12 => k_is)
    (case l12 => k_is)
    (case c12 => k_is)
    (case k12 => k_is)
    (case x_Rule => k_is)
    (case x_Shares => k_is)
    (case x_Evenly => k_is)
    (case x_Losses => k_is)
    (case x_Halves => k_is)
    (case x_Other => k_is)
    (case x_Ranks => k_is)
    (case x_Groups => k_is)
    (case x_Upto => k_is)
    (case e_Rule___init__ => k_is)
    (case e_Shares___init__ => k_is)
    (case e_Evenly___init__ => k_is)
    (case e_Losses___init__ => k_is)
    (case e_Halves___init__ => k_is)
    (case e_Other___init__ => k_is)
    (case e_Ranks___init__ => k_is)
    (case e_Groups___init__ => k_is)
    (case e_Upto___init__ => k_is)
    (case es_Shares => k_is)
    (case et_Shares => k_is)
    (case es_Evenly => k_is)
    (case et_Evenly => k_is)
    (case es_Losses => k_is)
    (case et_Losses => k_is)
    (case es_Halves => k_is)
    (case et_Halves => k_is)
    (case es_Other => k_is)
    (case et_Other => k_is)
    (case es_Ranks => k_is)
    (case et_Ranks => k_is)
    (case es_Groups => k_is)
    (case et_Groups => k_is)
    (case es_Upto => k_is)
    (case et_Upto => k_is)
    (case l_Rule___init__ => k_is)
    (case c2_Rule___init__ => k_is)
    (case k_Rule___init__ => k_is)
    (case l_Rule_shape => k_is)
    (case c2_Rule_shape => k_is)
    (case k_Rule_shape => k_is)
    (case l_Rule_text => k_is)
    (case c2_Rule_text => k_is)
    (case k_Rule_text => k_is)
    (case l_Shares___init__ => k_is)
    (case c2_Shares___init__ => k_is)
    (case k_Shares___init__ => k_is)
    (case l_Evenly___init__ => k_is)
    (case c2_Evenly___init__ => k_is)
    (case k_Evenly___init__ => k_is)
    (case l_Losses___init__ => k_is)
    (case c2_Losses___init__ => k_is)
    (case k_Losses___init__ => k_is)
    (case l_Halves___init__ => k_is)
    (case c2_Halves___init__ => k_is)
    (case k_Halves___init__ => k_is)
    (case l_Other___init__ => k_is)
    (case c2_Other___init__ => k_is)
    (case k_Other___init__ => k_is)
    (case l_Ranks___init__ => k_is)
    (case c2_Ranks___init__ => k_is)
    (case k_Ranks___init__ => k_is)
    (case l_Groups___init__ => k_is)
    (case c2_Groups___init__ => k_is)
    (case k_Groups___init__ => k_is)
    (case l_Upto___init__ => k_is)
    (case c2_Upto___init__ => k_is)
    (case k_Upto___init__ => k_is)
    (case n_Rule_shape => k_is)
    (case n_Rule_text => k_is)
    (case sp_Rule => k_is)
    (case rd_Rule => k_is)
    (case hn0 => k_is)
    (case ht0 => k_is)
    (case pg_Shares => k_is)
    (case hd_Shares => k_is)
    (case po_Shares => k_is)
    (case sa_Shares => k_is)
    (case na_Shares => k_is)
    (case ha_Shares => k_is)
    (case mo_Shares => k_is)
    (case kt_Shares => kit_is)
    (case mk_Shares => k_is)
    (case nf_Shares => k_is)
    (case kc_Shares => k_is)
    (case pg_Evenly => k_is)
    (case hd_Evenly => k_is)
    (case po_Evenly => k_is)
    (case sa_Evenly => k_is)
    (case na_Evenly => k_is)
    (case ha_Evenly => k_is)
    (case mo_Evenly => k_is)
    (case kt_Evenly => kit_is)
    (case mk_Evenly => k_is)
    (case nf_Evenly => k_is)
    (case kc_Evenly => k_is)
    (case pg_Losses => k_is)
    (case hd_Losses => k_is)
    (case po_Losses => k_is)
    (case sa_Losses => k_is)
    (case na_Losses => k_is)
    (case ha_Losses => k_is)
    (case mo_Losses => k_is)
    (case kt_Losses => kit_is)
    (case mk_Losses => k_is)
    (case nf_Losses => k_is)
    (case kc_Losses => k_is)
    (case pg_Halves => k_is)
    (case hd_Halves => k_is)
    (case po_Halves => k_is)
    (case sa_Halves => k_is)
    (case na_Halves => k_is)
    (case ha_Halves => k_is)
    (case mo_Halves => k_is)
    (case kt_Halves => kit_is)
    (case mk_Halves => k_is)
    (case nf_Halves => k_is)
    (case kc_Halves => k_is)
    (case pg_Other => k_is)
    (case hd_Other => k_is)
    (case po_Other => k_is)
    (case sa_Other => k_is)
    (case na_Other => k_is)
    (case ha_Other => k_is)
    (case mo_Other => k_is)
    (case kt_Other => kit_is)
    (case mk_Other => k_is)
    (case nf_Other => k_is)
    (case kc_Other => k_is)
    (case pg_Ranks => k_is)
    (case hd_Ranks => k_is)
    (case po_Ranks => k_is)
    (case sa_Ranks => k_is)
    (case na_Ranks => k_is)
    (case ha_Ranks => k_is)
    (case mo_Ranks => k_is)
    (case kt_Ranks => kit_is)
    (case mk_Ranks => k_is)
    (case nf_Ranks => k_is)
    (case kc_Ranks => k_is)
    (case pg_Groups => k_is)
    (case hd_Groups => k_is)
    (case po_Groups => k_is)
    (case sa_Groups => k_is)
    (case na_Groups => k_is)
    (case ha_Groups => k_is)
    (case mo_Groups => k_is)
    (case kt_Groups => kit_is)
    (case mk_Groups => k_is)
    (case nf_Groups => k_is)
    (case kc_Groups => k_is)
    (case pg_Upto => k_is)
    (case hd_Upto => k_is)
    (case po_Upto => k_is)
    (case sa_Upto => k_is)
    (case na_Upto => k_is)
    (case ha_Upto => k_is)
    (case mo_Upto => k_is)
    (case kt_Upto => kit_is)
    (case mk_Upto => k_is)
    (case nf_Upto => k_is)
    (case kc_Upto => k_is)
    (case z_len => k_is)
    (case z_abs => k_is)
    (case z_min => k_is)
    (case z_max => k_is)
    (case z_isinstance => k_is)
    (case z_range => k_is)
    (case z_int => k_is)
    (case z_bool => k_is)
    (case z_tuple => k_is)
    (case z_list => k_is)
    (case z_enumerate => k_is)
    (case z_zip => k_is)
    (case z_reversed => k_is)
    (case z_ValueError => k_is)
    (case z_sum => k_is)
    (case z_str => k_is)

