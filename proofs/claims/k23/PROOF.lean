import PyProof.Rows.All
import Wide.All
import OpenK.AllK
import Wide.FinOn
import Lean
import PyProof.EqAt
import PyProof.EqKinds
import PyProof.TupleCall
import PyProof.Draws
import PyProof.EnumMake
import PyProof.ZipIter
import PyProof.Rows.SumAny
import KE.KRevIter
import PyProof.StrCalls2
import KE.KRevSl
import PyProof.StrWalks
import PyProof.StrBlockH
import PyProof.StrLawsIdx
import PyProof.StrLawsIn
import KE.KIntText
import PyProof.ExcBaseAll.ValueError
import PySem.Challenge.RW_shortpurse_k23_where_a_text_fails
set_option compiler.extract_closed false
set_option genSizeOfSpec false
set_option Elab.async false
set_option linter.all false
set_option maxRecDepth 100000
set_option maxHeartbeats 4000000
set_option exponentiation.threshold 10000
local macro_rules | `(tactic| omega) => `(tactic| lia)
namespace L2
open PySem PySem.Spec PyProof.Rows
abbrev Key := Sum Int Str
def keyIs : Key → Value → Bool
 | .inl k, v => Value.isInt k v
 | .inr x, v => Value.isStrOf x v
def keyH (w : World) : Key → Int
 | .inl k => hashInt k
 | .inr x => hashStr w x
theorem keyIs_shape : ∀ {k : Key} {v : Value}, keyIs k v = true → (∃ i t, k = Sum.inl i ∧ v = Value.int i t) ∨ (∃ x t, k = Sum.inr x ∧ v = Value.str x t)
 | .inl i, v, h => by
   obtain ⟨t, e⟩ := Value.isInt_shape (k := i) (v := v) h
   exact .inl ⟨i, t, rfl, e⟩
 | .inr x, v, h => by
   obtain ⟨t, e⟩ := Value.isStrOf_shape (x := x) (v := v) h
   exact .inr ⟨x, t, rfl, e⟩
theorem key_ll (a b : Int) : decide ((Sum.inl a : Key) = Sum.inl b) = (a == b) := by
 by_cases e : a = b
 ·subst e; simp
 ·have h : ¬ (Sum.inl a : Key) = Sum.inl b := fun q => e (Sum.inl.inj q)
  rw [decide_eq_false h]
  exact (beq_eq_false_iff_ne.mpr e).symm
theorem key_rr (a b : Str) : decide ((Sum.inr a : Key) = Sum.inr b) = decide (a = b) := by
 by_cases e : a = b
 ·subst e; simp
 ·have h : ¬ (Sum.inr a : Key) = Sum.inr b := fun q => e (Sum.inr.inj q)
  rw [decide_eq_false h, decide_eq_false e]
theorem key_lr (a : Int) (b : Str) : decide ((Sum.inl a : Key) = Sum.inr b) = false := decide_eq_false (fun q => nomatch q)
theorem key_rl (a : Str) (b : Int) : decide ((Sum.inr a : Key) = Sum.inl b) = false := decide_eq_false (fun q => nomatch q)
def mixKind (prog : Program) (w : World) : PySem.KeyKind prog w Key where
 is := keyIs
 hash := keyH w
 inj := fun v a b ha hb => by
  rcases keyIs_shape ha with ⟨i, t, rfl, rfl⟩ | ⟨x, t, rfl, rfl⟩
  ·rcases keyIs_shape hb with ⟨j, u, rfl, e⟩ | ⟨y, u, rfl, e⟩
   ·injection e with e1 _; rw [e1]
   ·exact nomatch e
  ·rcases keyIs_shape hb with ⟨j, u, rfl, e⟩ | ⟨y, u, rfl, e⟩
   ·exact nomatch e
   ·injection e with e1 _; rw [e1]
 byValue := fun k v h => by
  rcases keyIs_shape h with ⟨i, t, rfl, rfl⟩ | ⟨x, t, rfl, rfl⟩ <;> rfl
 pyHash := fun hv h => by
  rcases keyIs_shape hv with ⟨i, t, rfl, rfl⟩ | ⟨x, t, rfl, rfl⟩
  ·exact wpAny_pyHash_int h
  ·exact wpAny_pyHash_str h
 eqBool := fun hu hv h => by
  rcases keyIs_shape hu with ⟨i, t, rfl, rfl⟩ | ⟨x, t, rfl, rfl⟩
  ·rcases keyIs_shape hv with ⟨j, u, rfl, rfl⟩ | ⟨y, u, rfl, rfl⟩
   ·rw [key_ll] at h; exact wpAny_eqBool_int h
   ·rw [key_lr] at h; exact SeqAt.EqAt.int_str i t y u _ _ _ _ h
  ·rcases keyIs_shape hv with ⟨j, u, rfl, rfl⟩ | ⟨y, u, rfl, rfl⟩
   ·rw [key_rl] at h; exact SeqAt.EqAt.str_int x t j u _ _ _ _ h
   ·rw [key_rr] at h; exact wpAny_eqBool_str h
 «strs» := fun k x t v h => by
  rcases keyIs_shape h with ⟨i, u, rfl, e⟩ | ⟨y, u, rfl, e⟩
  ·exact nomatch e
  ·injection e with e1 _
   subst e1
   cases v <;> rfl
end L2
namespace L2
open PySem PySem.Spec PyProof.Rows
inductive V where
 | non | bl (b : Bool) | int (i : Int) | str (x : Str) | byt (b : Array UInt8) | flt (b : UInt64) | ref (a : Addr) | ty (n : String)
 deriving DecidableEq
def RelV : V → Value → Prop
 | .non, u => u = Value.none
 | .bl b, u => u = Value.bool b
 | .int i, u => ∃ t, u = Value.int i t
 | .str x, u => ∃ t, u = Value.str x t
 | .byt b, u => ∃ t, u = Value.bytes b t
 | .flt b, u => ∃ t, u = Value.float b t
 | .ref a, u => u = Value.ref a
 | .ty n, u => u = Value.type n
abbrev Vals : List V → List Value → Prop := Paired RelV
theorem Vals.length {xs : List V} {us : List Value} (r : Vals xs us) : xs.length = us.length := Paired.length r
theorem Vals.get : ∀ {xs : List V} {us : List Value} {i : Nat} {x : V}, Vals xs us → xs[i]? = some x → ∃ u, us[i]? = some u ∧ RelV x u
 | _, _, _, _, .nil, e => by simp at e
 | _, _, 0, _, .cons r _, e => by simp at e; subst e; exact ⟨_, rfl, r⟩
 | _, _, i + 1, x, .cons _ t, e => by
   obtain ⟨u, h1, h2⟩ := Vals.get (i := i) (x := x) t (by simpa using e)
   exact ⟨u, by simpa using h1, h2⟩
theorem Vals.set {x : V} {u : Value} (r : RelV x u) : ∀ {xs : List V} {us : List Value} (i : Nat), Vals xs us → Vals (xs.set i x) (us.set i u)
 | _, _, _, .nil => .nil
 | _, _, 0, .cons _ t => .cons r t
 | _, _, i + 1, .cons q t => .cons q (Vals.set r i t)
theorem Vals.append : ∀ {xs ys : List V} {us ws : List Value}, Vals xs us → Vals ys ws → Vals (xs ++ ys) (us ++ ws)
 | _, _, _, _, .nil, s => s
 | _, _, _, _, .cons r t, s => .cons r (Vals.append t s)
theorem Vals.take : ∀ {xs : List V} {us : List Value} (n : Nat), Vals xs us → Vals (xs.take n) (us.take n)
 | _, _, 0, _ => .nil
 | _, _, _ + 1, .nil => .nil
 | _, _, n + 1, .cons r t => .cons r (Vals.take n t)
theorem Vals.drop : ∀ {xs : List V} {us : List Value} (n : Nat), Vals xs us → Vals (xs.drop n) (us.drop n)
 | _, _, 0, r => r
 | _, _, _ + 1, .nil => .nil
 | _, _, n + 1, .cons _ t => Vals.drop n t
def RelO : Option V → Option Value → Prop
 | some v, some u => RelV v u
 | none, none => True
 | _, _ => False
def KV {κ : Type} : List (κ × V) → List (κ × Value) → Prop := Paired fun (p : κ × V) (q : κ × Value) => p.1 = q.1 ∧ RelV p.2 q.2
def kV : Key → V
 | .inl i => .int i
 | .inr x => .str x
inductive HO where
 | lst (xs : List V)
 | tup (xs : List V)
 | dK (kvs : List (Key × V)) | dT (kvs : List (List Key × V))
 | set (S : Int → Bool) (n : Nat)
 | ins (C dx : Addr) (fs : List (Str × V))
 | own (x : Addr)
 | xd (fs : List (Str × V))
 | met (f x : Addr)
 | rng (lo hi : Int)
 | frz (o : Obj) (u : HO)
 | tbl (ps : Array Value)
 | ext (φ : Heap → Prop)
abbrev Hp := Addr → Option HO
def upd (H : Hp) (a : Addr) (o : HO) : Hp := fun b => if b = a then some o else H b
theorem upd_same {H : Hp} {a : Addr} {o : HO} : upd H a o a = some o := by unfold upd; rw [if_pos rfl]
theorem upd_ne {H : Hp} {a b : Addr} {o : HO} (h : b ≠ a) : upd H a o b = H b := by unfold upd; rw [if_neg h]
theorem ne_of_none {H : Hp} {a b : Addr} {o : HO} (h : H a = some o) (h' : H b = none) : a ≠ b := by
 intro e; subst e; rw [h] at h'; cases h'
section
variable (P : Program) (w : World)
def ObjOk (H : Hp) (h : Heap) (a : Addr) : HO → Prop
 | .lst xs => xs.length ≤ sizeLine ∧ ∃ (its : List Value) (n : Nat), Vals xs its ∧ h.get? a = some { cls := .type "list", data := .seq its.toArray n }
 | .tup xs => xs.length ≤ sizeLine ∧ ∃ its : List Value, Vals xs its ∧ IsTup h a its.toArray
 | .dK kvs => kvs.length ≤ sizeLine ∧ (a == sysModules) = false ∧ ∃ vs, KV kvs vs ∧ h.DictOf (mixKind P w) a vs
 | .dT kvs => kvs.length ≤ sizeLine ∧ (a == sysModules) = false ∧ ∃ xs : List (List Key × Addr × Value),
  Paired (fun (p : List Key × V) (q : List Key × Addr × Value) => p.1 = q.1 ∧ H q.2.1 = some (.tup (p.1.map kV)) ∧ RelV p.2 q.2.2) kvs xs ∧
  ∃ o es ep, h.get? a = some o ∧ o.ExactDict ∧ o.data = .dict es ep ∧ es.toList = xs.map (entryOfKey (tupleKind (mixKind P w))) ∧ (xs.map (·.1)).Nodup
 | .set S n => h.SetOf (intKind P w) a S n
 | .ins C dx fs => H dx = some (.own a) ∧ fs.length ≤ 1000 ∧ dx ≠ a ∧ h.get? a = some (PySem.W.instObj C dx) ∧
  ∃ mA, h.Ns1 dx mA ∧ (∀ f, RelO (fs.lookup f) (mA f)) ∧ PySem.Within mA (fs.map (·.1))
 | .own _ => ∃ o, h.get? a = some o
 | .xd fs => ∃ mA, h.Ns1 a mA ∧ ∀ f, RelO (fs.lookup f) (mA f)
 | .rng lo hi => ∃ t u v, h.get? a = some { cls := .type "range", data := .fields #[.int lo t, .int hi u, .int 1 v] }
 | .frz o u => h.get? a = some o ∧ ObjOk H h a u
 | .tbl ps => h.get? a = some { cls := .none, data := .fields ps }
 | .met f x => h.get? a = some (PySem.W.methodObj (.ref f) (.ref x))
 | .ext φ => φ h ∧ (∃ o, h.get? a = some o) ∧ ∀ h1 h2 : Heap, φ h1 → (∀ o, h1.get? a = some o → h2.get? a = some o) → φ h2
def HOk (H : Hp) (h : Heap) : Prop := ∀ a o, H a = some o → ObjOk P w H h a o
end
section
variable {P : Program} {w : World} {H H' : Hp} {h h' : Heap} {a : Addr} {o : HO}
theorem ObjOk.lt (x : ObjOk P w H h a o) : a < h.objs.size := by
 cases o with
 | lst xs => obtain ⟨_, _, _, _, e⟩ := x; exact Heap.lt_size e
 | tup xs => obtain ⟨_, _, _, p⟩ := x; exact p.lt
 | dK kvs => obtain ⟨_, _, _, _, o, _, _, e, _⟩ := x; exact Heap.lt_size e
 | dT kvs => obtain ⟨_, _, _, _, o, _, _, e, _⟩ := x; exact Heap.lt_size e
 | set S n => obtain ⟨o, _, _, _, e, _⟩ := x; exact Heap.lt_size e
 | ins C dx fs => obtain ⟨_, _, _, e, _⟩ := x; exact Heap.lt_size e
 | own y => obtain ⟨_, e⟩ := x; exact Heap.lt_size e
 | xd fs => obtain ⟨_, ⟨_, _, _, e, _⟩, _⟩ := x; exact Heap.lt_size e
 | rng lo hi => obtain ⟨_, _, _, e⟩ := x; exact Heap.lt_size e
 | frz ob u => obtain ⟨e, _⟩ := x; exact Heap.lt_size e
 | tbl ps => exact Heap.lt_size (show h.get? a = some _ from x)
 | met f y => exact Heap.lt_size (show h.get? a = some _ from x)
 | ext φ => obtain ⟨_, ⟨_, e⟩, _⟩ := x; exact Heap.lt_size e
theorem Paired.mapP {α β : Type} {F G : α → β → Prop} : ∀ {l₁ : List α} {l₂ : List β}, Paired F l₁ l₂ → (∀ a b, F a b → G a b) → Paired G l₁ l₂
 | _, _, .nil, _ => .nil
 | _, _, .cons r t, f => .cons (f _ _ r) (Paired.mapP t f)
theorem ObjOk.stay (x : ObjOk P w H h a o) (k : ∀ b u, (b = a ∨ H b = some (.own a)) → h.get? b = some u → h'.get? b = some u)
 (ho : ∀ b, H b = some (.own a) → H' b = some (.own a)) (ht : ∀ b xs, H b = some (.tup xs) → H' b = some (.tup xs)) : ObjOk P w H' h' a o := by
 induction o with
 | lst xs => obtain ⟨z, its, n, r, e⟩ := x; exact ⟨z, its, n, r, k _ _ (.inl rfl) e⟩
 | tup xs => obtain ⟨z, its, r, ob, e, c⟩ := x; exact ⟨z, its, r, ob, k _ _ (.inl rfl) e, c⟩
 | dK kvs => obtain ⟨z, y, vs, r, ob, es, ep, e, c⟩ := x; exact ⟨z, y, vs, r, ob, es, ep, k _ _ (.inl rfl) e, c⟩
 | dT kvs =>
   obtain ⟨z, y, xs, r, ob, es, ep, e, c⟩ := x
   exact ⟨z, y, xs, Paired.mapP r fun p q z => ⟨z.1, ht _ _ z.2.1, z.2.2⟩, ob, es, ep, k _ _ (.inl rfl) e, c⟩
 | set S n => obtain ⟨ob, es, ep, t, e, c⟩ := x; exact ⟨ob, es, ep, t, k _ _ (.inl rfl) e, c⟩
 | ins C dx fs =>
   obtain ⟨d, z, ne, e, mA, ⟨od, es, ep, e2, c⟩, r⟩ := x
   exact ⟨ho _ d, z, ne, k _ _ (.inl rfl) e, mA, ⟨od, es, ep, k _ _ (.inr d) e2, c⟩, r⟩
 | own y => obtain ⟨ob, e⟩ := x; exact ⟨ob, k _ _ (.inl rfl) e⟩
 | xd fs => obtain ⟨mA, ⟨od, es, ep, e, c⟩, r⟩ := x; exact ⟨mA, ⟨od, es, ep, k _ _ (.inl rfl) e, c⟩, r⟩
 | rng lo hi => obtain ⟨t, u, v, e⟩ := x; exact ⟨t, u, v, k _ _ (.inl rfl) e⟩
 | frz ob u ih => obtain ⟨e, q⟩ := x; exact ⟨k _ _ (.inl rfl) e, ih q⟩
 | tbl ps =>
   have e : h.get? a = some { cls := .none, data := .fields ps } := x
   show h'.get? a = some { cls := .none, data := .fields ps }
   exact k a _ (.inl rfl) e
 | met f y =>
   have e : h.get? a = some (PySem.W.methodObj (.ref f) (.ref y)) := x
   show h'.get? a = some (PySem.W.methodObj (.ref f) (.ref y))
   exact k a _ (.inl rfl) e
 | ext φ => obtain ⟨p, ⟨o, e⟩, st⟩ := x; exact ⟨st _ _ p fun o q => k _ _ (.inl rfl) q, ⟨o, k _ _ (.inl rfl) e⟩, st⟩
theorem HOk.lt (x : HOk P w H h) (e : H a = some o) : a < h.objs.size := (x a o e).lt
theorem HOk.fresh (x : HOk P w H h) (e : h.objs.size ≤ a) : H a = none := by
 cases q : H a with
 | none => rfl
 | some u => exact absurd (Nat.lt_of_lt_of_le (x.lt q) e) (Nat.lt_irrefl _)
theorem HOk.kept (x : HOk P w H h) (k : ∀ b u, h.get? b = some u → h'.get? b = some u) : HOk P w H h' := fun a o e =>
 (x a o e).stay (fun b u _ q => k b u q) (fun _ q => q) fun _ _ q => q
theorem HOk.laid (x : HOk P w H h) (k : ∀ b u, h.get? b = some u → h'.get? b = some u) (hp : h.objs.size ≤ a) (new : ObjOk P w (upd H a o) h' a o) : HOk P w (upd H a o) h' := fun b u e => by
 have hn := x.fresh hp
 by_cases hb : b = a
 ·subst hb; rw [upd_same] at e; cases e; exact new
 ·rw [upd_ne hb] at e
  exact (x b u e).stay (fun c v _ q => k c v q) (fun c q => by rw [upd_ne (ne_of_none q hn)]; exact q) fun c xs q => by rw [upd_ne (ne_of_none q hn)]; exact q
end
def Rd (H : Hp) (a : Addr) (u : HO) : Prop := H a = some u ∨ ∃ o, H a = some (.frz o u)
theorem Rd.ok {P : Program} {w : World} {H : Hp} {h : Heap} {a : Addr} {u : HO} (r : Rd H a u) (x : HOk P w H h) : ObjOk P w H h a u := by
 rcases r with r | ⟨o, r⟩
 ·exact x a u r
 ·obtain ⟨_, q⟩ := x a _ r
  exact q
def Mut : Option HO → Prop
 | some (.lst _) => True
 | some (.dK _) => True
 | some (.dT _) => True
 | some (.set _ _) => True
 | some (.ins _ _ _) => True
 | some (.ext _) => True
 | _ => False
section
variable {P : Program} {w : World} {H : Hp} {h h' : Heap} {x e : Addr} {o' : HO}
theorem HOk.write (ok : HOk P w H h) (mu : Mut (H x)) (he : e = x ∨ H e = some (.own x)) (k : ∀ b u, b ≠ e → h.get? b = some u → h'.get? b = some u) (heo : ∃ u, h'.get? e = some u)
 (new : ObjOk P w (upd H x o') h' x o') : HOk P w (upd H x o') h' := fun b u q => by
 have nown : ∀ c y, H c = some (.own y) → c ≠ x := fun c y r z => by subst z; rw [r] at mu; exact mu
 have ntup : ∀ c xs, H c = some (.tup xs) → c ≠ x := fun c xs r z => by subst z; rw [r] at mu; exact mu
 by_cases hb : b = x
 ·subst hb; rw [upd_same] at q; cases q; exact new
 ·rw [upd_ne hb] at q
  by_cases hbe : b = e
  ·have q' : H b = some (.own x) := by
    rcases he with z | z
    ·exact absurd (hbe.trans z) hb
    ·rw [hbe]; exact z
   rw [q] at q'; cases q'
   obtain ⟨v, hv⟩ := heo
   exact ⟨v, by rw [hbe]; exact hv⟩
  ·refine (ok b u q).stay (fun c v hc r => k c v ?_ r) (fun c r => by rw [upd_ne (nown c b r)]; exact r) fun c xs r => by rw [upd_ne (ntup c xs r)]; exact r
   rcases hc with rfl | hc
   ·exact hbe
   ·rintro rfl
    rcases he with z | z
    ·exact nown c b hc z
    ·rw [hc] at z; cases z; exact hb rfl
end
structure Un (fs ex : List Addr) (H H' : Hp) (h h' : Heap) : Prop where
 keep : ∀ b o, h.get? b = some o → H b = none → b ∉ fs → b ∉ ex → h'.get? b = some o
 slot : ∀ b o, h.get? b = some o → H b = none → b ∈ fs → b ∉ ex → ∃ sl, h'.get? b = some { o with slots := sl }
 free : ∀ b o, h.get? b = some o → H b = none → b ∉ ex → H' b = none
 there : ∀ b o, h.get? b = some o → b ∉ ex → ∃ o', h'.get? b = some o'
 tups : ∀ b xs, H b = some (.tup xs) → H' b = some (.tup xs)
 frzs : ∀ b o u, H b = some (.frz o u) → H' b = some (.frz o u)
 tbls : ∀ b ps, H b = some (.tbl ps) → ∃ more, H' b = some (.tbl (ps ++ more))
section
variable {fs fs' ex ex' : List Addr} {H H1 H2 : Hp} {h h1 h2 h' : Heap} {a x e : Addr} {o : HO}
theorem Un.any (u : Un fs ex H H1 h h1) {b : Addr} {ob : Obj} (q : h.get? b = some ob) (n : H b = none) (hx : b ∉ ex) : ∃ sl, h1.get? b = some { ob with slots := sl } := by
 by_cases hb : b ∈ fs
 ·exact u.slot b ob q n hb hx
 ·exact ⟨ob.slots, u.keep b ob q n hb hx⟩
theorem Un.trans (a : Un fs ex H H1 h h1) (b : Un fs ex H1 H2 h1 h2) : Un fs ex H H2 h h2 where
 keep := fun c ob q n hc hx => b.keep c ob (a.keep c ob q n hc hx) (a.free c ob q n hx) hc hx
 slot := fun c ob q n hc hx => by
  obtain ⟨sl, e1⟩ := a.slot c ob q n hc hx
  obtain ⟨sl', e2⟩ := b.slot c _ e1 (a.free c ob q n hx) hc hx
  exact ⟨sl', e2⟩
 free := fun c ob q n hx => by
  obtain ⟨o', e1⟩ := a.there c ob q hx
  exact b.free c o' e1 (a.free c ob q n hx) hx
 there := fun c ob q hx => by
  obtain ⟨o', e1⟩ := a.there c ob q hx
  exact b.there c o' e1 hx
 tups := fun c xs q => b.tups c xs (a.tups c xs q)
 frzs := fun c ob xs q => b.frzs c ob xs (a.frzs c ob xs q)
 tbls := fun c ps q => by
  obtain ⟨m1, e1⟩ := a.tbls c ps q
  obtain ⟨m2, e2⟩ := b.tbls c _ e1
  exact ⟨m1 ++ m2, by rw [e2, Array.append_assoc]⟩
theorem Un.kept (k : ∀ b u, h.get? b = some u → h'.get? b = some u) : Un fs ex H H h h' :=
 ⟨fun b ob q _ _ _ => k b ob q, fun b ob q _ _ _ => ⟨ob.slots, k b ob q⟩, fun _ _ _ n _ => n, fun b ob q _ => ⟨ob, k b ob q⟩, fun _ _ q => q, fun _ _ _ q => q, fun _ ps q => ⟨#[], by rw [q]; simp⟩⟩
theorem Un.refl : Un fs ex H H h h := Un.kept fun _ _ q => q
theorem Un.laid (k : ∀ b u, h.get? b = some u → h'.get? b = some u) (hp : h.objs.size ≤ a) (hn : H a = none) : Un fs ex H (upd H a o) h h' where
 keep := fun b u q _ _ _ => k b u q
 slot := fun b u q _ _ _ => ⟨u.slots, k b u q⟩
 free := fun b u q n _ => by rw [upd_ne (Nat.ne_of_lt (Nat.lt_of_lt_of_le (Heap.lt_size q) hp))]; exact n
 there := fun b u q _ => ⟨u, k b u q⟩
 tups := fun b xs q => by rw [upd_ne (ne_of_none q hn)]; exact q
 frzs := fun b u xs q => by rw [upd_ne (ne_of_none q hn)]; exact q
 tbls := fun b ps q => ⟨#[], by rw [upd_ne (ne_of_none q hn), q]; simp⟩
theorem Un.write (mu : Mut (H x)) (he : e = x ∨ H e = some (.own x)) (k : ∀ b u, b ≠ e → h.get? b = some u → h'.get? b = some u) (heo : ∃ u, h'.get? e = some u) : Un fs ex H (upd H x o) h h' := by
 have hx : ∀ b, H b = none → b ≠ x := fun b n z => by subst z; rw [n] at mu; exact mu
 have hb : ∀ b, H b = none → b ≠ e := fun b n z => by
  subst z
  rcases he with r | r
  ·exact hx b n r
  ·rw [n] at r; cases r
 have hm : ∀ b u, H b = some u → ¬ Mut (some u) → b ≠ x := fun b u q nm z => by subst z; rw [q] at mu; exact nm mu
 refine ⟨fun b u q n _ _ => k b u (hb b n) q, fun b u q n _ _ => ⟨u.slots, k b u (hb b n) q⟩, fun b u q n _ => by rw [upd_ne (hx b n)]; exact n, fun b u q _ => ?_,
  fun b xs q => by rw [upd_ne (hm b _ q fun z => z)]; exact q, fun b u xs q => by rw [upd_ne (hm b _ q fun z => z)]; exact q, fun b ps q => ⟨#[], by rw [upd_ne (hm b _ q fun z => z), q]; simp⟩⟩
 by_cases hbe : b = e
 ·subst hbe; exact heo
 ·exact ⟨u, k b u hbe q⟩
end
def trk (h : Heap) (H : Hp) : List Addr := (List.range h.objs.size).filter fun a => (H a).isSome
def hidT (h : Heap) (H : Hp) : Heap := PySem.W.hideAll h (trk h H)
theorem hidT_size (h : Heap) (H : Hp) : (hidT h H).objs.size = h.objs.size := PySem.W.hideAll_size _ _
theorem hidT_get {h : Heap} {H : Hp} {b : Addr} {o : Obj} (e : h.get? b = some o) (n : H b = none) : (hidT h H).get? b = some o :=
 PySem.W.hideAll_get _ e fun hm => by
  have q : (H b).isSome = true := (List.mem_filter.mp hm).2
  rw [n] at q; simp at q
theorem of_hidT {h : Heap} {H : Hp} {b : Addr} {o : Obj} (e : (hidT h H).get? b = some o) : h.get? b = some o ∧ H b = none := by
 have e' : h.get? b = some o := PySem.W.of_hideAll (trk h H) e
 refine ⟨e', ?_⟩
 cases q : H b with
 | none => rfl
 | some x =>
   have hm : b ∈ trk h H := List.mem_filter.mpr ⟨List.mem_range.mpr (Heap.lt_size e'), by simp [q]⟩
   have z : (hidT h H).get? b = none := PySem.W.hideAll_none (trk h H) hm
   rw [z] at e; cases e
def allNews (g h : Heap) (L : Addr) : List (Addr × Obj) := (List.range h.objs.size).filterMap fun a => if a = L ∨ (g.get? a).isSome = true then none else (h.get? a).map fun o => (a, o)
def rest (g h : Heap) (L d : Addr) : List (Addr × Obj) := (allNews g h L).filter fun p => decide (p.1 ≠ d)
end L2
namespace L2
open PySem PySem.Spec PyProof.Rows
structure Mod (K : PySem.W.Frag) (mg : Str → Option Value) (base : Heap) : Prop where
 kin : K.In base
 glob : base.Ns mainGlobals mg
 blt : ∃ mb, base.Ns builtinsNs mb ∧ ∀ x : Str, x ≠ "__name__" → mb x = bootBuiltins x
 nolimit : base.NoLimit
structure Cx where
 prog : Program
 w : World
 K : PySem.W.Frag
 mg : Str → Option Value
 base : Heap
 A : Around
 N : List Str
 s₀ : Shared
 H₀ : Hp
 env : Env
 outer : List Env
 stack : List Env
 ex : List Addr
 fn : Str → Bool
 calm : Bool
 pn : List (Addr × Obj)
 xe : Value → Shared → Prop
def frs (l : List Env) : List Addr := l.filterMap (·.frame)
abbrev Cx.fs (X : Cx) : List Addr := frs X.outer
def Vis (sc : Scope) (x : Str) : Prop := sc.names.lookup x = some .local ∨ sc.names.lookup x = some .cell ∨ sc.names.lookup x = some .free
def Loc (sc : Scope) (x : Str) : Prop := sc.names.lookup x = some .local ∨ sc.names.lookup x = some .cell
def Look (env : Env) (h : Heap) (m : Str → Option Value) (x : Str) (u : Value) : Prop :=
 (env.kindOf x = some .local ∧ m x = some u) ∨ ((env.kindOf x = some .cell ∨ env.kindOf x = some .free) ∧ ∃ c, env.cells.lookup x = some c ∧ h.IsCell c (some u))
structure Cx.Ok (X : Cx) : Prop where
 mod : Mod X.K X.mg X.base
 kind : X.env.scope.kind = .function
 glob : X.env.globals = mainGlobals
 blt : X.env.builtins = builtinsNs
 above : X.s₀.heap.objs.size ≤ X.env.locals
 inj : ∀ x y c, X.env.cells.lookup x = some c → X.env.cells.lookup y = some c → x = y
 has : ∀ x, (X.env.kindOf x = some .cell ∨ X.env.kindOf x = some .free) → ∃ c, X.env.cells.lookup x = some c
 cab : ∀ x c, X.fn x = true → X.env.cells.lookup x = some c → X.s₀.heap.objs.size ≤ c
 hd : X.calm = true → X.A.handled = none
 frames : X.A.frames = some X.stack
 stk : X.stack = X.outer ∨ (X.stack = X.env :: X.outer ∧ X.env.frame = some X.env.locals)
 exf : ∀ b ∈ X.ex, b ≠ X.env.locals ∧ ∀ x c, X.env.cells.lookup x = some c → c ≠ b
 bs : ∀ b o, X.base.get? b = some o → X.s₀.heap.get? b = some o ∧ X.H₀ b = none
 bsz : X.base.objs.size ≤ X.s₀.heap.objs.size
 noex : ∀ b o, X.base.get? b = some o → b ∉ X.ex
 exfs : ∀ b ∈ X.ex, b ∉ X.fs
 funs : X.s₀.heap.FunFrames X.base X.outer
 frf : ∀ b ∈ X.fs, X.H₀ b = none
structure Inv (X : Cx) (pins : List (Addr × Obj)) (σ : List (Option V)) (H : Hp) (s : Shared) : Prop where
 ok : X.Ok
 os : s.os = X.s₀.os
 bare : AllBare s.gens
 base : Un X.fs X.ex X.H₀ H X.s₀.heap s.heap
 loc : ∃ m, s.heap.Ns X.env.locals m ∧ ∀ (i : Nat) (x : Str) (v : V), X.N[i]? = some x → σ[i]? = some (some v) → Vis X.env.scope x → ∃ u, RelV v u ∧ Look X.env s.heap m x u
 cell : ∀ x c, X.env.cells.lookup x = some c → ∃ v, s.heap.IsCell c v
 free : H X.env.locals = none
 freeC : ∀ x c, X.env.cells.lookup x = some c → H c = none
 pin : ∀ p ∈ X.pn ++ pins, s.heap.get? p.1 = some p.2 ∧ H p.1 = none ∧ p.1 ≠ X.env.locals ∧ p.1 ∉ X.fs ∧ ∀ v, p.2.data ≠ .cell v
 hok : HOk X.prog X.w H s.heap
 len : σ.length = X.N.length
section
variable {X : Cx} {pins : List (Addr × Obj)} {σ : List (Option V)} {H H' : Hp} {s : Shared} {h' : Heap}
theorem Cx.Ok.nofr (ok : X.Ok) {b : Addr} {o : Obj} (e : X.base.get? b = some o) : b ∉ X.fs := fun hb => by
 have := (ok.funs.mem hb).1
 rw [e] at this; cases this
theorem Inv.bs (I : Inv X pins σ H s) : ∀ b o, X.base.get? b = some o → s.heap.get? b = some o ∧ H b = none := fun b o e =>
 ⟨I.base.keep b o (I.ok.bs b o e).1 (I.ok.bs b o e).2 (I.ok.nofr e) (I.ok.noex b o e), I.base.free b o (I.ok.bs b o e).1 (I.ok.bs b o e).2 (I.ok.noex b o e)⟩
theorem Inv.bk (I : Inv X pins σ H s) : ∀ b o, X.base.get? b = some o → s.heap.get? b = some o := fun b o e => (I.bs b o e).1
theorem Inv.mod (I : Inv X pins σ H s) : Mod X.K X.mg X.base := I.ok.mod
theorem Inv.kIn (I : Inv X pins σ H s) : X.K.In s.heap := I.ok.mod.kin.keeps I.bk
theorem Inv.lt (I : Inv X pins σ H s) : X.env.locals < s.heap.objs.size := let ⟨_, hn, _⟩ := I.loc; hn.lt
theorem Inv.sz (I : Inv X pins σ H s) : X.s₀.heap.objs.size ≤ s.heap.objs.size := Nat.le_trans I.ok.above (Nat.le_of_lt I.lt)
theorem Inv.nofs (I : Inv X pins σ H s) {a : Addr} (h : s.heap.objs.size ≤ a) : a ∉ X.fs := fun hb => by
 obtain ⟨_, o, ho, _⟩ := I.ok.funs.mem hb
 exact absurd (Nat.lt_of_lt_of_le (Heap.lt_size ho) (Nat.le_trans I.sz h)) (Nat.lt_irrefl _)
theorem Inv.cne (I : Inv X pins σ H s) : ∀ x c, X.env.cells.lookup x = some c → c ≠ X.env.locals := fun x c e z => by
 obtain ⟨v, o, ho, hd⟩ := I.cell x c e
 obtain ⟨m, ⟨o', es, ep, ho', hd', _⟩, _⟩ := I.loc
 rw [z, ho'] at ho; cases ho; rw [hd'] at hd; cases hd
theorem Inv.funs (I : Inv X pins σ H s) : s.heap.FunFrames X.base X.outer := by
 have all : ∀ (l : List Env), (∀ b ∈ frs l, b ∈ X.fs) → X.s₀.heap.FunFrames X.base l → s.heap.FunFrames X.base l := by
  intro l
  induction l with
  | nil => intro _ _; trivial
  | cons env r ih =>
    intro hs hl
    obtain ⟨hk, ⟨L, o, hf, hn, ho, hd⟩, hr⟩ := hl
    have hL : L ∈ X.fs := hs L (by unfold frs; rw [List.filterMap_cons, hf]; exact List.mem_cons_self)
    obtain ⟨sl, e⟩ := I.base.slot L o ho (I.ok.frf L hL) hL fun z => I.ok.exfs L z hL
    exact ⟨hk, ⟨L, _, hf, hn, e, hd⟩, ih (fun b hb => hs b (by unfold frs; rw [List.filterMap_cons, hf]; exact List.mem_cons_of_mem _ hb)) hr⟩
 exact all X.outer (fun _ hb => hb) I.ok.funs
theorem Inv.stack (I : Inv X pins σ H s) : s.heap.FunFrames X.base X.stack := by
 rcases I.ok.stk with e | ⟨e, hf⟩
 ·rw [e]; exact I.funs
 ·rw [e]
  obtain ⟨m, hn, _⟩ := I.loc
  refine .cons (by rw [I.ok.kind]; decide) hf hn ?_ I.funs
  exact Heap.get?_none_of_le (Nat.le_trans I.ok.bsz I.ok.above)
theorem Inv.stkSub (I : Inv X pins σ H s) : ∀ b ∈ frs X.stack, b ∈ X.env.locals :: X.fs := fun b hb => by
 rcases I.ok.stk with e | ⟨e, hf⟩
 ·rw [e] at hb; exact List.mem_cons_of_mem _ hb
 ·rw [e] at hb
  unfold frs at hb
  rw [List.filterMap_cons, hf] at hb
  exact hb
theorem Inv.stkFree (I : Inv X pins σ H s) : ∀ b ∈ frs X.stack, H b = none := fun b hb => by
 rcases List.mem_cons.mp (I.stkSub b hb) with e | hb
 ·rw [e]; exact I.free
 ·obtain ⟨_, o, ho, _⟩ := I.ok.funs.mem hb
  exact I.base.free b o ho (I.ok.frf b hb) fun z => I.ok.exfs b z hb
theorem Inv.step {g' : Array GenState} {t' : Nat} {d' : Drawn} {ch : List Addr} (I : Inv X pins σ H s)
 (hch : ∀ b ∈ ch, (b ∈ X.ex ∨ X.s₀.heap.objs.size ≤ b) ∧ b ≠ X.env.locals ∧ (∀ x c, X.env.cells.lookup x = some c → c ≠ b) ∧ ∀ p ∈ X.pn ++ pins, p.1 ≠ b)
 (keep : ∀ b o, b ≠ X.env.locals → b ∉ X.fs → b ∉ ch → s.heap.get? b = some o → H b = none → h'.get? b = some o)
 (slot : ∀ b o, b ≠ X.env.locals → b ∈ X.fs → b ∉ ch → s.heap.get? b = some o → H b = none → ∃ sl, h'.get? b = some { o with slots := sl }) (free : ∀ b o, b ∉ ch → s.heap.get? b = some o → H b = none → H' b = none)
 (there : ∀ b o, b ∉ ch → s.heap.get? b = some o → ∃ o', h'.get? b = some o')
 (tups : ∀ b xs, H b = some (.tup xs) → H' b = some (.tup xs)) (frzs : ∀ b o u, H b = some (.frz o u) → H' b = some (.frz o u)) (tbls : ∀ b ps, H b = some (.tbl ps) → ∃ more, H' b = some (.tbl (ps ++ more)))
 (ns : ∀ m, s.heap.Ns X.env.locals m → h'.Ns X.env.locals m) (hok : HOk X.prog X.w H' h') (hg : AllBare g') :
 Inv X pins σ H' { s with heap := h', gens := g', drawn := d', toks := t' } := by
 have neL : ∀ b o, X.s₀.heap.get? b = some o → b ≠ X.env.locals := fun b o e => Nat.ne_of_lt (Nat.lt_of_lt_of_le (Heap.lt_size e) I.ok.above)
 have neC : ∀ b o, X.s₀.heap.get? b = some o → b ∉ X.ex → b ∉ ch := fun b o e hx hb => by
  rcases (hch b hb).1 with z | z
  ·exact hx z
  ·exact absurd (Nat.lt_of_lt_of_le (Heap.lt_size e) z) (Nat.lt_irrefl _)
 have cellK : ∀ x c, X.env.cells.lookup x = some c → ∀ v, s.heap.IsCell c v → h'.IsCell c v := fun x c e v ⟨o, ho, hd⟩ => by
  have nch : c ∉ ch := fun z => (hch c z).2.2.1 x c e rfl
  by_cases hc : c ∈ X.fs
  ·obtain ⟨sl, q⟩ := slot c o (I.cne x c e) hc nch ho (I.freeC x c e)
   exact ⟨_, q, hd⟩
  ·exact ⟨o, keep c o (I.cne x c e) hc nch ho (I.freeC x c e), hd⟩
 refine ⟨I.ok, I.os, hg, ⟨fun b o e n hb hx => ?_, fun b o e n hb hx => ?_, fun b o e n hx => ?_, fun b o e hx => ?_, fun b xs e => tups b xs (I.base.tups b xs e), fun b o xs e => frzs b o xs (I.base.frzs b o xs e), fun b ps e => ?_⟩, ?_, fun x c e => ?_, ?_, fun x c e => ?_, fun p hp => ?_, hok, I.len⟩
 ·exact keep b o (neL b o e) hb (neC b o e hx) (I.base.keep b o e n hb hx) (I.base.free b o e n hx)
 ·obtain ⟨sl, e1⟩ := I.base.slot b o e n hb hx
  obtain ⟨sl', e2⟩ := slot b _ (neL b o e) hb (neC b o e hx) e1 (I.base.free b o e n hx)
  exact ⟨sl', e2⟩
 ·obtain ⟨o', e1⟩ := I.base.there b o e hx
  exact free b o' (neC b o e hx) e1 (I.base.free b o e n hx)
 ·obtain ⟨o', e1⟩ := I.base.there b o e hx
  exact there b o' (neC b o e hx) e1
 ·obtain ⟨m1, e1⟩ := I.base.tbls b ps e
  obtain ⟨m2, e2⟩ := tbls b _ e1
  exact ⟨m1 ++ m2, by rw [e2, Array.append_assoc]⟩
 ·obtain ⟨m, hn, hl⟩ := I.loc
  refine ⟨m, ns m hn, fun i x v e1 e2 e3 => ?_⟩
  obtain ⟨u, r, l⟩ := hl i x v e1 e2 e3
  refine ⟨u, r, ?_⟩
  rcases l with l | ⟨k, c, e, z⟩
  ·exact .inl l
  ·exact .inr ⟨k, c, e, cellK x c e _ z⟩
 ·obtain ⟨v, z⟩ := I.cell x c e
  exact ⟨v, cellK x c e v z⟩
 ·obtain ⟨m, ⟨o, _, _, ho, _⟩, _⟩ := I.loc
  exact free _ o (fun z => (hch _ z).2.1 rfl) ho I.free
 ·obtain ⟨v, o, ho, hd⟩ := I.cell x c e
  exact free c o (fun z => (hch c z).2.2.1 x c e rfl) ho (I.freeC x c e)
 ·obtain ⟨e, n, ne, nf, d⟩ := I.pin p hp
  have nch : p.1 ∉ ch := fun z => (hch p.1 z).2.2.2 p hp rfl
  exact ⟨keep p.1 p.2 ne nf nch e n, free p.1 p.2 nch e n, ne, nf, d⟩
theorem Inv.un {t' : Nat} (I : Inv X pins σ H s) (u : Un X.fs [] H H' s.heap h') (hok : HOk X.prog X.w H' h') : Inv X pins σ H' { s with heap := h', toks := t' } := by
 obtain ⟨m, ⟨o, es, ep, ho, r⟩, _⟩ := id I.loc
 obtain ⟨sl, hL⟩ := u.any ho I.free (by simp)
 exact I.step (g' := s.gens) (d' := s.drawn) (ch := []) (fun _ z => nomatch z) (fun b o _ hb _ e n => u.keep b o e n hb (by simp)) (fun b o _ hb _ e n => u.slot b o e n hb (by simp)) (fun b o _ e n => u.free b o e n (by simp)) (fun b o _ e => u.there b o e (by simp)) u.tups u.frzs u.tbls (fun m' hm => by
  obtain ⟨o', es', ep', ho', r'⟩ := hm
  rw [ho] at ho'; cases ho'
  exact ⟨_, es', ep', hL, r'⟩) hok I.bare
theorem Inv.call {g' : Array GenState} {t' : Nat} {d' : Drawn} {ch : List Addr} (I : Inv X pins σ H s) (u : Un (frs X.stack) ch H H' s.heap h') (hok : HOk X.prog X.w H' h') (hg : AllBare g')
 (hch : ∀ b ∈ ch, (b ∈ X.ex ∨ X.s₀.heap.objs.size ≤ b) ∧ b ≠ X.env.locals ∧ (∀ x c, X.env.cells.lookup x = some c → c ≠ b) ∧ ∀ p ∈ X.pn ++ pins, p.1 ≠ b) :
 Inv X pins σ H' { s with heap := h', gens := g', drawn := d', toks := t' } := by
 obtain ⟨m, ⟨o, es, ep, ho, r⟩, _⟩ := id I.loc
 obtain ⟨sl, hL⟩ := u.any ho I.free fun z => (hch _ z).2.1 rfl
 exact I.step (ch := ch) hch (fun b o hL hb hc e n => u.keep b o e n (fun z => (List.mem_cons.mp (I.stkSub b z)).elim hL hb) hc) (fun b o _ _ hc e n => u.any e n hc) (fun b o hc e n => u.free b o e n hc) (fun b o hc e => u.there b o e hc) u.tups u.frzs u.tbls (fun m' hm => by
  obtain ⟨o', es', ep', ho', r'⟩ := hm
  rw [ho] at ho'; cases ho'
  exact ⟨_, es', ep', hL, r'⟩) hok hg
theorem Inv.turned {t' : Nat} {it : Addr} (I : Inv X pins σ H s) (k : ∀ b o, b ≠ it → s.heap.get? b = some o → h'.get? b = some o) (hn : H it = none) (hL : it ≠ X.env.locals)
 (h1 : it ∈ X.ex ∨ X.s₀.heap.objs.size ≤ it) (h2 : ∀ x c, X.env.cells.lookup x = some c → c ≠ it) (h3 : ∀ p ∈ X.pn ++ pins, p.1 ≠ it) : Inv X pins σ H { s with heap := h', toks := t' } := by
 have nit : ∀ b u, H b = some u → b ≠ it := fun b u e z => by rw [z, hn] at e; cases e
 refine I.step (g' := s.gens) (d' := s.drawn) (ch := [it]) (fun b hb => ?_) (fun b o _ _ hc e _ => k b o (fun z => hc (by simp [z])) e) (fun b o _ _ hc e _ => ⟨o.slots, k b o (fun z => hc (by simp [z])) e⟩) (fun _ _ _ _ n => n)
  (fun b o hc e => ⟨o, k b o (fun z => hc (by simp [z])) e⟩) (fun _ _ e => e) (fun _ _ _ e => e) (fun b ps e => ⟨#[], by rw [e]; simp⟩) (fun m hm => ?_) (fun b u e => ?_) I.bare
 ·have e : b = it := by simpa using hb
  subst e
  exact ⟨h1, hL, h2, h3⟩
 ·obtain ⟨o, es, ep, ho, r⟩ := hm
  exact ⟨o, es, ep, k _ o (Ne.symm hL) ho, r⟩
 ·refine (I.hok b u e).stay (fun c v hc q => k c v ?_ q) (fun _ q => q) fun _ _ q => q
  rcases hc with z | z
  ·rw [z]; exact nit b u e
  ·exact nit c _ z
theorem Inv.tok (I : Inv X pins σ H s) (t : Nat) : Inv X pins σ H { s with toks := t } := I.un (h' := s.heap) (t' := t) Un.refl I.hok
theorem Inv.kept {t' : Nat} (I : Inv X pins σ H s) (k : ∀ b u, s.heap.get? b = some u → h'.get? b = some u) : Inv X pins σ H { s with heap := h', toks := t' } := I.un (Un.kept k) (I.hok.kept k)
theorem Inv.laid {a : Addr} {o : HO} {t' : Nat} (I : Inv X pins σ H s) (k : ∀ b u, s.heap.get? b = some u → h'.get? b = some u) (hp : s.heap.objs.size ≤ a) (new : ObjOk X.prog X.w (upd H a o) h' a o) :
 Inv X pins σ (upd H a o) { s with heap := h', toks := t' } := I.un (Un.laid k hp (I.hok.fresh hp)) (I.hok.laid k hp new)
theorem Inv.write {x e : Addr} {o : HO} {t' : Nat} (I : Inv X pins σ H s) (mu : Mut (H x)) (he : e = x ∨ H e = some (.own x)) (k : ∀ b u, b ≠ e → s.heap.get? b = some u → h'.get? b = some u) (heo : ∃ u, h'.get? e = some u)
 (new : ObjOk X.prog X.w (upd H x o) h' x o) : Inv X pins σ (upd H x o) { s with heap := h', toks := t' } := I.un (Un.write mu he k heo) (I.hok.write mu he k heo new)
theorem Inv.weak {σ' : List (Option V)} (I : Inv X pins σ H s) (hl : σ'.length = σ.length) (w : ∀ (i : Nat) v, σ'[i]? = some (some v) → σ[i]? = some (some v)) : Inv X pins σ' H s :=
 ⟨I.ok, I.os, I.bare, I.base, let ⟨m, hn, hl'⟩ := I.loc; ⟨m, hn, fun i x v e1 e2 e3 => hl' i x v e1 (w i v e2) e3⟩, I.cell, I.free, I.freeC, I.pin, I.hok, hl.trans I.len⟩
theorem Inv.pins_of {pins' : List (Addr × Obj)} (I : Inv X pins σ H s) (h : ∀ p ∈ pins', s.heap.get? p.1 = some p.2 ∧ H p.1 = none ∧ p.1 ≠ X.env.locals ∧ p.1 ∉ X.fs ∧ ∀ v, p.2.data ≠ .cell v) : Inv X pins' σ H s :=
 ⟨I.ok, I.os, I.bare, I.base, I.loc, I.cell, I.free, I.freeC, fun p hp => (List.mem_append.mp hp).elim (fun z => I.pin p (List.mem_append_left _ z)) (h p), I.hok, I.len⟩
theorem nodup_ix {N : List Str} (hN : N.Nodup) {i j : Nat} {x : Str} (a : N[i]? = some x) (b : N[j]? = some x) : i = j := by
 obtain ⟨h1, e1⟩ := List.getElem?_eq_some_iff.mp a
 obtain ⟨h2, e2⟩ := List.getElem?_eq_some_iff.mp b
 exact (List.getElem_inj hN).mp (e1.trans e2.symm)
theorem store_ok2 {M : Model} {A : Around} {E : Value → Shared → Prop} {i : Nat} {x : Str} {v : V} {u : Value} {Q : Unit → Shared → Prop} (I : Inv X pins σ H s) (hN : X.N.Nodup) (hi : X.N[i]? = some x) (hx : Loc X.env.scope x) (r : RelV v u)
 (h : ∀ s', Inv X pins (σ.set i (some v)) H s' → (∃ a, Heap.SameBut a s.heap s'.heap ∧ (a = X.env.locals ∨ X.env.cells.lookup x = some a)) → Q () s') (hf : X.fn x = true ∨ X.env.scope.names.lookup x = some .local := by first | exact .inl rfl | exact .inr rfl | assumption) : wpAny M A (storeName X.env x u) Q E s := by
 obtain ⟨m, hn, hl⟩ := id I.loc
 have hcls : (X.env.scope.kind == .class || (X.env.scope.kind == .module && X.env.locals != X.env.globals)) = false := by rw [I.ok.kind]; rfl
 have hiσ : i < σ.length := by rw [I.len]; exact (List.getElem?_eq_some_iff.mp hi).1
 have cne := I.cne
 have tracked : ∀ {a : Addr} {h' : Heap}, (∃ o, s.heap.get? a = some o ∧ H a = none) → Heap.SameBut a s.heap h' → HOk X.prog X.w H h' := fun {a h'} ha hs b ob e => by
  obtain ⟨_, _, hfree⟩ := ha
  refine (I.hok b ob e).stay (fun c w' hc q => (hs.2 c ?_).trans q) (fun _ q => q) fun _ _ q => q
  rintro rfl
  rcases hc with rfl | hc
  ·rw [hfree] at e; cases e
  ·rw [hfree] at hc; cases hc
 rcases hx with hk | hk
 ·refine wpAny_storeName_local hk hn (fun h' hn' hs => ?_) hcls
  obtain ⟨oL, _, _, hoL, _⟩ := id hn
  refine h _ ⟨I.ok, I.os, I.bare, ⟨fun b o e n hb hx => ?_, fun b o e n hb hx => ?_, I.base.free, fun b o e hx => ?_, I.base.tups, I.base.frzs, I.base.tbls⟩, ⟨_, hn', fun j y v' e1 e2 e3 => ?_⟩, fun y c e => ?_, I.free, I.freeC, fun p hp => ?_, tracked ⟨oL, hoL, I.free⟩ hs, by simpa using I.len⟩ ⟨_, hs, .inl rfl⟩
  ·exact (hs.2 b (Nat.ne_of_lt (Nat.lt_of_lt_of_le (Heap.lt_size e) I.ok.above))).trans (I.base.keep b o e n hb hx)
  ·obtain ⟨sl, e1⟩ := I.base.slot b o e n hb hx
   exact ⟨sl, (hs.2 b (Nat.ne_of_lt (Nat.lt_of_lt_of_le (Heap.lt_size e) I.ok.above))).trans e1⟩
  ·obtain ⟨o', e1⟩ := I.base.there b o e hx
   exact ⟨o', (hs.2 b (Nat.ne_of_lt (Nat.lt_of_lt_of_le (Heap.lt_size e) I.ok.above))).trans e1⟩
  ·by_cases hj : j = i
   ·subst hj
    rw [hi] at e1; cases e1
    rw [List.getElem?_set_self hiσ] at e2
    cases e2
    exact ⟨u, r, .inl ⟨hk, by simp⟩⟩
   ·rw [List.getElem?_set_ne (Ne.symm hj)] at e2
    obtain ⟨u', r', q⟩ := hl j y v' e1 e2 e3
    refine ⟨u', r', ?_⟩
    rcases q with ⟨k, e⟩ | ⟨k, c, e, z⟩
    ·refine .inl ⟨k, ?_⟩
     have : y ≠ x := fun e => hj (nodup_ix hN e1 (e ▸ hi))
     simp [this, e]
    ·exact .inr ⟨k, c, e, z.sameBut hs (cne y c e)⟩
  ·obtain ⟨w', z⟩ := I.cell y c e
   exact ⟨w', z.sameBut hs (cne y c e)⟩
  ·obtain ⟨e, n, ne, nf, d⟩ := I.pin p hp
   exact ⟨(hs.2 p.1 ne).trans e, n, ne, nf, d⟩
 ·have hfn : X.fn x = true := by
   rcases hf with z | z
   ·exact z
   ·rw [z] at hk; cases hk
  obtain ⟨c, hc⟩ := I.ok.has x (.inl hk)
  obtain ⟨w', z⟩ := I.cell x c hc
  refine wpAny_storeName_cell I.ok.kind hk hc z (fun h' hc' hs => ?_)
  obtain ⟨oc, hoc, hocd⟩ := id z
  refine h { s with heap := h' } ⟨I.ok, I.os, I.bare, ⟨fun b o e n hb hx => ?_, fun b o e n hb hx => ?_, I.base.free, fun b o e hx => ?_, I.base.tups, I.base.frzs, I.base.tbls⟩, ⟨m, hn.sameBut hs (Ne.symm (cne x c hc)), fun j y v' e1 e2 e3 => ?_⟩, fun y c' e => ?_, I.free, I.freeC, fun p hp => ?_, tracked ⟨oc, hoc, I.freeC x c hc⟩ hs, by simpa using I.len⟩ ⟨c, hs, .inr hc⟩
  ·exact (hs.2 b (Nat.ne_of_lt (Nat.lt_of_lt_of_le (Heap.lt_size e) (I.ok.cab x c hfn hc)))).trans (I.base.keep b o e n hb hx)
  ·obtain ⟨sl, e1⟩ := I.base.slot b o e n hb hx
   exact ⟨sl, (hs.2 b (Nat.ne_of_lt (Nat.lt_of_lt_of_le (Heap.lt_size e) (I.ok.cab x c hfn hc)))).trans e1⟩
  ·obtain ⟨o', e1⟩ := I.base.there b o e hx
   exact ⟨o', (hs.2 b (Nat.ne_of_lt (Nat.lt_of_lt_of_le (Heap.lt_size e) (I.ok.cab x c hfn hc)))).trans e1⟩
  ·by_cases hj : j = i
   ·subst hj
    rw [hi] at e1; cases e1
    rw [List.getElem?_set_self hiσ] at e2
    cases e2
    exact ⟨u, r, .inr ⟨.inl hk, c, hc, hc'⟩⟩
   ·rw [List.getElem?_set_ne (Ne.symm hj)] at e2
    obtain ⟨u', r', q⟩ := hl j y v' e1 e2 e3
    refine ⟨u', r', ?_⟩
    rcases q with q | ⟨k, c', e, z'⟩
    ·exact .inl q
    ·refine .inr ⟨k, c', e, z'.sameBut hs ?_⟩
     rintro rfl
     exact hj (nodup_ix hN e1 (I.ok.inj _ _ _ e hc ▸ hi))
  ·by_cases hcc : c' = c
   ·subst hcc; exact ⟨_, hc'⟩
   ·obtain ⟨w2, z2⟩ := I.cell y c' e
    exact ⟨w2, z2.sameBut hs hcc⟩
  ·obtain ⟨e, n, ne, nf, d⟩ := I.pin p hp
   refine ⟨(hs.2 p.1 ?_).trans e, n, ne, nf, d⟩
   intro q
   rw [q, hoc] at e
   have q' : oc = p.2 := Option.some.inj e
   exact d w' (by rw [← q']; exact hocd)
theorem store_ok {M : Model} {A : Around} {E : Value → Shared → Prop} {i : Nat} {x : Str} {v : V} {u : Value} {Q : Unit → Shared → Prop} (I : Inv X pins σ H s) (hN : X.N.Nodup) (hi : X.N[i]? = some x) (hx : Loc X.env.scope x) (r : RelV v u)
 (h : ∀ s', Inv X pins (σ.set i (some v)) H s' → Q () s') (hf : X.fn x = true ∨ X.env.scope.names.lookup x = some .local := by first | exact .inl rfl | exact .inr rfl | assumption) : wpAny M A (storeName X.env x u) Q E s :=
 store_ok2 I hN hi hx r (fun s' I' _ => h s' I') hf
theorem Inv.call' {s' : Shared} {ch : List Addr} (I : Inv X pins σ H s) (ho : s'.os = s.os) (u : Un (frs X.stack) ch H H' s.heap s'.heap) (hok : HOk X.prog X.w H' s'.heap) (hg : AllBare s'.gens)
 (hch : ∀ b ∈ ch, (b ∈ X.ex ∨ X.s₀.heap.objs.size ≤ b) ∧ b ≠ X.env.locals ∧ (∀ x c, X.env.cells.lookup x = some c → c ≠ b) ∧ ∀ p ∈ X.pn ++ pins, p.1 ≠ b) : Inv X pins σ H' s' := by
 obtain ⟨h', g', d', t', o'⟩ := s'
 have e : o' = s.os := ho
 subst e
 exact I.call (g' := g') (t' := t') (d' := d') u hok hg hch
end
abbrev XK := Value → Option Addr → Hp → Prop
abbrev St := List (Option V)
abbrev VK := V → Hp → Prop
abbrev TE := St → Hp → VK → Prop
abbrev TT := St → Hp → (Bool → Hp → Prop) → Prop
abbrev TA := St → Hp → (List V → Hp → Prop) → Prop
structure Ends where
 nx : St → Hp → Prop
 rt : VK
 bk : St → Hp → Prop := fun _ _ => False
 ct : St → Hp → Prop := fun _ _ => False
abbrev TS := Ends → St → Hp → Prop
def EP (X : Cx) (pins : List (Addr × Obj)) (σ : St) (Q : VK) (u : Value) (s' : Shared) : Prop := ∃ v H', Inv X pins σ H' s' ∧ RelV v u ∧ Q v H'
def TP (X : Cx) (pins : List (Addr × Obj)) (σ : St) (Q : Bool → Hp → Prop) (b : Bool) (s' : Shared) : Prop := ∃ H', Inv X pins σ H' s' ∧ Q b H'
def AP (X : Cx) (pins : List (Addr × Obj)) (σ : St) (Q : List V → Hp → Prop) (us : List Value) (s' : Shared) : Prop := ∃ vs H', Inv X pins σ H' s' ∧ Vals vs us ∧ Q vs H'
def SP (X : Cx) (pins : List (Addr × Obj)) (D : Ends) (f : Flow) (s' : Shared) : Prop :=
 match f with
 | .next => ∃ σ' H', Inv X pins σ' H' s' ∧ D.nx σ' H'
 | .brk => ∃ σ' H', Inv X pins σ' H' s' ∧ D.bk σ' H'
 | .cont => ∃ σ' H', Inv X pins σ' H' s' ∧ D.ct σ' H'
 | .ret u => ∃ v σ' H', Inv X pins σ' H' s' ∧ RelV v u ∧ D.rt v H'
def PE (X : Cx) (e : Expr) (t : TE) : Prop :=
 ∀ (pins : List (Addr × Obj)) (s : Shared) (σ : St) (H : Hp) (Q : VK), Inv X pins σ H s → t σ H Q → wpAny (model X.prog X.w) X.A (eval e X.env) (EP X pins σ Q) X.xe s
def PT (X : Cx) (e : Expr) (t : TT) : Prop :=
 ∀ (pins : List (Addr × Obj)) (s : Shared) (σ : St) (H : Hp) (Q : Bool → Hp → Prop), Inv X pins σ H s → t σ H Q → wpAny (model X.prog X.w) X.A (isTrue e X.env (eval e X.env)) (TP X pins σ Q) X.xe s
def PW (X : Cx) (e : Expr) (t : TT) : Prop :=
 ∀ (whole : Sem Value) (pins : List (Addr × Obj)) (s : Shared) (σ : St) (H : Hp) (Q : Bool → Hp → Prop), Inv X pins σ H s → t σ H Q → wpAny (model X.prog X.w) X.A (isTrue e X.env whole) (TP X pins σ Q) X.xe s
theorem PW.pt {X : Cx} {e : Expr} {t : TT} (h : PW X e t) : PT X e t := h _
def PA (X : Cx) (es : List Expr) (t : TA) : Prop :=
 ∀ (pos : Pos) (pins : List (Addr × Obj)) (s : Shared) (σ : St) (H : Hp) (Q : List V → Hp → Prop), Inv X pins σ H s → t σ H Q → wpAny (model X.prog X.w) X.A (spliced (backTo pos (starEach es X.env))) (AP X pins σ Q) X.xe s
def PS (X : Cx) (st : Stmt) (t : TS) : Prop :=
 ∀ (pins : List (Addr × Obj)) (s : Shared) (σ : St) (H : Hp) (D : Ends), Inv X pins σ H s → t D σ H → wpAny (model X.prog X.w) X.A (exec st X.env) (SP X pins D) X.xe s
def PSs (X : Cx) (st : List Stmt) (t : TS) : Prop :=
 ∀ (pins : List (Addr × Obj)) (s : Shared) (σ : St) (H : Hp) (D : Ends), Inv X pins σ H s → t D σ H → wpAny (model X.prog X.w) X.A (execs st X.env) (SP X pins D) X.xe s
theorem thn {α : Type} {t : Sem α} {Q Q' : α → Shared → Prop} {M : Model} {A : Around} {E : Value → Shared → Prop} {s : Shared} (h : wpAny M A t Q E s) (hQ : ∀ a s, Q a s → Q' a s) : wpAny M A t Q' E s := wpAny_mono h hQ fun _ _ x => x
end L2
namespace L2
open PySem PySem.Spec PyProof.Rows
section
variable {X : Cx}
def tVar (i : Nat) : TE := fun σ H Q => ∃ v, σ[i]? = some (some v) ∧ Q v H
def tC (v : V) : TE := fun _ H Q => Q v H
theorem pe_var {i : Nat} {x : Str} {pos : Pos} (hN : X.N[i]? = some x) (hv : Vis X.env.scope x) (hd : (x == ("__debug__" : Str)) = false := by decide) (hcd : (x == ("__classdict__" : Str)) = false := by decide) : PE X (.Name x pos) (tVar i) := by
 intro pins s σ H Q I h
 obtain ⟨v, e, h⟩ := h
 obtain ⟨m, hn, hl⟩ := I.loc
 obtain ⟨u, r, l⟩ := hl i x v hN e hv
 have fin : EP X pins σ Q u s := ⟨v, H, I, r, h⟩
 rcases l with ⟨hk, hm⟩ | ⟨hk, c, hc, hcell⟩
 ·exact wpAny_Name (wpAny_loadName_local I.ok.kind hk hn hm fin) hd
 ·rcases hk with hk | hk
  ·exact wpAny_Name (wpAny_loadName_cell I.ok.kind hk hc hcell fin) hd
  ·exact wpAny_Name (wpAny_loadName_free I.ok.kind hk hc hcell fin hcd) hd
theorem pe_int {i j pos} : PE X (.Constant (.int i) j pos) (tC (.int i)) := fun _ _ _ H _ I h => wpAny_Constant_int ⟨.int i, H, I.tok _, ⟨_, rfl⟩, h⟩
theorem pe_bl {b j pos} : PE X (.Constant (.bool b) j pos) (tC (.bl b)) := fun _ _ _ H _ I h => Constant_bool ⟨.bl b, H, I, rfl, h⟩
theorem pe_non {j pos} : PE X (.Constant .none j pos) (tC .non) := fun _ _ _ H _ I h => Constant_none ⟨.non, H, I, rfl, h⟩
theorem pe_str {x j pos} : PE X (.Constant (.str x) j pos) (tC (.str x)) := fun _ _ _ H _ I h => Calls.Constant_str ⟨.str x, H, I.tok _, ⟨_, rfl⟩, h⟩
def Gl (X : Cx) (x : Str) : Prop := X.env.kindOf x = some .globalImplicit
theorem ld_glob {E : Value → Shared → Prop} {pins : List (Addr × Obj)} {s : Shared} {σ : St} {H : Hp} {x : Str} {u : Value} {pos : Pos} {Q : Value → Shared → Prop} (I : Inv X pins σ H s) (hg : Gl X x) (hm : X.mg x = some u) (h : Q u s)
 (hd : (x == ("__debug__" : Str)) = false := by decide) : wpAny (model X.prog X.w) X.A (eval (.Name x pos) X.env) Q E s :=
 Calls.Name_function_global I.ok.kind hg (Calls.loadGlobal_global (by rw [I.ok.glob]; exact I.mod.glob.keeps I.bk) hm h) hd
theorem ld_blt {E : Value → Shared → Prop} {pins : List (Addr × Obj)} {s : Shared} {σ : St} {H : Hp} {x : Str} {u : Value} {pos : Pos} {Q : Value → Shared → Prop} (I : Inv X pins σ H s) (hg : Gl X x) (hm : X.mg x = none) (hv : bootBuiltins x = some u) (h : Q u s)
 (hn : x ≠ "__name__" := by decide) (hd : (x == ("__debug__" : Str)) = false := by decide) : wpAny (model X.prog X.w) X.A (eval (.Name x pos) X.env) Q E s := by
 obtain ⟨mb, h1, h2⟩ := I.mod.blt
 exact Calls.Name_function_global I.ok.kind hg (Calls.loadGlobal_builtin (by rw [I.ok.glob]; exact I.mod.glob.keeps I.bk) hm (by rw [I.ok.blt]; exact h1.keeps I.bk) ((h2 x hn).trans hv) h) hd
theorem pe_glob {x : Str} {v : V} {u : Value} {pos : Pos} (hg : Gl X x) (hm : X.mg x = some u) (r : RelV v u) (hd : (x == ("__debug__" : Str)) = false := by decide) : PE X (.Name x pos) (tC v) :=
 fun _ _ _ H _ I h => ld_glob I hg hm ⟨v, H, I, r, h⟩ hd
theorem pe_bltn {x : Str} {v : V} {u : Value} {pos : Pos} (hg : Gl X x) (hm : X.mg x = none) (hv : bootBuiltins x = some u) (r : RelV v u) (hn : x ≠ "__name__" := by decide) (hd : (x == ("__debug__" : Str)) = false := by decide) : PE X (.Name x pos) (tC v) :=
 fun _ _ _ H _ I h => ld_blt I hg hm hv ⟨v, H, I, r, h⟩ hn hd
variable {a b : Expr} {ta tb : TE} {pos : Pos}
def tB (t : TE) : TT := fun σ H Q => t σ H fun x H1 => ∃ c, x = .bl c ∧ Q c H1
theorem pt_val {e : Expr} {t : TE} (h : PE X e t) (he : ∀ whole, isTrue e X.env whole = (do let v ← whole; standAt e.pos; holding [v] (truthy v)) := by intro _; rfl) : PT X e (tB t) := by
 intro pins s σ H Q I hw
 refine isTrue_plain (thn (h pins s σ H _ I hw) fun v s1 ⟨x, H1, I1, r1, q1⟩ => ?_) (he _)
 obtain ⟨d, rfl, q⟩ := q1
 cases r1
 exact wpAny_truthy_bool ⟨H1, I1, q⟩
variable {tA tB' : TT} {rest : List Expr}
def tAnd (t u : TT) : TT := fun σ H Q => t σ H fun c H1 => if c = true then u σ H1 Q else Q false H1
def tOr (t u : TT) : TT := fun σ H Q => t σ H fun c H1 => if c = true then Q true H1 else u σ H1 Q
def tNot (t : TT) : TT := fun σ H Q => t σ H fun c H1 => Q (!c) H1
theorem pw_and1 (ha : PT X a tA) : PW X (.BoolOp .And [a] pos) tA := by
 intro wh pins s σ H Q I h
 refine isTrue_and (thn (ha pins s σ H Q I h) fun c s1 e => ?_)
 cases c with
 | true => exact isTrue_and_nil e
 | false => exact e
theorem pw_or1 (ha : PT X a tA) : PW X (.BoolOp .Or [a] pos) tA := by
 intro wh pins s σ H Q I h
 refine isTrue_or (thn (ha pins s σ H Q I h) fun c s1 e => ?_)
 cases c with
 | false => exact isTrue_or_nil e
 | true => exact e
theorem pw_and (ha : PT X a tA) (hb : PW X (.BoolOp .And (b :: rest) pos) tB') : PW X (.BoolOp .And (a :: b :: rest) pos) (tAnd tA tB') := by
 intro wh pins s σ H Q I h
 refine isTrue_and (thn (ha pins s σ H _ I h) fun c s1 ⟨H1, I1, q1⟩ => ?_)
 cases c with
 | true => exact hb wh pins s1 σ H1 Q I1 q1
 | false => exact ⟨H1, I1, q1⟩
theorem pw_or (ha : PT X a tA) (hb : PW X (.BoolOp .Or (b :: rest) pos) tB') : PW X (.BoolOp .Or (a :: b :: rest) pos) (tOr tA tB') := by
 intro wh pins s σ H Q I h
 refine isTrue_or (thn (ha pins s σ H _ I h) fun c s1 ⟨H1, I1, q1⟩ => ?_)
 cases c with
 | true => exact ⟨H1, I1, q1⟩
 | false => exact hb wh pins s1 σ H1 Q I1 q1
theorem pt_not (ha : PT X a tA) : PT X (.UnaryOp .Not a pos) (tNot tA) := by
 intro pins s σ H Q I h
 exact isTrue_not (ha pins s σ H (fun c H1 => Q (!c) H1) I h)
def tAndV (ta tb : TE) : TE := fun σ H Q => ta σ H fun x H1 => ∃ c, x = .bl c ∧ if c = true then tb σ H1 Q else Q (.bl false) H1
def tNotV (ta : TE) : TE := fun σ H Q => ta σ H fun x H1 => ∃ c, x = .bl c ∧ Q (.bl (!c)) H1
theorem pe_one {op} {t : TE} (h : PE X a t) : PE X (.BoolOp op [a] pos) t := fun pins s σ H Q I hw => BoolOp_one (h pins s σ H Q I hw)
theorem pe_and (ha : PE X a ta) (hb : PE X (.BoolOp .And (b :: rest) pos) tb) : PE X (.BoolOp .And (a :: b :: rest) pos) (tAndV ta tb) := by
 intro pins s σ H Q I h
 refine BoolOp_and (thn (ha pins s σ H _ I h) fun v s1 ⟨x, H1, I1, r1, q1⟩ => ?_)
 obtain ⟨c, rfl, q1⟩ := q1
 cases r1
 refine wpAny_truthy_bool ?_
 cases c with
 | true => exact hb pins s1 σ H1 Q I1 q1
 | false => exact ⟨.bl false, H1, I1, rfl, q1⟩
theorem pe_not (ha : PE X a ta) : PE X (.UnaryOp .Not a pos) (tNotV ta) := by
 intro pins s σ H Q I h
 refine UnaryOp_ (thn (ha pins s σ H _ I h) fun v s1 ⟨x, H1, I1, r1, q1⟩ => ?_)
 obtain ⟨c, rfl, q1⟩ := q1
 cases r1
 exact not_of (wpAny_truthy_bool ⟨.bl (!c), H1, I1, rfl, q1⟩)
end
end L2
namespace L2
open PySem PySem.Spec PyProof.Rows
def SqL (K : PySem.W.Frag) (H : Hp) (a : Addr) (xs : List V) : Prop :=
 Rd H a (.lst xs) ∨
  ∃ (o : Obj) (its : Array Value) (n : Nat), K.lookup a = some o ∧ o.cls = .type "list" ∧ o.dict = none ∧ o.data = .seq its n ∧ its.size ≤ sizeLine ∧ Vals xs its.toList
def SqT (K : PySem.W.Frag) (H : Hp) (a : Addr) (xs : List V) : Prop :=
 Rd H a (.tup xs) ∨
  ∃ (o : Obj) (its : Array Value) (n : Nat), K.lookup a = some o ∧ o.cls = .type "tuple" ∧ o.data = .seq its n ∧ its.size ≤ sizeLine ∧ Vals xs its.toList
def absV : Value → Option V
 | .none => some .non
 | .bool b => some (.bl b)
 | .int i _ => some (.int i)
 | .str x _ => some (.str x)
 | .bytes b _ => some (.byt b)
 | .float b _ => some (.flt b)
 | .ref a => some (.ref a)
 | .type n => some (.ty n)
 | _ => none
theorem RelV.abs {x : V} {u : Value} (r : RelV x u) : absV u = some x := by
 cases x with
 | non => cases r; rfl
 | bl _ => cases r; rfl
 | int _ => obtain ⟨t, rfl⟩ := r; rfl
 | str _ => obtain ⟨t, rfl⟩ := r; rfl
 | byt _ => obtain ⟨t, rfl⟩ := r; rfl
 | flt _ => obtain ⟨t, rfl⟩ := r; rfl
 | ref _ => cases r; rfl
 | ty _ => cases r; rfl
theorem RelV.inj {x y : V} {u : Value} (r : RelV x u) (q : RelV y u) : x = y := Option.some.inj (r.abs.symm.trans q.abs)
theorem Vals.inj : ∀ {xs ys : List V} {us : List Value}, Vals xs us → Vals ys us → xs = ys
 | _, _, _, .nil, .nil => rfl
 | _, _, _, .cons r t, .cons r' t' => by rw [r.inj r', Vals.inj t t']
section
variable {X : Cx} {pins : List (Addr × Obj)} {σ : St} {H : Hp} {s : Shared} {a : Addr} {xs ys : List V}
theorem SqL.of {K : PySem.W.Frag} (h : H a = some (.lst xs)) : SqL K H a xs := .inl (.inl h)
theorem SqT.of {K : PySem.W.Frag} (h : H a = some (.tup xs)) : SqT K H a xs := .inl (.inl h)
theorem Inv.list (I : Inv X pins σ H s) (h : SqL X.K H a xs) : ∃ its : List Value, Vals xs its ∧ PlainL s.heap a its.toArray ∧ xs.length ≤ sizeLine := by
 rcases h with h | ⟨o, its, n, hk, hc, hd, hs, hz, r⟩
 ·obtain ⟨z, its, n, r, e⟩ := h.ok I.hok
  exact ⟨its, r, ⟨_, n, e, rfl, rfl, rfl⟩, z⟩
 ·refine ⟨its.toList, r, ⟨o, n, I.kIn a o hk, hc, hd, by simpa using hs⟩, ?_⟩
  have e := r.length
  simp only [Array.length_toList] at e
  omega
theorem Inv.tuple (I : Inv X pins σ H s) (h : SqT X.K H a xs) : ∃ its : List Value, Vals xs its ∧ IsTup s.heap a its.toArray ∧ xs.length ≤ sizeLine := by
 rcases h with h | ⟨o, its, n, hk, hc, hs, hz, r⟩
 ·obtain ⟨z, its, r, p⟩ := h.ok I.hok
  exact ⟨its, r, p, z⟩
 ·refine ⟨its.toList, r, ⟨o, I.kIn a o hk, hc, n, by simpa using hs⟩, ?_⟩
  have e := r.length
  simp only [Array.length_toList] at e
  omega
theorem Inv.list_inj (I : Inv X pins σ H s) (h : SqL X.K H a xs) (h' : SqL X.K H a ys) : xs = ys := by
 obtain ⟨its, r, ⟨o, n, e, _, _, d⟩, _⟩ := I.list h
 obtain ⟨its', r', ⟨o', n', e', _, _, d'⟩, _⟩ := I.list h'
 rw [e] at e'; cases e'
 rw [d] at d'
 injection d' with d1 _
 have : its = its' := by simpa using congrArg Array.toList d1
 subst this
 exact r.inj r'
theorem Inv.tuple_inj (I : Inv X pins σ H s) (h : SqT X.K H a xs) (h' : SqT X.K H a ys) : xs = ys := by
 obtain ⟨its, r, ⟨o, e, _, n, d⟩, _⟩ := I.tuple h
 obtain ⟨its', r', ⟨o', e', _, n', d'⟩, _⟩ := I.tuple h'
 rw [e] at e'; cases e'
 rw [d] at d'
 injection d' with d1 _
 have : its = its' := by simpa using congrArg Array.toList d1
 subst this
 exact r.inj r'
end
abbrev Cx.wish (X : Cx) (E : Value → Shared → Prop) : Cx := { X with xe := E }
abbrev Cx.nox (X : Cx) : Cx := X.wish fun _ _ => False
theorem Cx.Ok.wish {X : Cx} (ok : X.Ok) (E : Value → Shared → Prop) : (X.wish E).Ok :=
 ⟨ok.mod, ok.kind, ok.glob, ok.blt, ok.above, ok.inj, ok.has, ok.cab, ok.hd, ok.frames, ok.stk, ok.exf, ok.bs, ok.bsz, ok.noex, ok.exfs, ok.funs, ok.frf⟩
theorem Cx.Ok.unwish {X : Cx} {E : Value → Shared → Prop} (ok : (X.wish E).Ok) : X.Ok :=
 ⟨ok.mod, ok.kind, ok.glob, ok.blt, ok.above, ok.inj, ok.has, ok.cab, ok.hd, ok.frames, ok.stk, ok.exf, ok.bs, ok.bsz, ok.noex, ok.exfs, ok.funs, ok.frf⟩
section
variable {X : Cx} {pins : List (Addr × Obj)} {σ : St} {H : Hp} {s : Shared} {E : Value → Shared → Prop}
theorem Inv.wish (I : Inv X pins σ H s) (E : Value → Shared → Prop) : Inv (X.wish E) pins σ H s := ⟨I.ok.wish E, I.os, I.bare, I.base, I.loc, I.cell, I.free, I.freeC, I.pin, I.hok, I.len⟩
theorem Inv.unwish (I : Inv (X.wish E) pins σ H s) : Inv X pins σ H s := ⟨I.ok.unwish, I.os, I.bare, I.base, I.loc, I.cell, I.free, I.freeC, I.pin, I.hok, I.len⟩
theorem SP.unwish {D : Ends} {f : Flow} {s' : Shared} (h : SP (X.wish E) pins D f s') : SP X pins D f s' := by
 cases f with
 | next => obtain ⟨σ', H', I, q⟩ := h; exact ⟨σ', H', I.unwish, q⟩
 | brk => obtain ⟨σ', H', I, q⟩ := h; exact ⟨σ', H', I.unwish, q⟩
 | cont => obtain ⟨σ', H', I, q⟩ := h; exact ⟨σ', H', I.unwish, q⟩
 | ret u => obtain ⟨v, σ', H', I, r, q⟩ := h; exact ⟨v, σ', H', I.unwish, r, q⟩
theorem PSs.nox {st : List Stmt} {t : TS} (h : PSs X.nox st t) : PSs X st t := fun pins s σ H D I hw =>
 wpAny_mono (h pins s σ H D (I.wish _) hw) (fun _ _ q => q.unwish) fun _ _ z => False.elim z
end
section
variable {X : Cx} {st : Stmt} {rest : List Stmt} {t u : TS} {e : Expr} {te : TE} {pos : Pos}
def tNext : TS := fun D σ H => D.nx σ H
def tSeq (t u : TS) : TS := fun D σ H => t { D with nx := u D } σ H
theorem pss_nil : PSs X [] tNext := fun _ _ σ H _ I h => wpAny_execs_nil ⟨σ, H, I, h⟩
theorem pss_cons (h1 : PS X st t) (h2 : PSs X rest u) : PSs X (st :: rest) (tSeq t u) := by
 intro pins s σ H D I h
 refine wpAny_execs_cons (thn (h1 pins s σ H { D with nx := u D } I h) fun f s1 q => ?_)
 cases f with
 | next =>
   obtain ⟨σ', H', I', q⟩ := q
   exact h2 pins s1 σ' H' D I' q
 | ret v => exact q
 | brk => exact q
 | cont => exact q
theorem pss_one (h1 : PS X st t) : PSs X [st] t := by
 intro pins s σ H D I h
 refine wpAny_execs_cons (thn (h1 pins s σ H D I h) fun f s1 q => ?_)
 cases f with
 | next => exact wpAny_execs_nil q
 | ret v => exact q
 | brk => exact q
 | cont => exact q
theorem Inv.quiet {pins : List (Addr × Obj)} {σ : St} {H : Hp} {s : Shared} (I : Inv X pins σ H s) : interactive X.env = false := by simp [interactive, I.ok.kind]
def tDrop (te : TE) : TS := fun D σ H => te σ H fun _ H1 => D.nx σ H1
theorem ps_expr (he : PE X e te) (hs : swapsWith e none pos.line X.env = pure false := by rfl) : PS X (.Expr e pos) (tDrop te) := by
 intro pins s σ H D I h
 exact wpAny_Expr_any (thn (he pins s σ H _ I h) fun v s1 ⟨x, H1, I1, r1, q1⟩ => ⟨σ, H1, I1, q1⟩) I.quiet hs
def tRet (te : TE) : TS := fun D σ H => te σ H D.rt
theorem ps_ret (he : PE X e te) : PS X (.Return (some e) pos) (tRet te) := by
 intro pins s σ H D I h
 exact wpAny_Return_some (thn (he pins s σ H _ I h) fun v s1 ⟨x, H1, I1, r1, q1⟩ => ⟨x, σ, H1, I1, r1, q1⟩)
def tIfS (c : TT) (t u : TS) : TS := fun D σ H => c σ H fun b H1 => if b = true then t D σ H1 else u D σ H1
theorem ps_if {c : Expr} {a b : List Stmt} {tc : TT} (hc : PT X c tc) (ha : PSs X a t) (hb : PSs X b u) : PS X (.If c a b pos) (tIfS tc t u) := by
 intro pins s σ H D I h
 refine wpAny_If (thn (hc pins s σ H _ I h) fun d s1 ⟨H1, I1, q1⟩ => ?_)
 cases d with
 | true => exact ha pins s1 σ H1 D I1 q1
 | false => exact hb pins s1 σ H1 D I1 q1
def tNever : TS := fun _ _ _ => False
theorem ps_never : PS X st tNever := fun _ _ _ _ _ _ h => h.elim
end
abbrev TG := V → St → Hp → (St → Hp → Prop) → Prop
abbrev TGs := List V → St → Hp → (St → Hp → Prop) → Prop
def PG (X : Cx) (target : Expr) (t : TG) : Prop :=
 ∀ (pins : List (Addr × Obj)) (s : Shared) (σ : St) (H : Hp) (v : V) (u : Value) (Q : St → Hp → Prop), Inv X pins σ H s → RelV v u → t v σ H Q →
   wpAny (model X.prog X.w) X.A (assign target X.env u) (fun _ s' => ∃ σ' H', Inv X pins σ' H' s' ∧ Q σ' H') X.xe s
def PGs (X : Cx) (ts : List Expr) (t : TGs) : Prop :=
 ∀ (pins : List (Addr × Obj)) (s : Shared) (σ : St) (H : Hp) (vs : List V) (us : List Value) (Q : St → Hp → Prop), Inv X pins σ H s → Vals vs us → t vs σ H Q →
   wpAny (model X.prog X.w) X.A (assignInOrder ((assignEach ts X.env).map (·.2)) us) (fun _ s' => ∃ σ' H', Inv X pins σ' H' s' ∧ Q σ' H') X.xe s
abbrev TSet := V → V → V → Hp → (Hp → Prop) → Prop
def PSet (X : Cx) (t : TSet) : Prop :=
 ∀ (pins : List (Addr × Obj)) (s : Shared) (σ : St) (H : Hp) (o i v : V) (ov iv u : Value) (Q : Hp → Prop), Inv X pins σ H s → RelV o ov → RelV i iv → RelV v u → t o i v H Q →
   wpAny (model X.prog X.w) X.A (setItem ov iv u) (fun _ s' => ∃ H', Inv X pins σ H' s' ∧ Q H') X.xe s
section
variable {X : Cx} {pos : Pos}
def gName (i : Nat) : TG := fun v σ H Q => Q (σ.set i (some v)) H
theorem pg_name {i : Nat} {x : Str} (hN : X.N.Nodup) (hi : X.N[i]? = some x) (hx : Loc X.env.scope x) (hf : X.fn x = true ∨ X.env.scope.names.lookup x = some .local := by first | exact .inl rfl | exact .inr rfl | assumption) : PG X (.Name x pos) (gName i) := by
 intro pins s σ H v u Q I r h
 exact wpAny_assign_Name (store_ok I hN hi hx r (fun s' I' => ⟨_, H, I', h⟩) hf)
def gNil : TGs := fun vs σ H Q => vs = [] ∧ Q σ H
def gCons (t : TG) (u : TGs) : TGs := fun vs σ H Q => ∃ v r, vs = v :: r ∧ t v σ H fun σ' H' => u r σ' H' Q
theorem pgs_nil : PGs X [] gNil := by
 intro pins s σ H vs us Q I r h
 obtain ⟨e, h⟩ := h
 subst e
 cases r
 exact assignInOrder_nil ⟨σ, H, I, h⟩
theorem pgs_cons {e : Expr} {es : List Expr} {t : TG} {u : TGs} (h1 : PG X e t) (h2 : PGs X es u)
 (hs : (assignEach (e :: es) X.env).map (·.2) = assign e X.env :: (assignEach es X.env).map (·.2) := by rfl) : PGs X (e :: es) (gCons t u) := by
 intro pins s σ H vs us Q I r h
 obtain ⟨v, vr, e1, h⟩ := h
 subst e1
 cases r with
 | cons r rr =>
   rw [hs]
   refine assignInOrder_cons (thn (h1 pins s σ H _ _ _ I r h) fun _ s1 ⟨σ1, H1, I1, q1⟩ => ?_)
   exact h2 pins s1 σ1 H1 _ _ Q I1 rr q1
def gTup (K : PySem.W.Frag) (n : Nat) (t : TGs) : TG := fun v σ H Q => ∃ a xs, v = .ref a ∧ SqT K H a xs ∧ xs.length = n ∧ t xs σ H Q
theorem pg_tup {es : List Expr} {k : Nat} {t : TGs} {n : Nat} (hc : X.calm = true) (h : PGs X es t)
 (hn : (assignEach es X.env).length = n := by rfl) (hst : (assignEach es X.env).findIdx? (·.1) = none := by rfl) : PG X (.Tuple es k pos) (gTup X.K n t) := by
 intro pins s σ H v u Q I r hw
 obtain ⟨a, xs, e1, hq, hl, hw⟩ := hw
 subst e1
 cases r
 obtain ⟨its, rv, ht, hz⟩ := I.tuple hq
 refine assign_Tuple_tuple (I.ok.hd hc) ht (by simp [hn, ← hl, rv.length]) hst fun h' hx => ?_
 have I1 : Inv X pins σ H { s with heap := h' } := I.kept (t' := s.toks) fun b o e => hx b o (Nat.ne_of_lt (Heap.lt_size e)) e
 exact h pins _ σ H xs _ Q I1 (by simpa using rv) hw
def gSub (to ti : TE) (t : TSet) : TG := fun v σ H Q => to σ H fun o H1 => ti σ H1 fun i H2 => t o i v H2 fun H3 => Q σ H3
theorem pg_sub {o i : Expr} {to ti : TE} {t : TSet} (ho : PE X o to) (hi : PE X i ti) (hs : PSet X t)
 (ha : ∀ v, assign (.Subscript o i pos) X.env v = (do
  let ov ← holding [v] (eval o X.env)
  let iv ← holding [v, ov] (eval i X.env)
  standAt pos
  holding [v, ov, iv] (setItem ov iv v)
  release [v, ov, iv] []) := by intro _; rfl) : PG X (.Subscript o i pos) (gSub to ti t) := by
 intro pins s σ H v u Q I r h
 rw [ha]
 refine wpAny_bind (wpAny_holding (thn (ho pins s σ H _ I h) fun ov s1 ⟨x, H1, I1, r1, q1⟩ => ?_))
 refine wpAny_bind (wpAny_holding (thn (hi pins s1 σ H1 _ I1 q1) fun iv s2 ⟨y, H2, I2, r2, q2⟩ => ?_))
 refine wpAny_bind (wpAny_standAt (wpAny_bind (wpAny_holding (thn (hs pins s2 σ H2 x y v ov iv u _ I2 r1 r2 r q2) fun _ s3 ⟨H3, I3, q3⟩ => ?_))))
 exact wpAny_release ⟨σ, H3, I3, q3⟩
def tAsg (te : TE) (g : TG) : TS := fun D σ H => te σ H fun x H1 => g x σ H1 D.nx
theorem ps_asg {tg e : Expr} {te : TE} {g : TG} (he : PE X e te) (hg : PG X tg g) (hs : swapsWithSole [tg] e pos.line X.env = pure false := by rfl) (hw : swappedStores [tg] e X.env = pure none := by rfl)
 (h1 : (assignEach [tg] X.env).map (·.2) = [assign tg X.env] := by rfl) : PS X (.Assign [tg] e pos) (tAsg te g) := by
 intro pins s σ H D I h
 refine wpAny_Assign_stores (thn (he pins s σ H _ I h) fun v s1 ⟨x, H1, I1, r1, q1⟩ => ?_) hs hw
 rw [h1]
 exact thn (hg pins s1 σ H1 x v _ I1 r1 q1) fun _ s2 q => q
theorem ps_set {i : Nat} {x : Str} {e : Expr} {te : TE} {pos' : Pos} (hN : X.N.Nodup) (hi : X.N[i]? = some x) (hx : Loc X.env.scope x) (he : PE X e te) (hs : swapsWith e (some (.Name x pos')) pos.line X.env = pure false := by rfl) (hf : X.fn x = true ∨ X.env.scope.names.lookup x = some .local := by first | exact .inl rfl | exact .inr rfl | assumption) :
 PS X (.Assign [.Name x pos'] e pos) (tAsg te (gName i)) := by
 intro pins s σ H D I h
 refine wpAny_Assign_Name (thn (he pins s σ H _ I h) fun v s1 ⟨y, H1, I1, r1, q1⟩ => ?_) hs
 exact store_ok I1 hN hi hx r1 (fun s2 I2 => ⟨_, H1, I2, q1⟩) hf
end
section
variable {X : Cx} {pos : Pos}
def tWhile (c : TT) (tb : TS) : TS := fun D σ H => ∃ W : Nat → St → Hp → Prop, (∃ m, W m σ H) ∧ ∀ m σ H, W m σ H →
 c σ H fun b H1 => if b = true then ∃ N : St → Hp → Prop, (∀ σ' H', N σ' H' → ∃ m', m' < m ∧ W m' σ' H') ∧ tb { D with nx := N, ct := N, bk := D.nx } σ H1 else D.nx σ H1
theorem ps_while {c : Expr} {body : List Stmt} {tc : TT} {tb : TS} (hp : PassesOwn (model X.prog X.w) X.A X.env X.xe) (hc : PT X c tc) (hb : PSs X body tb) : PS X (.While c body [] pos) (tWhile tc tb) := by
 intro pins s σ H D I h
 obtain ⟨W, ⟨m0, w0⟩, turn⟩ := h
 refine wpAny_While (codeAny_whileLoop (fun n s' => ∃ σ' H', Inv X pins σ' H' s' ∧ W n σ' H') ?_ m0 ⟨σ, H, I, w0⟩)
 rintro n s1 ⟨σ1, H1, I1, w1⟩
 refine wpAny_passesOwn hp (thn (hc pins s1 σ1 H1 _ I1 (turn n σ1 H1 w1)) fun b s2 ⟨H2, I2, q2⟩ => ?_)
 cases b with
 | true =>
   obtain ⟨N, hN, q2⟩ := q2
   rw [if_pos rfl]
   refine wpAny_passesOwn hp (thn (hb pins s2 σ1 H2 _ I2 q2) fun f s3 q3 => ?_)
   cases f with
   | next =>
     obtain ⟨σ3, H3, I3, n3⟩ := q3
     obtain ⟨m', hm, w3⟩ := hN σ3 H3 n3
     exact ⟨m', hm, σ3, H3, I3, w3⟩
   | cont =>
     obtain ⟨σ3, H3, I3, n3⟩ := q3
     obtain ⟨m', hm, w3⟩ := hN σ3 H3 n3
     exact ⟨m', hm, σ3, H3, I3, w3⟩
   | brk => exact q3
   | ret v => exact q3
 | false =>
   rw [if_neg Bool.false_ne_true]
   exact wpAny_execs_nil ⟨σ1, H2, I2, q2⟩
end
structure It where
 go : Nat → Hp → Prop
 yld : Nat → Hp → V → Hp → Prop
 stop : Nat → Hp → Prop
def FpOk (X : Cx) (pins : List (Addr × Obj)) (H : Hp) (b : Addr) : Prop :=
 H b = none ∧ b ≠ X.env.locals ∧ b ∉ X.fs ∧ (b ∈ X.ex ∨ X.s₀.heap.objs.size ≤ b) ∧ (∀ x c, X.env.cells.lookup x = some c → c ≠ b) ∧ ∀ p ∈ X.pn ++ pins, p.1 ≠ b
theorem Inv.fpOk {X : Cx} {pins : List (Addr × Obj)} {σ : St} {H H' : Hp} {s : Shared} {b : Addr} (I : Inv X pins σ H s) (hb : s.heap.objs.size ≤ b) (hn : H' b = none) : FpOk X pins H' b := by
 refine ⟨hn, Nat.ne_of_gt (Nat.lt_of_lt_of_le I.lt hb), I.nofs hb, .inr (Nat.le_trans I.sz hb), fun x c e z => ?_, fun p hp z => ?_⟩
 ·obtain ⟨v, q⟩ := I.cell x c e
  exact absurd (Nat.lt_of_lt_of_le q.lt (by rw [z]; exact hb)) (Nat.lt_irrefl _)
 ·exact absurd (Nat.lt_of_lt_of_le (Heap.lt_size (I.pin p hp).1) (by rw [z]; exact hb)) (Nat.lt_irrefl _)
structure Turn (P : Program) (w : World) (K : PySem.W.Frag) (tg : Expr) (J : It) (fp : List Addr) (it : Addr) (tn : Nat → Heap → Prop) : Prop where
 mem : it ∈ fp
 obj : ∀ i h, tn i h → ∀ b ∈ fp, ∃ o, h.get? b = some o ∧ ∀ v, o.data ≠ .cell v
 keep : ∀ i h h', tn i h → (∀ b ∈ fp, ∀ o, h.get? b = some o → h'.get? b = some o) → tn i h'
 item : ∀ (X : Cx), X.prog = P → X.w = w → X.K = K → X.calm = true → ∀ (i : Nat) (pins : List (Addr × Obj)) (s : Shared) (σ : St) (H : Hp) (E : Value → Shared → Prop), Inv X pins σ H s → (∀ b ∈ fp, FpOk X pins H b) → tn i s.heap → J.go i H →
  wpAny (model P w) X.A (pyNext (.ref it)) (fun r s1 => ∃ u, r = some u ∧
   wpAny (model P w) X.A (letOwnedTupleGo tg (.ref it) u) (fun _ s2 => ∃ x H', Inv X pins σ H' s2 ∧ RelV x u ∧ J.yld i H x H' ∧ tn (i + 1) s2.heap ∧ ∀ b ∈ fp, H' b = none) E s1) E s
 done : ∀ (X : Cx), X.prog = P → X.w = w → X.K = K → X.calm = true → ∀ (i : Nat) (pins : List (Addr × Obj)) (s : Shared) (σ : St) (H : Hp) (E : Value → Shared → Prop), Inv X pins σ H s → (∀ b ∈ fp, FpOk X pins H b) → tn i s.heap → J.stop i H →
  wpAny (model P w) X.A (pyNext (.ref it)) (fun r s1 => r = none ∧ Inv X pins σ H s1) E s
 self : ∀ (A : Around) (i : Nat) (s : Shared) (Q : Value → Shared → Prop) (E : Value → Shared → Prop), tn i s.heap → Q (.ref it) s → wpAny (model P w) A (pyIter (.ref it)) Q E s
abbrev TI := St → Hp → (It → Hp → Prop) → Prop
def PIE (X : Cx) (pins : List (Addr × Obj)) (σ : St) (tg : Expr) (R : It → Hp → Prop) (itv : Value) (s2 : Shared) : Prop :=
 ∃ (it : Addr) (fp : List Addr) (tn : Nat → Heap → Prop) (J : It) (H' : Hp), itv = .ref it ∧ Inv X pins σ H' s2 ∧ Turn X.prog X.w X.K tg J fp it tn ∧ tn 0 s2.heap ∧ (∀ b ∈ fp, FpOk X pins H' b) ∧ R J H'
def PI (X : Cx) (tg iter : Expr) (wi : TI) : Prop :=
 ∀ (pins : List (Addr × Obj)) (s : Shared) (σ : St) (H : Hp) (R : It → Hp → Prop), Inv X pins σ H s → wi σ H R →
   wpAny (model X.prog X.w) X.A (eval iter X.env) (fun v s1 => wpAny (model X.prog X.w) X.A (pyIter v) (PIE X pins σ tg R) X.xe s1) X.xe s
theorem go_of {M : Model} {A : Around} {E : Value → Shared → Prop} {s : Shared} {tg : Expr} {it : Addr} {u : Value} {o : Obj} {n : String} {vs : Array Value} {Q : Unit → Shared → Prop} (ho : s.heap.get? it = some o) (hc : o.cls = .type n) (hd : o.data = .fields vs)
 (hn : ["enumerate", "zip", "dict_itemiterator", "dict_reverseitemiterator", "odict_iterator", "itertools.zip_longest", "itertools.pairwise"].contains n = false) (hQ : Q () s) : wpAny M A (letOwnedTupleGo tg (.ref it) u) Q E s := by
 unfold letOwnedTupleGo
 cases tg <;> first
  | exact wpAny_pure hQ
  | (cases u <;> first
   | exact wpAny_pure hQ
   | (refine wpAny_bind (wpAny_load ho ?_)
      rw [hc, hd]
      show wpAny M A (if (["enumerate", "zip", "dict_itemiterator", "dict_reverseitemiterator", "odict_iterator", "itertools.zip_longest", "itertools.pairwise"].contains n && vs[0]? == some (rawInt _)) = true then _ else _) Q E s
      rw [if_neg (by intro h; rw [hn, Bool.false_and] at h; cases h)]
      exact wpAny_pure hQ))
def Itl (K : PySem.W.Frag) (a : Addr) : It :=
 ⟨fun i H => ∃ xs x, SqL K H a xs ∧ xs[i]? = some x, fun i H x H' => H' = H ∧ ∀ xs, SqL K H a xs → xs[i]? = some x, fun i H => ∃ xs, SqL K H a xs ∧ xs.length ≤ i⟩
def Itt (K : PySem.W.Frag) (a : Addr) : It :=
 ⟨fun i H => ∃ xs x, SqT K H a xs ∧ xs[i]? = some x, fun i H x H' => H' = H ∧ ∀ xs, SqT K H a xs → xs[i]? = some x, fun i H => ∃ xs, SqT K H a xs ∧ xs.length ≤ i⟩
def Itr (lo : Int) (n : Nat) : It := ⟨fun i _ => i < n, fun i H x H' => H' = H ∧ x = .int (lo + i), fun i _ => n ≤ i⟩
theorem turn_list {P : Program} {w : World} {K : PySem.W.Frag} {tg : Expr} (a it : Addr) : Turn P w K tg (Itl K a) [it] it (fun i h => h.IsListIter it a i) where
 mem := by simp
 obj := fun i h st b hb => by
  have e : b = it := by simpa using hb
  subst e
  obtain ⟨o, e, c, d⟩ := st
  exact ⟨o, e, fun v z => by rw [d] at z; cases z⟩
 keep := fun i h h' st k => st.at fun o e => k it (by simp) o e
 item := by
  intro X hP hw hK hc i pins s σ H E I hf st hg
  subst hP hw hK
  obtain ⟨xs, x, hq, hx⟩ := hg
  obtain ⟨its, rv, p, hz⟩ := I.list hq
  obtain ⟨u, hu, ru⟩ := rv.get hx
  obtain ⟨f0, f1, f2, f3, f4, f5⟩ := hf it (by simp)
  refine wpAny_pyNext_list_item st p.isList (x := u) (by simpa using hu) fun h' st' sb => ?_
  have I1 : Inv X pins σ H { s with heap := h' } := I.turned (t' := s.toks) (fun b o hb e => (sb.2 b hb).trans e) f0 f1 f3 f4 f5
  obtain ⟨o, e, c, d⟩ := id st'
  exact ⟨u, rfl, go_of (s := { s with heap := h' }) e c d (by decide) ⟨x, H, I1, ru, ⟨rfl, fun ys hy => by rw [I.list_inj hy hq]; exact hx⟩, st', fun b hb => (hf b hb).1⟩⟩
 done := by
  intro X hP hw hK hc i pins s σ H E I hf st hg
  subst hP hw hK
  obtain ⟨xs, hq, hx⟩ := hg
  obtain ⟨its, rv, p, hz⟩ := I.list hq
  obtain ⟨f0, f1, f2, f3, f4, f5⟩ := hf it (by simp)
  have hl := rv.length
  exact wpAny_pyNext_list_end (I.ok.hd hc) st p.isList (by simp; omega) fun h' eb => ⟨rfl, I.turned (t' := s.toks) (fun b o hb e => eb b o hb e) f0 f1 f3 f4 f5⟩
 self := fun _ _ _ _ _ st h => wpAny_pyIter_listiter st h
theorem turn_tuple {P : Program} {w : World} {K : PySem.W.Frag} {tg : Expr} (a it : Addr) : Turn P w K tg (Itt K a) [it] it (fun i h => h.IsTupleIter it a i) where
 mem := by simp
 obj := fun i h st b hb => by
  have e : b = it := by simpa using hb
  subst e
  obtain ⟨o, e, c, d⟩ := st
  exact ⟨o, e, fun v z => by rw [d] at z; cases z⟩
 keep := fun i h h' st k => st.at fun o e => k it (by simp) o e
 item := by
  intro X hP hw hK hc i pins s σ H E I hf st hg
  subst hP hw hK
  obtain ⟨xs, x, hq, hx⟩ := hg
  obtain ⟨its, rv, p, hz⟩ := I.tuple hq
  obtain ⟨u, hu, ru⟩ := rv.get hx
  obtain ⟨f0, f1, f2, f3, f4, f5⟩ := hf it (by simp)
  refine wpAny_pyNext_tuple_item st (show s.heap.IsTuple a its.toArray from p) (x := u) (by simpa using hu) fun h' st' sb => ?_
  have I1 : Inv X pins σ H { s with heap := h' } := I.turned (t' := s.toks) (fun b o hb e => (sb.2 b hb).trans e) f0 f1 f3 f4 f5
  obtain ⟨o, e, c, d⟩ := id st'
  exact ⟨u, rfl, go_of (s := { s with heap := h' }) e c d (by decide) ⟨x, H, I1, ru, ⟨rfl, fun ys hy => by rw [I.tuple_inj hy hq]; exact hx⟩, st', fun b hb => (hf b hb).1⟩⟩
 done := by
  intro X hP hw hK hc i pins s σ H E I hf st hg
  subst hP hw hK
  obtain ⟨xs, hq, hx⟩ := hg
  obtain ⟨its, rv, p, hz⟩ := I.tuple hq
  obtain ⟨f0, f1, f2, f3, f4, f5⟩ := hf it (by simp)
  have hl := rv.length
  exact wpAny_pyNext_tuple_end (I.ok.hd hc) st (show s.heap.IsTuple a its.toArray from p) (by simp; omega) fun h' eb => ⟨rfl, I.turned (t' := s.toks) (fun b o hb e => eb b o hb e) f0 f1 f3 f4 f5⟩
 self := fun _ _ _ _ _ st h => wpAny_pyIter_tupleiter st h
theorem turn_range {P : Program} {w : World} {K : PySem.W.Frag} {tg : Expr} (it : Addr) (lo : Int) (n : Nat) : Turn P w K tg (Itr lo n) [it] it (fun i h => IsRangeIter h it (lo + (i : Nat) * 1) ((n : Int) - (i : Nat)) 1) where
 mem := by simp
 obj := fun i h st b hb => by
  have e : b = it := by simpa using hb
  subst e
  exact ⟨_, st, fun v z => by
   have z' : Data.fields _ = Data.cell v := z
   cases z'⟩
 keep := fun i h h' st k => k it (by simp) _ st
 item := by
  intro X hP hw hK hc i pins s σ H E I hf st hg
  subst hP hw hK
  obtain ⟨f0, f1, f2, f3, f4, f5⟩ := hf it (by simp)
  have W := Walks.range (prog := X.prog) (w := X.w) (I.ok.hd hc) it lo 1 n
  refine W.item i s _ _ hg st fun v h' tk hv st' kk => ?_
  obtain ⟨t, rfl⟩ := hv
  have I1 : Inv X pins σ H { s with heap := h', toks := tk } := I.turned (fun b o hb e => kk b o (by simpa using hb) e) f0 f1 f3 f4 f5
  refine ⟨_, rfl, go_of (s := { s with heap := h', toks := tk }) (n := "range_iterator") st' rfl rfl (by decide) ⟨.int (lo + i), H, I1, ⟨t, ?_⟩, ⟨rfl, rfl⟩, st', fun b hb => (hf b hb).1⟩⟩
  rw [Int.mul_one]
 done := by
  intro X hP hw hK hc i pins s σ H E I hf st hg
  subst hP hw hK
  obtain ⟨f0, f1, f2, f3, f4, f5⟩ := hf it (by simp)
  exact wpAny_pyNext_range_end (I.ok.hd hc) st (by have : n ≤ i := hg; omega) fun h' eb => ⟨rfl, I.turned (t' := s.toks) (fun b o hb e => eb b o hb e) f0 f1 f3 f4 f5⟩
 self := fun _ _ _ _ _ st h => wpAny_pyIter_rangeiter st h
end L2
namespace L2
open PySem PySem.Spec PyProof.Rows
section
variable {X : Cx} {tg : Expr}
def iList (K : PySem.W.Frag) (tl : TE) : TI := fun σ H R => tl σ H fun x H1 => ∃ a, x = .ref a ∧ (∃ xs, SqL K H1 a xs) ∧ R (Itl K a) H1
def iTup (K : PySem.W.Frag) (tl : TE) : TI := fun σ H R => tl σ H fun x H1 => ∃ a, x = .ref a ∧ (∃ xs, SqT K H1 a xs) ∧ R (Itt K a) H1
theorem pi_list {l : Expr} {tl : TE} (hl : PE X l tl) : PI X tg l (iList X.K tl) := by
 intro pins s σ H R I h
 refine thn (hl pins s σ H _ I h) fun v s1 ⟨x, H1, I1, r1, q1⟩ => ?_
 obtain ⟨a, e, ⟨xs, hq⟩, q⟩ := q1
 subst e
 cases r1
 obtain ⟨its, rv, p, hz⟩ := I1.list hq
 refine wpAny_pyIter_list p.isList ?_
 refine ⟨s1.heap.objs.size, [s1.heap.objs.size], _, _, H1, rfl, I1.kept (t' := s1.toks) fun b o e => Heap.get?_push_of_some _ e, turn_list a _, ⟨_, Heap.get?_push_size _ rfl, rfl, rfl⟩, fun b hb => ?_, q⟩
 have e : b = s1.heap.objs.size := by simpa using hb
 subst e
 exact I1.fpOk (Nat.le_refl _) (I1.hok.fresh (Nat.le_refl _))
theorem pi_tup {l : Expr} {tl : TE} (hl : PE X l tl) : PI X tg l (iTup X.K tl) := by
 intro pins s σ H R I h
 refine thn (hl pins s σ H _ I h) fun v s1 ⟨x, H1, I1, r1, q1⟩ => ?_
 obtain ⟨a, e, ⟨xs, hq⟩, q⟩ := q1
 subst e
 cases r1
 obtain ⟨its, rv, p, hz⟩ := I1.tuple hq
 refine wpAny_pyIter_tuple (show s1.heap.IsTuple a its.toArray from p) ?_
 refine ⟨s1.heap.objs.size, [s1.heap.objs.size], _, _, H1, rfl, I1.kept (t' := s1.toks) fun b o e => Heap.get?_push_of_some _ e, turn_tuple a _, ⟨_, Heap.get?_push_size _ rfl, rfl, rfl⟩, fun b hb => ?_, q⟩
 have e : b = s1.heap.objs.size := by simpa using hb
 subst e
 exact I1.fpOk (Nat.le_refl _) (I1.hok.fresh (Nat.le_refl _))
theorem range_it {pins : List (Addr × Obj)} {σ : St} {H : Hp} {s : Shared} {R : It → Hp → Prop} {E : Value → Shared → Prop} {lo hi : Int} {t u v : Tok} {tk : Nat} (I : Inv X pins σ H s) (h1 : -(2 ^ 62) ≤ lo) (h2 : lo < 2 ^ 62) (h3 : -(2 ^ 62) ≤ hi) (h4 : hi < 2 ^ 62)
 (q : R (Itr lo (hi - lo).toNat) H) : wpAny (model X.prog X.w) X.A (pyIter (.ref s.heap.objs.size)) (PIE X pins σ tg R) E { s with heap := s.heap.push { cls := .type "range", data := .fields #[.int lo t, .int hi u, .int 1 v] }, toks := tk } := by
 refine wpAny_pyIter_range (IsRange.new ..) (small_one h1 h2 h3 h4) ?_
 have I1 : Inv X pins σ H { s with heap := s.heap.push { cls := .type "range", data := .fields #[.int lo t, .int hi u, .int 1 v] }, toks := tk } := I.kept fun b o e => Heap.get?_push_of_some _ e
 refine ⟨(s.heap.push { cls := .type "range", data := .fields #[.int lo t, .int hi u, .int 1 v] }).objs.size, [(s.heap.push { cls := .type "range", data := .fields #[.int lo t, .int hi u, .int 1 v] }).objs.size], _, _, H, rfl,
  I1.kept (t' := tk) fun b o e => Heap.get?_push_of_some _ e, turn_range _ lo (hi - lo).toNat, ?_, fun b hb => ?_, q⟩
 ·have e1 : lo + ((0 : Nat) : Int) * 1 = lo := by simp
  have e2 : (((hi - lo).toNat : Nat) : Int) - ((0 : Nat) : Int) = Builtin.Range.rangeSize lo hi 1 := by rw [rangeSize_one]; split <;> omega
  show IsRangeIter _ _ (lo + ((0 : Nat) : Int) * 1) ((((hi - lo).toNat : Nat) : Int) - ((0 : Nat) : Int)) 1
  rw [e1, e2]
  exact Heap.get?_push_size _ rfl
 ·have e : b = (s.heap.push { cls := .type "range", data := .fields #[.int lo t, .int hi u, .int 1 v] }).objs.size := by simpa using hb
  subst e
  exact I1.fpOk (Nat.le_refl _) (I1.hok.fresh (Nat.le_refl _))
def iRng1 (ta : TA) : TI := fun σ H R => ta σ H fun vs H1 => ∃ j : Int, vs = [.int j] ∧ -(2 ^ 62) ≤ j ∧ j < 2 ^ 62 ∧ R (Itr 0 j.toNat) H1
theorem pi_range1 {a : Expr} {ta : TA} {p pos : Pos} (hg : Gl X "range") (hm : X.mg "range" = none) (ha : PA X [a] ta) (hs : starEach [a] X.env = [(false, eval a X.env)] := by rfl) : PI X tg (.Call (.Name "range" p) [a] [] pos) (iRng1 ta) := by
 intro pins s σ H R I h
 refine Call_ (ld_blt I hg hm boot_range (PyProof.Rows.callWith_type1 (thn (ha pos pins s σ H _ I h) fun us s1 ⟨vs, H1, I1, r1, q1⟩ => ?_) hs rfl))
 obtain ⟨j, e, q1, q2, q⟩ := q1
 subst e
 cases r1 with
 | cons r rr =>
   cases rr
   obtain ⟨t, rfl⟩ := r
   exact call_range_1 (range_it I1 (by omega) (by omega) q1 q2 (by simpa using q))
def tFor (wi : TI) (g : TG) (tb : TS) : TS := fun D σ H => wi σ H fun J H1 => ∃ W : Nat → Nat → St → Hp → Prop, (∃ m, W 0 m σ H1) ∧ ∀ i m σ H, W i m σ H →
 (J.stop i H ∧ D.nx σ H) ∨ (J.go i H ∧ ∃ N : St → Hp → Prop, (∀ σ' H', N σ' H' → ∃ m', m' < m ∧ W (i + 1) m' σ' H') ∧ ∀ x H', J.yld i H x H' → g x σ H' fun σ2 H2 => tb { D with nx := N, ct := N, bk := D.nx } σ2 H2)
def pinsAt (fp : List Addr) (h : Heap) : List (Addr × Obj) := fp.filterMap fun b => (h.get? b).map fun o => (b, o)
theorem mem_pinsAt {fp : List Addr} {h : Heap} {b : Addr} {o : Obj} (hb : b ∈ fp) (e : h.get? b = some o) : (b, o) ∈ pinsAt fp h := List.mem_filterMap.mpr ⟨b, hb, by rw [e]; rfl⟩
theorem of_pinsAt {fp : List Addr} {h : Heap} {p : Addr × Obj} (hp : p ∈ pinsAt fp h) : p.1 ∈ fp ∧ h.get? p.1 = some p.2 := by
 obtain ⟨b, hb, e⟩ := List.mem_filterMap.mp hp
 cases q : h.get? b with
 | none => rw [q] at e; cases e
 | some o =>
   rw [q] at e
   have e' : (b, o) = p := Option.some.inj e
   subst e'
   exact ⟨hb, q⟩
theorem Inv.pinned {pins : List (Addr × Obj)} {σ : St} {H : Hp} {s : Shared} {fp : List Addr} (I : Inv X pins σ H s) (hf : ∀ b ∈ fp, FpOk X pins H b) (ho : ∀ b ∈ fp, ∃ o, s.heap.get? b = some o ∧ ∀ v, o.data ≠ .cell v) : Inv X (pins ++ pinsAt fp s.heap) σ H s :=
 I.pins_of fun p hp => (List.mem_append.mp hp).elim (fun z => I.pin p (List.mem_append_right _ z)) fun z => by
  obtain ⟨hb, e⟩ := of_pinsAt z
  obtain ⟨f0, f1, f2, _⟩ := hf p.1 hb
  obtain ⟨o, e', d⟩ := ho p.1 hb
  rw [e] at e'; cases e'
  exact ⟨e, f0, f1, f2, d⟩
theorem Inv.unpinned {pins pl : List (Addr × Obj)} {σ : St} {H : Hp} {s : Shared} (I : Inv X (pins ++ pl) σ H s) : Inv X pins σ H s := I.pins_of fun p hp => I.pin p (List.mem_append_right _ (List.mem_append_left _ hp))
theorem ps_for {iter : Expr} {body : List Stmt} {wi : TI} {g : TG} {tb : TS} {pos : Pos} (hp : PassesOwn (model X.prog X.w) X.A X.env X.xe) (hc : X.calm = true) (hi : PI X tg iter wi) (hg : PG X tg g) (hb : PSs X body tb)
 (hs : ∀ x, foldedSetIterable iter X.env x = pure x := by intro _; rfl) : PS X (.For tg iter body [] pos) (tFor wi g tb) := by
 intro pins s σ H D I h
 refine wpAny_For (thn (hi pins s σ H _ I h) fun v s1 h1 => thn h1 fun itv s2 h2 => ?_) hs
 obtain ⟨it, fp, tn, J, H2, e, I2, T, st2, f2, W, ⟨m0, w0⟩, turn⟩ := h2
 subst e
 have stat : ∀ {H' : Hp}, (∀ b ∈ fp, H' b = none) → ∀ b ∈ fp, FpOk X pins H' b := fun hn b hb => ⟨hn b hb, (f2 b hb).2⟩
 refine codeAny_forLoop_any (fun n s' => ∃ i σ' H', Inv X pins σ' H' s' ∧ tn i s'.heap ∧ (∀ b ∈ fp, H' b = none) ∧ W i n σ' H') ?_ m0 ⟨0, σ, H2, I2, st2, fun b hb => (f2 b hb).1, w0⟩
 rintro n s3 ⟨i, σ3, H3, I3, st3, fr3, w3⟩
 rcases turn i n σ3 H3 w3 with ⟨stop, qn⟩ | ⟨go, N, hN, step⟩
 ·refine wpAny_passesOwn hp (thn (T.done X rfl rfl rfl hc i pins s3 σ3 H3 X.xe I3 (stat fr3) st3 stop) fun r s4 ⟨hr, I4⟩ => ?_)
  subst hr
  exact wpAny_execs_nil ⟨σ3, H3, I4, qn⟩
 ·refine wpAny_passesOwn hp (thn (T.item X rfl rfl rfl hc i pins s3 σ3 H3 X.xe I3 (stat fr3) st3 go) fun r s4 ⟨u, hr, h4⟩ => ?_)
  subst hr
  refine wpAny_passesOwn hp (thn h4 fun _ s5 ⟨x, H5, I5, r5, y5, st5, fr5⟩ => ?_)
  have I5' := I5.pinned (stat fr5) (T.obj _ _ st5)
  refine wpAny_passesOwn hp (thn (hg _ s5 σ3 H5 x u _ I5' r5 (step x H5 y5)) fun _ s6 ⟨σ6, H6, I6, q6⟩ => ?_)
  refine wpAny_passesOwn hp (thn (hb _ s6 σ6 H6 _ I6 q6) fun f s7 q7 => ?_)
  have again : ∀ {σ7 : St} {H7 : Hp}, Inv X (pins ++ pinsAt fp s5.heap) σ7 H7 s7 → N σ7 H7 → ∃ m, m < n ∧ ∃ i σ' H', Inv X pins σ' H' s7 ∧ tn i s7.heap ∧ (∀ b ∈ fp, H' b = none) ∧ W i m σ' H' := fun {σ7 H7} I7 n7 => by
   obtain ⟨m', hm, w7⟩ := hN σ7 H7 n7
   refine ⟨m', hm, i + 1, σ7, H7, I7.unpinned, T.keep _ _ _ st5 fun b hb o e => (I7.pin (b, o) (List.mem_append_right _ (List.mem_append_right _ (mem_pinsAt hb e)))).1, fun b hb => ?_, w7⟩
   obtain ⟨o, e, d⟩ := T.obj _ _ st5 b hb
   exact (I7.pin (b, o) (List.mem_append_right _ (List.mem_append_right _ (mem_pinsAt hb e)))).2.1
  cases f with
  | next => obtain ⟨σ7, H7, I7, n7⟩ := q7; exact again I7 n7
  | cont => obtain ⟨σ7, H7, I7, n7⟩ := q7; exact again I7 n7
  | brk => obtain ⟨σ7, H7, I7, q7⟩ := q7; exact ⟨σ7, H7, I7.unpinned, q7⟩
  | ret v => obtain ⟨x7, σ7, H7, I7, r7, q7⟩ := q7; exact ⟨x7, σ7, H7, I7.unpinned, r7, q7⟩
end
end L2
namespace L2
open PySem PySem.Spec PyProof.Rows
abbrev R2 := V → V → Hp → VK → Prop
def OpR (X : Cx) (f : Value → Value → Sem Value) (r : R2) : Prop :=
 ∀ (pins : List (Addr × Obj)) (s : Shared) (σ : St) (H : Hp) (x y : V) (v u : Value) (Q : VK), Inv X pins σ H s → RelV x v → RelV y u → r x y H Q →
   wpAny (model X.prog X.w) X.A (f v u) (EP X pins σ Q) X.xe s
def UnR (X : Cx) (f : Value → Sem Value) (r : V → Hp → VK → Prop) : Prop :=
 ∀ (pins : List (Addr × Obj)) (s : Shared) (σ : St) (H : Hp) (x : V) (v : Value) (Q : VK), Inv X pins σ H s → RelV x v → r x H Q →
   wpAny (model X.prog X.w) X.A (f v) (EP X pins σ Q) X.xe s
def CallR (X : Cx) (f : Value) (r : List V → Hp → VK → Prop) : Prop :=
 ∀ (pins : List (Addr × Obj)) (s : Shared) (σ : St) (H : Hp) (xs : List V) (us : List Value) (Q : VK), Inv X pins σ H s → Vals xs us → r xs H Q →
   wpAny (model X.prog X.w) X.A (call f us) (EP X pins σ Q) X.xe s
def tOp (r : R2) (ta tb : TE) : TE := fun σ H Q => ta σ H fun x H1 => tb σ H1 fun y H2 => r x y H2 Q
def tUn (r : V → Hp → VK → Prop) (ta : TE) : TE := fun σ H Q => ta σ H fun x H1 => r x H1 Q
def rI (C : Int → Int → Prop) (g : Int → Int → V) : R2 := fun x y H Q => ∃ i j, x = .int i ∧ y = .int j ∧ C i j ∧ Q (g i j) H
def rI0 (g : Int → Int → V) : R2 := fun x y H Q => ∃ i j, x = .int i ∧ y = .int j ∧ Q (g i j) H
def rU (g : Int → V) : V → Hp → VK → Prop := fun x H Q => ∃ i, x = .int i ∧ Q (g i) H
section
variable {X : Cx} {a b c : Expr} {ta tb tc : TE} {pos : Pos}
theorem binT (ha : PE X a ta) (hb : PE X b tb) {pins : List (Addr × Obj)} {s : Shared} {σ : St} {H : Hp} {R : V → V → Hp → Prop} (I : Inv X pins σ H s)
 (h : ta σ H fun x H1 => tb σ H1 fun y H2 => R x y H2) {Q : Value → Shared → Prop} {f : Value → Value → Sem Value}
 (hf : ∀ v u s2 x y H2, Inv X pins σ H2 s2 → RelV x v → RelV y u → R x y H2 → wpAny (model X.prog X.w) X.A (f v u) Q X.xe s2) :
 wpAny (model X.prog X.w) X.A (eval a X.env) (fun v s₁ => wpAny (model X.prog X.w) X.A (eval b X.env) (fun u s₂ => wpAny (model X.prog X.w) X.A (f v u) Q X.xe s₂) X.xe s₁) X.xe s := by
 refine thn (ha pins s σ H _ I h) fun v s1 ⟨x, H1, I1, r1, q1⟩ => ?_
 refine thn (hb pins s1 σ H1 _ I1 q1) fun u s2 ⟨y, H2, I2, r2, q2⟩ => ?_
 exact hf v u s2 x y H2 I2 r1 r2 q2
theorem pe_op {op : Operator} {r : R2} (ho : OpR X (binaryOp op) r) (ha : PE X a ta) (hb : PE X b tb) : PE X (.BinOp a op b pos) (tOp r ta tb) := by
 intro pins s σ H Q I h
 exact wpAny_BinOp (binT ha hb I h fun v u s2 x y H2 I2 rx ry q => ho pins s2 σ H2 x y v u Q I2 rx ry q)
theorem pe_un {op : UnaryOp} {r : V → Hp → VK → Prop} (ho : UnR X (unaryOp op) r) (ha : PE X a ta) : PE X (.UnaryOp op a pos) (tUn r ta) := by
 intro pins s σ H Q I h
 exact UnaryOp_ (thn (ha pins s σ H _ I h) fun v s1 ⟨x, H1, I1, r1, q1⟩ => ho pins s1 σ H1 x v Q I1 r1 q1)
theorem opI {f : Value → Value → Sem Value} {C : Int → Int → Prop} {g : Int → Int → Int}
 (rule : ∀ (i j : Int) (t u : Tok) (s : Shared) (Q : Value → Shared → Prop) (E : Value → Shared → Prop), C i j → Q (.int (g i j) s.toks) { s with toks := s.toks + 1 } → wpAny (model X.prog X.w) X.A (f (.int i t) (.int j u)) Q E s) :
 OpR X f (rI C fun i j => .int (g i j)) := by
 intro pins s σ H x y v u Q I rx ry h
 obtain ⟨i, j, rfl, rfl, hc, q⟩ := h
 obtain ⟨t, rfl⟩ := rx
 obtain ⟨t', rfl⟩ := ry
 exact rule i j t t' s _ _ hc ⟨.int (g i j), H, I.tok _, ⟨_, rfl⟩, q⟩
theorem opI0 {f : Value → Value → Sem Value} {g : Int → Int → Int}
 (rule : ∀ (i j : Int) (t u : Tok) (s : Shared) (Q : Value → Shared → Prop) (E : Value → Shared → Prop), Q (.int (g i j) s.toks) { s with toks := s.toks + 1 } → wpAny (model X.prog X.w) X.A (f (.int i t) (.int j u)) Q E s) :
 OpR X f (rI0 fun i j => .int (g i j)) := by
 intro pins s σ H x y v u Q I rx ry h
 obtain ⟨i, j, rfl, rfl, q⟩ := h
 obtain ⟨t, rfl⟩ := rx
 obtain ⟨t', rfl⟩ := ry
 exact rule i j t t' s _ _ ⟨.int (g i j), H, I.tok _, ⟨_, rfl⟩, q⟩
theorem opB0 {f : Value → Value → Sem Value} {g : Int → Int → Bool}
 (rule : ∀ (i j : Int) (t u : Tok) (s : Shared) (Q : Value → Shared → Prop) (E : Value → Shared → Prop), Q (.bool (g i j)) s → wpAny (model X.prog X.w) X.A (f (.int i t) (.int j u)) Q E s) :
 OpR X f (rI0 fun i j => .bl (g i j)) := by
 intro pins s σ H x y v u Q I rx ry h
 obtain ⟨i, j, rfl, rfl, q⟩ := h
 obtain ⟨t, rfl⟩ := rx
 obtain ⟨t', rfl⟩ := ry
 exact rule i j t t' s _ _ ⟨.bl (g i j), H, I, rfl, q⟩
def CDiv (i j : Int) : Prop := 0 < j ∧ j < 1073741824
def CPow (i j : Int) : Prop := 0 ≤ j ∧ j ≤ 1000000 ∧ i.natAbs < 2 ^ 64
def CMul (i j : Int) : Prop := (-(2 ^ 64) < i ∧ i < 2 ^ 64) ∨ (-(2 ^ 64) < j ∧ j < 2 ^ 64)
theorem CMul.ok {i j : Int} (h : CMul i j) : IntMulOk i j := by
 rcases h with ⟨h1, h2⟩ | ⟨h1, h2⟩
 ·exact .of_left (intBits_le_64 h1 h2)
 ·exact .of_right (intBits_le_64 h1 h2)
theorem op_add : OpR X (binaryOp .Add) (rI0 fun i j => .int (i + j)) := opI0 fun _ _ _ _ _ _ _ q => add_int q
theorem op_sub : OpR X (binaryOp .Sub) (rI0 fun i j => .int (i - j)) := opI0 fun _ _ _ _ _ _ _ q => sub_int q
theorem op_fdiv : OpR X (binaryOp .FloorDiv) (rI CDiv fun i j => .int (i / j)) := opI fun i j _ _ _ _ _ hc q => by
 have h1 : (0 : Int) < j := hc.1
 have h2 : j < 1073741824 := hc.2
 exact floordiv_int (by omega) (by rw [Int.fdiv_eq_ediv_of_nonneg i (by omega)]; exact q) (.inl (PyProof.noPylong_small (by omega)))
theorem op_mod : OpR X (binaryOp .Mod) (rI (fun _ j => 0 < j) fun i j => .int (i % j)) := opI fun i j _ _ _ _ _ hc q => by
 have h1 : (0 : Int) < j := hc
 exact mod_int' (by omega) (by rw [Int.fmod_eq_emod_of_nonneg i (by omega)]; exact q)
theorem op_modN : OpR X (binaryOp .Mod) (rI (fun _ j => j ≠ 0) fun i j => .int (i.fmod j)) := opI fun _ _ _ _ _ _ _ hc q => mod_int' hc q
theorem op_pow : OpR X (binaryOp .Pow) (rI CPow fun i j => .int (i ^ j.toNat)) := opI fun _ _ _ _ _ _ _ hc q => pow_int_small hc.1 hc.2.1 hc.2.2 q
theorem unI {f : Value → Sem Value} {g : Int → Int}
 (rule : ∀ (i : Int) (t : Tok) (s : Shared) (Q : Value → Shared → Prop) (E : Value → Shared → Prop), Q (.int (g i) s.toks) { s with toks := s.toks + 1 } → wpAny (model X.prog X.w) X.A (f (.int i t)) Q E s) :
 UnR X f (rU fun i => .int (g i)) := by
 intro pins s σ H x v Q I rx h
 obtain ⟨i, rfl, q⟩ := h
 obtain ⟨t, rfl⟩ := rx
 exact rule i t s _ _ ⟨.int (g i), H, I.tok _, ⟨_, rfl⟩, q⟩
theorem un_neg : UnR X (unaryOp .USub) (rU fun i => .int (-i)) := unI fun _ _ _ _ _ q => neg_int q
end
def scal : V → V → Bool
 | .non, .non => true | .non, .int _ => true | .int _, .non => true | .non, .bl _ => true | .bl _, .non => true | .non, .str _ => true | .str _, .non => true
 | .int _, .int _ => true | .bl _, .bl _ => true | .str _, .str _ => true | .byt _, .byt _ => true
 | .int _, .str _ => true | .str _, .int _ => true | .bl _, .str _ => true | .str _, .bl _ => true
 | _, _ => false
def rEq : R2 := fun x y H Q => scal x y = true ∧ Q (.bl (decide (x = y))) H
def rNe : R2 := fun x y H Q => scal x y = true ∧ Q (.bl (!decide (x = y))) H
theorem dec_int {i j : Int} : decide (V.int i = V.int j) = (i == j) := by
 rw [Bool.eq_iff_iff]
 simp
theorem dec_bl {i j : Bool} : decide (V.bl i = V.bl j) = (i == j) := by
 rw [Bool.eq_iff_iff]
 simp
theorem dec_str {i j : Str} : decide (V.str i = V.str j) = (i == j) := by
 rw [Bool.eq_iff_iff]
 simp
theorem dec_byt {i j : Array UInt8} : decide (V.byt i = V.byt j) = (i.toList == j.toList) := by
 rw [Bool.eq_iff_iff]
 cases i
 cases j
 simp
section
variable {X : Cx} {a b c : Expr} {ta tb tc : TE} {pos : Pos}
theorem fin_bl {pins : List (Addr × Obj)} {σ : St} {H : Hp} {s : Shared} {Q : VK} {k k' : Bool} (I : Inv X pins σ H s) (q : Q (.bl k) H) (e : k = k') : EP X pins σ Q (.bool k') s := by
 subst e
 exact ⟨.bl k, H, I, rfl, q⟩
theorem op_eq : OpR X (compareOp .Eq) rEq := by
 intro pins s σ H x y v u Q I rx ry h
 obtain ⟨hs, q⟩ := h
 cases x with
 | non =>
   cases rx
   cases y with
   | non => cases ry; exact PySem.EqNone.eq_none_none (fin_bl I q (by simp))
   | bl j => cases ry; exact PySem.EqNone.eq_none_bool (fin_bl I q (by simp))
   | int j => obtain ⟨t', rfl⟩ := ry; exact PySem.EqNone.eq_none_int (fin_bl I q (by simp))
   | str j => obtain ⟨t', rfl⟩ := ry; exact PySem.EqNone.eq_none_str (fin_bl I q (by simp))
   | _ => exact absurd (show false = true from hs) Bool.false_ne_true
 | bl i =>
   cases rx
   cases y with
   | non => cases ry; exact PySem.EqNone.eq_bool_none (fin_bl I q (by simp))
   | bl j => cases ry; exact eq_bool (fin_bl I q dec_bl)
   | str j => obtain ⟨t', rfl⟩ := ry; exact PySem.EqMixed.eq_bool_str (fin_bl I q (by simp))
   | _ => exact absurd (show false = true from hs) Bool.false_ne_true
 | int i =>
   obtain ⟨t, rfl⟩ := rx
   cases y with
   | non => cases ry; exact PySem.EqNone.eq_int_none (fin_bl I q (by simp))
   | int j => obtain ⟨t', rfl⟩ := ry; exact eq_int (fin_bl I q dec_int)
   | str j => obtain ⟨t', rfl⟩ := ry; exact PySem.EqMixed.eq_int_str (fin_bl I q (by simp))
   | _ => exact absurd (show false = true from hs) Bool.false_ne_true
 | str i =>
   obtain ⟨t, rfl⟩ := rx
   cases y with
   | non => cases ry; exact PySem.EqNone.eq_str_none (fin_bl I q (by simp))
   | bl j => cases ry; exact PySem.EqMixed.eq_str_bool (fin_bl I q (by simp))
   | int j => obtain ⟨t', rfl⟩ := ry; exact PySem.EqMixed.eq_str_int (fin_bl I q (by simp))
   | str j => obtain ⟨t', rfl⟩ := ry; exact eq_str (fin_bl I q dec_str)
   | _ => exact absurd (show false = true from hs) Bool.false_ne_true
 | byt i =>
   obtain ⟨t, rfl⟩ := rx
   cases y with
   | byt j => obtain ⟨t', rfl⟩ := ry; exact PySem.W.eq_bytes (fin_bl I q dec_byt)
   | _ => exact absurd (show false = true from hs) Bool.false_ne_true
 | _ => cases y <;> exact absurd (show false = true from hs) Bool.false_ne_true
theorem op_ne : OpR X (compareOp .NotEq) rNe := by
 intro pins s σ H x y v u Q I rx ry h
 obtain ⟨hs, q⟩ := h
 cases x with
 | non =>
   cases rx
   cases y with
   | non => cases ry; exact PySem.EqNone.ne_none_none (fin_bl I q (by simp))
   | bl j => cases ry; exact PySem.EqNone.ne_none_bool (fin_bl I q (by simp))
   | int j => obtain ⟨t', rfl⟩ := ry; exact PySem.EqNone.ne_none_int (fin_bl I q (by simp))
   | str j => obtain ⟨t', rfl⟩ := ry; exact PySem.EqNone.ne_none_str (fin_bl I q (by simp))
   | _ => exact absurd (show false = true from hs) Bool.false_ne_true
 | bl i =>
   cases rx
   cases y with
   | non => cases ry; exact PySem.EqNone.ne_bool_none (fin_bl I q (by simp))
   | bl j => cases ry; exact ne_bool (fin_bl I q (congrArg not dec_bl))
   | str j => obtain ⟨t', rfl⟩ := ry; exact PySem.EqMixed.ne_bool_str (fin_bl I q (by simp))
   | _ => exact absurd (show false = true from hs) Bool.false_ne_true
 | int i =>
   obtain ⟨t, rfl⟩ := rx
   cases y with
   | non => cases ry; exact PySem.EqNone.ne_int_none (fin_bl I q (by simp))
   | int j => obtain ⟨t', rfl⟩ := ry; exact ne_int (fin_bl I q (congrArg not dec_int))
   | str j => obtain ⟨t', rfl⟩ := ry; exact PySem.EqMixed.ne_int_str (fin_bl I q (by simp))
   | _ => exact absurd (show false = true from hs) Bool.false_ne_true
 | str i =>
   obtain ⟨t, rfl⟩ := rx
   cases y with
   | non => cases ry; exact PySem.EqNone.ne_str_none (fin_bl I q (by simp))
   | bl j => cases ry; exact PySem.EqMixed.ne_str_bool (fin_bl I q (by simp))
   | int j => obtain ⟨t', rfl⟩ := ry; exact PySem.EqMixed.ne_str_int (fin_bl I q (by simp))
   | str j => obtain ⟨t', rfl⟩ := ry; exact ne_str (fin_bl I q (congrArg not dec_str))
   | _ => exact absurd (show false = true from hs) Bool.false_ne_true
 | byt i =>
   obtain ⟨t, rfl⟩ := rx
   cases y with
   | byt j => obtain ⟨t', rfl⟩ := ry; exact PySem.W.ne_bytes (fin_bl I q (congrArg not dec_byt))
   | _ => exact absurd (show false = true from hs) Bool.false_ne_true
 | _ => cases y <;> exact absurd (show false = true from hs) Bool.false_ne_true
theorem op_lt : OpR X (compareOp .Lt) (rI0 fun i j => .bl (decide (i < j))) := opB0 fun _ _ _ _ _ _ _ q => lt_int q
theorem op_le : OpR X (compareOp .LtE) (rI0 fun i j => .bl (decide (i ≤ j))) := opB0 fun _ _ _ _ _ _ _ q => le_int q
theorem op_gt : OpR X (compareOp .Gt) (rI0 fun i j => .bl (decide (j < i))) := opB0 fun _ _ _ _ _ _ _ q => gt_int q
theorem op_ge : OpR X (compareOp .GtE) (rI0 fun i j => .bl (decide (j ≤ i))) := opB0 fun _ _ _ _ _ _ _ q => ge_int q
theorem op_in_str : OpR X (compareOp .In) (fun x y H Q => ∃ i j, x = .str i ∧ y = .str j ∧ Q (.bl (!(Builtin.Str.occurrences j i 0 j.length 1).isEmpty)) H) := by
 intro pins s σ H x y v u Q I rx ry h
 obtain ⟨i, j, rfl, rfl, q⟩ := h
 obtain ⟨t, rfl⟩ := rx
 obtain ⟨t', rfl⟩ := ry
 exact in_str (fin_bl I q rfl)
theorem op_isN : OpR X (compareOp .Is) (fun x y H Q => y = .non ∧ Q (.bl (decide (x = .non))) H) := by
 intro pins s σ H x y v u Q I rx ry h
 obtain ⟨rfl, q⟩ := h
 cases ry
 refine is_none_gen (fin_bl I q ?_)
 cases x <;> first
  | (cases rx; rfl)
  | (obtain ⟨t, rfl⟩ := rx; rfl)
theorem OpR.or {f : Value → Value → Sem Value} {r r' : R2} (h : OpR X f r) (h' : OpR X f r') : OpR X f (fun x y H Q => r x y H Q ∨ r' x y H Q) := by
 intro pins s σ H x y v u Q I rx ry q
 rcases q with q | q
 ·exact h pins s σ H x y v u Q I rx ry q
 ·exact h' pins s σ H x y v u Q I rx ry q
theorem nomark (b : Expr) {op : CmpOp} (h : op ≠ .In := by decide) (h2 : op ≠ .NotIn := by decide) : behindInMarks op b = false := by
 have e1 : (op == CmpOp.In) = false := by cases op <;> first | rfl | exact absurd rfl h
 have e2 : (op == CmpOp.NotIn) = false := by cases op <;> first | rfl | exact absurd rfl h2
 cases b <;> simp [behindInMarks, e1, e2]
theorem pe_cmpR {op : CmpOp} {r : R2} (ho : OpR X (compareOp op) r) (ha : PE X a ta) (hb : PE X b tb) (hm : behindInMarks op b = false) : PE X (.Compare a [op] [b] pos) (tOp r ta tb) := by
 intro pins s σ H Q I h
 exact wpAny_Compare1 (binT ha hb I h fun v u s2 x y H2 I2 rx ry q => ho pins s2 σ H2 x y v u Q I2 rx ry q) hm
def tTest (t : TE) : TT := fun σ H Q => t σ H fun x H' => ∃ k, x = .bl k ∧ Q k H'
theorem pt_cmpR {op : CmpOp} {r : R2} (ho : OpR X (compareOp op) r) (ha : PE X a ta) (hb : PE X b tb) (hm : behindInMarks op b = false) : PT X (.Compare a [op] [b] pos) (tTest (tOp r ta tb)) := by
 intro pins s σ H Q I h
 refine wpAny_isTrue_Compare1 (thn (ha pins s σ H _ I h) fun v s1 ⟨x, H1, I1, r1, q1⟩ => thn (hb pins s1 σ H1 _ I1 q1) fun u s2 ⟨y, H2, I2, r2, q2⟩ =>
  thn (ho pins s2 σ H2 x y v u _ I2 r1 r2 q2) fun c s3 ⟨z, H3, I3, r3, k, e, q3⟩ => ?_) hm
 subst e
 cases r3
 exact wpAny_truthy_bool ⟨H3, I3, q3⟩
theorem line63 : (sizeLine : Nat) < 2 ^ 63 := by rw [sizeLine_eq]; decide
theorem op_add_str : OpR X (binaryOp .Add) (fun x y H Q => ∃ i j, x = .str i ∧ y = .str j ∧ i.length + j.length ≤ sizeLine ∧ Q (.str (i ++ j)) H) := by
 intro pins s σ H x y v u Q I rx ry h
 obtain ⟨i, j, rfl, rfl, hz, q⟩ := h
 obtain ⟨t, rfl⟩ := rx
 obtain ⟨t', rfl⟩ := ry
 exact add_str (fun t' tk => ⟨.str (i ++ j), H, I.tok _, ⟨_, rfl⟩, q⟩) hz
theorem vals1 {x : V} {us : List Value} (r : Vals [x] us) : ∃ u, us = [u] ∧ RelV x u := by
 cases r with
 | cons r1 r2 => cases r2; exact ⟨_, rfl, r1⟩
theorem vals2 {x y : V} {us : List Value} (r : Vals [x, y] us) : ∃ u w', us = [u, w'] ∧ RelV x u ∧ RelV y w' := by
 cases r with
 | cons r1 r2 =>
   cases r2 with
   | cons r3 r4 => cases r4; exact ⟨_, _, rfl, r1, r3⟩
theorem call_abs : CallR X (.builtin "abs") (fun xs H Q => ∃ i, xs = [.int i] ∧ Q (.int (if i < 0 then -i else i)) H) := by
 intro pins s σ H xs us Q I r h
 obtain ⟨i, rfl, q⟩ := h
 obtain ⟨u, rfl, t, rfl⟩ := vals1 r
 exact call_abs_int fun u tk => ⟨.int (if i < 0 then -i else i), H, I.tok _, ⟨_, rfl⟩, q⟩
theorem call_max2 (hc : X.calm = true) : CallR X (.builtin "max") (fun xs H Q => ∃ i j, xs = [.int i, .int j] ∧ Q (.int (if j > i then j else i)) H) := by
 intro pins s σ H xs us Q I r h
 obtain ⟨i, j, rfl, q⟩ := h
 obtain ⟨u, w', rfl, ⟨t, rfl⟩, ⟨t', rfl⟩⟩ := vals2 r
 refine max_two_ints (I.ok.hd hc) fun h' tk k => ⟨_, H, I.kept k, ?_, q⟩
 by_cases hj : j > i
 ·rw [if_pos hj, if_pos hj]; exact ⟨_, rfl⟩
 ·rw [if_neg hj, if_neg hj]; exact ⟨_, rfl⟩
theorem call_int1 : CallR X (.type "int") (fun xs H Q => (∃ i, xs = [.int i] ∧ Q (.int i) H) ∨ ∃ k, xs = [.bl k] ∧ Q (.int (if k then 1 else 0)) H) := by
 intro pins s σ H xs us Q I r h
 rcases h with ⟨i, rfl, q⟩ | ⟨k, rfl, q⟩
 ·obtain ⟨u, rfl, t, rfl⟩ := vals1 r
  exact call_int_int ⟨.int i, H, I, ⟨_, rfl⟩, q⟩
 ·obtain ⟨u, rfl, r1⟩ := vals1 r
  cases r1
  exact call_int_bool ⟨.int (if k then 1 else 0), H, I.tok _, ⟨_, rfl⟩, q⟩
theorem call_str_int : CallR X (.type "str") (fun xs H Q => ∃ i, xs = [.int i] ∧ i.natAbs.log2 < 1920 ∧ Q (.str (toString i)) H) := by
 intro pins s σ H xs us Q I r h
 obtain ⟨i, rfl, hz, q⟩ := h
 obtain ⟨u, rfl, t, rfl⟩ := vals1 r
 exact PySem.P.str_of_int hz ⟨.str _, H, I.tok _, ⟨_, rfl⟩, q⟩
end
end L2
namespace L2
open PySem PySem.Spec PyProof.Rows
structure ObjM (h : Heap) (x dx C : Addr) (mA : Str → Option Value) : Prop where
 obj : h.get? x = some (PySem.W.instObj C dx)
 ns : h.Ns1 dx mA
 ne : dx ≠ x
theorem lookIn_ns {h : Heap} {dx : Addr} {mA : Str → Option Value} (n : h.Ns1 dx mA) : ∃ od, h.get? dx = some od ∧ ∀ name, PySem.W.lookIn name od = some (mA name) := by
 obtain ⟨o, es, ep, ho, hd, hk, _, hm⟩ := n
 refine ⟨o, ho, fun name => ?_⟩
 have e := hm name
 unfold nsFind findBy at e
 rw [← Array.find?_toList] at e
 unfold PySem.W.lookIn
 rw [hd]
 dsimp only
 split
 ·rename_i y q
  rw [q] at e
  exact congrArg some e
 ·rename_i q
  rw [q] at e
  have a : es.toList.any (·.refKey) = false := by
   rw [List.any_eq_false]
   intro y hy
   obtain ⟨z, t, hkey⟩ := hk y (Array.mem_toList_iff.mp hy)
   simp [DictEntry.refKey, hkey]
  have a' : ¬ es.toList.any (·.refKey) = true := by rw [a]; exact Bool.false_ne_true
  rw [if_neg a']
  exact congrArg some e
theorem ObjM.look {h : Heap} {x dx C : Addr} {mA : Str → Option Value} (I : ObjM h x dx C mA) : ∃ od, PySem.W.InstAt h x (PySem.W.instObj C dx) C (some od) ∧ ∀ name, PySem.W.lookIn name od = some (mA name) :=
 let ⟨od, ho, hl⟩ := lookIn_ns I.ns
 ⟨od, ⟨I.obj, rfl, rfl, ho⟩, hl⟩
section
variable {prog : Program} {w : World} {A : Around} {E : Value → Shared → Prop} {s : Shared} {K : PySem.W.Frag} {x dx C f : Addr} {mA : Str → Option Value} {name : Str} {v : Value}
theorem get_map {expr : Bool} {Q : Value → Shared → Prop} (X : K.In s.heap) (I : ObjM s.heap x dx C mA) (hg : PySem.W.plainGet K C name = true) (hh : PySem.W.hasDictIn K C = true)
 (ha : PySem.W.findIn K (.ref C) name = some none) (hv : mA name = some v) (hv' : PySem.W.handedIn v = true) (h : Q v { s with toks := s.toks + 1 }) :
 wpAny (model prog w) A (getAttr (.ref x) name expr) Q E s := by
 obtain ⟨od, J, hl⟩ := I.look
 exact PySem.W.get_value X J (PySem.W.plainGet_of hg).1 (PySem.W.findObj_own hh ha rfl (by rw [hl, hv])) hv' h
theorem get_meth {pl : Sem Bool} {Q : Value × List Value → Shared → Prop} (X : K.In s.heap) (I : ObjM s.heap x dx C mA) (hg : PySem.W.plainGet K C name = true)
 (hf : PySem.W.findIn K (.ref C) name = some (some (.ref f))) (ht : PySem.W.isFn K (.ref f) = true) (hv : mA name = none) (h : Q (.ref f, [.ref x]) s) :
 wpAny (model prog w) A (getMethod (.ref x) name pl) Q E s := by
 obtain ⟨od, J, hl⟩ := I.look
 exact PySem.W.method_fn X J (PySem.W.plainGet_of hg).1 (PySem.W.plainGet_of hg).2 hf (beq_iff_eq.mp ht) (by show (PySem.W.lookIn name od).map (·.isSome) = some false; rw [hl, hv]; rfl) h
theorem set_map {ns : List Str} {Q : Unit → Shared → Prop} (X : K.In s.heap) (I : ObjM s.heap x dx C mA)
 (hs : PySem.W.findIn K (.ref C) "__setattr__" = some (some (.builtin "object.__setattr__"))) (hp : PySem.W.plainOver K C = true) (ht : PySem.W.takerIn K C name = some none) (hh : PySem.W.hasDictIn K C = true)
 (hw : PySem.Within mA ns) (hsz : ns.length ≤ sizeLine)
 (h : ∀ h', ObjM h' x dx C (fun y => if y = name then some v else mA y) → Heap.SameBut dx s.heap h' → Q () { s with heap := h', toks := s.toks + 2 }) :
 wpAny (model prog w) A (setAttr (.ref x) name v) Q E s := by
 obtain ⟨od, J, hl⟩ := I.look
 refine PySem.W.set_plain X J hs (PySem.W.osa_open (s := { s with toks := s.toks + 1 }) (r := none) X J hp ht fun b => ?_)
 obtain ⟨cd, hc, hd'⟩ := PySem.W.any_some hh
 have hx : s.heap.get? x = some ⟨.ref C, some dx, .plain, #[]⟩ := I.obj
 refine wpAny_bind (wpAny_pure (wpAny_bind (wpAny_bind (wpAny_loadPart hx (wpAny_bind (PySem.W.Looks.here (s := { s with toks := s.toks + 1 }) (PySem.W.looks_clsIn X hc) ?_))))))
 rw [hd']
 refine wpAny_pure (a := some dx) (wpAny_bind (wpAny_pure (wpAny_bind ?_)))
 refine wpAny_nsSet1 (s := { s with toks := s.toks + 1 }) I.ns fun h' hn2 hs2 => ?_
 obtain ⟨oD, esD, epD, hoD, hdD, hcD⟩ := hn2.count (PySem.Within.cons name v hw)
 refine wpAny_bind (wpAny_lookBehind hoD (by rw [hdD]; exact pastItsLine_dict (Nat.le_trans hcD (by rw [List.length_cons]; omega))) ?_)
 exact wpAny_pure (h _ ⟨(hs2.2 _ (Ne.symm I.ne)).trans I.obj, hn2, I.ne⟩ hs2)
theorem make_map {R : Result → Shared → Prop} {vs : List Value} {kw : List (Str × Value)} (X : K.In s.heap) (hm : PySem.W.makesIn K C = true)
 (hi : PySem.W.findIn K (.ref C) "__init__" = some (some (.ref f))) (hf : PySem.W.typeIn K (.ref f) = some (.type "function"))
 (h : codeAny (model prog w) (A.under (.builtin "type.__call__" ⟨.ref C :: vs, kw⟩)) (.call (.ref f) ⟨.ref (s.heap.objs.size + 1) :: vs, kw⟩) (PySem.W.InitBack (s.heap.objs.size + 1) R)
  { s with heap := (s.heap.push PySem.W.emptyDict).push (PySem.W.instObj C s.heap.objs.size) }) :
 codeAny (model prog w) A (.call (.ref C) ⟨vs, kw⟩) R s := by
 obtain ⟨hh, g, d, t, os⟩ := s
 exact PySem.W.make_core (PySem.W.makes_of X hm) (PySem.W.looks_findIn X hi) (fun self => PySem.W.bind_fn X self hf) (.inl rfl) h
end
def putF (f : Str) (v : V) : List (Str × V) → List (Str × V)
 | [] => [(f, v)]
 | (g, x) :: r => if g = f then (g, v) :: r else (g, x) :: putF f v r
theorem lookup_putF (f g : Str) (v : V) : ∀ fs : List (Str × V), (putF f v fs).lookup g = if g = f then some v else fs.lookup g
 | [] => by
   show List.lookup g [(f, v)] = _
   by_cases h : g = f
   ·have hb : (g == f) = true := beq_iff_eq.mpr h
    simp only [List.lookup, hb, if_pos h]
   ·have hb : (g == f) = false := beq_eq_false_iff_ne.mpr h
    simp only [List.lookup, hb, if_neg h]
 | (k, x) :: r => by
   have ih := lookup_putF f g v r
   rw [show putF f v ((k, x) :: r) = (if k = f then (k, v) :: r else (k, x) :: putF f v r) from rfl]
   by_cases hk : k = f
   ·rw [if_pos hk]
    by_cases h : g = k
    ·have hb : (g == k) = true := beq_iff_eq.mpr h
     simp only [List.lookup, hb, if_pos (h.trans hk)]
    ·have hb : (g == k) = false := beq_eq_false_iff_ne.mpr h
     simp only [List.lookup, hb, if_neg (fun e : g = f => h (e.trans hk.symm))]
   ·rw [if_neg hk]
    by_cases h : g = k
    ·have hb : (g == k) = true := beq_iff_eq.mpr h
     simp only [List.lookup, hb, if_neg (fun e : g = f => hk (h.symm.trans e))]
    ·have hb : (g == k) = false := beq_eq_false_iff_ne.mpr h
     simp only [List.lookup, hb]
     exact ih
theorem keys_putF (f : Str) (v : V) : ∀ fs : List (Str × V), f ∈ (putF f v fs).map (·.1) ∧ ∀ g, g ∈ fs.map (·.1) → g ∈ (putF f v fs).map (·.1)
 | [] => ⟨by simp [putF], fun g h => by simp at h⟩
 | (k, x) :: r => by
   obtain ⟨i1, i2⟩ := keys_putF f v r
   rw [show putF f v ((k, x) :: r) = (if k = f then (k, v) :: r else (k, x) :: putF f v r) from rfl]
   by_cases hk : k = f
   ·rw [if_pos hk]
    subst hk
    exact ⟨by simp, fun g h => by simpa using h⟩
   ·rw [if_neg hk]
    refine ⟨?_, fun g h => ?_⟩
    ·rw [List.map_cons]
     exact List.mem_cons_of_mem _ i1
    ·rw [List.map_cons] at h ⊢
     rcases List.mem_cons.mp h with e | e
     ·exact List.mem_cons.mpr (.inl e)
     ·exact List.mem_cons_of_mem _ (i2 g e)
theorem length_putF (f : Str) (v : V) : ∀ fs : List (Str × V), (putF f v fs).length ≤ fs.length + 1
 | [] => by simp [putF]
 | (k, x) :: r => by
   have ih := length_putF f v r
   rw [show putF f v ((k, x) :: r) = (if k = f then (k, v) :: r else (k, x) :: putF f v r) from rfl]
   by_cases hk : k = f
   ·rw [if_pos hk, List.length_cons, List.length_cons]; omega
   ·rw [if_neg hk, List.length_cons, List.length_cons]; omega
theorem RelO.some_of {v : V} {o : Option Value} (r : RelO (some v) o) : ∃ u, o = some u ∧ RelV v u := by
 cases o with
 | none => exact (show False from r).elim
 | some u => exact ⟨u, rfl, r⟩
theorem RelO.none_of {o : Option Value} (r : RelO none o) : o = none := by
 cases o with
 | none => rfl
 | some u => exact (show False from r).elim
theorem handed_of {v : V} {u : Value} (r : RelV v u) : PySem.W.handedIn u = true := by
 cases v with
 | non => cases (show u = Value.none from r); rfl
 | bl b => cases (show u = Value.bool b from r); rfl
 | int i => obtain ⟨t, e⟩ := (show ∃ t, u = Value.int i t from r); cases e; rfl
 | str x => obtain ⟨t, e⟩ := (show ∃ t, u = Value.str x t from r); cases e; rfl
 | byt b => obtain ⟨t, e⟩ := (show ∃ t, u = Value.bytes b t from r); cases e; rfl
 | flt b => obtain ⟨t, e⟩ := (show ∃ t, u = Value.float b t from r); cases e; rfl
 | ref a => cases (show u = Value.ref a from r); rfl
 | ty n => cases (show u = Value.type n from r); rfl
section
variable {P : Program} {w : World} {H H' : Hp} {h h' : Heap} {a C dx : Addr} {fs fs' : List (Str × V)}
theorem ins_get (hok : HOk P w H h) (e : H a = some (.ins C dx fs)) : ∃ mA, ObjM h a dx C mA ∧ (∀ f, RelO (fs.lookup f) (mA f)) ∧ PySem.Within mA (fs.map (·.1)) ∧ fs.length ≤ 1000 ∧ H dx = some (.own a) := by
 obtain ⟨d, z, ne, ob, mA, n, r, q⟩ := (show ObjOk P w H h a (.ins C dx fs) from hok a _ e)
 exact ⟨mA, ⟨ob, n, ne⟩, r, q, z, d⟩
end
structure Cls (K : PySem.W.Frag) (C : Addr) : Prop where
 pg : PySem.W.plainGet K C Str.empty = true
 hd : PySem.W.hasDictIn K C = true
 po : PySem.W.plainOver K C = true
 sa : PySem.W.findIn K (.ref C) "__setattr__" = some (some (.builtin "object.__setattr__"))
theorem Cls.get {K : PySem.W.Frag} {C : Addr} (c : Cls K C) (f : Str) : PySem.W.plainGet K C f = true := c.pg
def NoAttr (K : PySem.W.Frag) (C : Addr) (f : Str) : Prop := PySem.W.findIn K (.ref C) f = some none
theorem NoAttr.taker {K : PySem.W.Frag} {C : Addr} {f : Str} (n : NoAttr K C f) : PySem.W.takerIn K C f = some none := by
 unfold PySem.W.takerIn
 rw [show PySem.W.findIn K (.ref C) f = some none from n]
 rfl
structure Meth (K : PySem.W.Frag) (C : Addr) (m : Str) (f : Addr) : Prop where
 at_ : PySem.W.findIn K (.ref C) m = some (some (.ref f))
 fn : PySem.W.isFn K (.ref f) = true
 kp : PySem.W.keepIn K (.ref f) = true
section
variable {X : Cx} {pins : List (Addr × Obj)} {σ : St} {H : Hp} {s : Shared} {a C dx : Addr} {fs : List (Str × V)} {f : Str} {v : V} {A : Around} {E : Value → Shared → Prop}
theorem getattr_ok {b : Bool} {Q : Value → Shared → Prop} (I : Inv X pins σ H s) (e : H a = some (.ins C dx fs)) (c : Cls X.K C) (n : NoAttr X.K C f) (l : fs.lookup f = some v)
 (h : ∀ u s', Inv X pins σ H s' → RelV v u → Q u s') : wpAny (model X.prog X.w) A (getAttr (.ref a) f b) Q E s := by
 obtain ⟨mA, O, r, _, _, _⟩ := ins_get I.hok e
 obtain ⟨u, hu, ru⟩ := RelO.some_of (v := v) (o := mA f) (by rw [← l]; exact r f)
 exact get_map I.kIn O (c.get f) c.hd n hu (handed_of ru) (h u _ (I.tok _) ru)
theorem getmeth_ok {m : Str} {g : Addr} {pl : Sem Bool} {Q : Value × List Value → Shared → Prop} (I : Inv X pins σ H s) (e : H a = some (.ins C dx fs)) (c : Cls X.K C) (k : Meth X.K C m g) (l : fs.lookup m = none)
 (h : Q (.ref g, [.ref a]) s) : wpAny (model X.prog X.w) A (getMethod (.ref a) m pl) Q E s := by
 obtain ⟨mA, O, r, _, _, _⟩ := ins_get I.hok e
 have hn : mA m = none := RelO.none_of (by rw [← l]; exact r m)
 exact get_meth I.kIn O (c.get m) k.at_ k.fn hn h
theorem setattr_ok {y : V} {u : Value} {Q : Unit → Shared → Prop} (I : Inv X pins σ H s) (e : H a = some (.ins C dx fs)) (c : Cls X.K C) (n : NoAttr X.K C f) (hl : fs.length < 1000) (ry : RelV y u)
 (h : ∀ s', Inv X pins σ (upd H a (.ins C dx (putF f y fs))) s' → Q () s') : wpAny (model X.prog X.w) A (setAttr (.ref a) f u) Q E s := by
 obtain ⟨mA, O, r, wi, _, ho⟩ := ins_get I.hok e
 have hz : (fs.map (·.1)).length ≤ sizeLine := by rw [List.length_map, sizeLine_eq]; omega
 refine set_map I.kIn O c.sa c.po n.taker c.hd wi hz fun h' O' sb => h _ ?_
 have hd : ∃ o, h'.get? dx = some o := let ⟨o, _, _, e', _⟩ := O'.ns; ⟨o, e'⟩
 refine I.write (x := a) (e := dx) (by rw [e]; exact True.intro) (.inr ho) (fun b q hb z => (sb.2 b hb).trans z) hd ?_
 refine ⟨by rw [upd_ne O.ne]; exact ho, ?_, O.ne, O'.obj, _, O'.ns, fun g => ?_, fun g hg => ?_⟩
 ·have := length_putF f y fs; omega
 ·show RelO ((putF f y fs).lookup g) (if g = f then some u else mA g)
  rw [lookup_putF]
  by_cases q : g = f
  ·rw [if_pos q, if_pos q]; exact ry
  ·rw [if_neg q, if_neg q]; exact r g
 ·by_cases q : g = f
  ·rw [q]; exact (keys_putF f y fs).1
  ·refine (keys_putF f y fs).2 g (wi g fun z => hg ?_)
   show (if g = f then some u else mA g) = none
   rw [if_neg q]; exact z
theorem Inv.made (I : Inv X pins σ H s) : Inv X pins σ (upd (upd H s.heap.objs.size (.own (s.heap.objs.size + 1))) (s.heap.objs.size + 1) (.ins C s.heap.objs.size []))
 { s with heap := (s.heap.push PySem.W.emptyDict).push (PySem.W.instObj C s.heap.objs.size) } := by
 have e1 : (s.heap.push PySem.W.emptyDict).get? s.heap.objs.size = some PySem.W.emptyDict := Heap.get?_push_size s.heap rfl
 have e2 : ((s.heap.push PySem.W.emptyDict).push (PySem.W.instObj C s.heap.objs.size)).get? (s.heap.objs.size + 1) = some (PySem.W.instObj C s.heap.objs.size) := by
  have := Heap.get?_push_size (s.heap.push PySem.W.emptyDict) (o := PySem.W.instObj C s.heap.objs.size) rfl
  rwa [Heap.size_push] at this
 have e3 : (s.heap.push PySem.W.emptyDict).Ns s.heap.objs.size (fun _ => none) := ⟨PySem.W.emptyDict, #[], _, e1, rfl, (fun e he => absurd he (by simp)), fun _ => rfl⟩
 have I1 := I.laid (a := s.heap.objs.size) (o := .own (s.heap.objs.size + 1)) (h' := s.heap.push PySem.W.emptyDict) (t' := s.toks) (fun b u q => Heap.get?_push_of_some _ q) (Nat.le_refl _) ⟨_, e1⟩
 refine I1.laid (a := s.heap.objs.size + 1) (o := .ins C s.heap.objs.size []) (t' := s.toks) (fun b u q => Heap.get?_push_of_some _ q) (Nat.le_of_eq (Heap.size_push _ _)) ?_
 have ne : s.heap.objs.size ≠ s.heap.objs.size + 1 := Nat.ne_of_lt (Nat.lt_succ_self _)
 refine ⟨by rw [upd_ne ne, upd_same], Nat.zero_le _, ne, e2, fun _ => none, (Heap.Ns1.of_empty e3).at fun o q => Heap.get?_push_of_some _ q, fun _ => True.intro, fun y hy => absurd rfl hy⟩
theorem attr_of {prog : Program} {w : World} {env : Env} {e : Expr} {f : Str} {pos : Pos} {s : Shared} {Q : Value → Shared → Prop} (hb : attributeBase e f env (eval e env) = eval e env)
 (h : wpAny (model prog w) A (eval e env) (fun o s₁ => wpAny (model prog w) A (getAttr o f true) Q E s₁) E s) : wpAny (model prog w) A (eval (.Attribute e f pos) env) Q E s :=
 Attribute_any_ h (by rw [arm_eval_Attribute, hb])
end
def tFld (K : PySem.W.Frag) (ta : TE) (f : Str) : TE := fun σ H Q => ta σ H fun x H1 => ∃ a C dx fs v, x = .ref a ∧ H1 a = some (.ins C dx fs) ∧ Cls K C ∧ NoAttr K C f ∧ fs.lookup f = some v ∧ Q v H1
def sFld (K : PySem.W.Frag) (ta tv : TE) (f : Str) : TS := fun D σ H => tv σ H fun y H1 => ta σ H1 fun x H2 => ∃ a C dx fs, x = .ref a ∧ H2 a = some (.ins C dx fs) ∧ Cls K C ∧ NoAttr K C f ∧ fs.length < 1000 ∧
 D.nx σ (upd H2 a (.ins C dx (putF f y fs)))
def InOp (X : Cx) (op : Operator) (rd : V → V → Hp → VK → Prop) : Prop :=
 ∀ (pins : List (Addr × Obj)) (s : Shared) (σ : St) (H : Hp) (x y : V) (u v : Value) (Q : VK), Inv X pins σ H s → RelV x u → RelV y v → rd x y H Q → wpAny (model X.prog X.w) X.A (inplaceOp op u v) (EP X pins σ Q) X.xe s
def sFldAug (K : PySem.W.Frag) (ta tv : TE) (rd : V → V → Hp → VK → Prop) (f : Str) : TS := fun D σ H => ta σ H fun x H1 => ∃ a C dx fs v, x = .ref a ∧ H1 a = some (.ins C dx fs) ∧ Cls K C ∧ NoAttr K C f ∧ fs.lookup f = some v ∧
 tv σ H1 fun y H2 => rd v y H2 fun z H3 => ∃ dx' fs', H3 a = some (.ins C dx' fs') ∧ fs'.length < 1000 ∧ D.nx σ (upd H3 a (.ins C dx' (putF f z fs')))
section
variable {X : Cx} {o e value : Expr} {f : Str} {pos pos' tpos : Pos} {ta tv : TE}
theorem pe_fld (he : PE X e ta) (hb : attributeBase e f X.env (eval e X.env) = eval e X.env) : PE X (.Attribute e f pos) (tFld X.K ta f) := by
 intro pins s σ H Q I h
 refine attr_of hb (thn (he pins s σ H _ I h) fun u s1 ⟨x, H1, I1, rx, a, C, dx, fs, v, ex, ea, c, n, l, q⟩ => ?_)
 subst ex
 obtain rfl : u = Value.ref a := rx
 exact getattr_ok I1 ea c n l fun u' s2 I2 ru => ⟨v, H1, I2, ru, q⟩
theorem ps_fld (ha : PE X o ta) (hv : PE X value tv) (hs : swapsWith value (some (.Attribute o f pos')) pos.line X.env = pure false) : PS X (.Assign [.Attribute o f pos'] value pos) (sFld X.K ta tv f) := by
 intro pins s σ H D I h
 refine plainObj_wpAny_Assign_Attribute (thn (hv pins s σ H _ I h) fun u s1 ⟨y, H1, I1, ry, q⟩ => thn (ha pins s1 σ H1 _ I1 q) fun ov s2 ⟨x, H2, I2, rx, a, C, dx, fs, ex, ea, c, n, l, q2⟩ => ?_) hs
 subst ex
 obtain rfl : ov = Value.ref a := rx
 exact setattr_ok I2 ea c n l ry fun s3 I3 => ⟨σ, _, I3, q2⟩
theorem ps_fldaug {op : Operator} {rd : V → V → Hp → VK → Prop} (ha : PE X o ta) (hv : PE X value tv) (hop : InOp X op rd) : PS X (.AugAssign (.Attribute o f tpos) op value pos) (sFldAug X.K ta tv rd f) := by
 intro pins s σ H D I h
 refine wpAny_AugAssign_AttributeAny (thn (ha pins s σ H _ I h) fun ov s1 ⟨x, H1, I1, rx, a, C, dx, fs, v, ex, ea, c, n, l, q⟩ => ?_)
 subst ex
 obtain rfl : ov = Value.ref a := rx
 refine getattr_ok I1 ea c n l fun u s2 I2 ru => thn (hv pins s2 σ H1 _ I2 q) fun w3 s3 ⟨y, H2, I3, ry, q3⟩ => thn (hop pins s3 σ H2 v y u w3 _ I3 ru ry q3) fun w4 s4 ⟨z, H3, I4, rz, dx', fs', ea', l', q4⟩ => ?_
 exact setattr_ok I4 ea' c n l' rz fun s5 I5 => ⟨σ, _, I5, q4⟩
def rAdd : V → V → Hp → VK → Prop := fun x y H Q => ∃ i j, x = .int i ∧ y = .int j ∧ Q (.int (i + j)) H
theorem in_add : InOp X .Add rAdd := by
 rintro pins s σ H x y u v Q I rx ry ⟨i, j, rfl, rfl, q⟩
 obtain ⟨t, rfl⟩ := (show ∃ t, u = Value.int i t from rx)
 obtain ⟨t', rfl⟩ := (show ∃ t', v = Value.int j t' from ry)
 exact PyProof.Rows.iadd_int ⟨.int (i + j), H, I.tok _, ⟨_, rfl⟩, q⟩
end
section
variable {X : Cx} {pins : List (Addr × Obj)} {σ : St} {H : Hp} {s : Shared} {A : Around} {E : Value → Shared → Prop} {Q : Value → Shared → Prop} {c : Value} {b : Bool}
inductive TyOf (K : PySem.W.Frag) (H : Hp) : V → Value → Prop where
 | non : TyOf K H .non (.type "NoneType")
 | bl (x : Bool) : TyOf K H (.bl x) (.type "bool")
 | int (i : Int) : TyOf K H (.int i) (.type "int")
 | str (x : Str) : TyOf K H (.str x) (.type "str")
 | flt (x : UInt64) : TyOf K H (.flt x) (.type "float")
 | lst {a : Addr} {xs : List V} (e : H a = some (.lst xs)) : TyOf K H (.ref a) (.type "list")
 | frz {a : Addr} {o : Obj} {xs : List V} (e : H a = some (.frz o (.lst xs))) : TyOf K H (.ref a) (.type "list")
 | tup {a : Addr} {xs : List V} (e : H a = some (.tup xs)) : TyOf K H (.ref a) (.type "tuple")
 | dK {a : Addr} {kvs : List (Key × V)} (e : H a = some (.dK kvs)) : TyOf K H (.ref a) (.type "dict")
 | dT {a : Addr} {kvs : List (List Key × V)} (e : H a = some (.dT kvs)) : TyOf K H (.ref a) (.type "dict")
 | ins {a C dx : Addr} {fs : List (Str × V)} (e : H a = some (.ins C dx fs)) (cl : Cls K C) (ha : PySem.W.findIn K (.ref C) "__class__" = some (some (.builtin "object.__class__")))
  (hn : PySem.W.specialIn K (.builtin "object.__class__") "__get__" = some (some (.builtin "getset_descriptor.__get__"))) (htk : PySem.W.takesIn K (.builtin "object.__class__") = some true)
  (hm : PySem.W.mroIn K C (.type "object") = some true) : TyOf K H (.ref a) (.ref C)
theorem isinst_ok {x : V} {u t : Value} (I : Inv X pins σ H s) (rx : RelV x u) (ty : TyOf X.K H x t) (e : PySem.W.kitOne X.K t c = some b) (h : ∀ tk, Q (.bool b) { s with toks := tk }) :
 wpAny (model X.prog X.w) A (call (.builtin "isinstance") [u, c]) Q E s := by
 cases ty with
 | non => cases (show u = Value.none from rx); exact PySem.W.kia_one PySem.W.kitx_none I.kIn True.intro e (fun z => nomatch z) h
 | bl y => cases (show u = Value.bool y from rx); exact PySem.W.kia_one PySem.W.kitx_bool I.kIn True.intro e (fun z => nomatch z) h
 | int i => obtain ⟨t, q⟩ := (show ∃ t, u = Value.int i t from rx); cases q; exact PySem.W.kia_one PySem.W.kitx_int I.kIn True.intro e (fun z => nomatch z) h
 | str y => obtain ⟨t, q⟩ := (show ∃ t, u = Value.str y t from rx); cases q; exact PySem.W.kia_one PySem.W.kitx_str I.kIn True.intro e (fun z => nomatch z) h
 | flt y => obtain ⟨t, q⟩ := (show ∃ t, u = Value.float y t from rx); cases q; exact PySem.W.kia_one PySem.W.kitx_float I.kIn True.intro e (fun z => nomatch z) h
 | @lst a xs ea =>
   cases (show u = Value.ref a from rx)
   obtain ⟨_, _, n, _, h1⟩ := (show ObjOk X.prog X.w H s.heap a (.lst xs) from I.hok a _ ea)
   exact PySem.W.kia_one PySem.W.kitx_list I.kIn ⟨_, h1, rfl⟩ e (fun z => nomatch z) h
 | @frz a ob xs ea =>
   cases (show u = Value.ref a from rx)
   obtain ⟨_, _, _, n, _, h1⟩ := (show ObjOk X.prog X.w H s.heap a (.frz ob (.lst xs)) from I.hok a _ ea)
   exact PySem.W.kia_one PySem.W.kitx_list I.kIn ⟨_, h1, rfl⟩ e (fun z => nomatch z) h
 | @tup a xs ea =>
   cases (show u = Value.ref a from rx)
   obtain ⟨_, _, _, p⟩ := (show ObjOk X.prog X.w H s.heap a (.tup xs) from I.hok a _ ea)
   obtain ⟨o, h1, h2, _⟩ := p
   exact PySem.W.kia_one PySem.W.kitx_tuple I.kIn ⟨o, h1, h2⟩ e (fun z => nomatch z) h
 | @dK a kvs ea =>
   cases (show u = Value.ref a from rx)
   obtain ⟨_, _, vs, _, p⟩ := (show ObjOk X.prog X.w H s.heap a (.dK kvs) from I.hok a _ ea)
   obtain ⟨o, es, ep, h1, h2, _⟩ := p
   exact PySem.W.kia_one PySem.W.kitx_dict I.kIn ⟨o, h1, h2.1⟩ e (fun z => nomatch z) h
 | @dT a kvs ea =>
   cases (show u = Value.ref a from rx)
   obtain ⟨_, _, xs, _, o, es, ep, h1, h2, _⟩ := (show ObjOk X.prog X.w H s.heap a (.dT kvs) from I.hok a _ ea)
   exact PySem.W.kia_one PySem.W.kitx_dict I.kIn ⟨o, h1, h2.1⟩ e (fun z => nomatch z) h
 | @ins a C dx fs ea cl ha hn htk hm =>
   cases (show u = Value.ref a from rx)
   obtain ⟨mA, O, _⟩ := ins_get I.hok ea
   obtain ⟨od, J, _⟩ := O.look
   exact PySem.W.kia_one (PySem.W.kitx_own (cl.get _) cl.hd ha hn htk hm) I.kIn J e (fun z => nomatch z) h
end
end L2
namespace L2
open PySem PySem.Spec PyProof.Rows
structure Room (k : Nat) (A : Around) : Prop where
 hd : A.handled = none
 dp : A.depth + 3 * k + 5 < recursionLimit
 un : A.units + 16 * k + 200 < cLine
theorem Room.mono {j k : Nat} {A : Around} (r : Room k A) (h : j ≤ k) : Room j A := ⟨r.hd, by have := r.dp; omega, by have := r.un; omega⟩
theorem Room.deeper {k : Nat} {A : Around} (r : Room (k + 1) A) (env : Env) : Room k (A.deeper env) :=
 ⟨r.hd, by have := r.dp; show A.depth + 1 + 3 * k + 5 < _; omega, by have := r.un; show A.units + 3 + 16 * k + 200 < _; omega⟩
theorem make_depth {A : Around} {C : Addr} {us : List Value} {kw : List (Str × Value)} : (A.under (.builtin "type.__call__" ⟨.ref C :: us, kw⟩)).depth = A.depth + 1 := by
 first | rfl | simp [Around.under, Code.weight, Code.isCreation, Code.isGuard, Code.isCaller, Code.frames, Code.isFrame, guardIds]
theorem make_units {A : Around} {C : Addr} {us : List Value} {kw : List (Str × Value)} : (A.under (.builtin "type.__call__" ⟨.ref C :: us, kw⟩)).units = A.units + 1 := by
 first | rfl | simp [Around.under, Code.cUnits, Code.frames, Code.isFrame]
theorem Room.make {k : Nat} {A : Around} (r : Room (k + 1) A) (C : Addr) (us : List Value) (kw : List (Str × Value)) : Room k (A.under (.builtin "type.__call__" ⟨.ref C :: us, kw⟩)) :=
 ⟨r.hd, by have := r.dp; rw [make_depth]; omega, by have := r.un; rw [make_units]; omega⟩
theorem Room.depth {k : Nat} {A : Around} (r : Room k A) : A.depth < recursionLimit := by have := r.dp; omega
theorem Room.units {k : Nat} {A : Around} (r : Room k A) : A.units + 64 < cLine := by have := r.un; omega
def tNil : TA := fun _ H Q => Q [] H
def tCons (ta : TE) (tr : TA) : TA := fun σ H Q => ta σ H fun x H1 => tr σ H1 fun xs H2 => Q (x :: xs) H2
section
variable {X : Cx} {e : Expr} {es : List Expr} {te : TE} {t : TA} {pos : Pos}
theorem pa_nil : PA X [] tNil := fun _ _ _ _ H Q I h => Calls.spliced_nil ⟨[], H, I, .nil, h⟩
theorem pa_cons (ha : PE X e te) (hr : PA X es t) (hs : starEach (e :: es) X.env = (false, eval e X.env) :: starEach es X.env := by rfl) : PA X (e :: es) (tCons te t) := by
 intro pos pins s σ H Q I h
 rw [hs]
 show wpAny _ _ (spliced ((false, eval e X.env) :: backTo pos (starEach es X.env))) _ _ s
 refine Calls.spliced_cons (thn (ha pins s σ H _ I h) fun u s1 ⟨x, H1, I1, r1, q1⟩ => ?_)
 exact thn (hr pos pins s1 σ H1 _ I1 q1) fun us s2 ⟨xs, H2, I2, r2, q2⟩ => ⟨x :: xs, H2, I2, .cons r1 r2, q2⟩
def tTup (t : TA) : TE := fun σ H Q => t σ H fun xs H1 => xs.length ≤ sizeLine ∧ ∀ p, H1 p = none → Q (.ref p) (upd H1 p (.tup xs))
def tLst (t : TA) : TE := fun σ H Q => t σ H fun xs H1 => xs.length ≤ sizeLine ∧ ∀ p, H1 p = none → Q (.ref p) (upd H1 p (.lst xs))
theorem pe_tup {x1} (h : PA X es t) : PE X (.Tuple es x1 pos) (tTup t) := by
 intro pins s σ H Q I hq
 refine wpAny_Tuple_spliced (thn (h pos pins s σ H _ I hq) fun us s1 ⟨xs, H1, I1, r, z, q⟩ => ⟨by rw [← r.length]; exact z, ?_⟩)
 have hf : H1 s1.heap.objs.size = none := I1.hok.fresh (Nat.le_refl _)
 refine ⟨.ref s1.heap.objs.size, upd H1 s1.heap.objs.size (.tup xs), I1.laid (t' := s1.toks) (fun b u e => Heap.get?_push_of_some _ e) (Nat.le_refl _) ?_, rfl, q _ hf⟩
 exact ⟨z, us, r, ⟨_, Heap.get?_push_size _ rfl, rfl, _, rfl⟩⟩
theorem pe_lst (h : PA X es t) : PE X (.List es pos) (tLst t) := by
 intro pins s σ H Q I hq
 refine wpAny_List_spliced (thn (h pos pins s σ H _ I hq) fun us s1 ⟨xs, H1, I1, r, z, q⟩ => ⟨by rw [← r.length]; exact z, ?_⟩)
 have hf : H1 s1.heap.objs.size = none := I1.hok.fresh (Nat.le_refl _)
 refine ⟨.ref s1.heap.objs.size, upd H1 s1.heap.objs.size (.lst xs), I1.laid (t' := s1.toks) (fun b u e => Heap.get?_push_of_some _ e) (Nat.le_refl _) ?_, rfl, q _ hf⟩
 exact ⟨z, us, 0, r, Heap.get?_push_size _ rfl⟩
end
abbrev Sp := List V → Hp → VK → XK → Prop
abbrev CXT := List Env → Hp → Shared → XK → Value → Shared → Prop
structure Env0 (P : Program) (w : World) (K : PySem.W.Frag) (mg : Str → Option Value) (base : Heap) (A : Around) (outer : List Env) (s : Shared) (H : Hp) : Prop where
 frames : A.frames = some outer
 mod : Mod K mg base
 bs : ∀ b o, base.get? b = some o → s.heap.get? b = some o ∧ H b = none
 bsz : base.objs.size ≤ s.heap.objs.size
 funs : s.heap.FunFrames base outer
 frf : ∀ b ∈ frs outer, H b = none
 hok : HOk P w H s.heap
 bare : AllBare s.gens
def CE (outer : List Env) (P : Program) (w : World) (H : Hp) (s : Shared) (Q : VK) (u : Value) (s' : Shared) : Prop :=
 ∃ v H', s'.os = s.os ∧ AllBare s'.gens ∧ Un (frs outer) [] H H' s.heap s'.heap ∧ HOk P w H' s'.heap ∧ RelV v u ∧ Q v H'
def CR (CX : CXT) (outer : List Env) (P : Program) (w : World) (H : Hp) (s : Shared) (Q : VK) (E : XK) (r : Result) (s' : Shared) : Prop :=
 match r with
 | .ok (.ret u) => CE outer P w H s Q u s'
 | .ok _ => False
 | .error e => CX outer H s E e s'
structure FnOk (P : Program) (w : World) (K : PySem.W.Frag) (mg : Str → Option Value) (base : Heap) (CX : CXT) (k : Nat) (f : Addr) (fd : FuncData) (ps : List Str) (sp : Sp) : Prop where
 len : ∀ vs H Q E, sp vs H Q E → vs.length = ps.length
 run : ∀ (A : Around) (outer : List Env) (s : Shared) (H : Hp) (args : Args) (us : List Value) (vs : List V) (Q : VK) (E : XK), Room k A → Env0 P w K mg base A outer s H → BindsTo s fd args (ps.zip us) → Vals vs us → sp vs H Q E →
  codeAny (model P w) A (.call (.ref f) args) (CR CX outer P w H s Q E) s
theorem FnOk.mono {P : Program} {w : World} {K : PySem.W.Frag} {mg : Str → Option Value} {base : Heap} {CX : CXT} {j k : Nat} {f : Addr} {fd : FuncData} {ps : List Str} {sp : Sp} (F : FnOk P w K mg base CX j f fd ps sp) (h : j ≤ k) :
 FnOk P w K mg base CX k f fd ps sp := ⟨F.len, fun A outer s H args us vs Q E hr => F.run A outer s H args us vs Q E (hr.mono h)⟩
theorem Env0.make {P : Program} {w : World} {K : PySem.W.Frag} {mg : Str → Option Value} {base : Heap} {A : Around} {outer : List Env} {s : Shared} {H : Hp} (e : Env0 P w K mg base A outer s H) (C : Addr) (us : List Value) (kw : List (Str × Value)) :
 Env0 P w K mg base (A.under (.builtin "type.__call__" ⟨.ref C :: us, kw⟩)) outer s H := ⟨by first | exact e.frames | (simpa [Around.under, Code.envs, Code.isFrame, pushEnvs] using e.frames), e.mod, e.bs, e.bsz, e.funs, e.frf, e.hok, e.bare⟩
section
variable {X : Cx} {pins : List (Addr × Obj)} {σ : St} {H : Hp} {s s' : Shared}
theorem Inv.env0 (I : Inv X pins σ H s) : Env0 X.prog X.w X.K X.mg X.base X.A X.stack s H :=
 ⟨I.ok.frames, I.ok.mod, I.bs, Nat.le_trans I.ok.bsz I.sz, I.stack, I.stkFree, I.hok, I.bare⟩
theorem Inv.after {Q : VK} {u : Value} (I : Inv X pins σ H s) (h : CE X.stack X.prog X.w H s Q u s') : EP X pins σ Q u s' := by
 obtain ⟨v, H', os, bare, un, hok, r, q⟩ := h
 obtain ⟨hh, g, d, t, os'⟩ := s'
 obtain rfl : os' = s.os := os
 exact ⟨v, H', I.call (h' := hh) (g' := g) (d' := d) (t' := t) (ch := []) un hok bare (fun b z => absurd z (by simp)), r, q⟩
end
def tCall (sp : Sp) (dvs : List V) (E : XK) (t : TA) : TE := fun σ H Q => t σ H fun vs H1 => sp (vs ++ dvs) H1 Q E
def tMeth (C : Addr) (m : Str) (sp : Sp) (dvs : List V) (E : XK) (ta : TE) (t : TA) : TE := fun σ H Q => ta σ H fun x H1 => ∃ a dx fs, x = .ref a ∧ H1 a = some (.ins C dx fs) ∧ fs.lookup m = none ∧
 t σ H1 fun vs H2 => sp (x :: (vs ++ dvs)) H2 Q E
def tMake (C : Addr) (sp : Sp) (dvs : List V) (E : XK) (t : TA) : TE := fun σ H Q => t σ H fun vs H1 => ∀ x dx, H1 x = none → H1 dx = none → dx ≠ x →
 sp (.ref x :: (vs ++ dvs)) (upd (upd H1 dx (.own x)) x (.ins C dx [])) (fun v H2 => v = .non ∧ Q (.ref x) H2) E
def Binds (K : PySem.W.Frag) (fd : FuncData) (ps : List Str) (ds : List Value) : Prop :=
 ∀ (s : Shared) (us : List Value), K.In s.heap → (us ++ ds).length = ps.length → BindsTo s fd ⟨us, []⟩ (ps.zip (us ++ ds))
theorem Binds.all {K : PySem.W.Frag} {fd : FuncData} {ps : List Str} (h : ∀ us : List Value, us.length = ps.length → bindArgs fd ⟨us, []⟩ = pure (ps.zip us)) : Binds K fd ps [] := fun s us _ hl => by
 rw [List.append_nil] at hl ⊢
 exact .of_eq (h us hl)
def Passes (CX : CXT) (X : Cx) (E : XK) : Prop := ∀ (pins : List (Addr × Obj)) (σ : St) (H : Hp) (s : Shared) (e : Value) (s' : Shared), Inv X pins σ H s → CX X.stack H s E e s' → X.xe e s'
section
variable {X : Cx} {CX : CXT} {k : Nat} {f C : Addr} {fd : FuncData} {ps : List Str} {sp : Sp} {dvs : List V} {ds : List Value} {E : XK} {x m : Str} {p pos apos : Pos} {e o : Expr} {es : List Expr} {ta : TE} {t : TA}
theorem run_fn {pins : List (Addr × Obj)} {σ : St} {H : Hp} {s : Shared} {Q : VK} {us : List Value} {vs : List V} (F : FnOk X.prog X.w X.K X.mg X.base CX k f fd ps sp) (hr : Room k X.A) (hb : Binds X.K fd ps ds) (hd : Vals dvs ds) (hx : Passes CX X E)
 (I : Inv X pins σ H s) (r : Vals vs us) (h : sp (vs ++ dvs) H Q E) : wpAny (model X.prog X.w) X.A (call (.ref f) us) (EP X pins σ Q) X.xe s := by
 have r2 : Vals (vs ++ dvs) (us ++ ds) := r.append hd
 have hl : (us ++ ds).length = ps.length := by rw [← r2.length]; exact F.len _ _ _ _ h
 refine wpAny_call (codeAny_mono (F.run X.A X.stack s H ⟨us, []⟩ (us ++ ds) (vs ++ dvs) Q E hr I.env0 (hb s us I.kIn hl) r2 h) fun r s' hq => ?_)
 cases r with
 | error e => exact hx pins σ H s e s' I hq
 | ok fl =>
   cases fl with
   | ret u => exact I.after hq
   | next => exact False.elim hq
   | brk => exact False.elim hq
   | cont => exact False.elim hq
theorem pe_call (F : FnOk X.prog X.w X.K X.mg X.base CX k f fd ps sp) (hr : Room k X.A) (hg : Gl X x) (hm : X.mg x = some (.ref f)) (hk : PySem.W.keepIn X.K (.ref f) = true) (hb : Binds X.K fd ps ds) (hd : Vals dvs ds) (hx : Passes CX X E)
 (ha : PA X (e :: es) t) (hdb : (x == ("__debug__" : Str)) = false := by decide) (he : starEach (e :: es) X.env = (false, eval e X.env) :: starEach es X.env := by rfl) (hpl : (backTo pos (starEach es X.env)).any (·.1) = false := by rfl) :
 PE X (.Call (.Name x p) (e :: es) [] pos) (tCall sp dvs E t) := by
 intro pins s σ H Q I h
 refine wpAny_Call_Name_kw (ld_glob I hg hm ?_ hdb)
 refine PySem.W.callWith_K (h₀ := X.base) I.ok.mod.kin hk (thn (ha pos pins s σ H _ I h) fun us s1 ⟨vs, H1, I1, r, q⟩ => ⟨I1.kIn, ?_⟩) he hpl
 exact run_fn F hr hb hd hx I1 r q
theorem pe_meth {pl : Sem Bool} (he : PE X o ta) (c : Cls X.K C) (hm : Meth X.K C m f) (F : FnOk X.prog X.w X.K X.mg X.base CX k f fd ps sp) (hr : Room k X.A) (hb : Binds X.K fd ps ds) (hd : Vals dvs ds) (hx : Passes CX X E) (ha : PA X (e :: es) t)
 (hst : starEach (e :: es) X.env = (false, eval e X.env) :: starEach es X.env := by rfl) (hpl : (backTo pos (starEach es X.env)).any (·.1) = false := by rfl)
 (ht : eval (.Call (.Attribute o m apos) (e :: es) [] pos) X.env = (do
  let ov ← eval o X.env
  standAt apos.atName
  let (f, first) ← holding [ov] (getMethod ov m pl)
  callWith pos f first (backTo pos (starEach (e :: es) X.env)) (backToKw pos (keywordEach [] X.env))) := by rfl) :
 PE X (.Call (.Attribute o m apos) (e :: es) [] pos) (tMeth C m sp dvs E ta t) := by
 intro pins s σ H Q I h
 refine PySem.W.methodCall_KW (pl := pl) (thn (he pins s σ H _ I h) fun u s1 ⟨x, H1, I1, rx, a, dx, fs, ex, ea, l, q⟩ => ?_) ht
 subst ex
 obtain rfl : u = Value.ref a := rx
 refine getmeth_ok I1 ea c hm l ?_
 refine PySem.W.callWith_K (first := [.ref a]) (h₀ := X.base) I.ok.mod.kin hm.kp (thn (ha pos pins s1 σ H1 _ I1 q) fun us s2 ⟨vs, H2, I2, r, q2⟩ => ⟨I2.kIn, ?_⟩) hst hpl
 exact run_fn (us := .ref a :: us) (vs := .ref a :: vs) F hr hb hd hx I2 (.cons rfl r) q2
structure Mk (K : PySem.W.Frag) (C f : Addr) : Prop where
 makes : PySem.W.makesIn K C = true
 init : PySem.W.findIn K (.ref C) "__init__" = some (some (.ref f))
 fn : PySem.W.isFn K (.ref f) = true
 kp : PySem.W.keepIn K (.ref C) = true
theorem run_make {pins : List (Addr × Obj)} {σ : St} {H : Hp} {s : Shared} {Q : VK} {us : List Value} {vs : List V} (M : Mk X.K C f) (F : FnOk X.prog X.w X.K X.mg X.base CX k f fd ps sp) (hr : Room (k + 1) X.A) (hb : Binds X.K fd ps ds) (hd : Vals dvs ds)
 (hx : Passes CX X E) (I : Inv X pins σ H s) (r : Vals vs us)
 (h : ∀ x dx, H x = none → H dx = none → dx ≠ x → sp (.ref x :: (vs ++ dvs)) (upd (upd H dx (.own x)) x (.ins C dx [])) (fun v H2 => v = .non ∧ Q (.ref x) H2) E) :
 wpAny (model X.prog X.w) X.A (call (.ref C) us) (EP X pins σ Q) X.xe s := by
 have hq := h (s.heap.objs.size + 1) s.heap.objs.size (I.hok.fresh (Nat.le_succ _)) (I.hok.fresh (Nat.le_refl _)) (Nat.ne_of_lt (Nat.lt_succ_self _))
 have I2 := Inv.made (C := C) I
 have r2 : Vals (V.ref (s.heap.objs.size + 1) :: (vs ++ dvs)) (Value.ref (s.heap.objs.size + 1) :: (us ++ ds)) := .cons rfl (r.append hd)
 have hl : (Value.ref (s.heap.objs.size + 1) :: us ++ ds).length = ps.length := by
  have e := r2.length
  rw [F.len _ _ _ _ hq] at e
  exact e.symm
 refine wpAny_call (make_map (f := f) I.kIn M.makes M.init (beq_iff_eq.mp M.fn) (codeAny_mono (F.run _ X.stack _ _ ⟨Value.ref (s.heap.objs.size + 1) :: us, []⟩ (Value.ref (s.heap.objs.size + 1) :: (us ++ ds)) _ _ E (hr.make C us [])
  (I2.env0.make C us []) (hb _ (Value.ref (s.heap.objs.size + 1) :: us) I2.kIn hl) r2 hq) fun r s' hq' => ?_))
 cases r with
 | error e => exact hx pins σ _ _ e s' I2 hq'
 | ok fl =>
   cases fl with
   | ret u =>
     obtain ⟨v, H', I3, rv, ev, q3⟩ := I2.after hq'
     subst ev
     exact ⟨rv, ⟨V.ref (s.heap.objs.size + 1), H', I3, rfl, q3⟩⟩
   | next => exact False.elim hq'
   | brk => exact False.elim hq'
   | cont => exact False.elim hq'
theorem pe_make (M : Mk X.K C f) (F : FnOk X.prog X.w X.K X.mg X.base CX k f fd ps sp) (hr : Room (k + 1) X.A) (hg : Gl X x) (hm : X.mg x = some (.ref C)) (hb : Binds X.K fd ps ds) (hd : Vals dvs ds) (hx : Passes CX X E)
 (ha : PA X (e :: es) t) (hdb : (x == ("__debug__" : Str)) = false := by decide) (he : starEach (e :: es) X.env = (false, eval e X.env) :: starEach es X.env := by rfl) (hpl : (backTo pos (starEach es X.env)).any (·.1) = false := by rfl) :
 PE X (.Call (.Name x p) (e :: es) [] pos) (tMake C sp dvs E t) := by
 intro pins s σ H Q I h
 refine wpAny_Call_Name_kw (ld_glob I hg hm ?_ hdb)
 refine PySem.W.callWith_K (h₀ := X.base) I.ok.mod.kin M.kp (thn (ha pos pins s σ H _ I h) fun us s1 ⟨vs, H1, I1, r, q⟩ => ⟨I1.kIn, ?_⟩) he hpl
 exact run_make M F hr hb hd hx I1 r q
theorem pe_make0 (M : Mk X.K C f) (F : FnOk X.prog X.w X.K X.mg X.base CX k f fd ps sp) (hr : Room (k + 1) X.A) (hg : Gl X x) (hm : X.mg x = some (.ref C)) (hb : Binds X.K fd ps ds) (hd : Vals dvs ds) (hx : Passes CX X E)
 (hdb : (x == ("__debug__" : Str)) = false := by decide) : PE X (.Call (.Name x p) [] [] pos) (tMake C sp dvs E tNil) := by
 intro pins s σ H Q I h
 refine wpAny_Call_Name_kw (ld_glob I hg hm ?_ hdb)
 exact PySem.W.callWith_K0 I.kIn M.kp (run_make (us := []) M F hr hb hd hx I .nil h)
end
section
variable {X : Cx} {CX : CXT} {k : Nat} {f C : Addr} {fd : FuncData} {ps ks : List Str} {sp : Sp} {E : XK} {x m : Str} {p pos apos kpos : Pos} {e o : Expr} {es : List Expr} {kws : List Keyword} {te ta : TE} {t tk : TA} {nm : Option Str}
variable {g : List Value → List Value → List Value} {gV : List V → List V → List V}
end
structure FnScope (N P : List Str) (sc : Scope) : Prop where
 kind : sc.kind = .function
 co : sc.isCoroutine = false
 gen : sc.isGenerator = false
 nd : N.Nodup
 pre : N.take P.length = P
 par : ∀ x ∈ P, sc.names.lookup x = some .local ∨ sc.names.lookup x = some .cell
 nofree : ∀ y ∈ sc.names, y.2 ≠ .free
theorem bindL_out {kindOf : Str → Option NameKind} {x : Str} : ∀ {binds : List (Str × Value)} {m : Str → Option Value}, (∀ v, (x, v) ∉ binds) → bindL kindOf binds m x = m x
 | [], _, _ => rfl
 | (n, v) :: r, m, h => by
   unfold bindL
   rw [bindL_out fun w hw => h w (List.mem_cons_of_mem _ hw)]
   split
   ·have : x ≠ n := by rintro rfl; exact h v List.mem_cons_self
    simp [this]
   ·rfl
theorem bindC_out {kindOf : Str → Option NameKind} {x : Str} : ∀ {binds : List (Str × Value)} {m : Str → Option Value}, (∀ v, (x, v) ∉ binds) → bindC kindOf binds m x = m x
 | [], _, _ => rfl
 | (n, v) :: r, m, h => by
   unfold bindC
   rw [bindC_out fun w hw => h w (List.mem_cons_of_mem _ hw)]
   split
   ·rfl
   ·have : x ≠ n := by rintro rfl; exact h v List.mem_cons_self
    simp [this]
theorem bindL_get {kindOf : Str → Option NameKind} {x : Str} {v : Value} : ∀ {P : List Str} {vs : List Value} {i : Nat} {m : Str → Option Value}, P.Nodup → P[i]? = some x → vs[i]? = some v → kindOf x = some .local →
 bindL kindOf (P.zip vs) m x = some v
 | [], _, _, _, _, h, _, _ => by simp at h
 | _ :: _, [], _, _, _, _, h, _ => by simp at h
 | p :: P, w :: vs, 0, m, nd, h1, h2, hk => by
   simp at h1 h2; subst h1; subst h2
   show bindL kindOf ((p, w) :: P.zip vs) m p = _
   unfold bindL
   rw [bindL_out fun v hv => (List.nodup_cons.mp nd).1 (List.of_mem_zip hv).1, if_pos hk]
   simp
 | p :: P, w :: vs, i + 1, m, nd, h1, h2, hk => by
   show bindL kindOf ((p, w) :: P.zip vs) m x = _
   unfold bindL
   exact bindL_get (i := i) (List.nodup_cons.mp nd).2 (by simpa using h1) (by simpa using h2) hk
theorem bindC_get {kindOf : Str → Option NameKind} {x : Str} {v : Value} : ∀ {P : List Str} {vs : List Value} {i : Nat} {m : Str → Option Value}, P.Nodup → P[i]? = some x → vs[i]? = some v → kindOf x ≠ some .local →
 bindC kindOf (P.zip vs) m x = some v
 | [], _, _, _, _, h, _, _ => by simp at h
 | _ :: _, [], _, _, _, _, h, _ => by simp at h
 | p :: P, w :: vs, 0, m, nd, h1, h2, hk => by
   simp at h1 h2; subst h1; subst h2
   show bindC kindOf ((p, w) :: P.zip vs) m p = _
   unfold bindC
   rw [bindC_out fun v hv => (List.nodup_cons.mp nd).1 (List.of_mem_zip hv).1, if_neg hk]
   simp
 | p :: P, w :: vs, i + 1, m, nd, h1, h2, hk => by
   show bindC kindOf ((p, w) :: P.zip vs) m x = _
   unfold bindC
   exact bindC_get (i := i) (List.nodup_cons.mp nd).2 (by simpa using h1) (by simpa using h2) hk
def start (N : List Str) (vs : List V) : St := vs.map some ++ List.replicate (N.length - vs.length) none
def cxOf (CX : CXT) (P : Program) (w : World) (K : PySem.W.Frag) (mg : Str → Option Value) (base : Heap) (N : List Str) (qual : Str) (scope : Scope) (f : Addr) (cd : Value) (A : Around) (outer : List Env) (s : Shared) (H : Hp) (E : XK) : Cx where
 prog := P
 w := w
 K := K
 mg := mg
 base := base
 A := A.deeper (envOfC qual scope s.heap.objs.size f cd)
 N := N
 s₀ := s
 H₀ := H
 env := envOfC qual scope s.heap.objs.size f cd
 outer := outer
 stack := envOfC qual scope s.heap.objs.size f cd :: outer
 ex := []
 calm := true
 fn := fun _ => true
 pn := []
 xe := fun e s' => wpAny (model P w) (A.deeper (envOfC qual scope s.heap.objs.size f cd)) (leaving (envOfC qual scope s.heap.objs.size f cd) e) (fun _ s'' => CX outer H s E e s'') (fun e' s'' => CX outer H s E e' s'') s'
theorem cell_has {sc : Scope} {n : Nat} {x : Str} (h : sc.names.lookup x = some .cell) : ∃ c, (cellsFrom n sc.names []).lookup x = some c := by
 have q := PySem.W.cellsFrom_some sc.names n [] (.inl h)
 exact Option.isSome_iff_exists.mp q
theorem inv_start {CX : CXT} {P : Program} {w : World} {K : PySem.W.Frag} {mg : Str → Option Value} {base : Heap} {N ps : List Str} {qual : Str} {scope : Scope} {f : Addr} {cd : Value} {A : Around} {outer : List Env} {s s1 : Shared} {H : Hp} {E : XK} {us : List Value} {vs : List V}
 (S : FnScope N ps scope) (hd : A.handled = none) (e0 : Env0 P w K mg base A outer s H) (hl : vs.length = ps.length) (r : Vals vs us)
 (x : InCallC s s.heap.objs.size (bindL (envOfC qual scope s.heap.objs.size f cd).kindOf (ps.zip us) fun _ => none) (cellsFrom (s.heap.objs.size + 1) scope.names []) (bindC (envOfC qual scope s.heap.objs.size f cd).kindOf (ps.zip us) fun _ => none) s1) :
 Inv (cxOf CX P w K mg base N qual scope f cd A outer s H E) [] (start N vs) H s1 := by
 have hpl : ps.length ≤ N.length := by have := congrArg List.length S.pre; rw [List.length_take] at this; omega
 obtain ⟨h1, tk, rfl, hk⟩ := x.done
 have noA : ∀ b : Addr, b ∉ (cxOf CX P w K mg base N qual scope f cd A outer s H E).ex := fun b z => absurd (show b ∈ ([] : List Addr) from z) (by simp)
 refine ⟨⟨e0.mod, S.kind, rfl, rfl, Nat.le_refl _, fun y z c h1 h2 => ?_, fun y hy => ?_, fun y c _ h => ?_, fun _ => hd, Around.frames_deeper e0.frames, .inr ⟨rfl, rfl⟩, fun b z => absurd z (noA b), e0.bs, e0.bsz, fun b _ _ => noA b, fun b z => absurd z (noA b), e0.funs, e0.frf⟩,
  rfl, e0.bare, Un.kept hk, ⟨_, x.toInCall.ns, fun i y v h1 h2 h3 => ?_⟩, fun y c h => ⟨_, x.cell y c h⟩, e0.hok.fresh (Nat.le_refl _), fun y c h => ?_, fun p hp => absurd (show p ∈ ([] : List (Addr × Obj)) from hp) (by simp), e0.hok.kept hk, ?_⟩
 ·exact name_of_addr x.apart (PySem.mem_of_lookup h1) (PySem.mem_of_lookup h2)
 ·have hy : scope.names.lookup y = some .cell ∨ scope.names.lookup y = some .free := hy
  rcases hy with hy | hy
  ·exact cell_has hy
  ·exact absurd rfl (S.nofree _ (PySem.mem_of_lookup hy))
 ·exact Nat.le_of_lt (x.above y c (PySem.mem_of_lookup h))
 ·have hi : i < vs.length := by
   unfold start at h2
   by_cases hi : i < vs.length
   ·exact hi
   ·rw [List.getElem?_append_right (by simpa using hi)] at h2
    rw [List.getElem?_replicate] at h2
    split at h2 <;> cases h2
  have ha : vs[i]? = some v := by
   unfold start at h2
   rw [List.getElem?_append_left (by simpa using hi), List.getElem?_map] at h2
   cases e : vs[i]? with
   | none => rw [e] at h2; cases h2
   | some a => rw [e] at h2; cases h2; rfl
  obtain ⟨u, hu, rv⟩ := r.get ha
  have hp : ps[i]? = some y := by
   rw [← S.pre, List.getElem?_take_of_lt (by omega)]; exact h1
  have ndP : ps.Nodup := by rw [← S.pre]; exact S.nd.sublist (List.take_sublist _ _)
  refine ⟨u, rv, ?_⟩
  rcases S.par y (List.mem_of_getElem? hp) with k | k
  ·exact .inl ⟨k, bindL_get ndP hp hu k⟩
  ·obtain ⟨c, e⟩ := cell_has (n := s.heap.objs.size + 1) k
   refine .inr ⟨.inl k, c, e, ?_⟩
   have q := x.cell y c e
   rw [bindC_get ndP hp hu (by show scope.names.lookup y ≠ _; rw [k]; decide)] at q
   exact q
 ·exact e0.hok.fresh (Nat.le_of_lt (x.above y c (PySem.mem_of_lookup h)))
 ·unfold start
  show _ = N.length
  rw [List.length_append, List.length_map, List.length_replicate]
  omega
theorem fn_of {CX : CXT} {P : Program} {w : World} {K : PySem.W.Frag} {mg : Str → Option Value} {base : Heap} {k : Nat} {f : Addr} {name qual : Str} {params : Arguments} {body : List Stmt} {scope : Scope} {dV kV doc pm cdv ct oc : Value} {an od : Option Addr}
 {osl : Array (Option Value)} {N ps : List Str} {sp : Sp} (lk : K.lookup f = some ⟨oc, od, .func (PySem.W.fnOf name qual params body scope dV kV doc pm an cdv ct), osl⟩) (hcd : PySem.W.codeIn K cdv qual = true) (S : FnScope N ps scope)
 (len : ∀ vs H Q E, sp vs H Q E → vs.length = ps.length)
 (hbody : ∀ (A : Around) (outer : List Env) (s : Shared) (H : Hp) (vs : List V) (Q : VK) (E : XK), Room k (A.deeper (envOfC qual scope s.heap.objs.size f cdv)) → sp vs H Q E →
  ∃ t, PSs (cxOf CX P w K mg base N qual scope f cdv A outer s H E) body t ∧ t { nx := fun _ H' => Q .non H', rt := Q } (start N vs) H) :
 FnOk P w K mg base CX (k + 1) f (PySem.W.fnOf name qual params body scope dV kV doc pm an cdv ct) ps sp := by
 refine ⟨len, fun A outer s H args us vs Q E hr e0 hb r hsp => ?_⟩
 have hl := len _ _ _ _ hsp
 have KX : K.In s.heap := e0.mod.kin.keeps fun b o e => (e0.bs b o e).1
 have lim : s.heap.NoLimit := e0.mod.nolimit.keeps fun b o e => (e0.bs b o e).1
 have hkind : ∀ y ∈ ps.zip us, scope.names.lookup y.1 = some .local ∨ (scope.names.lookup y.1 = some .cell ∧ ((cellsFrom (s.heap.objs.size + 1) scope.names []).lookup y.1).isSome = true) := fun ⟨n, v⟩ hy => by
  rcases S.par n (List.of_mem_zip hy).1 with q | q
  ·exact .inl q
  ·exact .inr ⟨q, PySem.W.cellsFrom_some _ _ _ (.inl q)⟩
 refine codeAny_call_function hr.depth (KX _ _ lk) rfl S.co S.gen rfl (PySem.W.codeRec_of KX hcd) (hb _ _ _ _ ?_)
 refine wpAny_newFunctionEnv_cells S.kind hkind fun env he s1 x => ?_
 subst he
 refine ⟨lim.keeps x.toInCall.keep, codeAny_func ?_⟩
 obtain ⟨t, ht, hq⟩ := hbody A outer s H vs Q E (hr.deeper _) hsp
 have I : Inv (cxOf CX P w K mg base N qual scope f cdv A outer s H E) [] (start N vs) H s1 := inv_start S hr.hd e0 hl r x
 refine wpAny_mono (ht [] s1 (start N vs) H _ I hq) (fun fl s' hs => ?_) fun e s' hs => hs
 have fin : ∀ {σ' : St} {H' : Hp} {v : V} {u : Value}, Inv (cxOf CX P w K mg base N qual scope f cdv A outer s H E) [] σ' H' s' → RelV v u → Q v H' → CE outer P w H s Q u s' :=
  fun {σ' H' v u} J rv q => ⟨v, H', J.os, J.bare, J.base, J.hok, rv, q⟩
 cases fl with
 | ret u =>
   obtain ⟨v, σ', H', J, rv, q⟩ := hs
   exact fin J rv q
 | next =>
   obtain ⟨σ', H', J, q⟩ := hs
   exact fin (v := V.non) (u := Value.none) J rfl q
 | brk =>
   obtain ⟨_, _, _, q⟩ := hs
   exact False.elim q
 | cont =>
   obtain ⟨_, _, _, q⟩ := hs
   exact False.elim q
end L2
namespace L2
open PySem PySem.Spec PyProof.Rows
section
variable {X : Cx} {x : Str} {p pos : Pos} {e : Expr} {es : List Expr} {t : TA} {id T : String} {r : List V → Hp → VK → Prop}
def tCB (r : List V → Hp → VK → Prop) (t : TA) : TE := fun σ H Q => t σ H fun vs H1 => r vs H1 Q
theorem pe_callB (hc : CallR X (.builtin id) r) (hg : Gl X x) (hm : X.mg x = none) (hv : bootBuiltins x = some (.builtin id)) (ha : PA X (e :: es) t) (hn : x ≠ "__name__" := by decide) (hdb : (x == ("__debug__" : Str)) = false := by decide)
 (he : starEach (e :: es) X.env = (false, eval e X.env) :: starEach es X.env := by rfl) (hpl : (backTo pos (starEach es X.env)).any (·.1) = false := by rfl) : PE X (.Call (.Name x p) (e :: es) [] pos) (tCB r t) := by
 intro pins s σ H Q I h
 refine wpAny_Call_Name_kw (ld_blt I hg hm hv ?_ hn hdb)
 exact PyProof.Rows.callWith_builtin1 (thn (ha pos pins s σ H _ I h) fun us s1 ⟨vs, H1, I1, r1, q1⟩ => hc pins s1 σ H1 vs us Q I1 r1 q1) he hpl
theorem pe_callTy (hc : CallR X (.type T) r) (hg : Gl X x) (hm : X.mg x = none) (hv : bootBuiltins x = some (.type T)) (ha : PA X (e :: es) t) (hn : x ≠ "__name__" := by decide) (hdb : (x == ("__debug__" : Str)) = false := by decide)
 (he : starEach (e :: es) X.env = (false, eval e X.env) :: starEach es X.env := by rfl) (hpl : (backTo pos (starEach es X.env)).any (·.1) = false := by rfl) : PE X (.Call (.Name x p) (e :: es) [] pos) (tCB r t) := by
 intro pins s σ H Q I h
 refine wpAny_Call_Name_kw (ld_blt I hg hm hv ?_ hn hdb)
 exact PyProof.Rows.callWith_type1 (thn (ha pos pins s σ H _ I h) fun us s1 ⟨vs, H1, I1, r1, q1⟩ => hc pins s1 σ H1 vs us Q I1 r1 q1) he hpl
end
end L2
namespace HT
open PySem PyProof.Rows
section
open PySem.SeqAt
open PySem.AutoSeq1 (wpAny_loadPart')
open PySem.MeetsSeq PySem.MeetsSeq2 PySem.MeetsSeq3
end
section
variable {prog : Program} {w : World} {A : Around} {E : Value → Shared → Prop} {s : Shared}
def sIx (n d : Nat) : Option Int → Nat
 | none => d
 | some v => if v < 0 then (v + (n : Int)).toNat else min v.toNat n
theorem sIx_le (n d : Nat) (hd : d ≤ n) (o : Option Int) : sIx n d o ≤ n := by
 cases o with
 | none => exact hd
 | some v =>
   show (if v < 0 then (v + (n : Int)).toNat else min v.toNat n) ≤ n
   by_cases hv : v < 0
   ·rw [if_pos hv]; omega
   ·rw [if_neg hv]; exact Nat.min_le_right _ _
theorem clip_eq (v : Int) (n d : Nat) : (if v < 0 then max (v + (n : Int)) 0 else min v (n : Int)) = ((sIx n d (some v) : Nat) : Int) := by
 show (if v < 0 then max (v + (n : Int)) 0 else min v (n : Int)) = (((if v < 0 then (v + (n : Int)).toNat else min v.toNat n) : Nat) : Int)
 by_cases hv : v < 0
 ·simp only [if_pos hv]; omega
 ·simp only [if_neg hv]; omega
theorem adjust_gen (lo hi : Option Int) (n : Nat) : Builtin.Slice.sliceAdjust lo hi 1 (n : Int) = (((sIx n 0 lo : Nat) : Int), ((sIx n n hi : Nat) : Int)) := by
 have h1 : ¬ ((1 : Int) < 0) := by omega
 unfold Builtin.Slice.sliceAdjust
 simp only [h1, if_false]
 refine Prod.ext ?_ ?_
 ·cases lo with
  | none => rfl
  | some v => exact clip_eq v n 0
 ·cases hi with
  | none => rfl
  | some v => exact clip_eq v n n
theorem places_gen (i j : Nat) : Builtin.Slice.slicePlaces (i : Int) (j : Int) 1 = j - i := by
 unfold Builtin.Slice.slicePlaces
 have h1 : (1 : Int) > 0 := by omega
 simp only [h1, if_true, Int.ediv_one]
 split <;> omega
theorem slicePart_ {v : Value} {o : Option Int} {Q : Option Int → Shared → Prop} (p : IsPart v o) (h : Q o s) : wpAny (model prog w) A (Builtin.Slice.slicePartIndex v) Q E s := by
 cases p with
 | none => exact slicePart_none h
 | int i t => exact slicePart_int h
theorem sliceApplied_gen {sl : Addr} {vl vu : Value} {lo hi : Option Int} {n : Nat} {Q : Int × Int × Nat → Shared → Prop} (hs : s.heap.IsSliceOf sl vl vu .none) (pl : IsPart vl lo) (pu : IsPart vu hi)
 (h : Q (((sIx n 0 lo : Nat) : Int), 1, sIx n n hi - sIx n 0 lo) s) : wpAny (model prog w) A (Builtin.Slice.sliceApplied (.ref sl) (pure (n : Int))) Q E s := by
 obtain ⟨os, hos, hcs, hds⟩ := id hs
 unfold Builtin.Slice.sliceApplied Builtin.Slice.sliceFields
 refine wpAny_bind (wpAny_bind (wpAny_field hos hds (x := vl) rfl (wpAny_bind (wpAny_field hos hds (x := vu) rfl (wpAny_bind (wpAny_field hos hds (x := .none) rfl (wpAny_pure ?_)))))))
 refine wpAny_bind (slicePart_none ?_)
 show wpAny _ _ (if ((1 : Int) == 0) = true then _ else _) _ _ s
 rw [if_neg (by decide)]
 refine wpAny_bind (slicePart_ pl (wpAny_bind (slicePart_ pu (wpAny_bind (wpAny_pure ?_)))))
 show wpAny _ _ (match Builtin.Slice.sliceAdjust lo hi 1 (n : Int) with | (lo, hi) => pure (lo, (1 : Int), Builtin.Slice.slicePlaces lo hi 1)) _ _ s
 rw [adjust_gen lo hi n]
 show wpAny _ _ (pure (((sIx n 0 lo : Nat) : Int), (1 : Int), Builtin.Slice.slicePlaces ((sIx n 0 lo : Nat) : Int) ((sIx n n hi : Nat) : Int) 1)) _ _ s
 rw [places_gen]
 exact wpAny_pure h
theorem pick_gen (xs : Array Value) (i k : Nat) : ((List.range k).filterMap fun (m : Nat) => xs[((i : Int) + (m : Int) * 1).toNat]?).toArray = ((xs.toList.drop i).take k).toArray := by
 have e : (fun (m : Nat) => xs[((i : Int) + (m : Int) * 1).toNat]?) = fun m => xs[i + m]? := by
  funext m
  have : ((i : Int) + (m : Int) * 1).toNat = i + m := by omega
  rw [this]
 rw [e]
 have := pick_run xs i k
 rw [List.filterMap_map] at this
 have e2 : ((fun x => xs[x]?) ∘ fun x => i + x) = fun m => xs[i + m]? := rfl
 rw [e2] at this
 rw [this]
theorem getItem_tuple_cut {t sl : Addr} {items : Array Value} {vl vu : Value} {lo hi : Option Int} {Q : Value → Shared → Prop} (ht : IsTup s.heap t items) (hs : s.heap.IsSliceOf sl vl vu .none) (pl : IsPart vl lo) (pu : IsPart vu hi)
 (hw : ¬ (sIx items.size 0 lo = 0 ∧ sIx items.size items.size hi = items.size))
 (h : Q (.ref s.heap.objs.size) { s with heap := s.heap.push { cls := .type "tuple", data := .seq ((items.toList.drop (sIx items.size 0 lo)).take (sIx items.size items.size hi - sIx items.size 0 lo)).toArray } })
 (hsz : items.size ≤ sizeLine) : wpAny (model prog w) A (getItem (.ref t) (.ref sl)) Q E s := by
 have htake : sizeOk (.seq ((items.toList.drop (sIx items.size 0 lo)).take (sIx items.size items.size hi - sIx items.size 0 lo)).toArray) := by
  show ((items.toList.drop (sIx items.size 0 lo)).take (sIx items.size items.size hi - sIx items.size 0 lo)).toArray.size ≤ sizeLine
  rw [List.size_toArray, List.length_take, List.length_drop, Array.length_toList]
  omega
 have hj : sIx items.size items.size hi ≤ items.size := sIx_le _ _ (Nat.le_refl _) hi
 obtain ⟨os, hos, hcs, hds⟩ := id hs
 have hTs : s.TypeIs (.ref sl) "slice" := ⟨os, hos, hcs⟩
 unfold getItem
 try with_reducible refine wpAny_holding ?_
 first | refine wpAny_bind (wpAny_pure ?_) | skip
 refine wpAny_bind (wpAny_sequenceKey ht.typeIs (by decide) ?_)
 refine wpAny_bind (wpAny_callSpecial?_slot (name := Str.ofString "__getitem__") ht.typeIs PyProof.Rows.slot_tuple_getitem
  (wpAny_call_entry PyProof.Rows.slot_tuple_getitem ht.typeIs entry_tuple_getitem ?_ (args_tuple_getitem _ _)))
 show wpAny _ _ (Builtin.Tuple.tupleItemsOf (.ref t) >>= _) _ _ s
 refine wpAny_bind (tupleItemsOf_ ht ?_)
 refine wpAny_bind (wpAny_typeOf hTs ?_)
 rw [if_pos (by decide)]
 refine wpAny_bind (sliceApplied_gen hs pl pu ?_)
 have hno : ¬ ((((sIx items.size 0 lo : Nat) : Int) == 0 && (1 : Int) == 1 && (sIx items.size items.size hi - sIx items.size 0 lo) == items.size) = true) := by
  intro q
  rw [Bool.and_eq_true, Bool.and_eq_true] at q
  have q1 : ((sIx items.size 0 lo : Nat) : Int) = 0 := eq_of_beq q.1.1
  have q2 : sIx items.size items.size hi - sIx items.size 0 lo = items.size := eq_of_beq q.2
  exact hw ⟨by omega, by omega⟩
 show wpAny _ _ (if (((sIx items.size 0 lo : Nat) : Int) == 0 && (1 : Int) == 1 && (sIx items.size items.size hi - sIx items.size 0 lo) == items.size) = true then _ else _) _ _ s
 rw [if_neg hno, pick_gen]
 first
  | exact wpAny_bind (m := Builtin.Tuple.tupleExact _) (wpAny_newObj_type (wpAny_pure ⟨_, rfl, wpAny_pure h⟩) htake)
  | exact wpAny_bind (m := Builtin.Tuple.tupleExact _) (wpAny_newObj_type (wpAny_bind (wpAny_pure (wpAny_pure ⟨_, rfl, wpAny_pure h⟩))) htake)
  | exact wpAny_bind (wpAny_bind (m := Builtin.Tuple.tupleExact _) (wpAny_newObj_type (wpAny_pure (wpAny_pure ⟨_, rfl, wpAny_pure h⟩)) htake))
  | exact wpAny_bind (wpAny_bind (m := Builtin.Tuple.tupleExact _) (wpAny_newObj_type (wpAny_pure ⟨_, rfl, wpAny_pure h⟩) htake))
end
end HT
namespace L2
open PySem PySem.Spec PyProof.Rows
abbrev TO := St → Hp → (Option Int → Hp → Prop) → Prop
def PO (X : Cx) (e : Option Expr) (t : TO) : Prop :=
 ∀ (pins : List (Addr × Obj)) (s : Shared) (σ : St) (H : Hp) (Q : Option Int → Hp → Prop), Inv X pins σ H s → t σ H Q →
   wpAny (model X.prog X.w) X.A (evalPart e X.env) (fun u s' => ∃ o H', Inv X pins σ H' s' ∧ IsPart u o ∧ Q o H') X.xe s
def tNoPart : TO := fun _ H Q => Q none H
def tPart (t : TE) : TO := fun σ H Q => t σ H fun x H1 => ∃ i, x = .int i ∧ Q (some i) H1
section
variable {X : Cx} {e : Expr} {te : TE} {lo hi : Option Expr} {tl th : TO} {pos p2 : Pos}
theorem po_none : PO X none tNoPart := by
 intro pins s σ H Q I h
 rw [evalPart_none]
 exact wpAny_pure ⟨none, H, I, .none, h⟩
theorem po_some (h : PE X e te) : PO X (some e) (tPart te) := by
 intro pins s σ H Q I hw
 rw [evalPart_some]
 refine thn (h pins s σ H _ I hw) fun u s1 ⟨x, H1, I1, r1, q1⟩ => ?_
 obtain ⟨i, rfl, q⟩ := q1
 obtain ⟨t, rfl⟩ := r1
 exact ⟨some i, H1, I1, .int i t, q⟩
def SlR (X : Cx) (r : V → Option Int → Option Int → Hp → VK → Prop) : Prop :=
 ∀ (pins : List (Addr × Obj)) (s : Shared) (σ : St) (H : Hp) (x : V) (v vl vu : Value) (lo hi : Option Int) (sl : Addr) (Q : VK), Inv X pins σ H s → RelV x v → s.heap.IsSliceOf sl vl vu .none → IsPart vl lo → IsPart vu hi → r x lo hi H Q →
   ∃ T id, typeLookup (.type T) "__getitem__" = pure (some (.builtin id)) ∧ s.TypeIs v T ∧ wpAny (model X.prog X.w) X.A (getItem v (.ref sl)) (EP X pins σ Q) X.xe s
def tSl (r : V → Option Int → Option Int → Hp → VK → Prop) (te : TE) (tl th : TO) : TE := fun σ H Q => te σ H fun x H1 => tl σ H1 fun l H2 => th σ H2 fun u H3 => r x l u H3 Q
theorem pe_slice {r : V → Option Int → Option Int → Hp → VK → Prop} (hr : SlR X r) (he : PE X e te) (hl : PO X lo tl) (hu : PO X hi th) : PE X (.Subscript e (.Slice lo hi none p2) pos) (tSl r te tl th) := by
 intro pins s σ H Q I h
 refine Subscript_ (thn (he pins s σ H _ I h) fun v s1 ⟨x, H1, I1, r1, q1⟩ => ?_)
 refine wpAny_Slice (thn (hl pins s1 σ H1 _ I1 q1) fun vl s2 ⟨l, H2, I2, pl, q2⟩ => thn (hu pins s2 σ H2 _ I2 q2) fun vu s3 ⟨u, H3, I3, pu, q3⟩ => ?_)
 rw [evalPart_none]
 refine wpAny_pure ?_
 have I4 : Inv X pins σ H3 { s3 with heap := s3.heap.push { cls := .type "slice", data := .fields #[vl, vu, .none] } } := I3.kept (t' := s3.toks) fun b ob q => Heap.get?_push_of_some _ q
 obtain ⟨T, id, hT, ht, hg⟩ := hr pins { s3 with heap := s3.heap.push { cls := .type "slice", data := .fields #[vl, vu, .none] } } σ H3 x v vl vu l u s3.heap.objs.size Q I4 r1 (Heap.IsSliceOf.new ..) pl pu q3
 show wpAny (model X.prog X.w) X.A (subscriptTail e (.Slice lo hi none p2) v (.ref s3.heap.objs.size)) (EP X pins σ Q) X.xe { s3 with heap := s3.heap.push { cls := .type "slice", data := .fields #[vl, vu, .none] } }
 exact tail_any (ops := [.ref s3.heap.objs.size, v]) ht hT hg (by with_unfolding_all rfl)
def cutV (xs : List V) (lo hi : Option Int) : List V := (xs.drop (HT.sIx xs.length 0 lo)).take (HT.sIx xs.length xs.length hi - HT.sIx xs.length 0 lo)
theorem cutV_length (xs : List V) (lo hi : Option Int) : (cutV xs lo hi).length ≤ xs.length := by
 unfold cutV
 rw [List.length_take, List.length_drop]
 omega
def rSlT (K : PySem.W.Frag) : V → Option Int → Option Int → Hp → VK → Prop := fun x lo hi H Q => ∃ a xs, x = .ref a ∧ SqT K H a xs ∧
 ¬ (HT.sIx xs.length 0 lo = 0 ∧ HT.sIx xs.length xs.length hi = xs.length) ∧ ∀ p, H p = none → Q (.ref p) (upd H p (.tup (cutV xs lo hi)))
theorem sl_tup : SlR X (rSlT X.K) := by
 intro pins s σ H x v vl vu lo hi sl Q I rx hs pl pu h
 obtain ⟨a, xs, rfl, hx, hw, q⟩ := h
 cases rx
 obtain ⟨its, r, ht, hz⟩ := I.tuple hx
 have hlen : its.toArray.size = xs.length := by rw [List.size_toArray]; exact r.length.symm
 refine ⟨"tuple", _, PyProof.Rows.slot_tuple_getitem.lookup, ht.typeIs, ?_⟩
 refine HT.getItem_tuple_cut ht hs pl pu (by rw [hlen]; exact hw) ?_ (by rw [hlen]; exact hz)
 rw [hlen]
 refine ⟨.ref s.heap.objs.size, _, I.laid (t' := s.toks) (o := .tup (cutV xs lo hi)) (fun b ob q => Heap.get?_push_of_some _ q) (Nat.le_refl _) ?_, rfl, q _ (I.hok.fresh (Nat.le_refl _))⟩
 exact ⟨Nat.le_trans (cutV_length xs lo hi) hz, _, (r.drop (HT.sIx xs.length 0 lo)).take (HT.sIx xs.length xs.length hi - HT.sIx xs.length 0 lo), IsTup.new _ _⟩
end
end L2
namespace L2
open PySem PySem.Spec PyProof.Rows
def ixN (n : Nat) (i : Int) : Option Nat := if 0 ≤ i then (if i < n then some i.toNat else none) else if -(n : Int) ≤ i then some (i + n).toNat else none
def atI {α : Type} (xs : List α) (i : Int) : Option α := (ixN xs.length i).bind fun j => xs[j]?
theorem ixN_seq {n : Nat} {i : Int} {j : Nat} (h : ixN n i = some j) : seqIndex? i n = some j ∧ j < n ∧ -(n : Int) ≤ i ∧ i < n := by
 unfold ixN at h
 by_cases h0 : 0 ≤ i
 ·rw [if_pos h0] at h
  by_cases h1 : i < n
  ·rw [if_pos h1] at h
   have e : i.toNat = j := Option.some.inj h
   exact ⟨by rw [seqIndex_of h0 h1, e], by omega, by omega, h1⟩
  ·rw [if_neg h1] at h; cases h
 ·rw [if_neg h0] at h
  by_cases h1 : -(n : Int) ≤ i
  ·rw [if_pos h1] at h
   have e : (i + n).toNat = j := Option.some.inj h
   exact ⟨by rw [seqIndex_neg (by omega) h1, e], by omega, h1, by omega⟩
  ·rw [if_neg h1] at h; cases h
theorem atI_get {α : Type} {xs : List α} {i : Int} {v : α} (h : atI xs i = some v) : ∃ j, seqIndex? i xs.length = some j ∧ xs[j]? = some v ∧ j < xs.length ∧ -(xs.length : Int) ≤ i ∧ i < xs.length := by
 unfold atI at h
 cases e : ixN xs.length i with
 | none => rw [e] at h; cases h
 | some j =>
   rw [e] at h
   obtain ⟨h1, h2, h3, h4⟩ := ixN_seq e
   exact ⟨j, h1, h, h2, h3, h4⟩
theorem atI_nat {α : Type} {xs : List α} {j : Nat} {v : α} (h : xs[j]? = some v) : atI xs (j : Int) = some v := by
 have hj : j < xs.length := (List.getElem?_eq_some_iff.mp h).1
 have e : ixN xs.length (j : Int) = some j := by
  unfold ixN
  rw [if_pos (by omega), if_pos (by omega)]; simp
 unfold atI; rw [e]; exact h
theorem atI_last {α : Type} (xs : List α) (v : α) : atI (xs ++ [v]) (-1) = some v := by
 have hl : (xs ++ [v]).length = xs.length + 1 := by simp
 have e : ixN (xs ++ [v]).length (-1) = some xs.length := by
  unfold ixN
  rw [hl, if_neg (by decide), if_pos (by omega)]
  congr 1
  omega
 unfold atI
 rw [e]
 show (xs ++ [v])[xs.length]? = some v
 simp
def PlainIx (b : Expr) : Prop := ∀ o i, subscripted b false o i = operate [o, i] (getItem o i)
def IxR (X : Cx) (r : R2) : Prop :=
 ∀ (value slice : Expr) (pins : List (Addr × Obj)) (s : Shared) (σ : St) (H : Hp) (x y : V) (v u : Value) (Q : VK), Inv X pins σ H s → RelV x v → RelV y u → r x y H Q →
   subscripted slice false v u = operate [v, u] (getItem v u) → wpAny (model X.prog X.w) X.A (subscriptTail value slice v u) (EP X pins σ Q) X.xe s
def MtR (X : Cx) (id : String) (r : V → List V → Hp → VK → Prop) : Prop :=
 ∀ (pins : List (Addr × Obj)) (s : Shared) (σ : St) (H : Hp) (x : V) (xs : List V) (v : Value) (us : List Value) (Q : VK), Inv X pins σ H s → RelV x v → Vals xs us → r x xs H Q →
   wpAny (model X.prog X.w) X.A (call (.builtin id) (v :: us)) (EP X pins σ Q) X.xe s
section
variable {X : Cx} {a b : Expr} {ta tb : TE} {pos : Pos}
theorem IxR.or {r r' : R2} (h : IxR X r) (h' : IxR X r') : IxR X (fun x y H Q => r x y H Q ∨ r' x y H Q) := by
 intro value slice pins s σ H x y v u Q I rx ry q hs
 rcases q with q | q
 ·exact h value slice pins s σ H x y v u Q I rx ry q hs
 ·exact h' value slice pins s σ H x y v u Q I rx ry q hs
theorem pe_ix {r : R2} (hr : IxR X r) (ha : PE X a ta) (hb : PE X b tb) (hs : PlainIx b) : PE X (.Subscript a b pos) (tOp r ta tb) := by
 intro pins s σ H Q I h
 exact Subscript_ (binT ha hb I h fun v u s2 x y H2 I2 rx ry q => hr a b pins s2 σ H2 x y v u Q I2 rx ry q (hs _ _))
def rIxL (K : PySem.W.Frag) : R2 := fun x y H Q => ∃ p xs i v, x = .ref p ∧ y = .int i ∧ SqL K H p xs ∧ atI xs i = some v ∧ Q v H
def rIxT (K : PySem.W.Frag) : R2 := fun x y H Q => ∃ p xs i v, x = .ref p ∧ y = .int i ∧ SqT K H p xs ∧ atI xs i = some v ∧ Q v H
def rIxS : R2 := fun x y H Q => ∃ z i c, x = .str z ∧ y = .int i ∧ z.length ≤ sizeLine ∧ atI z.cps.toList i = some c ∧ Q (.str ⟨#[c]⟩) H
theorem ix_list : IxR X (rIxL X.K) := by
 intro value slice pins s σ H x y v u Q I rx ry h hs
 obtain ⟨p, xs, i, z, rfl, rfl, hq, he, q⟩ := h
 cases rx
 obtain ⟨t, rfl⟩ := ry
 obtain ⟨its, r, pl, hz⟩ := I.list hq
 obtain ⟨j, h1, h2, h3, h4, h5⟩ := atI_get he
 obtain ⟨w, ew, rw'⟩ := r.get h2
 have hl := r.length
 have hn := line63
 have fin : EP X pins σ Q w s := ⟨z, H, I, rw', q⟩
 by_cases h0 : 0 ≤ i
 ·have hj : i.toNat = j := by
   rw [seqIndex_of h0 h5] at h1
   exact Option.some.inj h1
  exact item_listR pl.isList h0 (by omega) (by rw [hj]; simpa using ew) fin hs
 ·have hj : (i + (its.toArray.size : Int)).toNat = j := by
   rw [seqIndex_neg (by omega) h4] at h1
   rw [List.size_toArray, ← hl]
   exact Option.some.inj h1
  exact subscriptTail_builtinR (x := w) pl.isList.typeIs slot_list_getitem.lookup
   (wpAny_getItem_list_neg (Q := fun r s' => r = w ∧ EP X pins σ Q r s') pl.isList (by omega) (by rw [List.size_toArray] <;> omega) (by omega) (by rw [hj]; simpa using ew) ⟨rfl, fin⟩) hs
theorem ix_tup : IxR X (rIxT X.K) := by
 intro value slice pins s σ H x y v u Q I rx ry h hs
 obtain ⟨p, xs, i, z, rfl, rfl, hq, he, q⟩ := h
 cases rx
 obtain ⟨t, rfl⟩ := ry
 obtain ⟨its, r, pl, hz⟩ := I.tuple hq
 obtain ⟨j, h1, h2, h3, h4, h5⟩ := atI_get he
 obtain ⟨w, ew, rw'⟩ := r.get h2
 have hl := r.length
 have hn := line63
 have fin : EP X pins σ Q w s := ⟨z, H, I, rw', q⟩
 exact subscriptTail_builtinR (x := w) pl.typeIs slot_tuple_getitem.lookup
  (getItem_tuple (j := j) (Q := fun r s' => r = w ∧ EP X pins σ Q r s') pl (by omega) (by omega) (by rw [List.size_toArray, ← hl]; exact h1) (by simpa using ew) ⟨rfl, fin⟩) hs
theorem ix_str : IxR X rIxS := by
 intro value slice pins s σ H x y v u Q I rx ry h hs
 obtain ⟨z, i, c, rfl, rfl, hz, he, q⟩ := h
 obtain ⟨t, rfl⟩ := rx
 obtain ⟨t', rfl⟩ := ry
 obtain ⟨j, h1, h2, h3, h4, h5⟩ := atI_get he
 have hl : z.cps.toList.length = z.length := by simp [Str.length]
 rw [hl] at h1 h4 h5
 have hn := line63
 exact tail_any (typeIs_str s z t) slot_str_getitem.lookup (getItem_str (c := c) (by
  have e1 : decide (i < -(2 ^ 63 : Int)) = false := decide_eq_false (by omega)
  have e2 : decide (i ≥ 2 ^ 63) = false := decide_eq_false (by omega)
  rw [e1, e2, Bool.or_false]) (by rw [h1]; simpa using h2) ⟨.str ⟨#[c]⟩, H, I.tok _, ⟨_, rfl⟩, q⟩) hs
def rIx (K : PySem.W.Frag) : R2 := fun x y H Q => rIxL K x y H Q ∨ rIxT K x y H Q ∨ rIxS x y H Q
theorem ix_seq : IxR X (rIx X.K) := ix_list.or (ix_tup.or ix_str)
theorem mapSeq_set (its : List Value) (n j : Nat) (u : Value) : Obj.mapSeq (·.setIfInBounds j u) { cls := .type "list", data := .seq its.toArray n } = { cls := .type "list", data := .seq (its.set j u).toArray n } := by
 simp [Obj.mapSeq]
theorem Inv.lst {pins : List (Addr × Obj)} {σ : St} {H : Hp} {s : Shared} {p : Addr} {xs : List V} (I : Inv X pins σ H s) (h : H p = some (.lst xs)) :
 ∃ (its : List Value) (n : Nat), Vals xs its ∧ s.heap.get? p = some { cls := .type "list", data := .seq its.toArray n } ∧ xs.length ≤ sizeLine := by
 obtain ⟨z, its, n, r, e⟩ := I.hok p _ h
 exact ⟨its, n, r, e, z⟩
theorem Inv.lstUpd {pins : List (Addr × Obj)} {σ : St} {H : Hp} {s : Shared} {p : Addr} {xs ys : List V} {its its' : List Value} {n n' : Nat} {f : Obj → Obj} (I : Inv X pins σ H s) (h : H p = some (.lst xs))
 (ho : s.heap.get? p = some { cls := .type "list", data := .seq its.toArray n }) (hf : f { cls := .type "list", data := .seq its.toArray n } = { cls := .type "list", data := .seq its'.toArray n' }) (r : Vals ys its') (hz : ys.length ≤ sizeLine) (t : Nat) :
 Inv X pins σ (upd H p (.lst ys)) { s with heap := s.heap.update p f, toks := t } := by
 have e : (s.heap.update p f).get? p = some { cls := .type "list", data := .seq its'.toArray n' } := by
  rw [Heap.get?_update_self f ho (by rw [hf] <;> rfl), hf]
 refine I.write (x := p) (e := p) (by rw [h]; trivial) (.inl rfl) (fun b u hb q => (Heap.get?_update_other _ _ (Ne.symm hb)).trans q) ⟨_, e⟩ ?_
 exact ⟨hz, its', n', r, e⟩
def rSetL : V → V → V → Hp → (Hp → Prop) → Prop := fun o i v H Q => ∃ p xs k j, o = .ref p ∧ i = .int k ∧ H p = some (.lst xs) ∧ ixN xs.length k = some j ∧ Q (upd H p (.lst (xs.set j v)))
theorem set_list : PSet X rSetL := by
 intro pins s σ H o i v ov iv u Q I ro ri rv h
 obtain ⟨p, xs, k, j, rfl, rfl, hp, hj, q⟩ := h
 cases ro
 obtain ⟨t, rfl⟩ := ri
 obtain ⟨its, n, r, ho, hz⟩ := I.lst hp
 obtain ⟨h1, h2, h3, h4⟩ := ixN_seq hj
 have hl := r.length
 have hn := line63
 have I' : Inv X pins σ (upd H p (.lst (xs.set j v))) { s with heap := s.heap.update p (Obj.mapSeq (·.setIfInBounds j u)) } :=
  I.lstUpd hp ho (mapSeq_set its n j u) (r.set rv j) (by rw [List.length_set]; exact hz) s.toks
 by_cases h0 : 0 ≤ k
 ·have hk : k.toNat = j := by
   rw [seqIndex_of h0 h4] at h1
   exact Option.some.inj h1
  exact PySem.W.ki_setAt ho h0 (by omega) (by rw [List.size_toArray, ← hl]; exact h4) (by rw [hk]; exact ⟨_, I', q⟩)
 ·have hk : (k + (its.toArray.size : Int)).toNat = j := by
   rw [seqIndex_neg (by omega) h3] at h1
   rw [List.size_toArray, ← hl]
   exact Option.some.inj h1
  exact PySem.W.ki_setBack ho (by omega) (by rw [List.size_toArray, ← hl]; exact h3) (by omega) (by rw [hk]; exact ⟨_, I', q⟩)
theorem slice_bounds (lo hi : Option Int) (n : Nat) : (sliceBounds lo hi none n).1 = ((HT.sIx n 0 lo : Nat) : Int) ∧ (sliceBounds lo hi none n).2.1 = ((HT.sIx n n hi : Nat) : Int) ∧ (sliceBounds lo hi none n).2.2 = 1 := by
 refine ⟨?_, ?_, rfl⟩
 ·cases lo with
  | none => simp [sliceBounds, HT.sIx]
  | some i =>
    simp only [sliceBounds, HT.sIx, Option.getD_none, show (1 : Int) > 0 by decide, if_true]
    by_cases h : i < 0
    ·simp only [h, if_true] <;> omega
    ·simp only [h, if_false] <;> omega
 ·cases hi with
  | none => simp [sliceBounds, HT.sIx]
  | some i =>
    simp only [sliceBounds, HT.sIx, Option.getD_none, show (1 : Int) > 0 by decide, if_true]
    by_cases h : i < 0
    ·simp only [h, if_true] <;> omega
    ·simp only [h, if_false] <;> omega
theorem slicePick_cut (its : List Value) (lo hi : Option Int) : slicePick its.toArray lo hi none = ((its.drop (HT.sIx its.length 0 lo)).take (HT.sIx its.length its.length hi - HT.sIx its.length 0 lo)).toArray := by
 obtain ⟨h1, h2, h3⟩ := slice_bounds lo hi its.toArray.size
 unfold slicePick
 rw [h1, h2, h3]
 simp only [sliceRange_one, pick_run, List.size_toArray] <;> rfl
def rSlL (K : PySem.W.Frag) : V → Option Int → Option Int → Hp → VK → Prop := fun x lo hi H Q => ∃ a xs, x = .ref a ∧ SqL K H a xs ∧ ∀ p, H p = none → Q (.ref p) (upd H p (.lst (cutV xs lo hi)))
theorem sl_list : SlR X (rSlL X.K) := by
 intro pins s σ H x v vl vu lo hi sl Q I rx hs pl pu h
 obtain ⟨a, xs, rfl, hx, q⟩ := h
 cases rx
 obtain ⟨its, r, ht, hz⟩ := I.list hx
 have hlen := r.length
 refine ⟨"list", _, slot_list_getitem.lookup, ht.isList.typeIs, ?_⟩
 refine wpAny_getItem_list_slice ht.isList hs pl pu .none (by simp) ?_ (by rw [List.size_toArray] <;> omega)
 rw [slicePick_cut, ← hlen]
 refine ⟨.ref s.heap.objs.size, _, I.laid (t' := s.toks) (o := .lst (cutV xs lo hi)) (fun b ob q => Heap.get?_push_of_some _ q) (Nat.le_refl _) ?_, rfl, q _ (I.hok.fresh (Nat.le_refl _))⟩
 exact ⟨Nat.le_trans (cutV_length xs lo hi) hz, _, 0, (r.drop (HT.sIx xs.length 0 lo)).take (HT.sIx xs.length xs.length hi - HT.sIx xs.length 0 lo), Heap.get?_push_size _ rfl⟩
def flatV : V → Bool
 | .non => true
 | .bl _ => true
 | .int _ => true
 | .str _ => true
 | _ => false
def eqV : V → V → Bool
 | .non, .non => true
 | .bl a, .bl b => a == b
 | .bl a, .int b => (if a then 1 else 0) == b
 | .int a, .bl b => a == (if b then 1 else 0)
 | .int a, .int b => a == b
 | .str a, .str b => a == b
 | _, _ => false
theorem eqAt_V {A : Around} {s : Shared} {y x : V} {u v : Value} (ry : RelV y u) (rx : RelV x v) (fy : flatV y = true) (fx : flatV x = true) : SeqAt.EqAt A s u v (eqV y x) := by
 cases y with
 | non =>
   cases ry
   cases x with
   | non => cases rx; exact SeqAt.EqAt.same _
   | bl b => cases rx; exact SeqAt.EqAt.none_bool b
   | int b => obtain ⟨t, rfl⟩ := rx; exact SeqAt.EqAt.none_int b t
   | str b => obtain ⟨t, rfl⟩ := rx; exact SeqAt.EqAt.none_str b t
   | _ => exact absurd (show false = true from fx) Bool.false_ne_true
 | bl a =>
   cases ry
   cases x with
   | non => cases rx; exact SeqAt.EqAt.bool_none a
   | bl b => cases rx; exact SeqAt.EqAt.bool_bool a b
   | int b => obtain ⟨t, rfl⟩ := rx; exact SeqAt.EqAt.bool_int a b t
   | str b => obtain ⟨t, rfl⟩ := rx; exact SeqAt.EqAt.bool_str a b t
   | _ => exact absurd (show false = true from fx) Bool.false_ne_true
 | int a =>
   obtain ⟨t', rfl⟩ := ry
   cases x with
   | non => cases rx; exact SeqAt.EqAt.int_none a t'
   | bl b => cases rx; exact SeqAt.EqAt.int_bool a t' b
   | int b => obtain ⟨t, rfl⟩ := rx; exact SeqAt.EqAt.int_int a t' b t
   | str b => obtain ⟨t, rfl⟩ := rx; exact SeqAt.EqAt.int_str a t' b t
   | _ => exact absurd (show false = true from fx) Bool.false_ne_true
 | str a =>
   obtain ⟨t', rfl⟩ := ry
   cases x with
   | non => cases rx; exact SeqAt.EqAt.str_none a t'
   | bl b => cases rx; exact SeqAt.EqAt.str_bool a t' b
   | int b => obtain ⟨t, rfl⟩ := rx; exact SeqAt.EqAt.str_int a t' b t
   | str b => obtain ⟨t, rfl⟩ := rx; exact SeqAt.EqAt.str_str a t' b t
   | _ => exact absurd (show false = true from fx) Bool.false_ne_true
 | _ => exact absurd (show false = true from fy) Bool.false_ne_true
def eqU (x : V) (u : Value) : Bool := match u with
 | .none => eqV .non x
 | .bool b => eqV (.bl b) x
 | .int i _ => eqV (.int i) x
 | .str z _ => eqV (.str z) x
 | _ => false
theorem eqU_of {x y : V} {u : Value} (r : RelV y u) (f : flatV y = true) : eqU x u = eqV y x := by
 cases y with
 | non => cases r; rfl
 | bl b => cases r; rfl
 | int i => obtain ⟨t, rfl⟩ := r; rfl
 | str z => obtain ⟨t, rfl⟩ := r; rfl
 | _ => exact absurd (show false = true from f) Bool.false_ne_true
theorem any_eqU {x : V} : ∀ {xs : List V} {us : List Value}, Vals xs us → xs.all flatV = true → us.any (eqU x) = xs.any fun y => eqV y x
 | _, _, .nil, _ => rfl
 | y :: xs, u :: us, .cons r t, f => by
   rw [List.all_cons, Bool.and_eq_true] at f
   rw [List.any_cons, List.any_cons, eqU_of r f.1, any_eqU t f.2]
theorem mem_eqAt {A : Around} {s : Shared} {x : V} {v : Value} (rx : RelV x v) (fx : flatV x = true) : ∀ {xs : List V} {us : List Value}, Vals xs us → xs.all flatV = true → ∀ u ∈ us, SeqAt.EqAt A s u v (eqU x u)
 | _, _, .nil, _ => fun u hu => by cases hu
 | y :: xs, u :: us, .cons r t, f => fun u' hu => by
   rw [List.all_cons, Bool.and_eq_true] at f
   rcases List.mem_cons.mp hu with rfl | hu
   ·rw [eqU_of r f.1]; exact eqAt_V r rx f.1 fx
   ·exact mem_eqAt rx fx t f.2 u' hu
def inV (x : V) (xs : List V) : Bool := xs.any fun y => eqV y x
def rIn (K : PySem.W.Frag) (neg : Bool) : R2 := fun x y H Q => ∃ p xs, y = .ref p ∧ (SqL K H p xs ∨ SqT K H p xs) ∧ flatV x = true ∧ xs.all flatV = true ∧ Q (.bl (if neg then !inV x xs else inV x xs)) H
theorem op_in_seq : OpR X (compareOp .In) (rIn X.K false) := by
 intro pins s σ H x y v u Q I rx ry h
 obtain ⟨p, xs, rfl, hq, fx, fs, q⟩ := h
 cases ry
 rcases hq with hq | hq
 ·obtain ⟨its, r, pl, hz⟩ := I.list hq
  refine SeqAt.in_listAt (eqU x) pl.isList (fun w hw => mem_eqAt rx fx r fs w (by simpa using hw)) ⟨.bl _, H, I, rfl, ?_⟩
  rw [show its.toArray.any (eqU x) = its.any (eqU x) by simp, any_eqU r fs]
  exact q
 ·obtain ⟨its, r, pl, hz⟩ := I.tuple hq
  refine SeqAt.in_tupleAt (eqU x) pl (fun w hw => mem_eqAt rx fx r fs w (by simpa using hw)) ⟨.bl _, H, I, rfl, ?_⟩
  rw [show its.toArray.any (eqU x) = its.any (eqU x) by simp, any_eqU r fs]
  exact q
theorem op_notIn_seq : OpR X (compareOp .NotIn) (rIn X.K true) := by
 intro pins s σ H x y v u Q I rx ry h
 obtain ⟨p, xs, rfl, hq, fx, fs, q⟩ := h
 cases ry
 rcases hq with hq | hq
 ·obtain ⟨its, r, pl, hz⟩ := I.list hq
  refine SeqAt.notIn_listAt (eqU x) pl.isList (fun w hw => mem_eqAt rx fx r fs w (by simpa using hw)) ⟨.bl _, H, I, rfl, ?_⟩
  rw [show its.toArray.any (eqU x) = its.any (eqU x) by simp, any_eqU r fs]
  exact q
 ·obtain ⟨its, r, pl, hz⟩ := I.tuple hq
  refine SeqAt.notIn_tupleAt (eqU x) pl (fun w hw => mem_eqAt rx fx r fs w (by simpa using hw)) ⟨.bl _, H, I, rfl, ?_⟩
  rw [show its.toArray.any (eqU x) = its.any (eqU x) by simp, any_eqU r fs]
  exact q
theorem call_len_seq : CallR X (.builtin "len") (fun xs H Q => ∃ p ys, xs = [.ref p] ∧ (SqL X.K H p ys ∨ SqT X.K H p ys) ∧ Q (.int ys.length) H) := by
 intro pins s σ H xs us Q I r h
 obtain ⟨p, ys, rfl, hq, q⟩ := h
 obtain ⟨u, rfl, rx⟩ := vals1 r
 cases rx
 have hn := line63
 rcases hq with hq | hq
 ·obtain ⟨its, r', pl, hz⟩ := I.list hq
  have hlen := r'.length
  exact Calls.call_len_list pl.isList (by simp only [List.size_toArray] <;> omega) ⟨.int ys.length, H, I.tok _, ⟨s.toks + 1, by rw [List.size_toArray, hlen]⟩, q⟩
 ·obtain ⟨its, r', pl, hz⟩ := I.tuple hq
  have hlen := r'.length
  exact len_tuple pl (by simp only [List.size_toArray] <;> omega) ⟨.int ys.length, H, I.tok _, ⟨s.toks + 1, by rw [List.size_toArray, hlen]⟩, q⟩
theorem call_len_str : CallR X (.builtin "len") (fun xs H Q => ∃ z, xs = [.str z] ∧ z.length ≤ sizeLine ∧ Q (.int z.length) H) := by
 intro pins s σ H xs us Q I r h
 obtain ⟨z, rfl, hz, q⟩ := h
 obtain ⟨u, rfl, t, rfl⟩ := vals1 r
 have hn := line63
 exact len_str (by omega) ⟨.int z.length, H, I.tok _, ⟨_, rfl⟩, q⟩
def tyV (K : PySem.W.Frag) (T : String) (x : V) (H : Hp) : Prop := match x with
 | .str _ => T = "str"
 | .int _ => T = "int"
 | .ref p => (T = "list" ∧ ∃ xs, SqL K H p xs) ∨ (T = "tuple" ∧ ∃ o, K.lookup p = some o ∧ o.cls = .type "tuple" ∧ o.dict = none) ∨
  (T = "dict" ∧ ((∃ kvs, H p = some (.dK kvs)) ∨ ∃ kvs, H p = some (.dT kvs))) ∨ (T = "set" ∧ ∃ S n, H p = some (.set S n))
 | _ => False
theorem tyV_is {pins : List (Addr × Obj)} {σ : St} {H : Hp} {s : Shared} {T : String} {x : V} {v : Value} (I : Inv X pins σ H s) (r : RelV x v) (ty : tyV X.K T x H) :
 s.TypeIs v T ∧ ∀ a, v = .ref a → ∃ ob, s.heap.get? a = some ob ∧ ob.dict = none := by
 cases x with
 | str z =>
   obtain ⟨t, rfl⟩ := r
   cases (show T = "str" from ty)
   exact ⟨typeIs_str s z t, fun _ e => nomatch e⟩
 | int i =>
   obtain ⟨t, rfl⟩ := r
   cases (show T = "int" from ty)
   exact ⟨typeIs_int s i t, fun _ e => nomatch e⟩
 | ref p =>
   cases r
   rcases ty with ⟨rfl, xs, hq⟩ | ⟨rfl, o, hk, hc, hd⟩ | ⟨rfl, hk⟩ | ⟨rfl, S, n, hk⟩
   ·obtain ⟨its, _, pl, _⟩ := I.list hq
    refine ⟨pl.isList.typeIs, fun a e => ?_⟩
    cases e
    obtain ⟨o, n, e, c, hd, _⟩ := pl
    exact ⟨o, e, hd⟩
   ·refine ⟨⟨o, I.kIn p o hk, hc⟩, fun a e => ?_⟩
    cases e
    exact ⟨o, I.kIn _ o hk, hd⟩
   ·have z : ∃ o, s.heap.get? p = some o ∧ o.ExactDict := by
     rcases hk with ⟨kvs, hk⟩ | ⟨kvs, hk⟩
     ·obtain ⟨_, _, _, _, o, _, _, e, ex, _⟩ := I.hok p _ hk
      exact ⟨o, e, ex⟩
     ·obtain ⟨_, _, _, _, o, _, _, e, ex, _⟩ := I.hok p _ hk
      exact ⟨o, e, ex⟩
    obtain ⟨o, e, ex⟩ := z
    refine ⟨⟨o, e, ex.1⟩, fun a e2 => ?_⟩
    cases e2
    exact ⟨o, e, ex.2.1⟩
   ·obtain ⟨o, _, _, _, e, ex, _⟩ := I.hok p _ hk
    refine ⟨⟨o, e, ex.1⟩, fun a e2 => ?_⟩
    cases e2
    exact ⟨o, e, ex.2.1⟩
 | _ => exact False.elim ty
def tBM0 (K : PySem.W.Frag) (T : String) (r : V → List V → Hp → VK → Prop) (to : TE) : TE := fun σ H Q => to σ H fun x H1 => tyV K T x H1 ∧ r x [] H1 Q
def tBM (K : PySem.W.Frag) (T : String) (r : V → List V → Hp → VK → Prop) (to : TE) (t : TA) : TE := fun σ H Q => to σ H fun x H1 => tyV K T x H1 ∧ t σ H1 fun xs H2 => r x xs H2 Q
variable {o e : Expr} {es : List Expr} {to : TE} {t : TA} {name : Str} {apos cpos : Pos} {T id : String} {r : V → List V → Hp → VK → Prop}
theorem pe_bm0 (pa : PlainAttrs T) (slot : Slot T name id) (hty : typeOf (.builtin id) = pure (.type "method_descriptor")) (hm : MtR X id r) (ho : PE X o to)
 (hbase : attributeBase o name X.env (eval o X.env) = eval o X.env := by rfl) (hline : (apos.endLine == cpos.line) = true := by rfl) : PE X (.Call (.Attribute o name apos) [] [] cpos) (tBM0 X.K T r to) := by
 intro pins s σ H Q I h
 refine wpAny_Call_method0_late hbase hline (thn (ho pins s σ H _ I h) fun v s1 ⟨x, H1, I1, r1, ty, q1⟩ => ?_)
 obtain ⟨h1, h2⟩ := tyV_is I1 r1 ty
 exact ⟨T, id, pa, slot, hty, h1, h2, Calls.callWith_builtin rfl (PySem.evalArgs_none (hm pins s1 σ H1 x [] v [] Q I1 r1 .nil q1))⟩
theorem pe_bm (pa : PlainAttrs T) (slot : Slot T name id) (hty : typeOf (.builtin id) = pure (.type "method_descriptor")) (hm : MtR X id r) (ho : PE X o to) (ha : PA X (e :: es) t)
 (hbase : attributeBase o name X.env (eval o X.env) = eval o X.env := by rfl)
 (hfew : ((backTo cpos (starEach (e :: es) X.env)).all (fun x => !x.1) && (backToKw cpos (keywordEach [] X.env)).all (fun x => x.1.isSome)
  && decide ((e :: es).length + ([] : List Keyword).length + (if ([] : List Keyword).isEmpty then 0 else 1) < 30)) = true := by rfl)
 (hline : (apos.endLine == cpos.line) = true := by rfl) (hs : starEach (e :: es) X.env = (false, eval e X.env) :: starEach es X.env := by rfl) (hplain : (backTo cpos (starEach es X.env)).any (·.1) = false := by rfl) :
 PE X (.Call (.Attribute o name apos) (e :: es) [] cpos) (tBM X.K T r to t) := by
 intro pins s σ H Q I h
 refine wpAny_Call_method_late hbase hfew hline rfl (thn (ho pins s σ H _ I h) fun v s1 ⟨x, H1, I1, r1, ty, q1⟩ => ?_)
 obtain ⟨h1, h2⟩ := tyV_is I1 r1 ty
 refine ⟨T, id, pa, slot, hty, h1, h2, ?_⟩
 have hA := ha cpos pins s1 σ H1 _ I1 q1
 rw [hs] at hA ⊢
 refine Calls.callWith_builtin (by show (false || (backTo cpos (starEach es X.env)).any (·.1)) = false; rw [hplain] <;> rfl) (Calls.evalArgs_plain ?_)
 exact thn hA fun us s2 ⟨vs, H2, I2, r2, q2⟩ => hm pins s2 σ H2 x vs v us Q I2 r1 r2 q2
end
end L2
namespace L2
open PySem PySem.Spec PyProof.Rows
def MtM (X : Cx) (id : String) (r : V → List V → Hp → VK → Prop) : Prop :=
 ∀ (pins : List (Addr × Obj)) (s : Shared) (σ : St) (H : Hp) (x : V) (xs : List V) (v : Value) (us : List Value) (Q : VK), Inv X pins σ H s → RelV x v → Vals xs us → r x xs H Q →
   wpAny (model X.prog X.w) X.A (call (.builtin id) (v :: us)) (EP X pins σ Q) X.xe s
theorem Vals.one : ∀ {x : V} {us : List Value}, Vals [x] us → ∃ u, us = [u] ∧ RelV x u
 | _, _, .cons r .nil => ⟨_, rfl, r⟩
theorem Vals.zero : ∀ {us : List Value}, Vals [] us → us = []
 | _, .nil => rfl
theorem Vals.dropLast {xs : List V} {us : List Value} (h : Vals xs us) : Vals xs.dropLast us.dropLast := by
 induction h with
 | nil => exact .nil
 | cons r t ih =>
   cases t with
   | nil => exact .nil
   | cons q t' => exact .cons r ih
theorem erase_last {α : Type} (l : List α) : l.eraseIdx (l.length - 1) = l.dropLast := by
 induction l with
 | nil => rfl
 | cons a r ih =>
   cases r with
   | nil => rfl
   | cons b r =>
     have e : (a :: b :: r).length - 1 = ((b :: r).length - 1) + 1 := by
      have h1 : (a :: b :: r).length = r.length + 2 := rfl
      have h2 : (b :: r).length = r.length + 1 := rfl
      omega
     rw [e, List.eraseIdx_cons_succ, ih]
     all_goals rfl
section
variable {X : Cx} {pins : List (Addr × Obj)} {σ : St} {H : Hp} {s : Shared} {l b : Addr} {xs ys zs : List V}
theorem Inv.lset {its its' : List Value} {n : Nat} {f : Array Value → Array Value} {t' : Nat} (I : Inv X pins σ H s) (hH : H l = some (.lst xs))
 (e : s.heap.get? l = some { cls := .type "list", data := .seq its.toArray n }) (hf : f its.toArray = its'.toArray) (hv : Vals ys its') (hz : ys.length ≤ sizeLine) :
 Inv X pins σ (upd H l (.lst ys)) { s with heap := s.heap.update l (Obj.mapSeq f), toks := t' } := by
 have q := PySem.IsL.update e f
 rw [hf] at q
 refine I.write (x := l) (e := l) (by rw [hH]; exact trivial) (.inl rfl) (fun b' u hb hu => (Heap.get?_update_other s.heap (Obj.mapSeq f) (Ne.symm hb)).trans hu) ⟨_, q⟩ ?_
 exact ⟨hz, its', _, hv, q⟩
theorem Inv.lnew {its : List Value} {t' : Nat} (I : Inv X pins σ H s) (hv : Vals ys its) (hz : ys.length ≤ sizeLine) :
 Inv X pins σ (upd H s.heap.objs.size (.lst ys)) { s with heap := s.heap.push { cls := .type "list", data := .seq its.toArray }, toks := t' } :=
 I.laid (fun _ _ q => Heap.get?_push_of_some _ q) (Nat.le_refl _) ⟨hz, its, 0, hv, Heap.get?_push_size _ rfl⟩
theorem Inv.fresh (I : Inv X pins σ H s) : H s.heap.objs.size = none := I.hok.fresh (Nat.le_refl _)
theorem Inv.lstM (I : Inv X pins σ H s) (hH : H l = some (.lst xs)) : xs.length ≤ sizeLine ∧ ∃ (its : List Value) (n : Nat), Vals xs its ∧ xs.length = its.length ∧ s.heap.get? l = some { cls := .type "list", data := .seq its.toArray n } := by
 obtain ⟨z, its, n, r, e⟩ := I.hok l _ hH
 exact ⟨z, its, n, r, r.length, e⟩
end
section
variable {X : Cx}
def rAppend : V → List V → Hp → VK → Prop := fun x vs H Q => ∃ l xs y, x = .ref l ∧ vs = [y] ∧ H l = some (.lst xs) ∧ xs.length < sizeLine ∧ Q .non (upd H l (.lst (xs ++ [y])))
theorem mt_append : MtM X "list.append" rAppend := by
 intro pins s σ H x vs v us Q I rx rv h
 obtain ⟨l, xs, y, rfl, rfl, hH, hz, q⟩ := h
 cases rx
 obtain ⟨u, rfl, ru⟩ := rv.one
 obtain ⟨z, its, n, r, hl, e⟩ := I.lstM hH
 refine call_meets F.slot_list_append ⟨_, e, rfl⟩ F.entry_list_append (F.args_list_append_2 _ _) (PySem.list_append l its.toArray n u (by rw [List.size_toArray]; omega)) ⟨e, ?_⟩
 refine ⟨.non, _, I.lset (its' := its ++ [u]) hH e (by simp) (r.append (.cons ru .nil)) ?_, rfl, q⟩
 rw [List.length_append, List.length_singleton]
 omega
def rPop : V → List V → Hp → VK → Prop := fun x vs H Q => ∃ l xs y, x = .ref l ∧ vs = [] ∧ H l = some (.lst xs) ∧ xs[xs.length - 1]? = some y ∧ Q y (upd H l (.lst xs.dropLast))
theorem mt_pop : MtM X "list.pop" rPop := by
 intro pins s σ H x vs v us Q I rx rv h
 obtain ⟨l, xs, y, rfl, rfl, hH, hy, q⟩ := h
 cases rx
 have hus := rv.zero
 subst hus
 obtain ⟨z, its, n, r, hl, e⟩ := I.lstM hH
 obtain ⟨u, hu, ru⟩ := r.get hy
 have hy' : its.toArray[its.toArray.size - 1]? = some u := by
  show its.toArray[its.length - 1]? = some u
  rw [← Array.getElem?_toList, ← hl]
  exact hu
 refine call_meets F.slot_list_pop ⟨_, e, rfl⟩ F.entry_list_pop (F.args_list_pop_1 _) (MeetsSeq.list_pop_last l its.toArray n u hy' (by rw [List.size_toArray]; omega)) ⟨e, ?_⟩
 refine ⟨y, _, I.lset (its' := its.dropLast) hH e ?_ r.dropLast ?_, ru, q⟩
 ·show its.toArray.eraseIdxIfInBounds (its.toArray.size - 1) = its.dropLast.toArray
  rw [List.size_toArray, List.eraseIdxIfInBounds_toArray, erase_last]
 ·rw [List.length_dropLast]
  omega
def rCat : R2 := fun x y H Q => ∃ l b xs zs, x = .ref l ∧ y = .ref b ∧ H l = some (.lst xs) ∧ H b = some (.lst zs) ∧ xs.length + zs.length ≤ sizeLine ∧ ∀ p, H p = none → Q (.ref p) (upd H p (.lst (xs ++ zs)))
theorem op_cat : OpR X (binaryOp .Add) rCat := by
 intro pins s σ H x y v u Q I rx ry h
 obtain ⟨l, b, xs, zs, rfl, rfl, hH, hB, hz, q⟩ := h
 cases rx
 cases ry
 obtain ⟨z, its, n, r, hl, e⟩ := I.lstM hH
 obtain ⟨z2, its2, n2, r2, hl2, e2⟩ := I.lstM hB
 refine PySem.P.add_list e e2 ?_ (by rw [List.size_toArray, List.size_toArray]; omega)
 have ea : its.toArray ++ its2.toArray = (its ++ its2).toArray := by simp
 rw [ea]
 exact ⟨.ref _, _, I.lnew (t' := s.toks) (r.append r2) (by rw [List.length_append]; omega), rfl, q _ I.fresh⟩
end
section
variable {prog : Program} {w : World} {A : Around} {E : Value → Shared → Prop} {s : Shared}
set_option maxRecDepth 100000 in
end
section
variable {X : Cx}
end
end L2
namespace Att
open PySem PySem.W PySem.Calls PyProof.Rows
theorem ints_of_wellAll {P : Params} {h : Heap} : ∀ (ns : List Int) (vs : List Value), WellAll P h vs (ns.map WData.int) → IntsAre vs ns := by
 intro ns
 induction ns with
 | nil =>
   intro vs w
   rw [List.map_nil] at w
   cases w
   exact .nil
 | cons n ns ih =>
   intro vs w
   rw [List.map_cons] at w
   cases w with
   | cons a b =>
     cases a
     exact .cons _ _ (ih _ b)
theorem script_of {l : OpenLaw} {n : Nat} (hn : l.most = some n) {P : Params} {h : Heap} {args : List WData} {vals : List Value}
 (hpre : l.row.toRowW.claim.pre args = true) (hwl : WellAll P h vals args) :
 ∃ a vs ns, vals = [Value.ref a] ∧ args = [WData.list (ns.map WData.int)] ∧ h.get? a = some { cls := .type "list", data := .seq vs.toArray } ∧ IntsAre vs ns ∧ ns.length ≤ n := by
 have hsh : WShape.hasAll [] args [.list .int] = true := (pre_splitW hpre).1
 have hc : l.pre.holds [] { args := args } = true := (pre_splitW hpre).2
 obtain ⟨d, r, rfl, h1, h2⟩ := hasAllW_cons hsh
 obtain rfl := hasAllW_nil h2
 obtain ⟨xs, rfl, h3⟩ := hasW_list h1
 obtain ⟨ns, rfl⟩ := items_int h3
 have hlen : ns.length ≤ n := by
  unfold OpenLaw.pre at hc
  have h4 : (WTm.not (.lt (.lit (.int (n : Int))) (.len (.arg 0)))).holds [] { args := [.list (ns.map .int)] } = true := by
   have h4 := (holds_andW hc).1
   rw [hn] at h4
   exact h4
  have h5 := condW_of h4 (w_not (w_lt w_lit (w_len_list (w_arg rfl))))
  rw [List.length_map] at h5
  refine Nat.le_of_not_lt fun q => ?_
  have q' : (n : Int) < ((ns.length : Nat) : Int) := by omega
  first
   | (rw [decide_eq_true q'] at h5; exact absurd h5 (by decide))
   | (simp at h5; omega)
 cases hwl with
 | cons w1 w2 =>
   cases w2
   cases w1 with
   | list ho hall => exact ⟨_, _, ns, rfl, rfl, ho, ints_of_wellAll ns _ hall, hlen⟩
theorem post_true (l : OpenLaw) (args : List WData) : l.row.toRowW.claim.post args (.bool true) args = true :=
 postW_of (r := l.row.toRowW) (X := (true == true))
  (show WShape.has [] (.bool true) .bool = true by first | rfl | decide | simp [WShape.has, WShape.arms, WShape.armsAll])
  (show (WTm.eq .res (.lit (.bool true))).value [] { args := args, res := some (.bool true), after := args } = some (.bool (true == true)) from w_eq_bool (w_res rfl) w_lit) rfl
theorem attach_call {l : OpenLaw} {n : Nat} {q : Program} {loose : List Str} {XP : (Str → Option Value) → Heap → Prop} {YP : World → Heap → Prop} {d : DefRec}
 (hn : l.most = some n) (hdf : d.params.defaults = [])
 (call : ∀ (w : World) (s₀ s₁ : Shared) (mg mb : Str → Option Value) (fa : Addr) (o : Obj) (pm cd doc : Value) (a : Addr) (vs : List Value) (ns : List Int),
  Ground q loose [] XP w s₀ mg mb s₁.heap → YP w s₁.heap →
  s₁.heap.get? fa = some o → o.data = .func (docDef d.name d.params d.body d.scope pm cd doc) → s₁.heap.CodeRec cd d.name → mg d.name = some (.ref fa) →
  s₁.heap.get? a = some { cls := .type "list", data := .seq vs.toArray } → IntsAre vs ns → ns.length ≤ n → s₁.gens = #[] →
  codeAny (model l.prog w) callerA (.call (.ref fa) ⟨[.ref a], []⟩) (fun r s' => r = .ok (.ret (.bool true)) ∧ OldK s₁.heap s'.heap ∧ s'.os = s₁.os ∧ AllBare s'.gens) s₁) :
 WalkO q loose XP YP l.row.toRowW d [] (fun f vs => PySem.call f vs) := by
 intro w s₀ s₁ mg mb G Y fa o pm cd doc dV kV ho hd hcd hD hmg hg args vals as hpre hlay hrd hwl hlo
 obtain rfl : dV = .none := Dflts.none hD hdf
 obtain rfl : kV = .none := Dflts.noKw hD
 obtain ⟨a, vs, ns, rfl, rfl, hobj, hints, hlen⟩ := script_of hn hpre hwl
 refine enter_call (codeAny_mono (call w s₀ s₁ mg mb fa o pm cd doc a vs ns G Y ho (fd_plain hd) hcd hmg hobj hints hlen hg) fun r s' hq => ?_)
 obtain ⟨rfl, h2, h3, h4⟩ := hq
 exact ⟨.inl ⟨.bool true, .bool true, [], rfl, fun _ => rfl, .bool true, post_true l _, fun _ => ⟨List.Pairwise.nil, fun _ hm => (nomatch hm)⟩⟩, h2, h3, h4⟩
section
variable {prog : Program} {w : World} {A : Around} {E : Value → Shared → Prop} {s : Shared} {K : Frag}
def ledger (h : Heap) (L d : Addr) : List (Addr × Obj) := (List.range h.objs.size).filterMap fun a => if a = L ∨ a = d then none else (h.get? a).map fun o => (a, o)
end
end Att
namespace L2
open PySem PySem.Spec PyProof.Rows
theorem vals_ints : ∀ {vs : List Value} {ns : List Int}, IntsAre vs ns → Vals (ns.map V.int) vs
 | _, _, .nil => .nil
 | _, _, .cons n t h => .cons ⟨t, rfl⟩ (vals_ints h)
def Only (H : Hp) : Prop := ∀ b, H b = none ∨ ∃ o xs, H b = some (.frz o (.lst xs))
theorem law_call {P : Program} {w : World} {K : PySem.W.Frag} {mg mb : Str → Option Value} {CX : CXT} {k : Nat} {fa a : Addr} {fd : FuncData} {x : Str} {sp : Sp} {s₁ : Shared} {vs : List Value} {ns : List Int}
 (KX : K.In s₁.heap) (hns : s₁.heap.Ns mainGlobals mg) (hb : s₁.heap.Ns builtinsNs mb) (hbb : ∀ x : Str, x ≠ "__name__" → mb x = bootBuiltins x) (hlim : s₁.heap.NoLimit) (hg : s₁.gens = #[])
 (ha : s₁.heap.get? a = some { cls := .type "list", data := .seq vs.toArray }) (hi : IntsAre vs ns) (hl : ns.length ≤ sizeLine) (hr : Room k callerA)
 (F : ∀ base : Heap, K.In base → base.Ns mainGlobals mg → FnOk P w K mg base CX k fa fd [x] sp) (hbind : ∀ (s : Shared) (u : Value), BindsTo s fd ⟨[u], []⟩ [(x, u)])
 (hsp : ∀ H : Hp, Only H → SqL K H a (ns.map V.int) → sp [.ref a] H (fun v _ => v = .bl true) fun _ _ _ => False)
 (hCX : ∀ H e s', CX [] H s₁ (fun _ _ _ => False) e s' → False) :
 codeAny (model P w) callerA (.call (.ref fa) ⟨[.ref a], []⟩) (fun r s' => r = .ok (.ret (.bool true)) ∧ OldK s₁.heap s'.heap ∧ s'.os = s₁.os ∧ AllBare s'.gens) s₁ := by
 have rv := vals_ints hi
 have lenV := hi.length
 have core : ∀ H : Hp, Only H → SqL K H a (ns.map V.int) → HOk P w H s₁.heap → (∀ b, H b ≠ none → b = a) → (H a ≠ none → K.lookup a = none) →
  codeAny (model P w) callerA (.call (.ref fa) ⟨[.ref a], []⟩) (fun r s' => r = .ok (.ret (.bool true)) ∧ OldK s₁.heap s'.heap ∧ s'.os = s₁.os ∧ AllBare s'.gens) s₁ := by
  intro H hO hS hok hA hK
  have base_of : ∀ {b : Addr} {o : Obj}, s₁.heap.get? b = some o → H b = none → (hidT s₁.heap H).get? b = some o := fun e n => hidT_get e n
  have noA : ∀ {b : Addr} {o : Obj} {es : Array DictEntry} {ep : Nat}, s₁.heap.get? b = some o → o.data = .dict es ep → H b = none := fun {b o es ep} e d => by
   cases q : H b with
   | none => rfl
   | some u =>
     have e' : b = a := hA b (by rw [q]; simp)
     subst e'
     rw [ha] at e; cases e
     have d' : Data.seq vs.toArray _ = Data.dict es ep := d
     cases d'
  have nsK : ∀ {b : Addr} {m : Str → Option Value}, s₁.heap.Ns b m → (hidT s₁.heap H).Ns b m := fun {b m} ⟨o, es, ep, e, d, r⟩ => ⟨o, es, ep, base_of e (noA e d), d, r⟩
  have hKb : K.In (hidT s₁.heap H) := fun b o e => base_of (KX b o e) (by
   cases q : H b with
   | none => rfl
   | some u =>
     have e' : b = a := hA b (by rw [q]; simp)
     subst e'
     rw [hK (by rw [q]; simp)] at e; cases e)
  have hM : Mod K mg (hidT s₁.heap H) := ⟨hKb, nsK hns, ⟨mb, nsK hb, hbb⟩, let ⟨mc, h1, h2⟩ := hlim; ⟨mc, nsK h1, h2⟩⟩
  have e0 : Env0 P w K mg (hidT s₁.heap H) callerA [] s₁ H := ⟨rfl, hM, fun b o e => of_hidT e, Nat.le_of_eq (hidT_size _ _), trivial, fun b hb => absurd (show b ∈ ([] : List Addr) from hb) (by simp), hok, .of_eq hg⟩
  refine codeAny_mono ((F _ hKb (nsK hns)).run callerA [] s₁ H ⟨[.ref a], []⟩ [.ref a] [.ref a] _ _ hr e0 (hbind s₁ (.ref a)) (.cons rfl .nil) (hsp H hO hS)) fun r s' h => ?_
  cases r with
  | error e => exact (hCX H e s' h).elim
  | ok fl =>
    cases fl with
    | next => exact False.elim h
    | brk => exact False.elim h
    | cont => exact False.elim h
    | ret u =>
      obtain ⟨v, H', os, bare, un, hok', r', q⟩ := h
      have q' : v = .bl true := q
      subst q'
      obtain rfl : u = Value.bool true := r'
      refine ⟨rfl, OldK.of_keep fun b o e => ?_, os, bare⟩
      cases q : H b with
      | none => exact un.keep b o e q (by intro z; exact absurd (show b ∈ ([] : List Addr) from z) (by simp)) (by simp)
      | some u =>
        rcases hO b with z | ⟨ob, xs, z⟩
        ·rw [q] at z; cases z
        ·have z2 := un.frzs b ob _ z
         obtain ⟨e1, _⟩ := hok b _ z
         obtain ⟨e2, _⟩ := hok' b _ z2
         rw [e] at e1; cases e1
         exact e2
 cases hk : K.lookup a with
 | some o =>
   have e := KX a o hk
   rw [ha] at e
   cases e
   refine core (fun _ => none) (fun _ => .inl rfl) (.inr ⟨_, vs.toArray, _, hk, rfl, rfl, rfl, by rw [List.size_toArray, lenV]; exact hl, by simpa using rv⟩) (fun b u z => by have z' : (none : Option HO) = some u := z; cases z') (fun b z => absurd rfl z) fun z => absurd rfl z
 | none =>
   refine core (fun b => if b = a then some (.frz { cls := .type "list", data := .seq vs.toArray } (.lst (ns.map V.int))) else none) (fun b => ?_) (.inl (.inr ⟨{ cls := .type "list", data := .seq vs.toArray }, if_pos rfl⟩)) (fun b u z => ?_) (fun b z => ?_) fun _ => hk
   ·by_cases hb : b = a
    ·exact .inr ⟨_, _, if_pos hb⟩
    ·exact .inl (if_neg hb)
   ·by_cases hb : b = a
    ·have z' := (if_pos hb).symm.trans z
     cases z'
     subst hb
     exact ⟨ha, by rw [List.length_map]; exact hl, vs, _, rv, ha⟩
    ·have z' := (if_neg hb).symm.trans z
     cases z'
   ·by_cases hb : b = a
    ·exact hb
    ·exact absurd (if_neg hb) z
end L2
namespace L2
open PySem PySem.Spec PyProof.Rows
theorem walk_of {l : PySem.W.OpenLaw} {n k : Nat} {q : Program} {loose : List Str} {XP : (Str → Option Value) → Heap → Prop} {YP : World → Heap → Prop} {d : DefRec} {K : Params → PySem.W.Frag} {CX : World → CXT} {sp : World → Sp} {x : Str}
 (hn : l.most = some n) (hn2 : n ≤ sizeLine) (hdf : d.params.defaults = []) (hr : Room k callerA)
 (hY : ∀ (w : World) (h : Heap), YP w h → (K w.params).In h)
 (F : ∀ (w : World) (mg : Str → Option Value) (fa : Addr) (h : Heap), (K w.params).In h → h.Ns mainGlobals mg → mg d.name = some (.ref fa) →
  ∃ fd : FuncData, (∀ (s : Shared) (u : Value), BindsTo s fd ⟨[u], []⟩ [(x, u)]) ∧
    ∀ base : Heap, (K w.params).In base → base.Ns mainGlobals mg → FnOk l.prog w (K w.params) mg base (CX w) k fa fd [x] (sp w))
 (hsp : ∀ (w : World) (H : Hp) (a : Addr) (ns : List Int), ns.length ≤ n → Only H → SqL (K w.params) H a (ns.map V.int) → sp w [.ref a] H (fun v _ => v = .bl true) fun _ _ _ => False)
 (hCX : ∀ (w : World) (H : Hp) (s : Shared) (e : Value) (s' : Shared), CX w [] H s (fun _ _ _ => False) e s' → False) :
 PySem.W.WalkO q loose XP YP l.row.toRowW d [] (fun f vs => PySem.call f vs) := by
 refine Att.attach_call hn hdf fun w s₀ s₁ mg mb fa o pm cd doc a vs ns G Y ho hd hcd hmg hobj hints hlen hg => ?_
 have KX := hY w _ Y
 obtain ⟨fd, hb, hF⟩ := F w mg fa _ KX G.T.g hmg
 exact law_call KX G.T.g G.T.b G.T.builtins G.T.nolimit hg hobj hints (Nat.le_trans hlen hn2) hr hF hb (fun H hO hS => hsp w H a ns hlen hO hS) fun H e s' => hCX w H s₁ e s'
end L2
namespace L2
open PySem PySem.Spec PyProof.Rows
def inClass (s : Stmt) (j : Nat) : Stmt := match s with
 | .ClassDef _ _ _ body _ _ _ _ _ _ _ => body.getD j (.Pass ⟨0, 0, 0, 0⟩)
 | _ => .Pass ⟨0, 0, 0, 0⟩
def defArgs (s : Stmt) : Arguments := match s with
 | .FunctionDef _ a _ _ _ _ _ _ _ _ => a
 | _ => { posonlyargs := [], args := [], vararg := none, kwonlyargs := [], kw_defaults := [], kwarg := none, defaults := [] }
def defBody (s : Stmt) : List Stmt := match s with
 | .FunctionDef _ _ b _ _ _ _ _ _ _ => b
 | _ => []
def defScope (s : Stmt) : Scope := match s with
 | .FunctionDef _ _ _ _ _ _ sc _ _ _ => sc
 | _ => { kind := .function, names := [], isGenerator := false, isCoroutine := false }
abbrev CX0 : CXT := fun _ _ _ _ _ _ => False
abbrev E0 : XK := fun _ _ _ => False
theorem pass0 {X : Cx} : Passes CX0 X E0 := fun _ _ _ _ _ _ _ h => h.elim
structure Fun (K : PySem.W.Frag) (x qual : Str) (st : Stmt) (f : Addr) (fd : FuncData) : Prop where
 ex : ∃ (oc : Value) (od : Option Addr) (kV doc pm : Value) (an : Option Addr) (cdv ct : Value) (osl : Array (Option Value)),
  fd = PySem.W.fnOf x qual (defArgs st) (defBody st) (defScope st) .none kV doc pm an cdv ct ∧ K.lookup f = some ⟨oc, od, .func fd, osl⟩ ∧ PySem.W.codeIn K cdv qual = true
 kp : PySem.W.keepIn K (.ref f) = true
section
variable {P : Program} {w : World} {K : PySem.W.Frag} {mg : Str → Option Value} {base : Heap}
theorem Fun.ok {x qual : Str} {st : Stmt} {f : Addr} {fd : FuncData} {N ps : List Str} {k : Nat} {sp : Sp} (F : Fun K x qual st f fd) (S : FnScope N ps (defScope st)) (len : ∀ vs H Q E, sp vs H Q E → vs.length = ps.length)
 (hbody : ∀ (cdv : Value) (A : Around) (outer : List Env) (s : Shared) (H : Hp) (vs : List V) (Q : VK) (E : XK), Room k (A.deeper (envOfC qual (defScope st) s.heap.objs.size f cdv)) → sp vs H Q E →
  ∃ t, PSs (cxOf CX0 P w K mg base N qual (defScope st) f cdv A outer s H E).nox (defBody st) t ∧ t { nx := fun _ H' => Q .non H', rt := Q } (start N vs) H) : FnOk P w K mg base CX0 (k + 1) f fd ps sp := by
 obtain ⟨oc, od, kV, doc, pm, an, cdv, ct, osl, rfl, lk, hcd⟩ := F.ex
 refine fn_of lk hcd S len fun A outer s H vs Q E hr hsp => ?_
 obtain ⟨t, h, q⟩ := hbody cdv A outer s H vs Q E hr hsp
 exact ⟨t, h.nox, q⟩
theorem Fun.binds {x qual : Str} {st : Stmt} {f : Addr} {fd : FuncData} {ps : List Str} (F : Fun K x qual st f fd)
 (h : ∀ (kV doc pm : Value) (an : Option Addr) (cdv ct : Value) (us : List Value), us.length = ps.length → bindArgs (PySem.W.fnOf x qual (defArgs st) (defBody st) (defScope st) .none kV doc pm an cdv ct) ⟨us, []⟩ = pure (ps.zip us)) : Binds K fd ps [] := by
 obtain ⟨oc, od, kV, doc, pm, an, cdv, ct, osl, rfl, lk, hcd⟩ := F.ex
 exact .all (h kV doc pm an cdv ct)
theorem fun_mk {x qual : Str} {st : Stmt} {f : Addr} {oc : Value} {od an : Option Addr} {osl : Array (Option Value)} {kV doc pm cdv ct : Value} (l : K.lookup f = some ⟨oc, od, .func (PySem.W.fnOf x qual (defArgs st) (defBody st) (defScope st) .none kV doc pm an cdv ct), osl⟩)
 (c : PySem.W.codeIn K cdv qual = true) (k : PySem.W.keepIn K (.ref f) = true) : Fun K x qual st f (PySem.W.fnOf x qual (defArgs st) (defBody st) (defScope st) .none kV doc pm an cdv ct) := ⟨⟨oc, od, kV, doc, pm, an, cdv, ct, osl, rfl, l, c⟩, k⟩
end
theorem small1000 {n : Nat} (h : n ≤ 1000) : n < sizeLine := Nat.lt_of_le_of_lt h (by decide)
section
variable {X : Cx}
theorem pv (i : Nat) {x : Str} {pos : Pos} (hN : X.N[i]? = some x := by rfl) (hv : Vis X.env.scope x := by first | exact Or.inl rfl | exact Or.inr (Or.inl rfl) | exact Or.inr (Or.inr rfl)) (hd : (x == ("__debug__" : Str)) = false := by decide)
 (hcd : (x == ("__classdict__" : Str)) = false := by decide) : PE X (.Name x pos) (tVar i) := pe_var hN hv hd hcd
end
theorem iteF {A B : Prop} (h : B) : if false = true then A else B := by
 rw [if_neg Bool.false_ne_true]
 exact h
theorem iteT {A B : Prop} (h : A) : if true = true then A else B := by
 rw [if_pos rfl]
 exact h
theorem iteNS {c A B : Prop} [Decidable c] (hc : c) (h : B) : if (!decide c) = true then A else B := by
 rw [decide_eq_true hc]
 exact iteF h
def Same (H H' : Hp) : Prop := ∀ b o, H b = some o → H' b = some o
theorem Same.refl (H : Hp) : Same H H := fun _ _ h => h
theorem Same.trans {H H1 H2 : Hp} (a : Same H H1) (b : Same H1 H2) : Same H H2 := fun c o h => b c o (a c o h)
theorem Same.free {H H' : Hp} (e : Same H H') {l : Addr} (h : H' l = Option.none) : H l = Option.none := by
 cases q : H l with
 | none => rfl
 | some o =>
   rw [e l o q] at h
   cases h
theorem Same.seq {K : PySem.W.Frag} {H H' : Hp} {a : Addr} {xs : List V} (e : Same H H') (h : SqL K H a xs) : SqL K H' a xs := by
 rcases h with (h | ⟨o, h⟩) | h
 ·exact .inl (.inl (e _ _ h))
 ·exact .inl (.inr ⟨o, e _ _ h⟩)
 ·exact .inr h
end L2
namespace S
open PySem PySem.Spec PyProof.Rows L2
def Sz (n : Nat) (x : Int) : Prop := x.natAbs < 2 ^ n
theorem Sz.mono {m n : Nat} {x : Int} (h : Sz m x) (l : m ≤ n) : Sz n x := Nat.lt_of_lt_of_le h (Nat.pow_le_pow_right (by decide) l)
theorem Sz.bits {n : Nat} {x : Int} (h : Sz n x) : Builtin.Int.intBits x ≤ n := intBits_le_iff.mpr h
theorem Sz.mulOk {m n : Nat} {x y : Int} (h : Sz m x) (g : Sz n y) (l : m + n ≤ 134217728) : IntMulOk x y := IntMulOk.of_le h.bits g.bits l
theorem Sz.le {n : Nat} {x y : Int} (h : Sz n x) (l : y.natAbs ≤ x.natAbs) : Sz n y := Nat.lt_of_le_of_lt l h
theorem Sz.log {n : Nat} {x : Int} (h : Sz n x) (l : n ≤ 8999) : x.natAbs.log2 < 9000 := by
 by_cases h0 : x.natAbs = 0
 ·rw [h0]; decide +kernel
 ·have := (Nat.log2_lt h0).mpr (Sz.mono h l)
  omega
section
variable {X : Cx}
theorem op_mulB : OpR X (binaryOp .Mult) (rI IntMulOk fun i j => .int (i * j)) := opI fun _ _ _ _ _ _ _ hc q => mul_int q hc
def CDv (_ j : Int) : Prop := j ≠ 0 ∧ Sz 8999 j
theorem op_fdivB : OpR X (binaryOp .FloorDiv) (rI CDv fun i j => .int (i.fdiv j)) := opI fun i j _ _ _ _ _ hc q =>
 floordiv_int hc.1 q (.inl (PyProof.noPylong_of_log2 (hc.2.log (Nat.le_refl _))))
end
mutual
def Is (H : Hp) : PyData → V → Prop
 | .none, v => v = .non
 | .bool b, v => v = .bl b
 | .int i, v => v = .int i
 | .str x, v => v = .str x
 | .list xs, v => ∃ p vs, v = .ref p ∧ H p = some (.lst vs) ∧ IsAll H xs vs
 | .tuple xs, v => ∃ p vs, v = .ref p ∧ H p = some (.tup vs) ∧ IsAll H xs vs
 | .dict kvs, v => IsIn H kvs v
def IsAll (H : Hp) : List PyData → List V → Prop
 | [], vs => vs = []
 | x :: xs, vs => ∃ v r, vs = v :: r ∧ Is H x v ∧ IsAll H xs r
def IsIn (H : Hp) : List (PyData × PyData) → V → Prop
 | [(c, x)], v => ∃ (p C dx : Addr) (w : V), c = .int ((C : Nat) : Int) ∧ v = .ref p ∧ H p = some (.ins C dx [("form", w)]) ∧ Is H x w
 | _, _ => False
end
mutual
theorem Is.mono {H H' : Hp} (e : Same H H') : ∀ (d : PyData) (v : V), Is H d v → Is H' d v
 | .none, v, h => by simpa only [Is] using h
 | .bool b, v, h => by simpa only [Is] using h
 | .int i, v, h => by simpa only [Is] using h
 | .str x, v, h => by simpa only [Is] using h
 | .list xs, v, h => by
   rw [Is] at h ⊢
   obtain ⟨p, vs, e1, e2, e3⟩ := h
   exact ⟨p, vs, e1, e _ _ e2, IsAll.mono e xs vs e3⟩
 | .tuple xs, v, h => by
   rw [Is] at h ⊢
   obtain ⟨p, vs, e1, e2, e3⟩ := h
   exact ⟨p, vs, e1, e _ _ e2, IsAll.mono e xs vs e3⟩
 | .dict kvs, v, h => by
   rw [Is] at h ⊢
   exact IsIn.mono e kvs v h
theorem IsIn.mono {H H' : Hp} (e : Same H H') : ∀ (d : List (PyData × PyData)) (v : V), IsIn H d v → IsIn H' d v
 | [], v, h => by rw [IsIn] at h; exact h.elim; simp
 | [(c, x)], v, h => by
   rw [IsIn] at h ⊢
   obtain ⟨p, C, dx, w, e1, e2, e3, e4⟩ := h
   exact ⟨p, C, dx, w, e1, e2, e _ _ e3, Is.mono e x w e4⟩
 | _ :: _ :: _, v, h => by rw [IsIn] at h; exact h.elim; simp
theorem IsAll.mono {H H' : Hp} (e : Same H H') : ∀ (d : List PyData) (v : List V), IsAll H d v → IsAll H' d v
 | [], v, h => by rw [IsAll] at h ⊢; exact h
 | x :: xs, v, h => by
   rw [IsAll] at h ⊢
   obtain ⟨v, r, e1, e2, e3⟩ := h
   exact ⟨v, r, e1, Is.mono e x v e2, IsAll.mono e xs r e3⟩
end
theorem Same.new {H : Hp} {p : Addr} (h : H p = none) (o : HO) : Same H (upd H p o) := fun b u q => by rw [upd_ne (ne_of_none q h)]; exact q
section
variable {X : Cx} {pins : List (Addr × Obj)} {σ : L2.St} {H : Hp} {s : Shared}
mutual
theorem Is.reads (I : Inv X pins σ H s) : ∀ (d : PyData) (v : V) (u : Value), d.canLay0 = true → Is H d v → RelV v u → ∃ as, Reads s.heap u d as
 | .none, v, u, lay, h, r => by rw [Is] at h; subst h; cases (show u = Value.none from r); exact ⟨_, .none⟩
 | .bool b, v, u, lay, h, r => by rw [Is] at h; subst h; cases (show u = Value.bool b from r); exact ⟨_, .bool b⟩
 | .int i, v, u, lay, h, r => by rw [Is] at h; subst h; obtain ⟨t, rfl⟩ := (show ∃ t, u = Value.int i t from r); exact ⟨_, .int i t⟩
 | .str x, v, u, lay, h, r => by rw [Is] at h; subst h; obtain ⟨t, rfl⟩ := (show ∃ t, u = Value.str x t from r); exact ⟨_, .str x t⟩
 | .list xs, v, u, lay, h, r => by
   rw [Is] at h
   obtain ⟨p, vs, e1, e2, e3⟩ := h
   subst e1
   cases (show u = Value.ref p from r)
   obtain ⟨_, its, n, hv, hp⟩ := (show ObjOk X.prog X.w H s.heap p (.lst vs) from I.hok p _ e2)
   obtain ⟨as, q⟩ := IsAll.reads I xs vs its (by rw [PyData.canLay0] at lay; exact lay) e3 hv
   exact ⟨_, .list hp rfl rfl (by simpa using q)⟩
 | .tuple xs, v, u, lay, h, r => by
   rw [Is] at h
   obtain ⟨p, vs, e1, e2, e3⟩ := h
   subst e1
   cases (show u = Value.ref p from r)
   obtain ⟨_, its, hv, hp⟩ := (show ObjOk X.prog X.w H s.heap p (.tup vs) from I.hok p _ e2)
   obtain ⟨o, h1, h2, n, h3⟩ := hp
   obtain ⟨as, q⟩ := IsAll.reads I xs vs its (by rw [PyData.canLay0] at lay; exact lay) e3 hv
   exact ⟨_, .tuple h1 h2 h3 (by simpa using q)⟩
 | .dict _, v, u, lay, h, r => by rw [PyData.canLay0] at lay; cases lay
theorem IsAll.reads (I : Inv X pins σ H s) : ∀ (d : List PyData) (v : List V) (u : List Value), PyData.canLayAll0 d = true → IsAll H d v → Vals v u → ∃ as, ReadsAll s.heap u d as
 | [], v, u, lay, h, r => by rw [IsAll] at h; subst h; cases Vals.zero r; exact ⟨_, .nil⟩
 | x :: xs, v, u, lay, h, r => by
   rw [PyData.canLayAll0, Bool.and_eq_true] at lay
   rw [IsAll] at h
   obtain ⟨v, w, e1, e2, e3⟩ := h
   subst e1
   cases r with
   | cons r1 r2 =>
     obtain ⟨as, q⟩ := Is.reads I x v _ lay.1 e2 r1
     obtain ⟨bs, q2⟩ := IsAll.reads I xs w _ lay.2 e3 r2
     exact ⟨_, .cons q q2⟩
end
end
def rEqD : R2 := fun x y H Q => ∃ d e, Is H d x ∧ Is H e y ∧ SeqAt.shaped d = true ∧ SeqAt.shaped e = true ∧ Q (.bl (PyData.eqv d e)) H
def rNeD : R2 := fun x y H Q => ∃ d e, Is H d x ∧ Is H e y ∧ SeqAt.shaped d = true ∧ SeqAt.shaped e = true ∧ Q (.bl (!PyData.eqv d e)) H
section
variable {X : Cx}
theorem op_eqD (hu : X.A.units + 64 < cLine) : OpR X (compareOp .Eq) rEqD := by
 intro pins s σ H x y v u Q I rx ry h
 obtain ⟨d, e, h1, h2, h3, h4, q⟩ := h
 obtain ⟨as, r1⟩ := Is.reads I d x v (SeqAt.canLay_of_shaped h3) h1 rx
 obtain ⟨bs, r2⟩ := Is.reads I e y u (SeqAt.canLay_of_shaped h4) h2 ry
 exact eq_dataH r1 r2 h3 h4 hu ⟨.bl _, H, I, rfl, q⟩
theorem op_neD (hu : X.A.units + 64 < cLine) : OpR X (compareOp .NotEq) rNeD := by
 intro pins s σ H x y v u Q I rx ry h
 obtain ⟨d, e, h1, h2, h3, h4, q⟩ := h
 obtain ⟨as, r1⟩ := Is.reads I d x v (SeqAt.canLay_of_shaped h3) h1 rx
 obtain ⟨bs, r2⟩ := Is.reads I e y u (SeqAt.canLay_of_shaped h4) h2 ry
 exact ne_dataH r1 r2 h3 h4 hu ⟨.bl _, H, I, rfl, q⟩
end
def rIsi (K : PySem.W.Frag) : List V → Hp → VK → Prop := fun xs H Q => ∃ (x : V) (T : String) (t : Value) (b : Bool), xs = [x, .ty T] ∧ TyOf K H x t ∧ PySem.W.kitOne K t (.type T) = some b ∧ Q (.bl b) H
section
variable {X : Cx}
theorem call_isi : CallR X (.builtin "isinstance") (rIsi X.K) := by
 intro pins s σ H xs us Q I r h
 obtain ⟨x, T, t, b, rfl, ty, e, q⟩ := h
 obtain ⟨u, w', rfl, r1, r2⟩ := vals2 r
 cases (show w' = Value.type T from r2)
 exact isinst_ok I r1 ty e fun tk => ⟨.bl b, H, I.tok tk, rfl, q⟩
end
structure Cal (P : Program) (w : World) (K : PySem.W.Frag) (mg : Str → Option Value) (base : Heap) (CX : CXT) (k : Nat) (x : Str) (ps : List Str) (sp : Sp) : Prop where
 ex : ∃ (f : Addr) (fd : FuncData), FnOk P w K mg base CX k f fd ps sp ∧ mg x = some (.ref f) ∧ PySem.W.keepIn K (.ref f) = true ∧ Binds K fd ps []
section
variable {X : Cx} {CX : CXT} {k j : Nat} {ps : List Str} {sp : Sp} {E : XK} {x : Str} {p pos : Pos} {e : Expr} {es : List Expr} {t : TA}
theorem pe_cal (C : Cal X.prog X.w X.K X.mg X.base CX k x ps sp) (hr : Room j X.A) (hk : k ≤ j) (hx : Passes CX X E) (hg : Gl X x)
 (ha : PA X (e :: es) t) (hdb : (x == ("__debug__" : Str)) = false := by decide) (he : starEach (e :: es) X.env = (false, eval e X.env) :: starEach es X.env := by rfl) (hpl : (backTo pos (starEach es X.env)).any (·.1) = false := by rfl) :
 PE X (.Call (.Name x p) (e :: es) [] pos) (tCall sp [] E t) := by
 obtain ⟨f, fd, F, hm, hk2, hb⟩ := C.ex
 exact pe_call F (hr.mono hk) hg hm hk2 hb .nil hx ha hdb he hpl
end
theorem units_of {A : Around} {k : Nat} (hr : Room k A) : A.units + 64 < cLine := hr.units
def frD (q : Rat) : PyData := .tuple [.int q.num, .int (q.den : Int)]
theorem bt_len : bootBuiltins "len" = some (.builtin "len") := by decide +kernel
theorem bt_abs : bootBuiltins "abs" = some (.builtin "abs") := by decide +kernel
theorem bt_max : bootBuiltins "max" = some (.builtin "max") := by decide +kernel
theorem bt_isinstance : bootBuiltins "isinstance" = some (.builtin "isinstance") := by decide +kernel
theorem bt_int : bootBuiltins "int" = some (.type "int") := by decide +kernel
theorem bt_bool : bootBuiltins "bool" = some (.type "bool") := by decide +kernel
theorem bt_str : bootBuiltins "str" = some (.type "str") := by decide +kernel
theorem bt_ValueError : bootBuiltins "ValueError" = some (.type "ValueError") := by decide +kernel
structure Bl (mg : Str → Option Value) : Prop where
 len : mg "len" = none
 abs : mg "abs" = none
 min : mg "min" = none
 max : mg "max" = none
 isinstance : mg "isinstance" = none
 range : mg "range" = none
 int : mg "int" = none
 bool : mg "bool" = none
 tuple : mg "tuple" = none
 list : mg "list" = none
 enumerate : mg "enumerate" = none
 zip : mg "zip" = none
 reversed : mg "reversed" = none
 ValueError : mg "ValueError" = none
 sum : mg "sum" = none
 str : mg "str" = none
theorem iteNot {c A B : Prop} [Decidable c] (h1 : ¬ c → A) (h2 : c → B) : if (!decide c) = true then A else B := by
 by_cases hc : c
 ·rw [decide_eq_true hc]; exact h2 hc
 ·rw [decide_eq_false hc]; exact h1 hc
theorem iteD {c A B : Prop} [Decidable c] (h1 : c → A) (h2 : ¬ c → B) : if decide c = true then A else B := by
 by_cases hc : c
 ·rw [decide_eq_true hc]; exact h1 hc
 ·rw [decide_eq_false hc]; exact h2 hc
theorem _root_.L2.FnOk.or {P : Program} {w : World} {K : PySem.W.Frag} {mg : Str → Option Value} {base : Heap} {CX : CXT} {k : Nat} {f : Addr} {fd : FuncData} {ps : List Str} {sp sp' : Sp} (F : FnOk P w K mg base CX k f fd ps sp) (G : FnOk P w K mg base CX k f fd ps sp') :
 FnOk P w K mg base CX k f fd ps (fun vs H Q E => sp vs H Q E ∨ sp' vs H Q E) where
 len := fun vs H Q E h => h.elim (F.len vs H Q E) (G.len vs H Q E)
 run := fun A outer s H args us vs Q E hr e0 hb hv h => h.elim (F.run A outer s H args us vs Q E hr e0 hb hv) (G.run A outer s H args us vs Q E hr e0 hb hv)
theorem atI_ints {ms : List Int} {k : Int} (h0 : 0 ≤ k) (h : k < (ms.length : Int)) : atI (ms.map V.int) k = some (.int (ms.getD k.toNat 0)) := by
 have hk : k.toNat < ms.length := by omega
 have ek : k = ((k.toNat : Nat) : Int) := by omega
 have q : atI (ms.map V.int) ((k.toNat : Nat) : Int) = some (.int (ms.getD k.toNat 0)) := atI_nat (by rw [List.getElem?_map, List.getElem?_eq_getElem hk, List.getD_eq_getElem?_getD, List.getElem?_eq_getElem hk]; rfl)
 rwa [← ek] at q
theorem low_pos {a b : Int} (hb : 0 < b) : (a.fdiv (Int.gcd a b : Nat) = (Rat.divInt a b).num) ∧ b.fdiv (Int.gcd a b : Nat) = ((Rat.divInt a b).den : Int) := by
 have g0 : (0 : Int) ≤ ((Int.gcd a b : Nat) : Int) := Int.natCast_nonneg _
 rw [Int.fdiv_eq_ediv_of_nonneg _ g0, Int.fdiv_eq_ediv_of_nonneg _ g0, Rat.num_divInt, Rat.den_divInt, if_neg (by omega), Int.gcd_comm b a, Int.sign_eq_one_of_pos hb, Int.one_mul]
 refine ⟨rfl, ?_⟩
 have e : b = (b.natAbs : Int) := by omega
 rw [Int.natCast_ediv, ← e]
theorem low_neg {a b : Int} (hb : b < 0) : (a.fdiv (-((Int.gcd a b : Nat) : Int)) = (Rat.divInt a b).num) ∧ b.fdiv (-((Int.gcd a b : Nat) : Int)) = ((Rat.divInt a b).den : Int) := by
 have h := low_pos (a := -a) (b := -b) (by omega)
 rw [Rat.neg_divInt_neg, Int.neg_gcd, Int.gcd_neg] at h
 rw [← h.1, ← h.2]
 constructor
 ·rw [← Int.neg_fdiv_neg, Int.neg_neg]
 ·rw [← Int.neg_fdiv_neg, Int.neg_neg]
theorem gcd_step (a b : Int) : Int.gcd b (a % b) = Int.gcd a b := by
 have e : a % b = a - b * (a / b) := by have := Int.mul_ediv_add_emod a b; omega
 rw [e, Int.gcd_sub_mul_left_right, Int.gcd_comm]
def closOf (cells : List (Str × Addr)) : List (Str × NameKind) → List (Str × Addr) → List (Str × Addr)
 | [], acc => acc
 | (n, k) :: r, acc => closOf cells r (if k == .free then (n, (cells.lookup n).getD 0) :: acc else acc)
theorem closureFor_eq {scope : Scope} {env : Env} (h : ∀ y ∈ scope.names, y.2 = .free → ∃ c, env.cells.lookup y.1 = some c) : closureFor scope env = pure (closOf env.cells scope.names []) := by
 have key : ∀ (names : List (Str × NameKind)) (acc : List (Str × Addr)), (∀ y ∈ names, y.2 = .free → ∃ c, env.cells.lookup y.1 = some c) →
  (forIn names acc fun x r => match x with
   | (name, kind) => if (kind == NameKind.free) = true then do
    let a ← cellOf env name
    pure (ForInStep.yield ((name, a) :: r))
    else pure (ForInStep.yield r) : Sem (List (Str × Addr))) = pure (closOf env.cells names acc) := by
  intro names
  induction names with
  | nil => intro acc _; rfl
  | cons y r ih =>
    intro acc hy
    obtain ⟨n, k⟩ := y
    rw [List.forIn_cons, closOf]
    have hr := fun z hz => hy z (List.mem_cons_of_mem _ hz)
    cases hk : k == NameKind.free with
    | false =>
      simp only [hk, Bool.false_eq_true, if_false, pure_bind]
      exact ih acc hr
    | true =>
      obtain ⟨c, hc⟩ := hy (n, k) (List.mem_cons_self ..) (by simpa using hk)
      have hc' : cellOf env n = pure c := by unfold cellOf; rw [hc]
      simp only [hk, if_true, hc', pure_bind, hc, Option.getD_some]
      exact ih _ hr
 simp only [closureFor]
 rw [key _ _ h]
 rfl
theorem closOf_lookup {cells : List (Str × Addr)} {x : Str} {c : Addr} : ∀ {names : List (Str × NameKind)} {acc : List (Str × Addr)}, (∀ y ∈ names, y.2 = .free → ∃ c, cells.lookup y.1 = some c) → (∀ c, acc.lookup x = some c → cells.lookup x = some c) →
 (closOf cells names acc).lookup x = some c → cells.lookup x = some c
 | [], acc, _, ha, h => ha c h
 | (n, k) :: r, acc, hn, ha, h => by
   rw [closOf] at h
   refine closOf_lookup (fun z hz => hn z (List.mem_cons_of_mem _ hz)) (fun c' hc' => ?_) h
   cases hk : k == NameKind.free with
   | false => rw [hk] at hc'; simp only [Bool.false_eq_true, if_false] at hc'; exact ha c' hc'
   | true =>
     rw [hk] at hc'
     simp only [if_true] at hc'
     obtain ⟨d, hd⟩ := hn (n, k) (List.mem_cons_self ..) (by simpa using hk)
     rw [List.lookup_cons] at hc'
     cases hx : x == n with
     | true =>
       rw [hx] at hc'
       have e : x = n := by simpa using hx
       subst e
       have hd' : cells.lookup x = some d := hd
       rw [hd'] at hc' ⊢
       exact hc'
     | false => rw [hx] at hc'; exact ha c' hc'
theorem closOf_has {cells : List (Str × Addr)} {x : Str} : ∀ {names : List (Str × NameKind)} {acc : List (Str × Addr)}, ((x, NameKind.free) ∈ names ∨ (acc.lookup x).isSome = true) → ((closOf cells names acc).lookup x).isSome = true
 | [], acc, h => by
   rcases h with h | h
   ·exact absurd h (List.not_mem_nil)
   ·exact h
 | (n, k) :: r, acc, h => by
   rw [closOf]
   refine closOf_has ?_
   have keep : (acc.lookup x).isSome = true → ((if (k == NameKind.free) = true then (n, (cells.lookup n).getD 0) :: acc else acc).lookup x).isSome = true := fun z => by
    split
    ·rw [List.lookup_cons]; split <;> simp [z]
    ·exact z
   rcases h with h | h
   ·rcases List.mem_cons.mp h with e | e
    ·cases e
     refine .inr ?_
     simp
    ·exact .inl e
   ·exact .inr (keep h)
def cxComp (X : Cx) (N : List Str) (scope : Scope) (C : Addr) (ex : List Addr) (s : Shared) (H : Hp) : Cx where
 prog := X.prog
 w := X.w
 K := X.K
 mg := X.mg
 base := X.base
 A := X.A
 N := N
 s₀ := s
 H₀ := H
 env := compEnvC scope (closOf X.env.cells scope.names []) C X.env
 outer := X.stack
 stack := X.stack
 ex := ex
 fn := fun _ => false
 calm := X.calm
 pn := []
 xe := fun _ _ => False
def frσ (σ : L2.St) (fr : List Nat) : L2.St := fr.map fun j => (σ[j]?).getD none
structure CompOk (X : Cx) (N : List Str) (n : Nat) (fr : List Nat) (scope : Scope) : Prop where
 kind : scope.kind = .function
 nd : N.Nodup
 names : (N.drop n) = fr.map (fun j => (X.N[j]?).getD ("" : Str))
 own : n ≤ N.length
 inx : (fr.all fun j => decide (j < X.N.length)) = true
 free : ((N.drop n).all fun x => decide (scope.names.lookup x = some .free)) = true
 nocell : (scope.names.all fun y => decide (y.2 ≠ .cell)) = true
 loc : (scope.names.all fun y => decide (y.2 = .local → scope.names.lookup y.1 = some .local)) = true
 seen : (scope.names.all fun y => decide (y.2 = .free → (X.env.kindOf y.1 = some .cell ∨ X.env.kindOf y.1 = some .free))) = true
theorem relabel_kinds {scope : Scope} {env : Env} {x : Str} {k : NameKind} (h : (relabel scope env).names.lookup x = some k) (hk : k = .cell ∨ k = .free) (hc : (scope.names.all fun y => decide (y.2 ≠ .cell)) = true) : (x, NameKind.free) ∈ scope.names := by
 unfold relabel at h
 dsimp only at h
 have key : ∀ names : List (Str × NameKind), (names.all fun y => decide (y.2 ≠ .cell)) = true →
  (names.map fun (n, k) => if (k == NameKind.free && env.scope.kind == .function && env.kindOf n == some .cell) = true then (n, NameKind.cell) else (n, k)).lookup x = some k → (x, NameKind.free) ∈ names := by
  intro names
  induction names with
  | nil => intro _ h; simp at h
  | cons y r ih =>
    intro ha h
    obtain ⟨n, j⟩ := y
    rw [List.all_cons, Bool.and_eq_true] at ha
    rw [List.map_cons] at h
    have e1 : ∀ (b : Bool) (k1 : NameKind), ((if b = true then (n, NameKind.cell) else (n, k1)) : Str × NameKind) = (n, if b = true then NameKind.cell else k1) := by intro b k1; cases b <;> rfl
    dsimp only at h
    rw [e1, List.lookup_cons] at h
    cases hx : x == n with
    | false => rw [hx] at h; exact List.mem_cons_of_mem _ (ih ha.2 h)
    | true =>
      rw [hx] at h
      have e : x = n := by simpa using hx
      subst e
      have h' := Option.some.inj h
      have hj : j ≠ .cell := by simpa using ha.1
      have : j = .free := by
       cases hb : (j == NameKind.free && env.scope.kind == .function && env.kindOf x == some .cell) with
       | true =>
         rw [Bool.and_eq_true, Bool.and_eq_true] at hb
         simpa using hb.1.1
       | false =>
         rw [hb] at h'
         simp only [Bool.false_eq_true, if_false] at h'
         subst h'
         rcases hk with z | z
         ·exact absurd z hj
         ·exact z
      subst this
      exact List.mem_cons_self ..
 exact key _ hc h
theorem relabel_free {scope : Scope} {env : Env} {x : Str} (h : scope.names.lookup x = some .free) : (relabel scope env).names.lookup x = some .cell ∨ (relabel scope env).names.lookup x = some .free := by
 unfold relabel
 dsimp only
 have key : ∀ names : List (Str × NameKind), names.lookup x = some .free →
  (names.map fun (n, k) => if (k == NameKind.free && env.scope.kind == .function && env.kindOf n == some .cell) = true then (n, NameKind.cell) else (n, k)).lookup x = some .cell ∨ (names.map fun (n, k) => if (k == NameKind.free && env.scope.kind == .function && env.kindOf n == some .cell) = true then (n, NameKind.cell) else (n, k)).lookup x = some .free := by
  intro names
  induction names with
  | nil => intro h; simp at h
  | cons y r ih =>
    intro h
    obtain ⟨n, j⟩ := y
    have e1 : ∀ (b : Bool) (k1 : NameKind), ((if b = true then (n, NameKind.cell) else (n, k1)) : Str × NameKind) = (n, if b = true then NameKind.cell else k1) := by intro b k1; cases b <;> rfl
    rw [List.map_cons]
    dsimp only
    rw [e1, List.lookup_cons]
    rw [List.lookup_cons] at h
    cases hx : x == n with
    | false => rw [hx] at h; exact ih h
    | true =>
      rw [hx] at h
      cases Option.some.inj h
      dsimp only
      split
      ·exact .inl rfl
      ·exact .inr rfl
 exact key _ h
section
variable {X : Cx} {N : List Str} {n : Nat} {fr : List Nat} {scope : Scope} {pins : List (Addr × Obj)} {σ : L2.St} {H : Hp} {s : Shared}
theorem CompOk.cells (O : CompOk X N n fr scope) (I : Inv X pins σ H s) : ∀ y ∈ scope.names, y.2 = .free → ∃ c, X.env.cells.lookup y.1 = some c := fun y hy hf => I.ok.has y.1 (of_decide_eq_true (List.all_eq_true.mp O.seen y hy) hf)
theorem comp_start {fp : List Addr} {h' : Heap} {tk : Nat} {m : Str → Option Value} (O : CompOk X N n fr scope) (I : Inv X pins σ H s) (hf : ∀ b ∈ fp, FpOk X pins H b) (hfl : ∀ b ∈ fp, b < s.heap.objs.size)
 (hns : h'.Ns s.heap.objs.size m) (keep : ∀ b o, s.heap.get? b = some o → h'.get? b = some o) :
 Inv (cxComp X N scope s.heap.objs.size fp s H) [] (List.replicate n none ++ frσ σ fr) H { s with heap := h', toks := tk } := by
 have hcl := O.cells I
 have lk : ∀ x c, (closOf X.env.cells scope.names []).lookup x = some c → X.env.cells.lookup x = some c := fun x c h => closOf_lookup hcl (fun c h => by simp at h) h
 have cne : ∀ x c, (closOf X.env.cells scope.names []).lookup x = some c → ∃ v, s.heap.IsCell c v := fun x c h => I.cell x c (lk x c h)
 have clt : ∀ x c, (closOf X.env.cells scope.names []).lookup x = some c → c < s.heap.objs.size := fun x c h => by
  obtain ⟨v, o, ho, _⟩ := cne x c h
  exact Heap.lt_size ho
 refine ⟨⟨I.mod, O.kind, I.ok.glob, I.ok.blt, Nat.le_refl _, fun x y c h1 h2 => I.ok.inj x y c (lk x c h1) (lk y c h2), fun x hx => ?_, fun x c h => (by cases h), I.ok.hd, I.ok.frames, .inl rfl, fun b hb => ⟨Nat.ne_of_lt (hfl b hb), fun x c h => (hf b hb).2.2.2.2.1 x c (lk x c h)⟩, I.bs, Nat.le_trans I.ok.bsz I.sz, fun b o e hb => ?_, fun b hb z => ?_, I.stack, I.stkFree⟩,
  rfl, I.bare, Un.kept keep, ⟨m, hns, fun i x v h1 h2 h3 => ?_⟩, fun x c h => ?_, I.hok.fresh (Nat.le_refl _), fun x c h => I.freeC x c (lk x c h), fun p hp => absurd hp (by simp [cxComp]), I.hok.kept keep, ?_⟩
 ·have hx' : (x, NameKind.free) ∈ scope.names := by
   rcases hx with hx | hx
   ·exact relabel_kinds hx (.inl rfl) O.nocell
   ·exact relabel_kinds hx (.inr rfl) O.nocell
  exact Option.isSome_iff_exists.mp (closOf_has (.inl hx'))
 ·rcases (hf b hb).2.2.2.1 with z | z
  ·exact I.ok.noex b o e z
  ·exact absurd (Nat.lt_of_lt_of_le (Heap.lt_size (I.ok.bs b o e).1) z) (Nat.lt_irrefl _)
 ·rcases List.mem_cons.mp (I.stkSub b z) with q | q
  ·exact (hf b hb).2.1 q
  ·exact (hf b hb).2.2.1 q
 ·by_cases hi : i < n
  ·rw [List.getElem?_append_left (by simpa using hi), List.getElem?_replicate, if_pos hi] at h2
   cases h2
  ·have h1' : (N.drop n)[i - n]? = some x := by rw [List.getElem?_drop, show n + (i - n) = i by omega]; exact h1
   rw [List.getElem?_append_right (by simpa using hi), List.length_replicate] at h2
   unfold frσ at h2
   rw [List.getElem?_map] at h2
   rw [O.names, List.getElem?_map] at h1'
   cases ej : fr[i - n]? with
   | none => rw [ej] at h2; cases h2
   | some j =>
     rw [ej] at h2 h1'
     have hjl : j < X.N.length := of_decide_eq_true (List.all_eq_true.mp O.inx j (List.mem_of_getElem? ej))
     have hx : X.N[j]? = some x := by
      have e := Option.some.inj h1'
      dsimp only at e
      rw [List.getElem?_eq_getElem hjl] at e ⊢
      exact congrArg some e
     have hv : σ[j]? = some (some v) := by
      have e := Option.some.inj h2
      dsimp only at e
      cases es : σ[j]? with
      | none => rw [es] at e; cases e
      | some o => rw [es] at e; rw [show o = some v from e]
     have hfl' : scope.names.lookup x = some .free := by
      refine of_decide_eq_true (List.all_eq_true.mp O.free x ?_)
      exact List.mem_of_getElem? (i := i - n) (by rw [List.getElem?_drop, show n + (i - n) = i by omega]; exact h1)
     have hfx : (x, NameKind.free) ∈ scope.names := PySem.mem_of_lookup hfl'
     have hkX := of_decide_eq_true (List.all_eq_true.mp O.seen _ hfx) rfl
     obtain ⟨mX, hnX, hlX⟩ := I.loc
     obtain ⟨u, ru, lu⟩ := hlX j x v hx hv (hkX.elim (fun z => .inr (.inl z)) fun z => .inr (.inr z))
     refine ⟨u, ru, .inr ⟨?_, ?_⟩⟩
     ·exact relabel_free hfl'
     ·obtain ⟨c, hc⟩ := Option.isSome_iff_exists.mp (closOf_has (cells := X.env.cells) (acc := []) (.inl hfx))
      refine ⟨c, hc, ?_⟩
      rcases lu with ⟨k, _⟩ | ⟨_, c', hc', z⟩
      ·rcases hkX with q | q
       ·rw [show X.env.kindOf x = _ from k] at q; cases q
       ·rw [show X.env.kindOf x = _ from k] at q; cases q
      ·have := lk x c hc
       rw [hc'] at this
       cases this
       obtain ⟨o, ho, hd⟩ := z
       exact ⟨o, keep _ _ ho, hd⟩
 ·obtain ⟨v, o, ho, hd⟩ := cne x c h
  exact ⟨v, o, keep _ _ ho, hd⟩
 ·rw [List.length_append, List.length_replicate]
  unfold frσ
  have e := congrArg List.length O.names
  rw [List.length_drop, List.length_map] at e
  have := O.own
  show _ = N.length
  rw [List.length_map]
  omega
end
def PIf (Y : Cx) (ifs : List Expr) (tt : TT) : Prop :=
 ∀ (pins : List (Addr × Obj)) (s : Shared) (σ : L2.St) (H : Hp) (Q : Bool → Hp → Prop), Inv Y pins σ H s → tt σ H Q →
   wpAny (model Y.prog Y.w) Y.A (forIn ifs true fun c r => if r = true then do let ok ← isTrue c Y.env (eval c Y.env); pure (ForInStep.yield ok) else pure (ForInStep.yield r)) (TP Y pins σ Q) Y.xe s
def tTrue : TT := fun _ H Q => Q true H
theorem pif_nil {Y : Cx} : PIf Y [] tTrue := fun pins s σ H Q I h => wpAny_tests_nil ⟨H, I, h⟩
theorem pif_one {Y : Cx} {c : Expr} {tt : TT} (h : PT Y c tt) : PIf Y [c] tt := fun pins s σ H Q I q => wpAny_tests_one (h pins s σ H Q I q)
abbrev Blk (α : Type) := Addr → List Addr → Shared → Hp → α
def tComp (n : Nat) (fr : List Nat) (wi : TI) (g : Blk TG) (tt : Blk TT) (te : Blk TE) : TE := fun σ H Q => wi σ H fun J H1 => ∀ D, H1 D = none → ∀ C ex s0 H0,
 ∃ W : Nat → Nat → List V → Hp → Prop, (∃ m, W 0 m [] (upd H1 D (.lst []))) ∧ ∀ i m ys H2, W i m ys H2 → H2 D = some (.lst ys) ∧
   ((J.stop i H2 ∧ Q (.ref D) H2) ∨ (J.go i H2 ∧ ∀ x H3, J.yld i H2 x H3 → g C ex s0 H0 x (List.replicate n none ++ frσ σ fr) H3 fun σ4 H4 => σ4.drop n = frσ σ fr ∧ tt C ex s0 H0 σ4 H4 fun b H5 =>
     if b = true then te C ex s0 H0 σ4 H5 fun y H6 => H6 D = some (.lst ys) ∧ ys.length < sizeLine ∧ ∃ m', m' < m ∧ W (i + 1) m' (ys ++ [y]) (upd H6 D (.lst (ys ++ [y])))
     else ∃ m', m' < m ∧ W (i + 1) m' ys H5))
structure Side (X : Cx) (pins : List (Addr × Obj)) (H : Hp) (C : Addr) : Prop where
 nt : H C = none
 nl : C ≠ X.env.locals
 ab : X.s₀.heap.objs.size ≤ C
 nc : ∀ x c, X.env.cells.lookup x = some c → c ≠ C
 np : ∀ p ∈ X.pn ++ pins, p.1 ≠ C
section
variable {X : Cx} {N : List Str} {n : Nat} {fr : List Nat} {scope : Scope}
theorem wpAny_noE {α : Type} {M : Model} {A : Around} {m : Sem α} {Q : α → Shared → Prop} {E : Value → Shared → Prop} {s : Shared} (h : wpAny M A m Q (fun _ _ => False) s) : wpAny M A m Q E s := wpAny_mono h (fun _ _ q => q) fun _ _ z => z.elim
theorem comp_run {tg iter elt : Expr} {ifs : List Expr} {pos : Pos} {g : Blk TG} {tt : Blk TT} {te : Blk TE} {pins : List (Addr × Obj)} {σ : L2.St} {H2 : Hp} {s2 : Shared} {it : Addr} {fp : List Addr} {tn : Nat → Heap → Prop} {J : It} {Q : VK}
 {RR : Value → Addr → Result → Shared → Prop} {E : Value → Shared → Prop}
 (hc : X.calm = true) (O : CompOk X N n fr scope)
 (hg : ∀ C ex s H, PG (cxComp X N scope C ex s H) tg (g C ex s H)) (ht : ∀ C ex s H, PIf (cxComp X N scope C ex s H) ifs (tt C ex s H)) (he : ∀ C ex s H, PE (cxComp X N scope C ex s H) elt (te C ex s H))
 (I2 : Inv X pins σ H2 s2) (T : Turn X.prog X.w X.K tg J fp it tn) (st2 : tn 0 s2.heap) (f2 : ∀ b ∈ fp, FpOk X pins H2 b)
 (hW : ∀ D, H2 D = none → ∀ C ex s0 H0, ∃ W : Nat → Nat → List V → Hp → Prop, (∃ m, W 0 m [] (upd H2 D (.lst []))) ∧ ∀ i m ys H2, W i m ys H2 → H2 D = some (.lst ys) ∧
  ((J.stop i H2 ∧ Q (.ref D) H2) ∨ (J.go i H2 ∧ ∀ x H3, J.yld i H2 x H3 → g C ex s0 H0 x (List.replicate n none ++ frσ σ fr) H3 fun σ4 H4 => σ4.drop n = frσ σ fr ∧ tt C ex s0 H0 σ4 H4 fun b H5 =>
    if b = true then te C ex s0 H0 σ4 H5 fun y H6 => H6 D = some (.lst ys) ∧ ys.length < sizeLine ∧ ∃ m', m' < m ∧ W (i + 1) m' (ys ++ [y]) (upd H6 D (.lst (ys ++ [y])))
    else ∃ m', m' < m ∧ W (i + 1) m' ys H5)))
 (hR : ∀ (D C : Addr) (H' : Hp) (s' : Shared), Q (.ref D) H' → (∃ m, s'.heap.Ns C m) → Side X pins H' C → Inv X pins σ H' s' → RR (.ref D) C (.ok .next) s') :
 wpAny (model X.prog X.w) X.A (newList []) (fun acc s₃ => wpAny (model X.prog X.w) X.A (newFunctionEnv scope X.env.globals (closOf X.env.cells scope.names []) [] X.env.qual none .none (some X.env)) (fun cenv s₄ =>
  codeAny (model X.prog X.w) X.A (.compStart (.ListComp elt [⟨tg, iter, ifs, 0⟩] scope pos) 0 (.ref it) acc { cenv with scope := relabel scope X.env }) (RR acc cenv.locals) s₄) E s₃) E s2 := by
 have nocell : ∀ y ∈ scope.names, y.2 ≠ .cell := fun y hy => of_decide_eq_true (List.all_eq_true.mp O.nocell y hy)
 refine wpAny_newObj_type (wpAny_newFunctionEnv nocell (by intro y hy; simp at hy) (fun h₁ hns₁ hsb₁ => ?_) O.kind)
 have hDn : H2 s2.heap.objs.size = none := I2.fresh
 have I3 : Inv X pins σ (upd H2 s2.heap.objs.size (.lst [])) { s2 with heap := s2.heap.push { cls := .type "list", data := .seq ([] : List Value).toArray }, toks := s2.toks } := I2.lnew (its := []) .nil (Nat.zero_le _)
 generalize hD : s2.heap.objs.size = D at *
 dsimp only at hns₁ hsb₁ ⊢
 generalize hs3 : s2.heap.push { cls := .type "list", dict := none, data := .seq ([] : List Value).toArray } = hp3 at *
 have k23 : ∀ b o, s2.heap.get? b = some o → hp3.get? b = some o := fun b o e => by rw [← hs3]; exact Heap.get?_push_of_some _ e
 have sz3 : hp3.objs.size = D + 1 := by rw [← hs3, Heap.size_push, hD]
 have keep : ∀ b o, hp3.get? b = some o → h₁.get? b = some o := fun b o e => hsb₁.extBut b o (Nat.ne_of_lt (Heap.lt_size e)) (Heap.get?_push_of_some _ e)
 have flt : ∀ b ∈ fp, b < D := fun b hb => by
  obtain ⟨o, ho, _⟩ := T.obj _ _ st2 b hb
  rw [← hD]
  exact Heap.lt_size ho
 have f3 : ∀ b ∈ fp, FpOk X pins (upd H2 D (.lst [])) b := fun b hb => ⟨by rw [upd_ne (Nat.ne_of_lt (flt b hb))]; exact (f2 b hb).1, (f2 b hb).2⟩
 have IY := comp_start (tk := s2.toks + ([] : List (Str × Value)).length) O I3 f3 (fun b hb => by show b < hp3.objs.size; rw [sz3]; exact Nat.lt_succ_of_lt (flt b hb)) hns₁ keep
 obtain ⟨W, ⟨m0, w0⟩, turn⟩ := hW _ hDn hp3.objs.size fp { s2 with heap := hp3, toks := s2.toks } (upd H2 D (.lst []))
 have st4 : tn 0 h₁ := T.keep _ _ _ st2 fun b hb o e => keep b o (k23 b o e)
 generalize hY : cxComp X N scope hp3.objs.size fp { s2 with heap := hp3, toks := s2.toks } (upd H2 D (.lst [])) = Y at *
 have eEnv : Y.env = compEnvC scope (closOf X.env.cells scope.names []) hp3.objs.size X.env := by rw [← hY]; rfl
 have hgY := hg hp3.objs.size fp { s2 with heap := hp3, toks := s2.toks } (upd H2 D (.lst []))
 have htY := ht hp3.objs.size fp { s2 with heap := hp3, toks := s2.toks } (upd H2 D (.lst []))
 have heY := he hp3.objs.size fp { s2 with heap := hp3, toks := s2.toks } (upd H2 D (.lst []))
 rw [hY] at hgY htY heY
 have eP : Y.prog = X.prog := by rw [← hY]; rfl
 have eW : Y.w = X.w := by rw [← hY]; rfl
 have eK : Y.K = X.K := by rw [← hY]; rfl
 have eA : Y.A = X.A := by rw [← hY]; rfl
 have eC : Y.calm = true := by rw [← hY]; exact hc
 have eX : Y.xe = fun _ _ => False := by rw [← hY]; rfl
 have fY : ∀ {H' : Hp}, (∀ b ∈ fp, H' b = none) → ∀ b ∈ fp, FpOk Y [] H' b := fun {H'} hn b hb => by
  have h1 := IY.ok.exf b (by rw [← hY]; exact hb)
  refine ⟨hn b hb, h1.1, IY.ok.exfs b (by rw [← hY]; exact hb), .inl (by rw [← hY]; exact hb), h1.2, fun p hp => absurd hp (by rw [← hY]; simp [cxComp])⟩
 have loop : codeAny (model X.prog X.w) X.A (.compLoop (.ListComp elt [⟨tg, iter, ifs, 0⟩] scope pos) 0 (.ref it) (.ref D) (compEnvC scope (closOf X.env.cells scope.names []) hp3.objs.size X.env))
  (RR (.ref D) hp3.objs.size) { s2 with heap := h₁, toks := s2.toks + ([] : List (Str × Value)).length } := by
  refine codeAny_loop rfl (fun k s' => ∃ i ys H', Inv Y [] (List.replicate n none ++ frσ σ fr) H' s' ∧ tn i s'.heap ∧ (∀ b ∈ fp, H' b = none) ∧ W i k ys H') (fun k s5 hI => ?_) m0 ⟨0, [], _, IY, st4, fun b hb => (f3 b hb).1, w0⟩
  obtain ⟨i, ys, H5, I5, st5, fr5, w5⟩ := hI
  show wpAny _ X.A ((compTurn (.ListComp elt [⟨tg, iter, ifs, 0⟩] scope pos) 0 (.ref it) (.ref D) _).onRaise (fun x => do noteFrame x _; theTreesLotGoes x)) _ _ s5
  refine wpAny_noted ?_
  rw [compTurn_list, ← eEnv]
  refine wpAny_bind (wpAny_standAt (wpAny_bind ?_))
  obtain ⟨hDl, step⟩ := turn i k ys H5 w5
  rcases step with ⟨stop, qn⟩ | ⟨go, step⟩
  ·have d := T.done Y eP eW eK eC i [] s5 _ H5 (fun _ _ => False) I5 (fY fr5) st5 stop
   rw [eA] at d
   refine wpAny_noE (thn d fun r s6 ⟨hr, I6⟩ => ?_)
   subst hr
   refine wpAny_pure ?_
   have hC : H5 hp3.objs.size = none := by have := I6.free; rw [eEnv] at this; exact this
   have hns6 : ∃ m, s6.heap.Ns hp3.objs.size m := by
    have := I6.loc
    rw [eEnv] at this
    obtain ⟨m, hm, _⟩ := this
    exact ⟨m, hm⟩
   have sd : Side X pins H5 hp3.objs.size := ⟨hC, Nat.ne_of_gt I3.lt, I3.sz, fun x c e => Nat.ne_of_lt (let ⟨v, o, ho, _⟩ := I3.cell x c e; Heap.lt_size ho), fun p hp => Nat.ne_of_lt (Heap.lt_size (I3.pin p hp).1)⟩
   refine hR D hp3.objs.size H5 s6 qn hns6 sd ?_
   have un := I6.base
   have e0 : Y.s₀.heap = hp3 := by rw [← hY]; rfl
   have eH0 : Y.H₀ = upd H2 D (.lst []) := by rw [← hY]; rfl
   have eF : Y.fs = frs X.stack := by rw [← hY]; rfl
   have eEx : Y.ex = fp := by rw [← hY]; rfl
   rw [e0, eH0, eF, eEx] at un
   have hok' : HOk X.prog X.w H5 s6.heap := by have := I6.hok; rw [eP, eW] at this; exact this
   have os6 : s6.os = s2.os := I6.os.trans (by rw [← hY]; rfl)
   exact I3.call' (s' := s6) (ch := fp) os6 un hok' I6.bare fun b hb => ⟨(f2 b hb).2.2.2.1, (f2 b hb).2.1, (f2 b hb).2.2.2.2.1, (f2 b hb).2.2.2.2.2⟩
  ·have d := T.item Y eP eW eK eC i [] s5 _ H5 (fun _ _ => False) I5 (fY fr5) st5 go
   rw [eA] at d
   refine wpAny_noE (thn d fun r s6 ⟨u, hr, h6⟩ => ?_)
   subst hr
   refine wpAny_bind (wpAny_noE (thn h6 fun _ s7 ⟨x, H7, I7, r7, y7, st7, fr7⟩ => ?_))
   have I7' := I7.pinned (fY fr7) (T.obj _ _ st7)
   have g7 := hgY _ s7 _ H7 x u _ I7' r7 (step x H7 y7)
   rw [eA, eP, eW, eX] at g7
   refine wpAny_bind (wpAny_noE (thn g7 fun _ s8 ⟨σ8, H8, I8, ed, q8⟩ => ?_))
   have t8 := htY _ s8 σ8 H8 _ I8 q8
   rw [eA, eP, eW, eX] at t8
   refine wpAny_bind (wpAny_noE (thn t8 fun b s9 ⟨H9, I9, q9⟩ => ?_))
   have back : ∀ {s' : Shared} {H' : Hp} {ys' : List V} {m' : Nat}, Inv Y ([] ++ pinsAt fp s7.heap) σ8 H' s' → m' < k → W (i + 1) m' ys' H' → ∃ m, m < k ∧ ∃ i ys H', Inv Y [] (List.replicate n none ++ frσ σ fr) H' s' ∧ tn i s'.heap ∧ (∀ b ∈ fp, H' b = none) ∧ W i m ys H' := fun {s' H' ys' m'} I' hm w' => by
    refine ⟨m', hm, i + 1, ys', H', ?_, T.keep _ _ _ st7 fun b hb o e => (I'.pin (b, o) (List.mem_append_right _ (List.mem_append_right _ (mem_pinsAt hb e)))).1, fun b hb => ?_, w'⟩
    ·refine (Inv.unpinned I').weak ?_ fun j v hj => ?_
     ·exact IY.len.trans I'.len.symm
     ·by_cases hjn : j < n
      ·rw [List.getElem?_append_left (by simpa using hjn), List.getElem?_replicate, if_pos hjn] at hj
       cases hj
      ·rw [List.getElem?_append_right (by simpa using hjn), List.length_replicate, ← ed, List.getElem?_drop, show n + (j - n) = j by omega] at hj
       exact hj
    ·obtain ⟨o, e, d⟩ := T.obj _ _ st7 b hb
     exact (I'.pin (b, o) (List.mem_append_right _ (List.mem_append_right _ (mem_pinsAt hb e)))).2.1
   cases b with
   | false =>
     obtain ⟨m', hm, w9⟩ := q9
     exact wpAny_pure ⟨rfl, back I9 hm w9⟩
   | true =>
     have e9 := heY _ s9 σ8 H9 _ I9 q9
     rw [eA, eP, eW, eX] at e9
     refine wpAny_bind (wpAny_bind (wpAny_noE (thn e9 fun v s10 ⟨y, H10, I10, r10, hD10, hz, m', hm, w10⟩ => ?_)))
     have a10 := mt_append _ s10 σ8 H10 (.ref D) [y] (.ref D) [v] (fun _ H' => H' = upd H10 D (.lst (ys ++ [y]))) I10 rfl (.cons r10 .nil) ⟨D, ys, y, rfl, rfl, hD10, hz, rfl⟩
     rw [eA, eP, eW, eX] at a10
     refine wpAny_bind (wpAny_noE (thn a10 fun _ s11 ⟨_, H11, I11, _, e11⟩ => ?_))
     subst e11
     exact wpAny_pure (wpAny_pure ⟨rfl, back I11 hm w10⟩)
 exact codeAny_compStart_list loop (T.self _ _ _ _ _ st4 loop)
theorem pe_comp {tg iter elt : Expr} {ifs : List Expr} {pos : Pos} {wi : TI} {g : Blk TG} {tt : Blk TT} {te : Blk TE}
 (hc : X.calm = true) (O : CompOk X N n fr scope) (hi : PI X tg iter wi)
 (hg : ∀ C ex s H, PG (cxComp X N scope C ex s H) tg (g C ex s H)) (ht : ∀ C ex s H, PIf (cxComp X N scope C ex s H) ifs (tt C ex s H)) (he : ∀ C ex s H, PE (cxComp X N scope C ex s H) elt (te C ex s H))
 (hs : ∀ x, foldedSetIterable iter X.env x = pure x := by intro _; rfl) :
 PE X (.ListComp elt [⟨tg, iter, ifs, 0⟩] scope pos) (tComp n fr wi g tt te) := by
 intro pins s σ H Q I h
 rw [eval_ListComp]
 refine wpAny_comprehension_free (use := none) rfl hs (closureFor_eq (O.cells I)) O.kind (fun y hy => of_decide_eq_true (List.all_eq_true.mp O.loc y hy)) (thn (hi pins s σ H _ I h) fun v s1 h1 => thn h1 fun itv s2 h2 => ?_)
 obtain ⟨it, fp, tn, J, H2, e, I2, T, st2, f2, hW⟩ := h2
 subst e
 refine comp_run (RR := fun acc C => compPost (model X.prog X.w) X.A X.xe none (EP X pins σ Q) acc C) hc O hg ht he I2 T st2 f2 hW ?_
 intro D C H' s' q ⟨m, hm⟩ sd inv
 exact ⟨m, hm, fun h' hs' => ⟨.ref D, H', inv.turned (t' := s'.toks) (it := C) (fun b o hb e => hs'.extBut b o hb e) sd.nt sd.nl (.inr sd.ab) sd.nc sd.np, rfl, q⟩⟩
theorem ps_setComp {i : Nat} {x : Str} {px : Pos} {tg iter elt : Expr} {ifs : List Expr} {pos spos : Pos} {wi : TI} {g : Blk TG} {tt : Blk TT} {te : Blk TE}
 (hN : X.N.Nodup) (hx : X.N[i]? = some x) (hk : X.env.scope.names.lookup x = some .local)
 (hc : X.calm = true) (O : CompOk X N n fr scope) (hi : PI X tg iter wi)
 (hg : ∀ C ex s H, PG (cxComp X N scope C ex s H) tg (g C ex s H)) (ht : ∀ C ex s H, PIf (cxComp X N scope C ex s H) ifs (tt C ex s H)) (he : ∀ C ex s H, PE (cxComp X N scope C ex s H) elt (te C ex s H))
 (hsw : swapsWith (.ListComp elt [⟨tg, iter, ifs, 0⟩] scope pos) (some (.Name x px)) spos.line X.env = pure true := by rfl)
 (hs : ∀ x, foldedSetIterable iter X.env x = pure x := by intro _; rfl) :
 PS X (.Assign [.Name x px] (.ListComp elt [⟨tg, iter, ifs, 0⟩] scope pos) spos) (tAsg (tComp n fr wi g tt te) (gName i)) := by
 intro pins s σ H D I h
 rw [exec_Assign_Name_used _ _ _ _ hsw]
 refine wpAny_bind (wpAny_standAt (wpAny_bind ?_))
 show wpAny _ X.A (do let _ ← comprehension (.ListComp elt [⟨tg, iter, ifs, 0⟩] scope pos) scope X.env _ (newList []) false (eval iter X.env) (some (assign (.Name x px) X.env))) _ _ s
 refine wpAny_bind (wpAny_mono (wpAny_comprehension_free (use := some (assign (.Name x px) X.env)) (Q := fun _ s' => SP X pins D .next s') rfl hs (closureFor_eq (O.cells I)) O.kind (fun y hy => of_decide_eq_true (List.all_eq_true.mp O.loc y hy))
  (thn (hi pins s σ H _ I h) fun v s1 h1 => thn h1 fun itv s2 h2 => ?_)) (fun _ s' hq => wpAny_pure (wpAny_pure hq)) fun _ _ e => e)
 obtain ⟨it, fp, tn, J, H2, e, I2, T, st2, f2, hW⟩ := h2
 subst e
 refine comp_run (Q := fun x H1 => gName i x σ H1 D.nx) (RR := fun acc C => compPost (model X.prog X.w) X.A X.xe (some (assign (.Name x px) X.env)) (fun _ s' => SP X pins D .next s') acc C) hc O hg ht he I2 T st2 f2 hW ?_
 intro Dl C H' s' q ⟨m, hm⟩ sd inv
 show wpAny _ X.A (assign (.Name x px) X.env (.ref Dl)) _ _ _
 refine wpAny_assign_Name (store_ok2 (i := i) (v := .ref Dl) inv hN hx (.inl hk) rfl (fun s6 I6 ⟨a, hsb, ha⟩ => ?_) (.inr hk))
 have hCa : C ≠ a := by
  rcases ha with z | z
  ·rw [z]; exact sd.nl
  ·exact fun e => sd.nc x a z e.symm
 refine ⟨m, hm.sameBut hsb hCa, fun h' hs' => ?_⟩
 refine ⟨_, H', I6.turned (t' := s6.toks) (it := C) (fun b o hb e => hs'.extBut b o hb e) sd.nt sd.nl (.inr sd.ab) sd.nc sd.np, q⟩
end
open PySem.AutoSeq1 (wpAny_loadPart')
def SqB (b : Bool) (K : PySem.W.Frag) (H : Hp) (a : Addr) (xs : List V) : Prop := match b with | true => SqL K H a xs | false => SqT K H a xs
section
variable {X : Cx} {pins : List (Addr × Obj)} {σ : L2.St} {H : Hp} {s : Shared} {a : Addr} {xs ys : List V} {b : Bool}
end
section
variable {prog : Program} {w : World} {A : Around} {E : Value → Shared → Prop} {s : Shared}
end
section
variable {X : Cx}
end
section
variable {prog : Program} {w : World} {A : Around} {E : Value → Shared → Prop} {s : Shared}
open PySem
end
section
variable {X : Cx}
end
end S
namespace S
open PySem PySem.Spec PyProof.Rows L2
abbrev Corner := Rat × List Rat
section
variable {H H' : Hp} {qs : List Rat} {c : Corner} {cs : List Corner} {v : V} {vs : List V} {l : Addr} {xs : List V} {o : HO}
end
theorem isAll_of {H : Hp} {α : Type} {R : α → V → Prop} {f : α → PyData} (hR : ∀ a v, R a v → Is H (f a) v) : ∀ {xs : List α} {vs : List V}, xs.length = vs.length → (∀ (i : Nat) (x : α) (v : V), xs[i]? = some x → vs[i]? = some v → R x v) → IsAll H (xs.map f) vs
 | [], [], _, _ => by rw [List.map_nil, IsAll]
 | [], _ :: _, h, _ => by simp at h
 | _ :: _, [], h, _ => by simp at h
 | x :: xs, v :: vs, hl, h => by
   rw [List.map_cons, IsAll]
   exact ⟨v, vs, rfl, hR x v (h 0 x v rfl rfl), isAll_of hR (by simpa using hl) fun i a b ha hb => h (i + 1) a b (by simpa using ha) (by simpa using hb)⟩
theorem lay_all {α : Type} {f : α → PyData} (h : ∀ a, (f a).canLay0 = true) : ∀ xs : List α, PyData.canLayAll0 (xs.map f) = true
 | [] => rfl
 | x :: xs => by rw [List.map_cons, PyData.canLayAll0, h x, lay_all h xs]; rfl
theorem dep_all {α : Type} {f : α → PyData} {n : Nat} (h : ∀ a, (f a).depth ≤ n) : ∀ xs : List α, PyData.depthAll (xs.map f) ≤ n
 | [] => by rw [List.map_nil, PyData.depthAll]; exact Nat.zero_le _
 | x :: xs => by rw [List.map_cons, PyData.depthAll]; exact Nat.max_le.mpr ⟨h x, dep_all h xs⟩
theorem lay_fr (q : Rat) : (frD q).canLay0 = true := by unfold frD; simp [PyData.canLay0, PyData.canLayAll0]
theorem dep_fr (q : Rat) : (frD q).depth ≤ 2 := by unfold frD; simp [PyData.depth, PyData.depthAll]
def straight (c0 c1 c2 : Corner) : Prop := ∀ (i : Nat) (a b c : Rat), c0.2[i]? = some a → c1.2[i]? = some b → c2.2[i]? = some c → (b - a) * (c2.1 - c0.1) = (c - a) * (c1.1 - c0.1)
abbrev Cells := List (Addr × List PyData)
abbrev Dat := List (PyData × V)
def AllIs (G : Hp) (ds : Dat) : Prop := ∀ p ∈ ds, Is G p.1 p.2
def Has (ds : Dat) (x : PyData) (v : V) : Prop := ∀ G, AllIs G ds → Is G x v
def HasAll (ds : Dat) (xs : List PyData) (vs : List V) : Prop := ∀ G, AllIs G ds → IsAll G xs vs
def StaG (B G0 H : Hp) (cs : Cells) (ds : Dat) (G : Hp) : Prop :=
 Same G0 G ∧ Same G H ∧ Same B H ∧ (∀ p, B p ≠ none → G p = G0 p) ∧ (∀ c ∈ cs, B c.1 = none ∧ G c.1 = none ∧ ∃ vs, H c.1 = some (.lst vs) ∧ IsAll G c.2 vs) ∧ (cs.map (·.1)).Nodup ∧ AllIs G ds
def Sta (B G0 H : Hp) (cs : Cells) (ds : Dat) : Prop := ∃ G, StaG B G0 H cs ds G
structure Grow (G H G' H' : Hp) : Prop where
 h : Same H H'
 g : Same G G'
 sub : Same G' H'
 old : ∀ p, H p ≠ none → G' p = G p
theorem AllIs.mono {G G' : Hp} {ds : Dat} (h : AllIs G ds) (e : Same G G') : AllIs G' ds := fun p hp => Is.mono e _ _ (h p hp)
theorem AllIs.cons {G : Hp} {ds : Dat} {x : PyData} {v : V} (h : AllIs G ds) (g : Is G x v) : AllIs G ((x, v) :: ds) := fun p hp => by
 rcases List.mem_cons.mp hp with rfl | hp
 ·exact g
 ·exact h p hp
theorem Has.int {ds : Dat} {i : Int} : Has ds (.int i) (.int i) := fun _ _ => by rw [Is]
theorem Has.bl {ds : Dat} {i : Bool} : Has ds (.bool i) (.bl i) := fun _ _ => by rw [Is]
theorem Has.non {ds : Dat} : Has ds .none .non := fun _ _ => by rw [Is]
theorem Has.str {ds : Dat} {i : Str} : Has ds (.str i) (.str i) := fun _ _ => by rw [Is]
theorem Has.mem {ds : Dat} {x : PyData} {v : V} (h : (x, v) ∈ ds) : Has ds x v := fun _ a => a _ h
theorem HasAll.nil {ds : Dat} : HasAll ds [] [] := fun _ _ => by rw [IsAll]
theorem HasAll.cons {ds : Dat} {x : PyData} {v : V} {xs : List PyData} {vs : List V} (h : Has ds x v) (g : HasAll ds xs vs) : HasAll ds (x :: xs) (v :: vs) := fun G a => by
 rw [IsAll]; exact ⟨v, vs, rfl, h G a, g G a⟩
theorem IsAll.len {H : Hp} : ∀ {xs : List PyData} {vs : List V}, IsAll H xs vs → xs.length = vs.length
 | [], vs, h => by rw [IsAll] at h; subst h; rfl
 | x :: xs, vs, h => by
   rw [IsAll] at h
   obtain ⟨v, r, rfl, _, g⟩ := h
   rw [List.length_cons, List.length_cons, IsAll.len g]
theorem IsAll.at {H : Hp} : ∀ {xs : List PyData} {vs : List V} {i : Nat} {x : PyData}, IsAll H xs vs → xs[i]? = some x → ∃ v, vs[i]? = some v ∧ Is H x v
 | [], _, _, _, _, e => by simp at e
 | y :: xs, vs, i, x, h, e => by
   rw [IsAll] at h
   obtain ⟨v, r, rfl, h1, g⟩ := h
   cases i with
   | zero => simp at e; subst e; exact ⟨v, rfl, h1⟩
   | succ i => simpa using IsAll.at g (by simpa using e)
theorem IsAll.app {H : Hp} : ∀ {xs ys : List PyData} {vs ws : List V}, IsAll H xs vs → IsAll H ys ws → IsAll H (xs ++ ys) (vs ++ ws)
 | [], ys, vs, ws, h, g => by rw [IsAll] at h; subst h; exact g
 | x :: xs, ys, vs, ws, h, g => by
   rw [IsAll] at h
   obtain ⟨v, r, rfl, h1, h2⟩ := h
   rw [List.cons_append, List.cons_append, IsAll]
   exact ⟨v, _, rfl, h1, IsAll.app h2 g⟩
theorem isAll_iff {H : Hp} {xs : List PyData} {vs : List V} : IsAll H xs vs ↔ xs.length = vs.length ∧ ∀ (i : Nat) (x : PyData) (v : V), xs[i]? = some x → vs[i]? = some v → Is H x v := by
 constructor
 ·intro h
  refine ⟨h.len, fun i x v hx hv => ?_⟩
  obtain ⟨w, hw, g⟩ := h.at hx
  rw [hv] at hw; cases hw; exact g
 ·rintro ⟨h1, h2⟩
  have := isAll_of (R := fun (a : PyData) v => Is H a v) (f := id) (fun _ _ z => z) h1 h2
  simpa using this
theorem IsAll.take {H : Hp} {xs : List PyData} {vs : List V} (h : IsAll H xs vs) (n : Nat) : IsAll H (xs.take n) (vs.take n) := by
 rw [isAll_iff] at h ⊢
 refine ⟨by rw [List.length_take, List.length_take, h.1], fun i x v hx hv => ?_⟩
 rw [List.getElem?_take] at hx hv
 split at hx
 ·rename_i c; rw [if_pos c] at hv; exact h.2 i x v hx hv
 ·cases hx
theorem IsAll.drop {H : Hp} {xs : List PyData} {vs : List V} (h : IsAll H xs vs) (n : Nat) : IsAll H (xs.drop n) (vs.drop n) := by
 rw [isAll_iff] at h ⊢
 refine ⟨by rw [List.length_drop, List.length_drop, h.1], fun i x v hx hv => ?_⟩
 rw [List.getElem?_drop] at hx hv
 exact h.2 _ x v hx hv
theorem IsAll.set {H : Hp} {xs : List PyData} {vs : List V} {x : PyData} {v : V} (h : IsAll H xs vs) (g : Is H x v) (n : Nat) : IsAll H (xs.set n x) (vs.set n v) := by
 rw [isAll_iff] at h ⊢
 refine ⟨by rw [List.length_set, List.length_set, h.1], fun i y w hx hv => ?_⟩
 rw [List.getElem?_set] at hx hv
 rw [← h.1] at hv
 split at hx
 ·rename_i c
  rw [if_pos c] at hv
  split at hx
  ·rename_i c2; rw [if_pos c2] at hv; cases hx; cases hv; exact g
  ·cases hx
 ·rename_i c
  rw [if_neg c] at hv
  exact h.2 i y w hx hv
section
variable {B G0 H H' : Hp} {cs cs' : Cells} {ds ds' : Dat} {x y : PyData} {v w : V} {xs ys : List PyData} {vs : List V} {D : Addr} {p : Addr}
theorem Sta.enter {G : Hp} (e : Same G H) (h : AllIs G ds) : Sta H G H [] ds :=
 ⟨G, Same.refl _, e, Same.refl _, fun _ _ => rfl, fun c hc => absurd hc (List.not_mem_nil), List.nodup_nil, h⟩
theorem Sta.base (S : Sta B G0 H cs ds) : Same B H := let ⟨_, _, _, b, _⟩ := S; b
theorem Sta.push (S : Sta B G0 H cs ds) (h : Has ds x v) : Sta B G0 H cs ((x, v) :: ds) :=
 let ⟨G, a, b, c, d, e, f, g⟩ := S; ⟨G, a, b, c, d, e, f, g.cons (h G g)⟩
theorem Sta.weak (S : Sta B G0 H cs ds) (hc : cs'.Sublist cs) (hd : ∀ p ∈ ds', Has ds p.1 p.2) : Sta B G0 H cs' ds' :=
 let ⟨G, a, b, c, d, e, f, g⟩ := S; ⟨G, a, b, c, d, fun q hq => e q (hc.subset hq), f.sublist (hc.map _), fun p hp => hd p hp G g⟩
theorem Sta.dat (S : Sta B G0 H cs ds) (hd : ∀ p ∈ ds', Has ds p.1 p.2) : Sta B G0 H cs ds' := S.weak (List.Sublist.refl _) hd
theorem Sta.drop1 {q : PyData × V} (S : Sta B G0 H cs (q :: ds)) : Sta B G0 H cs ds := S.dat fun p hp => .mem (List.mem_cons_of_mem _ hp)
theorem Sta.same (S : Sta B G0 H cs ds) (h : Same H H') : Sta B G0 H' cs ds :=
 let ⟨G, a, b, c, d, e, f, g⟩ := S; ⟨G, a, b.trans h, c.trans h, d, fun q hq => let ⟨x, y, vs, z, u⟩ := e q hq; ⟨x, y, vs, h _ _ z, u⟩, f, g⟩
theorem StaG.grow {G G' : Hp} (S : StaG B G0 H cs ds G) (h : Grow G H G' H') : StaG B G0 H' cs ds G' := by
 obtain ⟨a, b, c, d, e, f, g⟩ := S
 refine ⟨a.trans h.g, h.sub, c.trans h.h, fun p hp => ?_, fun q hq => ?_, f, g.mono h.g⟩
 ·rw [h.old p fun z => ?_, d p hp]
  cases hb : B p with
  | none => exact hp hb
  | some o => rw [c _ _ hb] at z; cases z
 ·obtain ⟨x, y, vs, z, u⟩ := e q hq
  exact ⟨x, by rw [h.old q.1 (by rw [z]; simp)]; exact y, vs, h.h _ _ z, IsAll.mono h.g _ _ u⟩
theorem Sta.leave {G : Hp} (S : Sta H G H' cs ds) : ∃ G', Grow G H G' H' ∧ AllIs G' ds :=
 let ⟨G', a, b, c, d, _, _, g⟩ := S; ⟨G', ⟨c, a, b, d⟩, g⟩
theorem Sta.newT (S : Sta B G0 H cs ds) (hp : H p = none) (h : HasAll ds xs vs) : Sta B G0 (upd H p (.tup vs)) cs ((.tuple xs, .ref p) :: ds) := by
 obtain ⟨G, a, b, c, d, e, f, g⟩ := S
 have hG : G p = none := b.free hp
 have eG := Same.new hG (.tup vs)
 refine ⟨upd G p (.tup vs), a.trans eG, fun q o hq => ?_, c.trans (Same.new hp _), fun q hq => ?_, fun q hq => ?_, f, (g.mono eG).cons ?_⟩
 ·by_cases hqp : q = p
  ·subst hqp; rw [upd_same] at hq ⊢; exact hq
  ·rw [upd_ne hqp] at hq ⊢; exact b _ _ hq
 ·have hqp : q ≠ p := fun z => by subst z; exact hq (c.free hp)
  rw [upd_ne hqp]; exact d q hq
 ·obtain ⟨x, y, ws, z, u⟩ := e q hq
  have hqp : q.1 ≠ p := ne_of_none z hp
  exact ⟨x, by rw [upd_ne hqp]; exact y, ws, by rw [upd_ne hqp]; exact z, IsAll.mono eG _ _ u⟩
 ·rw [Is]
  exact ⟨p, vs, rfl, upd_same, IsAll.mono eG _ _ (h G g)⟩
theorem Sta.newL (S : Sta B G0 H cs ds) (hp : H p = none) (h : HasAll ds xs vs) : Sta B G0 (upd H p (.lst vs)) ((p, xs) :: cs) ds := by
 obtain ⟨G, a, b, c, d, e, f, g⟩ := S
 have hG : G p = none := b.free hp
 refine ⟨G, a, b.trans (Same.new hp _), c.trans (Same.new hp _), d, fun q hq => ?_, ?_, g⟩
 ·rcases List.mem_cons.mp hq with rfl | hq
  ·exact ⟨c.free hp, hG, vs, upd_same, h G g⟩
  ·obtain ⟨x, y, ws, z, u⟩ := e q hq
   have hqp : q.1 ≠ p := ne_of_none z hp
   exact ⟨x, y, ws, by rw [upd_ne hqp]; exact z, u⟩
 ·rw [List.map_cons, List.nodup_cons]
  refine ⟨fun z => ?_, f⟩
  obtain ⟨q, hq, hqp⟩ := List.mem_map.mp z
  obtain ⟨_, _, ws, z, _⟩ := e q hq
  rw [hqp, hp] at z; cases z
theorem Sta.freeze (S : Sta B G0 H ((D, xs) :: cs) ds) : Sta B G0 H cs ((.list xs, .ref D) :: ds) := by
 obtain ⟨G, a, b, c, d, e, f, g⟩ := S
 obtain ⟨x, y, vs, z, u⟩ := e _ (List.mem_cons_self ..)
 have eG := Same.new y (.lst vs)
 rw [List.map_cons, List.nodup_cons] at f
 refine ⟨upd G D (.lst vs), a.trans eG, fun q o hq => ?_, c, fun q hq => ?_, fun q hq => ?_, f.2, (g.mono eG).cons ?_⟩
 ·by_cases hqp : q = D
  ·subst hqp; rw [upd_same] at hq; rw [← hq]; exact z
  ·rw [upd_ne hqp] at hq; exact b _ _ hq
 ·have hqp : q ≠ D := fun z => by subst z; exact hq x
  rw [upd_ne hqp]; exact d q hq
 ·obtain ⟨x', y', ws, z', u'⟩ := e q (List.mem_cons_of_mem _ hq)
  have hqp : q.1 ≠ D := fun z => f.1 (List.mem_map.mpr ⟨q, hq, z⟩)
  exact ⟨x', by rw [upd_ne hqp]; exact y', ws, z', IsAll.mono eG _ _ u'⟩
 ·rw [Is]
  exact ⟨D, vs, rfl, upd_same, IsAll.mono eG _ _ u⟩
theorem Sta.cell (S : Sta B G0 H cs ds) (h : (D, xs) ∈ cs) : ∃ vs, H D = some (.lst vs) ∧ xs.length = vs.length ∧ ∀ (i : Nat) (x : PyData), xs[i]? = some x → ∃ v, vs[i]? = some v ∧ Sta B G0 H cs ((x, v) :: ds) := by
 obtain ⟨G, a, b, c, d, e, f, g⟩ := S
 obtain ⟨_, _, vs, z, u⟩ := e _ h
 refine ⟨vs, z, u.len, fun i x hx => ?_⟩
 obtain ⟨v, hv, k⟩ := u.at hx
 exact ⟨v, hv, G, a, b, c, d, e, f, g.cons k⟩
theorem Sta.put (S : Sta B G0 H ((D, xs) :: cs) ds) : ∃ vs, H D = some (.lst vs) ∧ xs.length = vs.length ∧ ∀ ys ws, (∀ G, AllIs G ds → IsAll G xs vs → IsAll G ys ws) → Sta B G0 (upd H D (.lst ws)) ((D, ys) :: cs) ds := by
 obtain ⟨G, a, b, c, d, e, f, g⟩ := S
 obtain ⟨x, y, vs, z, u⟩ := e _ (List.mem_cons_self ..)
 refine ⟨vs, z, u.len, fun ys ws h => ?_⟩
 have key : ∀ {A : Hp}, Same A H → A D = none → Same A (upd H D (.lst ws)) := fun {A} s n q o hq => by
  rw [upd_ne (ne_of_none hq n)]; exact s _ _ hq
 have f' := f
 rw [List.map_cons, List.nodup_cons] at f'
 refine ⟨G, a, key b y, key c x, d, fun q hq => ?_, f, g⟩
 rcases List.mem_cons.mp hq with rfl | hq
 ·exact ⟨x, y, ws, upd_same, h G g u⟩
 ·obtain ⟨x', y', ws', z', u'⟩ := e q (List.mem_cons_of_mem _ hq)
  have hqp : q.1 ≠ D := fun z => f'.1 (List.mem_map.mpr ⟨q, hq, z⟩)
  exact ⟨x', y', ws', by rw [upd_ne hqp]; exact z', u'⟩
theorem Sta.tup (S : Sta B G0 H cs ds) (h : Has ds (.tuple xs) v) : ∃ p vs, v = .ref p ∧ H p = some (.tup vs) ∧ xs.length = vs.length ∧ ∀ (i : Nat) (x : PyData), xs[i]? = some x → ∃ w, vs[i]? = some w ∧ Sta B G0 H cs ((x, w) :: ds) := by
 obtain ⟨G, a, b, c, d, e, f, g⟩ := S
 have q := h G g
 rw [Is] at q
 obtain ⟨p, vs, hv, hp, u⟩ := q
 refine ⟨p, vs, hv, b _ _ hp, u.len, fun i x hx => ?_⟩
 obtain ⟨v, hv, k⟩ := u.at hx
 exact ⟨v, hv, G, a, b, c, d, e, f, g.cons k⟩
theorem Sta.lst (S : Sta B G0 H cs ds) (h : Has ds (.list xs) v) : ∃ p vs, v = .ref p ∧ H p = some (.lst vs) ∧ xs.length = vs.length ∧ ∀ (i : Nat) (x : PyData), xs[i]? = some x → ∃ w, vs[i]? = some w ∧ Sta B G0 H cs ((x, w) :: ds) := by
 obtain ⟨G, a, b, c, d, e, f, g⟩ := S
 have q := h G g
 rw [Is] at q
 obtain ⟨p, vs, hv, hp, u⟩ := q
 refine ⟨p, vs, hv, b _ _ hp, u.len, fun i x hx => ?_⟩
 obtain ⟨v, hv, k⟩ := u.at hx
 exact ⟨v, hv, G, a, b, c, d, e, f, g.cons k⟩
theorem Sta.tupAll (S : Sta B G0 H cs ds) (h : Has ds (.tuple xs) v) : ∃ p vs, v = .ref p ∧ H p = some (.tup vs) ∧ xs.length = vs.length ∧ Sta B G0 H cs (xs.zip vs ++ ds) ∧ ∀ G, AllIs G (xs.zip vs ++ ds) → IsAll G xs vs := by
 obtain ⟨G, a, b, c, d, e, f, g⟩ := S
 have q := h G g
 rw [Is] at q
 obtain ⟨p, vs, hv, hp, u⟩ := q
 refine ⟨p, vs, hv, b _ _ hp, u.len, ⟨G, a, b, c, d, e, f, fun q hq => ?_⟩, fun G' hG => ?_⟩
 ·rcases List.mem_append.mp hq with hq | hq
  ·obtain ⟨i, hi⟩ := List.mem_iff_getElem?.mp hq
   rw [List.getElem?_zip_eq_some] at hi
   exact (isAll_iff.mp u).2 i _ _ hi.1 hi.2
  ·exact g q hq
 ·refine isAll_iff.mpr ⟨u.len, fun i x v hx hv => ?_⟩
  exact hG (x, v) (List.mem_append_left _ (List.mem_iff_getElem?.mpr ⟨i, List.getElem?_zip_eq_some.mpr ⟨hx, hv⟩⟩))
theorem Sta.hp (S : Sta B G0 H cs ds) (h : Has ds x v) : Is H x v := by
 obtain ⟨G, a, b, c, d, e, f, g⟩ := S
 exact Is.mono b _ _ (h G g)
theorem Sta.hpC (S : Sta B G0 H cs ds) (h : (D, xs) ∈ cs) : Is H (.list xs) (.ref D) := by
 obtain ⟨G, a, b, c, d, e, f, g⟩ := S
 obtain ⟨_, _, vs, z, u⟩ := e _ h
 rw [Is]; exact ⟨D, vs, rfl, z, IsAll.mono b _ _ u⟩
end
def mkD (D : Ends) (u : L2.St → Hp → Prop) : Ends := { D with nx := u }
def mkL (D : Ends) (u : L2.St → Hp → Prop) : Ends := { D with nx := u, ct := u, bk := D.nx }
def endD (Q : VK) : Ends := { nx := fun _ H' => Q .non H', rt := Q }
section
variable {B G0 H : Hp} {cs : Cells} {ds : Dat} {D : Ends} {σ : L2.St} {Q : VK} {x y : PyData} {v w : V} {xs : List PyData} {vs : List V} {K : PySem.W.Frag} {X : Cx}
theorem rd_seq {t u : TS} (h : t (mkD D (u D)) σ H) : tSeq t u D σ H := h
theorem rd_asg {te : TE} {g : TG} (h : te σ H fun x H1 => g x σ H1 D.nx) : tAsg te g D σ H := h
theorem rd_name {i : Nat} {N : L2.St → Hp → Prop} (h : N (σ.set i (some v)) H) : gName i v σ H N := h
theorem rd_start {t : TS} (h : t (endD Q) σ H) : t { nx := fun _ H' => Q .non H', rt := Q } σ H := h
theorem rd_nx {u : L2.St → Hp → Prop} (h : u σ H) : Ends.nx (mkD D u) σ H := h
theorem rd_rt {u : L2.St → Hp → Prop} (h : Ends.rt D v H) : Ends.rt (mkD D u) v H := h
theorem rd_rt0 (h : Q v H) : Ends.rt (endD Q) v H := h
theorem rd_nxL {u : L2.St → Hp → Prop} (h : u σ H) : Ends.nx (mkL D u) σ H := h
theorem rd_rtL {u : L2.St → Hp → Prop} (h : Ends.rt D v H) : Ends.rt (mkL D u) v H := h
theorem rd_next (h : D.nx σ H) : tNext D σ H := h
theorem rd_ret {te : TE} (h : te σ H D.rt) : tRet te D σ H := h
theorem rd_drop {te : TE} (h : te σ H fun _ H1 => D.nx σ H1) : tDrop te D σ H := h
theorem rd_if {c : TT} {t u : TS} (h : c σ H fun b H1 => if b = true then t D σ H1 else u D σ H1) : tIfS c t u D σ H := h
theorem rd_var {i : Nat} (e : σ[i]? = some (some v)) (h : Q v H) : tVar i σ H Q := ⟨v, e, h⟩
theorem rd_c (h : Q v H) : tC v σ H Q := h
theorem rd_op {r : R2} {ta tb : TE} (h : ta σ H fun x H1 => tb σ H1 fun y H2 => r x y H2 Q) : tOp r ta tb σ H Q := h
theorem rd_un {r : V → Hp → VK → Prop} {ta : TE} (h : ta σ H fun x H1 => r x H1 Q) : tUn r ta σ H Q := h
theorem rd_rI0 {g : Int → Int → V} {i j : Int} (h : Q (g i j) H) : rI0 g (.int i) (.int j) H Q := ⟨i, j, rfl, rfl, h⟩
theorem rd_mulB {i j : Int} (c : IntMulOk i j) (h : Q (.int (i * j)) H) : rI IntMulOk (fun i j => .int (i * j)) (.int i) (.int j) H Q := ⟨i, j, rfl, rfl, c, h⟩
theorem rd_modL {i j : Int} (c : 0 < j) (h : Q (.int (i % j)) H) : rI (fun _ j => 0 < j) (fun i j => .int (i % j)) (.int i) (.int j) H Q := ⟨i, j, rfl, rfl, c, h⟩
theorem rd_modN {i j : Int} (c : j ≠ 0) (h : Q (.int (i.fmod j)) H) : rI (fun _ j => j ≠ 0) (fun i j => .int (i.fmod j)) (.int i) (.int j) H Q := ⟨i, j, rfl, rfl, c, h⟩
theorem rd_fdivL {i j : Int} (c : CDiv i j) (h : Q (.int (i / j)) H) : rI CDiv (fun i j => .int (i / j)) (.int i) (.int j) H Q := ⟨i, j, rfl, rfl, c, h⟩
theorem rd_fdivB {i j : Int} (c : CDv i j) (h : Q (.int (i.fdiv j)) H) : rI CDv (fun i j => .int (i.fdiv j)) (.int i) (.int j) H Q := ⟨i, j, rfl, rfl, c, h⟩
theorem rd_pow {i j : Int} (c : CPow i j) (h : Q (.int (i ^ j.toNat)) H) : rI CPow (fun i j => .int (i ^ j.toNat)) (.int i) (.int j) H Q := ⟨i, j, rfl, rfl, c, h⟩
theorem rd_rU {g : Int → V} {i : Int} (h : Q (g i) H) : rU g (.int i) H Q := ⟨i, rfl, h⟩
theorem rd_test {t : TE} {R : Bool → Hp → Prop} (h : t σ H fun x H' => ∃ k, x = .bl k ∧ R k H') : tTest t σ H R := h
theorem rd_tB {t : TE} {R : Bool → Hp → Prop} (h : t σ H fun x H' => ∃ k, x = .bl k ∧ R k H') : tB t σ H R := h
theorem rd_isbl {k : Bool} {R : Bool → Prop} (h : R k) : ∃ k', V.bl k = .bl k' ∧ R k' := ⟨k, rfl, h⟩
theorem rd_not {t : TT} {R : Bool → Hp → Prop} (h : t σ H fun c H1 => R (!c) H1) : tNot t σ H R := h
theorem rd_and {t u : TT} {R : Bool → Hp → Prop} (h : t σ H fun c H1 => if c = true then u σ H1 R else R false H1) : tAnd t u σ H R := h
theorem rd_or {t u : TT} {R : Bool → Hp → Prop} (h : t σ H fun c H1 => if c = true then R true H1 else u σ H1 R) : tOr t u σ H R := h
theorem rd_andV {ta tb : TE} (h : ta σ H fun x H1 => ∃ c, x = .bl c ∧ if c = true then tb σ H1 Q else Q (.bl false) H1) : tAndV ta tb σ H Q := h
theorem rd_notV {ta : TE} (h : ta σ H fun x H1 => ∃ c, x = .bl c ∧ Q (.bl (!c)) H1) : tNotV ta σ H Q := h
theorem rd_nil {R : List V → Hp → Prop} (h : R [] H) : tNil σ H R := h
theorem rd_cons {ta : TE} {tr : TA} {R : List V → Hp → Prop} (h : ta σ H fun x H1 => tr σ H1 fun xs H2 => R (x :: xs) H2) : tCons ta tr σ H R := h
theorem rd_call {sp : Sp} {E : XK} {t : TA} (h : t σ H fun vs H1 => sp vs H1 Q E) : tCall sp [] E t σ H Q := by
 unfold tCall
 simpa only [List.append_nil] using h
theorem rd_cb {r : List V → Hp → VK → Prop} {t : TA} (h : t σ H fun vs H1 => r vs H1 Q) : tCB r t σ H Q := h
def rEqA : R2 := fun x y H Q => rEq x y H Q ∨ rEqD x y H Q
def rNeA : R2 := fun x y H Q => rNe x y H Q ∨ rNeD x y H Q
theorem op_eqA (hu : X.A.units + 64 < cLine) : OpR X (compareOp .Eq) rEqA := op_eq.or (op_eqD hu)
theorem op_neA (hu : X.A.units + 64 < cLine) : OpR X (compareOp .NotEq) rNeA := op_ne.or (op_neD hu)
theorem dec_congr {a b : Prop} [Decidable a] [Decidable b] (h : a ↔ b) : decide a = decide b := by
 by_cases ha : a
 ·rw [decide_eq_true ha, decide_eq_true (h.mp ha)]
 ·rw [decide_eq_false ha, decide_eq_false (fun z => ha (h.mpr z))]
theorem rd_eqI {i j : Int} (h : Q (.bl (decide (i = j))) H) : rEqA (.int i) (.int j) H Q := .inl ⟨rfl, by
 rw [dec_congr (show V.int i = V.int j ↔ i = j from ⟨V.int.inj, congrArg _⟩)]; exact h⟩
theorem rd_neI {i j : Int} (h : Q (.bl (!decide (i = j))) H) : rNeA (.int i) (.int j) H Q := .inl ⟨rfl, by
 rw [dec_congr (show V.int i = V.int j ↔ i = j from ⟨V.int.inj, congrArg _⟩)]; exact h⟩
theorem rd_eqD (h1 : Is H x v) (h2 : Is H y w) (s1 : SeqAt.shaped x = true) (s2 : SeqAt.shaped y = true) (h : Q (.bl (PyData.eqv x y)) H) : rEqA v w H Q := .inr ⟨x, y, h1, h2, s1, s2, h⟩
theorem rd_neD (h1 : Is H x v) (h2 : Is H y w) (s1 : SeqAt.shaped x = true) (s2 : SeqAt.shaped y = true) (h : Q (.bl (!PyData.eqv x y)) H) : rNeA v w H Q := .inr ⟨x, y, h1, h2, s1, s2, h⟩
def kTup (Q : VK) (xs : List V) (H : Hp) : Prop := xs.length ≤ sizeLine ∧ ∀ p, H p = none → Q (.ref p) (upd H p (.tup xs))
def kLst (Q : VK) (xs : List V) (H : Hp) : Prop := xs.length ≤ sizeLine ∧ ∀ p, H p = none → Q (.ref p) (upd H p (.lst xs))
theorem rd_tup {t : TA} (h : t σ H (kTup Q)) : tTup t σ H Q := h
theorem rd_lst {t : TA} (h : t σ H (kLst Q)) : tLst t σ H Q := h
theorem rd_kTup (S : Sta B G0 H cs ds) (h : HasAll ds xs vs) (hl : vs.length ≤ 1000) (k : ∀ p H', Same H H' → Sta B G0 H' cs ((.tuple xs, .ref p) :: ds) → Q (.ref p) H') : kTup Q vs H :=
 ⟨Nat.le_of_lt (small1000 hl), fun p hp => k p _ (Same.new hp _) (S.newT hp h)⟩
theorem rd_kLst (S : Sta B G0 H cs ds) (h : HasAll ds xs vs) (hl : vs.length ≤ 1000) (k : ∀ p H', Same H H' → Sta B G0 H' ((p, xs) :: cs) ds → Q (.ref p) H') : kLst Q vs H :=
 ⟨Nat.le_of_lt (small1000 hl), fun p hp => k p _ (Same.new hp _) (S.newL hp h)⟩
theorem atI_at {α β : Type} {xs : List α} {ys : List β} {i : Int} {x : α} (hl : xs.length = ys.length) (h : atI xs i = some x) : ∃ j : Nat, xs[j]? = some x ∧ ∀ y, ys[j]? = some y → atI ys i = some y := by
 unfold atI at h ⊢
 rw [← hl]
 cases e : ixN xs.length i with
 | none => rw [e] at h; cases h
 | some j => rw [e] at h; exact ⟨j, h, fun y hy => hy⟩
theorem rd_ixT {i : Int} (S : Sta B G0 H cs ds) (hx : Has ds (.tuple xs) v) (hi : atI xs i = some x) (k : ∀ w, Sta B G0 H cs ((x, w) :: ds) → Q w H) : rIx K v (.int i) H Q := by
 obtain ⟨p, vs, rfl, hp, hl, z⟩ := S.tup hx
 obtain ⟨j, hj, hy⟩ := atI_at hl hi
 obtain ⟨w, hw, S'⟩ := z j x hj
 exact .inr (.inl ⟨p, vs, i, w, rfl, rfl, SqT.of hp, hy _ hw, k w S'⟩)
theorem Sta.top {n : PyData} (S : Sta B G0 H cs ((n, v) :: ds)) : Is H n v := S.hp (.mem (List.mem_cons_self ..))
theorem rd_ixTI {i n : Int} (S : Sta B G0 H cs ds) (hx : Has ds (.tuple xs) v) (hi : atI xs i = some (.int n)) (k : Q (.int n) H) : rIx K v (.int i) H Q :=
 rd_ixT S hx hi fun w S' => by have := S'.top; rw [Is] at this; subst this; exact k
theorem rd_ixL {i : Int} (S : Sta B G0 H cs ds) (hx : Has ds (.list xs) v) (hi : atI xs i = some x) (k : ∀ w, Sta B G0 H cs ((x, w) :: ds) → Q w H) : rIx K v (.int i) H Q := by
 obtain ⟨p, vs, rfl, hp, hl, z⟩ := S.lst hx
 obtain ⟨j, hj, hy⟩ := atI_at hl hi
 obtain ⟨w, hw, S'⟩ := z j x hj
 exact .inl ⟨p, vs, i, w, rfl, rfl, SqL.of hp, hy _ hw, k w S'⟩
theorem rd_ixLI {i n : Int} (S : Sta B G0 H cs ds) (hx : Has ds (.list xs) v) (hi : atI xs i = some (.int n)) (k : Q (.int n) H) : rIx K v (.int i) H Q :=
 rd_ixL S hx hi fun w S' => by have := S'.top; rw [Is] at this; subst this; exact k
theorem rd_ixC {i : Int} {L : Addr} (S : Sta B G0 H cs ds) (hx : (L, xs) ∈ cs) (hi : atI xs i = some x) (k : ∀ w, Sta B G0 H cs ((x, w) :: ds) → Q w H) : rIx K (.ref L) (.int i) H Q := by
 obtain ⟨vs, hp, hl, z⟩ := S.cell hx
 obtain ⟨j, hj, hy⟩ := atI_at hl hi
 obtain ⟨w, hw, S'⟩ := z j x hj
 exact .inl ⟨L, vs, i, w, rfl, rfl, SqL.of hp, hy _ hw, k w S'⟩
theorem rd_ixCI {i n : Int} {L : Addr} (S : Sta B G0 H cs ds) (hx : (L, xs) ∈ cs) (hi : atI xs i = some (.int n)) (k : Q (.int n) H) : rIx K (.ref L) (.int i) H Q :=
 rd_ixC S hx hi fun w S' => by have := S'.top; rw [Is] at this; subst this; exact k
theorem rd_ixS {i : Int} {a : Addr} {ns : List Int} (hS : SqL K H a (ns.map V.int)) (h0 : 0 ≤ i) (h1 : i < (ns.length : Int)) (k : Q (.int (ns.getD i.toNat 0)) H) : rIx K (.ref a) (.int i) H Q :=
 .inl ⟨a, _, i, _, rfl, rfl, hS, atI_ints h0 h1, k⟩
def rLen (K : PySem.W.Frag) : List V → Hp → VK → Prop := fun xs H Q => ∃ p ys, xs = [.ref p] ∧ (SqL K H p ys ∨ SqT K H p ys) ∧ Q (.int ys.length) H
theorem call_lenA : CallR X (.builtin "len") (rLen X.K) := call_len_seq
theorem rd_lenT (S : Sta B G0 H cs ds) (hx : Has ds (.tuple xs) v) (k : Q (.int xs.length) H) : rLen K [v] H Q := by
 obtain ⟨p, vs, rfl, hp, hl, _⟩ := S.tup hx
 exact ⟨p, vs, rfl, .inr (SqT.of hp), by rw [← hl]; exact k⟩
theorem rd_lenC {L : Addr} (S : Sta B G0 H cs ds) (hx : (L, xs) ∈ cs) (k : Q (.int xs.length) H) : rLen K [.ref L] H Q := by
 obtain ⟨vs, hp, hl, _⟩ := S.cell hx
 exact ⟨L, vs, rfl, .inl (SqL.of hp), by rw [← hl]; exact k⟩
theorem rd_lenS {a : Addr} {ns : List Int} (hS : SqL K H a (ns.map V.int)) (k : Q (.int ns.length) H) : rLen K [.ref a] H Q :=
 ⟨a, _, rfl, .inl hS, by rw [List.length_map]; exact k⟩
def rAbs : List V → Hp → VK → Prop := fun xs H Q => ∃ i, xs = [.int i] ∧ Q (.int (if i < 0 then -i else i)) H
theorem call_absA : CallR X (.builtin "abs") rAbs := call_abs
theorem rd_abs {i : Int} (k : Q (.int (i.natAbs : Int)) H) : rAbs [.int i] H Q := ⟨i, rfl, by
 rw [show (if i < 0 then -i else i) = (i.natAbs : Int) by split <;> omega]; exact k⟩
def rMax : List V → Hp → VK → Prop := fun xs H Q => ∃ i j, xs = [.int i, .int j] ∧ Q (.int (if j > i then j else i)) H
theorem call_maxA (hc : X.calm = true) : CallR X (.builtin "max") rMax := call_max2 hc
theorem rd_max {i j : Int} (k : Q (.int (max i j)) H) : rMax [.int i, .int j] H Q := ⟨i, j, rfl, by
 rw [show (if j > i then j else i) = max i j by split <;> omega]; exact k⟩
def kBM (K : PySem.W.Frag) (T : String) (r : V → List V → Hp → VK → Prop) (t : TA) (σ : L2.St) (Q : VK) : VK := fun x H1 => tyV K T x H1 ∧ t σ H1 fun xs H2 => r x xs H2 Q
def kBM0 (K : PySem.W.Frag) (T : String) (r : V → List V → Hp → VK → Prop) (Q : VK) : VK := fun x H1 => tyV K T x H1 ∧ r x [] H1 Q
theorem rd_bm {T : String} {r : V → List V → Hp → VK → Prop} {to : TE} {t : TA} (h : to σ H (kBM K T r t σ Q)) : tBM K T r to t σ H Q := h
theorem rd_bm0 {T : String} {r : V → List V → Hp → VK → Prop} {to : TE} (h : to σ H (kBM0 K T r Q)) : tBM0 K T r to σ H Q := h
theorem rd_kBM {L : Addr} {r : V → List V → Hp → VK → Prop} {t : TA} (S : Sta B G0 H cs ds) (hx : (L, xs) ∈ cs) (h : t σ H fun ys H2 => r (.ref L) ys H2 Q) : kBM K "list" r t σ Q (.ref L) H := by
 obtain ⟨vs, hp, hl, _⟩ := S.cell hx
 exact ⟨.inl ⟨rfl, _, SqL.of hp⟩, h⟩
theorem rd_kBM0 {L : Addr} {r : V → List V → Hp → VK → Prop} (S : Sta B G0 H cs ds) (hx : (L, xs) ∈ cs) (h : r (.ref L) [] H Q) : kBM0 K "list" r Q (.ref L) H := by
 obtain ⟨vs, hp, hl, _⟩ := S.cell hx
 exact ⟨.inl ⟨rfl, _, SqL.of hp⟩, h⟩
theorem rd_append {L : Addr} (S : Sta B G0 H ((L, xs) :: cs) ds) (hy : Has ds y w) (hz : xs.length ≤ 1000) (k : ∀ H', Sta B G0 H' ((L, xs ++ [y]) :: cs) ds → Q .non H') : rAppend (.ref L) [w] H Q := by
 obtain ⟨vs, hp, hl, put⟩ := S.put
 exact ⟨L, vs, w, rfl, rfl, hp, small1000 (by omega), k _ (put _ _ fun G a u => u.app (by rw [IsAll]; exact ⟨w, [], rfl, hy G a, by rw [IsAll]⟩))⟩
theorem rd_setL {L : Addr} {i : Int} {j : Nat} {R : Hp → Prop} (S : Sta B G0 H ((L, xs) :: cs) ds) (hy : Has ds y w) (hi : ixN xs.length i = some j) (k : ∀ H', Sta B G0 H' ((L, xs.set j y) :: cs) ds → R H') : rSetL (.ref L) (.int i) w H R := by
 obtain ⟨vs, hp, hl, put⟩ := S.put
 exact ⟨L, vs, i, j, rfl, rfl, hp, by rw [← hl]; exact hi, k _ (put _ _ fun G a u => u.set (hy G a) j)⟩
def cutD (xs : List PyData) (lo hi : Option Int) : List PyData := (xs.drop (HT.sIx xs.length 0 lo)).take (HT.sIx xs.length xs.length hi - HT.sIx xs.length 0 lo)
end
theorem iteNF {A B : Prop} (h : A) : if (!false) = true then A else B := h
theorem iteNT {A B : Prop} (h : B) : if (!true) = true then A else B := h
section
variable {B G0 H : Hp} {cs : Cells} {ds : Dat} {Q : VK} {v : V} {xs zs : List PyData} {K : PySem.W.Frag} {X : Cx} {L M : Addr}
def rAddA : R2 := fun x y H Q => rI0 (fun i j => .int (i + j)) x y H Q ∨ rCat x y H Q
theorem op_addA : OpR X (binaryOp .Add) rAddA := op_add.or op_cat
theorem rd_addI {i j : Int} (h : Q (.int (i + j)) H) : rAddA (.int i) (.int j) H Q := .inl ⟨i, j, rfl, rfl, h⟩
def Vw (B G0 H : Hp) (cs : Cells) (ds : Dat) (L : Addr) (xs : List PyData) : Prop := ∃ vs, H L = some (.lst vs) ∧ ∀ G, StaG B G0 H cs ds G → IsAll G xs vs
theorem Sta.vwC (S : Sta B G0 H cs ds) (h : (L, xs) ∈ cs) : Vw B G0 H cs ds L xs := by
 obtain ⟨G, S⟩ := S
 obtain ⟨_, _, vs, z, u⟩ := S.2.2.2.2.1 _ h
 refine ⟨vs, z, fun G' S' => ?_⟩
 obtain ⟨_, _, vs', z', u'⟩ := S'.2.2.2.2.1 _ h
 rw [z] at z'; cases z'
 exact u'
theorem rd_addL (S : Sta B G0 H cs ds) (v1 : Vw B G0 H cs ds L xs) (v2 : Vw B G0 H cs ds M zs) (hz : xs.length + zs.length ≤ 1000)
 (k : ∀ p H', Same H H' → Sta B G0 H' ((p, xs ++ zs) :: cs) ds → Q (.ref p) H') : rAddA (.ref L) (.ref M) H Q := by
 obtain ⟨us, h1, u1⟩ := v1
 obtain ⟨ws, h2, u2⟩ := v2
 obtain ⟨G, S'⟩ := id S
 refine .inr ⟨L, M, us, ws, rfl, rfl, h1, h2, Nat.le_of_lt (small1000 (by rw [← (u1 G S').len, ← (u2 G S').len]; exact hz)), fun p hp => k p _ (Same.new hp _) ?_⟩
 obtain ⟨a, b, c, d, e, f, g⟩ := id S'
 have hG : G p = none := b.free hp
 refine ⟨G, a, b.trans (Same.new hp _), c.trans (Same.new hp _), d, fun q hq => ?_, ?_, g⟩
 ·rcases List.mem_cons.mp hq with rfl | hq
  ·exact ⟨c.free hp, hG, _, upd_same, (u1 G S').app (u2 G S')⟩
  ·obtain ⟨x, y, ws, z, u⟩ := e q hq
   have hqp : q.1 ≠ p := ne_of_none z hp
   exact ⟨x, y, ws, by rw [upd_ne hqp]; exact z, u⟩
 ·rw [List.map_cons, List.nodup_cons]
  refine ⟨fun z => ?_, f⟩
  obtain ⟨q, hq, hqp⟩ := List.mem_map.mp z
  obtain ⟨_, _, ws, z, _⟩ := e q hq
  rw [hqp, hp] at z; cases z
theorem isAll_ints {G : Hp} : ∀ {ns : List Int} {vs : List V}, IsAll G (ns.map PyData.int) vs → vs = ns.map V.int
 | [], vs, h => by rw [List.map_nil, IsAll] at h; exact h
 | n :: ns, vs, h => by
   rw [List.map_cons, IsAll] at h
   obtain ⟨v, r, rfl, h1, h2⟩ := h
   rw [Is] at h1
   subst h1
   rw [isAll_ints h2, List.map_cons]
end
def Ro (B G0 : Hp) (L : Addr) (xs : List PyData) : Prop := G0 L = none ∧ ∃ vs, B L = some (.lst vs) ∧ IsAll G0 xs vs
def Src (B G0 : Hp) (b : Bool) (K : PySem.W.Frag) (a : Addr) (xs : List PyData) (P : Cells → Dat → Prop) : Prop := ∀ {H : Hp} {cs : Cells} {ds : Dat}, Sta B G0 H cs ds → P cs ds →
 ∃ vs, SqB b K H a vs ∧ xs.length = vs.length ∧ ∀ (i : Nat) (x : PyData), xs[i]? = some x → ∃ v, vs[i]? = some v ∧ Sta B G0 H cs ((x, v) :: ds)
structure Wk (B G0 : Hp) (J : It) (xs : List PyData) (P : Cells → Dat → Prop) : Prop where
 go : ∀ {H : Hp} {cs : Cells} {ds : Dat} {i : Nat}, Sta B G0 H cs ds → P cs ds → i < xs.length → J.go i H
 stop : ∀ {H : Hp} {cs : Cells} {ds : Dat} {i : Nat}, Sta B G0 H cs ds → P cs ds → xs.length ≤ i → J.stop i H
 yld : ∀ {H H' : Hp} {cs : Cells} {ds : Dat} {i : Nat} {x : PyData} {v : V}, Sta B G0 H cs ds → P cs ds → xs[i]? = some x → J.yld i H v H' → Same H H' ∧ Sta B G0 H' cs ((x, v) :: ds)
section
variable {B G0 H : Hp} {cs : Cells} {ds : Dat} {K : PySem.W.Frag} {a : Addr} {xs ys : List PyData} {P P' : Cells → Dat → Prop} {b c : Bool} {v : V}
theorem src_list : Src B G0 true K a xs (fun _ ds => Has ds (.list xs) (.ref a)) := fun S h => by
 obtain ⟨p, vs, e, hp, hl, z⟩ := S.lst h
 cases e
 exact ⟨vs, SqL.of hp, hl, z⟩
theorem src_tup : Src B G0 false K a xs (fun _ ds => Has ds (.tuple xs) (.ref a)) := fun S h => by
 obtain ⟨p, vs, e, hp, hl, z⟩ := S.tup h
 cases e
 exact ⟨vs, SqT.of hp, hl, z⟩
theorem wk_list (s : Src B G0 true K a xs P) : Wk B G0 (Itl K a) xs P where
 go := fun {H cs ds i} S h hi => by
  obtain ⟨vs, q, hl, _⟩ := s S h
  exact ⟨vs, vs[i]'(by omega), q, List.getElem?_eq_getElem _⟩
 stop := fun {H cs ds i} S h hi => by
  obtain ⟨vs, q, hl, _⟩ := s S h
  exact ⟨vs, q, by omega⟩
 yld := fun {H H' cs ds i x v} S h hx y => by
  obtain ⟨e, y⟩ := y
  subst e
  obtain ⟨vs, q, hl, z⟩ := s S h
  obtain ⟨w, hw, S'⟩ := z i x hx
  have := y vs q
  rw [hw] at this; cases this
  exact ⟨Same.refl _, S'⟩
theorem wk_tup (s : Src B G0 false K a xs P) : Wk B G0 (Itt K a) xs P where
 go := fun {H cs ds i} S h hi => by
  obtain ⟨vs, q, hl, _⟩ := s S h
  exact ⟨vs, vs[i]'(by omega), q, List.getElem?_eq_getElem _⟩
 stop := fun {H cs ds i} S h hi => by
  obtain ⟨vs, q, hl, _⟩ := s S h
  exact ⟨vs, q, by omega⟩
 yld := fun {H H' cs ds i x v} S h hx y => by
  obtain ⟨e, y⟩ := y
  subst e
  obtain ⟨vs, q, hl, z⟩ := s S h
  obtain ⟨w, hw, S'⟩ := z i x hx
  have := y vs q
  rw [hw] at this; cases this
  exact ⟨Same.refl _, S'⟩
def rangeD (lo : Int) (n : Nat) : List PyData := (List.range n).map fun i => .int (lo + (i : Nat))
theorem rangeD_len (lo : Int) (n : Nat) : (rangeD lo n).length = n := by unfold rangeD; rw [List.length_map, List.length_range]
theorem rangeD_at {lo : Int} {n i : Nat} {x : PyData} (h : (rangeD lo n)[i]? = some x) : i < n ∧ x = .int (lo + (i : Nat)) := by
 have hi : i < n := by have := (List.getElem?_eq_some_iff.mp h).1; rwa [rangeD_len] at this
 unfold rangeD at h
 rw [List.getElem?_map, List.getElem?_range hi] at h
 exact ⟨hi, (Option.some.inj h).symm⟩
theorem wk_range {lo : Int} {n : Nat} : Wk B G0 (Itr lo n) (rangeD lo n) (fun _ _ => True) where
 go := fun {H cs ds i} S h hi => by rw [rangeD_len] at hi; exact hi
 stop := fun {H cs ds i} S h hi => by rw [rangeD_len] at hi; exact hi
 yld := fun {H H' cs ds i x v} S h hx y => by
  obtain ⟨e, y⟩ := y
  obtain ⟨_, rfl⟩ := rangeD_at hx
  subst e y
  exact ⟨Same.refl _, S.push Has.int⟩
def kIL (K : PySem.W.Frag) (R : It → Hp → Prop) : VK := fun x H1 => ∃ a, x = .ref a ∧ (∃ xs, SqL K H1 a xs) ∧ R (Itl K a) H1
def kIT (K : PySem.W.Frag) (R : It → Hp → Prop) : VK := fun x H1 => ∃ a, x = .ref a ∧ (∃ xs, SqT K H1 a xs) ∧ R (Itt K a) H1
def kR1 (R : It → Hp → Prop) : List V → Hp → Prop := fun vs H1 => ∃ j : Int, vs = [.int j] ∧ -(2 ^ 62) ≤ j ∧ j < 2 ^ 62 ∧ R (Itr 0 j.toNat) H1
section
variable {σ : L2.St} {R : It → Hp → Prop} {tl : TE} {ta : TA}
theorem rd_iList (h : tl σ H (kIL K R)) : iList K tl σ H R := h
theorem rd_iTup (h : tl σ H (kIT K R)) : iTup K tl σ H R := h
theorem rd_iR1 (h : ta σ H (kR1 R)) : iRng1 ta σ H R := h
theorem rd_kR1 {j : Int} (B G0 : Hp) (h1 : -1000 ≤ j) (h2 : j ≤ 1000000) (k : ∀ J, Wk B G0 J (rangeD 0 j.toNat) (fun _ _ => True) → R J H) : kR1 R [.int j] H := ⟨j, rfl, by omega, by omega, k _ wk_range⟩
end
def kGT (K : PySem.W.Frag) (n : Nat) (t : TGs) (σ : L2.St) (N : L2.St → Hp → Prop) : VK := fun v H => ∃ a xs, v = .ref a ∧ SqT K H a xs ∧ xs.length = n ∧ t xs σ H N
theorem rd_gTup {n : Nat} {t : TGs} {σ : L2.St} {N : L2.St → Hp → Prop} (h : kGT K n t σ N v H) : gTup K n t v σ H N := h
theorem rd_kGT {n : Nat} {t : TGs} {σ : L2.St} {N : L2.St → Hp → Prop} (S : Sta B G0 H cs ds) (h : Has ds (.tuple xs) v) (hn : xs.length = n) (k : ∀ vs, xs.length = vs.length → Sta B G0 H cs (xs.zip vs ++ ds) → t vs σ H N) : kGT K n t σ N v H := by
 obtain ⟨p, vs, rfl, hp, hl, S', _⟩ := S.tupAll h
 exact ⟨p, vs, rfl, SqT.of hp, by omega, k vs hl S'⟩
theorem rd_kGT2 {t : TGs} {σ : L2.St} {N : L2.St → Hp → Prop} {x y : PyData} (S : Sta B G0 H cs ds) (h : Has ds (.tuple [x, y]) v) (k : ∀ w1 w2, Sta B G0 H cs ((x, w1) :: (y, w2) :: ds) → t [w1, w2] σ H N) : kGT K 2 t σ N v H := by
 refine rd_kGT S h rfl fun vs hl S' => ?_
 match vs, hl with
 | [w1, w2], _ => exact k w1 w2 S'
theorem rd_kGT3 {t : TGs} {σ : L2.St} {N : L2.St → Hp → Prop} {x y z : PyData} (S : Sta B G0 H cs ds) (h : Has ds (.tuple [x, y, z]) v) (k : ∀ w1 w2 w3, Sta B G0 H cs ((x, w1) :: (y, w2) :: (z, w3) :: ds) → t [w1, w2, w3] σ H N) : kGT K 3 t σ N v H := by
 refine rd_kGT S h rfl fun vs hl S' => ?_
 match vs, hl with
 | [w1, w2, w3], _ => exact k w1 w2 w3 S'
theorem rd_gCons {t : TG} {u : TGs} {σ : L2.St} {N : L2.St → Hp → Prop} {vs : List V} (h : t v σ H fun σ' H' => u vs σ' H' N) : gCons t u (v :: vs) σ H N := ⟨v, vs, rfl, h⟩
theorem rd_gNil {σ : L2.St} {N : L2.St → Hp → Prop} (h : N σ H) : gNil [] σ H N := ⟨rfl, h⟩
def kFor (g : TG) (tb : TS) (D : Ends) (σ : L2.St) : It → Hp → Prop := fun J H1 => ∃ W : Nat → Nat → L2.St → Hp → Prop, (∃ m, W 0 m σ H1) ∧ ∀ i m σ H, W i m σ H →
 (J.stop i H ∧ D.nx σ H) ∨ (J.go i H ∧ ∃ N : L2.St → Hp → Prop, (∀ σ' H', N σ' H' → ∃ m', m' < m ∧ W (i + 1) m' σ' H') ∧ ∀ x H', J.yld i H x H' → g x σ H' fun σ2 H2 => tb { D with nx := N, ct := N, bk := D.nx } σ2 H2)
theorem rd_for {wi : TI} {g : TG} {tb : TS} {D : Ends} {σ : L2.St} (h : wi σ H (kFor g tb D σ)) : tFor wi g tb D σ H := h
def AtP (B G0 : Hp) (Pv : L2.St → Cells → Dat → Prop) : L2.St → Hp → Prop := fun σ H => ∃ cs ds, Sta B G0 H cs ds ∧ Pv σ cs ds
theorem rd_at {Pv : L2.St → Cells → Dat → Prop} {σ : L2.St} (S : Sta B G0 H cs ds) (h : Pv σ cs ds) : AtP B G0 Pv σ H := ⟨cs, ds, S, h⟩
theorem for_wk {J : It} {g : TG} {tb : TS} {D : Ends} {σ : L2.St} (w : Wk B G0 J xs P) (Pv : Nat → L2.St → Cells → Dat → Prop) (S : Sta B G0 H cs ds) (h0 : Pv 0 σ cs ds) (hP : ∀ i σ cs ds, Pv i σ cs ds → P cs ds)
 (hs : ∀ (i : Nat) (x : PyData) (v : V) (σ : L2.St) (H : Hp) (cs : Cells) (ds : Dat), xs[i]? = some x → Pv i σ cs ds → Sta B G0 H cs ((x, v) :: ds) → g v σ H fun σ2 H2 => tb (mkL D (AtP B G0 (Pv (i + 1)))) σ2 H2)
 (hd : ∀ (σ : L2.St) (H : Hp) (cs : Cells) (ds : Dat), Pv xs.length σ cs ds → Sta B G0 H cs ds → D.nx σ H) : kFor g tb D σ J H := by
 refine ⟨fun i m σ H => m = xs.length - i ∧ i ≤ xs.length ∧ AtP B G0 (Pv i) σ H, ⟨xs.length, by simp, Nat.zero_le _, cs, ds, S, h0⟩, ?_⟩
 rintro i m σ H ⟨rfl, hi, cs, ds, S, p⟩
 by_cases hlt : i < xs.length
 ·refine .inr ⟨w.go S (hP _ _ _ _ p) hlt, AtP B G0 (Pv (i + 1)), fun σ' H' p' => ⟨xs.length - (i + 1), by omega, rfl, hlt, p'⟩, fun x H' y => ?_⟩
  exact hs i _ x σ H' cs ds (List.getElem?_eq_getElem hlt) p (w.yld S (hP _ _ _ _ p) (List.getElem?_eq_getElem hlt) y).2
 ·have e : i = xs.length := by omega
  subst e
  exact .inl ⟨w.stop S (hP _ _ _ _ p) (Nat.le_refl _), hd σ H cs ds p S⟩
def WP (B G0 : Hp) (Pv : Nat → L2.St → Cells → Dat → Prop) : Nat → L2.St → Hp → Prop := fun m σ H => AtP B G0 (Pv m) σ H
def kWh (W : Nat → L2.St → Hp → Prop) (tb : TS) (D : Ends) (m : Nat) (σ : L2.St) : Bool → Hp → Prop := fun b H1 => if b = true then ∃ N : L2.St → Hp → Prop, (∀ σ' H', N σ' H' → ∃ m', m' < m ∧ W m' σ' H') ∧ tb { D with nx := N, ct := N, bk := D.nx } σ H1 else D.nx σ H1
theorem rd_wh {tb : TS} {D : Ends} {m : Nat} {σ : L2.St} {b : Bool} {W : Nat → L2.St → Hp → Prop} (h1 : b = true → tb (mkL D (fun σ' H' => ∃ m', m' < m ∧ W m' σ' H')) σ H)
 (h2 : b = false → D.nx σ H) : kWh W tb D m σ b H := by
 cases b with
 | true => exact ⟨_, fun σ' H' q => q, h1 rfl⟩
 | false => exact h2 rfl
theorem while_h {c : TT} {tb : TS} {D : Ends} {σ : L2.St} (W : Nat → L2.St → Hp → Prop) (m : Nat) (h0 : W m σ H) (hs : ∀ (m : Nat) (σ : L2.St) (H : Hp), W m σ H → c σ H (kWh W tb D m σ)) : tWhile c tb D σ H := ⟨W, ⟨m, h0⟩, hs⟩
theorem while_sta {c : TT} {tb : TS} {D : Ends} {σ : L2.St} (Pv : Nat → L2.St → Cells → Dat → Prop) (m : Nat) (S : Sta B G0 H cs ds) (h0 : Pv m σ cs ds)
 (hs : ∀ (m : Nat) (σ : L2.St) (H : Hp) (cs : Cells) (ds : Dat), Pv m σ cs ds → Sta B G0 H cs ds → c σ H (kWh (WP B G0 Pv) tb D m σ)) : tWhile c tb D σ H :=
 ⟨WP B G0 Pv, ⟨m, cs, ds, S, h0⟩, fun m σ H ⟨cs, ds, S, p⟩ => hs m σ H cs ds p S⟩
def kComp (n : Nat) (fr : List Nat) (g : Blk TG) (tt : Blk TT) (te : Blk TE) (σ : L2.St) (Q : VK) : It → Hp → Prop := fun J H1 => ∀ D, H1 D = none → ∀ C ex s0 H0,
 ∃ W : Nat → Nat → List V → Hp → Prop, (∃ m, W 0 m [] (upd H1 D (.lst []))) ∧ ∀ i m ys H2, W i m ys H2 → H2 D = some (.lst ys) ∧
   ((J.stop i H2 ∧ Q (.ref D) H2) ∨ (J.go i H2 ∧ ∀ x H3, J.yld i H2 x H3 → g C ex s0 H0 x (List.replicate n none ++ frσ σ fr) H3 fun σ4 H4 => σ4.drop n = frσ σ fr ∧ tt C ex s0 H0 σ4 H4 fun b H5 =>
     if b = true then te C ex s0 H0 σ4 H5 fun y H6 => H6 D = some (.lst ys) ∧ ys.length < sizeLine ∧ ∃ m', m' < m ∧ W (i + 1) m' (ys ++ [y]) (upd H6 D (.lst (ys ++ [y])))
     else ∃ m', m' < m ∧ W (i + 1) m' ys H5))
theorem rd_comp {n : Nat} {fr : List Nat} {wi : TI} {g : Blk TG} {tt : Blk TT} {te : Blk TE} {σ : L2.St} {Q : VK} (h : wi σ H (kComp n fr g tt te σ Q)) : tComp n fr wi g tt te σ H Q := h
structure Turn1 (B G0 : Hp) (cs : Cells) (B' G' : Hp) : Prop where
 b : Same B B'
 ro : ∀ c ∈ cs, Ro B' G' c.1 c.2
 old : ∀ {L : Addr} {xs : List PyData}, Ro B G0 L xs → Ro B' G' L xs
theorem comp_wk {J : It} {n : Nat} {fr : List Nat} {g : Blk TG} {tt : Blk TT} {te : Blk TE} {σ : L2.St} {Q : VK} (w : Wk B G0 J xs P) (f : Nat → Option PyData) (S : Sta B G0 H cs ds) (hPm : ∀ D ys, P ((D, ys) :: cs) ds) (hn : xs.length ≤ 1000)
 (hs : ∀ (i : Nat) (x : PyData) (v : V) (B' G' : Hp) (Kd : VK) (Kn : Hp → Prop), xs[i]? = some x → Turn1 B G0 cs B' G' → Sta B' G' B' [] ((x, v) :: ds) →
  (∀ {z : PyData} {y : V} {H6 : Hp} {cs' : Cells} {ds' : Dat}, f i = some z → Sta B' G' H6 cs' ds' → Has ds' z y → Kd y H6) → (∀ {H5 : Hp} {cs' : Cells} {ds' : Dat}, f i = none → Sta B' G' H5 cs' ds' → Kn H5) →
  ∀ C ex s0 H0, g C ex s0 H0 v (List.replicate n none ++ frσ σ fr) B' fun σ4 H4 => σ4.drop n = frσ σ fr ∧ tt C ex s0 H0 σ4 H4 fun b H5 => if b = true then te C ex s0 H0 σ4 H5 Kd else Kn H5)
 (k : ∀ D H', Same H H' → Sta B G0 H' ((D, (List.range xs.length).filterMap f) :: cs) ds → Q (.ref D) H') : kComp n fr g tt te σ Q J H := by
 intro D hD C ex s0 H0
 have len : ∀ i, ((List.range i).filterMap f).length ≤ i := fun i => Nat.le_trans (List.length_filterMap_le _ _) (by rw [List.length_range]; exact Nat.le_refl _)
 refine ⟨fun i m ys H2 => m = xs.length - i ∧ i ≤ xs.length ∧ H2 D = some (.lst ys) ∧ Same H H2 ∧ Sta B G0 H2 ((D, (List.range i).filterMap f) :: cs) ds, ⟨xs.length, by simp, Nat.zero_le _, upd_same, Same.new hD _, S.newL hD .nil⟩, ?_⟩
 rintro i m ys H2 ⟨rfl, hi, hDl, hS, S2⟩
 refine ⟨hDl, ?_⟩
 by_cases hlt : i < xs.length
 ·refine .inr ⟨w.go S2 (hPm _ _) hlt, fun v H3 y => ?_⟩
  obtain ⟨e3, G3, S3⟩ := w.yld S2 (hPm _ _) (List.getElem?_eq_getElem hlt) y
  obtain ⟨a, b, c, d, e, f', g'⟩ := id S3
  have h3D : H3 D = some (.lst ys) := e3 _ _ hDl
  have t1 : Turn1 B G0 cs H3 G3 := by
   refine ⟨c, fun q hq => ?_, fun {L zs} ⟨r1, vs, r2, r3⟩ => ?_⟩
   ·obtain ⟨_, y', vs, z', u'⟩ := e q (List.mem_cons_of_mem _ hq)
    exact ⟨y', vs, z', u'⟩
   ·exact ⟨by rw [d L (by rw [r2]; simp)]; exact r1, vs, c _ _ r2, IsAll.mono a _ _ r3⟩
  have up : ∀ {H6 : Hp} {cs' : Cells} {ds' : Dat} {o : HO}, Same H H3 → H D = none → Same H H6 → Same H (upd H6 D o) := fun {H6 cs' ds' o} _ hn h q u hq => by
   rw [upd_ne (ne_of_none hq hn)]; exact h _ _ hq
  refine hs i _ v H3 G3 _ _ (List.getElem?_eq_getElem hlt) t1 (Sta.enter b g') ?_ ?_ C ex s0 H0
  ·intro z y6 H6 cs' ds' fz S6 hz
   obtain ⟨G6, gr, al⟩ := S6.leave
   have h6D : H6 D = some (.lst ys) := gr.h _ _ h3D
   have S6' : StaG B G0 H6 ((D, (List.range i).filterMap f) :: cs) ((xs[i], v) :: ds) G6 := S3.grow gr
   have S7 : Sta B G0 H6 ((D, (List.range i).filterMap f) :: cs) ((z, y6) :: ds) := by
    obtain ⟨a', b', c', d', e', f'', g''⟩ := S6'
    exact ⟨G6, a', b', c', d', e', f'', AllIs.cons (fun p hp => g'' p (List.mem_cons_of_mem _ hp)) (hz G6 al)⟩
   obtain ⟨vs, hv, hl, put⟩ := S7.put
   rw [h6D] at hv
   cases hv
   refine ⟨h6D, small1000 (by have := len i; omega), xs.length - (i + 1), by omega, rfl, hlt, upd_same, up (cs' := cs') (ds' := ds') (hS.trans e3) hD ((hS.trans e3).trans gr.h), ?_⟩
   have er : (List.range (i + 1)).filterMap f = (List.range i).filterMap f ++ [z] := by
    rw [List.range_succ, List.filterMap_append]; simp [fz]
   rw [er]
   exact (put _ _ fun G a u => u.app (by rw [IsAll]; exact ⟨y6, [], rfl, a _ (List.mem_cons_self ..), by rw [IsAll]⟩)).drop1
  ·intro H5 cs' ds' fz S5
   obtain ⟨G5, gr, al⟩ := S5.leave
   have S5' : Sta B G0 H5 ((D, (List.range i).filterMap f) :: cs) ((xs[i], v) :: ds) := ⟨G5, S3.grow gr⟩
   have er : (List.range (i + 1)).filterMap f = (List.range i).filterMap f := by
    rw [List.range_succ, List.filterMap_append]; simp [fz]
   exact ⟨xs.length - (i + 1), by omega, rfl, hlt, gr.h _ _ h3D, (hS.trans e3).trans gr.h, by rw [er]; exact S5'.drop1⟩
 ·have e : i = xs.length := by omega
  subst e
  exact .inl ⟨w.stop S2 (hPm _ _) (Nat.le_refl _), k D H2 hS S2⟩
theorem fm_some {α β : Type} (g : α → β) (l : List α) : l.filterMap (fun i => some (g i)) = l.map g := by
 induction l with
 | nil => rfl
 | cons a l ih => simp [ih]
theorem comp_map {J : It} {n : Nat} {fr : List Nat} {g : Blk TG} {tt : Blk TT} {te : Blk TE} {σ : L2.St} {Q : VK} (w : Wk B G0 J xs P) (f : Nat → PyData) (hy : (List.range xs.length).map f = ys) (S : Sta B G0 H cs ds) (hPm : ∀ D ys, P ((D, ys) :: cs) ds) (hn : xs.length ≤ 1000)
 (hs : ∀ (i : Nat) (x : PyData) (v : V) (B' G' : Hp) (Kd : VK) (Kn : Hp → Prop), xs[i]? = some x → Turn1 B G0 cs B' G' → Sta B' G' B' [] ((x, v) :: ds) →
  (∀ {y : V} {H6 : Hp} {cs' : Cells} {ds' : Dat}, Sta B' G' H6 cs' ds' → Has ds' (f i) y → Kd y H6) →
  ∀ C ex s0 H0, g C ex s0 H0 v (List.replicate n none ++ frσ σ fr) B' fun σ4 H4 => σ4.drop n = frσ σ fr ∧ tt C ex s0 H0 σ4 H4 fun b H5 => if b = true then te C ex s0 H0 σ4 H5 Kd else Kn H5)
 (k : ∀ D H', Same H H' → Sta B G0 H' ((D, ys) :: cs) ds → Q (.ref D) H') : kComp n fr g tt te σ Q J H := by
 refine comp_wk w (fun i => some (f i)) S hPm hn (fun i x v B' G' Kd Kn hx t1 S' hd _ => hs i x v B' G' Kd Kn hx t1 S' fun {y H6 cs' ds'} a b => hd rfl a b) fun D H' e S' => k D H' e ?_
 rw [fm_some, hy] at S'
 exact S'
theorem rd_kILd {R : It → Hp → Prop} (S : Sta B G0 H cs ds) (h : Has ds (.list xs) v) (k : ∀ J, Wk B G0 J xs (fun _ ds => Has ds (.list xs) v) → R J H) : kIL K R v H := by
 obtain ⟨p, vs, rfl, hp, _⟩ := S.lst h
 exact ⟨p, rfl, ⟨_, SqL.of hp⟩, k _ (wk_list src_list)⟩
theorem rd_kITd {R : It → Hp → Prop} (S : Sta B G0 H cs ds) (h : Has ds (.tuple xs) v) (k : ∀ J, Wk B G0 J xs (fun _ ds => Has ds (.tuple xs) v) → R J H) : kIT K R v H := by
 obtain ⟨p, vs, rfl, hp, _⟩ := S.tup h
 exact ⟨p, rfl, ⟨_, SqT.of hp⟩, k _ (wk_tup src_tup)⟩
section
variable {α : Type}
def spT (enc : α → List PyData) (dom : α → Prop) (res : α → PyData) : Sp := fun vs H Q _ => ∃ (G : Hp) (a : α), Same G H ∧ IsAll G (enc a) vs ∧ dom a ∧ ∀ v H' G', Grow G H G' H' → Is G' (res a) v → Q v H'
def spB (enc : α → List PyData) (dom : α → Prop) (res : α → V) : Sp := fun vs H Q _ => ∃ (a : α), IsAll H (enc a) vs ∧ dom a ∧ ∀ H', Same H H' → Q (res a) H'
variable {enc : α → List PyData} {dom : α → Prop} {res : α → PyData} {resL : α → List PyData} {resB : α → V} {Q : VK} {E : XK} {vs : List V}
theorem rd_spT (a : α) (S : Sta B G0 H cs ds) (hx : HasAll ds (enc a) vs) (hd : dom a) (k : ∀ v H', Same H H' → Sta B G0 H' cs ((res a, v) :: ds) → Q v H') : spT enc dom res vs H Q E := by
 obtain ⟨G, S⟩ := S
 refine ⟨G, a, S.2.1, hx G S.2.2.2.2.2.2, hd, fun v H' G' gr hv => k v H' gr.h ?_⟩
 obtain ⟨a', b', c', d', e', f', g'⟩ := S.grow gr
 exact ⟨G', a', b', c', d', e', f', g'.cons hv⟩
theorem rd_spB (a : α) (hx : IsAll H (enc a) vs) (hd : dom a) (k : ∀ H', Same H H' → Q (resB a) H') : spB enc dom resB vs H Q E := ⟨a, hx, hd, k⟩
theorem Sta.hpAll (S : Sta B G0 H cs ds) {xs : List PyData} (h : HasAll ds xs vs) : IsAll H xs vs := by
 obtain ⟨G, a, b, c, d, e, f, g⟩ := S
 exact IsAll.mono b _ _ (h G g)
theorem ret_T {G H' : Hp} {r : PyData} {v : V} (S : Sta H G H' cs ds) (k : ∀ v H' G', Grow G H G' H' → Is G' r v → Q v H') (h : Has ds r v) : Q v H' :=
 let ⟨G', gr, al⟩ := S.leave; k v H' G' gr (h G' al)
theorem ret_B {G H' : Hp} {r : V} (S : Sta H G H' cs ds) (k : ∀ H', Same H H' → Q r H') : Q r H' := k H' S.base
theorem isAll1 {G : Hp} {x : PyData} {vs : List V} (h : IsAll G [x] vs) : ∃ v, vs = [v] ∧ AllIs G [(x, v)] := by
 simp only [IsAll] at h
 obtain ⟨v, _, rfl, h1, rfl⟩ := h
 exact ⟨v, rfl, fun p hp => by simp at hp; subst hp; exact h1⟩
theorem isAll2 {G : Hp} {x y : PyData} {vs : List V} (h : IsAll G [x, y] vs) : ∃ v w, vs = [v, w] ∧ AllIs G [(x, v), (y, w)] := by
 simp only [IsAll] at h
 obtain ⟨v, _, rfl, h1, w, _, rfl, h2, rfl⟩ := h
 exact ⟨v, w, rfl, fun p hp => by simp at hp; rcases hp with rfl | rfl <;> assumption⟩
theorem isAll3 {G : Hp} {x y z : PyData} {vs : List V} (h : IsAll G [x, y, z] vs) : ∃ v w u, vs = [v, w, u] ∧ AllIs G [(x, v), (y, w), (z, u)] := by
 simp only [IsAll] at h
 obtain ⟨v, _, rfl, h1, w, _, rfl, h2, u, _, rfl, h3, rfl⟩ := h
 exact ⟨v, w, u, rfl, fun p hp => by simp at hp; rcases hp with rfl | rfl | rfl <;> assumption⟩
theorem Is.int_of {G : Hp} {i : Int} {v : V} (h : Is G (.int i) v) : v = .int i := by rw [Is] at h; exact h
end
end
end S
namespace S
def par (c t : List Int) : Prop := c.map (· * t.sum) = t.map (· * c.sum)
instance (c t : List Int) : Decidable (par c t) := inferInstanceAs (Decidable (_ = _))
end S
namespace S
open PySem PySem.Spec PyProof.Rows L2
section
variable {α : Type} {enc : α → List PyData} {dom : α → Prop} {res : α → V} {B G0 H : Hp} {cs : Cells} {ds : Dat} {Q : VK} {E : XK} {vs : List V} {v w : V}
section
variable {m n : Nat} {p q : Rat}
end
def spLowest : Sp := spT (α := Int × Int) (fun a => [.int a.1, .int a.2]) (fun a => a.2 ≠ 0 ∧ Sz 8999 a.2) (fun a => frD (Rat.divInt a.1 a.2))
theorem rd_lowest {i j : Int} (S : Sta B G0 H cs ds) (h0 : j ≠ 0) (hz : Sz 8999 j) (k : ∀ r H', Same H H' → Sta B G0 H' cs ((frD (Rat.divInt i j), r) :: ds) → Q r H') : spLowest [.int i, .int j] H Q E :=
 rd_spT (i, j) S (.cons Has.int (.cons Has.int .nil)) ⟨h0, hz⟩ k
def cellAt (ns : List Int) (k : Int) : Int := if k < (ns.length : Int) then ns.getD k.toNat 0 else 0
def spCell (K : PySem.W.Frag) : Sp := fun vs H Q _ => ∃ (a : Addr) (ns : List Int) (k : Int), vs = [.ref a, .int k] ∧ SqL K H a (ns.map V.int) ∧ 0 ≤ k ∧ Q (.int (cellAt ns k)) H
theorem rd_cell {K : PySem.W.Frag} {a : Addr} {ns : List Int} {k : Int} (hS : SqL K H a (ns.map V.int)) (h0 : 0 ≤ k) (h : Q (.int (cellAt ns k)) H) : spCell K [.ref a, .int k] H Q E := ⟨a, ns, k, rfl, hS, h0, h⟩
def spDiv2 : Sp := fun vs H Q _ => ∃ a b : Int, vs = [.int a, .int b] ∧ 0 ≤ b ∧ Q (.int (Int.gcd a b : Nat)) H
theorem rd_div2 {a b : Int} (h0 : 0 ≤ b) (h : Q (.int (Int.gcd a b : Nat)) H) : spDiv2 [.int a, .int b] H Q E := ⟨a, b, rfl, h0, h⟩
def rowD (r : List Int) : PyData := .list (r.map PyData.int)
theorem rd_true {σ : L2.St} {R : Bool → Hp → Prop} (h : R true H) : tTrue σ H R := h
theorem lay_int (a : Int) : (PyData.int a).canLay0 = true := by rw [PyData.canLay0]
theorem dep_int (a : Int) : (PyData.int a).depth ≤ 1 := by rw [PyData.depth]; exact Nat.zero_le _
theorem lay_row (a : List Int) : (rowD a).canLay0 = true := by unfold rowD; rw [PyData.canLay0]; exact lay_all lay_int a
theorem dep_row (a : List Int) : (rowD a).depth ≤ 2 := by unfold rowD; rw [PyData.depth]; exact Nat.succ_le_succ (dep_all dep_int a)
theorem shaped_of {d : PyData} {n : Nat} (h : d.canLay0 = true) (g : d.depth ≤ n) (l : n ≤ 64) : SeqAt.shaped d = true := by
 unfold SeqAt.shaped
 rw [h, decide_eq_true (Nat.le_trans g l)]; rfl
theorem shaped_row (a : List Int) : SeqAt.shaped (rowD a) = true := shaped_of (lay_row a) (dep_row a) (by decide)
theorem shaped_frD (a : Rat) : SeqAt.shaped (frD a) = true := shaped_of (lay_fr a) (dep_fr a) (by decide)
def tyD : PyData → String
 | .none => "NoneType"
 | .bool _ => "bool"
 | .int _ => "int"
 | .str _ => "str"
 | .list _ => "list"
 | .tuple _ => "tuple"
 | .dict _ => "dict"
def noIns : PyData → Bool
 | .dict _ => false
 | _ => true
theorem Is.ty {K : PySem.W.Frag} {d : PyData} (h : Is H d v) (nd : noIns d = true) : TyOf K H v (.type (tyD d)) := by
 cases d with
 | none => rw [Is] at h; subst h; exact .non
 | bool b => rw [Is] at h; subst h; exact .bl b
 | int b => rw [Is] at h; subst h; exact .int b
 | str b => rw [Is] at h; subst h; exact .str b
 | list xs => rw [Is] at h; obtain ⟨p, vs, rfl, e, _⟩ := h; exact .lst e
 | tuple xs => rw [Is] at h; obtain ⟨p, vs, rfl, e, _⟩ := h; exact .tup e
 | dict _ => cases nd
theorem rd_isi {K : PySem.W.Frag} {d : PyData} {T : String} {b : Bool} (h : Is H d v) (e : PySem.W.kitOne K (.type (tyD d)) (.type T) = some b) (k : Q (.bl b) H) (nd : noIns d = true) : rIsi K [v, .ty T] H Q := ⟨v, T, _, b, rfl, h.ty nd, e, k⟩
section
variable {K : PySem.W.Frag}
theorem kit_ib : PySem.W.kitOne K (.type "int") (.type "bool") = some false := by rfl
theorem kit_ii : PySem.W.kitOne K (.type "int") (.type "int") = some true := by rfl
end
theorem mapAt {α β : Type} {f : α → β} {l : List α} {i : Nat} {x : β} (h : (l.map f)[i]? = some x) : ∃ n, l[i]? = some n ∧ x = f n := by
 rw [List.getElem?_map] at h
 cases e : l[i]? with
 | none => rw [e] at h; cases h
 | some n => rw [e] at h; exact ⟨n, rfl, (Option.some.inj h).symm⟩
theorem Sta.int1 {n : Int} (S : Sta B G0 H cs ((.int n, v) :: ds)) : v = .int n := S.top.int_of
theorem rd_gsub {to ti : TE} {t : TSet} {σ : L2.St} {N : L2.St → Hp → Prop} (h : to σ H fun o H1 => ti σ H1 fun i H2 => t o i v H2 fun H3 => N σ H3) : gSub to ti t v σ H N := h
theorem atI_neg1 {α : Type} {xs : List α} {x : α} (h : xs.getLast? = some x) : atI xs (-1) = some x := by
 obtain ⟨ys, rfl⟩ : ∃ ys, xs = ys ++ [x] := by
  have hne : xs ≠ [] := by intro e; subst e; simp at h
  refine ⟨xs.dropLast, ?_⟩
  rw [List.getLast?_eq_some_getLast hne] at h
  rw [← Option.some.inj h, List.dropLast_concat_getLast]
 exact atI_last ys x
theorem ixN_neg1 {n : Nat} (h : 0 < n) : ixN n (-1) = some (n - 1) := by
 unfold ixN
 rw [if_neg (by omega), if_pos (by omega)]
 congr 1
 omega
theorem Dats.nil : ∀ p ∈ ([] : Dat), Has ds p.1 p.2 := fun p hp => absurd hp List.not_mem_nil
theorem Dats.cons {x : PyData} {r : Dat} (h : Has ds x v) (g : ∀ p ∈ r, Has ds p.1 p.2) : ∀ p ∈ (x, v) :: r, Has ds p.1 p.2 := fun p hp => by
 rcases List.mem_cons.mp hp with rfl | hp
 ·exact h
 ·exact g p hp
theorem rd_ifand {p q : Bool} {A X Y : Prop} (hA : (if q = true then X else Y) → A) (h1 : (p && q) = true → X) (h2 : (p && q) = false → Y) : if p = true then A else (if false = true then X else Y) := by
 cases p with
 | false => exact h2 rfl
 | true =>
   refine hA ?_
   cases q with
   | false => exact h2 rfl
   | true => exact h1 rfl
theorem rd_ifor {p q : Bool} {A X Y : Prop} (hA : (if q = true then X else Y) → A) (h1 : (p || q) = true → X) (h2 : (p || q) = false → Y) : if p = true then (if true = true then X else Y) else A := by
 cases p with
 | true => exact h1 rfl
 | false =>
   refine hA ?_
   cases q with
   | false => exact h2 rfl
   | true => exact h1 rfl
theorem seq_cut' {t u : TS} {D : Ends} {σ : L2.St} (M : L2.St → Hp → Prop) (h2 : ∀ σ' H', M σ' H' → u D σ' H') (h1 : (∀ σ' H', M σ' H' → u D σ' H') → t (mkD D (u D)) σ H) : tSeq t u D σ H := h1 h2
theorem fmod_le {x n : Int} (h : 0 < n) : 0 ≤ x.fmod n ∧ x.fmod n < n := by
 rw [Int.fmod_eq_emod_of_nonneg x (by omega)]
 exact ⟨Int.emod_nonneg x (by omega), Int.emod_lt_of_pos x h⟩
def kPart (R : Option Int → Hp → Prop) : VK := fun x H1 => ∃ i, x = .int i ∧ R (some i) H1
section
variable {σ : L2.St} {R : Option Int → Hp → Prop} {K : PySem.W.Frag}
theorem rd_sl {r : V → Option Int → Option Int → Hp → VK → Prop} {te : TE} {tl th : TO} (h : te σ H fun x H1 => tl σ H1 fun l H2 => th σ H2 fun u H3 => r x l u H3 Q) : tSl r te tl th σ H Q := h
theorem rd_noPart (h : R none H) : tNoPart σ H R := h
theorem rd_part {t : TE} (h : t σ H (kPart R)) : tPart t σ H R := h
theorem rd_kPart {i : Int} (h : R (some i) H) : kPart R (.int i) H := ⟨i, rfl, h⟩
def cutI (ns : List Int) (lo hi : Option Int) : List Int := (ns.drop (HT.sIx ns.length 0 lo)).take (HT.sIx ns.length ns.length hi - HT.sIx ns.length 0 lo)
theorem isAll_of_ints {G : Hp} : ∀ ns : List Int, IsAll G (ns.map PyData.int) (ns.map V.int)
 | [] => by rw [List.map_nil, List.map_nil, IsAll]
 | n :: ns => by rw [List.map_cons, List.map_cons, IsAll]; exact ⟨_, _, rfl, by rw [Is], isAll_of_ints ns⟩
theorem rd_slS {a : Addr} {ns : List Int} {lo hi : Option Int} (S : Sta B G0 H cs ds) (hS : SqL K H a (ns.map V.int)) (k : ∀ l H', Same H H' → Sta B G0 H' ((l, (cutI ns lo hi).map PyData.int) :: cs) ds → Q (.ref l) H') : rSlL K (.ref a) lo hi H Q := by
 refine ⟨a, _, rfl, hS, fun l hl => k l _ (Same.new hl _) ?_⟩
 have e : cutV (ns.map V.int) lo hi = (cutI ns lo hi).map V.int := by
  unfold cutV cutI
  rw [List.length_map, ← List.map_drop, ← List.map_take]
 rw [e]
 exact S.newL hl fun G _ => isAll_of_ints _
end
end
end S
namespace L2
open PySem PySem.W PySem.Spec PySem.Calls PyProof.Rows
section
variable {X : Cx} {e v1 v2 : Expr} {es rest : List Expr} {te : TE} {pos p2 : Pos}
abbrev TJ := Str → TE
def PJ (X : Cx) (es : List Expr) (t : TJ) : Prop := ∀ (pins : List (Addr × Obj)) (s : Shared) (σ : St) (H : Hp) (out : Str) (Q : VK), Inv X pins σ H s → t out σ H Q → wpAny (model X.prog X.w) X.A (joinParts out (evalEach es X.env)) (EP X pins σ Q) X.xe s
def jNil : TJ := fun out _ H Q => out.length ≤ sizeLine ∧ Q (.str out) H
def jCons (te : TE) (t : TJ) : TJ := fun out σ H Q => te σ H fun x H1 => ∃ y, x = .str y ∧ (out ++ y).length ≤ sizeLine ∧ t (out ++ y) σ H1 Q
theorem pj_nil : PJ X [] jNil := fun _ _ _ H out _ I h => joinParts_nil ⟨.str out, H, I.tok _, ⟨_, rfl⟩, h.2⟩ h.1
theorem pj_cons {t : TJ} (he : PE X e te) (hr : PJ X es t) : PJ X (e :: es) (jCons te t) := by
 intro pins s σ H out Q I h
 refine joinParts_cons (thn (he pins s σ H _ I h) fun u s1 ⟨x, H1, I1, rx, y, ex, hl, q⟩ => ?_)
 subst ex
 obtain ⟨t', rfl⟩ := (show ∃ t, u = Value.str y t from rx)
 exact ⟨hl, hr pins s1 σ H1 _ Q I1 q⟩
theorem pe_joined {t : TJ} (h : PJ X (v1 :: v2 :: rest) t) : PE X (.JoinedStr (v1 :: v2 :: rest) pos) (t Str.empty) := fun pins s σ H Q I hw => JoinedStr_many (h pins s σ H Str.empty Q I hw)
def tFmt (te : TE) : TE := fun σ H Q => te σ H fun x H1 => (∃ y, x = .str y ∧ y.length ≤ sizeLine ∧ Q (.str y) H1) ∨ ∃ i : Int, x = .int i ∧ i.natAbs.log2 < 1920 ∧ Q (.str (toString i)) H1
theorem pe_fmt (he : PE X e te) : PE X (.FormattedValue e (-1) none pos) (tFmt te) := by
 intro pins s σ H Q I h
 refine FormattedValue_plain (thn (he pins s σ H _ I h) fun u s1 ⟨x, H1, I1, rx, q⟩ => ?_)
 rcases q with ⟨y, ex, hl, q⟩ | ⟨i, ex, hl, q⟩
 ·subst ex
  obtain ⟨t', rfl⟩ := (show ∃ t, u = Value.str y t from rx)
  exact formatField_str (fun t' tk => ⟨.str y, H1, I1.tok tk, ⟨_, rfl⟩, q⟩) hl
 ·subst ex
  obtain ⟨t', rfl⟩ := (show ∃ t, u = Value.int i t from rx)
  exact formatField_int_small hl ⟨.str (toString i), H1, I1.tok _, ⟨_, rfl⟩, q⟩
theorem strs_of : ∀ {ys : List Str} {us : List Value}, Vals (ys.map V.str) us → ∃ l, us = strValues l ∧ l.map (·.1) = ys
 | [], us, r => by
   rw [List.map_nil] at r
   cases r
   exact ⟨[], rfl, rfl⟩
 | y :: ys, us, r => by
   rw [List.map_cons] at r
   cases r with
   | cons r1 r2 =>
     obtain ⟨t, rfl⟩ := r1
     obtain ⟨l, rfl, h⟩ := strs_of r2
     exact ⟨(y, t) :: l, rfl, by rw [List.map_cons, h]⟩
def rJoin (K : PySem.W.Frag) : V → List V → Hp → VK → Prop := fun x xs H Q => ∃ sep p ys, x = .str sep ∧ xs = [.ref p] ∧ SqL K H p (ys.map V.str) ∧ JoinOk sep ys = true ∧ Q (.str (Txt.join sep ys)) H
theorem mt_join : MtR X "str.join" (rJoin X.K) := by
 intro pins s σ H x xs v us Q I rx r h
 obtain ⟨sep, p, ys, rfl, rfl, hq, hok, q⟩ := h
 obtain ⟨t, rfl⟩ := (show ∃ t, v = Value.str sep t from rx)
 obtain ⟨u, rfl, r1⟩ := vals1 r
 cases (show u = Value.ref p from r1)
 obtain ⟨its, rv, pl, _⟩ := I.list hq
 obtain ⟨l, rfl, hl⟩ := strs_of rv
 exact SC.join pl.isList hl hok fun t' k => ⟨.str (Txt.join sep ys), H, I.tok k, ⟨_, rfl⟩, q⟩
theorem pe_ccall {CX : CXT} {k : Nat} {f C : Addr} {fd : FuncData} {ps : List Str} {sp : Sp} {E : XK} {c m : Str} {p apos : Pos} {t : TA} {pl : Sem Bool} (hg : Gl X c) (hm : X.mg c = some (.ref C))
 (hs : specialIn X.K (.ref C) "__getattribute__" = some (some (.builtin "type.__getattribute__"))) (hrd : readsIn X.K C (.type "type") = true) (hf : findCls X.K (.ref C) (.type "type") m = some (.val (.ref f)))
 (F : FnOk X.prog X.w X.K X.mg X.base CX k f fd ps sp) (hr : Room k X.A) (hk : PySem.W.keepIn X.K (.ref f) = true) (hb : Binds X.K fd ps []) (hx : Passes CX X E) (ha : PA X (e :: es) t)
 (hd : (c == ("__debug__" : Str)) = false := by decide) (hst : starEach (e :: es) X.env = (false, eval e X.env) :: starEach es X.env := by rfl) (hpl : (backTo pos (starEach es X.env)).any (·.1) = false := by rfl)
 (ht : eval (.Call (.Attribute (.Name c p) m apos) (e :: es) [] pos) X.env = (do
  let ov ← eval (.Name c p) X.env
  standAt apos.atName
  let (f, first) ← holding [ov] (getMethod ov m pl)
  callWith pos f first (backTo pos (starEach (e :: es) X.env)) (backToKw pos (keywordEach [] X.env))) := by rfl) :
 PE X (.Call (.Attribute (.Name c p) m apos) (e :: es) [] pos) (tCall sp [] E t) := by
 intro pins s σ H Q I h
 refine PySem.W.methodCall_KW (pl := pl) (ld_glob I hg hm ?_ hd) ht
 refine method_cls I.kIn hs (cls_value I.kIn hrd hf rfl ?_)
 have I1 := I.tok (s.toks + 1)
 refine PySem.W.callWith_K (first := []) (h₀ := X.base) I.ok.mod.kin hk (thn (ha pos pins _ σ H _ I1 h) fun us s2 ⟨vs, H2, I2, r, q2⟩ => ⟨I2.kIn, ?_⟩) hst hpl
 exact run_fn (us := us) (vs := vs) F hr hb .nil hx I2 r q2
def tMethA (K : PySem.W.Frag) (m : Str) (f : Addr) (sp : Sp) (E : XK) (ta : TE) : TE := fun σ H Q => ta σ H fun x H1 => ∃ a C dx fs, x = .ref a ∧ H1 a = some (.ins C dx fs) ∧ Cls K C ∧ Meth K C m f ∧ fs.lookup m = none ∧ sp [x] H1 Q E
theorem pe_methA {CX : CXT} {k : Nat} {f : Addr} {fd : FuncData} {ps : List Str} {sp : Sp} {E : XK} {m : Str} {apos : Pos} {pl : Sem Bool} (he : PE X e te) (F : FnOk X.prog X.w X.K X.mg X.base CX k f fd ps sp) (hr : Room k X.A) (hb : Binds X.K fd ps []) (hx : Passes CX X E)
 (ht : eval (.Call (.Attribute e m apos) [] [] pos) X.env = (do
  let ov ← eval e X.env
  standAt apos.atName
  let (f, first) ← holding [ov] (getMethod ov m pl)
  callWith pos f first (backTo pos (starEach [] X.env)) (backToKw pos (keywordEach [] X.env))) := by rfl) :
 PE X (.Call (.Attribute e m apos) [] [] pos) (tMethA X.K m f sp E te) := by
 intro pins s σ H Q I h
 refine PySem.W.methodCall_KW (pl := pl) (thn (he pins s σ H _ I h) fun u s1 ⟨x, H1, I1, rx, a, C, dx, fs, ex, ea, c, k, l, q⟩ => ?_) ht
 subst ex
 cases (show u = Value.ref a from rx)
 refine getmeth_ok I1 ea c k l ?_
 exact PySem.W.callWith_K0 (first := [.ref a]) I1.kIn k.kp (run_fn (us := [.ref a]) (vs := [.ref a]) F hr hb .nil hx I1 (.cons rfl .nil) q)
def rIsC (K : PySem.W.Frag) : List V → Hp → VK → Prop := fun xs H Q => ∃ (x : V) (c : Addr) (t : Value) (b : Bool), xs = [x, .ref c] ∧ TyOf K H x t ∧ PySem.W.kitOne K t (.ref c) = some b ∧ Q (.bl b) H
theorem call_isC : CallR X (.builtin "isinstance") (rIsC X.K) := by
 intro pins s σ H xs us Q I r h
 obtain ⟨x, c, t, b, rfl, ty, e, q⟩ := h
 obtain ⟨u, w', rfl, r1, r2⟩ := vals2 r
 cases (show w' = Value.ref c from r2)
 exact isinst_ok I r1 ty e fun tk => ⟨.bl b, H, I.tok tk, rfl, q⟩
end
end L2
namespace S
open PySem PySem.Spec PyProof.Rows L2
inductive Rl where
 | shares | evenly | losses | halves
 | other (r : Rl) | ranks (r : Rl) | groups (a b : Rl) | upto (t b : Int) (x y : Rl)
def itS (i : Int) : Str := Str.ofString (toString i)
def Rl.shape : Rl → PyData
 | .shares => .tuple [.str "shares"]
 | .evenly => .tuple [.str "evenly"]
 | .losses => .tuple [.str "losses"]
 | .halves => .tuple [.str "halves"]
 | .other r => .tuple [.str "other", r.shape]
 | .ranks r => .tuple [.str "ranks", r.shape]
 | .groups a b => .tuple [.str "groups", a.shape, b.shape]
 | .upto t b x y => .tuple [.str "upto", .tuple [.int t, .int b], x.shape, y.shape]
def Rl.text : Rl → Str
 | .shares => "shares"
 | .evenly => "evenly"
 | .losses => "losses"
 | .halves => "halves"
 | .other r => ("other(" : Str) ++ r.text ++ (")" : Str)
 | .ranks r => ("ranks(" : Str) ++ r.text ++ (")" : Str)
 | .groups a b => ("groups(" : Str) ++ a.text ++ (", " : Str) ++ b.text ++ (")" : Str)
 | .upto t b x y => ("upto(" : Str) ++ itS t ++ ("/" : Str) ++ itS b ++ (", " : Str) ++ x.text ++ (", " : Str) ++ y.text ++ (")" : Str)
def Rl.size : Rl → Nat
 | .other r => r.size + 1
 | .ranks r => r.size + 1
 | .groups a b => a.size + b.size + 1
 | .upto _ _ x y => x.size + y.size + 1
 | _ => 1
def Rl.deep : Rl → Nat
 | .other r => r.deep + 1
 | .ranks r => r.deep + 1
 | .groups a b => max a.deep b.deep + 1
 | .upto _ _ x y => max x.deep y.deep + 1
 | _ => 1
def PortOk (t b : Int) : Prop := (Sz 210 t ∧ Sz 210 b) ∧ 0 < t ∧ t < b ∧ Int.gcd t b = 1 ∧ b ≤ 10 ^ 28 + 2
def Rl.Ok : Rl → Prop
 | .other r => r.Ok
 | .ranks r => r.Ok
 | .groups a b => a.Ok ∧ b.Ok
 | .upto t b x y => PortOk t b ∧ x.Ok ∧ y.Ok
 | _ => True
def Rl.Wid : Rl → Prop
 | .other r => r.Wid
 | .ranks r => r.Wid
 | .groups a b => a.Wid ∧ b.Wid
 | .upto t b x y => (Sz 1900 t ∧ Sz 1900 b) ∧ x.Wid ∧ y.Wid
 | _ => True
theorem Rl.size_pos : ∀ r : Rl, 1 ≤ r.size
 | .shares => Nat.le_refl _
 | .evenly => Nat.le_refl _
 | .losses => Nat.le_refl _
 | .halves => Nat.le_refl _
 | .other r => Nat.le_add_left ..
 | .ranks r => Nat.le_add_left ..
 | .groups a b => Nat.le_add_left ..
 | .upto _ _ x y => Nat.le_add_left ..
theorem str_assoc (a b c : Str) : a ++ b ++ c = a ++ (b ++ c) := by
 show Str.append (Str.append a b) c = Str.append a (Str.append b c)
 unfold Str.append
 rw [Array.append_assoc]
theorem str_len (a b : Str) : (a ++ b).length = a.length + b.length := by
 show (Str.append a b).length = _
 unfold Str.append Str.length
 rw [Array.size_append]
theorem empty_app (a : Str) : Str.empty ++ a = a := by
 show Str.append Str.empty a = a
 unfold Str.append Str.empty
 rw [Array.empty_append]
theorem glued1 (g x : Str) : Builtin.Str.glued g [x] = x := rfl
theorem glued2 (g x y : Str) : Builtin.Str.glued g [x, y] = x ++ g ++ y := rfl
theorem glued3 (g x y z : Str) : Builtin.Str.glued g [x, y, z] = x ++ g ++ y ++ g ++ z := rfl
theorem sz_log2 {n : Nat} {x : Int} (h : Sz n x) (l : n ≤ 1919) : x.natAbs.log2 < 1920 := by
 by_cases h0 : x.natAbs = 0
 ·rw [h0]; decide +kernel
 ·have := (Nat.log2_lt h0).mpr (Sz.mono h l)
  omega
theorem itS_len {i : Int} (h : Sz 210 i) : (itS i).length ≤ 1921 := int_text_len_1921 (sz_log2 h (by decide))
theorem itS_lenW {i : Int} (h : Sz 1900 i) : (itS i).length ≤ 1921 := int_text_len_1921 (sz_log2 h (by decide))
theorem Rl.text_len : ∀ r : Rl, r.Ok → r.text.length ≤ 4000 * r.size
 | .shares, _ => by decide
 | .evenly, _ => by decide
 | .losses, _ => by decide
 | .halves, _ => by decide
 | .other r, h => by
   have h1 := r.text_len h
   simp only [Rl.text, Rl.size, str_len]
   have l1 : ("other(" : Str).length = 6 := by decide +kernel
   have l2 : (")" : Str).length = 1 := by decide +kernel
   omega
 | .ranks r, h => by
   have h1 := r.text_len h
   simp only [Rl.text, Rl.size, str_len]
   have l1 : ("ranks(" : Str).length = 6 := by decide +kernel
   have l2 : (")" : Str).length = 1 := by decide +kernel
   omega
 | .groups a b, h => by
   have h1 := a.text_len h.1
   have h2 := b.text_len h.2
   simp only [Rl.text, Rl.size, str_len]
   have l1 : ("groups(" : Str).length = 7 := by decide +kernel
   have l2 : (")" : Str).length = 1 := by decide +kernel
   have l3 : (", " : Str).length = 2 := by decide +kernel
   omega
 | .upto t b x y, h => by
   have h1 := x.text_len h.2.1
   have h2 := y.text_len h.2.2
   have h3 := itS_len h.1.1.1
   have h4 := itS_len h.1.1.2
   simp only [Rl.text, Rl.size, str_len]
   have l1 : ("upto(" : Str).length = 5 := by decide +kernel
   have l2 : (")" : Str).length = 1 := by decide +kernel
   have l3 : (", " : Str).length = 2 := by decide +kernel
   have l4 : ("/" : Str).length = 1 := by decide +kernel
   omega
structure RAd where
 (sh ev lo ha ot ra gr up : Addr)
def RAd.cls (A : RAd) : Rl → Addr
 | .shares => A.sh
 | .evenly => A.ev
 | .losses => A.lo
 | .halves => A.ha
 | .other _ => A.ot
 | .ranks _ => A.ra
 | .groups _ _ => A.gr
 | .upto _ _ _ _ => A.up
def insD (C : Addr) (form : PyData) : PyData := .dict [(.int ((C : Nat) : Int), form)]
def Rl.ins (A : RAd) (r : Rl) : PyData := insD (A.cls r) r.shape
def Rl.trip (A : RAd) (r : Rl) : PyData := .tuple [r.ins A, r.shape, .str r.text]
structure ROk (K : PySem.W.Frag) (fS fT Ru C : Addr) : Prop where
 cl : Cls K C
 na : NoAttr K C "form"
 ms : Meth K C "shape" fS
 mt : Meth K C "text" fT
 ha : PySem.W.findIn K (.ref C) "__class__" = some (some (.builtin "object.__class__"))
 hn : PySem.W.specialIn K (.builtin "object.__class__") "__get__" = some (some (.builtin "getset_descriptor.__get__"))
 htk : PySem.W.takesIn K (.builtin "object.__class__") = some true
 hm : PySem.W.mroIn K C (.type "object") = some true
 kit : PySem.W.kitOne K (.ref C) (.ref Ru) = some true
section
variable {B G0 H : Hp} {cs : Cells} {ds : Dat} {Q : VK} {E : XK} {v w u : V} {K : PySem.W.Frag} {α : Type} {C : Addr} {x : PyData} {vs : List V}
theorem is_ins {G : Hp} (h : Is G (insD C x) v) : ∃ p dx w, v = .ref p ∧ G p = some (.ins C dx [("form", w)]) ∧ Is G x w := by
 unfold insD at h
 rw [Is, IsIn] at h
 obtain ⟨p, C', dx, w, e, h1, h2, h3⟩ := h
 have : C = C' := Int.ofNat.inj (PyData.int.inj e)
 subst this
 exact ⟨p, dx, w, h1, h2, h3⟩
theorem Sta.ins (S : Sta B G0 H cs ds) (h : Has ds (insD C x) v) : ∃ p dx w, v = .ref p ∧ H p = some (.ins C dx [("form", w)]) ∧ Sta B G0 H cs ((x, w) :: ds) := by
 obtain ⟨G, a, b, c, d, e, f, g⟩ := S
 obtain ⟨p, dx, w, h1, h2, h3⟩ := is_ins (h G g)
 exact ⟨p, dx, w, h1, b _ _ h2, G, a, b, c, d, e, f, g.cons h3⟩
def kFld (K : PySem.W.Frag) (f : Str) (Q : VK) : VK := fun x H1 => ∃ a C dx fs v, x = .ref a ∧ H1 a = some (.ins C dx fs) ∧ Cls K C ∧ NoAttr K C f ∧ fs.lookup f = some v ∧ Q v H1
theorem rd_fld {ta : TE} {f : Str} {σ : L2.St} (h : ta σ H (kFld K f Q)) : tFld K ta f σ H Q := h
theorem rd_kFld {fS fT Ru : Addr} (S : Sta B G0 H cs ds) (h : Has ds (insD C x) v) (ok : ROk K fS fT Ru C) (k : ∀ w, Sta B G0 H cs ((x, w) :: ds) → Q w H) : kFld K "form" Q v H := by
 obtain ⟨p, dx, w, rfl, hp, S'⟩ := S.ins h
 exact ⟨p, C, dx, _, w, rfl, hp, ok.cl, ok.na, rfl, k w S'⟩
def kMA (K : PySem.W.Frag) (m : Str) (f : Addr) (sp : Sp) (E : XK) (Q : VK) : VK := fun x H1 => ∃ a C dx fs, x = .ref a ∧ H1 a = some (.ins C dx fs) ∧ Cls K C ∧ Meth K C m f ∧ fs.lookup m = none ∧ sp [x] H1 Q E
theorem rd_methA {m : Str} {f : Addr} {sp : Sp} {ta : TE} {σ : L2.St} (h : ta σ H (kMA K m f sp E Q)) : tMethA K m f sp E ta σ H Q := h
theorem rd_kMS {fS fT Ru : Addr} {sp : Sp} (S : Sta B G0 H cs ds) (h : Has ds (insD C x) v) (ok : ROk K fS fT Ru C) (k : sp [v] H Q E) : kMA K "shape" fS sp E Q v H := by
 obtain ⟨p, dx, w, rfl, hp, S'⟩ := S.ins h
 exact ⟨p, C, dx, _, rfl, hp, ok.cl, ok.ms, rfl, k⟩
theorem rd_kMT {fS fT Ru : Addr} {sp : Sp} (S : Sta B G0 H cs ds) (h : Has ds (insD C x) v) (ok : ROk K fS fT Ru C) (k : sp [v] H Q E) : kMA K "text" fT sp E Q v H := by
 obtain ⟨p, dx, w, rfl, hp, S'⟩ := S.ins h
 exact ⟨p, C, dx, _, rfl, hp, ok.cl, ok.mt, rfl, k⟩
theorem rd_isC {fS fT Ru : Addr} (S : Sta B G0 H cs ds) (h : Has ds (insD C x) v) (ok : ROk K fS fT Ru C) (k : Q (.bl true) H) : rIsC K [v, .ref Ru] H Q := by
 obtain ⟨p, dx, w, rfl, hp, S'⟩ := S.ins h
 exact ⟨_, Ru, _, true, rfl, .ins hp ok.cl ok.ha ok.hn ok.htk ok.hm, ok.kit, k⟩
def spInit (C : Addr) (enc : α → List PyData) (form : α → PyData) : Sp := fun vs H Q _ => ∃ (G : Hp) (a : α) (x dx : Addr) (us : List V), vs = .ref x :: us ∧ Same G H ∧ G x = none ∧ H x = some (.ins C dx []) ∧ IsAll G (enc a) us ∧
 ∀ H' G' w, (∀ p o, p ≠ x → H p = some o → H' p = some o) → Same G G' → Same G' H' → (∀ p, H p ≠ none → G' p = G p) → H' x = some (.ins C dx [("form", w)]) → Is G' (form a) w → Q .non H'
def kMake (C : Addr) (sp : Sp) (E : XK) (Q : VK) (vs : List V) (H1 : Hp) : Prop := ∀ x dx, H1 x = none → H1 dx = none → dx ≠ x → sp (.ref x :: (vs ++ [])) (upd (upd H1 dx (.own x)) x (.ins C dx [])) (fun v H2 => v = .non ∧ Q (.ref x) H2) E
theorem rd_make {sp : Sp} {t : TA} {σ : L2.St} (h : t σ H (kMake C sp E Q)) : tMake C sp [] E t σ H Q := h
theorem rd_kMake {enc : α → List PyData} {form : α → PyData} (a : α) (S : Sta B G0 H cs ds) (hx : HasAll ds (enc a) vs) (k : ∀ x H', Same H H' → Sta B G0 H' cs ((insD C (form a), .ref x) :: ds) → Q (.ref x) H') : kMake C (spInit C enc form) E Q vs H := by
 intro x dx hx0 hd0 hne
 obtain ⟨G, s1, s2, s3, s4, s5, s6, s7⟩ := S
 have gx : G x = none := s2.free hx0
 have gd : G dx = none := s2.free hd0
 have old : ∀ p o, H p = some o → upd (upd H dx (.own x)) x (.ins C dx []) p = some o := fun p o hp => by
  rw [upd_ne (ne_of_none hp hx0), upd_ne (ne_of_none hp hd0)]; exact hp
 refine ⟨G, a, x, dx, vs, by rw [List.append_nil], fun p o hp => old p o (s2 p o hp), gx, upd_same, hx G s7, fun H' G' w h1 h2 h3 h4 h5 h6 => ⟨rfl, ?_⟩⟩
 have keep : ∀ p o, H p = some o → H' p = some o := fun p o hp => h1 p o (ne_of_none hp hx0) (old p o hp)
 have gx' : G' x = none := by rw [h4 x (by rw [upd_same]; simp)]; exact gx
 have eG := Same.new gx' (.ins C dx [("form", w)])
 refine k x H' keep ⟨upd G' x (.ins C dx [("form", w)]), (s1.trans h2).trans eG, fun p o hp => ?_, fun p o hp => keep p o (s3 p o hp), fun p hp => ?_, fun c hc => ?_, s6, (s7.mono (h2.trans eG)).cons ?_⟩
 ·by_cases hpx : p = x
  ·subst hpx; rw [upd_same] at hp; rw [← hp]; exact h5
  ·rw [upd_ne hpx] at hp; exact h3 p o hp
 ·cases hb : B p with
  | none => exact absurd hb hp
  | some o =>
    have hH := s3 p o hb
    rw [upd_ne (ne_of_none hH hx0), h4 p (by rw [old p o hH]; simp), s4 p hp]
 ·obtain ⟨z1, z2, us, z3, z4⟩ := s5 c hc
  have hcx := ne_of_none z3 hx0
  exact ⟨z1, by rw [upd_ne hcx, h4 c.1 (by rw [old _ _ z3]; simp)]; exact z2, us, keep _ _ z3, IsAll.mono (h2.trans eG) _ _ z4⟩
 ·unfold insD
  rw [Is, IsIn]
  exact ⟨x, C, dx, w, rfl, rfl, upd_same, Is.mono eG _ _ h6⟩
def spRInit (K : PySem.W.Frag) (fS fT Ru : Addr) : Sp := fun vs H Q E => ∃ C, ROk K fS fT Ru C ∧ spInit C (α := PyData) (fun d => [d]) (fun d => d) vs H Q E
theorem rd_rinit {fS fT Ru y dx : Addr} {G H1 : Hp} {d : PyData} (S : Sta H G H1 [] ds) (gx : G y = none) (hx : H y = some (.ins C dx [])) (ok : ROk K fS fT Ru C) (hd : Has ds d v)
 (k : ∀ H' G' w, (∀ p o, p ≠ y → H p = some o → H' p = some o) → Same G G' → Same G' H' → (∀ p, H p ≠ none → G' p = G p) → H' y = some (.ins C dx [("form", w)]) → Is G' d w → Q .non H') : spRInit K fS fT Ru [.ref y, v] H1 Q E := by
 obtain ⟨G1, a1, b1, c1, d1, _, _, g1⟩ := S
 refine ⟨C, ok, G1, d, y, dx, [v], rfl, b1, by rw [d1 y (by rw [hx]; simp)]; exact gx, c1 _ _ hx, (HasAll.cons hd HasAll.nil) G1 g1, fun H' G' w h1 h2 h3 h4 h5 h6 => k H' G' w (fun p o hp ho => h1 p o hp (c1 p o ho)) (a1.trans h2) h3 (fun p hp => ?_) h5 h6⟩
 rw [h4 p ?_, d1 p hp]
 cases hb : H p with
 | none => exact absurd hb hp
 | some o => rw [c1 p o hb]; simp
def kJ (t : TJ) (out : Str) (σ : L2.St) (Q : VK) : VK := fun x H1 => ∃ y, x = .str y ∧ (out ++ y).length ≤ sizeLine ∧ t (out ++ y) σ H1 Q
theorem rd_jCons {te : TE} {t : TJ} {out : Str} {σ : L2.St} (h : te σ H (kJ t out σ Q)) : jCons te t out σ H Q := h
theorem rd_kJ {t : TJ} {out y : Str} {σ : L2.St} (hl : out.length + y.length ≤ 1000000) (h : t (out ++ y) σ H Q) : kJ t out σ Q (.str y) H := ⟨y, rfl, by rw [str_len]; exact Nat.le_trans hl (by decide), h⟩
theorem rd_jNil {out : Str} {σ : L2.St} (hl : out.length ≤ 1000000) (h : Q (.str out) H) : jNil out σ H Q := ⟨Nat.le_trans hl (by decide), h⟩
def kFmt (Q : VK) : VK := fun x H1 => (∃ y, x = .str y ∧ y.length ≤ sizeLine ∧ Q (.str y) H1) ∨ ∃ i : Int, x = .int i ∧ i.natAbs.log2 < 1920 ∧ Q (.str (toString i)) H1
theorem rd_fmt {te : TE} {σ : L2.St} (h : te σ H (kFmt Q)) : tFmt te σ H Q := h
theorem rd_kFmtS {y : Str} (hl : y.length ≤ 1000000) (h : Q (.str y) H) : kFmt Q (.str y) H := .inl ⟨y, rfl, Nat.le_trans hl (by decide), h⟩
theorem rd_kFmtI {i : Int} (hz : Sz 1900 i) (h : Q (.str (itS i)) H) : kFmt Q (.int i) H := .inr ⟨i, rfl, sz_log2 hz (by decide), h⟩
def rAddS : R2 := fun x y H Q => rAddA x y H Q ∨ ∃ i j, x = .str i ∧ y = .str j ∧ i.length + j.length ≤ sizeLine ∧ Q (.str (i ++ j)) H
theorem op_addS {X : Cx} : OpR X (binaryOp .Add) rAddS := op_addA.or op_add_str
theorem rd_addS {i j : Str} (hl : i.length + j.length ≤ 1000000) (h : Q (.str (i ++ j)) H) : rAddS (.str i) (.str j) H Q := .inr ⟨i, j, rfl, rfl, Nat.le_trans hl (by decide), h⟩
theorem rd_addSI {i j : Int} (h : Q (.int (i + j)) H) : rAddS (.int i) (.int j) H Q := .inl (rd_addI h)
theorem rd_eqS {i j : Str} (h : Q (.bl (decide (i = j))) H) : rEqA (.str i) (.str j) H Q := .inl ⟨rfl, by
 rw [dec_congr (show V.str i = V.str j ↔ i = j from ⟨V.str.inj, congrArg _⟩)]; exact h⟩
theorem rd_neS {i j : Str} (h : Q (.bl (!decide (i = j))) H) : rNeA (.str i) (.str j) H Q := .inl ⟨rfl, by
 rw [dec_congr (show V.str i = V.str j ↔ i = j from ⟨V.str.inj, congrArg _⟩)]; exact h⟩
def rStrI : List V → Hp → VK → Prop := fun xs H Q => ∃ i : Int, xs = [.int i] ∧ i.natAbs.log2 < 1920 ∧ Q (.str (toString i)) H
theorem call_strI {X : Cx} : CallR X (.type "str") rStrI := call_str_int
theorem rd_strI {i : Int} (hz : Sz 210 i) (h : Q (.str (itS i)) H) : rStrI [.int i] H Q := ⟨i, rfl, sz_log2 hz (by decide), h⟩
theorem Is.str_of {x : Str} (h : Is H (.str x) v) : v = .str x := by rw [Is] at h; exact h
theorem rd_pop {L : Addr} {xs : List PyData} (S : Sta B G0 H ((L, xs ++ [x]) :: cs) ds) (k : ∀ v H', Sta B G0 H' ((L, xs) :: cs) ((x, v) :: ds) → Q v H') : rPop (.ref L) [] H Q := by
 obtain ⟨G, a, b, c, d, e, f, g⟩ := S
 obtain ⟨z1, z2, vs, z, u⟩ := e _ (List.mem_cons_self ..)
 have hl := u.len
 rw [List.length_append, List.length_singleton] at hl
 obtain ⟨y, hy, hi⟩ := u.at (i := xs.length) (x := x) (by simp)
 have S' : Sta B G0 H ((L, xs ++ [x]) :: cs) ((x, y) :: ds) := ⟨G, a, b, c, d, e, f, g.cons hi⟩
 obtain ⟨vs', hv', _, put⟩ := S'.put
 rw [z] at hv'
 cases hv'
 refine ⟨L, vs, y, rfl, rfl, z, by rw [show vs.length - 1 = xs.length by omega]; exact hy, k y _ (put xs vs.dropLast fun G' _ h => ?_)⟩
 have h' := h.take xs.length
 rw [List.take_left'] at h'
 ·rw [List.dropLast_eq_take, show vs.length - 1 = xs.length by omega]
  exact h'
 ·rfl
theorem rd_slT {lo hi : Option Int} {xs : List PyData} (S : Sta B G0 H cs ds) (hx : Has ds (.tuple xs) v) (hw : ¬ (HT.sIx xs.length 0 lo = 0 ∧ HT.sIx xs.length xs.length hi = xs.length)) (k : ∀ l H', Same H H' → Sta B G0 H' cs ((.tuple (cutD xs lo hi), .ref l) :: ds) → Q (.ref l) H') : rSlT K v lo hi H Q := by
 obtain ⟨p, vs, rfl, hp, hl, S', hA⟩ := S.tupAll hx
 refine ⟨p, vs, rfl, SqT.of hp, by rw [← hl]; exact hw, fun l hn => k l _ (Same.new hn _) ((S'.newT hn fun G a => ?_).dat fun q hq => .mem (by
  rcases List.mem_cons.mp hq with rfl | hq
  ·exact List.mem_cons_self ..
  ·exact List.mem_cons_of_mem _ (List.mem_append_right _ hq)))⟩
 unfold cutD cutV
 rw [hl]
 exact ((hA G a).drop _).take _
theorem rd_kBMs {sep : Str} {r : V → List V → Hp → VK → Prop} {t : TA} {σ : L2.St} (h : t σ H fun ys H2 => r (.str sep) ys H2 Q) : kBM K "str" r t σ Q (.str sep) H := ⟨rfl, h⟩
theorem isAll_strs {G : Hp} : ∀ {ns : List Str} {vs : List V}, IsAll G (ns.map PyData.str) vs → vs = ns.map V.str
 | [], vs, h => by rw [List.map_nil, IsAll] at h; exact h
 | n :: ns, vs, h => by
   rw [List.map_cons, IsAll] at h
   obtain ⟨v, r, rfl, h1, h2⟩ := h
   rw [Is] at h1
   subst h1
   rw [isAll_strs h2, List.map_cons]
theorem rd_join {L : Addr} {sep : Str} {ys : List Str} (S : Sta B G0 H cs ds) (h : (L, ys.map PyData.str) ∈ cs) (hok : JoinOk sep ys = true) (k : Q (.str (Builtin.Str.glued sep ys)) H) : rJoin K (.str sep) [.ref L] H Q := by
 obtain ⟨vs, hp, u⟩ := S.vwC h
 obtain ⟨G, S'⟩ := id S
 rw [isAll_strs (u G S')] at hp
 exact ⟨sep, L, ys, rfl, rfl, SqL.of hp, hok, k⟩
theorem rd_ixTS {i : Int} {n : Str} {xs : List PyData} (S : Sta B G0 H cs ds) (hx : Has ds (.tuple xs) v) (hi : atI xs i = some (.str n)) (k : Q (.str n) H) : rIx K v (.int i) H Q :=
 rd_ixT S hx hi fun w S' => by have := S'.top; rw [Is] at this; subst this; exact k
theorem join_ok1 {a : Str} (h : a.length ≤ 100000) : JoinOk ", " [a] = true := by
 have l : (", " : Str).length = 2 := by decide +kernel
 have z : sizeLine = 16777216 := by decide
 unfold JoinOk
 rw [Bool.not_eq_true', Builtin.Str.tooLong, decide_eq_false_iff_not, ← Array.foldl_toList]
 show ¬ (0 + a.length + (", " : Str).length > sizeLine)
 omega
theorem join_ok2 {a b : Str} (h : a.length ≤ 100000) (g : b.length ≤ 100000) : JoinOk ", " [a, b] = true := by
 have l : (", " : Str).length = 2 := by decide +kernel
 have z : sizeLine = 16777216 := by decide
 unfold JoinOk
 rw [Bool.not_eq_true', Builtin.Str.tooLong, decide_eq_false_iff_not, ← Array.foldl_toList]
 show ¬ (0 + a.length + (", " : Str).length + b.length + (", " : Str).length > sizeLine)
 omega
theorem join_ok3 {a b c : Str} (h : a.length ≤ 100000) (g : b.length ≤ 100000) (f : c.length ≤ 100000) : JoinOk ", " [a, b, c] = true := by
 have l : (", " : Str).length = 2 := by decide +kernel
 have z : sizeLine = 16777216 := by decide
 unfold JoinOk
 rw [Bool.not_eq_true', Builtin.Str.tooLong, decide_eq_false_iff_not, ← Array.foldl_toList]
 show ¬ (0 + a.length + (", " : Str).length + b.length + (", " : Str).length + c.length + (", " : Str).length > sizeLine)
 omega
def spShape (A : RAd) : Sp := spT (α := Rl) (fun r => [r.ins A]) (fun _ => True) (fun r => r.shape)
theorem rd_shape {A : RAd} {r : Rl} (S : Sta B G0 H cs ds) (h : Has ds (r.ins A) v) (k : ∀ w H', Same H H' → Sta B G0 H' cs ((r.shape, w) :: ds) → Q w H') : spShape A [v] H Q E := rd_spT (α := Rl) r S (HasAll.cons h HasAll.nil) trivial k
def spText (A : RAd) (n : Nat) : Sp := spB (α := Rl) (fun r => [r.ins A]) (fun r => r.Wid ∧ r.text.length ≤ 2000 ∧ r.deep ≤ n) (fun r => .str r.text)
theorem rd_text {A : RAd} {n : Nat} {r : Rl} (S : Sta B G0 H cs ds) (h : Has ds (r.ins A) v) (ok : r.Wid) (hs : r.text.length ≤ 2000) (hd : r.deep ≤ n) (k : ∀ H', Sta B G0 H' cs ds → Q (.str r.text) H') : spText A n [v] H Q E := rd_spB (α := Rl) r (S.hpAll (HasAll.cons h HasAll.nil)) ⟨ok, hs, hd⟩ fun H' e => k H' (S.same e)
def spTextOf (n : Nat) : Sp := spB (α := Rl) (fun r => [r.shape]) (fun r => r.Wid ∧ r.text.length ≤ 2000 ∧ r.deep ≤ n) (fun r => .str r.text)
theorem rd_textof {n : Nat} {r : Rl} (S : Sta B G0 H cs ds) (h : Has ds r.shape v) (ok : r.Wid) (hs : r.text.length ≤ 2000) (hd : r.deep ≤ n) (k : ∀ H', Sta B G0 H' cs ds → Q (.str r.text) H') : spTextOf n [v] H Q E := rd_spB (α := Rl) r (S.hpAll (HasAll.cons h HasAll.nil)) ⟨ok, hs, hd⟩ fun H' e => k H' (S.same e)
def spPText : Sp := spB (α := Int × Int) (fun a => [.tuple [.int a.1, .int a.2]]) (fun a => Sz 1900 a.1 ∧ Sz 1900 a.2) (fun a => .str (itS a.1 ++ ("/" : Str) ++ itS a.2))
theorem rd_ptext {t b : Int} (S : Sta B G0 H cs ds) (h : Has ds (.tuple [.int t, .int b]) v) (h1 : Sz 1900 t) (h2 : Sz 1900 b) (k : ∀ H', Sta B G0 H' cs ds → Q (.str (itS t ++ ("/" : Str) ++ itS b)) H') : spPText [v] H Q E := rd_spB (α := Int × Int) (t, b) (S.hpAll (HasAll.cons h HasAll.nil)) ⟨h1, h2⟩ fun H' e => k H' (S.same e)
def spRl (A : RAd) (enc : α → List PyData) (dom : α → Prop) (good : α → Rl → Prop) : Sp := fun vs H Q _ => ∃ (G : Hp) (a : α), Same G H ∧ IsAll G (enc a) vs ∧ dom a ∧ ∀ v H' G' r, Grow G H G' H' → Is G' (r.trip A) v → good a r → Q v H'
theorem rd_rl {A : RAd} {enc : α → List PyData} {dom : α → Prop} {good : α → Rl → Prop} (a : α) (S : Sta B G0 H cs ds) (hx : HasAll ds (enc a) vs) (hd : dom a) (k : ∀ v H' r, Same H H' → Sta B G0 H' cs ((r.trip A, v) :: ds) → good a r → Q v H') : spRl A enc dom good vs H Q E := by
 obtain ⟨G, S⟩ := S
 refine ⟨G, a, S.2.1, hx G S.2.2.2.2.2.2, hd, fun v H' G' r gr hv hg => k v H' r gr.h ?_ hg⟩
 obtain ⟨a', b', c', d', e', f', g'⟩ := S.grow gr
 exact ⟨G', a', b', c', d', e', f', g'.cons hv⟩
theorem ret_Rl {A : RAd} {G H' : Hp} {good : Rl → Prop} {r : Rl} (S : Sta H G H' cs ds) (k : ∀ v H' G' r, Grow G H G' H' → Is G' (r.trip A) v → good r → Q v H') (h : Has ds (r.trip A) v) (hg : good r) : Q v H' :=
 let ⟨G', gr, al⟩ := S.leave; k v H' G' r gr (h G' al) hg
def spLeaf (A : RAd) : Sp := spRl A (α := Int) (fun n => [.int n]) (fun _ => True) (fun _ r => r.size = 1 ∧ r.Ok)
def spLone (A : RAd) : Sp := spRl A (α := Int × Rl) (fun a => [.int a.1, a.2.trip A]) (fun a => a.2.Ok ∧ a.2.size ≤ 12) (fun a r => r.size = a.2.size + 1 ∧ r.Ok)
def spPair (A : RAd) : Sp := spRl A (α := Int × (Int × Int) × Rl × Rl) (fun a => [.int a.1, .tuple [.int a.2.1.1, .int a.2.1.2], a.2.2.1.trip A, a.2.2.2.trip A]) (fun a => PortOk a.2.1.1 a.2.1.2 ∧ (a.2.2.1.Ok ∧ a.2.2.1.size ≤ 12) ∧ a.2.2.2.Ok ∧ a.2.2.2.size ≤ 12) (fun a r => r.size = a.2.2.1.size + a.2.2.2.size + 1 ∧ r.Ok)
theorem isAll4R {G : Hp} {x y z t : PyData} {vs : List V} (h : IsAll G [x, y, z, t] vs) : ∃ v w u r, vs = [v, w, u, r] ∧ AllIs G [(x, v), (y, w), (z, u), (t, r)] := by
 simp only [IsAll] at h
 obtain ⟨v, _, rfl, h1, w, _, rfl, h2, u, _, rfl, h3, r, _, rfl, h4, rfl⟩ := h
 exact ⟨v, w, u, r, rfl, fun p hp => by simp at hp; rcases hp with rfl | rfl | rfl | rfl <;> assumption⟩
def spMixL : Sp := fun vs H Q _ => ∃ (G : Hp) (c : Int), Same G H ∧ vs = [.int c, .int 4] ∧ ∀ v H' G' a b d e, Grow G H G' H' → Is G' (.list [.int a, .int b, .int d, .int e]) v → Q v H'
theorem rd_mixl {c : Int} (S : Sta B G0 H cs ds) (k : ∀ v H' a b d e, Same H H' → Sta B G0 H' cs ((.list [.int a, .int b, .int d, .int e], v) :: ds) → Q v H') : spMixL [.int c, .int 4] H Q E := by
 obtain ⟨G, S⟩ := S
 refine ⟨G, c, S.2.1, rfl, fun v H' G' x y z t gr hv => k v H' x y z t gr.h ?_⟩
 obtain ⟨a', b', c', d', e', f', g'⟩ := S.grow gr
 exact ⟨G', a', b', c', d', e', f', g'.cons hv⟩
def spPort : Sp := fun vs H Q _ => ∃ (G : Hp) (a b : Int), Same G H ∧ vs = [.int a, .int b] ∧ (0 ≤ b ∧ b ≤ 10 ^ 28) ∧ ∀ v H' G' t u, Grow G H G' H' → Is G' (.tuple [.int t, .int u]) v → PortOk t u → Q v H'
theorem rd_port {a b : Int} (S : Sta B G0 H cs ds) (hb : 0 ≤ b ∧ b ≤ 10 ^ 28) (k : ∀ v H' t u, Same H H' → Sta B G0 H' cs ((.tuple [.int t, .int u], v) :: ds) → PortOk t u → Q v H') : spPort [.int a, .int b] H Q E := by
 obtain ⟨G, S⟩ := S
 refine ⟨G, a, b, S.2.1, rfl, hb, fun v H' G' t u gr hv h1 => k v H' t u gr.h ?_ h1⟩
 obtain ⟨a', b', c', d', e', f', g'⟩ := S.grow gr
 exact ⟨G', a', b', c', d', e', f', g'.cons hv⟩
def spBuilt (A : RAd) : Sp := spRl A (α := List Int × Int) (fun a => [.list (a.1.map PyData.int), .int a.2]) (fun a => a.1.length ≤ 1000 ∧ 0 ≤ a.2 ∧ a.2 < 10 ^ 28) (fun _ r => r.size ≤ 11 ∧ r.Ok)
end
theorem sz_le210 {x : Int} (h1 : 0 ≤ x) (h2 : x ≤ 10 ^ 61) : Sz 210 x := by
 unfold Sz
 have e : (2 : Nat) ^ 210 = 1645504557321206042154969182557350504982735865633579863348609024 := by decide
 rw [e]
 omega
theorem port1 {x y : Int} (h0 : 0 < x) (h1 : x < y) : 0 < x / ((Int.gcd x y : Nat) : Int) ∧ x / ((Int.gcd x y : Nat) : Int) < y / ((Int.gcd x y : Nat) : Int) ∧ Int.gcd (x / ((Int.gcd x y : Nat) : Int)) (y / ((Int.gcd x y : Nat) : Int)) = 1 := by
 have gp : 0 < Int.gcd x y := Int.gcd_pos_of_ne_zero_left y (by omega)
 have hg : (0 : Int) < ((Int.gcd x y : Nat) : Int) := by omega
 have e1 := Int.ediv_mul_cancel (Int.gcd_dvd_left x y)
 have e2 := Int.ediv_mul_cancel (Int.gcd_dvd_right x y)
 refine ⟨?_, ?_, ?_⟩
 ·refine Int.lt_of_mul_lt_mul_right (a := ((Int.gcd x y : Nat) : Int)) ?_ (by omega)
  rw [e1]; omega
 ·refine Int.lt_of_mul_lt_mul_right (a := ((Int.gcd x y : Nat) : Int)) ?_ (by omega)
  rw [e1, e2]; exact h1
 ·exact Int.gcd_ediv_gcd_ediv_gcd gp
theorem fdiv_le_pos {y g : Int} (h0 : 0 ≤ y) (hg : 0 < g) : y.fdiv g ≤ y := by
 rw [Int.fdiv_eq_ediv_of_nonneg _ (by omega)]
 exact Int.ediv_le_self _ h0
theorem port_ok {x y : Int} (h0 : 0 < x) (h1 : x < y) (h2 : y ≤ 10 ^ 28 + 2) : PortOk (x.fdiv ((Int.gcd x y : Nat) : Int)) (y.fdiv ((Int.gcd x y : Nat) : Int)) := by
 have gp : 0 < Int.gcd x y := Int.gcd_pos_of_ne_zero_left y (by omega)
 have l := fdiv_le_pos (y := y) (g := ((Int.gcd x y : Nat) : Int)) (by omega) (by omega)
 refine ⟨⟨Sz.le (sz_le210 (x := x) (by omega) (by omega)) (natAbs_fdiv_le _ _), Sz.le (sz_le210 (x := y) (by omega) (by omega)) (natAbs_fdiv_le _ _)⟩, ?_⟩
 have g0 : (0 : Int) ≤ ((Int.gcd x y : Nat) : Int) := by omega
 rw [Int.fdiv_eq_ediv_of_nonneg _ g0] at l
 rw [Int.fdiv_eq_ediv_of_nonneg _ g0, Int.fdiv_eq_ediv_of_nonneg _ g0]
 have p := port1 h0 h1
 exact ⟨p.1, p.2.1, p.2.2, by omega⟩
def totR (rs : List Rl) : Nat := (rs.map Rl.size).sum
theorem totR_snoc (rs : List Rl) (r : Rl) : totR (rs ++ [r]) = totR rs + r.size := by unfold totR; rw [List.map_append, List.sum_append]; simp
theorem mem_tot {r : Rl} : ∀ {rs : List Rl}, r ∈ rs → r.size ≤ totR rs
 | x :: rs, h => by
   have e : totR (x :: rs) = x.size + totR rs := rfl
   rw [e]
   rcases List.mem_cons.mp h with rfl | h
   ·omega
   ·have := mem_tot h
    omega
def Maker (P : Program) (w : World) (K : PySem.W.Frag) (mg : Str → Option Value) (base : Heap) (x : Str) (C : Addr) (ps : List Str) (sp : Sp) : Prop := ∃ f fd, Mk K C f ∧ FnOk P w K mg base CX0 2 f fd ps sp ∧ Binds K fd ps [] ∧ mg x = some (.ref C)
end S
namespace L2
open PySem PySem.W PySem.Spec PySem.Calls PyProof.Rows Builtin
section
variable {X : Cx} {e : Expr} {te : TE} {tg : Expr}
def rSlS : V → Option Int → Option Int → Hp → VK → Prop := fun x lo hi H Q => ∃ z, x = .str z ∧ z.length ≤ sizeLine ∧ Q (.str (Txt.slice z lo hi)) H
theorem sl_str : SlR X rSlS := by
 intro pins s σ H x v vl vu lo hi sl Q I rx hs pl pu h
 obtain ⟨z, rfl, hz, q⟩ := h
 obtain ⟨t, rfl⟩ := (show ∃ t, v = Value.str z t from rx)
 refine ⟨"str", _, F.slot_str_getitem.lookup, typeIs_str _ _ _, ?_⟩
 have fin : ∀ t' k, EP X pins σ Q (.str (Txt.slice z lo hi) t') { s with toks := k } := fun t' k => ⟨.str (Txt.slice z lo hi), H, I.tok k, ⟨_, rfl⟩, q⟩
 have hl := Nat.le_trans (Txt.slice_le z lo hi) hz
 cases pl <;> cases pu
 ·exact wpAny_getItem_str_slice (l := none) (u := none) (st := none) hs rfl (post_val_or_str ⟨hl, fin⟩)
 ·exact wpAny_getItem_str_slice (l := none) (u := some (_, _)) (st := none) hs rfl (post_val_or_str ⟨hl, fin⟩)
 ·exact wpAny_getItem_str_slice (l := some (_, _)) (u := none) (st := none) hs rfl (post_val_or_str ⟨hl, fin⟩)
 ·exact wpAny_getItem_str_slice (l := some (_, _)) (u := some (_, _)) (st := none) hs rfl (post_val_or_str ⟨hl, fin⟩)
def Its (z : Str) : It := ⟨fun i _ => i < z.cps.size, fun i H x H' => H' = H ∧ ∃ c, z.cps[i]? = some c ∧ x = .str ⟨#[c]⟩, fun i _ => z.cps.size ≤ i⟩
theorem turn_str {P : Program} {w : World} {K : PySem.W.Frag} {tg : Expr} (z : Str) (t : Tok) (it : Addr) : Turn P w K tg (Its z) [it] it (fun i h => h.IsStrIter it "str_ascii_iterator" z t i) where
 mem := by simp
 obj := fun i h st b hb => by
  have e : b = it := by simpa using hb
  subst e
  obtain ⟨o, e, c, d⟩ := st
  exact ⟨o, e, fun v z => by rw [d] at z; cases z⟩
 keep := fun i h h' st k => let ⟨o, ho, r⟩ := st; ⟨o, k it (by simp) o ho, r⟩
 item := by
  intro X hP hw hK hc i pins s σ H E I hf st hg
  subst hP hw hK
  have hi : i < z.cps.size := hg
  obtain ⟨f0, f1, f2, f3, f4, f5⟩ := hf it (by simp)
  refine wpAny_pyNext_ascii_item st (c := z.cps[i]) (by simp [hi]) fun h' st' sb => ?_
  have I1 : Inv X pins σ H { s with heap := h', toks := s.toks + 1 } := I.turned (t' := s.toks + 1) (fun b o hb e => (sb.2 b hb).trans e) f0 f1 f3 f4 f5
  obtain ⟨o, e, c, d⟩ := id st'
  exact ⟨_, rfl, go_of (s := { s with heap := h', toks := s.toks + 1 }) e c d (by decide) ⟨.str ⟨#[z.cps[i]]⟩, H, I1, ⟨_, rfl⟩, ⟨rfl, z.cps[i], by simp [hi], rfl⟩, st', fun b hb => (hf b hb).1⟩⟩
 done := by
  intro X hP hw hK hc i pins s σ H E I hf st hg
  subst hP hw hK
  have hi : z.cps.size ≤ i := hg
  obtain ⟨f0, f1, f2, f3, f4, f5⟩ := hf it (by simp)
  exact wpAny_pyNext_ascii_end (I.ok.hd hc) st (by simp [hi]) fun h' eb => ⟨rfl, I.turned (t' := s.toks) (fun b o hb e => eb b o hb e) f0 f1 f3 f4 f5⟩
 self := fun _ _ _ _ _ st h => wpAny_pyIter_striter_ascii st h
def iStr (tl : TE) : TI := fun σ H R => tl σ H fun x H1 => ∃ z, x = .str z ∧ z.cps.all (· < 128) = true ∧ R (Its z) H1
theorem pi_str (hl : PE X e te) : PI X tg e (iStr te) := by
 intro pins s σ H R I h
 refine thn (hl pins s σ H _ I h) fun v s1 ⟨x, H1, I1, r1, q1⟩ => ?_
 obtain ⟨z, ex, ha, q⟩ := q1
 subst ex
 obtain ⟨t, rfl⟩ := (show ∃ t, v = Value.str z t from r1)
 refine wpAny_pyIter_ascii ha ?_
 refine ⟨s1.heap.objs.size, [s1.heap.objs.size], _, _, H1, rfl, I1.kept (t' := s1.toks) fun b o e => Heap.get?_push_of_some _ e, turn_str z t _, ⟨_, Heap.get?_push_size _ rfl, rfl, rfl⟩, fun b hb => ?_, q⟩
 have e : b = s1.heap.objs.size := by simpa using hb
 subst e
 exact I1.fpOk (Nat.le_refl _) (I1.hok.fresh (Nat.le_refl _))
def rIndexT (K : PySem.W.Frag) : V → List V → Hp → VK → Prop := fun x xs H Q => ∃ (p : Addr) (ys : List Str) (z : Str) (j : Nat), x = .ref p ∧ xs = [.str z] ∧ SqT K H p (ys.map V.str) ∧ ys[j]? = some z ∧ (∀ m, m < j → ys[m]? ≠ some z) ∧ Q (.int (j : Nat)) H
theorem index_loopT {prog : Program} {w : World} {A : Around} {E : Value → Shared → Prop} {z : Str} {t : Tok} {l : List (Str × Tok)} {j : Nat} {R : Option PySem.Fin × Unit → Shared → Prop} {f : Nat → Option PySem.Fin × Unit → Sem (ForInStep (Option PySem.Fin × Unit))} (hj : (l.map (·.1))[j]? = some z) (hno : ∀ m, m < j → (l.map (·.1))[m]? ≠ some z)
 (hf : ∀ (i : Nat) (hi : i < l.length) (st : Option PySem.Fin × Unit), f i st = (do
  let b ← eqBool (.str l[i].1 l[i].2) (.str z t)
  if b = true then do
   let r ← retInt (i : Nat)
   pure (ForInStep.done (some r, ()))
   else pure (ForInStep.yield (none, ())))) :
 ∀ (k i : Nat) (s : Shared), i + k = l.length → i ≤ j → (∀ tk, R (some (.done (.ret (.int (j : Nat) s.toks))), ()) { s with toks := tk }) → wpAny (model prog w) A (forIn (List.range' i k) ((none, ()) : Option PySem.Fin × Unit) f) R E s := by
 intro k
 induction k with
 | zero =>
   intro i s h1 h2 _
   have := (List.getElem?_eq_some_iff.mp hj).1
   rw [List.length_map] at this
   omega
 | succ k ih =>
   intro i s h1 h2 hR
   have hi : i < l.length := by omega
   rw [List.range'_succ, List.forIn_cons, hf i hi]
   refine wpAny_bind (wpAny_bind (PyProof.Rows.eqBool_str ?_))
   by_cases hij : i = j
   ·subst hij
    have ez : l[i].1 = z := by
     rw [List.getElem?_map, List.getElem?_eq_getElem hi] at hj
     exact Option.some.inj hj
    rw [if_pos (by rw [ez]; exact beq_self_eq_true z)]
    wp_walk
    exact hR _
   ·have hne : (l[i].1 == z) = false := by
     refine beq_eq_false_iff_ne.mpr fun ez => hno i (by omega) ?_
     rw [List.getElem?_map, List.getElem?_eq_getElem hi]
     exact congrArg some ez
    rw [if_neg (by rw [hne]; exact Bool.false_ne_true)]
    refine wpAny_pure ?_
    exact ih (i + 1) s (by omega) (by omega) hR
theorem mt_indexT : MtR X "tuple.index" (rIndexT X.K) := by
 intro pins s σ H x xs v us Q I rx r h
 obtain ⟨p, ys, z, j, rfl, rfl, hq, hj, hno, q⟩ := h
 cases (show v = Value.ref p from rx)
 obtain ⟨u, rfl, r1⟩ := vals1 r
 obtain ⟨t, rfl⟩ := (show ∃ t, u = Value.str z t from r1)
 obtain ⟨its, rv, ht, hz⟩ := I.tuple hq
 obtain ⟨l, rfl, hl⟩ := strs_of rv
 have hT : s.heap.IsTuple p (strValues l).toArray := ht
 refine wpAny_call (codeAny_call_builtin PySem.F.slot_tuple_index.plain PySem.F.entry_tuple_index (PySem.F.slot_tuple_index.check _ _ _ _ _ _ _ _ hT.typeIs (PySem.F.args_tuple_index_2 _ _) ?_))
 unfold Builtin.«tuple.index»
 obtain ⟨o, h1, h2, n, h3⟩ := id hT
 wp_walk using wpAny_loadPart' h1
 rw [h3]
 refine wpAny_pure (wpAny_pure ?_)
 dsimp only
 refine wpAny_bind (wpAny_pure (wpAny_bind (wpAny_pure ?_)))
 refine wpAny_bind ?_
 rw [Std.Legacy.Range.forIn_eq_forIn_range', Nat.min_self]
 have en : (strValues l).toArray.size = l.length := by simp [strValues]
 have er : List.range' 0 (Std.Legacy.Range.size [:(strValues l).toArray.size]) 1 = List.range' 0 l.length := by rw [en]; simp [Std.Legacy.Range.size]
 show wpAny _ _ (forIn (List.range' 0 (Std.Legacy.Range.size [:(strValues l).toArray.size]) 1) _ _) _ _ _
 rw [er]
 refine index_loopT (l := l) (j := j) (z := z) (t := t) (by rw [hl]; exact hj) (by rw [hl]; exact hno) (fun i hi st => by
  have e : (strValues l).toArray[i]? = some (.str l[i].1 l[i].2) := by simp [strValues, hi]
  rw [e]) l.length 0 _ (by omega) (Nat.zero_le _) fun tk => ?_
 exact wpAny_pure ⟨.int (j : Nat), H, I.tok tk, ⟨_, rfl⟩, q⟩
end
end L2
namespace S
open PySem PySem.Spec PyProof.Rows L2
def At (CW : Addr) (H : Hp) (a : Addr) (T : Str) (i : Nat) : Prop := ∃ dx, H a = some (.ins CW dx [("signs", .str T), ("at", .int ((i : Nat) : Int))])
def Ch (a : Addr) (H H' : Hp) : Prop := ∀ p, p ≠ a → H' p = H p
theorem Ch.refl {a : Addr} {H : Hp} : Ch a H H := fun _ _ => rfl
theorem Ch.trans {a : Addr} {H H' H'' : Hp} (h : Ch a H H') (g : Ch a H' H'') : Ch a H H'' := fun p hp => (g p hp).trans (h p hp)
theorem Ch.upd {a : Addr} {H : Hp} {o : HO} : Ch a H (L2.upd H a o) := fun p hp => upd_ne hp
def sgn (T : Str) (i : Nat) : Str := Txt.slice T (some ((i : Nat) : Int)) (some (((i : Nat) : Int) + 1))
structure WOk (K : PySem.W.Frag) (fS fE CW : Addr) : Prop where
 cl : Cls K CW
 na : NoAttr K CW "signs"
 nb : NoAttr K CW "at"
 ms : Meth K CW "sign" fS
 me : Meth K CW "expect" fE
section
variable {B G0 H : Hp} {cs : Cells} {ds : Dat} {Q : VK} {E : XK} {v w u : V} {K : PySem.W.Frag} {CW a : Addr} {T : Str} {i : Nat}
def spSign (CW : Addr) : Sp := fun vs H Q _ => ∃ (a : Addr) (T : Str) (i : Nat), vs = [.ref a] ∧ At CW H a T i ∧ T.length ≤ 100000 ∧ Q (.str (sgn T i)) H
theorem rd_sign (h : At CW H a T i) (hT : T.length ≤ 100000) (k : Q (.str (sgn T i)) H) : spSign CW [.ref a] H Q E := ⟨a, T, i, rfl, h, hT, k⟩
def Here (T wd : Str) (i : Nat) : Prop := ∀ k c, wd.cps[k]? = some c → sgn T (i + k) = ⟨#[c]⟩
theorem rd_kWS {fS fE : Addr} {sp : Sp} (h : At CW H a T i) (ok : WOk K fS fE CW) (k : sp [.ref a] H Q E) : kMA K "sign" fS sp E Q (.ref a) H := by
 obtain ⟨dx, h⟩ := h
 exact ⟨a, CW, dx, _, rfl, h, ok.cl, ok.ms, rfl, k⟩
def kMe (C : Addr) (m : Str) (sp : Sp) (E : XK) (t : TA) (σ : L2.St) (Q : VK) : VK := fun x H1 => ∃ a dx fs, x = .ref a ∧ H1 a = some (.ins C dx fs) ∧ fs.lookup m = none ∧ t σ H1 fun vs H2 => sp (x :: (vs ++ [])) H2 Q E
theorem rd_meth {C : Addr} {m : Str} {sp : Sp} {ta : TE} {t : TA} {σ : L2.St} (h : ta σ H (kMe C m sp E t σ Q)) : tMeth C m sp [] E ta t σ H Q := h
theorem rd_kMe {m : Str} {sp : Sp} {t : TA} {σ : L2.St} (h : At CW H a T i) (hm : ([("signs", V.str T), ("at", .int ((i : Nat) : Int))] : List (Str × V)).lookup m = none) (k : t σ H fun vs H2 => sp (.ref a :: vs) H2 Q E) : kMe CW m sp E t σ Q (.ref a) H := by
 obtain ⟨dx, h⟩ := h
 refine ⟨a, dx, _, rfl, h, hm, ?_⟩
 simpa only [List.append_nil] using k
theorem rd_kSigns {fS fE : Addr} (h : At CW H a T i) (ok : WOk K fS fE CW) (k : Q (.str T) H) : kFld K "signs" Q (.ref a) H := by
 obtain ⟨dx, h⟩ := h
 exact ⟨a, CW, dx, _, _, rfl, h, ok.cl, ok.na, rfl, k⟩
theorem rd_kAt {fS fE : Addr} (h : At CW H a T i) (ok : WOk K fS fE CW) (k : Q (.int ((i : Nat) : Int)) H) : kFld K "at" Q (.ref a) H := by
 obtain ⟨dx, h⟩ := h
 exact ⟨a, CW, dx, _, _, rfl, h, ok.cl, ok.nb, rfl, k⟩
theorem rd_atUp {fS fE : Addr} {D : Ends} {k : Nat} {σ : L2.St} (e : σ[k]? = some (some (.ref a))) (h : At CW H a T i) (ok : WOk K fS fE CW) (kk : ∀ H2, Ch a H H2 → At CW H2 a T (i + 1) → D.nx σ H2) : sFldAug K (tVar k) (tC (.int 1)) rAdd "at" D σ H := by
 obtain ⟨dx, h⟩ := h
 refine ⟨.ref a, e, a, CW, dx, _, _, rfl, h, ok.cl, ok.nb, rfl, _, _, rfl, rfl, dx, _, h, by show 2 < 1000; decide, kk _ Ch.upd ⟨dx, ?_⟩⟩
 rw [upd_same]
 rfl
def kIS (R : It → Hp → Prop) : VK := fun x H1 => ∃ z, x = .str z ∧ z.cps.all (· < 128) = true ∧ R (Its z) H1
theorem rd_iStr {te : TE} {σ : L2.St} {R : It → Hp → Prop} (h : te σ H (kIS R)) : iStr te σ H R := h
theorem rd_kIS {z : Str} {R : It → Hp → Prop} (hz : z.cps.all (· < 128) = true) (h : R (Its z) H) : kIS R (.str z) H := ⟨z, rfl, hz, h⟩
theorem for_str {z : Str} {g : TG} {tb : TS} {D : Ends} {σ : L2.St} (W : Nat → L2.St → Hp → Prop) (h0 : W 0 σ H)
 (hs : ∀ (n : Nat) (c : Nat) (σ : L2.St) (H : Hp), z.cps[n]? = some c → W n σ H → g (.str ⟨#[c]⟩) σ H fun σ2 H2 => tb (mkL D (W (n + 1))) σ2 H2)
 (hd : ∀ (σ : L2.St) (H : Hp), W z.length σ H → D.nx σ H) : kFor g tb D σ (Its z) H := by
 refine ⟨fun n m σ H => m = z.cps.size - n ∧ n ≤ z.cps.size ∧ W n σ H, ⟨z.cps.size, by simp, Nat.zero_le _, h0⟩, ?_⟩
 rintro n m σ H ⟨rfl, hn, hw⟩
 by_cases hlt : n < z.cps.size
 ·refine .inr ⟨hlt, W (n + 1), fun σ' H' p' => ⟨z.cps.size - (n + 1), by omega, rfl, hlt, p'⟩, fun x H' y => ?_⟩
  obtain ⟨rfl, c, hc, rfl⟩ := y
  exact hs n c σ H' hc hw
 ·exact .inl ⟨Nat.not_lt.mp hlt, hd σ H (by rw [show z.length = n from Nat.le_antisymm (Nat.not_lt.mp hlt) hn]; exact hw)⟩
def Kp (a : Addr) (H H' : Hp) : Prop := ∀ p o, p ≠ a → H p = some o → H' p = some o
theorem Ch.kp {a : Addr} {H H' : Hp} (h : Ch a H H') : Kp a H H' := fun p o hp e => by rw [h p hp]; exact e
theorem Kp.refl {a : Addr} {H : Hp} : Kp a H H := fun _ _ _ e => e
theorem Kp.trans {a : Addr} {H H' H'' : Hp} (h : Kp a H H') (g : Kp a H' H'') : Kp a H H'' := fun p o hp e => g p o hp (h p o hp e)
theorem Same.kp {a : Addr} {H H' : Hp} (h : Same H H') : Kp a H H' := fun p o _ e => h p o e
theorem At.same {H' : Hp} (h : At CW H a T i) (e : Same H H') : At CW H' a T i := let ⟨dx, h⟩ := h; ⟨dx, e _ _ h⟩
def fg (d : Nat) : Str := ⟨#[48 + d]⟩
def figs : List Str := ["0", "1", "2", "3", "4", "5", "6", "7", "8", "9"]
theorem figs_eq : figs = (List.range 10).map fg := by decide +kernel
theorem fg_inj {c d : Nat} (h : fg c = fg d) : c = d := by
 have := congrArg (fun z : Str => z.cps[0]?) h
 simp [fg] at this
 omega
structure Fg (K : PySem.W.Frag) (cF : Addr) : Prop where
 lk : ∃ its n sl, K.lookup cF = some ⟨.type "tuple", none, .seq its n, sl⟩ ∧ its.size ≤ sizeLine ∧ Vals (figs.map V.str) its.toList
theorem Fg.sq {cF : Addr} (f : Fg K cF) : SqT K H cF (figs.map V.str) := let ⟨its, n, sl, h1, h2, h3⟩ := f.lk; .inr ⟨_, its, n, h1, rfl, rfl, h2, h3⟩
theorem Fg.ty {cF : Addr} (f : Fg K cF) : tyV K "tuple" (.ref cF) H := let ⟨its, n, sl, h1, h2, h3⟩ := f.lk; .inr (.inl ⟨rfl, _, h1, rfl, rfl⟩)
theorem inV_str (z : Str) (ys : List Str) : inV (.str z) (ys.map V.str) = decide (z ∈ ys) := by
 unfold inV
 rw [List.any_map]
 by_cases h : z ∈ ys
 ·rw [decide_eq_true h, List.any_eq_true]
  exact ⟨z, h, by simp [eqV]⟩
 ·rw [decide_eq_false h, List.any_eq_false]
  intro y hy
  simp [eqV]
  intro e
  subst e
  exact h hy
def valD (ds : List Nat) : Int := ds.foldl (fun (n : Int) (d : Nat) => n * 10 + (d : Int)) 0
theorem valD_snoc (ds : List Nat) (d : Nat) : valD (ds ++ [d]) = valD ds * 10 + (d : Int) := by unfold valD; rw [List.foldl_append]; rfl
structure Figs (T : Str) (i : Nat) (ds : List Nat) : Prop where
 pos : 0 < ds.length
 at_ : ∀ k d, ds[k]? = some d → d < 10 ∧ sgn T (i + k) = fg d
 first : ∀ d, ds[0]? = some d → d ≠ 0
 stop : sgn T (i + ds.length) ∉ figs
structure Mv (a : Addr) (G H G' H' : Hp) : Prop where
 k : Kp a H H'
 g : Same G G'
 s : Same G' H'
 o : ∀ p, H p ≠ none → G' p = G p
def Sw (a : Addr) (B G0 H : Hp) (ds : Dat) : Prop := ∃ G, Mv a G0 B G H ∧ G a = none ∧ H a ≠ none ∧ B a ≠ none ∧ AllIs G ds
theorem Sw.enter {G : Hp} (e : Same G H) (ga : G a = none) (h : At CW H a T i) (al : AllIs G ds) : Sw a H G H ds := by
 obtain ⟨dx, h⟩ := h
 exact ⟨G, ⟨Kp.refl, Same.refl _, e, fun _ _ => rfl⟩, ga, by rw [h]; simp, by rw [h]; simp, al⟩
theorem Mv.trans {G' G'' H' H'' : Hp} (h : Mv a G0 B G' H') (g : Mv a G' H' G'' H'') (ha : H' a ≠ none) : Mv a G0 B G'' H'' :=
 ⟨h.k.trans g.k, h.g.trans g.g, g.s, fun p hp => by
  rw [g.o p ?_, h.o p hp]
  by_cases hpa : p = a
  ·rw [hpa]; exact ha
  ·cases hb : B p with
   | none => exact absurd hb hp
   | some o => rw [h.k p o hpa hb]; simp⟩
theorem Sw.ch {H' : Hp} (S : Sw a B G0 H ds) (c : Ch a H H') (h : At CW H' a T i) : Sw a B G0 H' ds := by
 obtain ⟨G, m, ga, ha, hb, al⟩ := S
 obtain ⟨dx, h⟩ := h
 refine ⟨G, ⟨m.k.trans c.kp, m.g, fun p o hp => ?_, m.o⟩, ga, by rw [h]; simp, hb, al⟩
 rw [c p (fun z => by rw [z, ga] at hp; cases hp)]
 exact m.s p o hp
theorem Sw.kp {H' : Hp} (S : Sw a B G0 H ds) (c : Kp a H H') (h : At CW H' a T i) : Sw a B G0 H' ds := by
 obtain ⟨G, m, ga, ha, hb, al⟩ := S
 obtain ⟨dx, h⟩ := h
 exact ⟨G, ⟨m.k.trans c, m.g, fun p o hp => c p o (fun z => by rw [z, ga] at hp; cases hp) (m.s p o hp), m.o⟩, ga, by rw [h]; simp, hb, al⟩
theorem Sw.hp {x : PyData} (S : Sw a B G0 H ds) (h : Has ds x v) : Is H x v := let ⟨G, m, ga, ha, hb, al⟩ := S; Is.mono m.s _ _ (h G al)
theorem Sw.leave (S : Sw a B G0 H ds) : ∃ G, Mv a G0 B G H ∧ AllIs G ds := let ⟨G, m, ga, ha, hb, al⟩ := S; ⟨G, m, al⟩
theorem Sw.tup {p : Addr} {xs : List PyData} {vs : List V} (S : Sw a B G0 H ds) (hp : H p = none) (h : HasAll ds xs vs) : Sw a B G0 (upd H p (.tup vs)) ((.tuple xs, .ref p) :: ds) := by
 obtain ⟨G, m, ga, ha, hb, al⟩ := S
 have gp : G p = none := m.s.free hp
 have eG := Same.new gp (.tup vs)
 have hpa : a ≠ p := fun z => ha (by rw [z]; exact hp)
 refine ⟨upd G p (.tup vs), ⟨fun q o hq e => (Same.new hp _) _ _ (m.k q o hq e), m.g.trans eG, fun q o hq => ?_, fun q hq => ?_⟩, by rw [upd_ne hpa]; exact ga, by rw [upd_ne hpa]; exact ha, hb, (al.mono eG).cons ?_⟩
 ·by_cases hqp : q = p
  ·subst hqp; rw [upd_same] at hq ⊢; exact hq
  ·rw [upd_ne hqp] at hq ⊢; exact m.s _ _ hq
 ·have hqp : q ≠ p := fun z => by
   subst z
   cases hbq : B q with
   | none => exact hq hbq
   | some o =>
     have := m.k q o (fun z => hpa z.symm) hbq
     rw [hp] at this; cases this
  rw [upd_ne hqp]; exact m.o q hq
 ·rw [Is]
  exact ⟨p, vs, rfl, upd_same, IsAll.mono eG _ _ (h G al)⟩
theorem rd_kTupW {xs : List PyData} {vs : List V} (S : Sw a B G0 H ds) (h : HasAll ds xs vs) (hl : vs.length ≤ 1000) (k : ∀ p H', Same H H' → Sw a B G0 H' ((.tuple xs, .ref p) :: ds) → Q (.ref p) H') : kTup Q vs H :=
 ⟨Nat.le_of_lt (small1000 hl), fun p hp => k p _ (Same.new hp _) (S.tup hp h)⟩
theorem rd_spTW {α : Type} {enc : α → List PyData} {dom : α → Prop} {res : α → PyData} {vs : List V} (x : α) (S : Sw a B G0 H ds) (hx : HasAll ds (enc x) vs) (hd : dom x) (k : ∀ v H', Same H H' → Sw a B G0 H' ((res x, v) :: ds) → Q v H') : spT enc dom res vs H Q E := by
 obtain ⟨G, m, ga, ha, hb, al⟩ := S
 refine ⟨G, x, m.s, hx G al, hd, fun v H' G' gr hv => k v H' gr.h ⟨G', m.trans ⟨Same.kp gr.h, gr.g, gr.sub, gr.old⟩ ha, by rw [gr.old a ha]; exact ga, ?_, hb, (al.mono gr.g).cons hv⟩⟩
 cases e : H a with
 | none => exact absurd e ha
 | some o => rw [gr.h _ _ e]; simp
theorem ret_W {G H' : Hp} {r : PyData} (S : Sw a H G H' ds) (k : ∀ v H' G', Mv a G H G' H' → At CW H' a T i → Is G' r v → Q v H') (h' : At CW H' a T i) (h : Has ds r v) : Q v H' :=
 let ⟨G', m, al⟩ := S.leave; k v H' G' m h' (h G' al)
theorem rd_kMakeW {α : Type} {C : Addr} {enc : α → List PyData} {form : α → PyData} {vs : List V} (y : α) (S : Sw a B G0 H ds) (hx : HasAll ds (enc y) vs) (k : ∀ x H', Same H H' → Sw a B G0 H' ((insD C (form y), .ref x) :: ds) → Q (.ref x) H') : kMake C (spInit C enc form) E Q vs H := by
 intro x dx hx0 hd0 hne
 obtain ⟨G, m, ga, ha, hb, al⟩ := S
 have gx : G x = none := m.s.free hx0
 have hax : a ≠ x := fun z => ha (by rw [z]; exact hx0)
 have old : ∀ p o, H p = some o → upd (upd H dx (.own x)) x (.ins C dx []) p = some o := fun p o hp => by
  rw [upd_ne (ne_of_none hp hx0), upd_ne (ne_of_none hp hd0)]; exact hp
 refine ⟨G, y, x, dx, vs, by rw [List.append_nil], fun p o hp => old p o (m.s p o hp), gx, upd_same, hx G al, fun H' G' w h1 h2 h3 h4 h5 h6 => ⟨rfl, ?_⟩⟩
 have keep : ∀ p o, H p = some o → H' p = some o := fun p o hp => h1 p o (ne_of_none hp hx0) (old p o hp)
 have some_ : ∀ p, H p ≠ none → upd (upd H dx (.own x)) x (.ins C dx []) p ≠ none := fun p hp => by
  cases e : H p with
  | none => exact absurd e hp
  | some o => rw [old p o e]; simp
 have gx' : G' x = none := by rw [h4 x (by rw [upd_same]; simp)]; exact gx
 have eG := Same.new gx' (.ins C dx [("form", w)])
 refine k x H' keep ⟨upd G' x (.ins C dx [("form", w)]), m.trans ⟨Same.kp keep, h2.trans eG, fun p o hp => ?_, fun p hp => ?_⟩ ha, ?_, ?_, hb, (al.mono (h2.trans eG)).cons ?_⟩
 ·by_cases hpx : p = x
  ·subst hpx; rw [upd_same] at hp; rw [← hp]; exact h5
  ·rw [upd_ne hpx] at hp; exact h3 p o hp
 ·have hpx : p ≠ x := fun z => hp (by rw [z]; exact hx0)
  rw [upd_ne hpx, h4 p (some_ p hp)]
 ·rw [upd_ne hax, h4 a (some_ a ha)]; exact ga
 ·cases e : H a with
  | none => exact absurd e ha
  | some o => rw [keep a o e]; simp
 ·unfold insD
  rw [Is, IsIn]
  exact ⟨x, C, dx, w, rfl, rfl, upd_same, Is.mono eG _ _ h6⟩
def spWhole : Sp := fun vs H Q _ => ∃ n : Int, vs = [.int n] ∧ Q (.bl true) H
theorem rd_whole {n : Int} (k : Q (.bl true) H) : spWhole [.int n] H Q E := ⟨n, rfl, k⟩
def spFrac0 : Sp := spT (α := Int × Int) (fun a => [.int a.1, .int a.2]) (fun a => a.2 ≠ 0 ∧ Sz 8999 a.2) (fun a => frD (Rat.divInt a.1 a.2))
def wordsL : List Str := ["shares", "evenly", "losses", "halves", "other(", "ranks(", "groups(", "upto("]
structure Wd (K : PySem.W.Frag) (cW : Addr) : Prop where
 lk : ∃ its n sl, K.lookup cW = some ⟨.type "tuple", none, .seq its n, sl⟩ ∧ its.size ≤ sizeLine ∧ Vals (wordsL.map V.str) its.toList
theorem Wd.sq {cW : Addr} (f : Wd K cW) : SqT K H cW (wordsL.map V.str) := let ⟨its, n, sl, h1, h2, h3⟩ := f.lk; .inr ⟨_, its, n, h1, rfl, rfl, h2, h3⟩
theorem for_texts {b : Addr} {ys : List Str} {g : TG} {tb : TS} {D : Ends} {σ : L2.St} (hq : ∀ H, SqT K H b (ys.map V.str)) (W : Nat → L2.St → Hp → Prop) (h0 : W 0 σ H)
 (hs : ∀ (n : Nat) (z : Str) (σ : L2.St) (H : Hp), ys[n]? = some z → W n σ H → g (.str z) σ H fun σ2 H2 => tb (mkL D (W (n + 1))) σ2 H2)
 (hd : ∀ (σ : L2.St) (H : Hp), W ys.length σ H → D.nx σ H) : kFor g tb D σ (Itt K b) H := by
 refine ⟨fun n m σ H => m = ys.length - n ∧ n ≤ ys.length ∧ W n σ H, ⟨ys.length, by simp, Nat.zero_le _, h0⟩, ?_⟩
 rintro n m σ H ⟨rfl, hn, hw⟩
 by_cases hlt : n < ys.length
 ·refine .inr ⟨⟨_, .str ys[n], hq H, by rw [List.getElem?_map, List.getElem?_eq_getElem hlt]; rfl⟩, W (n + 1), fun σ' H' p' => ⟨ys.length - (n + 1), by omega, rfl, hlt, p'⟩, fun x H' y => ?_⟩
  obtain ⟨rfl, hy⟩ := y
  have := hy _ (hq H')
  rw [List.getElem?_map, List.getElem?_eq_getElem hlt] at this
  cases this
  exact hs n ys[n] σ H' (List.getElem?_eq_getElem hlt) hw
 ·exact .inl ⟨⟨_, hq H, by rw [List.length_map]; omega⟩, hd σ H (by rw [show ys.length = n by omega]; exact hw)⟩
theorem rd_ixStr {z : Str} {c : Nat} (hl : z.length ≤ 1000) (hc : z.cps.toList[0]? = some c) (k : Q (.str ⟨#[c]⟩) H) : rIx K (.str z) (.int 0) H Q := .inr (.inr ⟨z, 0, c, rfl, rfl, Nat.le_trans hl (by decide), atI_nat (j := 0) hc, k⟩)
theorem words_first : ∀ (m n : Nat) (x y : Str), wordsL[m]? = some x → wordsL[n]? = some y → ∃ c d, x.cps.toList[0]? = some c ∧ y.cps.toList[0]? = some d ∧ (c = d → m = n) ∧ x.length ≤ 1000 ∧ x.cps.all (· < 128) = true := by
 have key : ∀ m : Fin 8, ∀ n : Fin 8, ((wordsL[m.1]?).bind fun x => x.cps.toList[0]?) = ((wordsL[n.1]?).bind fun x => x.cps.toList[0]?) → m = n := by decide +kernel
 have one : ∀ m : Fin 8, (((wordsL[m.1]?).bind fun x => x.cps.toList[0]?).isSome && ((wordsL[m.1]?).elim false fun x => decide (x.length ≤ 1000) && x.cps.all (· < 128))) = true := by decide +kernel
 intro m n x y hx hy
 have hm : m < 8 := (List.getElem?_eq_some_iff.mp hx).1
 have hn : n < 8 := (List.getElem?_eq_some_iff.mp hy).1
 have o1 := one ⟨m, hm⟩
 have o2 := one ⟨n, hn⟩
 have k := key ⟨m, hm⟩ ⟨n, hn⟩
 dsimp only at o1 o2 k
 rw [hx] at o1
 rw [hy] at o2
 rw [hx, hy] at k
 simp only [Option.bind_some, Option.elim_some, Bool.and_eq_true, decide_eq_true_eq] at o1 o2 k
 obtain ⟨c, hc⟩ := Option.isSome_iff_exists.mp o1.1
 obtain ⟨d, hd⟩ := Option.isSome_iff_exists.mp o2.1
 refine ⟨c, d, hc, hd, fun e => ?_, o1.2.1, o1.2.2⟩
 have := k (by rw [hc, hd, e])
 exact congrArg Fin.val this
end
theorem digits_nat : ∀ m : Nat, ∃ ds : List Nat, (Nat.toDigits 10 m).map Char.toNat = ds.map (48 + ·) ∧ (∀ d ∈ ds, d < 10) ∧ valD ds = (m : Int) ∧ 0 < ds.length ∧ (0 < m → ∀ d, ds[0]? = some d → d ≠ 0) := by
 intro m
 induction m using Nat.strongRecOn with
 | ind m ih =>
   have dc : ∀ d, d < 10 → (Nat.digitChar d).toNat = 48 + d := by decide
   by_cases h : m < 10
   ·refine ⟨[m], ?_, fun d hd => by cases List.mem_singleton.mp hd; exact h, by simp [valD], by simp, fun h0 d hd => by simp at hd; omega⟩
    rw [Nat.toDigits_of_lt_base h]
    simp [dc m h]
   ·obtain ⟨ds, e1, e2, e3, e4, e5⟩ := ih (m / 10) (by omega)
    refine ⟨ds ++ [m % 10], ?_, fun d hd => ?_, ?_, by simp, fun _ d hd => ?_⟩
    ·rw [Nat.toDigits_of_base_le (by decide) (by omega), List.map_append, List.map_append, e1]
     simp [dc (m % 10) (by omega)]
    ·rcases List.mem_append.mp hd with h | h
     ·exact e2 d h
     ·cases List.mem_singleton.mp h; omega
    ·rw [valD_snoc, e3]; omega
    ·rw [List.getElem?_append_left e4] at hd
     exact e5 (by omega) d hd
theorem digits_itS {t : Int} (h : 0 < t) : ∃ ds : List Nat, (itS t).cps.toList = ds.map (48 + ·) ∧ (∀ d ∈ ds, d < 10) ∧ valD ds = t ∧ 0 < ds.length ∧ ∀ d, ds[0]? = some d → d ≠ 0 := by
 obtain ⟨m, rfl⟩ := Int.eq_ofNat_of_zero_le (Int.le_of_lt h)
 obtain ⟨ds, e1, e2, e3, e4, e5⟩ := digits_nat m
 refine ⟨ds, ?_, e2, e3, e4, e5 (by omega)⟩
 unfold itS
 rw [Str.ofString_eq_toList, ← e1]
 show ((toString ((m : Nat) : Int)).toList.map Char.toNat) = _
 rw [show (toString ((m : Nat) : Int)).toList = Nat.toDigits 10 m from by
  show (Nat.repr m).toList = _
  simp [Nat.repr]]
theorem here_all (T : Str) : Here T T 0 := by
 intro k c hc
 have hk := (Array.getElem?_eq_some_iff.mp hc).1
 have := slice_one_closes (x := T) (n := (k : Nat)) (by omega) (by show (k : Int) < (T.cps.size : Int); omega)
 have e := eq_of_beq this
 unfold sgn
 rw [Nat.zero_add, e, Int.toNat_natCast, Array.getD_eq_getD_getElem?, hc]
 rfl
theorem sgn_end (T : Str) : sgn T T.length = Str.empty := by
 have e : Builtin.Str.strSliceIndices (some ((T.length : Nat) : Int)) (some (((T.length : Nat) : Int) + 1)) 1 T.length = [] := by
  unfold Builtin.Str.strSliceIndices sliceRange
  simp only [show (1 : Int) > 0 by decide, if_true]
  rw [if_neg (by omega : ¬ ((T.length : Nat) : Int) < 0), if_neg (by omega : ¬ ((T.length : Nat) : Int) + 1 < 0), if_neg (by omega)]
  rfl
 unfold sgn Txt.slice
 rw [e]
 split
 ·rename_i h
  have h0 : T.cps.size = 0 := by
   have : (0 == T.length) = true := by simpa using h
   exact (eq_of_beq this).symm
  show T = ⟨#[]⟩
  obtain ⟨c⟩ := T
  exact congrArg Str.mk (Array.eq_empty_of_size_eq_zero h0)
 ·rfl
def Rl.word : Rl → Str
 | .shares => "shares"
 | .evenly => "evenly"
 | .losses => "losses"
 | .halves => "halves"
 | .other _ => "other("
 | .ranks _ => "ranks("
 | .groups _ _ => "groups("
 | .upto _ _ _ _ => "upto("
def Rl.inner : Rl → Str
 | .other r => r.text
 | .ranks r => r.text
 | .groups a b => a.text ++ (", " : Str) ++ b.text
 | .upto t b x y => itS t ++ ("/" : Str) ++ itS b ++ (", " : Str) ++ x.text ++ (", " : Str) ++ y.text
 | _ => Str.empty
def Rl.leaf : Rl → Bool
 | .shares => true
 | .evenly => true
 | .losses => true
 | .halves => true
 | _ => false
section
variable {B G0 H : Hp} {cs : Cells} {ds : Dat} {Q : VK} {E : XK} {v w u : V} {K : PySem.W.Frag} {CW : Addr}
def spWInit (CW : Addr) : Sp := fun vs H Q _ => ∃ (x dx : Addr) (T : Str), vs = [.ref x, .str T] ∧ H x = some (.ins CW dx []) ∧ ∀ H', Ch x H H' → At CW H' x T 0 → Q .non H'
end
end S
namespace L2
open PySem PySem.Spec PyProof.Rows
def less (h : Heap) (p : Addr → Bool) : Heap := ⟨h.objs.mapIdx fun i o => if p i then { o with data := .freed } else o, h.life⟩
theorem less_get {h : Heap} {p : Addr → Bool} {a : Addr} : (less h p).get? a = if p a then none else h.get? a := by
 unfold less Heap.get?
 simp only [Array.getElem?_mapIdx]
 cases e : h.objs[a]? with
 | none => simp
 | some o =>
   by_cases hp : p a
   ·simp [hp]
   ·simp [hp]
theorem frames_base {h base base' : Heap} : ∀ {l : List Env}, h.FunFrames base l → (∀ b ∈ frs l, base'.get? b = none) → h.FunFrames base' l
 | [], _, _ => trivial
 | env :: rest, ⟨hk, ⟨L, o, hf, hn, ho, hd⟩, hr⟩, hb => by
   have e : frs (env :: rest) = L :: frs rest := by unfold frs; rw [List.filterMap_cons, hf]
   rw [e] at hb
   exact ⟨hk, ⟨L, o, hf, hb L (List.mem_cons_self ..), ho, hd⟩, frames_base hr fun b h => hb b (List.mem_cons_of_mem _ h)⟩
theorem ObjOk.obj {P : Program} {w : World} {H : Hp} {h : Heap} {a : Addr} {o : HO} (x : ObjOk P w H h a o) : ∃ u, h.get? a = some u := by
 cases o with
 | lst xs => obtain ⟨_, _, _, _, e⟩ := x; exact ⟨_, e⟩
 | tup xs => obtain ⟨_, _, _, o, e, _⟩ := x; exact ⟨_, e⟩
 | dK kvs => obtain ⟨_, _, _, _, o, _, _, e, _⟩ := x; exact ⟨_, e⟩
 | dT kvs => obtain ⟨_, _, _, _, o, _, _, e, _⟩ := x; exact ⟨_, e⟩
 | set S n => obtain ⟨o, _, _, _, e, _⟩ := x; exact ⟨_, e⟩
 | ins C dx fs => obtain ⟨_, _, _, e, _⟩ := x; exact ⟨_, e⟩
 | own y => exact x
 | xd fs => obtain ⟨_, ⟨_, _, _, e, _⟩, _⟩ := x; exact ⟨_, e⟩
 | rng lo hi => obtain ⟨_, _, _, e⟩ := x; exact ⟨_, e⟩
 | frz ob u => obtain ⟨e, _⟩ := x; exact ⟨_, e⟩
 | tbl ps => exact ⟨_, (show h.get? a = some _ from x)⟩
 | met f y => exact ⟨_, (show h.get? a = some _ from x)⟩
 | ext φ => obtain ⟨_, e, _⟩ := x; exact e
def Under (h : Heap) (C D : Addr) : Prop := (∃ nm q N bs bm hdct sn sub ab col dd k0 k1 k2 k3 k5 newId, h.get? C = some (excClassObj nm q C N bs bm hdct sn sub ab col dd k0 k1 k2 k3 k5 newId) ∧ (Value.ref C :: bm).contains (.ref D) = true) ∧
 ∃ nm q N bs bm hdct sn sub ab col dd k0 k1 k2 k3 k5 newId, h.get? D = some (excClassObj nm q D N bs bm hdct sn sub ab col dd k0 k1 k2 k3 k5 newId) ∧ (Value.ref D :: bm).contains (.type "BaseException") = true
theorem Under.keeps {h h' : Heap} {C D : Addr} (u : Under h C D) (k : ∀ b o, h.get? b = some o → h'.get? b = some o) : Under h' C D := by
 obtain ⟨⟨a1, a2, a3, a4, a5, a6, a7, a8, a9, b1, b2, b3, b4, b5, b6, b7, b8, u1, u2⟩, c1, c2, c3, c4, c5, c6, c7, c8, c9, d1, d2, d3, d4, d5, d6, d7, d8, u3, u4⟩ := u
 exact ⟨⟨a1, a2, a3, a4, a5, a6, a7, a8, a9, b1, b2, b3, b4, b5, b6, b7, b8, k _ _ u1, u2⟩, c1, c2, c3, c4, c5, c6, c7, c8, c9, d1, d2, d3, d4, d5, d6, d7, d8, k _ _ u3, u4⟩
theorem matches_under {M : Model} {A : Around} {E : Value → Shared → Prop} {s : Shared} {e C D : Addr} {oe : Obj} {Q : Bool → Shared → Prop} (u : Under s.heap C D) (he : s.heap.get? e = some oe) (hcls : oe.cls = .ref C) (hq : Q true s) : wpAny M A (excMatches (.ref e) (.ref D)) Q E s := by
 obtain ⟨⟨a1, a2, a3, a4, a5, a6, a7, a8, a9, b1, b2, b3, b4, b5, b6, b7, b8, hC, hin⟩, c1, c2, c3, c4, c5, c6, c7, c8, c9, d1, d2, d3, d4, d5, d6, d7, d8, hD, hB⟩ := u
 obtain ⟨hp, g, d, tk, os⟩ := s
 have nt := tc_notTuple
 unfold excMatches
 repeat (first | (with_reducible refine wpAny_loadPart_at he ?_; rw [hcls]) | with_reducible refine wpAny_loadPart_at hD ?_ | (with_reducible refine wpAny_isSubtype_exc hD ?_; rw [hB]) | (with_reducible refine wpAny_isSubtype_exc hC ?_; rw [hin]) | wp_step)
 exact hq
theorem Inv.unname {X : Cx} {pins : List (Addr × Obj)} {σ : St} {H : Hp} {s : Shared} {M : Model} {A : Around} {E : Value → Shared → Prop} {i : Nat} {x : Str} {pos : Pos} {Q : Unit → Shared → Prop} (I : Inv X pins σ H s) (hN : X.N.Nodup) (hi : X.N[i]? = some x) (hx : X.env.kindOf x = some .local)
 (h : ∀ s', Inv X pins (σ.set i none) H s' → Q () s') : wpAny M A (do bindName X.env x .none; unbindBehindTheSuite X.env x pos) Q E s := by
 obtain ⟨m, hn, hl⟩ := id I.loc
 have hkd : (X.env.scope.kind == .class || (X.env.scope.kind == .module && X.env.locals != X.env.globals)) = false := by rw [I.ok.kind]; rfl
 refine wpAny_nameGoes_keeps hx hn hkd fun h' v hn' hs => h _ ?_
 obtain ⟨oL, _, _, hoL, _⟩ := id hn
 have far : ∀ b o, X.s₀.heap.get? b = some o → b ≠ X.env.locals := fun b o e => Nat.ne_of_lt (Nat.lt_of_lt_of_le (Heap.lt_size e) I.ok.above)
 refine ⟨I.ok, I.os, I.bare, ⟨fun b o e n hb hx' => (hs.2 b (far b o e)).trans (I.base.keep b o e n hb hx'), fun b o e n hb hx' => ?_, I.base.free, fun b o e hx' => ?_, I.base.tups, I.base.frzs, I.base.tbls⟩, ⟨_, hn', fun j y v' e1 e2 e3 => ?_⟩, fun y c e => ?_, I.free, I.freeC, fun p hp => ?_, fun b u e => ?_, by rw [List.length_set]; exact I.len⟩
 ·obtain ⟨sl, e1⟩ := I.base.slot b o e n hb hx'
  exact ⟨sl, (hs.2 b (far b o e)).trans e1⟩
 ·obtain ⟨o', e1⟩ := I.base.there b o e hx'
  exact ⟨o', (hs.2 b (far b o e)).trans e1⟩
 ·have hj : j ≠ i := by
   rintro rfl
   by_cases hlt : j < σ.length
   ·rw [List.getElem?_set_self hlt] at e2; cases e2
   ·rw [List.getElem?_eq_none (by rw [List.length_set]; omega)] at e2; cases e2
  rw [List.getElem?_set_ne (Ne.symm hj)] at e2
  obtain ⟨u', r', q⟩ := hl j y v' e1 e2 e3
  refine ⟨u', r', ?_⟩
  rcases q with ⟨k, e⟩ | ⟨k, c, e, z⟩
  ·refine .inl ⟨k, ?_⟩
   have ne : y ≠ x := fun e => hj (nodup_ix hN e1 (e ▸ hi))
   simp [ne, e]
  ·exact .inr ⟨k, c, e, z.sameBut hs (I.cne y c e)⟩
 ·obtain ⟨w', z⟩ := I.cell y c e
  exact ⟨w', z.sameBut hs (I.cne y c e)⟩
 ·obtain ⟨e, n, ne, nf, d⟩ := I.pin p hp
  exact ⟨(hs.2 p.1 ne).trans e, n, ne, nf, d⟩
 ·refine (I.hok b u e).stay (fun c w' hc q => (hs.2 c ?_).trans q) (fun _ q => q) fun _ _ q => q
  rintro rfl
  rcases hc with rfl | hc
  ·rw [I.free] at e; cases e
  ·rw [I.free] at hc; cases hc
abbrev Cx.inExc (X : Cx) (a : Addr) : Cx := { X with A := X.A.mark (some (.ref a)), calm := false, xe := fun _ _ => False }
abbrev Cx.with' (X : Cx) (pn : List (Addr × Obj)) (xe : Value → Shared → Prop) : Cx := { X with pn := pn, xe := xe }
theorem Inv.inExc {X : Cx} {pins : List (Addr × Obj)} {σ : St} {H : Hp} {s : Shared} (I : Inv X pins σ H s) (a : Addr) : Inv (X.inExc a) pins σ H s :=
 ⟨⟨I.ok.mod, I.ok.kind, I.ok.glob, I.ok.blt, I.ok.above, I.ok.inj, I.ok.has, I.ok.cab, (fun z => by cases z), I.ok.frames, I.ok.stk, I.ok.exf, I.ok.bs, I.ok.bsz, I.ok.noex, I.ok.exfs, I.ok.funs, I.ok.frf⟩, I.os, I.bare, I.base, I.loc, I.cell, I.free, I.freeC, I.pin, I.hok, I.len⟩
theorem Inv.outExc {X : Cx} {pins : List (Addr × Obj)} {σ : St} {H : Hp} {s : Shared} {a : Addr} (ok : X.Ok) (I : Inv (X.inExc a) pins σ H s) : Inv X pins σ H s := ⟨ok, I.os, I.bare, I.base, I.loc, I.cell, I.free, I.freeC, I.pin, I.hok, I.len⟩
theorem Inv.pinIn {X : Cx} {pins : List (Addr × Obj)} {σ : St} {H : Hp} {s : Shared} (I : Inv X pins σ H s) (xe : Value → Shared → Prop) : Inv (X.with' (X.pn ++ pins) xe) [] σ H s :=
 ⟨⟨I.ok.mod, I.ok.kind, I.ok.glob, I.ok.blt, I.ok.above, I.ok.inj, I.ok.has, I.ok.cab, I.ok.hd, I.ok.frames, I.ok.stk, I.ok.exf, I.ok.bs, I.ok.bsz, I.ok.noex, I.ok.exfs, I.ok.funs, I.ok.frf⟩, I.os, I.bare, I.base, I.loc, I.cell, I.free, I.freeC, fun p hp => I.pin p (by simpa using hp), I.hok, I.len⟩
theorem Inv.pinOut {X : Cx} {pins pins' : List (Addr × Obj)} {σ : St} {H : Hp} {s : Shared} {xe : Value → Shared → Prop} (ok : X.Ok) (I : Inv (X.with' (X.pn ++ pins) xe) pins' σ H s) : Inv X pins σ H s :=
 ⟨ok, I.os, I.bare, I.base, I.loc, I.cell, I.free, I.freeC, fun p hp => I.pin p (List.mem_append_left _ hp), I.hok, I.len⟩
theorem Inv.rewish {X : Cx} {pn pins : List (Addr × Obj)} {σ : St} {H : Hp} {s : Shared} {xe : Value → Shared → Prop} (I : Inv (X.with' pn xe) pins σ H s) (xe' : Value → Shared → Prop) : Inv (X.with' pn xe') pins σ H s :=
 ⟨⟨I.ok.mod, I.ok.kind, I.ok.glob, I.ok.blt, I.ok.above, I.ok.inj, I.ok.has, I.ok.cab, I.ok.hd, I.ok.frames, I.ok.stk, I.ok.exf, I.ok.bs, I.ok.bsz, I.ok.noex, I.ok.exfs, I.ok.funs, I.ok.frf⟩, I.os, I.bare, I.base, I.loc, I.cell, I.free, I.freeC, I.pin, I.hok, I.len⟩
theorem SP.pinOut {X : Cx} {pins : List (Addr × Obj)} {D : Ends} {f : Flow} {s' : Shared} {xe : Value → Shared → Prop} (ok : X.Ok) (h : SP (X.with' (X.pn ++ pins) xe) [] D f s') : SP X pins D f s' := by
 cases f with
 | next => obtain ⟨σ', H', I, q⟩ := h; exact ⟨σ', H', I.pinOut ok, q⟩
 | brk => obtain ⟨σ', H', I, q⟩ := h; exact ⟨σ', H', I.pinOut ok, q⟩
 | cont => obtain ⟨σ', H', I, q⟩ := h; exact ⟨σ', H', I.pinOut ok, q⟩
 | ret u => obtain ⟨v, σ', H', I, r, q⟩ := h; exact ⟨v, σ', H', I.pinOut ok, r, q⟩
end L2
namespace L2
open PySem PySem.W PySem.Spec PySem.Calls PyProof.Rows Builtin Builtin.ObjectAttr Builtin.Getset_descriptor
section
variable {prog : Program} {w : World} {A : Around} {E : Value → Shared → Prop} {h : Heap} {g : Array GenState} {d : Drawn} {t : Nat} {os : OsState} {a C : Addr} {o : Obj} {K : PySem.W.Frag}
theorem excTy {M : Model} (hx : h.get? a = some o) (hc : o.cls = .ref C) : Looks M h (typeOf (.ref a)) (.ref C) := hc ▸ (Looks.ld hx).andThen .now
theorem exc_cls_get {R : Result → Shared → Prop} {tp : Value} (X : K.In h) (hx : h.get? a = some o) (hc : o.cls = .ref C) (hm : mroIn K C (.type "object") = some true) (hq : R (.ok (.ret (.ref C))) ⟨h, g, d, t, os⟩) :
 codeAny (model prog w) A (.call (.builtin "getset_descriptor.__get__") ⟨[.builtin "object.__class__", .ref a, tp], []⟩) R ⟨h, g, d, t, os⟩ := by
 have Lt := excTy (M := model prog w) hx hc
 have Lm := looks_mroIn (M := model prog w) X hm
 refine codeAny_call_builtin KF.slot_gs.plain KF.entry_gs (KF.slot_gs.check _ _ _ _ _ _ _ _ KF.type_class (KF.args_gs _ _ _) ?_)
 unfold Builtin.«getset_descriptor.__get__»
 unfold descrGet
 rw [dga_obj]
 refine wpAny_bind (wpAny_pure ?_)
 unfold descrGetter descrCheckInstance
 unfold descrNameAndClass isInstance
 simp only [KF.owner_class]
 repeat lk
 refine ⟨Code.quiet_builtin _ (by decide +kernel), codeAny_builtin KF.entry_class ?_⟩
 unfold Builtin.«object.__class__»
 unfold shownTypeOf
 repeat lk
 exact hq
variable (X : K.In h) (hx : h.get? a = some o) (hc : o.cls = .ref C) (hm : mroIn K C (.type "object") = some true) (hmB : mroIn K C (.type "BaseException") = some true)
 (hga : findIn K (.ref C) "__getattribute__" = some (some (.builtin "BaseException.__getattribute__"))) (hgt : findIn K (.ref C) "__getattr__" = some none) (hcl : findIn K (.ref C) "__class__" = some (some (.builtin "object.__class__")))
include X hx hc hm hcl in
theorem exc_cls_entry {tk : Tok} {Q : Fin → Shared → Prop} (hq : Q (.done (.ret (.ref C))) ⟨h, g, d, t, os⟩) : wpAny (model prog w) A (Builtin.«object.__getattribute__» ⟨[.ref a, .str "__class__" tk], []⟩) Q E ⟨h, g, d, t, os⟩ := by
 have Lt := excTy (M := model prog w) hx hc
 have Lc := looks_findIn (M := model prog w) X hcl
 have tT : (⟨h, g, d, t, os⟩ : Shared).TypeIs (.builtin "object.__class__") "getset_descriptor" := F.typeOf_object_class
 have t5 := F.typeOf_object_class
 have t6 := F.slot_gs_get.lookup
 have t7 := F.slot_gs_set.lookup
 repeat (any_goals (first | assumption | with_reducible refine Looks.at Lt ?_ | with_reducible refine Looks.at Lc ?_ | wp_step))
 refine exc_cls_get X hx hc hm ?_
 repeat (any_goals (first | assumption | wp_step))
include X hx hc hmB in
theorem exc_ga_check {M : Model} {nv : Value} {Q : Unit → Shared → Prop} (hq : Q () ⟨h, g, d, t, os⟩) : wpAny M A (checkBuiltinCall "BaseException.__getattribute__" ⟨[.ref a, nv], []⟩) Q E ⟨h, g, d, t, os⟩ := by
 have kk : builtinKind "BaseException.__getattribute__" = some .slot := by decide +kernel
 have ks : splitId "BaseException.__getattribute__" = some ("BaseException", "__getattribute__") := by decide +kernel
 have Lt := excTy (M := M) hx hc
 have Lb := looks_mroIn (M := M) X hmB
 have oa := F.args_bexc_ga (.ref a) nv
 simp only [checkBuiltinCall, kk, ks]
 refine wpAny_bind ?_
 unfold isInstance
 repeat (first | with_reducible refine Looks.at Lt ?_ | with_reducible refine Looks.at Lb ?_ | wp_step)
 exact hq
include X hx hc hm hmB hga hgt hcl in
theorem exc_cls_by {FG : Slot "ValueError" "__getattribute__" "BaseException.__getattribute__"} {tk : Tok} {Q : Value → Shared → Prop} (hq : Q (.ref C) ⟨h, g, d, t, os⟩) : wpAny (model prog w) A (getAttrBy (.ref a) (.str "__class__" tk) false) Q E ⟨h, g, d, t, os⟩ := by
 have Lt := excTy (M := model prog w) hx hc
 have L1 := looks_findIn (M := model prog w) X hga
 have L2 := looks_findIn (M := model prog w) X hgt
 have f3 := FG.bind (.ref a)
 have n2 : (Value.builtin "BaseException.__getattribute__" == Value.builtin "object.__getattribute__") = false := by decide +kernel
 have n1 : (onTheHeap (Value.ref C) && Value.builtin "BaseException.__getattribute__" == Value.builtin "object.__getattribute__") = false := by rw [n2]; rfl
 repeat (any_goals (first | assumption | with_reducible refine Looks.at Lt ?_ | with_reducible refine Looks.at L1 ?_ | with_reducible refine Looks.at L2 ?_ | wp_step))
 refine codeAny_call_builtin FG.plain F.entry_bexc_ga (exc_ga_check X hx hc hmB (exc_cls_entry X hx hc hm hcl ?_))
 repeat (any_goals (first | assumption | wp_step))
include X hx hc hm hmB hga hgt hcl in
theorem exc_cls_attr {FG : Slot "ValueError" "__getattribute__" "BaseException.__getattribute__"} {Q : Option Value → Shared → Prop} (hq : Q (some (.ref C)) ⟨h, g, d, t + 1, os⟩) : wpAny (model prog w) A (getAttr? (.ref a) "__class__") Q E ⟨h, g, d, t, os⟩ := by
 unfold getAttr? getAttrBy?
 repeat (any_goals (first | assumption | with_reducible apply exc_cls_by X hx hc hm hmB hga hgt hcl (FG := FG) | wp_step))
end
structure ExcIn (K : PySem.W.Frag) (C : Addr) : Prop where
 cls : ∃ cd, clsIn K C = some cd
 obj : mroIn K C (.type "object") = some true
 base : mroIn K C (.type "BaseException") = some true
 ga : findIn K (.ref C) "__getattribute__" = some (some (.builtin "BaseException.__getattribute__"))
 gt : findIn K (.ref C) "__getattr__" = some none
 at_ : findIn K (.ref C) "__class__" = some (some (.builtin "object.__class__"))
theorem kitx_exc {K : PySem.W.Frag} {a C : Addr} (I : ExcIn K C) (FG : Slot "ValueError" "__getattribute__" "BaseException.__getattribute__") : KitX K (.ref a) (.ref C) (fun h => ∃ oe, h.get? a = some oe ∧ oe.cls = .ref C) where
 ty := fun _ _ _ ⟨_, hx, hc⟩ => excTy hx hc
 it := fun _ _ X _ => by
  obtain ⟨cd, hcd⟩ := I.cls
  unfold clsIn at hcd
  split at hcd
  ·rename_i c1 d1 cd1 sl1 ho
   intro A1 Q1 E1 s1 k q
   unfold isType
   unfold loadHead
   exact wpAny_bind (wpAny_loadPart (k _ _ (X _ _ ho)) (wpAny_pure q))
  ·cases hcd
 ne := fun h tp dd its n sl X htp => by
  obtain ⟨cd, hcd⟩ := I.cls
  refine Bool.eq_false_iff.mpr fun q => ?_
  obtain rfl : C = tp := Value.ref.inj (beq_iff_eq.mp q)
  unfold clsIn at hcd
  split at hcd
  ·rename_i c1 d1 cd1 sl1 ho
   have z := (X _ _ ho).symm.trans htp
   cases z
  ·cases hcd
 ca := fun {_ _ _ _ _ s} X ⟨_, hx, hc⟩ k => by
  obtain ⟨h, g, d, t, os⟩ := s
  exact exc_cls_attr X hx hc I.obj I.base I.ga I.gt I.at_ (FG := FG) k
end L2
namespace L2
open PySem PySem.W PySem.Spec PySem.Calls PyProof.Rows
abbrev vChain : List Value := [.type "ValueError", .type "Exception", .type "BaseException", .type "object"]
theorem exc_obj {K : PySem.W.Frag} {h : Heap} {C : Addr} (X : K.In h) (q : excIn K C vChain "ValueError.__new__" = true) :
 ∃ bm N nm qn bs hd sn sub ab col dd k0 k1 k2 k3 k5, h.get? C = some (excClassObj nm qn C N bs bm hd sn sub ab col dd k0 k1 k2 k3 k5 "ValueError.__new__") ∧ nsOkIn K N = true ∧ nsIn K N "__init__" = some none ∧ tailIn K vChain bm = true ∧ ∀ D, mroIn K C D = some true → (Value.ref C :: bm).contains D = true := by
 unfold excIn at q
 split at q
 ·rename_i d1 cd1 sl1 ho
  split at q
  ·rename_i C1 bm1 z0 z1 z2 z3 n1 z5 hm hs
   simp only [beq_iff_eq, Bool.and_eq_true, Bool.not_eq_true'] at q
   obtain ⟨⟨⟨⟨⟨e1, e2⟩, e3⟩, e4⟩, e5⟩, e6⟩ := q
   subst e1 e2
   have hmro : ∀ D, mroIn K C1 D = some true → (Value.ref C1 :: bm1).contains D = true := by
    intro D e
    unfold mroIn clsIn at e
    rw [ho] at e
    simp only [Option.bind_some] at e
    rw [hm] at e
    simpa using e
   obtain ⟨y1, y2, y3, y4, y5, y6, y7, y8, y9, y10, y11⟩ := cd1
   dsimp only at hm e3 e5 e6
   subst hm e3
   have hsl : sl1 = #[z0, z1, z2, z3, some (.builtin "ValueError.__new__"), z5] := by
    obtain ⟨l1⟩ := sl1
    exact congrArg Array.mk hs
   subst hsl
   exact ⟨bm1, y4, y1, y5, y2, y6, y7, y8, y9, y10, d1, z0, z1, z2, z3, z5, X _ _ ho, e5, e6, e4, hmro⟩
  ·cases q
 ·cases q
structure Kd (K : PySem.W.Frag) (mg : Str → Option Value) (R c1 c2 c3 c4 c5 c6 : Addr) (b1 b2 b3 b4 b5 b6 : Bool) : Prop where
 exc : ExcIn K R
 kV : kitOne K (.ref R) (.type "ValueError") = some true
 g1 : mg "NoFraction" = some (.ref c1)
 g2 : mg "NoPurse" = some (.ref c2)
 g3 : mg "NoClaims" = some (.ref c3)
 g4 : mg "NoRule" = some (.ref c4)
 g5 : mg "NoPlace" = some (.ref c5)
 g6 : mg "NoDivision" = some (.ref c6)
 k1 : kitOne K (.ref R) (.ref c1) = some b1
 k2 : kitOne K (.ref R) (.ref c2) = some b2
 k3 : kitOne K (.ref R) (.ref c3) = some b3
 k4 : kitOne K (.ref R) (.ref c4) = some b4
 k5 : kitOne K (.ref R) (.ref c5) = some b5
 k6 : kitOne K (.ref R) (.ref c6) = some b6
def mkX (N : Ends) (i : Nat) : Ends := { nx := fun σ2 H2 => N.nx (σ2.set i none) H2, rt := N.rt, bk := fun σ2 H2 => N.bk (σ2.set i none) H2, ct := fun σ2 H2 => N.ct (σ2.set i none) H2 }
end L2
namespace L2
open PySem PySem.W PySem.Spec PySem.Calls PyProof.Rows
end L2
namespace L2
open PySem PySem.W PySem.Spec PySem.Calls PyProof.Rows
def HasD (e dx : Addr) (h : Heap) : Prop := ∃ oe, h.get? e = some oe ∧ oe.dict = some dx
theorem HasD.push {e dx : Addr} {h : Heap} (x : HasD e dx h) (o : Obj) : HasD e dx (h.push o) := by
 obtain ⟨oe, e1, e2⟩ := x
 exact ⟨oe, Heap.get?_push_of_some _ e1, e2⟩
theorem notFreed {h : Heap} {a : Addr} {o : Obj} (e : h.get? a = some o) : o.isFreed = false := by
 cases hf : o.isFreed with
 | false => rfl
 | true =>
   exfalso
   obtain ⟨c, d, dt, sl⟩ := o
   have : dt = .freed := by
    unfold Obj.isFreed at hf
    split at hf
    ·rename_i h'
     cases h'
     rfl
    ·cases hf
   subst this
   unfold Heap.get? at e
   split at e
   ·cases e
   ·rename_i x hx
    exact hx _ _ _ e
structure KeepsD (e dx : Addr) {α : Type} (t : Sem α) : Prop where
 out : ∀ (M : Model) (Γ : PySem.Ctx) (P : α → Pos → Shared → Prop) (Ee : Value → Pos → Shared → Prop) (p : Pos) (s : Shared), HasD e dx s.heap → Sem.wp M Γ t P Ee p s → Sem.wp M Γ t (fun a p' s' => P a p' s' ∧ HasD e dx s'.heap) Ee p s
section
variable {e dx : Addr} {α β : Type}
theorem KeepsD.pure (a : α) : KeepsD e dx (Pure.pure a : Sem α) := ⟨fun M Γ P Ee p s hd h => ⟨h, hd⟩⟩
theorem KeepsD.bind {m : Sem α} {f : α → Sem β} (hm : KeepsD e dx m) (hf : ∀ a, KeepsD e dx (f a)) : KeepsD e dx (m >>= f) := ⟨fun M Γ P Ee p s hd h => by
 have h' : Sem.wp M Γ (m.bind f) P Ee p s := h
 show Sem.wp M Γ (m.bind f) _ Ee p s
 rw [Sem.wp_bind] at h' ⊢
 exact Sem.wp_mono M Γ m (fun a p' s' q => (hf a).out M Γ P Ee p' s' q.2 q.1) (fun _ _ _ q => q) p s (hm.out M Γ _ Ee p s hd h')⟩
theorem KeepsD.unsupported (x : String) : KeepsD e dx (PySem.unsupported x : Sem α) := ⟨fun M Γ P Ee p s hd h => h⟩
theorem KeepsD.load (a : Addr) : KeepsD e dx (PySem.load a) := ⟨fun M Γ P Ee p s hd h => by
 unfold PySem.load at h ⊢
 rw [Sem.wp_load] at h ⊢
 obtain ⟨o, h1, h2⟩ := h
 exact ⟨o, h1, h2, hd⟩⟩
theorem KeepsD.stack : KeepsD e dx PySem.stack := ⟨fun M Γ P Ee p s hd h => by
 unfold PySem.stack at h ⊢
 rw [Sem.wp_stack] at h ⊢
 exact ⟨h, hd⟩⟩
theorem KeepsD.alloc (o : Obj) : KeepsD e dx (PySem.alloc o) := ⟨fun M Γ P Ee p s hd h => by
 unfold PySem.alloc at h ⊢
 rw [Sem.wp_alloc] at h ⊢
 exact ⟨h, hd.push o⟩⟩
theorem KeepsD.update (a : Addr) (f : Obj → Obj) (hf : ∀ o, (f o).dict = o.dict) (hn : ∀ o : Obj, o.isFreed = false → (f o).isFreed = false) : KeepsD e dx (PySem.update a f) := ⟨fun M Γ P Ee p s hd h => by
 unfold PySem.update at h ⊢
 rw [Sem.wp_update] at h ⊢
 refine ⟨h.1, h.2, ?_⟩
 obtain ⟨oe, e1, e2⟩ := hd
 show HasD e dx (s.heap.update a f)
 by_cases hae : e = a
 ·subst hae
  have nf := notFreed e1
  exact ⟨f oe, Heap.get?_update_self f e1 (hn oe nf), (hf oe).trans e2⟩
 ·exact ⟨oe, (Heap.get?_update_ne _ _ _ f hae).trans e1, e2⟩⟩
theorem KeepsD.fieldsOf (v : Value) : KeepsD e dx (PySem.fieldsOf v) := by
 unfold PySem.fieldsOf
 split
 ·refine .bind (.load _) fun o => ?_
  split
  ·exact .pure _
  ·exact .unsupported _
 ·exact .unsupported _
theorem KeepsD.field (v : Value) (i : Nat) : KeepsD e dx (PySem.field v i) := by
 unfold PySem.field
 refine .bind (.fieldsOf v) fun vs => ?_
 split
 ·exact .pure _
 ·exact .unsupported _
theorem mapFields_dict (g : Array Value → Array Value) (o : Obj) : (Obj.mapFields g o).dict = o.dict := by
 unfold Obj.mapFields
 split <;> rfl
theorem mapFields_freed (g : Array Value → Array Value) (o : Obj) (h : o.isFreed = false) : (Obj.mapFields g o).isFreed = false := by
 unfold Obj.mapFields
 split
 ·rfl
 ·exact h
theorem KeepsD.setField (v : Value) (i : Nat) (x : Value) : KeepsD e dx (PySem.setField v i x) := by
 unfold PySem.setField
 split
 ·unfold PySem.updateField
  refine .bind (.load _) fun o => ?_
  split
  ·split
   ·exact .update _ _ (mapFields_dict _) (mapFields_freed _)
   ·exact .unsupported _
  ·exact .unsupported _
 ·exact .unsupported _
theorem KeepsD.setFlight (v : Value) (f : Option Addr) : KeepsD e dx (PySem.setFlight v f) := by
 unfold PySem.setFlight
 refine .bind (.field _ _) fun tb => ?_
 split
 ·exact .setField ..
 ·exact .pure _
theorem KeepsD.keptBack (env : Env) (b : Bool) (l : List Env) : KeepsD e dx (PySem.keptBack env b l) := by
 unfold PySem.keptBack
 split
 ·split
  ·exact .pure _
  ·refine .bind ?_ fun _ => .pure _
   unfold underTheClaimsCaller
   exact .bind .stack fun _ => .pure _
 ·exact .pure _
theorem KeepsD.behind (env : Env) (l : List Env) : KeepsD e dx (PySem.behindIsImport env l) := by
 unfold PySem.behindIsImport
 split
 ·exact .pure _
 ·split
  ·exact .pure _
  ·exact .bind (.field ..) fun _ => .pure _
theorem KeepsD.readyFrames : ∀ l : List Env, KeepsD e dx (PySem.readyFrames l)
 | [] => by
   unfold PySem.readyFrames
   exact .pure _
 | env :: l => by
   unfold PySem.readyFrames
   split
   ·refine .bind (.load _) fun o => ?_
    split
    ·exact .pure _
    ·refine .bind (.behind ..) fun b => .bind (.keptBack ..) fun bk => .bind (.update _ _ (fun _ => rfl) fun o h => ?_) fun _ => KeepsD.readyFrames l
     obtain ⟨c, d, dt, sl⟩ := o
     cases dt <;> first | rfl | exact h
   ·exact .unsupported _
theorem KeepsD.frameOf (env : Env) : KeepsD e dx (PySem.frameOf env) := by
 unfold PySem.frameOf PySem.frameEnvs
 refine .bind (.bind .stack fun _ => .pure _) fun l => .bind ?_ fun r => ?_
 ·unfold PySem.frameObject
  split
  ·exact .pure _
  ·exact .bind (.readyFrames _) fun _ => .pure _
 ·split
  ·exact .pure _
  ·exact .unsupported _
theorem KeepsD.newTb (d : Data) (k : Option Addr) : KeepsD e dx (PySem.newObjAsIs (.type "traceback") d k) := by
 unfold PySem.newObjAsIs
 exact .bind (.alloc _) fun a => .pure _
theorem KeepsD.noteFrame (v : Value) (env : Env) : KeepsD e dx (PySem.noteFrame v env) := by
 unfold PySem.noteFrame
 split
 ·rename_i f hf
  refine .bind (.field _ _) fun hd => ?_
  have jp : KeepsD e dx (do
   let a ← PySem.frameOf env
   let b ← PySem.entryPlaceOf f (hd != Value.none)
   let c ← PySem.EntryCells.newEntry hd a Value.none (rawInt (f : Int)) Value.none b
   PySem.setField v 1 c) := by
   refine .bind (.frameOf _) fun a => .bind ?_ fun b => .bind ?_ fun c => .setField ..
   ·unfold PySem.entryPlaceOf
    refine .bind .stack fun l => ?_
    split <;> exact .pure _
   ·unfold PySem.EntryCells.newEntry PySem.newFields PySem.newObj
    dsimp only
    split <;> split <;> first | exact .newTb _ _ | exact .bind (.unsupported _) fun _ => .newTb _ _
  dsimp only
  split
  ·refine .bind (.field _ _) fun x => ?_
   split
   ·exact .pure _
   ·exact .bind (.setField ..) fun _ => jp
  ·exact jp
 ·exact .unsupported _
theorem KeepsD.leaving (v : Value) (env : Env) : KeepsD e dx (PySem.leaving env v) := by
 unfold PySem.leaving
 exact .bind (.noteFrame ..) fun _ => .setFlight ..
end
end L2
namespace L2
open PySem PySem.W PySem.Spec PySem.Calls PyProof.Rows
section
variable {prog : Program} {w : World} {A : Around} {h : Heap} {g : Array GenState} {d : Drawn} {t : Nat} {os : OsState} {nm q : Str} {C N : Addr} {bs bm bmB : List Value}
 {hdct : Bool} {sn : List Str} {sub : List Value} {ab : Bool} {col : Option Bool} {dd : Option Addr} {k0 k1 k2 k3 k5 : Option Value} {B newId initId : String}
abbrev excHp (h : Heap) (C : Addr) (rest : List Value) : Heap := (h.push { cls := .type "tuple", data := .seq rest.toArray }).push { cls := .ref C, data := .fields #[.ref h.objs.size, .none, .none, .none, .bool false, .none] }
theorem excHp_at {rest : List Value} : (excHp h C rest).get? (h.objs.size + 1) = some { cls := .ref C, data := .fields #[.ref h.objs.size, .none, .none, .none, .bool false, .none] } := by
 have := Heap.get?_push_size (h.push { cls := .type "tuple", data := .seq rest.toArray }) (o := { cls := .ref C, data := .fields #[.ref h.objs.size, .none, .none, .none, .bool false, .none] }) (by exact rfl)
 rw [Heap.size_push] at this
 exact this
theorem excHp_kp {rest : List Value} (b : Addr) (o : Obj) (e : h.get? b = some o) : (excHp h C rest).get? b = some o := Heap.get?_push_of_some _ (Heap.get?_push_of_some _ e)
theorem type_call_own {E : Value → Shared → Prop} {K : PySem.W.Frag} (X : K.In h) (FB : ExcBaseFacts B newId initId bmB) (T : OwnTail h bmB bm)
 {rest : List Value} {fI : Addr} {Q : PySem.Fin → Shared → Prop} (hC : h.get? C = some (excClassObj nm q C N bs bm hdct sn sub ab col dd k0 k1 k2 k3 k5 newId))
 (hI : findIn K (.ref C) "__init__" = some (some (.ref fI))) (hf : typeIn K (.ref fI) = some (.type "function")) (hl : rest.length ≤ sizeLine)
 (k : codeAny (model prog w) A (.call (.ref fI) ⟨.ref (h.objs.size + 1) :: rest, []⟩) (fun r s' => match r with | .ok (.ret v) => v = .none ∧ Q (.done (.ret (.ref (h.objs.size + 1)))) s' | .ok _ => False | .error e => E e s') ⟨excHp h C rest, g, d, t, os⟩) :
 wpAny (model prog w) A (Builtin.«type.__call__» ⟨.ref C :: rest, []⟩) Q E ⟨h, g, d, t, os⟩ := by
 unfold Builtin.«type.__call__»
 have ne : (Value.ref C == Value.type "type") = false := rfl
 simp only [ne, Bool.false_eq_true, if_false]
 refine wpAny_bind (wpAny_mroOf_exc hC ?_)
 simp only [List.isEmpty_cons, Bool.false_eq_true, if_false]
 refine wpAny_bind (wpAny_madeBy_exc hC ?_)
 refine wpAny_bind (wpAny_pure ?_)
 refine wpAny_bind ?_
 refine wpAny_holding ?_
 refine wpAny_call (codeAny_call_builtin_code (Code.quiet_builtin _ FB.quiet) (wpAny_check_new_subT FB T hC (codeAny_exc_new_subT FB T hC ?_ hl)))
 have kp := fun b o e => excHp_kp (h := h) (C := C) (rest := rest) b o e
 have he := excHp_at (h := h) (C := C) (rest := rest)
 change wpAny _ _ _ _ _ ⟨excHp h C rest, g, d, t, os⟩
 generalize excHp h C rest = h2 at *
 refine wpAny_bind ?_
 unfold isInstance
 repeat (first | with_reducible refine wpAny_loadPart_at he ?_ | with_reducible refine wpAny_isSubtype_exc (kp _ _ hC) ?_ | wp_step)
 have X2 : K.In h2 := fun a o e => kp a o (X a o e)
 have Li := looks_findIn (M := model prog w) X2 hI
 have Lb := bind_fn (M := model prog w) X2 (.ref (h.objs.size + 1)) hf
 dsimp only
 repeat (first | with_reducible refine Looks.at Li ?_ | with_reducible refine Looks.at Lb ?_ | wp_step)
 refine codeAny_mono k fun r s' hr => ?_
 rcases r with e | f
 ·exact hr
 ·cases f with
  | ret v =>
    obtain ⟨rfl, hq⟩ := hr
    dsimp only
    repeat wp_step
    exact hq
  | next => exact hr.elim
  | brk => exact hr.elim
  | cont => exact hr.elim
theorem call_own {R : Result → Shared → Prop} {K : PySem.W.Frag} (X : K.In h) (FB : ExcBaseFacts B newId initId bmB) (T : OwnTail h bmB bm)
 {rest : List Value} {fI : Addr} (hC : h.get? C = some (excClassObj nm q C N bs bm hdct sn sub ab col dd k0 k1 k2 k3 k5 newId))
 (hI : findIn K (.ref C) "__init__" = some (some (.ref fI))) (hf : typeIn K (.ref fI) = some (.type "function")) (hl : rest.length ≤ sizeLine)
 (k : codeAny (model prog w) (A.under (.builtin "type.__call__" ⟨.ref C :: rest, []⟩)) (.call (.ref fI) ⟨.ref (h.objs.size + 1) :: rest, []⟩) (InitBack (h.objs.size + 1) R) ⟨excHp h C rest, g, d, t, os⟩) :
 codeAny (model prog w) A (.call (.ref C) ⟨rest, []⟩) R ⟨h, g, d, t, os⟩ := by
 have Lt : Looks (model prog w) h (typeOf (.ref C)) (.type "type") := (Looks.ld hC).andThen .now
 refine codeAny_of_tree ?_
 show wpAny _ _ (denote table (Code.call (Value.ref C) { pos := rest })) _ _ _
 unfold denote
 dsimp only
 repeat (first | with_reducible refine wpAny_loadPart_at hC ?_ | with_reducible refine Looks.at Lt ?_ | wp_step)
 rw [tc_lookup]
 refine wpAny_pure ?_
 dsimp only
 rw [tc_bind]
 repeat (first | with_reducible refine wpAny_loadPart_at hC ?_ | with_reducible refine Looks.at Lt ?_ | wp_step)
 dsimp only
 refine ⟨rfl, codeAny_call_builtin_code (Code.quiet_builtin _ (by decide +kernel)) (wpAny_check_type_call_sub hC (codeAny_builtin entry_typeCall ?_))⟩
 refine type_call_own X FB T hC hI hf hl (codeAny_mono k fun r s' hr => ?_)
 rcases r with e | f
 ·exact hr
 ·cases f with
  | ret v => exact hr
  | next => exact hr.elim
  | brk => exact hr.elim
  | cont => exact hr.elim
end
end L2
namespace L2
open PySem PySem.W PySem.Spec PySem.Calls PyProof.Rows Builtin Builtin.ObjectAttr
section
variable {prog : Program} {w : World} {A : Around} {E : Value → Shared → Prop} {h : Heap} {g : Array GenState} {d : Drawn} {t : Nat} {os : OsState} {nm q : Str} {C N P e : Addr} {bs : List Value} {K : PySem.W.Frag}
 {sn : List Str} {sub : List Value} {ab : Bool} {col : Option Bool} {dd : Option Addr} {k0 k1 k2 k3 k5 : Option Value} {newId : String} {vs : Array Value} {name : Str} {x : Value}
theorem exc_sa_check {M : Model} {o : Obj} {nv : Value} {Q : Unit → Shared → Prop} (X : K.In h) (hx : h.get? e = some o) (hc : o.cls = .ref C) (hm : mroIn K C (.type "object") = some true) (hq : Q () ⟨h, g, d, t, os⟩) : wpAny M A (checkBuiltinCall "object.__setattr__" ⟨[.ref e, nv, x], []⟩) Q E ⟨h, g, d, t, os⟩ := by
 have kk := F.bk_object_setattr
 have ks : splitId "object.__setattr__" = some ("object", "__setattr__") := by decide +kernel
 have Lt := excTy (M := M) hx hc
 have Lb := looks_mroIn (M := M) X hm
 have oa := F.args_object_setattr_3 (.ref e) nv x
 simp only [checkBuiltinCall, kk, ks]
 refine wpAny_bind ?_
 unfold isInstance
 repeat (first | with_reducible refine Looks.at Lt ?_ | with_reducible refine Looks.at Lb ?_ | wp_step)
 exact hq
theorem dict_new {g : Obj → Obj} (ne : h.objs.size ≠ e) : ((h.push { cls := .type "dict", data := .dict #[] }).update e g).Ns1 h.objs.size fun _ => none := by
 refine ⟨{ cls := .type "dict", data := .dict #[] }, #[], _, ?_, rfl, ?_, ?_, fun _ => rfl⟩
 ·rw [Heap.get?_update_ne _ _ _ _ ne]
  exact Heap.get?_push_size h (o := { cls := .type "dict", data := .dict #[] }) rfl
 ·unfold StrKeys
  simp
 ·unfold UniqKeys
  simp
theorem exc_setattr {Q : Unit → Shared → Prop} (X : K.In h) (hC : h.get? C = some (excClassObj nm q C N bs (.ref P :: vChain) true sn sub ab col dd k0 k1 k2 k3 k5 newId))
 (he : h.get? e = some { cls := .ref C, data := .fields vs }) (hs : findIn K (.ref C) "__setattr__" = some (some (.builtin "object.__setattr__"))) (hn : findIn K (.ref C) name = some none) (hm : mroIn K C (.type "object") = some true)
 (k : ∀ h' : Heap, (h'.Ns1 h.objs.size fun y => if y = name then some x else none) → h'.get? e = some { cls := .ref C, dict := some h.objs.size, data := .fields vs } → (∀ b o, b ≠ e → h.get? b = some o → h'.get? b = some o) → Q () ⟨h', g, d, t + 2, os⟩) :
 wpAny (model prog w) A (setAttr (.ref e) name x) Q E ⟨h, g, d, t, os⟩ := by
 have Lt : Looks (model prog w) h (typeOf (.ref e)) (.ref C) := (Looks.ld he).andThen .now
 have Ln := looks_findIn (M := model prog w) X hn
 have J : InstAt h e { cls := .ref C, data := .fields vs } C none := ⟨he, rfl, rfl, trivial⟩
 refine set_plain X J hs (codeAny_call_builtin F.slot_object_setattr.plain F.entry_object_setattr ?_)
 dsimp only
 refine exc_sa_check X he rfl hm ?_
 unfold Builtin.«object.__setattr__» Builtin.ObjectAttr.refuseIfOverridden
 dsimp only
 have eh : e < h.objs.size := Heap.lt_size he
 have ns := dict_new (h := h) (e := e) (g := fun o : Obj => { cls := o.cls, dict := some h.objs.size, data := o.data, slots := o.slots }) (Nat.ne_of_gt eh)
 have he1 : ((h.push { cls := .type "dict", data := .dict #[] }).update e fun o => { cls := o.cls, dict := some h.objs.size, data := o.data, slots := o.slots }).get? e = some { cls := .ref C, dict := some h.objs.size, data := .fields vs } := by
  exact Heap.get?_update_self (fun o : Obj => { cls := o.cls, dict := some h.objs.size, data := o.data, slots := o.slots }) (Heap.get?_push_of_some _ he) rfl
 have kp1 : ∀ b o, b ≠ e → h.get? b = some o → ((h.push { cls := .type "dict", data := .dict #[] }).update e fun o => { cls := o.cls, dict := some h.objs.size, data := o.data, slots := o.slots }).get? b = some o := fun b o hb ho => (Heap.get?_update_ne _ _ _ _ hb).trans (Heap.get?_push_of_some _ ho)
 repeat (first | with_reducible refine wpAny_nsSet1 ns fun h' hn' hs' => ?_ | with_reducible refine wpAny_loadPart_at he ?_ | with_reducible refine wpAny_loadPart_at hC ?_ | with_reducible refine wpAny_mroOf_exc hC ?_ | with_reducible refine Looks.at Lt ?_ | with_reducible refine Looks.at Ln ?_ | wp_step)
 obtain ⟨oD, esD, epD, hoD, hdD, hcD⟩ := hn'.count (ns := [name]) (PySem.Within.cons name x (m := fun _ => none) (ns := []) fun y hy => absurd rfl hy)
 refine wpAny_loadPart_at hoD ?_
 rw [hdD, pastItsLine_dict (Nat.le_trans hcD (by show 1 ≤ _; decide))]
 repeat wp_step
 refine k h' hn' ?_ fun b o hb ho => ?_
 ·exact (hs'.2 e (Nat.ne_of_lt eh)).trans he1
 ·exact (hs'.2 b (Nat.ne_of_lt (Heap.lt_size ho))).trans (kp1 b o hb ho)
end
end L2
namespace L2
open PySem PySem.W PySem.Spec PySem.Calls PyProof.Rows
theorem raise_made {M : Model} {A : Around} {E : Value → Shared → Prop} {env : Env} {nm q : Str} {C N : Addr} {bs bm : List Value} {hdct : Bool} {sn : List Str} {sub : List Value} {ab : Bool} {col : Option Bool} {dd : Option Addr} {k0 k1 k2 k3 k5 : Option Value} {newId : String} {s : Shared} {x : Sem Value}
 {Q : Flow → Shared → Prop} (hb : bm.contains (Value.type "BaseException") = true) (hd : A.handled = none)
 (hx : wpAny M A x (fun v s₁ => ∃ e a0 dx, v = Value.ref e ∧ s₁.heap.get? C = some (excClassObj nm q C N bs bm hdct sn sub ab col dd k0 k1 k2 k3 k5 newId) ∧
  s₁.heap.get? e = some { cls := Value.ref C, dict := some dx, data := Data.fields #[a0, Value.none, Value.none, Value.none, Value.bool false, Value.none] } ∧ E (Value.ref e) s₁) E s) : wpAny M A (raiseStmt env (some x) none) Q E s := by
 unfold raiseStmt
 dsimp only
 refine wpAny_bind (wpAny_mono hx (fun v s1 h1 => ?_) fun _ _ z => z)
 obtain ⟨e, a0, dx, rfl, hC, he, hE⟩ := h1
 obtain ⟨h, g, d, t, os⟩ := s1
 have nt := tc_notTuple
 have hsub : ((Value.ref C :: bm).contains (Value.type "BaseException")) = true := by rw [List.contains_cons, hb, Bool.or_true]
 unfold excFromValue isInstance
 repeat (first | with_reducible refine wpAny_loadPart_at he ?_ | with_reducible refine wpAny_loadPart_at hC ?_ | (with_reducible refine wpAny_isSubtype_exc hC ?_; rw [hsub]) | wp_step)
 unfold raiseNew
 repeat (first | wp_step)
 exact hE
theorem exc_base_init {prog : Program} {w : World} {A : Around} {E : Value → Shared → Prop} {h : Heap} {g : Array GenState} {d : Drawn} {t : Nat} {os : OsState} {nm q : Str} {C N : Addr} {bs bm bmB : List Value}
 {hdct : Bool} {sn : List Str} {sub : List Value} {ab : Bool} {col : Option Bool} {dd : Option Addr} {k0 k1 k2 k3 k5 : Option Value} {newId : String} (FB : ExcBaseFacts "ValueError" newId "ValueError.__init__" bmB) (T : OwnTail h bmB bm)
 {e : Addr} {a0 x : Value} {Q : Value → Shared → Prop} (hC : h.get? C = some (excClassObj nm q C N bs bm hdct sn sub ab col dd k0 k1 k2 k3 k5 newId))
 (he : h.get? e = some { cls := .ref C, data := .fields #[a0, .none, .none, .none, .bool false, .none] })
 (k : ∀ h' : Heap, h'.get? e = some { cls := .ref C, data := .fields #[.ref h.objs.size, .none, .none, .none, .bool false, .none] } → (∀ b o, b ≠ e → h.get? b = some o → h'.get? b = some o) → Q .none ⟨h', g, d, t, os⟩) :
 wpAny (model prog w) A (call (.builtin "ValueError.__init__") [.ref e, x]) Q E ⟨h, g, d, t, os⟩ := by
 refine wpAny_call (codeAny_call_builtin_code (Code.quiet_builtin _ (by decide +kernel)) (wpAny_check_init_subT FB T hC he rfl (codeAny_builtin FB.initEntry ?_)))
 unfold Builtin.«BaseException.__init__»
 dsimp only
 unfold Builtin.BaseException.bexcPut
 repeat (first | with_reducible refine wpAny_loadPart_at he ?_ | wp_step)
 have he1 := Heap.get?_update_self (Obj.mapFields fun vs => vs.setIfInBounds 0 (.ref h.objs.size)) (Heap.get?_push_of_some { cls := .type "tuple", data := .seq #[x] } he) rfl
 have fin := k _ he1 fun b o hb ho => (Heap.get?_update_ne _ _ _ _ hb).trans (Heap.get?_push_of_some _ ho)
 split
 ·refine wpAny_letGo ?_
  repeat wp_step
  exact fin
 ·repeat wp_step
  exact fin
end L2
namespace L2
open PySem PySem.W PySem.Spec PySem.Calls PyProof.Rows
abbrev xFld (a0 : Value) : Data := .fields #[a0, .none, .none, .none, .bool false, .none]
def exc0 (e C : Addr) : HO := .ext fun h => ∃ a0, h.get? e = some { cls := .ref C, data := xFld a0 }
def exc1 (e C dx : Addr) : HO := .ext fun h => ∃ a0, h.get? e = some { cls := .ref C, dict := some dx, data := xFld a0 }
section
variable {P : Program} {w : World} {H : Hp} {h : Heap} {e C dx : Addr} {a0 : Value}
theorem exc0_ok (he : h.get? e = some { cls := .ref C, data := xFld a0 }) : ObjOk P w H h e (exc0 e C) := ⟨⟨a0, he⟩, ⟨_, he⟩, fun _ _ ⟨a, q⟩ k => ⟨a, k _ q⟩⟩
theorem exc1_ok (he : h.get? e = some { cls := .ref C, dict := some dx, data := xFld a0 }) : ObjOk P w H h e (exc1 e C dx) := ⟨⟨a0, he⟩, ⟨_, he⟩, fun _ _ ⟨a, q⟩ k => ⟨a, k _ q⟩⟩
end
def ownIn (K : PySem.W.Frag) (C P : Addr) : Bool := match K.lookup C with
 | some ⟨.type "type", _, .cls cd, sl⟩ => (match sl.toList with
   | [_, _, _, _, some (.builtin n), _] => cd.mro == .ref C :: .ref P :: vChain && n == "ValueError.__new__" && !cd.hasDel && cd.hasDict && tailIn K vChain (.ref P :: vChain)
   | _ => false)
 | _ => false
theorem own_obj {K : PySem.W.Frag} {h : Heap} {C P : Addr} (X : K.In h) (q : ownIn K C P = true) : (∃ N nm qn bs sn sub ab col dd k0 k1 k2 k3 k5, h.get? C = some (excClassObj nm qn C N bs (.ref P :: vChain) true sn sub ab col dd k0 k1 k2 k3 k5 "ValueError.__new__")) ∧ OwnTail h vChain (.ref P :: vChain) := by
 unfold ownIn at q
 split at q
 ·rename_i d1 cd1 sl1 ho
  split at q
  ·rename_i z0 z1 z2 z3 n1 z5 hs
   simp only [beq_iff_eq, Bool.and_eq_true, Bool.not_eq_true'] at q
   obtain ⟨⟨⟨⟨e1, e2⟩, e3⟩, e4⟩, e5⟩ := q
   subst e2
   obtain ⟨y1, y2, y3, y4, y5, y6, y7, y8, y9, y10, y11⟩ := cd1
   dsimp only at e1 e3 e4
   subst e1 e3 e4
   have hsl : sl1 = #[z0, z1, z2, z3, some (.builtin "ValueError.__new__"), z5] := by
    obtain ⟨l1⟩ := sl1
    exact congrArg Array.mk hs
   subst hsl
   exact ⟨⟨y4, y1, y5, y2, y7, y8, y9, y10, d1, z0, z1, z2, z3, z5, X _ _ ho⟩, tail_of_in X e5⟩
  ·cases q
 ·cases q
structure ExcMk (K : PySem.W.Frag) (C P f : Addr) : Prop where
 own : ownIn K C P = true
 init : findIn K (.ref C) "__init__" = some (some (.ref f))
 fn : typeIn K (.ref f) = some (.type "function")
 sa : findIn K (.ref C) "__setattr__" = some (some (.builtin "object.__setattr__"))
 obj : mroIn K C (.type "object") = some true
 kp : keepIn K (.ref C) = true
section
variable {X : Cx} {CX : CXT} {k : Nat} {f C P0 : Addr} {fd : FuncData} {ps : List Str} {sp : Sp} {E : XK} {dvs : List V} {ds : List Value}
theorem run_exc {pins : List (Addr × Obj)} {σ : St} {H : Hp} {s : Shared} {Q : Addr → Hp → Prop} {us : List Value} {vs : List V} (M : ExcMk X.K C P0 f) (F : FnOk X.prog X.w X.K X.mg X.base CX k f fd ps sp) (hr : Room (k + 1) X.A) (hb : Binds X.K fd ps ds) (hd : Vals dvs ds)
 (hx : Passes CX X E) (I : Inv X pins σ H s) (r : Vals vs us) (hz : us.length ≤ sizeLine)
 (h : ∀ x, H x = none → sp (.ref x :: (vs ++ dvs)) (upd H x (exc0 x C)) (fun v H2 => v = .non ∧ Q x H2) E) :
 wpAny (model X.prog X.w) X.A (call (.ref C) us) (EP X pins σ fun v H2 => ∃ x, v = .ref x ∧ s.heap.get? x = none ∧ Q x H2) X.xe s := by
 have hq := h (s.heap.objs.size + 1) (I.hok.fresh (Nat.le_succ _))
 obtain ⟨⟨N, nm, qn, bs, sn, sub, ab, col, dd, k0, k1, k2, k3, k5, hC⟩, T⟩ := own_obj I.kIn M.own
 have I2 : Inv X pins σ (upd H (s.heap.objs.size + 1) (exc0 (s.heap.objs.size + 1) C)) { s with heap := excHp s.heap C us } := I.laid (t' := s.toks) (fun b u q => excHp_kp b u q) (Nat.le_succ _) (exc0_ok excHp_at)
 have r2 : Vals (V.ref (s.heap.objs.size + 1) :: (vs ++ dvs)) (Value.ref (s.heap.objs.size + 1) :: (us ++ ds)) := .cons rfl (r.append hd)
 have hl : (Value.ref (s.heap.objs.size + 1) :: us ++ ds).length = ps.length := by
  have e := r2.length
  rw [F.len _ _ _ _ hq] at e
  exact e.symm
 refine wpAny_call (call_own I.kIn PySem.F.excBase_ValueError T hC M.init M.fn hz (codeAny_mono (F.run _ X.stack _ _ ⟨Value.ref (s.heap.objs.size + 1) :: us, []⟩ (Value.ref (s.heap.objs.size + 1) :: (us ++ ds)) _ _ E (hr.make C us [])
  (I2.env0.make C us []) (hb _ (Value.ref (s.heap.objs.size + 1) :: us) I2.kIn hl) r2 hq) fun r s' hq' => ?_))
 cases r with
 | error e => exact hx pins σ _ _ e s' I2 hq'
 | ok fl =>
   cases fl with
   | ret u =>
     obtain ⟨v, H', I3, rv, ev, q3⟩ := I2.after hq'
     subst ev
     refine ⟨rv, ⟨V.ref (s.heap.objs.size + 1), H', I3, rfl, _, rfl, ?_, q3⟩⟩
     cases hq : s.heap.get? (s.heap.objs.size + 1) with
     | none => rfl
     | some o => exact absurd (Heap.lt_size hq) (Nat.not_lt.mpr (Nat.le_succ _))
   | next => exact False.elim hq'
   | brk => exact False.elim hq'
   | cont => exact False.elim hq'
end
theorem upd_self {H : Hp} {a : Addr} {o : HO} (h : H a = some o) : upd H a o = H := by
 funext b
 unfold upd
 split
 ·rename_i e
  rw [e, h]
 ·rfl
def rXInit (K : PySem.W.Frag) (C P : Addr) : List V → Hp → VK → Prop := fun xs H Q => ∃ e y, xs = [.ref e, y] ∧ H e = some (exc0 e C) ∧ ownIn K C P = true ∧ Q .non H
theorem call_xinit {X : Cx} {C P : Addr} : CallR X (.builtin "ValueError.__init__") (rXInit X.K C P) := by
 intro pins s σ H vs us Q I r h
 obtain ⟨e, y, rfl, he, ho, q⟩ := h
 obtain ⟨u, w', rfl, r1, r2⟩ := vals2 r
 cases (show u = Value.ref e from r1)
 obtain ⟨⟨N, nm, qn, bs, sn, sub, ab, col, dd, k0, k1, k2, k3, k5, hC⟩, T⟩ := own_obj I.kIn ho
 obtain ⟨⟨a0, he0⟩, _⟩ := I.hok e _ he
 obtain ⟨hh, g, d, t, os⟩ := s
 refine exc_base_init PySem.F.excBase_ValueError T hC he0 fun h' he' kp => ⟨.non, H, ?_, rfl, q⟩
 have := I.write (h' := h') (x := e) (e := e) (o := exc0 e C) (t' := t) (by rw [he]; exact True.intro) (.inl rfl) (fun b u hb z => kp b u hb z) ⟨_, he'⟩ (exc0_ok he')
 rw [upd_self he] at this
 exact this
def sFldX (K : PySem.W.Frag) (C P : Addr) (ta tv : TE) (f : Str) : TS := fun N σ H => tv σ H fun y H1 => ta σ H1 fun x H2 => ∃ e, x = .ref e ∧ H2 e = some (exc0 e C) ∧ ownIn K C P = true ∧ findIn K (.ref C) "__setattr__" = some (some (.builtin "object.__setattr__")) ∧ findIn K (.ref C) f = some none ∧ mroIn K C (.type "object") = some true ∧
 ∀ dx, H2 dx = none → dx ≠ e → N.nx σ (upd (upd H2 dx (.xd [(f, y)])) e (exc1 e C dx))
theorem ps_fldX {X : Cx} {C P : Addr} {o value : Expr} {ta tv : TE} {f : Str} {pos' pos : Pos} (ha : PE X o ta) (hv : PE X value tv) (hs : swapsWith value (some (.Attribute o f pos')) pos.line X.env = pure false) : PS X (.Assign [.Attribute o f pos'] value pos) (sFldX X.K C P ta tv f) := by
 intro pins s σ H D I h
 refine plainObj_wpAny_Assign_Attribute (thn (hv pins s σ H _ I h) fun u s1 ⟨y, H1, I1, ry, q⟩ => thn (ha pins s1 σ H1 _ I1 q) fun ov s2 ⟨x, H2, I2, rx, e, ex, he, ho, sa, n, m, q2⟩ => ?_) hs
 subst ex
 obtain rfl : ov = Value.ref e := rx
 obtain ⟨⟨N, nm, qn, bs, sn, sub, ab, col, dd, k0, k1, k2, k3, k5, hC⟩, T⟩ := own_obj I2.kIn ho
 obtain ⟨⟨a0, he0⟩, _⟩ := I2.hok e _ he
 obtain ⟨hh, g, d, t, os⟩ := s2
 refine exc_setattr I2.kIn hC he0 sa n m fun h' ns he' kp => ⟨σ, _, ?_, q2 hh.objs.size (I2.hok.fresh (Nat.le_refl _)) (Nat.ne_of_gt (Heap.lt_size he0))⟩
 have ne : hh.objs.size ≠ e := Nat.ne_of_gt (Heap.lt_size he0)
 have hn := I2.hok.fresh (a := hh.objs.size) (Nat.le_refl _)
 obtain ⟨od, es, ep, hod, nr⟩ := ns
 have e1 : (hh.push od).get? hh.objs.size = some od := Heap.get?_push_size hh (notFreed hod)
 have I3 := I2.laid (a := hh.objs.size) (o := .xd [(f, y)]) (h' := hh.push od) (t' := t) (fun b u q => Heap.get?_push_of_some _ q) (Nat.le_refl _) ⟨_, ⟨od, es, ep, e1, nr⟩, fun g => by
  by_cases hg : g = f
  ·subst hg
   rw [if_pos rfl]
   simp only [List.lookup, beq_self_eq_true]
   exact ry
  ·rw [if_neg hg]
   have : (g == f) = false := by simpa using hg
   simp [List.lookup, this, RelO]⟩
 refine I3.write (h' := h') (x := e) (e := e) (o := exc1 e C hh.objs.size) (t' := t + 2) (by rw [upd_ne (Ne.symm ne), he]; exact True.intro) (.inl rfl) (fun b u hb z => ?_) ⟨_, he'⟩ (exc1_ok he')
 by_cases hb2 : b = hh.objs.size
 ·subst hb2
  have z' : (hh.push od).get? hh.objs.size = some u := z
  rw [e1] at z'
  cases z'
  exact hod
 ·refine kp b u hb ?_
  have z' : (hh.push od).get? b = some u := z
  rwa [Heap.get?_push_ne _ _ _ hb2] at z'
end L2
namespace L2
open PySem PySem.W PySem.Spec PySem.Calls PyProof.Rows
theorem KeepsD.any {e dx : Addr} {α : Type} {t : Sem α} {M : Model} {A : Around} {s : Shared} {Q : α → Shared → Prop} {E : Value → Shared → Prop} (kd : KeepsD e dx t) (hd : HasD e dx s.heap) (h : wpAny M A t Q E s) : wpAny M A t (fun a s' => Q a s' ∧ HasD e dx s'.heap) E s :=
 fun Γ p hΓ => kd.out M Γ _ _ p s hd (h Γ p hΓ)
def CX2 (P : Program) (w : World) : CXT := fun outer H s E e s' => ∃ (a C dx : Addr) (a0 : Value) (H' : Hp) (bs : Heap), e = .ref a ∧ s'.os = s.os ∧ AllBare s'.gens ∧ Un (frs outer) [] H H' s.heap s'.heap ∧ HOk P w H' s'.heap ∧
 Heap.FlyingW bs outer a (.ref C) a0 s'.heap ∧ (∀ b o, s.heap.get? b = some o → b ∉ frs outer → ∃ o', bs.get? b = some o') ∧ (∀ b u, H' b = some u → ∃ o, bs.get? b = some o) ∧ HasD a dx s'.heap ∧ E (.ref C) (some dx) H'
def tRaiseI (C : Addr) (sp : Sp) (E : XK) (t : TA) : TS := fun _ σ H => t σ H fun vs H1 => vs.length ≤ sizeLine ∧ ∀ e, H1 e = none → sp (.ref e :: vs) (upd H1 e (exc0 e C)) (fun v H2 => v = .non ∧ ∃ dx H3, H2 = upd H3 e (exc1 e C dx) ∧ H3 e = none ∧ E (.ref C) (some dx) H3) E
theorem HOk.unlay {P : Program} {w : World} {H : Hp} {h : Heap} {e C dx : Addr} (x : HOk P w (upd H e (exc1 e C dx)) h) (he : H e = none) : HOk P w H h := fun b u q => by
 have hb : b ≠ e := ne_of_none q he
 refine (x b u (by rw [upd_ne hb]; exact q)).stay (fun _ _ _ z => z) (fun c z => ?_) fun c xs z => ?_
 ·by_cases hc : c = e
  ·subst hc
   rw [upd_same] at z
   cases z
  ·rwa [upd_ne hc] at z
 ·by_cases hc : c = e
  ·subst hc
   rw [upd_same] at z
   cases z
  ·rwa [upd_ne hc] at z
theorem ps_raiseI {X : Cx} {k : Nat} {f C P0 : Addr} {fd : FuncData} {ps : List Str} {sp : Sp} {x : Str} {e₀ : Expr} {es : List Expr} {np cpos pos : Pos} {t : TA} {E : XK} (M : ExcMk X.K C P0 f) (F : FnOk X.prog X.w X.K X.mg X.base CX0 k f fd ps sp) (hr : Room (k + 1) X.A) (hb : Binds X.K fd ps [])
 (hg : Gl X x) (hm : X.mg x = some (.ref C)) (hc : X.calm = true) (hex : X.ex = []) (hst : X.stack = X.env :: X.outer) (hf : X.env.frame = some X.env.locals)
 (hxe : ∀ e s', wpAny (model X.prog X.w) X.A (leaving X.env e) (fun _ s'' => CX2 X.prog X.w X.outer X.H₀ X.s₀ E e s'') (fun e' s'' => CX2 X.prog X.w X.outer X.H₀ X.s₀ E e' s'') s' → X.xe e s')
 (ha : PA X (e₀ :: es) t) (hd : (x == ("__debug__" : Str)) = false := by decide)
 (he : starEach (e₀ :: es) X.env = (false, eval e₀ X.env) :: starEach es X.env := by rfl) (hpl : (backTo cpos (starEach es X.env)).any (·.1) = false := by rfl) : PS X (.Raise (some (.Call (.Name x np) (e₀ :: es) [] cpos)) none pos) (tRaiseI C sp E t) := by
 intro pins s σ H D I h
 have noe : ∀ b, b ∉ X.ex := fun b hb => by rw [hex] at hb; cases hb
 obtain ⟨⟨N, nm, qn, bs, sn, sub, ab, col, dd, k0, k1, k2, k3, k5, hC⟩, T⟩ := own_obj I.ok.mod.kin M.own
 rw [arm_exec_Raise]
 refine wpAny_bind (wpAny_standAt (raise_made (C := C) (nm := nm) (q := qn) (N := N) (bs := bs) (bm := .ref P0 :: vChain) (hdct := true) (sn := sn) (sub := sub) (ab := ab) (col := col) (dd := dd) (k0 := k0) (k1 := k1) (k2 := k2) (k3 := k3) (k5 := k5) (newId := "ValueError.__new__") (by simp [vChain]) (I.ok.hd hc) ?_))
 refine wpAny_bind (wpAny_mono (Q := fun v s₁ => ∃ e a0 dx, v = Value.ref e ∧ s₁.heap.get? C = some (excClassObj nm qn C N bs (.ref P0 :: vChain) true sn sub ab col dd k0 k1 k2 k3 k5 "ValueError.__new__") ∧
  s₁.heap.get? e = some { cls := Value.ref C, dict := some dx, data := Data.fields #[a0, Value.none, Value.none, Value.none, Value.bool false, Value.none] } ∧ X.xe (Value.ref e) s₁) ?_ (fun v s₃ h₃ => wpAny_bind (wpAny_standAt (wpAny_pure h₃))) fun _ _ x => x)
 refine wpAny_Call_Name_kw (ld_glob I hg hm ?_ hd)
 refine PySem.W.callWith_K (h₀ := X.base) I.ok.mod.kin M.kp (thn (ha cpos pins s σ H _ I h) fun us s1 ⟨vs, H1, I1, r, hz, q⟩ => ⟨I1.kIn, ?_⟩) he hpl
 refine thn (run_exc (us := us) (vs := vs) (Q := fun e H2 => ∃ dx H3, H2 = upd H3 e (exc1 e C dx) ∧ H3 e = none ∧ E (.ref C) (some dx) H3) (dvs := []) (ds := []) M F hr hb .nil (fun _ _ _ _ _ _ _ z => z.elim) I1 r (by rw [← r.length]; exact hz) fun e he' => by rw [List.append_nil]; exact q e he') fun u s2 ⟨v, H2, I2, rv, e, ev, hs1, dx, H3, e2, hn3, hE⟩ => ?_
 subst ev e2
 obtain rfl : u = Value.ref e := rv
 obtain ⟨⟨a0, hee⟩, _⟩ := I2.hok e _ upd_same
 have hs0 : ∀ b o, X.s₀.heap.get? b = some o → b ≠ e := by
  rintro b o h1 rfl
  obtain ⟨o', h2⟩ := I1.base.there b o h1 (noe b)
  rw [hs1] at h2
  cases h2
 have hef : e ∉ frs X.stack := fun z => by
  have := I2.stkFree e z
  rw [upd_same] at this
  cases this
 have hok3 : HOk X.prog X.w H3 s2.heap := I2.hok.unlay hn3
 have fr : X.A.frames = some (X.env :: X.outer) := by rw [I.ok.frames, hst]
 have lg : ∀ b o, b ∉ frs X.stack → b ≠ e → s2.heap.get? b = some o → (less s2.heap fun b => decide (b ∈ frs X.stack ∨ b = e)).get? b = some o := fun b o hb hb2 ho => by
  rw [less_get, if_neg (by simp [hb, hb2])]; exact ho
 refine ⟨e, a0, dx, rfl, I2.bk _ _ hC, hee, hxe _ _ ?_⟩
 have sin : (less s2.heap fun b => decide (b ∈ frs X.stack ∨ b = e)).StaysIn s2.heap := fun b o hb => by
  rw [less_get] at hb
  split at hb
  ·cases hb
  ·exact hb
 refine wpAny_mono (KeepsD.any (KeepsD.leaving (.ref e) X.env) (⟨_, hee, rfl⟩ : HasD e dx s2.heap) (wpAny_leaving_firstW (Q := fun _ s3 => ∃ h', s3 = { s2 with heap := h' } ∧ Heap.LeftW (less s2.heap fun b => decide (b ∈ frs X.stack ∨ b = e)) (X.env :: X.outer) e (.ref C) a0 s2.heap h') (base := less s2.heap fun b => decide (b ∈ frs X.stack ∨ b = e)) (a0 := a0) fr (frames_base (hst ▸ I2.stack) fun b hb => ?_) hf hee sin ?_ rfl rfl rfl fun h' hL => ⟨h', rfl, hL⟩)) (fun _ s3 hh => ?_) fun _ _ z => z
 ·rw [less_get, if_pos (by rw [hst]; simp [hb])]
 ·rw [less_get, if_pos (by simp)]
 obtain ⟨⟨h'', rfl, k1, ⟨_, _, k2⟩, k3, up⟩, hdx⟩ := hh
 have hen : (less s2.heap fun b => decide (b ∈ frs X.stack ∨ b = e)).get? e = none := by rw [less_get, if_pos (by simp)]
 have fl : Heap.FlyingW (less s2.heap fun b => decide (b ∈ frs X.stack ∨ b = e)) X.outer e (.ref C) a0 h'' := ⟨k1, hen, k2, k3⟩
 have low : ∀ b o, X.s₀.heap.get? b = some o → b ∉ X.fs → b ∉ frs X.stack := fun b o ho hb hb' => by
  rcases List.mem_cons.mp (I.stkSub b hb') with z | z
  ·exact absurd (Heap.lt_size ho) (Nat.not_lt.mpr (by rw [z]; exact I.ok.above))
  ·exact hb z
 have un3 : ∀ b u, (upd H3 e (exc1 e C dx)) b = some u → b ≠ e → H3 b = some u := fun b u q hb => by rwa [upd_ne hb] at q
 refine ⟨e, C, dx, a0, H3, _, rfl, I2.os, I2.bare, ⟨fun b o h1 h2 h3 _ => ?_, fun b o h1 h2 h3 _ => ?_, fun b o h1 h2 _ => ?_, fun b o h1 _ => ?_, fun b xs q => ?_, fun b o u q => ?_, fun b ps q => ?_⟩, fun b u hb => ?_, fl, fun b o h1 h2 => ?_, fun b u hb => ?_, hdx, hE⟩
 ·exact fl.1 b o (lg b o (low b o h1 h3) (hs0 b o h1) (I2.base.keep b o h1 h2 h3 (noe b)))
 ·obtain ⟨sl, h4⟩ := I2.base.slot b o h1 h2 h3 (noe b)
  obtain ⟨sl', h5⟩ := up b _ h4 (by
   obtain ⟨_, o', ho', hd'⟩ := I2.funs.mem h3
   rw [h4] at ho'
   cases ho'
   exact hd')
  exact ⟨sl', h5⟩
 ·have := I2.base.free b o h1 h2 (noe b)
  rwa [upd_ne (hs0 b o h1)] at this
 ·obtain ⟨o', h4⟩ := I2.base.there b o h1 (noe b)
  by_cases hb : b ∈ frs X.stack
  ·obtain ⟨_, o2, ho2, hd2⟩ := I2.stack.mem hb
   obtain ⟨sl, h5⟩ := up b _ ho2 hd2
   exact ⟨_, h5⟩
  ·exact ⟨_, fl.1 b o' (lg b o' hb (hs0 b o h1) h4)⟩
 ·have := I2.base.tups b xs q
  refine un3 b _ this fun z => ?_
  rw [z, upd_same] at this
  cases this
 ·have := I2.base.frzs b o u q
  refine un3 b _ this fun z => ?_
  rw [z, upd_same] at this
  cases this
 ·obtain ⟨more, q'⟩ := I2.base.tbls b ps q
  refine ⟨more, un3 b _ q' fun z => ?_⟩
  rw [z, upd_same] at q'
  cases q'
 ·refine (hok3 b u hb).stay (fun c o hc ho => fl.1 c o (lg c o (fun z => ?_) (fun z => ?_) ho)) (fun _ q => q) fun _ _ q => q
  ·have := I2.stkFree c z
   rw [upd_ne (fun q : c = e => hef (by rw [← q]; exact z))] at this
   rcases hc with hc | hc
   ·rw [hc, hb] at this; cases this
   ·rw [hc] at this; cases this
  ·rcases hc with hc | hc
   ·rw [← hc, z, hn3] at hb; cases hb
   ·rw [z, hn3] at hc; cases hc
 ·obtain ⟨o', h4⟩ := I2.base.there b o h1 (noe b)
  exact ⟨o', lg b o' (low b o h1 h2) (hs0 b o h1) h4⟩
 ·obtain ⟨o, ho⟩ := (hok3 b u hb).obj
  refine ⟨o, lg b o (fun z => ?_) (ne_of_none hb hn3) ho⟩
  have := I2.stkFree b z
  rw [upd_ne (ne_of_none hb hn3), hb] at this
  cases this
end L2
namespace L2
open PySem PySem.W PySem.Spec PySem.Calls PyProof.Rows
section
variable {M : Model} {A : Around} {E : Value → Shared → Prop} {s : Shared} {base : Heap} {env : Env} {l outer : List Env} {L e dx : Addr} {cls a0 : Value} {Q : Unit → Shared → Prop}
theorem looksD (hfr : A.frames = some (env :: outer)) (hf : env.frame = some L) (hfl : Heap.FlyingW base (env :: outer) e cls a0 s.heap) (hd : HasD e dx s.heap)
 (hQ : ∀ h', Heap.HeldW base (env :: outer) e cls a0 L h' → s.heap.UpToSlots h' → HasD e dx h' → Q () { s with heap := h' }) : wpAny M A (noteFrame (.ref e) env) Q E s :=
 wpAny_mono (KeepsD.any (KeepsD.noteFrame (.ref e) env) hd (wpAny_looks_onW (Q := fun _ s4 => ∃ h4, s4 = { s with heap := h4 } ∧ Heap.HeldW base (env :: outer) e cls a0 L h4 ∧ s.heap.UpToSlots h4) hfr hf hfl fun h4 held up4 => ⟨h4, rfl, held, up4⟩))
  (fun _ s4 ⟨⟨h4, e4, a, b⟩, hd4⟩ => by subst e4; exact hQ h4 a b hd4) fun _ _ z => z
theorem landsD (hh : Heap.HeldW base l e cls a0 L s.heap) (hd : HasD e dx s.heap) (hQ : ∀ h', Heap.FlyingW base l e cls a0 h' → s.heap.UpToSlots h' → HasD e dx h' → Q () { s with heap := h' }) : wpAny M A (setFlight (.ref e) none) Q E s :=
 wpAny_mono (KeepsD.any (KeepsD.setFlight (.ref e) none) hd (wpAny_landsW (Q := fun _ s4 => ∃ h4, s4 = { s with heap := h4 } ∧ Heap.FlyingW base l e cls a0 h4 ∧ s.heap.UpToSlots h4) hh fun h4 held up4 => ⟨h4, rfl, held, up4⟩))
  (fun _ s4 ⟨⟨h4, e4, a, b⟩, hd4⟩ => by subst e4; exact hQ h4 a b hd4) fun _ _ z => z
theorem landsD2 (hh : Heap.FlyingW base l e cls a0 s.heap) (hd : HasD e dx s.heap) (hQ : ∀ h', Heap.FlyingW base l e cls a0 h' → s.heap.UpToSlots h' → HasD e dx h' → Q () { s with heap := h' }) : wpAny M A (setFlight (.ref e) none) Q E s :=
 wpAny_mono (KeepsD.any (KeepsD.setFlight (.ref e) none) hd (lands_againW (Q := fun _ s4 => ∃ h4, s4 = { s with heap := h4 } ∧ Heap.FlyingW base l e cls a0 h4 ∧ s.heap.UpToSlots h4) hh fun h4 held up4 => ⟨h4, rfl, held, up4⟩))
  (fun _ s4 ⟨⟨h4, e4, a, b⟩, hd4⟩ => by subst e4; exact hQ h4 a b hd4) fun _ _ z => z
end
theorem pass2 {X : Cx} {E : XK} (hex : X.ex = []) (hst : X.stack = X.env :: X.outer) (hf : X.env.frame = some X.env.locals)
 (hxe : ∀ e s', wpAny (model X.prog X.w) X.A (leaving X.env e) (fun _ s'' => CX2 X.prog X.w X.outer X.H₀ X.s₀ E e s'') (fun e' s'' => CX2 X.prog X.w X.outer X.H₀ X.s₀ E e' s'') s' → X.xe e s') : Passes (CX2 X.prog X.w) X E := by
 intro pins σ H s e s' I cx
 obtain ⟨a, C, dx, a0, H', bs, rfl, os, bare, un, hok, fl, keepB, trk, hdx, hE⟩ := cx
 have fr : X.A.frames = some (X.env :: X.outer) := by rw [I.ok.frames, hst]
 have I1 : Inv X pins σ H' s' := I.call' (ch := []) os un hok bare (fun b hb => by cases hb)
 have noe : ∀ b, b ∉ X.ex := fun b hb => by rw [hex] at hb; cases hb
 have low : ∀ b o, X.s₀.heap.get? b = some o → b ∉ X.fs → b ∉ frs X.stack := fun b o ho hb hb' => by
  rcases List.mem_cons.mp (I.stkSub b hb') with z | z
  ·exact absurd (Heap.lt_size ho) (Nat.not_lt.mpr (by rw [z]; exact I.ok.above))
  ·exact hb z
 refine hxe _ _ (wpAny_mono (KeepsD.any (KeepsD.leaving (.ref a) X.env) hdx (wpAny_leaves_onW (Q := fun _ s3 => ∃ h'', s3 = { s' with heap := h'' } ∧ Heap.FlyingW bs X.outer a (.ref C) a0 h'' ∧ s'.heap.UpToSlots h'') (base := bs) (cls := .ref C) (a0 := a0) fr hf (hst ▸ fl) fun h'' fl' up => ⟨h'', rfl, fl', up⟩)) (fun _ s3 hh => ?_) fun _ _ z => z)
 obtain ⟨⟨h'', rfl, fl', up⟩, hdx'⟩ := hh
 refine ⟨a, C, dx, a0, H', bs, rfl, I1.os, I1.bare, ⟨fun b o h1 h2 h3 _ => ?_, fun b o h1 h2 h3 _ => ?_, fun b o h1 h2 _ => I1.base.free b o h1 h2 (noe b), fun b o h1 _ => ?_, I1.base.tups, I1.base.frzs, I1.base.tbls⟩, fun b u hb => ?_, fl', fun b o h1 h2 => ?_, trk, hdx', hE⟩
 ·obtain ⟨o', h4⟩ := keepB b o (I.base.keep b o h1 h2 h3 (noe b)) (low b o h1 h3)
  have h5 := fl.1 b o' h4
  rw [I1.base.keep b o h1 h2 h3 (noe b)] at h5
  cases h5
  exact fl'.1 b _ h4
 ·obtain ⟨sl, h4⟩ := I1.base.slot b o h1 h2 h3 (noe b)
  obtain ⟨sl', h5⟩ := up b _ h4 (by
   obtain ⟨_, o', ho', hd'⟩ := I1.funs.mem h3
   rw [h4] at ho'
   cases ho'
   exact hd')
  exact ⟨sl', h5⟩
 ·by_cases hb : b ∈ frs X.stack
  ·obtain ⟨_, o2, ho2, hd2⟩ := I1.stack.mem hb
   obtain ⟨sl, h5⟩ := up b _ ho2 hd2
   exact ⟨_, h5⟩
  ·obtain ⟨o', h4⟩ := I.base.there b o h1 (noe b)
   obtain ⟨o2, h6⟩ := keepB b o' h4 hb
   exact ⟨_, fl'.1 b o2 h6⟩
 ·refine (I1.hok b u hb).stay (fun c o hc ho => ?_) (fun _ q => q) fun _ _ q => q
  have : ∃ u', H' c = some u' := by
   rcases hc with hc | hc
   ·exact ⟨u, by rw [hc]; exact hb⟩
   ·exact ⟨_, hc⟩
  obtain ⟨u', hu'⟩ := this
  obtain ⟨o', h4⟩ := trk c u' hu'
  have h5 := fl.1 c o' h4
  rw [ho] at h5
  cases h5
  exact fl'.1 c _ h4
 ·obtain ⟨o', h4⟩ := I.base.there b o h1 (noe b)
  exact keepB b o' h4 (low b o h1 h2)
def excO2 (a C dx : Addr) : HO := .ext fun h => ∃ oe, h.get? a = some oe ∧ oe.cls = .ref C ∧ oe.dict = some dx ∧ ∃ vs, oe.data = .fields vs
theorem caught_inv2 {X : Cx} {pins : List (Addr × Obj)} {σ : St} {H : Hp} {s s' : Shared} {E : XK} {e : Value} (I : Inv X pins σ H s) (h : CX2 X.prog X.w X.stack H s E e s') :
 ∃ (a C dx : Addr) (a0 : Value) (H' : Hp) (bs : Heap), e = .ref a ∧ HasD a dx s'.heap ∧ E (.ref C) (some dx) H' ∧ H' a = none ∧ Heap.FlyingW bs X.stack a (.ref C) a0 s'.heap ∧
   ∀ s5 : Shared, Heap.FlyingW bs X.stack a (.ref C) a0 s5.heap → HasD a dx s5.heap → s'.heap.UpToSlots s5.heap → s5.os = s'.os → s5.gens = s'.gens → Inv X pins σ (upd H' a (excO2 a C dx)) s5 ∧ (∃ oe, s5.heap.get? a = some oe ∧ oe.cls = .ref C) := by
 obtain ⟨a, C, dx, a0, H', bs, rfl, os, bare, un, hok, fl, keepB, trk, hdx, hE⟩ := h
 have ha : H' a = none := by
  cases q : H' a with
  | none => rfl
  | some u =>
    obtain ⟨o, ho⟩ := trk a u q
    rw [fl.2.1] at ho; cases ho
 have hna : ∀ b o, s.heap.get? b = some o → b ≠ a := by
  rintro b o h1 rfl
  by_cases hb : b ∈ frs X.stack
  ·obtain ⟨_, o2, ho2, hd2⟩ := fl.2.2.1.mem hb
   obtain ⟨oe, vs, _, _, _, he, _, hd, _⟩ := fl.2.2.2
   rw [ho2] at he
   cases he
   exact hd2 vs hd
  ·obtain ⟨o', h4⟩ := keepB b o h1 hb
   rw [fl.2.1] at h4; cases h4
 have une : ∀ b u, H' b = some u → upd H' a (excO2 a C dx) b = some u := fun b u q => by
  rw [upd_ne (fun z => by rw [z, ha] at q; cases q)]; exact q
 refine ⟨a, C, dx, a0, H', bs, rfl, hdx, hE, ha, fl, fun s5 fl5 hd5 up os5 g5 => ⟨I.call' (ch := []) (os5.trans os) ⟨fun b o h1 h2 h3 _ => ?_, fun b o h1 h2 h3 _ => ?_, fun b o h1 h2 _ => ?_, fun b o h1 _ => ?_, fun b xs q => une b _ (un.tups b xs q), fun b o u q => une b _ (un.frzs b o u q), fun b ps q => ?_⟩ (fun b u hb => ?_) (by rw [g5]; exact bare) (fun b hb => by cases hb), fl5.there⟩⟩
 ·obtain ⟨o', h4⟩ := keepB b o h1 h3
  have h5 := fl.1 b o' h4
  rw [un.keep b o h1 h2 h3 (by simp)] at h5
  cases h5
  exact fl5.1 b _ h4
 ·obtain ⟨sl, h4⟩ := un.slot b o h1 h2 h3 (by simp)
  obtain ⟨sl', h5⟩ := up b _ h4 (by
   obtain ⟨_, o', ho', hd'⟩ := fl.2.2.1.mem h3
   rw [h4] at ho'
   cases ho'
   exact hd')
  exact ⟨sl', h5⟩
 ·rw [upd_ne (hna b o h1)]
  exact un.free b o h1 h2 (by simp)
 ·by_cases hb : b ∈ frs X.stack
  ·obtain ⟨_, o2, ho2, _⟩ := fl5.2.2.1.mem hb
   exact ⟨_, ho2⟩
  ·obtain ⟨o', h4⟩ := keepB b o h1 hb
   exact ⟨_, fl5.1 b _ h4⟩
 ·obtain ⟨more, q'⟩ := un.tbls b ps q
  exact ⟨more, une b _ q'⟩
 ·by_cases hba : b = a
  ·subst hba
   rw [upd_same] at hb
   cases hb
   obtain ⟨oe, he, hc⟩ := fl5.there
   obtain ⟨oe2, he2, hd2⟩ := hd5
   rw [he] at he2
   cases he2
   obtain ⟨_, _, _, oe3, vs3, _, _, _, he3, _, hd3, _⟩ := fl5
   rw [he] at he3
   cases he3
   refine ⟨⟨oe, he, hc, hd2, vs3, hd3⟩, ⟨oe, he⟩, fun h1 h2 ⟨o1, q1, q2⟩ k => ⟨o1, k _ q1, q2⟩⟩
  ·rw [upd_ne hba] at hb
   refine (hok b u hb).stay (fun c o hc ho => ?_) (fun c q => une c _ q) fun c xs q => une c _ q
   have : ∃ u', H' c = some u' := by
    rcases hc with hc | hc
    ·exact ⟨u, by rw [hc]; exact hb⟩
    ·exact ⟨_, hc⟩
   obtain ⟨u', hu'⟩ := this
   obtain ⟨o', h4⟩ := trk c u' hu'
   have h5 := fl.1 c o' h4
   rw [ho] at h5
   cases h5
   exact fl5.1 c _ h4
end L2
namespace L2
open PySem PySem.W PySem.Spec PySem.Calls PyProof.Rows Builtin Builtin.ObjectAttr Builtin.Getset_descriptor
section
variable {prog : Program} {w : World} {A : Around} {E : Value → Shared → Prop} {h : Heap} {g : Array GenState} {d : Drawn} {t : Nat} {os : OsState} {a C : Addr} {o : Obj} {od : Option Obj} {K : PySem.W.Frag} {name : Str} {v : Value}
theorem exc_fld_entry {tk : Tok} {Q : Fin → Shared → Prop} (X : K.In h) (I : InstAt h a o C od) (hf : findObj K C od name = some (.value v)) (hq : Q (.done (.ret v)) ⟨h, g, d, t, os⟩) : wpAny (model prog w) A (Builtin.«object.__getattribute__» ⟨[.ref a, .str name tk], []⟩) Q E ⟨h, g, d, t, os⟩ := by
 have Lt := I.type (M := model prog w)
 have Lf := looks_find (M := model prog w) X I hf
 unfold Builtin.«object.__getattribute__»
 repeat (any_goals (first | assumption | with_reducible refine Looks.at Lt ?_ | with_reducible refine Looks.at Lf ?_ | wp_step))
theorem exc_fld_by {b : Bool} {tk : Tok} {Q : Value → Shared → Prop} (X : K.In h) (I : InstAt h a o C od) (hf : findObj K C od name = some (.value v)) (hh : handedIn v = true) (hmB : mroIn K C (.type "BaseException") = some true)
 (hga : findIn K (.ref C) "__getattribute__" = some (some (.builtin "BaseException.__getattribute__"))) (hgt : findIn K (.ref C) "__getattr__" = some none) (FG : Slot "ValueError" "__getattribute__" "BaseException.__getattribute__")
 (hq : Q v ⟨h, g, d, t, os⟩) : wpAny (model prog w) A (getAttrBy (.ref a) (.str name tk) true b) Q E ⟨h, g, d, t, os⟩ := by
 have Lt := I.type (M := model prog w)
 have L1 := looks_findIn (M := model prog w) X hga
 have L2 := looks_findIn (M := model prog w) X hgt
 have f3 := FG.bind (.ref a)
 have n2 : (Value.builtin "BaseException.__getattribute__" == Value.builtin "object.__getattribute__") = false := by decide +kernel
 have n1 : (onTheHeap (Value.ref C) && Value.builtin "BaseException.__getattribute__" == Value.builtin "object.__getattribute__") = false := by rw [n2]; rfl
 have n0 : (b && onTheHeap (Value.builtin "BaseException.__getattribute__")) = false := by cases b <;> rfl
 repeat (any_goals (first | assumption | with_reducible refine Looks.at Lt ?_ | with_reducible refine Looks.at L1 ?_ | with_reducible refine Looks.at L2 ?_ | wp_step))
 refine codeAny_call_builtin FG.plain F.entry_bexc_ga (exc_ga_check X I.at_ I.cls hmB (exc_fld_entry X I hf ?_))
 repeat (any_goals (first | assumption | wp_step))
 show wpAny _ _ (handedOut v) _ _ _
 rw [handedOut_of hh]
 exact wpAny_pure hq
theorem exc_fld_get {b : Bool} {Q : Value → Shared → Prop} (X : K.In h) (I : InstAt h a o C od) (hf : findObj K C od name = some (.value v)) (hh : handedIn v = true) (hmB : mroIn K C (.type "BaseException") = some true)
 (hga : findIn K (.ref C) "__getattribute__" = some (some (.builtin "BaseException.__getattribute__"))) (hgt : findIn K (.ref C) "__getattr__" = some none) (FG : Slot "ValueError" "__getattribute__" "BaseException.__getattribute__")
 (hq : Q v ⟨h, g, d, t + 1, os⟩) : wpAny (model prog w) A (getAttr (.ref a) name b) Q E ⟨h, g, d, t, os⟩ := by
 unfold getAttr
 refine wpAny_bind (wpAny_mkText ?_)
 exact exc_fld_by X I hf hh hmB hga hgt FG hq
end
structure ExcFld (K : PySem.W.Frag) (C : Addr) (f : Str) : Prop where
 base : mroIn K C (.type "BaseException") = some true
 ga : findIn K (.ref C) "__getattribute__" = some (some (.builtin "BaseException.__getattribute__"))
 gt : findIn K (.ref C) "__getattr__" = some none
 hd : hasDictIn K C = true
 no : findIn K (.ref C) f = some none
def tFldE (K : PySem.W.Frag) (ta : TE) (f : Str) : TE := fun σ H Q => ta σ H fun x H1 => ∃ a C dx fs v, x = .ref a ∧ H1 a = some (excO2 a C dx) ∧ ExcFld K C f ∧ H1 dx = some (.xd fs) ∧ fs.lookup f = some v ∧ Q v H1
theorem pe_fldE {X : Cx} {o : Expr} {ta : TE} {f : Str} {pos : Pos} (FG : Slot "ValueError" "__getattribute__" "BaseException.__getattribute__") (ha : PE X o ta) (hb : attributeBase o f X.env (eval o X.env) = eval o X.env) : PE X (.Attribute o f pos) (tFldE X.K ta f) := by
 intro pins s σ H Q I h
 refine attr_of hb (thn (ha pins s σ H _ I h) fun ov s1 ⟨x, H1, I1, rx, a, C, dx, fs, v, ex, ea, F, ed, el, q⟩ => ?_)
 subst ex
 obtain rfl : ov = Value.ref a := rx
 obtain ⟨⟨oe, he, hc, hd, vs, hdt⟩, _⟩ := I1.hok a _ ea
 obtain ⟨mA, ns, r⟩ := I1.hok dx _ ed
 obtain ⟨od, ho, hl⟩ := lookIn_ns ns
 obtain ⟨u, hu, ru⟩ := RelO.some_of (v := v) (o := mA f) (by rw [← el]; exact r f)
 obtain ⟨hh, g, d, t, os⟩ := s1
 have J : InstAt hh a oe C (some od) := by
  refine ⟨he, hc, ?_, ?_⟩
  ·unfold notCls
   rw [hdt]
  ·rw [hd]
   exact ho
 exact exc_fld_get I1.kIn J (findObj_own F.hd F.no rfl (by rw [hl, hu])) (handed_of ru) F.base F.ga F.gt FG ⟨v, H1, I1.tok (t + 1), ru, q⟩
end L2
namespace L2
open PySem PySem.W PySem.Spec PySem.Calls PyProof.Rows
def rIsE2 (K : PySem.W.Frag) : List V → Hp → VK → Prop := fun xs H Q => ∃ (a C dx : Addr) (y : V) (c : Value) (b : Bool), xs = [.ref a, y] ∧ H a = some (excO2 a C dx) ∧ ExcIn K C ∧ (∀ u, RelV y u → u = c) ∧ kitOne K (.ref C) c = some b ∧ Q (.bl b) H
theorem call_isE2 {X : Cx} (FG : Slot "ValueError" "__getattribute__" "BaseException.__getattribute__") : CallR X (.builtin "isinstance") (rIsE2 X.K) := by
 intro pins s σ H vs us Q I r h
 obtain ⟨a, C, dx, y, c, b, rfl, ha, hI, hy, e, q⟩ := h
 obtain ⟨u, w', rfl, r1, r2⟩ := vals2 r
 cases (show u = Value.ref a from r1)
 obtain rfl := hy w' r2
 obtain ⟨⟨oe, he, hc, _⟩, _⟩ := I.hok a _ ha
 exact kia_one (kitx_exc (a := a) hI FG) I.kIn ⟨oe, he, hc⟩ e (by intro z; cases z) fun tk => ⟨.bl b, H, I.tok tk, rfl, q⟩
theorem Fun.ok2 {P : Program} {w : World} {K : PySem.W.Frag} {mg : Str → Option Value} {base : Heap} {x qual : Str} {st : Stmt} {f : Addr} {fd : FuncData} {N ps : List Str} {k : Nat} {sp : Sp} (F : Fun K x qual st f fd) (S : FnScope N ps (defScope st)) (len : ∀ vs H Q E, sp vs H Q E → vs.length = ps.length)
 (hbody : ∀ (cdv : Value) (A : Around) (outer : List Env) (s : Shared) (H : Hp) (vs : List V) (Q : VK) (E : XK), Room k (A.deeper (envOfC qual (defScope st) s.heap.objs.size f cdv)) → sp vs H Q E →
  ∃ t, PSs (cxOf (CX2 P w) P w K mg base N qual (defScope st) f cdv A outer s H E) (defBody st) t ∧ t { nx := fun _ H' => Q .non H', rt := Q } (start N vs) H) : FnOk P w K mg base (CX2 P w) (k + 1) f fd ps sp := by
 obtain ⟨oc, od, kV, doc, pm, an, cdv, ct, osl, rfl, lk, hcd⟩ := F.ex
 exact fn_of lk hcd S len fun A outer s H vs Q E hr hsp => hbody cdv A outer s H vs Q E hr hsp
def spXI (C : Addr) (f : Str) : Sp := fun vs H Q _ => ∃ e, ∃ n : Nat, vs = [.ref e, .int n] ∧ n ≤ 1000000 ∧ H e = some (exc0 e C) ∧ ∀ dx H', H' = upd (upd H dx (.xd [(f, .int n)])) e (exc1 e C dx) → H dx = none → dx ≠ e → Q .non H'
theorem spXI_use {C : Addr} {f : Str} {E : XK} {H : Hp} {e : Addr} {n : Nat} (hn : n ≤ 1000000) (he : H e = none) (k : ∀ dx, H dx = none → E (.ref C) (some dx) (upd H dx (.xd [(f, .int n)]))) :
 spXI C f [.ref e, .int n] (upd H e (exc0 e C)) (fun v H2 => v = .non ∧ ∃ dx H3, H2 = upd H3 e (exc1 e C dx) ∧ H3 e = none ∧ E (.ref C) (some dx) H3) E := by
 refine ⟨e, n, rfl, hn, upd_same, fun dx H' eH hd ne => ⟨rfl, dx, upd H dx (.xd [(f, .int n)]), ?_, ?_, ?_⟩⟩
 ·subst eH
  funext b
  unfold upd
  by_cases h1 : b = e
  ·simp [h1]
  ·simp [h1]
 ·rw [upd_ne (Ne.symm ne)]; exact he
 ·refine k dx ?_
  rwa [upd_ne ne] at hd
theorem rd_raiseI {C : Addr} {f : Str} {E : XK} {H : Hp} {n : Nat} (hn : n ≤ 1000000) (k : ∀ dx, H dx = none → E (.ref C) (some dx) (upd H dx (.xd [(f, .int n)]))) :
 [V.int n].length ≤ sizeLine ∧ ∀ e, H e = none → spXI C f (.ref e :: [.int n]) (upd H e (exc0 e C)) (fun v H2 => v = .non ∧ ∃ dx H3, H2 = upd H3 e (exc1 e C dx) ∧ H3 e = none ∧ E (.ref C) (some dx) H3) E :=
 ⟨by rw [sizeLine_eq]; show 1 ≤ _; decide, fun e he => spXI_use hn he k⟩
end L2
namespace L2
open PySem PySem.W PySem.Spec PySem.Calls PyProof.Rows
theorem pe_ccallB {X : Cx} {C : Addr} {c m : Str} {id : String} {e : Expr} {es : List Expr} {p apos pos : Pos} {t : TA} {r : List V → Hp → VK → Prop} {pl : Sem Bool} (hc : CallR X (.builtin id) r) (hg : Gl X c) (hm : X.mg c = some (.ref C))
 (hs : specialIn X.K (.ref C) "__getattribute__" = some (some (.builtin "type.__getattribute__"))) (hrd : readsIn X.K C (.type "type") = true) (hf : findCls X.K (.ref C) (.type "type") m = some (.val (.builtin id))) (hh : handedIn (.builtin id) = true) (ha : PA X (e :: es) t)
 (hd : (c == ("__debug__" : Str)) = false := by decide) (hst : starEach (e :: es) X.env = (false, eval e X.env) :: starEach es X.env := by rfl) (hpl : (backTo pos (starEach es X.env)).any (·.1) = false := by rfl)
 (ht : eval (.Call (.Attribute (.Name c p) m apos) (e :: es) [] pos) X.env = (do
  let ov ← eval (.Name c p) X.env
  standAt apos.atName
  let (f, first) ← holding [ov] (getMethod ov m pl)
  callWith pos f first (backTo pos (starEach (e :: es) X.env)) (backToKw pos (keywordEach [] X.env))) := by rfl) :
 PE X (.Call (.Attribute (.Name c p) m apos) (e :: es) [] pos) (tCB r t) := by
 intro pins s σ H Q I h
 refine PySem.W.methodCall_KW (pl := pl) (ld_glob I hg hm ?_ hd) ht
 refine method_cls I.kIn hs (cls_value I.kIn hrd hf hh ?_)
 have I1 := I.tok (s.toks + 1)
 exact PyProof.Rows.callWith_builtin1 (thn (ha pos pins _ σ H _ I1 h) fun us s2 ⟨vs, H2, I2, r, q2⟩ => hc pins s2 σ H2 vs us Q I2 r q2) hst hpl
end L2
namespace S
open L2 PySem PySem.Spec PyProof.Rows
def Stop (T wd : Str) (i j : Nat) : Prop := ∃ k, j = i + k ∧ (∀ m, m < k → ∀ c, wd.cps[m]? = some c → sgn T (i + m) = ⟨#[c]⟩) ∧ ∃ c, wd.cps[k]? = some c ∧ sgn T (i + k) ≠ ⟨#[c]⟩
def Tells (CN : Addr) (E : XK) (j : Nat) (H : Hp) : Prop := ∀ dx, H dx = none → E (.ref CN) (some dx) (L2.upd H dx (.xd [("at", .int ((j : Nat) : Int))]))
def spExpX (CW CN : Addr) : Sp := fun vs H Q E => ∃ (a : Addr) (T wd : Str) (i : Nat), vs = [.ref a, .str wd] ∧ At CW H a T i ∧ T.length ≤ 100000 ∧ wd.cps.all (· < 128) = true ∧ i + wd.length ≤ 1000000 ∧
 (Here T wd i → ∀ H', Ch a H H' → At CW H' a T (i + wd.length) → Q .non H') ∧ ∀ j, Stop T wd i j → ∀ H', Ch a H H' → Tells CN E j H'
theorem rd_raiseW {K : PySem.W.Frag} {fS fE CW CN a : Addr} {T : Str} {i k : Nat} {E : XK} {N : Ends} {σ : L2.St} {H : Hp} (e : σ[k]? = some (some (.ref a))) (h : At CW H a T i) (ok : WOk K fS fE CW) (hi : i ≤ 1000000) (kx : Tells CN E i H) :
 tRaiseI CN (spXI CN "at") E (tCons (tFld K (tVar k) "at") tNil) N σ H := by
 obtain ⟨dx, h⟩ := h
 exact ⟨.ref a, e, a, CW, dx, _, _, rfl, h, ok.cl, ok.nb, rfl, rd_raiseI hi kx⟩
theorem sgn_past {T : Str} {i : Nat} (h : T.length ≤ i) : sgn T i = Str.empty := by
 have e : Builtin.Str.strSliceIndices (some ((i : Nat) : Int)) (some (((i : Nat) : Int) + 1)) 1 T.length = [] := by
  unfold Builtin.Str.strSliceIndices sliceRange
  simp only [show (1 : Int) > 0 by decide, if_true]
  rw [if_neg (by omega : ¬ ((i : Nat) : Int) < 0), if_neg (by omega : ¬ ((i : Nat) : Int) + 1 < 0)]
  rw [if_neg (by omega)]
  rfl
 unfold sgn Txt.slice
 rw [e]
 split
 ·rename_i h
  have h0 : T.cps.size = 0 := by
   have : (0 == T.length) = true := by simpa using h
   exact (eq_of_beq this).symm
  show T = ⟨#[]⟩
  obtain ⟨c⟩ := T
  exact congrArg Str.mk (Array.eq_empty_of_size_eq_zero h0)
 ·rfl
theorem fig_lt {T : Str} {i : Nat} (h : sgn T i ∈ figs) : i < T.length := by
 rcases Nat.lt_or_ge i T.length with z | z
 ·exact z
 ·rw [sgn_past z] at h
  exact absurd h (by decide +kernel)
theorem figs_run (T : Str) : ∀ (m i : Nat), T.length - i ≤ m → ∃ ds : List Nat, (∀ k d, ds[k]? = some d → d < 10 ∧ sgn T (i + k) = fg d) ∧ sgn T (i + ds.length) ∉ figs
 | 0, i, h => ⟨[], fun k d e => by simp at e, fun z => by have := fig_lt z; simp at this; omega⟩
 | m + 1, i, h => by
   by_cases z : sgn T i ∈ figs
   ·have hl := fig_lt z
    obtain ⟨ds, h1, h2⟩ := figs_run T m (i + 1) (by omega)
    rw [figs_eq] at z
    obtain ⟨d, hd, e⟩ := List.mem_map.mp z
    refine ⟨d :: ds, fun k d' ek => ?_, ?_⟩
    ·cases k with
     | zero =>
       simp at ek
       subst ek
       exact ⟨List.mem_range.mp hd, e.symm⟩
     | succ k =>
       rw [List.getElem?_cons_succ] at ek
       have := h1 k d' ek
       rw [show i + (k + 1) = i + 1 + k by omega]
       exact this
    ·rw [List.length_cons, show i + (ds.length + 1) = i + 1 + ds.length by omega]
     exact h2
   ·exact ⟨[], fun k d e => by simp at e, z⟩
theorem figs_ex {T : Str} {i : Nat} (h : sgn T i ∈ figs.drop 1) : ∃ ds, Figs T i ds := by
 obtain ⟨ds, h1, h2⟩ := figs_run T (T.length - i) i (Nat.le_refl _)
 have hin : sgn T i ∈ figs := List.mem_of_mem_drop h
 have pos : 0 < ds.length := by
  rcases Nat.eq_zero_or_pos ds.length with z | z
  ·rw [z] at h2
   exact absurd hin h2
  ·exact z
 refine ⟨ds, pos, h1, fun d e z => ?_, h2⟩
 subst z
 have := (h1 0 0 e).2
 rw [Nat.add_zero] at this
 rw [this] at h
 exact absurd h (by decide +kernel)
def spNumX (CW CN : Addr) : Sp := fun vs H Q E => ∃ (a : Addr) (T : Str) (i : Nat), vs = [.ref a] ∧ At CW H a T i ∧ T.length ≤ 100000 ∧ i ≤ 1000000 ∧ (sgn T i ∉ figs.drop 1 → ∀ H', Kp a H H' → Tells CN E i H') ∧
 ∀ ds, Figs T i ds → ∀ H', Kp a H H' → At CW H' a T (i + ds.length) → Q (.int (valD ds)) H'
theorem rd_expX {CW CN a : Addr} {T wd : Str} {i : Nat} {H : Hp} {Q : VK} {E : XK} (h : At CW H a T i) (hT : T.length ≤ 100000) (hw : wd.cps.all (· < 128) = true) (hi : i + wd.length ≤ 1000000)
 (k : Here T wd i → ∀ H', Ch a H H' → At CW H' a T (i + wd.length) → Q .non H') (kx : ∀ j, Stop T wd i j → ∀ H', Ch a H H' → Tells CN E j H') : spExpX CW CN [.ref a, .str wd] H Q E := ⟨a, T, wd, i, rfl, h, hT, hw, hi, k, kx⟩
theorem rd_numX {CW CN a : Addr} {T : Str} {i : Nat} {H : Hp} {Q : VK} {E : XK} (h : At CW H a T i) (hT : T.length ≤ 100000) (hi : i ≤ 1000000)
 (kx : sgn T i ∉ figs.drop 1 → ∀ H', Kp a H H' → Tells CN E i H') (k : ∀ ds, Figs T i ds → ∀ H', Kp a H H' → At CW H' a T (i + ds.length) → Q (.int (valD ds)) H') : spNumX CW CN [.ref a] H Q E := ⟨a, T, i, rfl, h, hT, hi, kx, k⟩
def spWordX (CW CN : Addr) : Sp := fun vs H Q E => ∃ (a : Addr) (T : Str) (i : Nat), vs = [.ref a] ∧ At CW H a T i ∧ T.length ≤ 100000 ∧ i ≤ 900000 ∧
 ((∀ (n : Nat) (wd : Str) (c : Nat), wordsL[n]? = some wd → wd.cps[0]? = some c → sgn T i ≠ ⟨#[c]⟩) → ∀ H', Ch a H H' → Tells CN E i H') ∧
 ∀ (n : Nat) (wd : Str) (c : Nat), wordsL[n]? = some wd → wd.cps[0]? = some c → sgn T i = ⟨#[c]⟩ → (Here T wd i → ∀ H', Ch a H H' → At CW H' a T (i + wd.length) → Q (.str wd) H') ∧ ∀ j, Stop T wd i j → ∀ H', Ch a H H' → Tells CN E j H'
theorem words_len : ∀ (n : Nat) (wd : Str), wordsL[n]? = some wd → wd.length ≤ 7 := by
 intro n wd h
 have hm := List.mem_of_getElem? h
 have : ∀ z ∈ wordsL, z.length ≤ 7 := by decide +kernel
 exact this wd hm
end S
namespace S
open L2 PySem PySem.Spec PyProof.Rows
def expF (T : Str) : List Nat → Nat → Except Nat Nat
 | [], i => .ok i
 | c :: r, i => if sgn T i = ⟨#[c]⟩ then expF T r (i + 1) else .error i
theorem expF_here {T : Str} : ∀ {l : List Nat} {i : Nat}, (∀ k c, l[k]? = some c → sgn T (i + k) = ⟨#[c]⟩) → expF T l i = .ok (i + l.length)
 | [], i, _ => rfl
 | c :: r, i, h => by
   unfold expF
   rw [if_pos (show sgn T i = ⟨#[c]⟩ from h 0 c rfl), expF_here fun k d e => ?_, List.length_cons]
   ·congr 1; omega
   ·rw [Nat.add_assoc, Nat.add_comm 1]; exact h (k + 1) d e
theorem expF_stop {T : Str} : ∀ {l : List Nat} {i : Nat} (k c : Nat), (∀ m, m < k → ∀ c, l[m]? = some c → sgn T (i + m) = ⟨#[c]⟩) → l[k]? = some c → sgn T (i + k) ≠ ⟨#[c]⟩ → expF T l i = .error (i + k)
 | [], i, k, c, _, e, _ => by cases e
 | d :: r, i, 0, c, _, e, n => by
   cases e
   unfold expF
   rw [if_neg (show ¬ sgn T i = ⟨#[d]⟩ from n)]
   rfl
 | d :: r, i, k + 1, c, h, e, n => by
   unfold expF
   rw [if_pos (show sgn T i = ⟨#[d]⟩ from h 0 (Nat.succ_pos _) d rfl), expF_stop (i := i + 1) k c (fun m hm c' e' => by rw [Nat.add_assoc, Nat.add_comm 1]; exact h (m + 1) (by omega) c' e') e (by rw [Nat.add_assoc, Nat.add_comm 1]; exact n)]
   congr 1; omega
theorem exp_ok {T wd : Str} {i : Nat} (h : Here T wd i) : expF T wd.cps.toList i = .ok (i + wd.length) := by
 rw [expF_here fun k c e => h k c (by rw [← Array.getElem?_toList]; exact e)]
 rfl
theorem exp_no {T wd : Str} {i j : Nat} (h : Stop T wd i j) : expF T wd.cps.toList i = .error j := by
 obtain ⟨k, rfl, h1, c, h2, h3⟩ := h
 exact expF_stop k c (fun m hm c' e => h1 m hm c' (by rw [← Array.getElem?_toList]; exact e)) (by rw [Array.getElem?_toList]; exact h2) h3
theorem Figs.lt {T : Str} {i : Nat} {ds es : List Nat} (h : Figs T i ds) (g : Figs T i es) : ¬ ds.length < es.length := fun z => by
 have := g.at_ ds.length _ (List.getElem?_eq_getElem z)
 refine h.stop ?_
 rw [this.2, figs_eq]
 exact List.mem_map.mpr ⟨_, List.mem_range.mpr this.1, rfl⟩
theorem Figs.uniq {T : Str} {i : Nat} {ds es : List Nat} (h : Figs T i ds) (g : Figs T i es) : ds = es := by
 have l : ds.length = es.length := by
  have a := h.lt g
  have b := g.lt h
  omega
 refine List.ext_getElem l fun k h1 h2 => ?_
 have a := h.at_ k _ (List.getElem?_eq_getElem h1)
 have b := g.at_ k _ (List.getElem?_eq_getElem h2)
 exact fg_inj (a.2.symm.trans b.2)
open Classical in
noncomputable def figsAt (T : Str) (i : Nat) : List Nat := if h : ∃ ds, Figs T i ds then choose h else []
theorem Figs.at {T : Str} {i : Nat} {ds : List Nat} (h : Figs T i ds) : figsAt T i = ds := by
 unfold figsAt
 rw [dif_pos ⟨ds, h⟩]
 exact (Classical.choose_spec (⟨ds, h⟩ : ∃ ds, Figs T i ds)).uniq h
theorem Figs.first_in {T : Str} {i : Nat} {ds : List Nat} (hf : Figs T i ds) : sgn T i ∈ figs.drop 1 := by
 obtain ⟨d0, e0⟩ : ∃ d, ds[0]? = some d := ⟨ds[0]'hf.pos, List.getElem?_eq_getElem hf.pos⟩
 have h0 := hf.at_ 0 d0 e0
 have n0 := hf.first d0 e0
 rw [show sgn T i = fg d0 from h0.2, figs_eq, ← List.map_drop]
 have : d0 < 10 := h0.1
 exact List.mem_map.mpr ⟨d0, by rw [List.mem_iff_getElem?]; exact ⟨d0 - 1, by rw [List.getElem?_drop, show 1 + (d0 - 1) = d0 by omega, List.getElem?_range (by omega)]⟩, rfl⟩
noncomputable def portF (T : Str) (i : Nat) : Except Nat ((Int × Int) × Nat) :=
 if sgn T i ∉ figs.drop 1 then .error i else
 match expF T ("/" : Str).cps.toList (i + (figsAt T i).length) with
 | .error e => .error e
 | .ok j => if sgn T j ∉ figs.drop 1 then .error j else
   if valD (figsAt T j) ≤ valD (figsAt T i) ∨ Int.gcd (valD (figsAt T i)) (valD (figsAt T j)) ≠ 1 then .error (j + (figsAt T j).length) else .ok ((valD (figsAt T i), valD (figsAt T j)), j + (figsAt T j).length)
def spWX {α : Type} (CW CN : Addr) (ex : List V) (C : Str → Nat → Prop) (R : Str → Nat → Except Nat (α × Nat)) (res : α → PyData) : Sp := fun vs H Q E => ∃ (G : Hp) (a : Addr) (T : Str) (i : Nat), vs = .ref a :: ex ∧ Same G H ∧ G a = none ∧ At CW H a T i ∧ T.length ≤ 2000 ∧ i ≤ T.length ∧ C T i ∧
 match R T i with
 | .error j => ∀ H', Kp a H H' → Tells CN E j H'
 | .ok (x, j) => ∀ v H' G', Mv a G H G' H' → At CW H' a T j → Is G' (res x) v → Q v H'
def spPortX (CW CN : Addr) : Sp := spWX CW CN [] (fun _ _ => True) portF (fun x => .tuple [.int x.1, .int x.2])
theorem valD_lt : ∀ (m : Nat) (ds : List Nat), ds.length = m → (∀ d ∈ ds, d < 10) → 0 ≤ valD ds ∧ valD ds < 10 ^ m
 | 0, ds, e, _ => by
   rw [List.eq_nil_of_length_eq_zero e]
   exact ⟨by decide, by decide⟩
 | m + 1, ds, e, h => by
   have ne : ds ≠ [] := fun z => by rw [z] at e; cases e
   have e1 := List.dropLast_concat_getLast ne
   have ih := valD_lt m ds.dropLast (by rw [List.length_dropLast]; omega) fun d hd => h d (List.dropLast_subset ds hd)
   have hl := h _ (List.getLast_mem ne)
   rw [← e1, valD_snoc, Int.pow_succ]
   generalize (10 : Int) ^ m = p at *
   omega
theorem Figs.all {T : Str} {i : Nat} {ds : List Nat} (h : Figs T i ds) : ∀ d ∈ ds, d < 10 := fun d hd => by
 obtain ⟨k, hk⟩ := List.mem_iff_getElem?.mp hd
 exact (h.at_ k d hk).1
theorem Figs.le {T : Str} {i : Nat} {ds : List Nat} (h : Figs T i ds) : i + ds.length ≤ T.length := by
 have p := h.pos
 have := h.at_ (ds.length - 1) _ (List.getElem?_eq_getElem (by omega))
 have z := fig_lt (T := T) (i := i + (ds.length - 1)) (by rw [this.2, figs_eq]; exact List.mem_map.mpr ⟨_, List.mem_range.mpr this.1, rfl⟩)
 omega
theorem Figs.sz {T : Str} {i : Nat} {ds : List Nat} (h : Figs T i ds) (hT : T.length ≤ 2000) : Sz 8999 (valD ds) := by
 have l := valD_lt _ ds rfl h.all
 have hl := h.le
 have a : (10 : Nat) ^ ds.length ≤ 10 ^ 2000 := Nat.pow_le_pow_right (by decide) (by omega)
 have b : (10 : Nat) ^ 2000 < 2 ^ 8999 := by decide +kernel
 have c : ((10 ^ ds.length : Nat) : Int) = (10 : Int) ^ ds.length := by rw [Int.natCast_pow]; rfl
 rw [← c] at l
 unfold Sz
 generalize (10 : Nat) ^ ds.length = p at *
 generalize (10 : Nat) ^ 2000 = q at *
 generalize (2 : Nat) ^ 8999 = r at *
 omega
theorem shaped_two (a b : Int) : SeqAt.shaped (.tuple [.int a, .int b]) = true := shaped_of (n := 2) (by simp [PyData.canLay0, PyData.canLayAll0]) (by simp [PyData.depth, PyData.depthAll]) (by decide)
theorem eqv_low {t b : Int} (hb : 0 < b) : PyData.eqv (frD (Rat.divInt t b)) (.tuple [.int t, .int b]) = decide (Int.gcd t b = 1) := by
 have l := low_pos (a := t) hb
 unfold frD
 rw [← l.1, ← l.2]
 simp only [PyData.eqv, PyData.eqvAll, Bool.and_true]
 have g0 : (0 : Int) ≤ ((Int.gcd t b : Nat) : Int) := Int.natCast_nonneg _
 rw [Int.fdiv_eq_ediv_of_nonneg _ g0, Int.fdiv_eq_ediv_of_nonneg _ g0]
 by_cases g : Int.gcd t b = 1
 ·rw [decide_eq_true g, g]
  simp
 ·rw [decide_eq_false g]
  have gp : 0 < Int.gcd t b := Int.gcd_pos_of_ne_zero_right t (by omega)
  have : b / ((Int.gcd t b : Nat) : Int) ≠ b := fun z => by
   have h1 : b / ((Int.gcd t b : Nat) : Int) < b := Int.ediv_lt_self_of_pos_of_ne_one hb (by omega)
   omega
  simp [this]
theorem rd_spWX {α : Type} {CW CN a : Addr} {ex : List V} {C : Str → Nat → Prop} {R : Str → Nat → Except Nat (α × Nat)} {res : α → PyData} {B G0 H : Hp} {ds : Dat} {T : Str} {i : Nat} {Q : VK} {E : XK} (S : Sw a B G0 H ds) (h : At CW H a T i) (hT : T.length ≤ 2000) (hi : i ≤ T.length) (hc : C T i)
 (kx : ∀ j, R T i = .error j → ∀ H', Kp a H H' → Tells CN E j H') (k : ∀ x j v H', R T i = .ok (x, j) → Kp a H H' → At CW H' a T j → Sw a B G0 H' ((res x, v) :: ds) → Q v H') : spWX CW CN ex C R res (.ref a :: ex) H Q E := by
 obtain ⟨G, m, ga, ha, hb, al⟩ := S
 refine ⟨G, a, T, i, rfl, m.s, ga, h, hT, hi, hc, ?_⟩
 cases e : R T i with
 | error j => exact kx j e
 | ok p =>
   obtain ⟨x, j⟩ := p
   refine fun v H' G' mv h' hv => k x j v H' e mv.k h' ⟨G', m.trans mv ha, by rw [mv.o a ha]; exact ga, ?_, hb, (al.mono mv.g).cons hv⟩
   obtain ⟨dx, h'⟩ := h'
   rw [h']; simp
end S
namespace S
open L2 PySem PySem.Spec PyProof.Rows
def fstS (wd : Str) : Str := ⟨wd.cps.extract 0 1⟩
def wordF (T : Str) (i : Nat) : Except Nat (Str × Nat) :=
 match wordsL.find? (fun wd => decide (sgn T i = fstS wd)) with
 | none => .error i
 | some wd => (expF T wd.cps.toList i).map fun j => (wd, j)
noncomputable def withG (R : Str → Nat → Except Nat (Rl × Nat)) (T wd : Str) (i : Nat) : Except Nat (Rl × Nat) :=
 if wd = "other(" then (R T i).map fun x => (.other x.1, x.2) else
 if wd = "ranks(" then (R T i).map fun x => (.ranks x.1, x.2) else
 if wd = "groups(" then (R T i).bind fun x => (expF T (", " : Str).cps.toList x.2).bind fun j => (R T j).map fun y => (.groups x.1 y.1, y.2) else
 (portF T i).bind fun p => (expF T (", " : Str).cps.toList p.2).bind fun j => (R T j).bind fun x => (expF T (", " : Str).cps.toList x.2).bind fun j2 => (R T j2).map fun y => (.upto p.1.1 p.1.2 x.1 y.1, y.2)
noncomputable def ruleF : Nat → Str → Nat → Except Nat (Rl × Nat)
 | 0, _, i => .error i
 | n + 1, T, i => (wordF T i).bind fun p =>
   if p.1 = "shares" then .ok (.shares, p.2) else
   if p.1 = "evenly" then .ok (.evenly, p.2) else
   if p.1 = "losses" then .ok (.losses, p.2) else
   if p.1 = "halves" then .ok (.halves, p.2) else
   (withG (ruleF n) T p.1 p.2).bind fun x => (expF T (")" : Str).cps.toList x.2).map fun j => (x.1, j)
def pc (T : Str) (i : Nat) : Nat := (T.cps.toList.drop i).countP (· == 40)
theorem pc_succ (T : Str) (i : Nat) : pc T (i + 1) ≤ pc T i := by
 unfold pc
 rw [← List.drop_drop, List.drop_one]
 exact (List.tail_sublist _).countP_le
theorem pc_le (T : Str) {i j : Nat} (h : i ≤ j) : pc T j ≤ pc T i := by
 induction j with
 | zero => rw [Nat.le_zero.mp h]; exact Nat.le_refl _
 | succ j ih =>
   rcases Nat.lt_or_eq_of_le h with z | z
   ·exact Nat.le_trans (pc_succ T j) (ih (by omega))
   ·rw [z]; exact Nat.le_refl _
theorem pc_lt (T : Str) {i j k : Nat} (h1 : i ≤ k) (h2 : k < j) (e : T.cps[k]? = some 40) : pc T j < pc T i := by
 have a := pc_le T h1
 have b := pc_le T (show k + 1 ≤ j from h2)
 have c : pc T k = pc T (k + 1) + 1 := by
  unfold pc
  have hk := (Array.getElem?_eq_some_iff.mp e).1
  have e2 : T.cps.toList[k]? = some 40 := by rw [Array.getElem?_toList]; exact e
  obtain ⟨h3, h4⟩ := List.getElem?_eq_some_iff.mp e2
  rw [List.drop_eq_getElem_cons h3, List.countP_cons, h4]
  rfl
 omega
theorem fstS_eq {wd : Str} {c : Nat} (h : wd.cps[0]? = some c) : fstS wd = ⟨#[c]⟩ := by
 obtain ⟨⟨l⟩⟩ := wd
 cases l with
 | nil => cases h
 | cons d r =>
   have : d = c := by simpa using h
   subst this
   unfold fstS
   simp
theorem fst_inj : ∀ z ∈ wordsL, ∀ y ∈ wordsL, fstS z = fstS y → z = y := by decide +kernel
theorem wordF_of {T wd : Str} {i n : Nat} (hn : wordsL[n]? = some wd) (e : sgn T i = fstS wd) : wordF T i = (expF T wd.cps.toList i).map fun j => (wd, j) := by
 have hm := List.mem_of_getElem? hn
 unfold wordF
 cases hf : wordsL.find? (fun wd => decide (sgn T i = fstS wd)) with
 | none =>
   have := List.find?_eq_none.mp hf wd hm
   exact absurd (decide_eq_true e) this
 | some z =>
   have h0 := List.find?_some hf
   have h1 : sgn T i = fstS z := of_decide_eq_true h0
   have h2 := List.mem_of_find?_eq_some hf
   rw [fst_inj z h2 wd hm (h1.symm.trans e)]
theorem wordF_no {T : Str} {i : Nat} (h : ∀ (n : Nat) (wd : Str) (c : Nat), wordsL[n]? = some wd → wd.cps[0]? = some c → sgn T i ≠ ⟨#[c]⟩) : wordF T i = .error i := by
 unfold wordF
 rw [List.find?_eq_none.mpr fun wd hm z => ?_]
 obtain ⟨n, hn⟩ := List.mem_iff_getElem?.mp hm
 have hl : ∀ z ∈ wordsL, z.cps[0]?.isSome = true := by decide +kernel
 obtain ⟨c, hc⟩ := Option.isSome_iff_exists.mp (hl wd hm)
 refine h n wd c hn hc ?_
 rw [← fstS_eq hc]
 exact of_decide_eq_true z
theorem rd_wordF {CW CN a : Addr} {T : Str} {i : Nat} {H : Hp} {Q : VK} {E : XK} (h : At CW H a T i) (hT : T.length ≤ 100000) (hi : i ≤ 900000)
 (kx : ∀ j, wordF T i = .error j → ∀ H', Ch a H H' → Tells CN E j H') (k : ∀ (n : Nat) (wd : Str), wordsL[n]? = some wd → Here T wd i → wordF T i = .ok (wd, i + wd.length) → ∀ H', Ch a H H' → At CW H' a T (i + wd.length) → Q (.str wd) H') : spWordX CW CN [.ref a] H Q E := by
 refine ⟨a, T, i, rfl, h, hT, hi, fun n => kx i (wordF_no n), fun n wd c hn hc e => ?_⟩
 have ew := wordF_of hn (e.trans (fstS_eq hc).symm)
 refine ⟨fun hh => k n wd hn hh ?_, fun j st => kx j ?_⟩
 ·rw [ew, exp_ok hh]; rfl
 ·rw [ew, exp_no st]; rfl
theorem sgn_lt {T : Str} {i c : Nat} (h : sgn T i = ⟨#[c]⟩) : i < T.length := by
 rcases Nat.lt_or_ge i T.length with z | z
 ·exact z
 ·rw [sgn_past z] at h
  have := congrArg (fun z : Str => z.cps.size) h
  cases this
theorem expF_le {T : Str} : ∀ {l : List Nat} {i j : Nat}, expF T l i = .ok j → i ≤ T.length → j = i + l.length ∧ j ≤ T.length
 | [], i, j, e, h => by
   cases e
   exact ⟨rfl, h⟩
 | c :: r, i, j, e, h => by
   unfold expF at e
   split at e
   ·rename_i z
    have := expF_le e (sgn_lt z)
    rw [List.length_cons]
    omega
   ·cases e
def Ends' {α : Type} (R : Str → Nat → Except Nat (α × Nat)) (T : Str) : Prop := ∀ i x j, R T i = .ok (x, j) → i ≤ T.length → i ≤ j ∧ j ≤ T.length
theorem bind_ok {α β : Type} {m : Except Nat α} {f : α → Except Nat β} {y : β} (h : m.bind f = .ok y) : ∃ x, m = .ok x ∧ f x = .ok y := by
 cases m with
 | error e => cases h
 | ok x => exact ⟨x, rfl, h⟩
theorem map_ok {α β : Type} {m : Except Nat α} {f : α → β} {y : β} (h : m.map f = .ok y) : ∃ x, m = .ok x ∧ f x = y := by
 cases m with
 | error e => cases h
 | ok x => exact ⟨x, rfl, by cases h; rfl⟩
theorem wordF_end (T : Str) : Ends' wordF T := by
 intro i x j e h
 unfold wordF at e
 split at e
 ·cases e
 ·obtain ⟨j', e1, e2⟩ := map_ok e
  cases e2
  have := expF_le e1 h
  omega
theorem figsAt_le {T : Str} {i : Nat} (h : sgn T i ∈ figs.drop 1) : i + (figsAt T i).length ≤ T.length := by
 obtain ⟨ds, hf⟩ := figs_ex h
 rw [hf.at]
 exact hf.le
theorem portF_end (T : Str) : Ends' portF T := by
 intro i x j e h
 unfold portF at e
 split at e
 ·cases e
 rename_i h1
 have l1 := figsAt_le (Classical.not_not.mp h1)
 split at e
 ·cases e
 rename_i j1 e1
 have l2 := expF_le e1 l1
 split at e
 ·cases e
 rename_i h2
 have l3 := figsAt_le (Classical.not_not.mp h2)
 split at e
 ·cases e
 cases e
 omega
theorem withG_end {R : Str → Nat → Except Nat (Rl × Nat)} {T : Str} (hR : Ends' R T) (wd : Str) : Ends' (fun T i => withG R T wd i) T := by
 intro i x j e h
 simp only [withG] at e
 split at e
 ·obtain ⟨y, e1, e2⟩ := map_ok e
  cases e2
  exact hR i _ _ e1 h
 split at e
 ·obtain ⟨y, e1, e2⟩ := map_ok e
  cases e2
  exact hR i _ _ e1 h
 split at e
 ·obtain ⟨y, e1, e⟩ := bind_ok e
  obtain ⟨j1, e2, e⟩ := bind_ok e
  obtain ⟨z, e3, e4⟩ := map_ok e
  cases e4
  have a := hR i _ _ e1 h
  have b := expF_le e2 a.2
  have c := hR _ _ _ e3 b.2
  omega
 ·obtain ⟨p, e0, e⟩ := bind_ok e
  obtain ⟨j0, e1, e⟩ := bind_ok e
  obtain ⟨y, e2, e⟩ := bind_ok e
  obtain ⟨j1, e3, e⟩ := bind_ok e
  obtain ⟨z, e4, e5⟩ := map_ok e
  cases e5
  have a := portF_end T i _ _ e0 h
  have b := expF_le e1 a.2
  have c := hR _ _ _ e2 b.2
  have d := expF_le e3 c.2
  have f := hR _ _ _ e4 d.2
  omega
theorem ruleF_end (T : Str) : ∀ n, Ends' (ruleF n) T
 | 0 => fun i x j e h => by cases e
 | n + 1 => fun i x j e h => by
   unfold ruleF at e
   obtain ⟨p, e0, e⟩ := bind_ok e
   have a := wordF_end T i _ _ e0 h
   split at e
   ·cases e; exact a
   split at e
   ·cases e; exact a
   split at e
   ·cases e; exact a
   split at e
   ·cases e; exact a
   obtain ⟨y, e1, e⟩ := bind_ok e
   obtain ⟨z, e2, e3⟩ := map_ok e
   cases e3
   have b := withG_end (ruleF_end T n) p.1 p.2 _ _ e1 a.2
   have c := expF_le e2 b.2
   omega
def spRuleX (CW CN : Addr) (A : RAd) (n : Nat) : Sp := spWX CW CN [] (fun T i => pc T i < n) (ruleF n) (fun r => r.ins A)
def brkL : List Str := ["other(", "ranks(", "groups(", "upto("]
def spWithX (CW CN : Addr) (A : RAd) (n : Nat) : Sp := fun vs H Q E => ∃ wd, wd ∈ brkL ∧ spWX CW CN [.str wd] (fun T i => pc T i < n) (fun T i => withG (ruleF n) T wd i) (fun r => r.ins A) vs H Q E
theorem sgn_cps {T : Str} {i c : Nat} (h : sgn T i = ⟨#[c]⟩) : T.cps[i]? = some c := by
 have l := sgn_lt h
 have e : T.cps[i]? = some T.cps[i] := Array.getElem?_eq_getElem l
 have := here_all T i _ e
 rw [Nat.zero_add, h] at this
 rw [e]
 have := congrArg (fun z : Str => z.cps[0]?) this
 simp at this
 rw [this]
theorem pc_word {T wd : Str} {i : Nat} (h : Here T wd i) (hw : wd ∈ brkL) : pc T (i + wd.length) < pc T i := by
 have : ∀ z ∈ brkL, z.cps[z.length - 1]? = some 40 ∧ 0 < z.length := by decide +kernel
 obtain ⟨h1, h2⟩ := this wd hw
 exact pc_lt T (k := i + (wd.length - 1)) (by omega) (by omega) (sgn_cps (h _ _ h1))
noncomputable def readF (n : Nat) (T : Str) : Except Nat Rl := (ruleF n T 0).bind fun x => if x.2 = T.length then .ok x.1 else .error x.2
def spReadX (CN : Addr) (A : RAd) (n : Nat) : Sp := fun vs H Q E => ∃ (G : Hp) (T : Str), vs = [.str T] ∧ Same G H ∧ T.length ≤ 2000 ∧ pc T 0 < n ∧
 match readF n T with
 | .error j => ∀ H', Same H H' → Tells CN E j H'
 | .ok r => ∀ v H' G', Grow G H G' H' → Is G' (r.ins A) v → Q v H'
theorem sgn_some {T : Str} {i : Nat} (h : i < T.length) : sgn T i ≠ "" := by
 have e : T.cps[i]? = some T.cps[i] := Array.getElem?_eq_getElem h
 have := here_all T i _ e
 rw [Nat.zero_add] at this
 rw [this]
 intro z
 have := congrArg (fun z : Str => z.cps.size) z
 cases this
def alk (T : Str) : List Nat → Nat → Nat
 | [], _ => 0
 | c :: r, i => if sgn T i = ⟨#[c]⟩ then alk T r (i + 1) + 1 else 0
theorem expF_alk (T : Str) : ∀ (l : List Nat) (i : Nat), expF T l i = if alk T l i = l.length then .ok (i + l.length) else .error (i + alk T l i)
 | [], _ => rfl
 | c :: r, i => by
   unfold expF alk
   by_cases h : sgn T i = ⟨#[c]⟩
   ·rw [if_pos h, if_pos h, expF_alk T r (i + 1), List.length_cons]
    by_cases g : alk T r (i + 1) = r.length
    ·rw [if_pos g, if_pos (by omega)]
     congr 1; omega
    ·rw [if_neg g, if_neg (by omega)]
     congr 1; omega
   ·rw [if_neg h, if_neg h, if_neg (by simp)]
    rfl
theorem alk_of {T : Str} : ∀ {l : List Nat} {i n : Nat}, n ≤ l.length → (∀ m, m < n → ∀ c, l[m]? = some c → sgn T (i + m) = ⟨#[c]⟩) → (∀ c, l[n]? = some c → sgn T (i + n) ≠ ⟨#[c]⟩) → alk T l i = n
 | [], i, n, h, _, _ => by
   have : n = 0 := Nat.le_zero.mp h
   rw [this]; rfl
 | c :: r, i, 0, _, _, h => by
   unfold alk
   rw [if_neg (show ¬ sgn T i = ⟨#[c]⟩ from h c rfl)]
 | c :: r, i, n + 1, h, g, f => by
   unfold alk
   rw [if_pos (show sgn T i = ⟨#[c]⟩ from g 0 (Nat.succ_pos _) c rfl), alk_of (n := n) (Nat.le_of_succ_le_succ h) (fun m hm d e => by rw [Nat.add_assoc, Nat.add_comm 1]; exact g (m + 1) (by omega) d e) (fun d e => by rw [Nat.add_assoc, Nat.add_comm 1]; exact f d e)]
theorem alk_zero {T wd : Str} {i : Nat} (h : sgn T i ≠ fstS wd) : alk T wd.cps.toList i = 0 := by
 obtain ⟨⟨l⟩⟩ := wd
 cases l with
 | nil => rfl
 | cons c r =>
   show alk T (c :: r) i = 0
   unfold alk
   rw [if_neg]
   intro z
   exact h (z.trans (fstS_eq (wd := ⟨⟨c :: r⟩⟩) (c := c) (by simp)).symm)
def begF (T : Str) (i : Nat) : Nat × Str := match wordF T i with | .ok (wd, j) => (j, wd) | .error e => (e, "")
def best (T : Str) (i : Nat) (ws : List Str) : Nat := ws.foldl (fun b wd => max b (alk T wd.cps.toList i)) 0
theorem best_snoc (T : Str) (i : Nat) (ws : List Str) (wd : Str) : best T i (ws ++ [wd]) = max (best T i ws) (alk T wd.cps.toList i) := by unfold best; rw [List.foldl_append]; rfl
theorem alk_first {T wd : Str} {i : Nat} (hl : 0 < wd.length) (h : alk T wd.cps.toList i = wd.length) : sgn T i = fstS wd := by
 by_cases z : sgn T i = fstS wd
 ·exact z
 ·rw [alk_zero z] at h
  omega
theorem begF_word {T wd : Str} {i n : Nat} (hn : wordsL[n]? = some wd) (h : alk T wd.cps.toList i = wd.length) : wordF T i = .ok (wd, i + wd.length) := by
 have hp : ∀ z ∈ wordsL, 0 < z.length := by decide +kernel
 rw [wordF_of hn (alk_first (hp wd (List.mem_of_getElem? hn)) h), expF_alk, if_pos (by rw [h]; rfl)]
 rfl
theorem begF_best {T : Str} {i : Nat} (h : ∀ wd ∈ wordsL, alk T wd.cps.toList i ≠ wd.length) : wordF T i = .error (i + best T i wordsL) := by
 have ne : ∀ z ∈ wordsL, ∀ y ∈ wordsL, z ≠ y → fstS z ≠ fstS y := fun z hz y hy n e => n (fst_inj z hz y hy e)
 by_cases g : ∃ wd ∈ wordsL, sgn T i = fstS wd
 ·obtain ⟨wd, hm, e⟩ := g
  obtain ⟨n, hn⟩ := List.mem_iff_getElem?.mp hm
  have hz : ∀ y ∈ wordsL, y ≠ wd → alk T y.cps.toList i = 0 := fun y hy hne => alk_zero fun z => ne y hy wd hm hne (z.symm.trans e)
  have hb : best T i wordsL = alk T wd.cps.toList i := by
   have key : ∀ (ws : List Str) (b : Nat), (∀ y ∈ ws, y ∈ wordsL) → ws.foldl (fun b wd => max b (alk T wd.cps.toList i)) b = if wd ∈ ws then max b (alk T wd.cps.toList i) else b := by
    intro ws
    induction ws with
    | nil => intro b _; rfl
    | cons y ws ih =>
      intro b hs
      rw [List.foldl_cons, ih _ fun y hy => hs y (List.mem_cons_of_mem _ hy)]
      by_cases hy : y = wd
      ·subst hy
       rw [if_pos (List.mem_cons_self ..)]
       split
       ·omega
       ·rfl
      ·rw [hz y (hs y (List.mem_cons_self ..)) hy]
       by_cases hw : wd ∈ ws
       ·rw [if_pos hw, if_pos (List.mem_cons_of_mem _ hw), Nat.max_zero]
       ·rw [if_neg hw, if_neg, Nat.max_zero]
        intro z
        rcases List.mem_cons.mp z with z | z
        ·exact hy z.symm
        ·exact hw z
   unfold best
   rw [key wordsL 0 fun _ h => h, if_pos hm, Nat.zero_max]
  have hl : wd.cps.toList.length = wd.length := rfl
  rw [wordF_of hn e, expF_alk, if_neg (by rw [hl]; exact h wd hm), hb]
  rfl
 ·have hz : ∀ y ∈ wordsL, alk T y.cps.toList i = 0 := fun y hy => alk_zero fun z => g ⟨y, hy, z⟩
  have hb : best T i wordsL = 0 := by
   have key : ∀ (ws : List Str), (∀ y ∈ ws, y ∈ wordsL) → ws.foldl (fun b wd => max b (alk T wd.cps.toList i)) 0 = 0 := by
    intro ws
    induction ws with
    | nil => intro _; rfl
    | cons y ws ih =>
      intro hs
      rw [List.foldl_cons, hz y (hs y (List.mem_cons_self ..)), Nat.max_zero]
      exact ih fun y hy => hs y (List.mem_cons_of_mem _ hy)
   exact key wordsL fun _ h => h
  rw [hb, Nat.add_zero]
  unfold wordF
  rw [List.find?_eq_none.mpr fun wd hm z => g ⟨wd, hm, of_decide_eq_true z⟩]
inductive Bh where
 | goes (i : Nat) (p : List Nat)
 | fails (i : Nat)
 | ends (i : Nat)
def cm : List Nat := (", " : Str).cps.toList
theorem cm_len : cm.length = 2 := by decide +kernel
def behF (T : Str) : List Nat → Nat → Bh
 | [], i => if i = T.length then .ends i else .fails i
 | k :: p, i => if 0 < k - 1 then (if alk T cm i = 2 then .goes (i + 2) ((k - 1) :: p) else .fails (i + alk T cm i)) else if sgn T i ≠ (")" : Str) then .fails i else behF T p (i + 1)
noncomputable def prtF (T : Str) (i : Nat) : Except Nat Nat := (portF T i).bind fun x => expF T cm x.2
noncomputable def stepF (T : Str) (i : Nat) (p : List Nat) : Option Nat ⊕ (Nat × List Nat) :=
 match wordF T i with
 | .error e => .inl (some e)
 | .ok (wd, j) =>
   if wd = "upto(" then (match prtF T j with | .error e => .inl (some e) | .ok j' => .inr (j', 2 :: p)) else
   if wd = "groups(" then .inr (j, 2 :: p) else
   if wd = "other(" ∨ wd = "ranks(" then .inr (j, 1 :: p) else
   match behF T p j with
   | .goes j' p' => .inr (j', p')
   | .fails e => .inl (some e)
   | .ends _ => .inl none
inductive Rch (T : Str) : Nat → Nat → List Nat → Option Nat → Prop
 | done {k i : Nat} {p : List Nat} {res : Option Nat} : stepF T i p = .inl res → Rch T k i p res
 | more {k i j : Nat} {p q : List Nat} {res : Option Nat} : stepF T i p = .inr (j, q) → Rch T k j q res → Rch T (k + 1) i p res
def Aft (T : Str) (j : Nat) (p : List Nat) (res : Option Nat) : Prop := match behF T p j with
 | .goes j' p' => ∃ k, Rch T k j' p' res
 | .fails e => res = some e
 | .ends _ => res = none
theorem par_exp (T : Str) (i : Nat) : expF T (")" : Str).cps.toList i = if sgn T i = (")" : Str) then .ok (i + 1) else .error i := by
 have e : (")" : Str).cps.toList = [41] := by decide +kernel
 have e2 : (")" : Str) = ⟨#[41]⟩ := by decide +kernel
 rw [e, e2]
 rfl
theorem cm_exp (T : Str) (i : Nat) : expF T cm i = if alk T cm i = 2 then .ok (i + 2) else .error (i + alk T cm i) := by
 rw [expF_alk, cm_len]
theorem exp_here {T wd : Str} {i j : Nat} (h : expF T wd.cps.toList i = .ok j) : Here T wd i := by
 have key : ∀ (l : List Nat) (i j : Nat), expF T l i = .ok j → ∀ k c, l[k]? = some c → sgn T (i + k) = ⟨#[c]⟩ := by
  intro l
  induction l with
  | nil => intro i j _ k c e; cases e
  | cons d r ih =>
    intro i j h k c e
    unfold expF at h
    split at h
    ·rename_i z
     cases k with
     | zero => cases e; exact z
     | succ k => rw [show i + (k + 1) = i + 1 + k by omega]; exact ih _ _ h k c e
    ·cases h
 intro k c e
 exact key _ i j h k c (by rw [Array.getElem?_toList]; exact e)
theorem word_here {T wd : Str} {i j : Nat} (h : wordF T i = .ok (wd, j)) : Here T wd i ∧ wd ∈ wordsL ∧ j = i + wd.length := by
 unfold wordF at h
 split at h
 ·cases h
 ·rename_i w e
  obtain ⟨j', e1, e2⟩ := map_ok h
  cases e2
  refine ⟨exp_here e1, List.mem_of_find?_eq_some e, ?_⟩
  rw [expF_alk] at e1
  split at e1
  ·cases e1; rfl
  ·cases e1
theorem reach_all (T : Str) : ∀ (n i : Nat) (p : List Nat), i ≤ T.length → pc T i < n →
 (∀ e, ruleF n T i = .error e → ∃ k, Rch T k i p (some e)) ∧ (∀ r j, ruleF n T i = .ok (r, j) → ∀ res, Aft T j p res → ∃ k, Rch T k i p res)
 | 0, i, p, _, h => absurd h (Nat.not_lt_zero _)
 | n + 1, i, p, hi, hp => by
   have ihE : ∀ (j : Nat) (q : List Nat) (e : Nat), i ≤ j → j ≤ T.length → pc T j < n → ruleF n T j = .error e → ∃ k, Rch T k j q (some e) := fun j q e _ hj hq => (reach_all T n j q hj hq).1 e
   have ihO : ∀ (j : Nat) (q : List Nat) (r : Rl) (j' : Nat) (res : Option Nat), j ≤ T.length → pc T j < n → ruleF n T j = .ok (r, j') → Aft T j' q res → ∃ k, Rch T k j q res := fun j q r j' res hj hq e h => (reach_all T n j q hj hq).2 r j' e res h
   have st : ∀ {j : Nat} {q : List Nat} {res : Option Nat}, stepF T i p = .inr (j, q) → (∃ k, Rch T k j q res) → ∃ k, Rch T k i p res := fun h ⟨k, hk⟩ => ⟨k + 1, .more h hk⟩
   have cl1 : ∀ (j : Nat) (e : Nat), expF T (")" : Str).cps.toList j = .error e → Aft T j (1 :: p) (some e) := fun j e h => by
    rw [par_exp] at h
    split at h
    ·cases h
    ·rename_i z
     cases h
     unfold Aft behF
     rw [if_neg (by decide), if_pos z]
   have cl2 : ∀ (j j' : Nat) (res : Option Nat), expF T (")" : Str).cps.toList j = .ok j' → Aft T j' p res → Aft T j (1 :: p) res := fun j j' res h g => by
    rw [par_exp] at h
    split at h
    ·rename_i z
     cases h
     unfold Aft behF
     rw [if_neg (by decide), if_neg (fun w => w z)]
     exact g
    ·cases h
   have co1 : ∀ (j : Nat) (e : Nat), expF T cm j = .error e → Aft T j (2 :: p) (some e) := fun j e h => by
    rw [cm_exp] at h
    split at h
    ·cases h
    ·rename_i z
     cases h
     unfold Aft behF
     rw [if_pos (by decide), if_neg z]
   have co2 : ∀ (j j' : Nat) (res : Option Nat), expF T cm j = .ok j' → (∃ k, Rch T k j' (1 :: p) res) → Aft T j (2 :: p) res := fun j j' res h g => by
    rw [cm_exp] at h
    split at h
    ·rename_i z
     cases h
     unfold Aft behF
     rw [if_pos (by decide), if_pos z]
     exact g
    ·cases h
   unfold ruleF
   cases hw : wordF T i with
   | error e =>
     have hs : stepF T i p = .inl (some e) := by unfold stepF; rw [hw]
     refine ⟨fun e' h => ?_, fun r j h => nomatch h⟩
     cases h
     exact ⟨0, .done hs⟩
   | ok x =>
     obtain ⟨wd, j⟩ := x
     obtain ⟨hh, hm, rfl⟩ := word_here hw
     have hj := (wordF_end T i _ _ hw hi).2
     have leaf : wd ∉ brkL → ∀ r : Rl, (∀ e, (Except.ok (ε := Nat) (r, i + wd.length)) = .error e → ∃ k, Rch T k i p (some e)) ∧ (∀ r' j', (Except.ok (ε := Nat) (r, i + wd.length)) = .ok (r', j') → ∀ res, Aft T j' p res → ∃ k, Rch T k i p res) := by
      intro hb r
      refine ⟨fun e h => (nomatch h), fun r' j' h res g => ?_⟩
      cases h
      have n1 : wd ≠ "upto(" := fun z => hb (by rw [z]; decide +kernel)
      have n2 : wd ≠ "groups(" := fun z => hb (by rw [z]; decide +kernel)
      have n3 : ¬ (wd = "other(" ∨ wd = "ranks(") := fun z => hb (by rcases z with z | z <;> rw [z] <;> decide +kernel)
      have hs : stepF T i p = match behF T p (i + wd.length) with | .goes j' p' => .inr (j', p') | .fails e => .inl (some e) | .ends _ => .inl none := by
       unfold stepF
       rw [hw]
       dsimp only
       rw [if_neg n1, if_neg n2, if_neg n3]
      unfold Aft at g
      cases hb2 : behF T p (i + wd.length) with
      | goes j' p' =>
        rw [hb2] at g hs
        exact st hs g
      | fails e =>
        rw [hb2] at g hs
        subst g
        exact ⟨0, .done hs⟩
      | ends e =>
        rw [hb2] at g hs
        subst g
        exact ⟨0, .done hs⟩
     have brk : ∀ wd', wd = wd' → wd' ∈ brkL → pc T (i + wd.length) < n := fun wd' e hb => by
      subst e
      have := pc_word hh hb
      omega
     have one : (wd = "other(" ∨ wd = "ranks(") → ∀ f : Rl → Rl, (∀ e, (((ruleF n T (i + wd.length)).map fun x => (f x.1, x.2)).bind fun x => (expF T (")" : Str).cps.toList x.2).map fun j => (x.1, j)) = .error e → ∃ k, Rch T k i p (some e)) ∧ (∀ r j, (((ruleF n T (i + wd.length)).map fun x => (f x.1, x.2)).bind fun x => (expF T (")" : Str).cps.toList x.2).map fun j => (x.1, j)) = .ok (r, j) → ∀ res, Aft T j p res → ∃ k, Rch T k i p res) := by
      intro ho f
      have hpc : pc T (i + wd.length) < n := brk wd rfl (by rcases ho with z | z <;> rw [z] <;> decide +kernel)
      have n1 : wd ≠ "upto(" := fun z => by rw [z] at ho; rcases ho with z | z <;> exact absurd z (by decide +kernel)
      have n2 : wd ≠ "groups(" := fun z => by rw [z] at ho; rcases ho with z | z <;> exact absurd z (by decide +kernel)
      have hs : stepF T i p = .inr (i + wd.length, 1 :: p) := by
       unfold stepF
       rw [hw]
       dsimp only
       rw [if_neg n1, if_neg n2, if_pos ho]
      cases hr : ruleF n T (i + wd.length) with
      | error e =>
        refine ⟨fun e' h => ?_, fun r j h => nomatch h⟩
        cases h
        exact st hs (ihE _ _ _ (by omega) hj hpc hr)
      | ok x =>
        obtain ⟨r, j1⟩ := x
        simp only [Except.map, Except.bind]
        cases hc : expF T (")" : Str).cps.toList j1 with
        | error e =>
          refine ⟨fun e' h => ?_, fun r j h => nomatch h⟩
          cases h
          exact st hs (ihO _ _ _ _ _ hj hpc hr (cl1 _ _ hc))
        | ok j2 =>
          refine ⟨fun e' h => (nomatch h), fun r' j' h res g => ?_⟩
          cases h
          exact st hs (ihO _ _ _ _ _ hj hpc hr (cl2 _ _ _ hc g))
     have two : ∀ j0, i ≤ j0 → j0 ≤ T.length → pc T j0 < n → stepF T i p = .inr (j0, 2 :: p) → ∀ f : Rl → Rl → Rl, (∀ e, (((ruleF n T j0).bind fun x => (expF T cm x.2).bind fun j => (ruleF n T j).map fun y => (f x.1 y.1, y.2)).bind fun x => (expF T (")" : Str).cps.toList x.2).map fun j => (x.1, j)) = .error e → ∃ k, Rch T k i p (some e)) ∧ (∀ r j, (((ruleF n T j0).bind fun x => (expF T cm x.2).bind fun j => (ruleF n T j).map fun y => (f x.1 y.1, y.2)).bind fun x => (expF T (")" : Str).cps.toList x.2).map fun j => (x.1, j)) = .ok (r, j) → ∀ res, Aft T j p res → ∃ k, Rch T k i p res) := by
      intro j0 h0 hj0 hpc hs f
      cases hr : ruleF n T j0 with
      | error e =>
        refine ⟨fun e' h => ?_, fun r j h => nomatch h⟩
        cases h
        exact st hs (ihE _ _ _ h0 hj0 hpc hr)
      | ok x =>
        obtain ⟨r, j1⟩ := x
        have l1 := ruleF_end T n _ _ _ hr hj0
        simp only [Except.map, Except.bind]
        cases hc : expF T cm j1 with
        | error e =>
          refine ⟨fun e' h => ?_, fun r j h => nomatch h⟩
          cases h
          exact st hs (ihO _ _ _ _ _ hj0 hpc hr (co1 _ _ hc))
        | ok j2 =>
          have l2 := expF_le hc l1.2
          have hpc2 : pc T j2 < n := Nat.lt_of_le_of_lt (pc_le T (by omega)) hpc
          dsimp only
          cases hr2 : ruleF n T j2 with
          | error e =>
            refine ⟨fun e' h => ?_, fun r j h => nomatch h⟩
            cases h
            exact st hs (ihO _ _ _ _ _ hj0 hpc hr (co2 _ _ _ hc (ihE _ _ _ (by omega) l2.2 hpc2 hr2)))
          | ok y =>
            obtain ⟨r2, j3⟩ := y
            dsimp only
            cases hc2 : expF T (")" : Str).cps.toList j3 with
            | error e =>
              refine ⟨fun e' h => ?_, fun r j h => nomatch h⟩
              cases h
              exact st hs (ihO _ _ _ _ _ hj0 hpc hr (co2 _ _ _ hc (ihO _ _ _ _ _ l2.2 hpc2 hr2 (cl1 _ _ hc2))))
            | ok j4 =>
              refine ⟨fun e' h => (nomatch h), fun r' j' h res g => ?_⟩
              cases h
              exact st hs (ihO _ _ _ _ _ hj0 hpc hr (co2 _ _ _ hc (ihO _ _ _ _ _ l2.2 hpc2 hr2 (cl2 _ _ _ hc2 g))))
     show (∀ e, (Except.bind (Except.ok (wd, i + wd.length)) _) = .error e → _) ∧ _
     dsimp only [Except.bind]
     simp only [wordsL, List.mem_cons, List.not_mem_nil, or_false] at hm
     rcases hm with rfl | rfl | rfl | rfl | rfl | rfl | rfl | rfl
     ·simp only [if_pos rfl]; exact leaf (by decide +kernel) _
     ·rw [if_neg (by decide +kernel), if_pos rfl]; exact leaf (by decide +kernel) _
     ·rw [if_neg (by decide +kernel), if_neg (by decide +kernel), if_pos rfl]; exact leaf (by decide +kernel) _
     ·rw [if_neg (by decide +kernel), if_neg (by decide +kernel), if_neg (by decide +kernel), if_pos rfl]; exact leaf (by decide +kernel) _
     ·rw [if_neg (by decide +kernel), if_neg (by decide +kernel), if_neg (by decide +kernel), if_neg (by decide +kernel)]
      unfold withG
      rw [if_pos rfl]
      exact one (.inl rfl) _
     ·rw [if_neg (by decide +kernel), if_neg (by decide +kernel), if_neg (by decide +kernel), if_neg (by decide +kernel)]
      unfold withG
      rw [if_neg (by decide +kernel), if_pos rfl]
      exact one (.inr rfl) _
     ·rw [if_neg (by decide +kernel), if_neg (by decide +kernel), if_neg (by decide +kernel), if_neg (by decide +kernel)]
      unfold withG
      rw [if_neg (by decide +kernel), if_neg (by decide +kernel), if_pos rfl]
      refine two _ (by omega) hj (brk _ rfl (by decide +kernel)) ?_ _
      unfold stepF
      rw [hw]
      dsimp only
      rw [if_neg (by decide +kernel), if_pos rfl]
     ·rw [if_neg (by decide +kernel), if_neg (by decide +kernel), if_neg (by decide +kernel), if_neg (by decide +kernel)]
      unfold withG
      rw [if_neg (by decide +kernel), if_neg (by decide +kernel), if_neg (by decide +kernel)]
      have hb := brk _ rfl (show ("upto(" : Str) ∈ brkL by decide +kernel)
      have hs : stepF T i p = match prtF T (i + ("upto(" : Str).length) with | .error e => .inl (some e) | .ok j' => .inr (j', 2 :: p) := by
       unfold stepF
       rw [hw]
       dsimp only
       rw [if_pos rfl]
      unfold prtF at hs
      cases h1 : portF T (i + ("upto(" : Str).length) with
      | error e =>
        rw [h1] at hs
        refine ⟨fun e' h => ?_, fun r j h => nomatch h⟩
        cases h
        exact ⟨0, .done hs⟩
      | ok x =>
        obtain ⟨⟨t, b⟩, j1⟩ := x
        have l1 := portF_end T _ _ _ h1 hj
        rw [h1] at hs
        dsimp only [Except.bind] at hs
        show (∀ e, ((Except.bind (Except.ok ((t, b), j1)) _).bind _) = .error e → _) ∧ _
        dsimp only [Except.bind]
        rw [show (Str.ofString ", ").cps.toList = cm from rfl]
        cases h2 : expF T cm j1 with
        | error e =>
          rw [h2] at hs
          refine ⟨fun e' h => ?_, fun r j h => ?_⟩
          ·have h : (Except.error e : Except Nat (Rl × Nat)) = .error e' := h
           cases h
           exact ⟨0, .done hs⟩
          ·have h : (Except.error e : Except Nat (Rl × Nat)) = .ok (r, j) := h
           cases h
        | ok j2 =>
          rw [h2] at hs
          have l2 := expF_le h2 l1.2
          exact two j2 (by omega) l2.2 (Nat.lt_of_le_of_lt (pc_le T (by omega)) hb) hs fun x y => .upto t b x y
theorem reach_read {T : Str} {n : Nat} (h : pc T 0 < n) : ∃ k, Rch T k 0 [] (match readF n T with | .error e => some e | .ok _ => none) := by
 have key := reach_all T n 0 [] (Nat.zero_le _) h
 unfold readF
 cases hr : ruleF n T 0 with
 | error e => exact key.1 e hr
 | ok x =>
   obtain ⟨r, j⟩ := x
   refine key.2 r j hr _ ?_
   unfold Aft behF
   dsimp only [Except.bind]
   by_cases z : j = T.length
   ·rw [if_pos z, if_pos z]
   ·rw [if_neg z, if_neg z]
end S
namespace L2
open PySem PySem.W PySem.Spec PySem.Calls PyProof.Rows Builtin
section
variable {X : Cx}
def rFindS : V → List V → Hp → VK → Prop := fun x xs H Q => ∃ z y, x = .str z ∧ xs = [.str y] ∧ Q (.int (Txt.find z y)) H
theorem mt_find : MtR X "str.find" rFindS := by
 intro pins s σ H x xs v us Q I rx r h
 obtain ⟨z, y, rfl, rfl, q⟩ := h
 obtain ⟨t, rfl⟩ := (show ∃ t, v = Value.str z t from rx)
 obtain ⟨u, rfl, r1⟩ := vals1 r
 obtain ⟨t', rfl⟩ := (show ∃ t, u = Value.str y t from r1)
 exact SC.find ⟨.int _, H, I.tok _, ⟨_, rfl⟩, q⟩
def rCountS : V → List V → Hp → VK → Prop := fun x xs H Q => ∃ z y, x = .str z ∧ xs = [.str y] ∧ Q (.int (Txt.count z y)) H
theorem mt_count : MtR X "str.count" rCountS := by
 intro pins s σ H x xs v us Q I rx r h
 obtain ⟨z, y, rfl, rfl, q⟩ := h
 obtain ⟨t, rfl⟩ := (show ∃ t, v = Value.str z t from rx)
 obtain ⟨u, rfl, r1⟩ := vals1 r
 obtain ⟨t', rfl⟩ := (show ∃ t, u = Value.str y t from r1)
 exact SC.count ⟨.int _, H, I.tok _, ⟨_, rfl⟩, q⟩
def rLenS : List V → Hp → VK → Prop := fun xs H Q => ∃ z, xs = [.str z] ∧ z.length ≤ sizeLine ∧ Q (.int z.length) H
theorem call_lenS : CallR X (.builtin "len") rLenS := call_len_str
def rInS : R2 := fun x y H Q => ∃ i j, x = .str i ∧ y = .str j ∧ Q (.bl (!(Builtin.Str.occurrences j i 0 j.length 1).isEmpty)) H
theorem op_inS : OpR X (compareOp .In) rInS := op_in_str
def rIntS : List V → Hp → VK → Prop := fun xs H Q => ∃ z n, xs = [.str z] ∧ z.length ≤ 640 ∧ PySem.intText? z = some n ∧ Q (.int n) H
theorem call_intS : CallR X (.type "int") rIntS := by
 intro pins s σ H xs us Q I r h
 obtain ⟨z, n, rfl, hz, hn, q⟩ := h
 obtain ⟨u, rfl, t, rfl⟩ := vals1 r
 exact KIN.call_text hn hz ⟨.int n, H, I.tok _, ⟨_, rfl⟩, q⟩
end
end L2
namespace S
open PySem L2 PyProof.Rows StrLaws Builtin Builtin.Str
theorem sliceIdx_clip {i : Int} (u : Option Int) (len : Nat) (h : (len : Int) ≤ i) : strSliceIndices (some i) u 1 len = strSliceIndices (some (len : Int)) u 1 len := by
 have a : ¬ (i < 0) := by omega
 have b : ¬ ((len : Int) < 0) := by omega
 have e : min i (len : Int) = (len : Int) := by omega
 simp [strSliceIndices, a, b, e]
theorem sl_mid (T : Str) {a b : Nat} (hab : a ≤ b) (hb : b ≤ T.length) : (Txt.slice T (some (a : Int)) (some (b : Int))).cps.toList = (T.cps.toList.drop a).take (b - a) := by
 have := sliceText_nat T hab hb
 rw [show Txt.slice T (some (a : Int)) (some (b : Int)) = sliceText T (some (a : Int)) (some (b : Int)) from rfl, this]
theorem sl_to (T : Str) {b : Nat} (hb : b ≤ T.length) : (Txt.slice T none (some (b : Int))).cps.toList = T.cps.toList.take b := by
 have := sliceText_to (x := T) (j := (b : Int)) ⟨by omega, by rw [Array.length_toList]; exact Int.ofNat_le.mpr hb⟩
 rw [show Txt.slice T none (some (b : Int)) = sliceText T none (some (b : Int)) from rfl, this]
 show (T.cps.toList.drop 0).take ((b : Int) - 0).toNat = _
 rw [List.drop_zero, show ((b : Int) - 0).toNat = b by omega]
theorem sl_from (T : Str) (a : Nat) : (Txt.slice T (some (a : Int)) none).cps.toList = T.cps.toList.drop a := by
 rcases Nat.le_total a T.length with h | h
 ·have := sliceText_from (x := T) (i := (a : Int)) ⟨by omega, by rw [Array.length_toList]; exact Int.ofNat_le.mpr h⟩
  rw [show Txt.slice T (some (a : Int)) none = sliceText T (some (a : Int)) none from rfl, this]
  show (T.cps.toList.drop ((a : Int)).toNat).take ((T.cps.toList.length : Int) - (a : Int)).toNat = _
  rw [Int.toNat_natCast, List.take_of_length_le]
  rw [List.length_drop]; omega
 ·have e : Txt.slice T (some (a : Int)) none = Txt.slice T (some (T.length : Int)) none := by
   unfold Txt.slice
   rw [sliceIdx_clip none T.length (Int.ofNat_le.mpr h)]
  have := sliceText_from (x := T) (i := (T.length : Int)) ⟨by omega, by rw [Array.length_toList]; exact Int.le_refl _⟩
  rw [e, show Txt.slice T (some (T.length : Int)) none = sliceText T (some (T.length : Int)) none from rfl, this]
  show (T.cps.toList.drop ((T.length : Int)).toNat).take ((T.cps.toList.length : Int) - (T.length : Int)).toNat = _
  have l : T.cps.toList.length = T.length := Array.length_toList
  rw [Int.toNat_natCast, List.drop_of_length_le (by omega), List.drop_of_length_le (by omega), List.take_nil]
theorem str_toList (a b : Str) : (a ++ b).cps.toList = a.cps.toList ++ b.cps.toList := by
 show (a.cps ++ b.cps).toList = _
 rw [Array.toList_append]
theorem find_lt {T y : Str} (hy : 0 < y.length) : Txt.find T y = -1 ∨ ∃ i : Nat, Txt.find T y = (i : Int) ∧ i + y.length ≤ T.length := by
 have key : ∀ (l : List Nat) (st : Array Nat × Nat), (∀ x ∈ st.1.toList, x + y.length ≤ T.length) → ∀ x ∈ (forIn l st (occBody T y T.length 1)).run.fst.toList, x + y.length ≤ T.length := by
  intro l
  induction l with
  | nil => intro st h; exact h
  | cons a l ih =>
    intro st h
    rw [List.forIn_cons]
    unfold occBody
    split
    ·rename_i hc
     refine ih _ fun x hx => ?_
     rw [Array.toList_push] at hx
     rcases List.mem_append.mp hx with hx | hx
     ·exact h x hx
     ·rw [List.mem_singleton.mp hx]
      exact hc.1.2
    ·exact ih _ h
 unfold Txt.find
 split
 ·rename_i i r e
  refine .inr ⟨i, rfl, ?_⟩
  rw [occ_eq] at e
  exact key _ (#[], 0) (fun x hx => by simp at hx) i (by rw [e]; exact List.mem_cons_self ..)
 ·exact .inl rfl
end S
namespace S
open L2 PySem PySem.Spec PyProof.Rows PySem.NumText
theorem valD_digits (ds : List Nat) : ((digitsVal (ds.map (48 + ·)) : Nat) : Int) = valD ds := by
 have key : ∀ (ds : List Nat) (a : Nat), (((ds.map (48 + ·)).foldl (fun acc c => acc * 10 + (c - 48)) a : Nat) : Int) = ds.foldl (fun (n : Int) (d : Nat) => n * 10 + (d : Int)) (a : Int) := by
  intro ds
  induction ds with
  | nil => intro a; rfl
  | cons d ds ih =>
    intro a
    rw [List.map_cons, List.foldl_cons, List.foldl_cons, ih]
    congr 1
    rw [Nat.add_sub_cancel_left, Int.natCast_add, Int.natCast_mul]
    rfl
 exact key ds 0
theorem fig_list {T : Str} {i : Nat} {ds : List Nat} (h : Figs T i ds) : (T.cps.toList.drop i).take ds.length = ds.map (48 + ·) := by
 refine List.ext_getElem? fun k => ?_
 by_cases hk : k < ds.length
 ·have := sgn_cps (h.at_ k _ (List.getElem?_eq_getElem hk)).2
  rw [List.getElem?_take_of_lt hk, List.getElem?_drop, Array.getElem?_toList, this, List.getElem?_map, List.getElem?_eq_getElem hk]
  rfl
 ·rw [List.getElem?_eq_none (by rw [List.length_take]; omega), List.getElem?_eq_none (by rw [List.length_map]; omega)]
theorem digits_all {ds : List Nat} (h : ∀ d ∈ ds, d < 10) : AllDigits (ds.map (48 + ·)) := fun c hc => by
 obtain ⟨d, hd, e⟩ := List.mem_map.mp hc
 have := h d hd
 omega
theorem fig_int {T : Str} {i j : Nat} {ds : List Nat} (h : Figs T i ds) (hj : j = i + ds.length) (hl : ds.length ≤ 640) : PySem.intText? (Txt.slice T (some (i : Int)) (some (j : Int))) = some (valD ds) ∧ (Txt.slice T (some (i : Int)) (some (j : Int))).length ≤ 640 := by
 subst hj
 have e := sl_mid T (a := i) (b := i + ds.length) (by omega) h.le
 rw [Nat.add_sub_cancel_left, fig_list h] at e
 have l : (Txt.slice T (some (i : Int)) (some ((i + ds.length : Nat) : Int))).length = ds.length := by
  have := congrArg List.length e
  rw [Array.length_toList, List.length_map] at this
  exact this
 refine ⟨?_, by omega⟩
 rw [intText_digits (by rw [e]; exact digits_all h.all) (by rw [e]; intro z; have z := congrArg List.length z; rw [List.length_map, List.length_nil] at z; have := h.pos; omega) (by omega), e, valD_digits]
theorem itS_figs {T : Str} {i : Nat} {ds : List Nat} (h : Figs T i ds) : (itS (valD ds)).cps.toList = ds.map (48 + ·) := by
 have hp := h.pos
 obtain ⟨d0, r, rfl⟩ : ∃ d r, ds = d :: r := by
  cases ds with
  | nil => exact absurd hp (by decide)
  | cons d r => exact ⟨d, r, rfl⟩
 have f0 := h.first d0 rfl
 have e := toDigits_digitsVal r.length ((d0 :: r).map (48 + ·)) (by simp) (digits_all h.all) (.inr ⟨48 + d0, r.map (48 + ·), rfl, by omega⟩)
 rw [← valD_digits]
 unfold itS
 rw [PySem.W.KIN.signs_num, e, List.map_map]
 have key : ∀ c, 48 ≤ c ∧ c ≤ 57 → (Char.ofNat c).toNat = c := by
  intro c hc
  have : ∀ k : Fin 10, (Char.ofNat (48 + k.1)).toNat = 48 + k.1 := by decide
  have := this ⟨c - 48, by omega⟩
  rw [show 48 + (c - 48) = c by omega] at this
  exact this
 conv => rhs; rw [← List.map_id ((d0 :: r).map (48 + ·))]
 exact List.map_congr_left fun c hc => key c (digits_all h.all c hc)
theorem here_join {T u v : Str} {i : Nat} (h : Here T u i) (g : Here T v (i + u.length)) : Here T (u ++ v) i := by
 intro k c hc
 have hc : (u.cps ++ v.cps)[k]? = some c := hc
 by_cases hk : k < u.cps.size
 ·rw [Array.getElem?_append_left hk] at hc
  exact h k c hc
 ·rw [Array.getElem?_append_right (by omega)] at hc
  have := g (k - u.cps.size) c hc
  rw [show i + u.length + (k - u.cps.size) = i + k by show i + u.cps.size + _ = _; omega] at this
  exact this
def RunT (T : Str) (m : Nat) : Prop := ∀ i ds, Figs T i ds → ds.length ≤ m
theorem figs_sz {T : Str} {i m : Nat} {ds : List Nat} (h : Figs T i ds) (hl : ds.length ≤ 560) : Sz 1900 (valD ds) := by
 have l := valD_lt _ ds rfl h.all
 have a : (10 : Nat) ^ ds.length ≤ 10 ^ 560 := Nat.pow_le_pow_right (by decide) hl
 have b : (10 : Nat) ^ 560 < 2 ^ 1900 := by decide +kernel
 have c : ((10 ^ ds.length : Nat) : Int) = (10 : Int) ^ ds.length := by rw [Int.natCast_pow]; rfl
 rw [← c] at l
 unfold Sz
 generalize (10 : Nat) ^ ds.length = p at *
 generalize (10 : Nat) ^ 560 = q at *
 generalize (2 : Nat) ^ 1900 = r at *
 omega
theorem figs_here {T : Str} {i : Nat} {ds : List Nat} (h : Figs T i ds) : Here T (itS (valD ds)) i ∧ (itS (valD ds)).length = ds.length := by
 have e := itS_figs h
 refine ⟨fun k c hc => ?_, by have := congrArg List.length e; rw [Array.length_toList, List.length_map] at this; exact this⟩
 rw [← Array.getElem?_toList, e, List.getElem?_map] at hc
 cases hd : ds[k]? with
 | none => rw [hd] at hc; cases hc
 | some d =>
   rw [hd] at hc
   cases hc
   exact (h.at_ k d hd).2
theorem exp_end {T wd : Str} {i j : Nat} (h : expF T wd.cps.toList i = .ok j) : Here T wd i ∧ j = i + wd.length := by
 refine ⟨exp_here h, ?_⟩
 rw [expF_alk] at h
 split at h
 ·cases h; rfl
 ·cases h
theorem port_text {T : Str} (hr : RunT T 560) {i j : Nat} {t b : Int} (h : portF T i = .ok ((t, b), j)) : Here T (itS t ++ ("/" : Str) ++ itS b) i ∧ j = i + (itS t ++ ("/" : Str) ++ itS b).length ∧ Sz 1900 t ∧ Sz 1900 b := by
 unfold portF at h
 split at h
 ·cases h
 rename_i h1
 obtain ⟨ds, f1⟩ := figs_ex (Classical.not_not.mp h1)
 rw [f1.at] at h
 split at h
 ·cases h
 rename_i j1 e1
 obtain ⟨hs, rfl⟩ := exp_end e1
 split at h
 ·cases h
 rename_i h2
 obtain ⟨es, f2⟩ := figs_ex (Classical.not_not.mp h2)
 rw [f2.at] at h
 split at h
 ·cases h
 cases h
 have a := figs_here f1
 have b := figs_here f2
 refine ⟨here_join (here_join a.1 (by rw [a.2]; exact hs)) ?_, ?_, figs_sz (m := 0) f1 (hr _ _ f1), figs_sz (m := 0) f2 (hr _ _ f2)⟩
 ·rw [str_len, a.2, ← Nat.add_assoc]; exact b.1
 ·rw [str_len, str_len, a.2, b.2]; omega
theorem rule_text {T : Str} (hr : RunT T 560) : ∀ (n i : Nat) (r : Rl) (j : Nat), ruleF n T i = .ok (r, j) → Here T r.text i ∧ j = i + r.text.length ∧ r.deep ≤ n ∧ r.Wid
 | 0, i, r, j, h => by cases h
 | n + 1, i, r, j, h => by
   have ih := rule_text hr n
   unfold ruleF at h
   obtain ⟨⟨wd, j0⟩, e0, h⟩ := bind_ok h
   obtain ⟨hh, hm, rfl⟩ := word_here e0
   dsimp only at h
   split at h
   ·rename_i z; subst z; cases h; exact ⟨hh, rfl, by simp [Rl.deep], trivial⟩
   split at h
   ·rename_i z; subst z; cases h; exact ⟨hh, rfl, by simp [Rl.deep], trivial⟩
   split at h
   ·rename_i z; subst z; cases h; exact ⟨hh, rfl, by simp [Rl.deep], trivial⟩
   split at h
   ·rename_i z; subst z; cases h; exact ⟨hh, rfl, by simp [Rl.deep], trivial⟩
   rename_i n1 n2 n3 n4
   obtain ⟨⟨r1, j1⟩, e1, h⟩ := bind_ok h
   obtain ⟨j2, e2, h⟩ := map_ok h
   cases h
   obtain ⟨hc, rfl⟩ := exp_end e2
   unfold withG at e1
   split at e1
   ·rename_i z
    subst z
    obtain ⟨⟨x, jx⟩, ex, e⟩ := map_ok e1
    cases e
    obtain ⟨tx, lx, dx, wx⟩ := ih _ _ _ ex
    dsimp only at *
    subst lx
    refine ⟨?_, ?_, by simp only [Rl.deep]; omega, wx⟩
    ·rw [Rl.text]
     refine here_join (here_join hh tx) ?_
     rw [str_len, ← Nat.add_assoc]; exact hc
    ·rw [Rl.text, str_len, str_len]; omega
   split at e1
   ·rename_i z
    subst z
    obtain ⟨⟨x, jx⟩, ex, e⟩ := map_ok e1
    cases e
    obtain ⟨tx, lx, dx, wx⟩ := ih _ _ _ ex
    dsimp only at *
    subst lx
    refine ⟨?_, ?_, by simp only [Rl.deep]; omega, wx⟩
    ·rw [Rl.text]
     refine here_join (here_join hh tx) ?_
     rw [str_len, ← Nat.add_assoc]; exact hc
    ·rw [Rl.text, str_len, str_len]; omega
   split at e1
   ·rename_i z
    subst z
    obtain ⟨⟨x, jx⟩, ex, e⟩ := bind_ok e1
    obtain ⟨jc, ec, e⟩ := bind_ok e
    obtain ⟨⟨y, jy⟩, ey, e⟩ := map_ok e
    cases e
    obtain ⟨tx, lx, dx, wx⟩ := ih _ _ _ ex
    obtain ⟨hcm, rfl⟩ := exp_end ec
    obtain ⟨ty, ly, dy, wy⟩ := ih _ _ _ ey
    dsimp only at *
    subst lx
    subst ly
    refine ⟨?_, ?_, by simp only [Rl.deep]; omega, wx, wy⟩
    ·rw [Rl.text]
     refine here_join (here_join (here_join (here_join hh tx) ?_) ?_) ?_
     ·rw [str_len, ← Nat.add_assoc]; exact hcm
     ·rw [str_len, str_len, ← Nat.add_assoc, ← Nat.add_assoc]; exact ty
     ·rw [str_len, str_len, str_len, ← Nat.add_assoc, ← Nat.add_assoc, ← Nat.add_assoc]; exact hc
    ·rw [Rl.text]; simp only [str_len]; omega
   ·rename_i m1 m2 m3
    obtain rfl : wd = "upto(" := by
     simp only [wordsL, List.mem_cons, List.not_mem_nil, or_false] at hm
     rcases hm with z | z | z | z | z | z | z | z
     ·exact absurd z n1
     ·exact absurd z n2
     ·exact absurd z n3
     ·exact absurd z n4
     ·exact absurd z m1
     ·exact absurd z m2
     ·exact absurd z m3
     ·exact z
    obtain ⟨⟨⟨t, b⟩, jp⟩, ep, e⟩ := bind_ok e1
    obtain ⟨jc0, ec0, e⟩ := bind_ok e
    obtain ⟨⟨x, jx⟩, ex, e⟩ := bind_ok e
    obtain ⟨jc, ec, e⟩ := bind_ok e
    obtain ⟨⟨y, jy⟩, ey, e⟩ := map_ok e
    cases e
    obtain ⟨tp, lp, s1, s2⟩ := port_text hr ep
    obtain ⟨hc0, rfl⟩ := exp_end ec0
    obtain ⟨tx, lx, dx, wx⟩ := ih _ _ _ ex
    obtain ⟨hcm, rfl⟩ := exp_end ec
    obtain ⟨ty, ly, dy, wy⟩ := ih _ _ _ ey
    dsimp only at *
    subst lp
    subst lx
    subst ly
    refine ⟨?_, ?_, by simp only [Rl.deep]; omega, ⟨s1, s2⟩, wx, wy⟩
    ·rw [Rl.text]
     have tp1 : Here T (("upto(" : Str) ++ itS t ++ ("/" : Str) ++ itS b) i := by
      rw [str_assoc, str_assoc]
      refine here_join hh ?_
      rw [← str_assoc]; exact tp
     have el : (("upto(" : Str) ++ itS t ++ ("/" : Str) ++ itS b).length = ("upto(" : Str).length + (itS t ++ ("/" : Str) ++ itS b).length := by simp only [str_len]; omega
     refine here_join (here_join (here_join (here_join (here_join tp1 ?_) ?_) ?_) ?_) ?_
     ·rw [el, ← Nat.add_assoc]; exact hc0
     ·rw [str_len, el, ← Nat.add_assoc, ← Nat.add_assoc]; exact tx
     ·rw [str_len, str_len, el, ← Nat.add_assoc, ← Nat.add_assoc, ← Nat.add_assoc]; exact hcm
     ·rw [str_len, str_len, str_len, el, ← Nat.add_assoc, ← Nat.add_assoc, ← Nat.add_assoc, ← Nat.add_assoc]; exact ty
     ·rw [str_len, str_len, str_len, str_len, el, ← Nat.add_assoc, ← Nat.add_assoc, ← Nat.add_assoc, ← Nat.add_assoc, ← Nat.add_assoc]; exact hc
    ·rw [Rl.text]; simp only [str_len]; omega
theorem here_eq {T u : Str} (h : Here T u 0) (l : u.length = T.length) : u = T := by
 obtain ⟨a⟩ := u
 obtain ⟨b⟩ := T
 congr 1
 refine Array.ext (by exact l) fun k h1 h2 => ?_
 have := sgn_cps (h k a[k] (Array.getElem?_eq_getElem h1))
 rw [Nat.zero_add] at this
 have e : b[k]? = some b[k] := Array.getElem?_eq_getElem h2
 have := e.symm.trans this
 exact (Option.some.inj this).symm
theorem read_text {T : Str} (hr : RunT T 560) {n : Nat} {r : Rl} (h : readF n T = .ok r) : r.text = T ∧ r.deep ≤ n ∧ r.Wid := by
 unfold readF at h
 obtain ⟨⟨x, j⟩, e, h⟩ := bind_ok h
 dsimp only at h
 split at h
 ·rename_i z
  cases h
  obtain ⟨a, b, c, d⟩ := rule_text hr n 0 _ _ e
  exact ⟨here_eq a (by omega), c, d⟩
 ·cases h
end S
namespace S
open L2 PySem PySem.Spec PyProof.Rows
def fgr (c : Nat) : Prop := 48 ≤ c ∧ c ≤ 57
def Rn (l : List Nat) (m : Nat) : Prop := ∀ i n, (∀ k, k < n → ∃ c, l[i + k]? = some c ∧ fgr c) → n ≤ m
theorem Rn.mono {l : List Nat} {m m' : Nat} (h : Rn l m) (g : m ≤ m') : Rn l m' := fun i n z => Nat.le_trans (h i n z) g
theorem Rn.len (l : List Nat) : Rn l l.length := fun i n z => by
 rcases Nat.eq_zero_or_pos n with h | h
 ·omega
 ·obtain ⟨c, hc, _⟩ := z (n - 1) (by omega)
  have := (List.getElem?_eq_some_iff.mp hc).1
  omega
theorem Rn.none {l : List Nat} (h : ∀ c ∈ l, ¬ fgr c) : Rn l 0 := fun i n z => by
 rcases Nat.eq_zero_or_pos n with hn | hn
 ·omega
 ·obtain ⟨c, hc, f⟩ := z 0 hn
  exact absurd f (h c (List.mem_of_getElem? hc))
theorem Rn.take {l : List Nat} {m : Nat} (h : Rn l m) (a : Nat) : Rn (l.take a) m := fun i n z => h i n fun k hk => by
 obtain ⟨c, hc, f⟩ := z k hk
 refine ⟨c, ?_, f⟩
 rw [List.getElem?_take] at hc
 split at hc
 ·exact hc
 ·cases hc
theorem Rn.drop {l : List Nat} {m : Nat} (h : Rn l m) (a : Nat) : Rn (l.drop a) m := fun i n z => h (a + i) n fun k hk => by
 obtain ⟨c, hc, f⟩ := z k hk
 exact ⟨c, by rw [List.getElem?_drop, ← Nat.add_assoc] at hc; exact hc, f⟩
theorem Rn.app {l r : List Nat} {m m' : Nat} (h : Rn l m) (g : Rn r m') : Rn (l ++ r) (m + m') := fun i n z => by
 have a : min n (l.length - i) ≤ m := h i _ fun k hk => by
  obtain ⟨c, hc, f⟩ := z k (by omega)
  exact ⟨c, by rw [List.getElem?_append_left (by omega)] at hc; exact hc, f⟩
 have b : n - (l.length - i) ≤ m' := g (i - l.length) _ fun k hk => by
  obtain ⟨c, hc, f⟩ := z (k + (l.length - i)) (by omega)
  refine ⟨c, ?_, f⟩
  rw [List.getElem?_append_right (by omega)] at hc
  rw [← hc]
  congr 1
  omega
 omega
def Nf (l : List Nat) : Prop := ∀ c, l[0]? = some c → ¬ fgr c
theorem Rn.cut {l r : List Nat} {m : Nat} (h : Rn l m) (g : Rn r m) (e : Nf r) : Rn (l ++ r) m := fun i n z => by
 rcases Nat.lt_or_ge i l.length with hi | hi
 ·have hn : i + n ≤ l.length := by
   rcases Nat.lt_or_ge l.length (i + n) with hh | hh
   ·obtain ⟨c, hc, f⟩ := z (l.length - i) (by omega)
    rw [List.getElem?_append_right (by omega), show i + (l.length - i) - l.length = 0 by omega] at hc
    exact absurd f (e c hc)
   ·exact hh
  exact h i n fun k hk => by
   obtain ⟨c, hc, f⟩ := z k hk
   exact ⟨c, by rw [List.getElem?_append_left (by omega)] at hc; exact hc, f⟩
 ·exact g (i - l.length) n fun k hk => by
   obtain ⟨c, hc, f⟩ := z k hk
   refine ⟨c, ?_, f⟩
   rw [List.getElem?_append_right (by omega)] at hc
   rw [← hc]
   congr 1
   omega
def cnt (l : List Nat) : Nat := l.countP (· == 40)
structure Tx (L R C : Nat) (T : Str) : Prop where
 len : T.length ≤ L
 run : Rn T.cps.toList R
 par : cnt T.cps.toList ≤ C
 asc : ∀ c ∈ T.cps.toList, c < 128
theorem Tx.mono {L R C L' R' C' : Nat} {T : Str} (h : Tx L R C T) (a : L ≤ L') (b : R ≤ R') (c : C ≤ C') : Tx L' R' C' T := ⟨Nat.le_trans h.len a, h.run.mono b, Nat.le_trans h.par c, h.asc⟩
theorem str_tl (T : Str) : T.cps.toList.length = T.length := Array.length_toList
theorem Tx.splice {L R C l r c a b : Nat} {T z U : Str} (h : Tx L R C T) (g : Tx l r c z) (hab : a ≤ b) (e : U.cps.toList = T.cps.toList.take a ++ z.cps.toList ++ T.cps.toList.drop b) : Tx (L + l) (R + r + R) (C + c) U := by
 refine ⟨?_, ?_, ?_, fun x hx => ?_⟩
 ·rw [← str_tl, e, List.length_append, List.length_append, List.length_take, List.length_drop, str_tl, str_tl]
  have := h.len
  have := g.len
  omega
 ·rw [e]
  exact ((h.run.take a).app g.run).app (h.run.drop b)
 ·rw [e]
  unfold cnt
  rw [List.countP_append, List.countP_append]
  have h1 := h.par
  have h2 := g.par
  unfold cnt at h1 h2
  have h3 : (T.cps.toList.drop b).countP (· == 40) ≤ (T.cps.toList.drop a).countP (· == 40) := by
   rw [show T.cps.toList.drop b = (T.cps.toList.drop a).drop (b - a) by rw [List.drop_drop, show a + (b - a) = b by omega]]
   exact (List.drop_sublist _ _).countP_le
  have h4 : (T.cps.toList.take a).countP (· == 40) + (T.cps.toList.drop a).countP (· == 40) = T.cps.toList.countP (· == 40) := by
   rw [← List.countP_append, List.take_append_drop]
  omega
 ·rw [e] at hx
  rcases List.mem_append.mp hx with hx | hx
  ·rcases List.mem_append.mp hx with hx | hx
   ·exact h.asc x (List.mem_of_mem_take hx)
   ·exact g.asc x hx
  ·exact h.asc x (List.mem_of_mem_drop hx)
theorem Tx.app {L R C l r c : Nat} {T z : Str} (h : Tx L R C T) (g : Tx l r c z) : Tx (L + l) (R + r) (C + c) (T ++ z) := by
 refine ⟨by rw [str_len]; have := h.len; have := g.len; omega, by rw [str_toList]; exact h.run.app g.run, ?_, fun x hx => ?_⟩
 ·rw [str_toList]
  have h1 := h.par
  have h2 := g.par
  unfold cnt at *
  rw [List.countP_append]
  omega
 ·rw [str_toList] at hx
  rcases List.mem_append.mp hx with hx | hx
  ·exact h.asc x hx
  ·exact g.asc x hx
theorem Tx.of {z : Str} (h : z.cps.all (· < 128) = true) : Tx z.length z.length z.length z := by
 refine ⟨Nat.le_refl _, by rw [← str_tl]; exact Rn.len _, by rw [← str_tl]; exact List.countP_le_length, fun c hc => ?_⟩
 have := Array.all_eq_true_iff_forall_mem.mp h c (Array.mem_def.mpr hc)
 simpa using this
theorem Tx.part {L R C a b : Nat} {T U : Str} (h : Tx L R C T) (e : U.cps.toList = (T.cps.toList.drop a).take b) : Tx L R C U := by
 refine ⟨?_, by rw [e]; exact (h.run.drop a).take b, ?_, fun x hx => ?_⟩
 ·rw [← str_tl, e, List.length_take, List.length_drop, str_tl]
  have := h.len
  omega
 ·rw [e]
  exact Nat.le_trans ((List.take_sublist _ _).countP_le) (Nat.le_trans ((List.drop_sublist _ _).countP_le) h.par)
 ·rw [e] at hx
  exact h.asc x (List.mem_of_mem_drop (List.mem_of_mem_take hx))
theorem Tx.runT {L R C : Nat} {T : Str} (h : Tx L R C T) : RunT T R := fun i ds f => h.run i ds.length fun k hk => by
 have := f.at_ k _ (List.getElem?_eq_getElem hk)
 refine ⟨_, by rw [Array.getElem?_toList]; exact sgn_cps this.2, ?_, ?_⟩
 ·omega
 ·omega
theorem Tx.pc {L R C : Nat} {T : Str} (h : Tx L R C T) : pc T 0 ≤ C := by
 unfold S.pc
 rw [List.drop_zero]
 exact h.par
theorem itS_len30 {i : Int} (h0 : 0 < i) (h : i ≤ 10 ^ 28 + 2) : (itS i).length ≤ 30 := by
 have := int_text_length_le10 (a := i) (k := 29) (by decide) (by omega)
 unfold itS
 rw [PySem.ofString_length]
 exact this
theorem itS_figr {i : Int} (h0 : 0 < i) : ∀ c ∈ (itS i).cps.toList, fgr c := by
 obtain ⟨ds, e1, e2, _⟩ := digits_itS h0
 intro c hc
 rw [e1] at hc
 obtain ⟨d, hd, rfl⟩ := List.mem_map.mp hc
 have := e2 d hd
 exact ⟨by omega, by omega⟩
theorem nf_app {l r : List Nat} (h : Nf l) (hl : l ≠ []) : Nf (l ++ r) := fun c hc => by
 cases l with
 | nil => exact absurd rfl hl
 | cons d l => exact h c hc
theorem rn0 {z : Str} (h : (z.cps.toList.all fun c => !(decide (48 ≤ c) && decide (c ≤ 57))) = true) : Rn z.cps.toList 0 := Rn.none fun c hc => by
 have := List.all_eq_true.mp h c hc
 intro f
 unfold fgr at f
 simp at this
 omega
def TxR (m : Nat) (l : List Nat) : Prop := l.length ≤ 39 * m - 33 ∧ Rn l 30 ∧ cnt l ≤ m ∧ (∀ c ∈ l, c < 128) ∧ Nf l ∧ l ≠ []
theorem all_app {l r : List Nat} (h : ∀ c ∈ l, c < 128) (g : ∀ c ∈ r, c < 128) : ∀ c ∈ l ++ r, c < 128 := fun c hc => by
 rcases List.mem_append.mp hc with z | z
 ·exact h c z
 ·exact g c z
theorem cnt_app (l r : List Nat) : cnt (l ++ r) = cnt l + cnt r := List.countP_append
theorem fig_asc {l : List Nat} (h : ∀ c ∈ l, fgr c) : (∀ c ∈ l, c < 128) ∧ cnt l = 0 := by
 refine ⟨fun c hc => by have := (h c hc).2; omega, ?_⟩
 unfold cnt
 rw [List.countP_eq_zero]
 intro c hc
 have := (h c hc).1
 simp
 omega
theorem text_tx : ∀ r : Rl, r.Ok → TxR r.size r.text.cps.toList := by
 have lit : ∀ z ∈ (["shares", "evenly", "losses", "halves"] : List Str), z.cps.toList.length ≤ 6 ∧ Rn z.cps.toList 30 ∧ cnt z.cps.toList ≤ 1 ∧ (∀ c ∈ z.cps.toList, c < 128) ∧ Nf z.cps.toList ∧ z.cps.toList ≠ [] := by
  intro z hz
  have k : ∀ z ∈ (["shares", "evenly", "losses", "halves"] : List Str), decide (z.cps.toList.length ≤ 6) && (z.cps.toList.all fun c => !(decide (48 ≤ c) && decide (c ≤ 57))) && decide (cnt z.cps.toList ≤ 1) && (z.cps.toList.all fun c => decide (c < 128)) && !z.cps.toList.isEmpty = true := by decide +kernel
  have k := k z hz
  simp only [Bool.and_eq_true, decide_eq_true_eq] at k
  obtain ⟨⟨⟨⟨k1, k2⟩, k3⟩, k4⟩, k5⟩ := k
  refine ⟨k1, (rn0 k2).mono (Nat.zero_le _), k3, fun c hc => by have := List.all_eq_true.mp k4 c hc; simpa using this, fun c hc f => ?_, fun e => by rw [e] at k5; cases k5⟩
  have := List.all_eq_true.mp k2 c (List.mem_of_getElem? hc)
  unfold fgr at f
  simp at this
  omega
 have sep : ∀ z ∈ (["other(", "ranks(", "groups(", "upto(", ", ", ")", "/"] : List Str), z.cps.toList.length ≤ 7 ∧ Rn z.cps.toList 0 ∧ cnt z.cps.toList ≤ 1 ∧ (∀ c ∈ z.cps.toList, c < 128) ∧ Nf z.cps.toList ∧ z.cps.toList ≠ [] := by
  intro z hz
  have k : ∀ z ∈ (["other(", "ranks(", "groups(", "upto(", ", ", ")", "/"] : List Str), decide (z.cps.toList.length ≤ 7) && (z.cps.toList.all fun c => !(decide (48 ≤ c) && decide (c ≤ 57))) && decide (cnt z.cps.toList ≤ 1) && (z.cps.toList.all fun c => decide (c < 128)) && !z.cps.toList.isEmpty = true := by decide +kernel
  have k := k z hz
  simp only [Bool.and_eq_true, decide_eq_true_eq] at k
  obtain ⟨⟨⟨⟨k1, k2⟩, k3⟩, k4⟩, k5⟩ := k
  refine ⟨k1, rn0 k2, k3, fun c hc => by have := List.all_eq_true.mp k4 c hc; simpa using this, fun c hc f => ?_, fun e => by rw [e] at k5; cases k5⟩
  have := List.all_eq_true.mp k2 c (List.mem_of_getElem? hc)
  unfold fgr at f
  simp at this
  omega
 have cc : cnt (", " : Str).cps.toList = 0 ∧ cnt (")" : Str).cps.toList = 0 ∧ cnt ("/" : Str).cps.toList = 0 ∧ (", " : Str).cps.toList.length = 2 ∧ (")" : Str).cps.toList.length = 1 ∧ ("/" : Str).cps.toList.length = 1 ∧ ("upto(" : Str).cps.toList.length = 5 ∧ ("groups(" : Str).cps.toList.length = 7 := by decide +kernel
 obtain ⟨c1, c2, c3, c4, c5, c6, c7, c8⟩ := cc
 have so := sep "other(" (by decide +kernel)
 have sr := sep "ranks(" (by decide +kernel)
 have sg := sep "groups(" (by decide +kernel)
 have su := sep "upto(" (by decide +kernel)
 have sc := sep ", " (by decide +kernel)
 have sp := sep ")" (by decide +kernel)
 have ss := sep "/" (by decide +kernel)
 have one : ∀ (w : List Nat) (x : List Nat) (m : Nat), w.length ≤ 7 → Rn w 0 → cnt w ≤ 1 → (∀ c ∈ w, c < 128) → Nf w → w ≠ [] → 1 ≤ m → TxR m x → TxR (m + 1) (w ++ x ++ (")" : Str).cps.toList) := by
  intro w x m h1 h2 h3 h4 h5 h6 hm h7
  obtain ⟨x1, x2, x3, x4, x5, x6⟩ := h7
  refine ⟨?_, ?_, ?_, all_app (all_app h4 x4) sp.2.2.2.1, ?_, by simp [h6]⟩
  ·rw [List.length_append, List.length_append, c5]; omega
  ·rw [List.append_assoc]
   exact ((h2.app (x2.cut (sp.2.1.mono (Nat.zero_le _)) sp.2.2.2.2.1)).mono (by omega))
  ·rw [cnt_app, cnt_app, c2]; omega
  ·rw [List.append_assoc]; exact nf_app h5 h6
 intro r
 induction r with
 | shares => intro _; obtain ⟨a, b, c, d, e, f⟩ := lit "shares" (by decide +kernel); exact ⟨by show _ ≤ 39 * 1 - 33; exact a, b, c, d, e, f⟩
 | evenly => intro _; obtain ⟨a, b, c, d, e, f⟩ := lit "evenly" (by decide +kernel); exact ⟨by show _ ≤ 39 * 1 - 33; exact a, b, c, d, e, f⟩
 | losses => intro _; obtain ⟨a, b, c, d, e, f⟩ := lit "losses" (by decide +kernel); exact ⟨by show _ ≤ 39 * 1 - 33; exact a, b, c, d, e, f⟩
 | halves => intro _; obtain ⟨a, b, c, d, e, f⟩ := lit "halves" (by decide +kernel); exact ⟨by show _ ≤ 39 * 1 - 33; exact a, b, c, d, e, f⟩
 | other r ih =>
   intro h
   rw [Rl.text, str_toList, str_toList]
   exact one _ _ _ so.1 so.2.1 so.2.2.1 so.2.2.2.1 so.2.2.2.2.1 so.2.2.2.2.2 r.size_pos (ih h)
 | ranks r ih =>
   intro h
   rw [Rl.text, str_toList, str_toList]
   exact one _ _ _ sr.1 sr.2.1 sr.2.2.1 sr.2.2.2.1 sr.2.2.2.2.1 sr.2.2.2.2.2 r.size_pos (ih h)
 | groups a b iha ihb =>
   intro h
   have pa := a.size_pos
   have pb := b.size_pos
   obtain ⟨x1, x2, x3, x4, x5, x6⟩ := iha h.1
   obtain ⟨y1, y2, y3, y4, y5, y6⟩ := ihb h.2
   rw [Rl.text]
   simp only [str_toList, Rl.size]
   generalize a.text.cps.toList = x at *
   generalize b.text.cps.toList = y at *
   refine ⟨?_, ?_, ?_, all_app (all_app (all_app (all_app sg.2.2.2.1 x4) sc.2.2.2.1) y4) sp.2.2.2.1, ?_, by simp [sg.2.2.2.2.2]⟩
   ·simp only [List.length_append, c4, c5, c8]; omega
   ·simp only [List.append_assoc]
    refine (sg.2.1.app ((x2.cut ((sc.2.1.app (y2.cut (sp.2.1.mono (Nat.zero_le _)) sp.2.2.2.2.1)).mono (by omega)) (nf_app sc.2.2.2.2.1 sc.2.2.2.2.2)))).mono (by omega)
   ·have := sg.2.2.1
    simp only [cnt_app, c1, c2]; omega
   ·simp only [List.append_assoc]; exact nf_app sg.2.2.2.2.1 sg.2.2.2.2.2
 | upto t b x y ihx ihy =>
   intro h
   obtain ⟨⟨_, ht0, htb, _, hb⟩, hx, hy⟩ := h
   have px := x.size_pos
   have py := y.size_pos
   obtain ⟨x1, x2, x3, x4, x5, x6⟩ := ihx hx
   obtain ⟨y1, y2, y3, y4, y5, y6⟩ := ihy hy
   have lt := itS_len30 ht0 (by omega)
   have lb := itS_len30 (i := b) (by omega) hb
   rw [← str_tl] at lt lb
   have ft := fig_asc (itS_figr ht0)
   have fb := fig_asc (itS_figr (i := b) (by omega))
   have rt := (Rn.len (itS t).cps.toList).mono lt
   have rb := (Rn.len (itS b).cps.toList).mono lb
   rw [Rl.text]
   simp only [str_toList, Rl.size]
   generalize x.text.cps.toList = x' at *
   generalize y.text.cps.toList = y' at *
   generalize (itS t).cps.toList = t' at *
   generalize (itS b).cps.toList = b' at *
   refine ⟨?_, ?_, ?_, all_app (all_app (all_app (all_app (all_app (all_app (all_app (all_app su.2.2.2.1 ft.1) ss.2.2.2.1) fb.1) sc.2.2.2.1) x4) sc.2.2.2.1) y4) sp.2.2.2.1, ?_, by simp [su.2.2.2.2.2]⟩
   ·simp only [List.length_append, c4, c5, c6, c7]; omega
   ·simp only [List.append_assoc]
    have e1 := (sc.2.1.app (y2.cut (sp.2.1.mono (Nat.zero_le _)) sp.2.2.2.2.1)).mono (show 0 + 30 ≤ 30 by omega)
    have e2 := x2.cut e1 (nf_app sc.2.2.2.2.1 sc.2.2.2.2.2)
    have e3 := (sc.2.1.app e2).mono (show 0 + 30 ≤ 30 by omega)
    have e4 := rb.cut e3 (nf_app sc.2.2.2.2.1 sc.2.2.2.2.2)
    have e5 := (ss.2.1.app e4).mono (show 0 + 30 ≤ 30 by omega)
    have e6 := rt.cut e5 (nf_app ss.2.2.2.2.1 ss.2.2.2.2.2)
    exact (su.2.1.app e6).mono (by omega)
   ·have := su.2.2.1
    simp only [cnt_app, c1, c2, c3, ft.2, fb.2]; omega
   ·simp only [List.append_assoc]; exact nf_app su.2.2.2.2.1 su.2.2.2.2.2
theorem built_tx {r : Rl} (h : r.Ok) (hs : r.size ≤ 11) : Tx 396 30 11 r.text := by
 obtain ⟨a, b, c, d, _, _⟩ := text_tx r h
 exact ⟨by rw [← str_tl]; omega, b, by omega, d⟩
section
variable {B G0 H : Hp} {cs : Cells} {ds : Dat} {Q : VK} {E : XK} {v w u : V} {K : PySem.W.Frag} {T wd z y : Str} {i : Nat}
theorem sLine {n : Nat} (h : n ≤ 1000000) : n ≤ sizeLine := Nat.le_trans h (by decide)
theorem rd_lenZ (h : z.length ≤ 1000000) (k : Q (.int ((z.length : Nat) : Int)) H) : rLenS [.str z] H Q := ⟨z, rfl, sLine h, k⟩
theorem rd_slStr {lo hi : Option Int} (h : z.length ≤ 1000000) (k : Q (.str (Txt.slice z lo hi)) H) : rSlS (.str z) lo hi H Q := ⟨z, rfl, sLine h, k⟩
theorem rd_ixZ {n c : Nat} (h : z.length ≤ 1000000) (hc : z.cps.toList[n]? = some c) (k : Q (.str ⟨#[c]⟩) H) : rIx K (.str z) (.int ((n : Nat) : Int)) H Q := .inr (.inr ⟨z, _, c, rfl, rfl, sLine h, atI_nat hc, k⟩)
theorem rd_inOne {c : Nat} (k : Q (.bl (decide (c ∈ z.cps.toList))) H) : rInS (.str ⟨#[c]⟩) (.str z) H Q := ⟨⟨#[c]⟩, z, rfl, rfl, by rw [StrLaws.found_one]; exact k⟩
theorem rd_find (k : Q (.int (Txt.find z y)) H) : rFindS (.str z) [.str y] H Q := ⟨z, y, rfl, rfl, k⟩
theorem rd_count (k : Q (.int (Txt.count z y)) H) : rCountS (.str z) [.str y] H Q := ⟨z, y, rfl, rfl, k⟩
theorem rd_intS {n : Int} (h : z.length ≤ 640) (e : PySem.intText? z = some n) (k : Q (.int n) H) : rIntS [.str z] H Q := ⟨z, n, rfl, h, e, k⟩
theorem sgn_lit (T : Str) (n : Nat) : Txt.slice T (some ((n : Nat) : Int)) (some (((n : Nat) : Int) + 1)) = sgn T n := rfl
theorem fig_in {c : Nat} : c ∈ ("0123456789" : Str).cps.toList ↔ (⟨#[c]⟩ : Str) ∈ figs := by
 have e : ("0123456789" : Str).cps.toList = (List.range 10).map (48 + ·) := by decide +kernel
 rw [e, figs_eq, List.mem_map, List.mem_map]
 constructor
 ·rintro ⟨d, h1, h2⟩
  exact ⟨d, h1, by rw [← h2]; rfl⟩
 ·rintro ⟨d, h1, h2⟩
  have := congrArg (fun z : Str => z.cps[0]?) h2
  simp [fg] at this
  exact ⟨d, h1, this⟩
theorem zero_no : ("0" : Str) ∉ figs.drop 1 := by decide +kernel
theorem fig_drop {z : Str} (h : z ∈ figs) (n : z ≠ "0") : z ∈ figs.drop 1 := by
 have : ∀ y ∈ figs, y = "0" ∨ y ∈ figs.drop 1 := by decide +kernel
 rcases this z h with e | e
 ·exact absurd e n
 ·exact e
theorem figsAt_none {T : Str} {i : Nat} (h : sgn T i ∉ figs.drop 1) : figsAt T i = [] := by
 unfold figsAt
 rw [dif_neg]
 rintro ⟨ds, f⟩
 exact h f.first_in
theorem figsAt_run {T : Str} {i n : Nat} (h : ∀ k, k < n → sgn T (i + k) ∈ figs) (g : sgn T (i + n) ∉ figs) (z : sgn T i ≠ "0") : (figsAt T i).length = n := by
 rcases Nat.eq_zero_or_pos n with h0 | h0
 ·subst h0
  rw [Nat.add_zero] at g
  rw [figsAt_none fun e => g (List.mem_of_mem_drop e)]
  rfl
 ·obtain ⟨ds, f⟩ := figs_ex (fig_drop (show sgn T i ∈ figs from h 0 h0) z)
  rw [f.at]
  rcases Nat.lt_trichotomy ds.length n with l | l | l
  ·exact absurd (h _ l) f.stop
  ·exact l
  ·have := f.at_ n _ (List.getElem?_eq_getElem l)
   exact absurd (by rw [this.2, figs_eq]; exact List.mem_map.mpr ⟨_, List.mem_range.mpr this.1, rfl⟩) g
theorem sgn_at {T : Str} {n : Nat} (h : n < T.length) : ∃ c, T.cps.toList[n]? = some c ∧ sgn T n = ⟨#[c]⟩ := by
 have e : T.cps[n]? = some T.cps[n] := Array.getElem?_eq_getElem h
 have := here_all T n _ e
 rw [Nat.zero_add] at this
 exact ⟨T.cps[n], by rw [Array.getElem?_toList]; exact e, this⟩
theorem sgn_emp {T : Str} {n : Nat} (h : sgn T n = "") : sgn T n ∉ figs := by
 rw [h]; decide +kernel
theorem sgn_len {T : Str} {n : Nat} (h : sgn T n ≠ "") : n < T.length := by
 rcases Nat.lt_or_ge n T.length with z | z
 ·exact z
 ·exact absurd (sgn_past z) h
def spAlike : Sp := fun vs H Q _ => ∃ (T wd : Str) (i : Nat), vs = [.str T, .int ((i : Nat) : Int), .str wd] ∧ T.length ≤ 100000 ∧ wd.length ≤ 1000 ∧ Q (.int ((alk T wd.cps.toList i : Nat) : Int)) H
theorem rd_alike (hT : T.length ≤ 100000) (hw : wd.length ≤ 1000) (k : Q (.int ((alk T wd.cps.toList i : Nat) : Int)) H) : spAlike [.str T, .int ((i : Nat) : Int), .str wd] H Q E := ⟨T, wd, i, rfl, hT, hw, k⟩
def spFigs : Sp := fun vs H Q _ => ∃ (T : Str) (i : Nat), vs = [.str T, .int ((i : Nat) : Int)] ∧ T.length ≤ 100000 ∧ Q (.int ((i + (figsAt T i).length : Nat) : Int)) H
theorem rd_figs (hT : T.length ≤ 100000) (k : Q (.int ((i + (figsAt T i).length : Nat) : Int)) H) : spFigs [.str T, .int ((i : Nat) : Int)] H Q E := ⟨T, i, rfl, hT, k⟩
def spComma : Sp := spT (α := Str × Nat) (fun a => [.str a.1, .int ((a.2 : Nat) : Int)]) (fun a => a.1.length ≤ 100000) (fun a => .tuple [.int ((a.2 + alk a.1 cm a.2 : Nat) : Int), .bool (decide (alk a.1 cm a.2 = 2))])
theorem rd_comma (S : Sta B G0 H cs ds) (hT : T.length ≤ 100000) (k : ∀ v H', Same H H' → Sta B G0 H' cs ((.tuple [.int ((i + alk T cm i : Nat) : Int), .bool (decide (alk T cm i = 2))], v) :: ds) → Q v H') : spComma [.str T, .int ((i : Nat) : Int)] H Q E := rd_spT (α := Str × Nat) (T, i) S (HasAll.cons Has.str (HasAll.cons Has.int HasAll.nil)) hT k
noncomputable def prtR (T : Str) (i : Nat) : Nat × Bool := match prtF T i with | .error e => (e, false) | .ok j => (j, true)
noncomputable def spPortL : Sp := spT (α := Str × Nat) (fun a => [.str a.1, .int ((a.2 : Nat) : Int)]) (fun a => a.1.length ≤ 2000 ∧ RunT a.1 560) (fun a => .tuple [.int (((prtR a.1 a.2).1 : Nat) : Int), .bool (prtR a.1 a.2).2])
theorem rd_portL (S : Sta B G0 H cs ds) (hT : T.length ≤ 2000) (hr : RunT T 560) (k : ∀ v H', Same H H' → Sta B G0 H' cs ((.tuple [.int (((prtR T i).1 : Nat) : Int), .bool (prtR T i).2], v) :: ds) → Q v H') : spPortL [.str T, .int ((i : Nat) : Int)] H Q E := rd_spT (α := Str × Nat) (T, i) S (HasAll.cons Has.str (HasAll.cons Has.int HasAll.nil)) ⟨hT, hr⟩ k
theorem sl_exp (T : Str) (i : Nat) : expF T ("/" : Str).cps.toList i = if sgn T i = ("/" : Str) then .ok (i + 1) else .error i := by
 have e : ("/" : Str).cps.toList = [47] := by decide +kernel
 have e2 : ("/" : Str) = ⟨#[47]⟩ := by decide +kernel
 rw [e, e2]
 rfl
theorem prt1 {T : Str} {i : Nat} (h : sgn T i ∉ figs.drop 1) : prtR T i = (i, false) := by
 unfold prtR prtF portF
 rw [if_pos h]
 rfl
theorem prt2 {T : Str} {i : Nat} {ds : List Nat} (f : Figs T i ds) (h : sgn T (i + ds.length) ≠ "/") : prtR T i = (i + ds.length, false) := by
 unfold prtR prtF portF
 rw [if_neg (fun z => z f.first_in), f.at, sl_exp, if_neg h]
 rfl
theorem prt3 {T : Str} {i : Nat} {ds : List Nat} (f : Figs T i ds) (h : sgn T (i + ds.length) = "/") (g : sgn T (i + ds.length + 1) ∉ figs.drop 1) : prtR T i = (i + ds.length + 1, false) := by
 unfold prtR prtF portF
 rw [if_neg (fun z => z f.first_in), f.at, sl_exp, if_pos h]
 dsimp only
 rw [if_pos g]
 rfl
theorem prt4 {T : Str} {i : Nat} {ds es : List Nat} (f : Figs T i ds) (h : sgn T (i + ds.length) = "/") (g : Figs T (i + ds.length + 1) es) (b : valD es ≤ valD ds ∨ Int.gcd (valD ds) (valD es) ≠ 1) : prtR T i = (i + ds.length + 1 + es.length, false) := by
 unfold prtR prtF portF
 rw [if_neg (fun z => z f.first_in), f.at, sl_exp, if_pos h]
 dsimp only
 rw [if_neg (fun z => z g.first_in), g.at, if_pos b]
 rfl
theorem prt5 {T : Str} {i : Nat} {ds es : List Nat} (f : Figs T i ds) (h : sgn T (i + ds.length) = "/") (g : Figs T (i + ds.length + 1) es) (b : ¬ (valD es ≤ valD ds ∨ Int.gcd (valD ds) (valD es) ≠ 1)) : prtR T i = (i + ds.length + 1 + es.length + alk T cm (i + ds.length + 1 + es.length), decide (alk T cm (i + ds.length + 1 + es.length) = 2)) := by
 unfold prtR prtF portF
 rw [if_neg (fun z => z f.first_in), f.at, sl_exp, if_pos h]
 dsimp only
 rw [if_neg (fun z => z g.first_in), g.at, if_neg b]
 dsimp only [Except.bind]
 rw [cm_exp]
 by_cases c : alk T cm (i + ds.length + 1 + es.length) = 2
 ·rw [if_pos c, decide_eq_true c, c]
 ·rw [if_neg c, decide_eq_false c]
theorem valD_nn {T : Str} {i : Nat} {ds : List Nat} (f : Figs T i ds) : 0 ≤ valD ds := (valD_lt _ ds rfl f.all).1
theorem isAll_si {G : Hp} {T : Str} {i : Int} {vs : List V} (h : IsAll G [.str T, .int i] vs) : vs = [.str T, .int i] := by
 simp only [IsAll, Is] at h
 obtain ⟨v, _, rfl, h1, w, _, rfl, h2, rfl⟩ := h
 subst h1
 subst h2
 rfl
def spBegin : Sp := spT (α := Str × Nat) (fun a => [.str a.1, .int ((a.2 : Nat) : Int)]) (fun a => a.1.length ≤ 100000) (fun a => .tuple [.int (((begF a.1 a.2).1 : Nat) : Int), .str (begF a.1 a.2).2])
theorem rd_begin (S : Sta B G0 H cs ds) (hT : T.length ≤ 100000) (k : ∀ v H', Same H H' → Sta B G0 H' cs ((.tuple [.int (((begF T i).1 : Nat) : Int), .str (begF T i).2], v) :: ds) → Q v H') : spBegin [.str T, .int ((i : Nat) : Int)] H Q E := rd_spT (α := Str × Nat) (T, i) S (HasAll.cons Has.str (HasAll.cons Has.int HasAll.nil)) hT k
def pil (p : List Nat) : List PyData := p.reverse.map fun k => .int ((k : Nat) : Int)
def BhOk (b : Bh) (j : Int) (wd : Str) (ys : List PyData) : Prop := match b with
 | .goes i q => j = ((i : Nat) : Int) ∧ wd = "goes on" ∧ ys = pil q
 | .fails i => j = ((i : Nat) : Int) ∧ wd = "fails"
 | .ends i => j = ((i : Nat) : Int) ∧ wd = "ends"
def spBeh : Sp := fun vs H Q _ => ∃ (B G0 : Hp) (T : Str) (i : Nat) (L : Addr) (p : List Nat), vs = [.str T, .int ((i : Nat) : Int), .ref L] ∧ Sta B G0 H [(L, pil p)] [] ∧ T.length ≤ 2000 ∧ p.length ≤ 900 ∧ (∀ k ∈ p, 1 ≤ k) ∧
 ∀ (j : Int) (wd : Str) (ys : List PyData) (v : V) (H' : Hp), BhOk (behF T p i) j wd ys → Sta B G0 H' [(L, ys)] [(.tuple [.int j, .str wd], v)] → Q v H'
theorem pil_cons (k : Nat) (p : List Nat) : pil (k :: p) = pil p ++ [.int ((k : Nat) : Int)] := by unfold pil; rw [List.reverse_cons, List.map_append]; rfl
theorem pil_row (p : List Nat) : PyData.list (pil p) = rowD (p.reverse.map fun k => ((k : Nat) : Int)) := by
 unfold pil rowD
 rw [List.map_map]
 rfl
theorem pil_len (p : List Nat) : (pil p).length = p.length := by unfold pil; rw [List.length_map, List.length_reverse]
theorem shaped_pil (p : List Nat) : SeqAt.shaped (.list (pil p)) = true := by rw [pil_row]; exact shaped_row _
theorem shaped_nil : SeqAt.shaped (.list []) = true := shaped_row []
theorem eqv_pil (p : List Nat) : PyData.eqv (.list (pil p)) (.list []) = decide (p = []) := by
 cases p with
 | nil => simp [pil, PyData.eqv, PyData.eqvAll]
 | cons k p =>
   rw [decide_eq_false (by simp), pil_cons]
   cases h : pil p with
   | nil => simp [PyData.eqv, PyData.eqvAll]
   | cons a b => simp [PyData.eqv, PyData.eqvAll]
theorem pil_set (k m : Nat) (p : List Nat) : (pil p ++ [PyData.int ((k : Nat) : Int)]).set ((pil p ++ [PyData.int ((k : Nat) : Int)]).length - 1) (.int ((m : Nat) : Int)) = pil p ++ [.int ((m : Nat) : Int)] := by
 rw [List.length_append, List.length_singleton, Nat.add_sub_cancel, List.set_append_right _ _ (Nat.le_refl _), Nat.sub_self]
 rfl
theorem Sta.bool_of {B G0 H : Hp} {cs : Cells} {ds : Dat} {v : V} {b : Bool} (S : Sta B G0 H cs ds) (h : Has ds (.bool b) v) : v = .bl b := by have z := S.hp h; rw [Is] at z; exact z
theorem Sta.str_of {B G0 H : Hp} {cs : Cells} {ds : Dat} {v : V} {b : Str} (S : Sta B G0 H cs ds) (h : Has ds (.str b) v) : v = .str b := by have z := S.hp h; rw [Is] at z; exact z
def optV : Option Nat → V
 | none => .non
 | some j => .int ((j : Nat) : Int)
theorem rd_inT {p : Addr} {ys : List Str} (S : Sta B G0 H cs ds) (h : Has ds (.tuple (ys.map PyData.str)) (.ref p)) (k : Q (.bl (decide (z ∈ ys))) H) : rIn K false (.str z) (.ref p) H Q := by
 have a := S.hp h
 rw [Is] at a
 obtain ⟨p', vs, e, hp, hv⟩ := a
 cases e
 rw [isAll_strs hv] at hp
 refine ⟨p, ys.map V.str, rfl, .inr (SqT.of hp), rfl, ?_, ?_⟩
 ·rw [List.all_map]
  exact List.all_eq_true.mpr fun _ _ => rfl
 ·rw [if_neg (by decide), inV_str]
  exact k
theorem rd_ixLast {c : Nat} (h : z.length ≤ 1000000) (hc : z.cps.toList.getLast? = some c) (k : Q (.str ⟨#[c]⟩) H) : rIx K (.str z) (.int (-1)) H Q := .inr (.inr ⟨z, _, c, rfl, rfl, sLine h, atI_neg1 hc, k⟩)
theorem word_last {wd : Str} (h : wd ∈ wordsL) : ∃ c, wd.cps.toList.getLast? = some c ∧ decide ((⟨#[c]⟩ : Str) = "(") = decide (wd ∈ brkL) := by
 have key : ∀ z ∈ wordsL, (z.cps.toList.getLast?.elim false fun c => decide ((⟨#[c]⟩ : Str) = "(") == decide (z ∈ brkL)) = true := by decide +kernel
 have k := key wd h
 cases e : wd.cps.toList.getLast? with
 | none => rw [e] at k; cases k
 | some c => rw [e] at k; exact ⟨c, rfl, eq_of_beq k⟩
theorem word_some {wd : Str} (h : wd ∈ wordsL) : wd ≠ "" ∧ wd.length ≤ 7 ∧ (wd ∈ brkL → 5 ≤ wd.length) := by
 have key : ∀ z ∈ wordsL, z ≠ "" ∧ z.length ≤ 7 ∧ (z ∈ brkL → 5 ≤ z.length) := by decide +kernel
 exact key wd h
theorem beh_goes {T : Str} : ∀ {p : List Nat} {i j : Nat} {q : List Nat}, behF T p i = .goes j q → i ≤ T.length → i ≤ j ∧ j ≤ T.length ∧ q.length ≤ p.length ∧ ((∀ k ∈ p, 1 ≤ k) → ∀ k ∈ q, 1 ≤ k)
 | [], i, j, q, h, _ => by
   unfold behF at h
   split at h <;> cases h
 | k :: p, i, j, q, h, hi => by
   unfold behF at h
   split at h
   ·rename_i hk
    split at h
    ·rename_i ha
     cases h
     have := expF_le (T := T) (l := cm) (i := i) (j := i + 2) (by rw [cm_exp, if_pos ha]) hi
     refine ⟨by omega, this.2, by simp, fun hp k' hk' => ?_⟩
     rcases List.mem_cons.mp hk' with z | z
     ·omega
     ·exact hp k' (List.mem_cons_of_mem _ z)
    ·cases h
   ·split at h
    ·cases h
    ·rename_i hs
     have hs : sgn T i = (")" : Str) := Classical.not_not.mp hs
     have hl : i < T.length := sgn_len (by rw [hs]; decide +kernel)
     obtain ⟨a, b, c, d⟩ := beh_goes h hl
     exact ⟨by omega, b, by rw [List.length_cons]; omega, fun hp => d fun k' hk' => hp k' (List.mem_cons_of_mem _ hk')⟩
theorem prt_end {T : Str} {i j : Nat} (h : prtF T i = .ok j) (hi : i ≤ T.length) : i ≤ j ∧ j ≤ T.length := by
 unfold prtF at h
 obtain ⟨⟨x, j1⟩, e1, e2⟩ := bind_ok h
 have a := portF_end T _ _ _ e1 hi
 have b := expF_le e2 a.2
 omega
def spFails : Sp := spB (α := Str × Nat × Option Nat) (fun a => [.str a.1]) (fun a => a.1.length ≤ 2000 ∧ RunT a.1 560 ∧ Rch a.1 a.2.1 0 [] a.2.2 ∧ pc a.1 0 ≤ 500) (fun a => optV a.2.2)
end
section
variable {B G0 H : Hp} {cs : Cells} {ds : Dat} {Q : VK} {E : XK} {v w u : V} {K : PySem.W.Frag} {T z y : Str} {i : Nat}
theorem tx_lit (z : Str) (n : Nat) (h : (z.cps.all (· < 128) && decide (z.length ≤ n)) = true) : Tx n n n z := by
 rw [Bool.and_eq_true, decide_eq_true_eq] at h
 exact (Tx.of h.1).mono h.2 h.2 h.2
theorem tx_lit3 (z : Str) (n c : Nat) (h : (z.cps.all (· < 128) && decide (z.length ≤ n) && decide (cnt z.cps.toList ≤ c)) = true) : Tx n n c z := by
 rw [Bool.and_eq_true, Bool.and_eq_true, decide_eq_true_eq, decide_eq_true_eq] at h
 have a := (Tx.of h.1.1).mono h.1.2 h.1.2 (Nat.le_refl _)
 exact ⟨a.len, a.run, h.2, a.asc⟩
theorem rd_ixAny {n : Int} (hz : (z.cps.all (· < 128) && decide (z.length ≤ 1000)) = true) (h0 : 0 ≤ n) (h1 : n < z.length) (k : ∀ y, Tx 1 1 1 y → Q (.str y) H) : rIx K (.str z) (.int n) H Q := by
 rw [Bool.and_eq_true, decide_eq_true_eq] at hz
 obtain ⟨m, rfl⟩ := Int.eq_ofNat_of_zero_le h0
 have hm : m < z.cps.toList.length := by rw [str_tl]; omega
 refine rd_ixZ (by omega) (List.getElem?_eq_getElem hm) (k _ ?_)
 refine Tx.of (z := ⟨#[_]⟩) ?_
 have := Array.all_eq_true_iff_forall_mem.mp hz.1 _ (Array.mem_def.mpr (List.getElem_mem hm))
 simpa using this
theorem rd_ixStrs {p : Addr} {ys : List Str} {n : Int} (S : Sta B G0 H cs ds) (h : (p, ys.map PyData.str) ∈ cs) (h0 : 0 ≤ n) (h1 : n < ys.length) (k : ∀ z, z ∈ ys → Q (.str z) H) : rIx K (.ref p) (.int n) H Q := by
 obtain ⟨m, rfl⟩ := Int.eq_ofNat_of_zero_le h0
 have hm : m < ys.length := by omega
 refine rd_ixC S h (x := .str ys[m]) (atI_nat (by rw [List.getElem?_map, List.getElem?_eq_getElem hm]; rfl)) fun w S1 => ?_
 obtain rfl := S1.str_of (b := ys[m]) (.mem (List.mem_cons_self ..))
 exact k _ (List.getElem_mem hm)
theorem rd_ixInts {p : Addr} {ns : List Int} {n : Int} (S : Sta B G0 H cs ds) (h : (p, ns.map PyData.int) ∈ cs) (h0 : 0 ≤ n) (h1 : n < ns.length) (k : ∀ z, z ∈ ns → Q (.int z) H) : rIx K (.ref p) (.int n) H Q := by
 obtain ⟨m, rfl⟩ := Int.eq_ofNat_of_zero_le h0
 have hm : m < ns.length := by omega
 exact rd_ixCI S h (n := ns[m]) (atI_nat (by rw [List.getElem?_map, List.getElem?_eq_getElem hm]; rfl)) (k _ (List.getElem_mem hm))
theorem splice_eq {T z : Str} {a : Nat} (b : Nat) (ha : a ≤ T.length) : (Txt.slice T none (some ((a : Nat) : Int)) ++ z ++ Txt.slice T (some ((b : Nat) : Int)) none).cps.toList = T.cps.toList.take a ++ z.cps.toList ++ T.cps.toList.drop b := by
 rw [str_toList, str_toList, sl_to T ha, sl_from]
theorem splice_no {T : Str} {a : Nat} (b : Nat) (ha : a ≤ T.length) : (Txt.slice T none (some ((a : Nat) : Int)) ++ Txt.slice T (some ((b : Nat) : Int)) none).cps.toList = T.cps.toList.take a ++ (Str.empty).cps.toList ++ T.cps.toList.drop b := by
 rw [str_toList, sl_to T ha, sl_from]
 show _ = _ ++ [] ++ _
 rw [List.append_nil]
theorem tx_emp : Tx 0 0 0 Str.empty := tx_lit _ 0 (by decide +kernel)
open Classical in
noncomputable def plcF (T sg : Str) (m j : Nat) : Option Nat := if ∃ c, T.cps.toList[j]? = some c ∧ c ∈ sg.cps.toList then some (j + m) else none
noncomputable def plc (T sg : Str) (m : Nat) : List Nat := (List.range T.length).filterMap (plcF T sg m)
def natD (ns : List Nat) : List PyData := ns.map fun k => .int ((k : Nat) : Int)
theorem plc_eq (T sg : Str) (m n : Nat) (hn : n = T.length) : (List.range n).filterMap (fun j => (plcF T sg m j).map fun k => PyData.int ((k : Nat) : Int)) = natD (plc T sg m) := by
 subst hn
 unfold natD plc
 rw [List.map_filterMap]
theorem plc_le {T sg : Str} {m k : Nat} (h : k ∈ plc T sg m) : k < T.length + m := by
 obtain ⟨j, hj, e⟩ := List.mem_filterMap.mp h
 have := List.mem_range.mp hj
 unfold plcF at e
 split at e
 ·cases e; omega
 ·cases e
theorem natD_len (ns : List Nat) : (natD ns).length = ns.length := List.length_map ..
theorem natD_row (ns : List Nat) : PyData.list (natD ns) = rowD (ns.map fun k => ((k : Nat) : Int)) := by
 unfold natD rowD
 rw [List.map_map]
 rfl
theorem eqv_nat (ns : List Nat) : PyData.eqv (.list (natD ns)) (.list []) = decide (ns = []) := by
 cases ns with
 | nil => simp [natD, PyData.eqv, PyData.eqvAll]
 | cons k p => simp [natD, PyData.eqv, PyData.eqvAll]
theorem rd_ixNat {p : Addr} {ns : List Nat} {n : Int} (S : Sta B G0 H cs ds) (h : (p, natD ns) ∈ cs) (h0 : 0 ≤ n) (h1 : n < ns.length) (k : ∀ z, z ∈ ns → Q (.int ((z : Nat) : Int)) H) : rIx K (.ref p) (.int n) H Q := by
 refine rd_ixInts (ns := ns.map fun k => ((k : Nat) : Int)) S (by rw [List.map_map]; exact h) h0 (by rw [List.length_map]; exact h1) fun z hz => ?_
 obtain ⟨k', hk, rfl⟩ := List.mem_map.mp hz
 exact k k' hk
theorem plc_some {T sg : Str} {m j c : Nat} (h : T.cps.toList[j]? = some c) : plcF T sg m j = if c ∈ sg.cps.toList then some (j + m) else none := by
 unfold plcF
 by_cases g : c ∈ sg.cps.toList
 ·rw [if_pos ⟨c, h, g⟩, if_pos g]
 ·rw [if_neg g, if_neg]
  rintro ⟨c', h', g'⟩
  rw [h] at h'
  cases h'
  exact g g'
def spLSign : Sp := fun vs H Q _ => ∃ c : Int, vs = [.int c] ∧ ∀ z, Tx 1 1 1 z → Q (.str z) H
theorem rd_lsign {c : Int} (k : ∀ z, Tx 1 1 1 z → Q (.str z) H) : spLSign [.int c] H Q E := ⟨c, rfl, k⟩
def spMix2 : Sp := fun vs H Q _ => ∃ (G : Hp) (c : Int), Same G H ∧ vs = [.int c, .int 2] ∧ ∀ v H' G' a b, Grow G H G' H' → Is G' (.list [.int a, .int b]) v → Q v H'
theorem rd_mix2 {c : Int} (S : Sta B G0 H cs ds) (k : ∀ v H' a b, Same H H' → Sta B G0 H' cs ((.list [.int a, .int b], v) :: ds) → Q v H') : spMix2 [.int c, .int 2] H Q E := by
 obtain ⟨G, S⟩ := S
 refine ⟨G, c, S.2.1, rfl, fun v H' G' x y gr hv => k v H' x y gr.h ?_⟩
 obtain ⟨a', b', c', d', e', f', g'⟩ := S.grow gr
 exact ⟨G', a', b', c', d', e', f', g'.cons hv⟩
def spMixE : Sp := fun vs H Q E => spMixL vs H Q E ∨ spMix2 vs H Q E
def Bent (L R C : Nat) (Q : VK) (H : Hp) : Prop := ∀ U H', Same H H' → Tx (2 * L + 20) (3 * R + 20) (2 * C + 2) U → Q (.str U) H'
def spPut : Sp := fun vs H Q _ => ∃ (T sg z : Str) (cell : Int) (m L R C l r c : Nat), vs = [.str T, .str sg, .str z, .int cell, .int ((m : Nat) : Int)] ∧ Tx L R C T ∧ L ≤ 1000 ∧ Tx l r c z ∧ l ≤ 1000 ∧ m ≤ 1 ∧ ∀ U H', Same H H' → Tx (L + l) (R + r + R) (C + c) U → Q (.str U) H'
theorem rd_put {sg : Str} {cell : Int} {m L R C l r c : Nat} (hT : Tx L R C T) (hL : L ≤ 1000) (hz : Tx l r c z) (hl : l ≤ 1000) (hm : m ≤ 1) (k : ∀ U H', Same H H' → Tx (L + l) (R + r + R) (C + c) U → Q (.str U) H') : spPut [.str T, .str sg, .str z, .int cell, .int ((m : Nat) : Int)] H Q E := ⟨T, sg, z, cell, m, L, R, C, l, r, c, rfl, hT, hL, hz, hl, hm, k⟩
def spOPort : Sp := fun vs H Q _ => ∃ (T : Str) (cell : Int) (L R C : Nat), vs = [.str T, .int cell] ∧ Tx L R C T ∧ L ≤ 1000 ∧ Bent L R C Q H
theorem rd_oport {cell : Int} {L R C : Nat} (hT : Tx L R C T) (hL : L ≤ 1000) (k : Bent L R C Q H) : spOPort [.str T, .int cell] H Q E := ⟨T, cell, L, R, C, rfl, hT, hL, k⟩
def spSpoil : Sp := fun vs H Q _ => ∃ (way cell : Int) (T : Str) (L R C : Nat), vs = [.int way, .int cell, .str T] ∧ Tx L R C T ∧ L ≤ 900 ∧ Bent L R C Q H
theorem rd_spoil {way cell : Int} {L R C : Nat} (hT : Tx L R C T) (hL : L ≤ 900) (k : Bent L R C Q H) : spSpoil [.int way, .int cell, .str T] H Q E := ⟨way, cell, T, L, R, C, rfl, hT, hL, k⟩
def spTwice (K : PySem.W.Frag) : Sp := fun vs H Q _ => ∃ (a : Addr) (ns : List Int) (T : Str), vs = [.ref a, .str T] ∧ SqL K H a (ns.map V.int) ∧ ns.length ≤ 63 ∧ Tx 396 30 11 T ∧ ∀ U H', Same H H' → Tx 1644 350 50 U → Q (.str U) H'
end
end S
namespace L2
open PySem PySem.W PySem.Spec PySem.Calls PyProof.Rows
theorem run_fn_at {X : Cx} {CX : CXT} {k : Nat} {f : Addr} {fd : FuncData} {ps : List Str} {sp : Sp} {E : XK} {pins : List (Addr × Obj)} {σ : St} {H : Hp} {s : Shared} {Q : VK} {us : List Value} {vs : List V} (F : FnOk X.prog X.w X.K X.mg X.base CX k f fd ps sp) (hr : Room k X.A) (hb : Binds X.K fd ps [])
 (hx : ∀ e s', CX X.stack H s E e s' → X.xe e s') (I : Inv X pins σ H s) (r : Vals vs us) (h : sp (vs ++ []) H Q E) : wpAny (model X.prog X.w) X.A (call (.ref f) us) (EP X pins σ Q) X.xe s := by
 have r2 : Vals (vs ++ []) (us ++ []) := r.append .nil
 have hl : (us ++ []).length = ps.length := by rw [← r2.length]; exact F.len _ _ _ _ h
 refine wpAny_call (codeAny_mono (F.run X.A X.stack s H ⟨us, []⟩ (us ++ []) (vs ++ []) Q E hr I.env0 (hb s us I.kIn hl) r2 h) fun r s' hq => ?_)
 cases r with
 | error e => exact hx e s' hq
 | ok fl =>
   cases fl with
   | ret u => exact I.after hq
   | next => exact False.elim hq
   | brk => exact False.elim hq
   | cont => exact False.elim hq
def kXR (base : Heap) (D : Addr) (i : Nat) (ts : TS) (N : Ends) (σ : St) : XK := fun c d H' => ∃ C dx, c = .ref C ∧ d = some dx ∧ Under base C D ∧ ∀ a : Addr, H' a = none →
    ts { nx := fun σ2 H2 => N.nx (σ2.set i none) H2, rt := N.rt, bk := fun σ2 H2 => N.bk (σ2.set i none) H2, ct := fun σ2 H2 => N.ct (σ2.set i none) H2 } (σ.set i (some (.ref a))) (upd H' a (excO2 a C dx))
def tTryR (base : Heap) (D : Addr) (i j : Nat) (sp : Sp) (t : TA) (ts : TS) : TS := fun N σ H => t σ H fun vs H1 => sp (vs ++ []) H1 (fun v H2 => N.nx (σ.set j (some v)) H2) (kXR base D i ts N σ)
def xeR (X : Cx) (pins : List (Addr × Obj)) (σ : St) (E : XK) : Value → Shared → Prop := fun e s' => ∃ pins' H1 s1, Inv (X.with' (X.pn ++ pins) X.xe) pins' σ H1 s1 ∧ CX2 X.prog X.w X.stack H1 s1 E e s'
theorem ps_tryR {X : Cx} {suite : List Stmt} {b₀ : Stmt} {x y n fn : Str} {D : Addr} {i j k jr : Nat} {ps : List Str} {sp : Sp} {t : TA} {ts : TS} {np hpos pos px p cpos apos : Pos} {e : Expr} {es : List Expr} (hst : X.stack = X.env :: X.outer) (hf : X.env.frame = some X.env.locals) (hg : Gl X y) (hD : X.mg y = some (.ref D))
 (hN : X.N.Nodup) (hi : X.N[i]? = some n) (hn : X.env.kindOf n = some .local) (C : S.Cal X.prog X.w X.K X.mg X.base (CX2 X.prog X.w) k fn ps sp) (hr : Room jr X.A) (hk : k ≤ jr) (hgf : Gl X fn) (hj : X.N[j]? = some x) (hxl : Loc X.env.scope x)
 (ha : ∀ pn xe, PA (X.with' pn xe) (e :: es) t) (hs : ∀ a, PSs (X.inExc a) (b₀ :: suite) ts) (hd : (y == ("__debug__" : Str)) = false := by decide) (hdf : (fn == ("__debug__" : Str)) = false := by decide)
 (hsw : swapsWith (.Call (.Name fn p) (e :: es) [] cpos) (some (.Name x px)) apos.line X.env = pure false := by rfl) (hfx : X.fn x = true ∨ X.env.scope.names.lookup x = some .local := by first | exact .inl rfl | exact .inr rfl)
 (he : starEach (e :: es) X.env = (false, eval e X.env) :: starEach es X.env := by rfl) (hpl : (backTo cpos (starEach es X.env)).any (·.1) = false := by rfl) :
 PS X (.Try [.Assign [.Name x px] (.Call (.Name fn p) (e :: es) [] cpos) apos] [.ExceptHandler (some (.Name y np)) (some n) (b₀ :: suite) hpos] [] [] pos) (tTryR X.base D i j sp t ts) := by
 intro pins s σ H N I h
 obtain ⟨f, fd, F, hm, hk2, hb⟩ := C.ex
 have fr : X.A.frames = some (X.env :: X.outer) := by rw [I.ok.frames, hst]
 have body : wpAny (model X.prog X.w) X.A (execs [.Assign [.Name x px] (.Call (.Name fn p) (e :: es) [] cpos) apos] X.env) (SP (X.with' (X.pn ++ pins) (xeR X pins σ (kXR X.base D i ts N σ))) [] N) (xeR X pins σ (kXR X.base D i ts N σ)) s := by
  have I0 := I.pinIn (xeR X pins σ (kXR X.base D i ts N σ))
  refine wpAny_execs_cons (thn (Q := SP (X.with' (X.pn ++ pins) (xeR X pins σ (kXR X.base D i ts N σ))) [] N) ?_ fun f s1 q => ?_)
  ·refine wpAny_Assign_Name (thn (Q := EP (X.with' (X.pn ++ pins) (xeR X pins σ (kXR X.base D i ts N σ))) [] σ fun v H2 => N.nx (σ.set j (some v)) H2) ?_ fun v s1 ⟨y, H1, I1, r1, q1⟩ => ?_) hsw
   ·refine wpAny_Call_Name_kw (ld_glob (X := X.with' (X.pn ++ pins) (xeR X pins σ (kXR X.base D i ts N σ))) I0 hgf hm ?_ hdf)
    refine PySem.W.callWith_K (h₀ := X.base) I.ok.mod.kin hk2 (thn (ha _ _ cpos [] s σ H _ I0 h) fun us s1 ⟨vs, H1, I1, r, q⟩ => ⟨I1.kIn, ?_⟩) he hpl
    exact run_fn_at (X := X.with' (X.pn ++ pins) (xeR X pins σ (kXR X.base D i ts N σ))) F (hr.mono hk) hb (fun e s' cx => ⟨[], H1, s1, I1.rewish _, cx⟩) I1 r q
   ·exact store_ok (X := X.with' (X.pn ++ pins) (xeR X pins σ (kXR X.base D i ts N σ))) I1 hN hj hxl r1 (fun s2 I2 => ⟨_, H1, I2, q1⟩) hfx
  ·cases f with
   | next => exact wpAny_execs_nil q
   | ret v => exact q
   | brk => exact q
   | cont => exact q
 refine wpAny_Try_except (wpAny_mono body (fun f s1 h1 => ?_) fun e s' hx => ?_)
 ·have h2 := h1.pinOut I.ok
  cases f with
  | next => exact wpAny_pure h2
  | brk => exact h2
  | cont => exact h2
  | ret u => exact h2
 ·obtain ⟨pins', H1, s1, I1, cx⟩ := hx
  obtain ⟨a, C0, dx, a0, H', bs, rfl, hdx, ⟨C1, dx1, hC0, hdd, und, k⟩, ha, fl, after⟩ := caught_inv2 (X := X.with' (X.pn ++ pins) X.xe) I1 cx
  obtain rfl : C0 = C1 := by cases hC0; rfl
  obtain rfl : dx = dx1 := by cases hdd; rfl
  have fl' : Heap.FlyingW bs (X.env :: X.outer) a (.ref C0) a0 s'.heap := hst ▸ fl
  refine looksD fr hf fl' hdx fun h4 held up4 hd4 => ?_
  refine landsD held hd4 fun h5 fl5 up5 hd5 => ?_
  obtain ⟨I5, oe, he, hcl⟩ := after { s' with heap := h5 } (show Heap.FlyingW bs X.stack a (.ref C0) a0 h5 from hst ▸ fl5) hd5 (up4.trans up5) rfl rfl
  refine wpAny_handleBy_cons (codeAny_handlers_test (ld_glob (X := X.inExc a) ((I5.pinOut I.ok).inExc a) hg hD ?_ hd)) (by intro q; cases q)
  refine matches_under (s := { s' with heap := h5 }) (und.keeps I5.bk) he hcl (codeAny_handlers_suite_as ?_)
  refine landsD2 fl5 hd5 fun h6 fl6 up6 hd6 => ?_
  obtain ⟨I6, _⟩ := after { s' with heap := h6 } (show Heap.FlyingW bs X.stack a (.ref C0) a0 h6 from hst ▸ fl6) hd6 ((up4.trans up5).trans up6) rfl rfl
  refine store_ok (X := X.inExc a) (v := .ref a) ((I6.pinOut I.ok).inExc a) hN hi (.inl hn) rfl (fun s7 I7 => ?_) (.inr hn)
  refine wpAny_mono (hs a pins s7 _ _ _ I7 (k a ha)) (fun f s8 h8 => ?_) fun _ _ z => z.elim
  cases f with
  | next =>
    obtain ⟨σ2, H2, I8, q⟩ := h8
    exact (I8.outExc I.ok).unname hN hi hn fun s9 I9 => ⟨_, _, I9, q⟩
  | brk =>
    obtain ⟨σ2, H2, I8, q⟩ := h8
    exact (I8.outExc I.ok).unname hN hi hn fun s9 I9 => ⟨_, _, I9, q⟩
  | cont =>
    obtain ⟨σ2, H2, I8, q⟩ := h8
    exact (I8.outExc I.ok).unname hN hi hn fun s9 I9 => ⟨_, _, I9, q⟩
  | ret u =>
    obtain ⟨v, σ2, H2, I8, r, q⟩ := h8
    exact (I8.outExc I.ok).unname hN hi hn fun s9 I9 => ⟨_, _, _, I9, r, q⟩
end L2
namespace L2
open PySem PySem.W PySem.Spec PySem.Calls PyProof.Rows
theorem under_own {K : PySem.W.Frag} {h : Heap} {C P : Addr} (X : K.In h) (q : ownIn K C P = true) (r : excIn K P vChain "ValueError.__new__" = true) (b : mroIn K P (.type "BaseException") = some true) : Under h C P := by
 obtain ⟨⟨N, nm, qn, bs, sn, sub, ab, col, dd, k0, k1, k2, k3, k5, hC⟩, _⟩ := own_obj X q
 obtain ⟨bm', N', nm', qn', bs', hd', sn', sub', ab', col', dd', k0', k1', k2', k3', k5', b1, _, _, _, b5⟩ := exc_obj X r
 refine ⟨⟨nm, qn, N, bs, _, true, sn, sub, ab, col, dd, k0, k1, k2, k3, k5, _, hC, ?_⟩, nm', qn', N', bs', bm', hd', sn', sub', ab', col', dd', k0', k1', k2', k3', k5', _, b1, b5 _ b⟩
 simp [List.contains_cons]
end L2
namespace S
open L2 PySem PySem.Spec PyProof.Rows
section
variable {B G0 H : Hp} {cs : Cells} {ds : Dat} {Q : VK} {E : XK} {v w u : V} {K : PySem.W.Frag} {T z y : Str} {i : Nat}
theorem Grow.trans {G H G1 H1 G2 H2 : Hp} (a : Grow G H G1 H1) (b : Grow G1 H1 G2 H2) : Grow G H G2 H2 := ⟨a.h.trans b.h, a.g.trans b.g, b.sub, fun p hp => by
 rw [b.old p ?_, a.old p hp]
 cases e : H p with
 | none => exact absurd e hp
 | some o => rw [a.h p o e]; simp⟩
def kTryR (base : Heap) (D : Addr) (i j : Nat) (sp : Sp) (ts : TS) (N : Ends) (σ : L2.St) (vs : List V) (H1 : Hp) : Prop := sp (vs ++ []) H1 (fun v H2 => N.nx (σ.set j (some v)) H2) (kXR base D i ts N σ)
theorem rd_tryR {base : Heap} {D : Addr} {i j : Nat} {sp : Sp} {t : TA} {ts : TS} {N : Ends} {σ : L2.St} (h : t σ H (kTryR base D i j sp ts N σ)) : tTryR base D i j sp t ts N σ H := h
theorem kXR_of {base : Heap} {D C dx : Addr} {i : Nat} {ts : TS} {N : Ends} {σ : L2.St} {H' : Hp} (u : Under base C D) (k : ∀ a : Addr, H' a = none → ts (mkX N i) (σ.set i (some (.ref a))) (upd H' a (excO2 a C dx))) : kXR base D i ts N σ (.ref C) (some dx) H' := ⟨C, dx, rfl, rfl, u, k⟩
def Told (CN : Addr) (H : Hp) (a : Addr) (j : Nat) : Prop := ∃ dx, H a = some (excO2 a CN dx) ∧ H dx = some (.xd [("at", .int ((j : Nat) : Int))])
theorem Told.same {CN a : Addr} {H' : Hp} {j : Nat} (h : Told CN H a j) (e : Same H H') : Told CN H' a j := let ⟨dx, a1, a2⟩ := h; ⟨dx, e _ _ a1, e _ _ a2⟩
def spLRead (CN : Addr) (A : RAd) (n : Nat) : Sp := fun vs H Q _ => ∃ (G : Hp) (T : Str), vs = [.str T] ∧ Same G H ∧ T.length ≤ 2000 ∧ pc T 0 < n ∧
 match readF n T with
 | .error j => ∀ t a H', Same H H' → H' t = some (.tup [.non, .ref a]) → Told CN H' a j → Q (.ref t) H'
 | .ok r => ∀ v H' G', Grow G H G' H' → Is G' (.tuple [r.ins A, .none]) v → Q v H'
theorem rd_fldE {C a : Addr} {j n : Nat} {σ : L2.St} (e : σ[n]? = some (some (.ref a))) (h : Told C H a j) (F : ExcFld K C "at") (k : Q (.int ((j : Nat) : Int)) H) : tFldE K (tVar n) "at" σ H Q := by
 obtain ⟨dx, h1, h2⟩ := h
 exact ⟨.ref a, e, a, C, dx, _, _, rfl, h1, F, h2, rfl, k⟩
theorem shaped_one (z : Str) (hz : PyData.strOk z = true) : SeqAt.shaped (.list [.str z]) = true := shaped_of (n := 2) (by simp [PyData.canLay0, PyData.canLayAll0, hz]) (by simp [PyData.depth, PyData.depthAll]) (by decide)
theorem eqv_one (z : Str) : PyData.eqv (.list [.str z]) (.list [.str z]) = true := by simp [PyData.eqv, PyData.eqvAll]
theorem rd_isE2 {a C c : Addr} {b : Bool} {j : Nat} {B0 : Hp} (S : Sta B0 G0 H cs ds) (ha : Told C B0 a j) (I : ExcIn K C) (e : PySem.W.kitOne K (.ref C) (.ref c) = some b) (k : Q (.bl b) H) : rIsE2 K [.ref a, .ref c] H Q := by
 obtain ⟨dx, h1, h2⟩ := ha
 exact ⟨a, C, dx, .ref c, .ref c, b, rfl, S.base _ _ h1, I, fun u r => r, e, k⟩
theorem rd_isV2 {a C : Addr} {T : String} {b : Bool} {j : Nat} {B0 : Hp} (S : Sta B0 G0 H cs ds) (ha : Told C B0 a j) (I : ExcIn K C) (e : PySem.W.kitOne K (.ref C) (.type T) = some b) (k : Q (.bl b) H) : rIsE2 K [.ref a, .ty T] H Q := by
 obtain ⟨dx, h1, h2⟩ := ha
 exact ⟨a, C, dx, .ty T, .type T, b, rfl, S.base _ _ h1, I, fun u r => r, e, k⟩
def spKinds2 (R : Addr) (n : Str) : Sp := fun vs H Q _ => ∃ (G : Hp) (a : Addr) (j : Nat), Same G H ∧ vs = [.ref a] ∧ Told R H a j ∧ ∀ v H' G', Grow G H G' H' → Is G' (.list [.str n]) v → Q v H'
theorem rd_kinds2 {R a : Addr} {n : Str} {j : Nat} (S : Sta B G0 H cs ds) (ha : Told R H a j) (k : ∀ r H', Same H H' → Sta B G0 H' cs ((.list [.str n], r) :: ds) → Q r H') : spKinds2 R n [.ref a] H Q E := by
 obtain ⟨G, S⟩ := S
 refine ⟨G, a, j, S.2.1, rfl, ha, fun v H' G' gr hv => k v H' gr.h ?_⟩
 obtain ⟨a', b', c', d', e', f', g'⟩ := S.grow gr
 exact ⟨G', a', b', c', d', e', f', g'.cons hv⟩
end
end S
namespace K
open PySem L2 S
local macro_rules | `(tactic| walk_at "m") => `(tactic| exact .mem (by walk_at "mem"))
local macro_rules | `(tactic| walk_at "l") => `(tactic| first | decide | exact Nat.le_refl _ | omega)
local macro_rules | `(tactic| walk_at "o") => `(tactic| first | exact Or.inl rfl | exact Or.inr rfl)
local macro_rules | `(tactic| walk_at "mem") => `(tactic| first | exact List.Mem.head _ | (refine List.Mem.tail _ ?_; walk_at "mem"))
local macro_rules | `(tactic| walk_at "has") => `(tactic| first | exact Has.int | exact Has.bl | exact Has.non | exact Has.str | exact Has.mem (by walk_at "mem"))
local macro_rules | `(tactic| walk_at "hasall") => `(tactic| first | exact HasAll.nil | ((refine' HasAll.cons ?a ?b); (case a => walk_at "has"); (case b => walk_at "hasall")))
local macro_rules | `(tactic| walk_at "sz") => `(tactic| first | assumption | exact SzQ.num (by assumption) | exact SzQ.den (by assumption) | exact Sz.mul (by walk_at "sz") (by walk_at "sz") | exact Sz.add' (by walk_at "sz") (by walk_at "sz") | exact Sz.sub' (by walk_at "sz") (by walk_at "sz") | exact Sz.lit (by decide))
local macro_rules | `(tactic| walk_at "mul") => `(tactic| first | assumption | exact IntMulOk.of_left (by decide) | exact IntMulOk.of_right (by decide) | exact mulModOk (by decide) | exact Sz.mulOk (by walk_at "sz") (by walk_at "sz") (by decide))
local macro_rules | `(tactic| walk_at "div") => `(tactic| exact ⟨by decide, by decide⟩)
local macro_rules | `(tactic| walk_at "mod") => `(tactic| first | (show (0 : Int) < _; decide) | (show (0 : Int) < _; omega) | decide | assumption)
local macro_rules | `(tactic| walk_at "rd") => `(tactic| first
 | ((with_reducible refine' rd_var ?e ?k); (case e => exact rfl))
 | with_reducible refine' rd_c ?_ | with_reducible refine' rd_op ?_ | with_reducible refine' rd_rI0 ?_ | with_reducible refine' rd_addI ?_
 | ((with_reducible refine' rd_ixTI ?S ?h ?i ?k); (case S => assumption); (case h => walk_at "has"); (case i => exact rfl))
 | ((with_reducible refine' rd_ixT ?S ?h ?i ?k); (case S => assumption); (case h => walk_at "has"); (case i => exact rfl); intro w S)
 | ((with_reducible refine' rd_ixLI ?S ?h ?i ?k); (case S => assumption); (case h => walk_at "has"); (case i => exact rfl))
 | ((with_reducible refine' rd_ixL ?S ?h ?i ?k); (case S => assumption); (case h => walk_at "has"); (case i => exact rfl); intro w S)
 | ((with_reducible refine' rd_mulB ?c ?k); (case c => walk_at "mul"))
 | ((with_reducible refine' rd_modL ?c ?k); (case c => first | decide | omega))
 | ((with_reducible refine' rd_modN ?c ?k); (case c => first | assumption | omega))
 | ((with_reducible refine' rd_fdivL ?c ?k); (case c => exact ⟨by decide, by decide⟩))
 | ((with_reducible refine' rd_fdivB ?c ?k); (case c => assumption))
 | ((with_reducible refine' rd_pow ?c ?k); (case c => exact ⟨by decide, by decide, by decide⟩))
 | with_reducible refine' rd_seq ?_ | with_reducible refine' rd_asg ?_ | with_reducible refine' rd_name ?_ | with_reducible refine' rd_nx ?_ | with_reducible refine' rd_rt ?_ | with_reducible refine' rd_ret ?_ | with_reducible refine' rd_rt0 ?_ | with_reducible refine' rd_nxL ?_ | with_reducible refine' rd_rtL ?_
 | with_reducible refine' rd_cons ?_ | with_reducible refine' rd_nil ?_ | with_reducible refine' rd_call ?_ | with_reducible refine' rd_cb ?_ | with_reducible refine' rd_tup ?_ | with_reducible refine' rd_lst ?_
 | ((with_reducible refine' rd_kTup ?S ?h ?l ?k); (case S => assumption); (case h => walk_at "hasall"); (case l => exact Nat.le_of_ble_eq_true rfl); intro p H' e S)
 | ((with_reducible refine' rd_kLst ?S ?h ?l ?k); (case S => assumption); (case h => walk_at "hasall"); (case l => exact Nat.le_of_ble_eq_true rfl); intro p H' e S)
 | with_reducible refine' rd_if ?_ | with_reducible refine' rd_test ?_ | with_reducible refine' rd_tB ?_ | with_reducible refine' rd_isbl ?_ | with_reducible refine' rd_eqI ?_ | with_reducible refine' rd_neI ?_
 | with_reducible refine' rd_not ?_ | with_reducible refine' rd_and ?_ | with_reducible refine' rd_or ?_ | with_reducible refine' rd_andV ?_ | with_reducible refine' rd_orV ?_ | with_reducible refine' rd_notV ?_ | with_reducible refine' rd_ifE ?_
 | with_reducible refine' rd_un ?_ | with_reducible refine' rd_rU ?_ | with_reducible refine' rd_drop ?_ | with_reducible refine' rd_next ?_ | with_reducible refine' rd_retN ?_
 | ((with_reducible refine' rd_lenT ?S ?h ?k); (case S => assumption); (case h => walk_at "has"))
 | ((with_reducible refine' rd_lenL ?S ?h ?k); (case S => assumption); (case h => walk_at "has"))
 | ((with_reducible refine' rd_lenC ?S ?h ?k); (case S => assumption); (case h => walk_at "mem"))
 | with_reducible refine' rd_abs ?_ | with_reducible refine' rd_min ?_ | with_reducible refine' rd_max ?_
 | with_reducible refine' rd_for ?_ | with_reducible refine' rd_comp ?_ | with_reducible refine' rd_iList ?_ | with_reducible refine' rd_iTup ?_ | with_reducible refine' rd_iR1 ?_ | with_reducible refine' rd_iR2 ?_ | with_reducible refine' rd_iEn ?_ | with_reducible refine' rd_iZi ?_
 | with_reducible refine' rd_gTup ?_ | with_reducible refine' rd_gCons ?_ | with_reducible refine' rd_gNil ?_
 | ((with_reducible refine' rd_kGT2 ?S ?h ?k); (case S => assumption); (case h => walk_at "has"); intro w1 w2 S)
 | ((with_reducible refine' rd_kGT3 ?S ?h ?k); (case S => assumption); (case h => walk_at "has"); intro w1 w2 w3 S)
 | with_reducible refine' rd_bm ?_ | with_reducible refine' rd_bm0 ?_
 | ((with_reducible refine' rd_kBM ?S ?h ?k); (case S => assumption); (case h => walk_at "mem"))
 | ((with_reducible refine' rd_kBM0 ?S ?h ?k); (case S => assumption); (case h => walk_at "mem"))
 | ((with_reducible refine' rd_listL ?S ?h ?k); (case S => assumption); (case h => walk_at "has"); intro p H' e S)
 | ((with_reducible refine' rd_listC ?S ?h ?k); (case S => assumption); (case h => walk_at "mem"); intro p H' e S)
 | ((with_reducible refine' rd_listT ?S ?h ?k); (case S => assumption); (case h => walk_at "has"); intro p H' e S)
 | ((with_reducible refine' rd_tupleL ?S ?h ?k); (case S => assumption); (case h => walk_at "has"); intro p H' e S)
 | ((with_reducible refine' rd_tupleC ?S ?h ?k); (case S => assumption); (case h => walk_at "mem"); intro p H' e S)
 | with_reducible refine' rd_par ?_ | with_reducible refine' rd_is2 ?_
 | ((with_reducible refine' rd_aug ?e ?k); (case e => exact rfl)) | with_reducible refine' rd_ipI ?_
 | with_reducible refine' iteT ?_ | with_reducible refine' iteF ?_ | with_reducible refine' iteNF ?_ | with_reducible refine' iteNT ?_
 | with_reducible refine' rd_nx0 ?_ | with_reducible refine' rd_ctL ?_ | with_reducible refine' rd_bkL ?_ | with_reducible refine' rd_ct ?_ | with_reducible refine' rd_bk ?_ | with_reducible refine' rd_eqB ?_ | with_reducible refine' rd_neB ?_)
local macro_rules | `(tactic| walk_at "sub") => `(tactic| first | exact List.Sublist.refl _ | exact List.nil_sublist _ | (refine List.Sublist.cons₂ _ ?_; walk_at "sub") | (refine List.Sublist.cons _ ?_; walk_at "sub"))
local macro_rules | `(tactic| walk_at "dats") => `(tactic| first | exact Dats.nil | ((refine' Dats.cons ?a ?b); (case a => walk_at "has"); (case b => walk_at "dats")))
local macro_rules | `(tactic| walk_at "walk") => `(tactic| repeat walk_at "rd")
local macro_rules | `(tactic| walk_at "szq") => `(tactic| first | assumption | exact SzQ.add (by walk_at "szq") (by walk_at "szq") | exact SzQ.sub (by walk_at "szq") (by walk_at "szq") | exact SzQ.mul (by walk_at "szq") (by walk_at "szq") | exact SzQ.div (by walk_at "szq") (by walk_at "szq"))
local macro_rules | `(tactic| walk_at "dom") => `(tactic| first | exact True.intro | assumption)
local macro_rules | `(tactic| walk_at "rd") => `(tactic| first
 | ((with_reducible refine' rd_q2 ?S ?h1 ?h2 ?s1 ?s2 ?l ?d ?k); (case S => assumption); (case h1 => walk_at "has"); (case h2 => walk_at "has"); (case s1 => walk_at "szq"); (case s2 => walk_at "szq"); (case l => decide); (case d => walk_at "dom"); intro r H' e S)
 | ((with_reducible refine' rd_before ?S ?h1 ?h2 ?s1 ?s2 ?l ?k); (case S => assumption); (case h1 => walk_at "has"); (case h2 => walk_at "has"); (case s1 => walk_at "szq"); (case s2 => walk_at "szq"); (case l => decide))
 | ((with_reducible refine' rd_cell ?S ?h ?k); (case S => assumption); (case h => omega))
 | ((with_reducible refine' rd_div2 ?h ?k); (case h => omega))
 | ((with_reducible refine' rd_isi ?h ?e ?k); (case h => assumption); (case e => first | exact kit_tt | exact kit_tl | exact kit_lt | exact kit_ll | exact kit_it | exact kit_il | exact kit_ib | exact kit_ii))
 | with_reducible refine' rd_sl ?_ | with_reducible refine' rd_noPart ?_ | with_reducible refine' rd_part ?_ | with_reducible refine' rd_kPart ?_
 | with_reducible refine' rd_iRv ?_
 | with_reducible refine' rd_true ?_ | with_reducible refine' rd_gsub ?_ | with_reducible refine' rd_mix ?_
 | ((with_reducible refine' rd_sumL ?S ?h ?k); (case S => assumption); (case h => walk_at "has"))
 | ((with_reducible refine' rd_sumC ?S ?h ?k); (case S => assumption); (case h => walk_at "mem")))
def spLaw (K : PySem.W.Frag) : Sp := fun vs H Q _ => ∃ (a : Addr) (ns : List Int), vs = [.ref a] ∧ SqL K H a (ns.map V.int) ∧ ns.length ≤ 63 ∧ Only H ∧ ∀ H', Q (.bl true) H'
theorem cal_mk {P : Program} {w : World} {K : PySem.W.Frag} {mg : Str → Option Value} {base : Heap} {f : Addr} {fd : FuncData} {k : Nat} {x : Str} {st : Stmt} {ps : List Str} {sp : Sp} (F : Fun K x x st f fd) (G : FnOk P w K mg base CX0 k f fd ps sp) (hm : mg x = some (.ref f)) (b : Binds K fd ps []) : Cal P w K mg base CX0 k x ps sp := ⟨f, fd, G, hm, F.kp, b⟩
section
variable {P : Program} {w : World} {K : PySem.W.Frag} {mg : Str → Option Value} {base : Heap} {f : Addr} {fd : FuncData}
local macro_rules | `(tactic| walk_at "rd") => `(tactic| first
 | ((with_reducible refine' rd_ixTS ?S ?h ?i ?k); (case S => assumption); (case h => walk_at "has"); (case i => exact rfl))
 | ((with_reducible refine' rd_strI ?z ?k); (case z => assumption)) | with_reducible refine' rd_rev ?_
 | ((with_reducible refine' rd_isi ?h ?e ?k ?nd); (case h => assumption); (case nd => exact rfl); (case e => first | exact kit_tt | exact kit_tl | exact kit_lt | exact kit_ll | exact kit_it | exact kit_il | exact kit_ib | exact kit_ii | exact kit_st | exact kit_sl | exact kit_sb | exact kit_si | exact kit_ss))
 | with_reducible refine' rd_jCons ?_ | with_reducible refine' rd_fmt ?_ | with_reducible refine' rd_fld ?_ | with_reducible refine' rd_methA ?_ | with_reducible refine' rd_make ?_ | with_reducible refine' rd_kBMs ?_ | with_reducible refine' rd_addSI ?_ | with_reducible refine' rd_eqS ?_ | with_reducible refine' rd_neS ?_
 | ((with_reducible refine' rd_kJ ?l ?k); (case l => first | assumption | omega | (simp only [str_len]; omega) | (simp only [str_len] at *; omega)))
 | ((with_reducible refine' rd_jNil ?l ?k); (case l => first | assumption | omega | (simp only [str_len]; omega) | (simp only [str_len] at *; omega)))
 | ((with_reducible refine' rd_kFmtS ?l ?k); (case l => first | assumption | omega | (simp only [str_len]; omega) | (simp only [str_len] at *; omega)))
 | ((with_reducible refine' rd_kFmtI ?l ?k); (case l => assumption))
 | ((with_reducible refine' rd_addS ?l ?k); (case l => first | assumption | omega | (simp only [str_len]; omega) | (simp only [str_len] at *; omega))))
def top (i : Nat) : Stmt := PySem.Challenge.pw_shortpurse_k23_where_a_text_fails.main.body.getD i (.Pass ⟨0, 0, 0, 0⟩)
theorem cal_mkX {P : Program} {w : World} {K : PySem.W.Frag} {mg : Str → Option Value} {base : Heap} {f : Addr} {fd : FuncData} {k : Nat} {x : Str} {st : Stmt} {ps : List Str} {sp : Sp} {CX : CXT} (F : Fun K x x st f fd) (G : FnOk P w K mg base CX k f fd ps sp) (hm : mg x = some (.ref f)) (b : Binds K fd ps []) : Cal P w K mg base CX k x ps sp := ⟨f, fd, G, hm, F.kp, b⟩
abbrev s_greatest_divisor : Stmt := top 13
theorem sc_greatest_divisor : FnScope ["one", "two", "rest"] ["one", "two"] (defScope s_greatest_divisor) := ⟨rfl, rfl, rfl, by decide +kernel, rfl, by decide +kernel, by decide +kernel⟩
abbrev s_lowest : Stmt := top 12
theorem sc_lowest : FnScope ["top", "bottom", "divisor"] ["top", "bottom"] (defScope s_lowest) := ⟨rfl, rfl, rfl, by decide +kernel, rfl, by decide +kernel, by decide +kernel⟩
def spGcd : Sp := fun vs H Q _ => ∃ a b : Int, vs = [.int a, .int b] ∧ 0 ≤ a ∧ 0 ≤ b ∧ Q (.int (Int.gcd a b : Nat)) H
theorem ok_gcd (F : Fun K "greatest_divisor" "greatest_divisor" s_greatest_divisor f fd) : FnOk P w K mg base CX0 1 f fd ["one", "two"] spGcd := by
 refine F.ok sc_greatest_divisor (fun vs H Q E h => ?_) (fun cdv A outer s H vs Q E hr h => ?_)
 ·obtain ⟨a, b, rfl, _⟩ := h
  rfl
 obtain ⟨a, b, rfl, ha, hb, q⟩ := h
 refine ⟨_, (pss_cons (ps_while PassesOwn.never (pt_cmpR (op_neA (units_of hr)) (pv 1) pe_int (nomark _)) (pss_cons (ps_set (i := 2) sc_greatest_divisor.nd rfl (by walk_at "o") (pe_op op_modN (pv 0) (pv 1))) (pss_cons (ps_set (i := 0) sc_greatest_divisor.nd rfl (by walk_at "o") (pv 1)) (pss_one (ps_set (i := 1) sc_greatest_divisor.nd rfl (by walk_at "o") (pv 2)))))) (pss_one (ps_ret (pv 0)))), rd_start ?_⟩
 refine while_h (fun m σ H2 => ∃ (x y : Int) (v : Option V), σ = [some (.int x), some (.int y), v] ∧ 0 ≤ x ∧ 0 ≤ y ∧ Int.gcd x y = Int.gcd a b ∧ H2 = H ∧ m = y.toNat) _ ⟨a, b, none, rfl, ha, hb, rfl, rfl, rfl⟩ ?_
 rintro m σ H2 ⟨x, y, v, rfl, hx, hy, hg, rfl, rfl⟩
 walk_at "walk"
 refine rd_wh (fun c => ?_) (fun c => ?_)
 ·have c : y ≠ 0 := by simpa using c
  walk_at "walk"
  have e : x.fmod y = x % y := Int.fmod_eq_emod_of_nonneg x hy
  have l1 := Int.emod_nonneg x c
  have l2 := Int.emod_lt_of_pos x (show 0 < y by omega)
  refine ⟨(x.fmod y).toNat, by rw [e]; omega, y, x.fmod y, _, rfl, hy, by rw [e]; exact l1, ?_, rfl, rfl⟩
  rw [e, gcd_step, hg]
 ·have c : y = 0 := by simpa using c
  subst c
  walk_at "walk"
  have e : x = ((Int.gcd a b : Nat) : Int) := by rw [← hg, Int.gcd_zero]; omega
  show Q (.int x) H2
  rw [e]
  exact q
theorem ok_lowest (B : Bl mg) (C_greatest_divisor : Cal P w K mg base CX0 1 "greatest_divisor" ["one", "two"] spGcd) (F : Fun K "lowest" "lowest" s_lowest f fd) : FnOk P w K mg base CX0 2 f fd ["top", "bottom"] spLowest := by
 refine F.ok sc_lowest (fun vs H Q E h => ?_) (fun cdv A outer s H vs Q E hr h => ?_)
 ·obtain ⟨G, a, _, h, _⟩ := h
  rw [← h.len]; rfl
 obtain ⟨G, ⟨a, b⟩, eG, hA, ⟨hb, sb⟩, k⟩ := h
 cases (isAll_ints (ns := [a, b]) hA)
 have S : Sta H G H [] [] := Sta.enter eG fun p hp => absurd hp List.not_mem_nil
 dsimp only at hb sb k
 refine ⟨_, (pss_cons (ps_set (i := 2) sc_lowest.nd rfl (by walk_at "o") (pe_cal C_greatest_divisor hr (by walk_at "l") pass0 rfl (pa_cons (pe_callB call_absA rfl B.abs bt_abs (pa_cons (pv 0) pa_nil)) (pa_cons (pe_callB call_absA rfl B.abs bt_abs (pa_cons (pv 1) pa_nil)) pa_nil)))) (pss_cons (ps_if (pt_cmpR op_lt (pv 1) pe_int (nomark _)) (pss_one (ps_set (i := 2) sc_lowest.nd rfl (by walk_at "o") (pe_un un_neg (pv 2)))) pss_nil) (pss_one (ps_ret (pe_tup (pa_cons (pe_op op_fdivB (pv 0) (pv 2)) (pa_cons (pe_op op_fdivB (pv 1) (pv 2)) pa_nil))))))), rd_start ?_⟩
 walk_at "walk"
 refine ⟨_, _, rfl, by omega, by omega, ?_⟩
 rw [show Int.gcd (a.natAbs : Int) (b.natAbs : Int) = Int.gcd a b by simp; rfl]
 have gp : 0 < Int.gcd a b := Int.gcd_pos_of_ne_zero_right a hb
 have gs : Sz 8999 (Int.gcd a b : Nat) := by
  refine Sz.le sb ?_
  have := Nat.le_of_dvd (by omega) (Int.gcd_dvd_natAbs_right a b)
  omega
 walk_at "walk"
 refine iteD (fun c => ?_) (fun c => ?_)
 ·have hc : CDv a (-((Int.gcd a b : Nat) : Int)) := ⟨by omega, gs.le (by omega)⟩
  walk_at "walk"
  refine ret_T (by assumption) k (.mem ?_)
  rw [show frD (Rat.divInt a b) = .tuple [.int (a.fdiv (-((Int.gcd a b : Nat) : Int))), .int (b.fdiv (-((Int.gcd a b : Nat) : Int)))] by unfold frD; rw [← (low_neg c).1, ← (low_neg c).2]]
  walk_at "mem"
 ·have hc : CDv a ((Int.gcd a b : Nat) : Int) := ⟨by omega, gs⟩
  walk_at "walk"
  refine ret_T (by assumption) k (.mem ?_)
  rw [show frD (Rat.divInt a b) = .tuple [.int (a.fdiv ((Int.gcd a b : Nat) : Int)), .int (b.fdiv ((Int.gcd a b : Nat) : Int))] by unfold frD; rw [← (low_pos (show 0 < b by omega)).1, ← (low_pos (show 0 < b by omega)).2]]
  walk_at "mem"
abbrev s_is_whole : Stmt := top 11
theorem sc_is_whole : FnScope ["number"] ["number"] (defScope s_is_whole) := ⟨rfl, rfl, rfl, by decide +kernel, rfl, by decide +kernel, by decide +kernel⟩
theorem ok_is_whole (B : Bl mg) (F : Fun K "is_whole" "is_whole" s_is_whole f fd) : FnOk P w K mg base CX0 1 f fd ["number"] spWhole := by
 refine F.ok sc_is_whole (fun vs H Q E h => ?_) (fun cdv A outer s H vs Q E hr h => ?_)
 ·obtain ⟨n, rfl, _⟩ := h
  rfl
 obtain ⟨n, rfl, q⟩ := h
 have S : Sta H H H [] [] := Sta.enter (Same.refl _) fun p hp => absurd hp List.not_mem_nil
 have hi : Is H (.int n) (.int n) := S.hp Has.int
 refine ⟨_, (pss_one (ps_ret (pe_and (pe_callB call_isi rfl B.isinstance bt_isinstance (pa_cons (pv 0) (pa_cons (pe_bltn (v := .ty "int") rfl B.int bt_int rfl) pa_nil))) (pe_one (pe_not (pe_callB call_isi rfl B.isinstance bt_isinstance (pa_cons (pv 0) (pa_cons (pe_bltn (v := .ty "bool") rfl B.bool bt_bool rfl) pa_nil)))))))), rd_start ?_⟩
 walk_at "walk"
 exact q
section
variable {fS fE CW : Addr}
abbrev s_Walk_sign : Stmt := inClass (top 29) 1
theorem sc_Walk_sign : FnScope ["self"] ["self"] (defScope s_Walk_sign) := ⟨rfl, rfl, rfl, by decide +kernel, rfl, by decide +kernel, by decide +kernel⟩
theorem ok_sign (W_ok : WOk K fS fE CW) (F : Fun K "sign" "Walk.sign" s_Walk_sign f fd) : FnOk P w K mg base CX0 1 f fd ["self"] (spSign CW) := by
 refine F.ok sc_Walk_sign (fun vs H Q E h => ?_) (fun cdv A outer s H vs Q E hr h => ?_)
 ·obtain ⟨_, _, _, rfl, _⟩ := h
  rfl
 obtain ⟨a, T, i, rfl, h, hT, q⟩ := h
 refine ⟨_, (pss_one (ps_ret (pe_slice sl_str (pe_fld (pv 0) rfl) (po_some (pe_fld (pv 0) rfl)) (po_some (pe_op op_addA (pe_fld (pv 0) rfl) pe_int))))), rd_start ?_⟩
 walk_at "walk"
 refine rd_kSigns h W_ok ?_
 walk_at "walk"
 refine rd_kAt h W_ok ?_
 walk_at "walk"
 refine rd_kAt h W_ok ?_
 walk_at "walk"
 exact ⟨T, rfl, Nat.le_trans hT (by decide), q⟩
abbrev s_fraction : Stmt := top 10
theorem sc_fraction : FnScope ["top", "bottom"] ["top", "bottom"] (defScope s_fraction) := ⟨rfl, rfl, rfl, by decide +kernel, rfl, by decide +kernel, by decide +kernel⟩
theorem ok_frac0 (C_is_whole : Cal P w K mg base CX0 1 "is_whole" ["number"] spWhole) (C_lowest : Cal P w K mg base CX0 2 "lowest" ["top", "bottom"] spLowest) (F : Fun K "fraction" "fraction" s_fraction f fd) : FnOk P w K mg base CX0 3 f fd ["top", "bottom"] spFrac0 := by
 refine F.ok sc_fraction (fun vs H Q E h => ?_) (fun cdv A outer s H vs Q E hr h => ?_)
 ·obtain ⟨G, a, _, h, _⟩ := h
  rw [← h.len]; rfl
 obtain ⟨G, ⟨a, b⟩, eG, hA, ⟨hb, sb⟩, k⟩ := h
 cases (isAll_ints (ns := [a, b]) hA)
 have S : Sta H G H [] [] := Sta.enter eG fun p hp => absurd hp List.not_mem_nil
 dsimp only at hb sb k
 refine ⟨_, (pss_cons (ps_if (PW.pt (pw_or (pt_not (pt_val (pe_cal C_is_whole hr (by walk_at "l") pass0 rfl (pa_cons (pv 0) pa_nil)))) (pw_or1 (pt_not (pt_val (pe_cal C_is_whole hr (by walk_at "l") pass0 rfl (pa_cons (pv 1) pa_nil))))))) (pss_one ps_never) pss_nil) (pss_cons (ps_if (pt_cmpR (op_eqA (units_of hr)) (pv 1) pe_int (nomark _)) (pss_one ps_never) pss_nil) (pss_one (ps_ret (pe_cal C_lowest hr (by walk_at "l") pass0 rfl (pa_cons (pv 0) (pa_cons (pv 1) pa_nil))))))), rd_start ?_⟩
 walk_at "walk"
 refine rd_whole ?_
 walk_at "walk"
 refine rd_whole ?_
 walk_at "walk"
 refine iteD (fun c => absurd c hb) (fun _ => ?_)
 walk_at "walk"
 refine rd_lowest (by assumption) hb sb fun r H' e S' => ?_
 walk_at "walk"
 exact ret_T S' k (by walk_at "m")
end
section
variable {c_NoRule c_PurseError : Addr}
abbrev s_NoRule___init__ : Stmt := inClass (top 6) 0
theorem sc_NoRule___init__ : FnScope ["self", "at"] ["self", "at"] (defScope s_NoRule___init__) := ⟨rfl, rfl, rfl, by decide +kernel, rfl, by decide +kernel, by decide +kernel⟩
theorem ok_init_NoRule (g_PurseError : mg "PurseError" = some (.ref c_PurseError)) (s_PurseError : PySem.W.specialIn K (.ref c_PurseError) "__getattribute__" = some (some (.builtin "type.__getattribute__"))) (r_PurseError : PySem.W.readsIn K c_PurseError (.type "type") = true)
 (f_PurseError_init : PySem.W.findCls K (.ref c_PurseError) (.type "type") "__init__" = some (.val (.builtin "ValueError.__init__"))) {fI : Addr} (MX : ExcMk K c_NoRule c_PurseError fI) (na : PySem.W.findIn K (.ref c_NoRule) "at" = some none) (F : Fun K "__init__" "NoRule.__init__" s_NoRule___init__ f fd) :
 FnOk P w K mg base CX0 1 f fd ["self", "at"] (spXI c_NoRule "at") := by
 refine F.ok sc_NoRule___init__ (fun vs H Q E h => ?_) (fun cdv A outer s H vs Q E hr h => ?_)
 ·obtain ⟨_, _, rfl, _⟩ := h
  rfl
 obtain ⟨e, n, rfl, hn, he, k⟩ := h
 have sz : Sz 210 (n : Int) := by unfold Sz; omega
 have l1 := itS_len sz
 have sz9 : Sz 1900 (n : Int) := sz.mono (by decide)
 have l2 : ("the text of no rule goes on so behind " : Str).length = 38 := by decide +kernel
 have l3 : (" signs" : Str).length = 6 := by decide +kernel
 have l4 : Str.empty.length = 0 := rfl
 refine ⟨_, (pss_cons (ps_expr (pe_ccallB (call_xinit (C := c_NoRule) (P := c_PurseError)) rfl g_PurseError s_PurseError r_PurseError f_PurseError_init rfl (pa_cons (pv 0) (pa_cons (pe_joined (pj_cons pe_str (pj_cons (pe_fmt (pv 1)) (pj_cons pe_str pj_nil)))) pa_nil)))) (pss_one (ps_fldX (C := c_NoRule) (P := c_PurseError) (pv 0) (pv 1) rfl))), rd_start ?_⟩
 walk_at "walk"
 refine ⟨e, _, rfl, he, MX.own, rd_nx ?_⟩
 exact ⟨_, rfl, _, rfl, e, rfl, he, MX.own, MX.sa, na, MX.obj, fun dx hd ne => k dx _ rfl hd ne⟩
end
section
variable {fS fE CW c_NoRule c_PurseError fN : Addr} {fdN : FuncData}
abbrev s_Walk_expect : Stmt := inClass (top 29) 2
theorem sc_Walk_expect : FnScope ["self", "word", "wanted"] ["self", "word"] (defScope s_Walk_expect) := ⟨rfl, rfl, rfl, by decide +kernel, rfl, by decide +kernel, by decide +kernel⟩
theorem ok_expX (MX_NoRule : ExcMk K c_NoRule c_PurseError fN) (F_NoRule__init : FnOk P w K mg base CX0 1 fN fdN ["self", "at"] (spXI c_NoRule "at")) (b_NoRule__init : Binds K fdN ["self", "at"] []) (g_NoRule : mg "NoRule" = some (.ref c_NoRule)) (W_ok : WOk K fS fE CW) {fdS : FuncData} (F_Walk_sign : FnOk P w K mg base CX0 1 fS fdS ["self"] (spSign CW)) (b_Walk_sign : Binds K fdS ["self"] []) (F : Fun K "expect" "Walk.expect" s_Walk_expect f fd) : FnOk P w K mg base (CX2 P w) 3 f fd ["self", "word"] (spExpX CW c_NoRule) := by
 refine F.ok2 sc_Walk_expect (fun vs H Q E h => ?_) (fun cdv A outer s H vs Q E hr h => ?_)
 ·obtain ⟨_, _, _, _, rfl, _⟩ := h
  rfl
 obtain ⟨a, T, wd, i, rfl, h, hT, hw, hi, k, kx⟩ := h
 refine ⟨_, (pss_one (ps_for PassesOwn.leaving rfl (pi_str (pv 1)) (pg_name (i := 2) sc_Walk_expect.nd rfl (by walk_at "o")) (pss_cons (ps_if (pt_cmpR (op_neA (units_of hr)) (pe_methA (pv 0) (F_Walk_sign.mono (by walk_at "l")) hr b_Walk_sign pass0) (pv 2) (nomark _)) (pss_one (ps_raiseI MX_NoRule (F_NoRule__init.mono (by walk_at "l")) hr b_NoRule__init rfl g_NoRule rfl rfl rfl rfl (fun _ _ h => h) (pa_cons (pe_fld (pv 0) rfl) pa_nil))) pss_nil) (pss_one (ps_fldaug (pv 0) pe_int in_add))))), rd_start ?_⟩
 walk_at "walk"
 refine rd_iStr ?_
 walk_at "walk"
 refine rd_kIS hw ?_
 refine for_str (fun n σ H2 => ∃ x, σ = [some (.ref a), some (.str wd), x] ∧ Ch a H H2 ∧ At CW H2 a T (i + n) ∧ ∀ m, m < n → ∀ c, wd.cps[m]? = some c → sgn T (i + m) = ⟨#[c]⟩) ⟨none, rfl, Ch.refl, h, fun m hm => absurd hm (Nat.not_lt_zero _)⟩ ?_ ?_
 ·rintro n c σ H2 hc ⟨x, rfl, ch, h2, pre⟩
  walk_at "walk"
  refine rd_kWS h2 W_ok ?_
  refine rd_sign h2 hT ?_
  by_cases hs : sgn T (i + n) = ⟨#[c]⟩
  ·rw [hs]
   walk_at "walk"
   refine iteNS rfl ?_
   walk_at "walk"
   refine rd_atUp rfl h2 W_ok fun H3 ch3 h3 => ?_
   walk_at "walk"
   refine ⟨_, rfl, ch.trans ch3, h3, fun m hm c' hc' => ?_⟩
   rcases Nat.lt_succ_iff_lt_or_eq.mp hm with z | z
   ·exact pre m z c' hc'
   ·subst z
    rw [hc] at hc'
    cases hc'
    exact hs
  ·walk_at "walk"
   rw [decide_eq_false hs]
   refine (if_pos rfl).mpr ?_
   refine rd_raiseW rfl h2 W_ok ?_ (kx (i + n) ⟨n, rfl, pre, c, hc, hs⟩ H2 ch)
   have := (Array.getElem?_eq_some_iff.mp hc).1
   have : n < wd.length := this
   omega
 ·rintro σ H2 ⟨x, rfl, ch, h2, pre⟩
  exact k (fun m c hc => pre m (by exact (Array.getElem?_eq_some_iff.mp hc).1) c hc) H2 ch h2
abbrev s_read_number : Stmt := top 35
theorem sc_read_number : FnScope ["walk", "number"] ["walk"] (defScope s_read_number) := ⟨rfl, rfl, rfl, by decide +kernel, rfl, by decide +kernel, by decide +kernel⟩
theorem ok_numX (MX_NoRule : ExcMk K c_NoRule c_PurseError fN) (F_NoRule__init : FnOk P w K mg base CX0 1 fN fdN ["self", "at"] (spXI c_NoRule "at")) (b_NoRule__init : Binds K fdN ["self", "at"] []) (g_NoRule : mg "NoRule" = some (.ref c_NoRule)) (W_ok : WOk K fS fE CW) {fdS : FuncData} {c_FIGURES : Addr} (g_FIGURES : mg "FIGURES" = some (.ref c_FIGURES)) (fk : Fg K c_FIGURES) (F_Walk_sign : FnOk P w K mg base CX0 1 fS fdS ["self"] (spSign CW)) (b_Walk_sign : Binds K fdS ["self"] []) (F : Fun K "read_number" "read_number" s_read_number f fd) : FnOk P w K mg base (CX2 P w) 3 f fd ["walk"] (spNumX CW c_NoRule) := by
 refine F.ok2 sc_read_number (fun vs H Q E h => ?_) (fun cdv A outer s H vs Q E hr h => ?_)
 ·obtain ⟨_, _, _, rfl, _⟩ := h
  rfl
 obtain ⟨a, T, i, rfl, h, hT, hi, kx, k⟩ := h
 refine ⟨_, (pss_cons (ps_if (pt_cmpR op_notIn_seq (pe_methA (pv 0) (F_Walk_sign.mono (by walk_at "l")) hr b_Walk_sign pass0) (pe_slice sl_tup (pe_glob (v := .ref c_FIGURES) rfl g_FIGURES rfl) (po_some pe_int) po_none) rfl) (pss_one (ps_raiseI MX_NoRule (F_NoRule__init.mono (by walk_at "l")) hr b_NoRule__init rfl g_NoRule rfl rfl rfl rfl (fun _ _ h => h) (pa_cons (pe_fld (pv 0) rfl) pa_nil))) pss_nil) (pss_cons (ps_set (i := 1) sc_read_number.nd rfl (by walk_at "o") pe_int) (pss_cons (ps_while PassesOwn.leaving (pt_cmpR op_in_seq (pe_methA (pv 0) (F_Walk_sign.mono (by walk_at "l")) hr b_Walk_sign pass0) (pe_glob (v := .ref c_FIGURES) rfl g_FIGURES rfl) rfl) (pss_cons (ps_set (i := 1) sc_read_number.nd rfl (by walk_at "o") (pe_op op_addA (pe_op op_mulB (pv 1) pe_int) (pe_bm PySem.F.plainAttrs_tuple PySem.F.slot_tuple_index PySem.F.type_tuple_index mt_indexT (pe_glob (v := .ref c_FIGURES) rfl g_FIGURES rfl) (pa_cons (pe_methA (pv 0) (F_Walk_sign.mono (by walk_at "l")) hr b_Walk_sign pass0) pa_nil)))) (pss_one (ps_fldaug (pv 0) pe_int in_add)))) (pss_one (ps_ret (pv 1)))))), rd_start ?_⟩
 walk_at "walk"
 refine rd_kWS h W_ok ?_
 refine rd_sign h hT ?_
 walk_at "walk"
 refine ⟨c_FIGURES, figs.map V.str, rfl, fk.sq, by decide +kernel, fun p hp => ?_⟩
 have ec : cutV (figs.map V.str) (some 1) none = (figs.drop 1).map V.str := by decide +kernel
 rw [ec]
 have hA := h.same (Same.new hp (.tup ((figs.drop 1).map V.str)))
 refine ⟨p, (figs.drop 1).map V.str, rfl, .inr (SqT.of upd_same), rfl, by decide +kernel, ?_⟩
 rw [inV_str]
 by_cases hin : sgn T i ∈ figs.drop 1
 case neg =>
  rw [decide_eq_false hin]
  walk_at "walk"
  refine (if_pos (by rfl)).mpr ?_
  exact rd_raiseW rfl hA W_ok hi (kx hin _ (Same.kp (Same.new hp _)))
 obtain ⟨ds, hf⟩ := figs_ex hin
 rw [decide_eq_true hin]
 walk_at "walk"
 refine while_h (fun m σ H2 => ∃ n : Nat, σ = [some (.ref a), some (.int (valD (ds.take n)))] ∧ n ≤ ds.length ∧ Kp a H H2 ∧ At CW H2 a T (i + n) ∧ m = ds.length - n) _ ⟨0, rfl, Nat.zero_le _, Same.kp (Same.new hp _), hA, rfl⟩ ?_
 rintro m σ H2 ⟨n, rfl, hn, kp, h2, rfl⟩
 walk_at "walk"
 refine rd_kWS h2 W_ok ?_
 refine rd_sign h2 hT ?_
 walk_at "walk"
 refine ⟨c_FIGURES, figs.map V.str, rfl, .inr fk.sq, rfl, by decide +kernel, ?_⟩
 rw [if_neg (by decide), inV_str]
 walk_at "walk"
 refine rd_wh (fun c => ?_) (fun c => ?_)
 ·have c : sgn T (i + n) ∈ figs := of_decide_eq_true c
  have hlt : n < ds.length := by
   rcases Nat.lt_or_eq_of_le hn with hlt | e
   ·exact hlt
   ·rw [e] at c
    exact absurd c hf.stop
  have ed := List.getElem?_eq_getElem hlt
  have hd := hf.at_ n _ ed
  walk_at "walk"
  refine ⟨fk.ty, ?_⟩
  walk_at "walk"
  refine rd_kWS h2 W_ok ?_
  refine rd_sign h2 hT ?_
  walk_at "walk"
  rw [hd.2]
  refine ⟨c_FIGURES, figs, fg ds[n], ds[n], rfl, rfl, fk.sq, ?_, fun q hq => ?_, ?_⟩
  ·rw [figs_eq, List.getElem?_map, List.getElem?_range hd.1]; rfl
  ·rw [figs_eq, List.getElem?_map, List.getElem?_range (by omega)]
   intro e
   have := fg_inj (Option.some.inj e)
   omega
  walk_at "walk"
  refine rd_atUp rfl h2 W_ok fun H3 ch3 h3 => ?_
  walk_at "walk"
  refine ⟨ds.length - (n + 1), by omega, n + 1, ?_, hlt, kp.trans ch3.kp, h3, rfl⟩
  rw [List.take_add_one, ed, show (some ds[n]).toList = [ds[n]] from rfl, valD_snoc]
  rfl
 ·have c : ¬ sgn T (i + n) ∈ figs := of_decide_eq_false c
  have e : n = ds.length := by
   rcases Nat.lt_or_eq_of_le hn with hlt | e
   ·exfalso
    have hd := hf.at_ n _ (List.getElem?_eq_getElem hlt)
    refine c ?_
    rw [hd.2, figs_eq]
    exact List.mem_map.mpr ⟨_, List.mem_range.mpr hd.1, rfl⟩
   ·exact e
  subst e
  rw [List.take_length]
  walk_at "walk"
  exact k ds hf H2 kp h2
abbrev s_read_word : Stmt := top 32
theorem sc_read_word : FnScope ["walk", "word"] ["walk"] (defScope s_read_word) := ⟨rfl, rfl, rfl, by decide +kernel, rfl, by decide +kernel, by decide +kernel⟩
theorem ok_wordX (MX_NoRule : ExcMk K c_NoRule c_PurseError fN) (F_NoRule__init : FnOk P w K mg base CX0 1 fN fdN ["self", "at"] (spXI c_NoRule "at")) (b_NoRule__init : Binds K fdN ["self", "at"] []) (g_NoRule : mg "NoRule" = some (.ref c_NoRule)) (W_ok : WOk K fS fE CW) {fdS fdE : FuncData} {c_WORDS : Addr} (g_WORDS : mg "WORDS" = some (.ref c_WORDS)) (wk : Wd K c_WORDS) (F_Walk_sign : FnOk P w K mg base CX0 1 fS fdS ["self"] (spSign CW)) (b_Walk_sign : Binds K fdS ["self"] [])
 (F_Walk_expect : FnOk P w K mg base (CX2 P w) 3 fE fdE ["self", "word"] (spExpX CW c_NoRule)) (b_Walk_expect : Binds K fdE ["self", "word"] []) (F : Fun K "read_word" "read_word" s_read_word f fd) : FnOk P w K mg base (CX2 P w) 4 f fd ["walk"] (spWordX CW c_NoRule) := by
 refine F.ok2 sc_read_word (fun vs H Q E h => ?_) (fun cdv A outer s H vs Q E hr h => ?_)
 ·obtain ⟨_, _, _, rfl, _⟩ := h
  rfl
 obtain ⟨a, T, i, rfl, h, hT, hi, kx, k⟩ := h
 refine ⟨_, (pss_cons (ps_for PassesOwn.leaving rfl (pi_tup (pe_glob (v := .ref c_WORDS) rfl g_WORDS rfl)) (pg_name (i := 1) sc_read_word.nd rfl (by walk_at "o")) (pss_one (ps_if (pt_cmpR (op_eqA (units_of hr)) (pe_methA (pv 0) (F_Walk_sign.mono (by walk_at "l")) hr b_Walk_sign pass0) (pe_ix ix_seq (pv 1) pe_int (fun _ _ => rfl)) (nomark _)) (pss_cons (ps_expr (pe_meth (pv 0) W_ok.cl W_ok.me (F_Walk_expect.mono (by walk_at "l")) hr b_Walk_expect .nil (pass2 rfl rfl rfl (fun _ _ h => h)) (pa_cons (pv 1) pa_nil))) (pss_one (ps_ret (pv 1)))) pss_nil))) (pss_one (ps_raiseI MX_NoRule (F_NoRule__init.mono (by walk_at "l")) hr b_NoRule__init rfl g_NoRule rfl rfl rfl rfl (fun _ _ h => h) (pa_cons (pe_fld (pv 0) rfl) pa_nil)))), rd_start ?_⟩
 walk_at "walk"
 refine ⟨c_WORDS, rfl, ⟨_, wk.sq⟩, ?_⟩
 refine for_texts (fun _ => wk.sq) (fun m σ H2 => ∃ x, σ = [some (.ref a), x] ∧ H2 = H ∧ ∀ (m' : Nat) (wd : Str) (c : Nat), m' < m → wordsL[m']? = some wd → wd.cps[0]? = some c → sgn T i ≠ ⟨#[c]⟩) ⟨none, rfl, rfl, fun _ _ _ z => absurd z (Nat.not_lt_zero _)⟩ ?_ ?_
 ·rintro m z σ H2 hz ⟨x, rfl, rfl, pre⟩
  obtain ⟨c, d, hc, hd, hcd, hl, ha⟩ := words_first m m z z hz hz
  have hc' : z.cps[0]? = some c := by rw [← Array.getElem?_toList]; exact hc
  walk_at "walk"
  refine rd_kWS h W_ok ?_
  refine rd_sign h hT ?_
  walk_at "walk"
  refine rd_ixStr hl hc ?_
  walk_at "walk"
  refine iteD (fun e => ?_) (fun e => ?_)
  ·have kk := k m z c hz hc' e
   have hz7 := words_len m z hz
   walk_at "walk"
   refine rd_meth ?_
   walk_at "walk"
   refine rd_kMe h (by rfl) ?_
   walk_at "walk"
   refine rd_expX h hT ha (by omega) (fun hh H3 c3 h3 => ?_) kk.2
   walk_at "walk"
   exact kk.1 hh H3 c3 h3
  ·walk_at "walk"
   refine ⟨_, rfl, rfl, fun m' wd c2 hm hw hc2 => ?_⟩
   rcases Nat.lt_succ_iff_lt_or_eq.mp hm with h1 | h1
   ·exact pre m' wd c2 h1 hw hc2
   ·subst h1
    rw [hz] at hw
    cases hw
    rw [hc'] at hc2
    cases hc2
    exact e
 ·rintro σ H2 ⟨x, rfl, rfl, pre⟩
  walk_at "walk"
  refine rd_raiseW rfl h W_ok (by omega) (kx (fun n wd c hw hc => ?_) H2 Ch.refl)
  exact pre n wd c (List.getElem?_eq_some_iff.mp hw).1 hw hc
end
section
variable {fS fE CW c_NoRule c_PurseError fN : Addr} {fdN : FuncData}
abbrev s_read_portion : Stmt := top 34
theorem sc_read_portion : FnScope ["walk", "top", "bottom"] ["walk"] (defScope s_read_portion) := ⟨rfl, rfl, rfl, by decide +kernel, rfl, by decide +kernel, by decide +kernel⟩
theorem ok_portX (MX_NoRule : ExcMk K c_NoRule c_PurseError fN) (F_NoRule__init : FnOk P w K mg base CX0 1 fN fdN ["self", "at"] (spXI c_NoRule "at")) (b_NoRule__init : Binds K fdN ["self", "at"] []) (g_NoRule : mg "NoRule" = some (.ref c_NoRule)) (W_ok : WOk K fS fE CW) {fdE : FuncData}
 (F_Walk_expect : FnOk P w K mg base (CX2 P w) 3 fE fdE ["self", "word"] (spExpX CW c_NoRule)) (b_Walk_expect : Binds K fdE ["self", "word"] []) (C_read_number : Cal P w K mg base (CX2 P w) 3 "read_number" ["walk"] (spNumX CW c_NoRule)) (C_fraction : Cal P w K mg base CX0 3 "fraction" ["top", "bottom"] spFrac0) (F : Fun K "read_portion" "read_portion" s_read_portion f fd) : FnOk P w K mg base (CX2 P w) 4 f fd ["walk"] (spPortX CW c_NoRule) := by
 refine F.ok2 sc_read_portion (fun vs H Q E h => ?_) (fun cdv A outer s H vs Q E hr h => ?_)
 ·obtain ⟨_, _, _, _, rfl, _⟩ := h
  rfl
 obtain ⟨G, a, T, i, rfl, eG, ga, h, hT, hi, _, k⟩ := h
 have hT' : T.length ≤ 100000 := by omega
 have S : Sw a H G H [] := Sw.enter eG ga h fun p hp => absurd hp List.not_mem_nil
 refine ⟨_, (pss_cons (ps_set (i := 1) sc_read_portion.nd rfl (by walk_at "o") (pe_cal C_read_number hr (by walk_at "l") (pass2 rfl rfl rfl (fun _ _ h => h)) rfl (pa_cons (pv 0) pa_nil))) (pss_cons (ps_expr (pe_meth (pv 0) W_ok.cl W_ok.me (F_Walk_expect.mono (by walk_at "l")) hr b_Walk_expect .nil (pass2 rfl rfl rfl (fun _ _ h => h)) (pa_cons pe_str pa_nil))) (pss_cons (ps_set (i := 2) sc_read_portion.nd rfl (by walk_at "o") (pe_cal C_read_number hr (by walk_at "l") (pass2 rfl rfl rfl (fun _ _ h => h)) rfl (pa_cons (pv 0) pa_nil))) (pss_cons (ps_if (PW.pt (pw_or (pt_cmpR op_le (pv 2) (pv 1) (nomark _)) (pw_or1 (pt_cmpR (op_neA (units_of hr)) (pe_cal C_fraction hr (by walk_at "l") pass0 rfl (pa_cons (pv 1) (pa_cons (pv 2) pa_nil))) (pe_tup (pa_cons (pv 1) (pa_cons (pv 2) pa_nil))) (nomark _))))) (pss_one (ps_raiseI MX_NoRule (F_NoRule__init.mono (by walk_at "l")) hr b_NoRule__init rfl g_NoRule rfl rfl rfl rfl (fun _ _ h => h) (pa_cons (pe_fld (pv 0) rfl) pa_nil))) pss_nil) (pss_one (ps_ret (pe_tup (pa_cons (pv 1) (pa_cons (pv 2) pa_nil))))))))), rd_start ?_⟩
 unfold portF at k
 walk_at "walk"
 refine rd_numX h hT' (by omega) (fun nf H' kp => ?_) (fun ds hf H1 k1 h1 => ?_)
 ·rw [if_pos nf] at k
  exact k H' kp
 rw [if_neg (fun z => z hf.first_in), hf.at] at k
 have le1 := hf.le
 have S1 := S.kp k1 h1
 walk_at "walk"
 refine rd_meth ?_
 walk_at "walk"
 refine rd_kMe h1 (by rfl) ?_
 walk_at "walk"
 refine rd_expX h1 hT' (by decide +kernel) (by rw [show ("/" : Str).length = 1 by decide +kernel]; omega) (fun hh H2 c2 h2 => ?_) (fun j st H' ch => ?_)
 case refine_2 =>
  rw [exp_no st] at k
  exact k H' (k1.trans ch.kp)
 rw [exp_ok hh] at k
 dsimp only at k
 rw [show ("/" : Str).length = 1 by decide +kernel] at h2 k
 have S2 := S1.ch c2 h2
 walk_at "walk"
 refine rd_numX h2 hT' (by omega) (fun nf H' kp => ?_) (fun es hf2 H3 k3 h3 => ?_)
 ·rw [if_pos nf] at k
  exact k H' ((k1.trans c2.kp).trans kp)
 rw [if_neg (fun z => z hf2.first_in), hf2.at] at k
 have S3 := S2.kp k3 h3
 have le2 := hf2.le
 walk_at "walk"
 have dn : 0 ≤ valD ds := (valD_lt _ ds rfl hf.all).1
 refine iteD (fun c => ?_) (fun c => ?_)
 ·refine (if_pos rfl).mpr ?_
  rw [if_pos (.inl c)] at k
  exact rd_raiseW rfl h3 W_ok (by omega) (k _ ((k1.trans c2.kp).trans k3))
 have bp : 0 < valD es := by omega
 walk_at "walk"
 refine rd_spTW (α := Int × Int) (valD ds, valD es) S3 (HasAll.cons Has.int (HasAll.cons Has.int HasAll.nil)) ⟨by show valD es ≠ 0; omega, hf2.sz hT⟩ fun v4 H4 e4 S4 => ?_
 walk_at "walk"
 refine rd_kTupW S4 (by walk_at "hasall") (Nat.le_of_ble_eq_true rfl) fun p5 H5 e5 S5 => ?_
 refine rd_neD (x := frD (Rat.divInt (valD ds) (valD es))) (y := .tuple [.int (valD ds), .int (valD es)]) (S5.hp (by walk_at "m")) (S5.hp (by walk_at "m")) (shaped_frD _) (shaped_two _ _) ?_
 rw [eqv_low bp]
 have h5 := (h3.same e4).same e5
 by_cases g : Int.gcd (valD ds) (valD es) = 1
 ·rw [decide_eq_true g]
  rw [if_neg (fun z => z.elim c (fun y => y g))] at k
  walk_at "walk"
  refine rd_kTupW S5 (by walk_at "hasall") (Nat.le_of_ble_eq_true rfl) fun p6 H6 e6 S6 => ?_
  walk_at "walk"
  exact ret_W S6 k (h5.same e6) (by walk_at "m")
 ·rw [decide_eq_false g]
  rw [if_pos (.inr g)] at k
  walk_at "walk"
  exact rd_raiseW rfl h5 W_ok (by omega) (k _ ((((k1.trans c2.kp).trans k3).trans (Same.kp e4)).trans (Same.kp e5)))
end
section
variable {fS fT Ru : Addr} {A : RAd}
abbrev s_Rule___init__ : Stmt := inClass (top 15) 0
theorem sc_Rule___init__ : FnScope ["self", "form"] ["self", "form"] (defScope s_Rule___init__) := ⟨rfl, rfl, rfl, by decide +kernel, rfl, by decide +kernel, by decide +kernel⟩
theorem ok_rinit (F : Fun K "__init__" "Rule.__init__" s_Rule___init__ f fd) : FnOk P w K mg base CX0 1 f fd ["self", "form"] (spRInit K fS fT Ru) := by
 refine F.ok sc_Rule___init__ (fun vs H Q E h => ?_) (fun cdv A outer s H vs Q E hr h => ?_)
 ·obtain ⟨C, ok, G, d, x, dx, us, rfl, _, _, _, hA, _⟩ := h
  rw [List.length_cons, ← hA.len]; rfl
 obtain ⟨C, ok, G, d, x, dx, us, rfl, eG, gx, hx, hA, k⟩ := h
 obtain ⟨v, rfl, al⟩ := isAll1 hA
 refine ⟨_, (pss_one (ps_fld (pv 0) (pv 1) rfl)), rd_start ?_⟩
 refine ⟨v, rfl, .ref x, rfl, x, C, dx, [], rfl, hx, ok.cl, ok.na, by decide, ?_⟩
 refine k _ G v (fun p o hp ho => by rw [upd_ne hp]; exact ho) (Same.refl _) (fun p o hp => ?_) (fun _ _ => rfl) ?_ (al _ (List.mem_singleton.mpr rfl))
 ·rw [upd_ne (ne_of_none hp gx)]; exact eG p o hp
 ·rw [upd_same]; rfl
abbrev s_Rule_shape : Stmt := inClass (top 15) 1
theorem sc_Rule_shape : FnScope ["self"] ["self"] (defScope s_Rule_shape) := ⟨rfl, rfl, rfl, by decide +kernel, rfl, by decide +kernel, by decide +kernel⟩
theorem ok_shape (okA : ∀ r : Rl, ROk K fS fT Ru (A.cls r)) (F : Fun K "shape" "Rule.shape" s_Rule_shape f fd) : FnOk P w K mg base CX0 1 f fd ["self"] (spShape A) := by
 refine F.ok sc_Rule_shape (fun vs H Q E h => ?_) (fun cdv A' outer s H vs Q E hr h => ?_)
 ·obtain ⟨G, r, _, h, _⟩ := h
  rw [← h.len]; rfl
 obtain ⟨G, r, eG, hA, _, k⟩ := h
 obtain ⟨v, rfl, al⟩ := isAll1 hA
 have S : Sta H G H [] _ := Sta.enter eG al
 refine ⟨_, (pss_one (ps_ret (pe_fld (pv 0) rfl))), rd_start ?_⟩
 refine rd_ret (rd_fld ?_)
 walk_at "walk"
 refine rd_kFld S (by walk_at "m") (okA r) fun w S1 => ?_
 exact ret_T S1 k (by walk_at "m")
abbrev s_Shares___init__ : Stmt := inClass (top 16) 0
theorem sc_Shares___init__ : FnScope ["self"] ["self"] (defScope s_Shares___init__) := ⟨rfl, rfl, rfl, by decide +kernel, rfl, by decide +kernel, by decide +kernel⟩
theorem ok_init_Shares (g_Rule : mg "Rule" = some (.ref Ru)) (s_Rule : PySem.W.specialIn K (.ref Ru) "__getattribute__" = some (some (.builtin "type.__getattribute__"))) (r_Rule : PySem.W.readsIn K Ru (.type "type") = true) {fI : Addr} {fdI : FuncData} (f_Rule_init : PySem.W.findCls K (.ref Ru) (.type "type") "__init__" = some (.val (.ref fI))) (F_Rule_init : FnOk P w K mg base CX0 1 fI fdI ["self", "form"] (spRInit K fS fT Ru)) (k_Rule_init : PySem.W.keepIn K (.ref fI) = true) (b_Rule_init : Binds K fdI ["self", "form"] []) (ok : ROk K fS fT Ru (A.cls .shares)) (F : Fun K "__init__" "Shares.__init__" s_Shares___init__ f fd) : FnOk P w K mg base CX0 2 f fd ["self"] (spInit (A.cls .shares) (α := Unit) (fun _ => []) (fun _ => Rl.shares.shape)) := by
 refine F.ok sc_Shares___init__ (fun vs H Q E h => ?_) (fun cdv A outer s H vs Q E hr h => ?_)
 ·obtain ⟨G, d, x, dx, us, rfl, _, _, _, hA, _⟩ := h
  rw [List.length_cons, ← hA.len]; rfl
 obtain ⟨G, d, x, dx, us, rfl, eG, gx, hx, hA, k⟩ := h
 rw [IsAll] at hA
 subst hA
 have S : Sta H G H [] [] := Sta.enter eG fun p hp => absurd hp List.not_mem_nil
 refine ⟨_, (pss_one (ps_expr (pe_ccall rfl g_Rule s_Rule r_Rule f_Rule_init (F_Rule_init.mono (by walk_at "l")) hr k_Rule_init b_Rule_init pass0 (pa_cons (pv 0) (pa_cons (pe_tup (pa_cons pe_str pa_nil)) pa_nil))))), rd_start ?_⟩
 walk_at "walk"
 refine rd_rinit (d := Rl.shares.shape) (by assumption) gx hx ok (by walk_at "m") fun H' G' w h1 h2 h3 h4 h5 h6 => ?_
 exact k H' G' w h1 h2 h3 h4 h5 h6
abbrev s_Evenly___init__ : Stmt := inClass (top 17) 0
theorem sc_Evenly___init__ : FnScope ["self"] ["self"] (defScope s_Evenly___init__) := ⟨rfl, rfl, rfl, by decide +kernel, rfl, by decide +kernel, by decide +kernel⟩
theorem ok_init_Evenly (g_Rule : mg "Rule" = some (.ref Ru)) (s_Rule : PySem.W.specialIn K (.ref Ru) "__getattribute__" = some (some (.builtin "type.__getattribute__"))) (r_Rule : PySem.W.readsIn K Ru (.type "type") = true) {fI : Addr} {fdI : FuncData} (f_Rule_init : PySem.W.findCls K (.ref Ru) (.type "type") "__init__" = some (.val (.ref fI))) (F_Rule_init : FnOk P w K mg base CX0 1 fI fdI ["self", "form"] (spRInit K fS fT Ru)) (k_Rule_init : PySem.W.keepIn K (.ref fI) = true) (b_Rule_init : Binds K fdI ["self", "form"] []) (ok : ROk K fS fT Ru (A.cls .evenly)) (F : Fun K "__init__" "Evenly.__init__" s_Evenly___init__ f fd) : FnOk P w K mg base CX0 2 f fd ["self"] (spInit (A.cls .evenly) (α := Unit) (fun _ => []) (fun _ => Rl.evenly.shape)) := by
 refine F.ok sc_Evenly___init__ (fun vs H Q E h => ?_) (fun cdv A outer s H vs Q E hr h => ?_)
 ·obtain ⟨G, d, x, dx, us, rfl, _, _, _, hA, _⟩ := h
  rw [List.length_cons, ← hA.len]; rfl
 obtain ⟨G, d, x, dx, us, rfl, eG, gx, hx, hA, k⟩ := h
 rw [IsAll] at hA
 subst hA
 have S : Sta H G H [] [] := Sta.enter eG fun p hp => absurd hp List.not_mem_nil
 refine ⟨_, (pss_one (ps_expr (pe_ccall rfl g_Rule s_Rule r_Rule f_Rule_init (F_Rule_init.mono (by walk_at "l")) hr k_Rule_init b_Rule_init pass0 (pa_cons (pv 0) (pa_cons (pe_tup (pa_cons pe_str pa_nil)) pa_nil))))), rd_start ?_⟩
 walk_at "walk"
 refine rd_rinit (d := Rl.evenly.shape) (by assumption) gx hx ok (by walk_at "m") fun H' G' w h1 h2 h3 h4 h5 h6 => ?_
 exact k H' G' w h1 h2 h3 h4 h5 h6
abbrev s_Losses___init__ : Stmt := inClass (top 18) 0
theorem sc_Losses___init__ : FnScope ["self"] ["self"] (defScope s_Losses___init__) := ⟨rfl, rfl, rfl, by decide +kernel, rfl, by decide +kernel, by decide +kernel⟩
theorem ok_init_Losses (g_Rule : mg "Rule" = some (.ref Ru)) (s_Rule : PySem.W.specialIn K (.ref Ru) "__getattribute__" = some (some (.builtin "type.__getattribute__"))) (r_Rule : PySem.W.readsIn K Ru (.type "type") = true) {fI : Addr} {fdI : FuncData} (f_Rule_init : PySem.W.findCls K (.ref Ru) (.type "type") "__init__" = some (.val (.ref fI))) (F_Rule_init : FnOk P w K mg base CX0 1 fI fdI ["self", "form"] (spRInit K fS fT Ru)) (k_Rule_init : PySem.W.keepIn K (.ref fI) = true) (b_Rule_init : Binds K fdI ["self", "form"] []) (ok : ROk K fS fT Ru (A.cls .losses)) (F : Fun K "__init__" "Losses.__init__" s_Losses___init__ f fd) : FnOk P w K mg base CX0 2 f fd ["self"] (spInit (A.cls .losses) (α := Unit) (fun _ => []) (fun _ => Rl.losses.shape)) := by
 refine F.ok sc_Losses___init__ (fun vs H Q E h => ?_) (fun cdv A outer s H vs Q E hr h => ?_)
 ·obtain ⟨G, d, x, dx, us, rfl, _, _, _, hA, _⟩ := h
  rw [List.length_cons, ← hA.len]; rfl
 obtain ⟨G, d, x, dx, us, rfl, eG, gx, hx, hA, k⟩ := h
 rw [IsAll] at hA
 subst hA
 have S : Sta H G H [] [] := Sta.enter eG fun p hp => absurd hp List.not_mem_nil
 refine ⟨_, (pss_one (ps_expr (pe_ccall rfl g_Rule s_Rule r_Rule f_Rule_init (F_Rule_init.mono (by walk_at "l")) hr k_Rule_init b_Rule_init pass0 (pa_cons (pv 0) (pa_cons (pe_tup (pa_cons pe_str pa_nil)) pa_nil))))), rd_start ?_⟩
 walk_at "walk"
 refine rd_rinit (d := Rl.losses.shape) (by assumption) gx hx ok (by walk_at "m") fun H' G' w h1 h2 h3 h4 h5 h6 => ?_
 exact k H' G' w h1 h2 h3 h4 h5 h6
abbrev s_Halves___init__ : Stmt := inClass (top 19) 0
theorem sc_Halves___init__ : FnScope ["self"] ["self"] (defScope s_Halves___init__) := ⟨rfl, rfl, rfl, by decide +kernel, rfl, by decide +kernel, by decide +kernel⟩
theorem ok_init_Halves (g_Rule : mg "Rule" = some (.ref Ru)) (s_Rule : PySem.W.specialIn K (.ref Ru) "__getattribute__" = some (some (.builtin "type.__getattribute__"))) (r_Rule : PySem.W.readsIn K Ru (.type "type") = true) {fI : Addr} {fdI : FuncData} (f_Rule_init : PySem.W.findCls K (.ref Ru) (.type "type") "__init__" = some (.val (.ref fI))) (F_Rule_init : FnOk P w K mg base CX0 1 fI fdI ["self", "form"] (spRInit K fS fT Ru)) (k_Rule_init : PySem.W.keepIn K (.ref fI) = true) (b_Rule_init : Binds K fdI ["self", "form"] []) (ok : ROk K fS fT Ru (A.cls .halves)) (F : Fun K "__init__" "Halves.__init__" s_Halves___init__ f fd) : FnOk P w K mg base CX0 2 f fd ["self"] (spInit (A.cls .halves) (α := Unit) (fun _ => []) (fun _ => Rl.halves.shape)) := by
 refine F.ok sc_Halves___init__ (fun vs H Q E h => ?_) (fun cdv A outer s H vs Q E hr h => ?_)
 ·obtain ⟨G, d, x, dx, us, rfl, _, _, _, hA, _⟩ := h
  rw [List.length_cons, ← hA.len]; rfl
 obtain ⟨G, d, x, dx, us, rfl, eG, gx, hx, hA, k⟩ := h
 rw [IsAll] at hA
 subst hA
 have S : Sta H G H [] [] := Sta.enter eG fun p hp => absurd hp List.not_mem_nil
 refine ⟨_, (pss_one (ps_expr (pe_ccall rfl g_Rule s_Rule r_Rule f_Rule_init (F_Rule_init.mono (by walk_at "l")) hr k_Rule_init b_Rule_init pass0 (pa_cons (pv 0) (pa_cons (pe_tup (pa_cons pe_str pa_nil)) pa_nil))))), rd_start ?_⟩
 walk_at "walk"
 refine rd_rinit (d := Rl.halves.shape) (by assumption) gx hx ok (by walk_at "m") fun H' G' w h1 h2 h3 h4 h5 h6 => ?_
 exact k H' G' w h1 h2 h3 h4 h5 h6
abbrev s_Other___init__ : Stmt := inClass (top 20) 0
theorem sc_Other___init__ : FnScope ["self", "inner"] ["self", "inner"] (defScope s_Other___init__) := ⟨rfl, rfl, rfl, by decide +kernel, rfl, by decide +kernel, by decide +kernel⟩
theorem ok_init_Other (g_Rule : mg "Rule" = some (.ref Ru)) (s_Rule : PySem.W.specialIn K (.ref Ru) "__getattribute__" = some (some (.builtin "type.__getattribute__"))) (r_Rule : PySem.W.readsIn K Ru (.type "type") = true) {fI : Addr} {fdI : FuncData} (f_Rule_init : PySem.W.findCls K (.ref Ru) (.type "type") "__init__" = some (.val (.ref fI))) (F_Rule_init : FnOk P w K mg base CX0 1 fI fdI ["self", "form"] (spRInit K fS fT Ru)) (k_Rule_init : PySem.W.keepIn K (.ref fI) = true) (b_Rule_init : Binds K fdI ["self", "form"] []) {fdS : FuncData} (F_Rule_shape : FnOk P w K mg base CX0 1 fS fdS ["self"] (spShape A)) (b_Rule_shape : Binds K fdS ["self"] []) (okA : ∀ r : Rl, ROk K fS fT Ru (A.cls r)) (F : Fun K "__init__" "Other.__init__" s_Other___init__ f fd) : FnOk P w K mg base CX0 2 f fd ["self", "inner"] (spInit (A.cls (.other .shares)) (α := Rl) (fun r => [r.ins A]) (fun r => (Rl.other r).shape)) := by
 refine F.ok sc_Other___init__ (fun vs H Q E h => ?_) (fun cdv A' outer s H vs Q E hr h => ?_)
 ·obtain ⟨G, d, x, dx, us, rfl, _, _, _, hA, _⟩ := h
  rw [List.length_cons, ← hA.len]; rfl
 obtain ⟨G, r, x, dx, us, rfl, eG, gx, hx, hA, k⟩ := h
 obtain ⟨v, rfl, al⟩ := isAll1 hA
 have S : Sta H G H [] _ := Sta.enter eG al
 refine ⟨_, (pss_one (ps_expr (pe_ccall rfl g_Rule s_Rule r_Rule f_Rule_init (F_Rule_init.mono (by walk_at "l")) hr k_Rule_init b_Rule_init pass0 (pa_cons (pv 0) (pa_cons (pe_tup (pa_cons pe_str (pa_cons (pe_methA (pv 1) (F_Rule_shape.mono (by walk_at "l")) hr b_Rule_shape pass0) pa_nil))) pa_nil))))), rd_start ?_⟩
 walk_at "walk"
 refine rd_kMS S (by walk_at "m") (okA r) ?_
 refine rd_shape S (by walk_at "m") fun w1 H1 e1 S1 => ?_
 walk_at "walk"
 refine rd_rinit (d := (Rl.other r).shape) (by assumption) gx hx (okA (.other .shares)) (by walk_at "m") fun H' G' w h1 h2 h3 h4 h5 h6 => ?_
 exact k H' G' w h1 h2 h3 h4 h5 h6
abbrev s_Ranks___init__ : Stmt := inClass (top 21) 0
theorem sc_Ranks___init__ : FnScope ["self", "inner"] ["self", "inner"] (defScope s_Ranks___init__) := ⟨rfl, rfl, rfl, by decide +kernel, rfl, by decide +kernel, by decide +kernel⟩
theorem ok_init_Ranks (g_Rule : mg "Rule" = some (.ref Ru)) (s_Rule : PySem.W.specialIn K (.ref Ru) "__getattribute__" = some (some (.builtin "type.__getattribute__"))) (r_Rule : PySem.W.readsIn K Ru (.type "type") = true) {fI : Addr} {fdI : FuncData} (f_Rule_init : PySem.W.findCls K (.ref Ru) (.type "type") "__init__" = some (.val (.ref fI))) (F_Rule_init : FnOk P w K mg base CX0 1 fI fdI ["self", "form"] (spRInit K fS fT Ru)) (k_Rule_init : PySem.W.keepIn K (.ref fI) = true) (b_Rule_init : Binds K fdI ["self", "form"] []) {fdS : FuncData} (F_Rule_shape : FnOk P w K mg base CX0 1 fS fdS ["self"] (spShape A)) (b_Rule_shape : Binds K fdS ["self"] []) (okA : ∀ r : Rl, ROk K fS fT Ru (A.cls r)) (F : Fun K "__init__" "Ranks.__init__" s_Ranks___init__ f fd) : FnOk P w K mg base CX0 2 f fd ["self", "inner"] (spInit (A.cls (.ranks .shares)) (α := Rl) (fun r => [r.ins A]) (fun r => (Rl.ranks r).shape)) := by
 refine F.ok sc_Ranks___init__ (fun vs H Q E h => ?_) (fun cdv A' outer s H vs Q E hr h => ?_)
 ·obtain ⟨G, d, x, dx, us, rfl, _, _, _, hA, _⟩ := h
  rw [List.length_cons, ← hA.len]; rfl
 obtain ⟨G, r, x, dx, us, rfl, eG, gx, hx, hA, k⟩ := h
 obtain ⟨v, rfl, al⟩ := isAll1 hA
 have S : Sta H G H [] _ := Sta.enter eG al
 refine ⟨_, (pss_one (ps_expr (pe_ccall rfl g_Rule s_Rule r_Rule f_Rule_init (F_Rule_init.mono (by walk_at "l")) hr k_Rule_init b_Rule_init pass0 (pa_cons (pv 0) (pa_cons (pe_tup (pa_cons pe_str (pa_cons (pe_methA (pv 1) (F_Rule_shape.mono (by walk_at "l")) hr b_Rule_shape pass0) pa_nil))) pa_nil))))), rd_start ?_⟩
 walk_at "walk"
 refine rd_kMS S (by walk_at "m") (okA r) ?_
 refine rd_shape S (by walk_at "m") fun w1 H1 e1 S1 => ?_
 walk_at "walk"
 refine rd_rinit (d := (Rl.ranks r).shape) (by assumption) gx hx (okA (.ranks .shares)) (by walk_at "m") fun H' G' w h1 h2 h3 h4 h5 h6 => ?_
 exact k H' G' w h1 h2 h3 h4 h5 h6
abbrev s_Groups___init__ : Stmt := inClass (top 22) 0
theorem sc_Groups___init__ : FnScope ["self", "outer", "inner"] ["self", "outer", "inner"] (defScope s_Groups___init__) := ⟨rfl, rfl, rfl, by decide +kernel, rfl, by decide +kernel, by decide +kernel⟩
theorem ok_init_Groups (g_Rule : mg "Rule" = some (.ref Ru)) (s_Rule : PySem.W.specialIn K (.ref Ru) "__getattribute__" = some (some (.builtin "type.__getattribute__"))) (r_Rule : PySem.W.readsIn K Ru (.type "type") = true) {fI : Addr} {fdI : FuncData} (f_Rule_init : PySem.W.findCls K (.ref Ru) (.type "type") "__init__" = some (.val (.ref fI))) (F_Rule_init : FnOk P w K mg base CX0 1 fI fdI ["self", "form"] (spRInit K fS fT Ru)) (k_Rule_init : PySem.W.keepIn K (.ref fI) = true) (b_Rule_init : Binds K fdI ["self", "form"] []) {fdS : FuncData} (F_Rule_shape : FnOk P w K mg base CX0 1 fS fdS ["self"] (spShape A)) (b_Rule_shape : Binds K fdS ["self"] []) (okA : ∀ r : Rl, ROk K fS fT Ru (A.cls r)) (F : Fun K "__init__" "Groups.__init__" s_Groups___init__ f fd) : FnOk P w K mg base CX0 2 f fd ["self", "outer", "inner"] (spInit (A.cls (.groups .shares .shares)) (α := Rl × Rl) (fun r => [r.1.ins A, r.2.ins A]) (fun r => (Rl.groups r.1 r.2).shape)) := by
 refine F.ok sc_Groups___init__ (fun vs H Q E h => ?_) (fun cdv A' outer s H vs Q E hr h => ?_)
 ·obtain ⟨G, d, x, dx, us, rfl, _, _, _, hA, _⟩ := h
  rw [List.length_cons, ← hA.len]; rfl
 obtain ⟨G, ⟨r, r2⟩, x, dx, us, rfl, eG, gx, hx, hA, k⟩ := h
 obtain ⟨v, v2, rfl, al⟩ := isAll2 hA
 have S : Sta H G H [] _ := Sta.enter eG al
 dsimp only at k S
 refine ⟨_, (pss_one (ps_expr (pe_ccall rfl g_Rule s_Rule r_Rule f_Rule_init (F_Rule_init.mono (by walk_at "l")) hr k_Rule_init b_Rule_init pass0 (pa_cons (pv 0) (pa_cons (pe_tup (pa_cons pe_str (pa_cons (pe_methA (pv 1) (F_Rule_shape.mono (by walk_at "l")) hr b_Rule_shape pass0) (pa_cons (pe_methA (pv 2) (F_Rule_shape.mono (by walk_at "l")) hr b_Rule_shape pass0) pa_nil)))) pa_nil))))), rd_start ?_⟩
 walk_at "walk"
 refine rd_kMS S (by walk_at "m") (okA r) ?_
 refine rd_shape S (by walk_at "m") fun w1 H1 e1 S1 => ?_
 walk_at "walk"
 refine rd_kMS S1 (by walk_at "m") (okA r2) ?_
 refine rd_shape S1 (by walk_at "m") fun w2 H2 e2 S2 => ?_
 walk_at "walk"
 refine rd_rinit (d := (Rl.groups r r2).shape) (by assumption) gx hx (okA (.groups .shares .shares)) (by walk_at "m") fun H' G' w h1 h2 h3 h4 h5 h6 => ?_
 exact k H' G' w h1 h2 h3 h4 h5 h6
abbrev s_Upto___init__ : Stmt := inClass (top 23) 0
theorem sc_Upto___init__ : FnScope ["self", "portion", "first", "last"] ["self", "portion", "first", "last"] (defScope s_Upto___init__) := ⟨rfl, rfl, rfl, by decide +kernel, rfl, by decide +kernel, by decide +kernel⟩
theorem ok_init_Upto (g_Rule : mg "Rule" = some (.ref Ru)) (s_Rule : PySem.W.specialIn K (.ref Ru) "__getattribute__" = some (some (.builtin "type.__getattribute__"))) (r_Rule : PySem.W.readsIn K Ru (.type "type") = true) {fI : Addr} {fdI : FuncData} (f_Rule_init : PySem.W.findCls K (.ref Ru) (.type "type") "__init__" = some (.val (.ref fI))) (F_Rule_init : FnOk P w K mg base CX0 1 fI fdI ["self", "form"] (spRInit K fS fT Ru)) (k_Rule_init : PySem.W.keepIn K (.ref fI) = true) (b_Rule_init : Binds K fdI ["self", "form"] []) {fdS : FuncData} (F_Rule_shape : FnOk P w K mg base CX0 1 fS fdS ["self"] (spShape A)) (b_Rule_shape : Binds K fdS ["self"] []) (okA : ∀ r : Rl, ROk K fS fT Ru (A.cls r)) (F : Fun K "__init__" "Upto.__init__" s_Upto___init__ f fd) : FnOk P w K mg base CX0 2 f fd ["self", "portion", "first", "last"] (spInit (A.cls (.upto 0 0 .shares .shares)) (α := (Int × Int) × Rl × Rl) (fun r => [.tuple [.int r.1.1, .int r.1.2], r.2.1.ins A, r.2.2.ins A]) (fun r => (Rl.upto r.1.1 r.1.2 r.2.1 r.2.2).shape)) := by
 refine F.ok sc_Upto___init__ (fun vs H Q E h => ?_) (fun cdv A' outer s H vs Q E hr h => ?_)
 ·obtain ⟨G, d, x, dx, us, rfl, _, _, _, hA, _⟩ := h
  rw [List.length_cons, ← hA.len]; rfl
 obtain ⟨G, ⟨⟨t, b⟩, r, r2⟩, x, dx, us, rfl, eG, gx, hx, hA, k⟩ := h
 obtain ⟨v0, v, v2, rfl, al⟩ := isAll3 hA
 have S : Sta H G H [] _ := Sta.enter eG al
 dsimp only at k S
 refine ⟨_, (pss_one (ps_expr (pe_ccall rfl g_Rule s_Rule r_Rule f_Rule_init (F_Rule_init.mono (by walk_at "l")) hr k_Rule_init b_Rule_init pass0 (pa_cons (pv 0) (pa_cons (pe_tup (pa_cons pe_str (pa_cons (pv 1) (pa_cons (pe_methA (pv 2) (F_Rule_shape.mono (by walk_at "l")) hr b_Rule_shape pass0) (pa_cons (pe_methA (pv 3) (F_Rule_shape.mono (by walk_at "l")) hr b_Rule_shape pass0) pa_nil))))) pa_nil))))), rd_start ?_⟩
 walk_at "walk"
 refine rd_kMS S (by walk_at "m") (okA r) ?_
 refine rd_shape S (by walk_at "m") fun w1 H1 e1 S1 => ?_
 walk_at "walk"
 refine rd_kMS S1 (by walk_at "m") (okA r2) ?_
 refine rd_shape S1 (by walk_at "m") fun w2 H2 e2 S2 => ?_
 walk_at "walk"
 refine rd_rinit (d := (Rl.upto t b r r2).shape) (by assumption) gx hx (okA (.upto 0 0 .shares .shares)) (by walk_at "m") fun H' G' w h1 h2 h3 h4 h5 h6 => ?_
 exact k H' G' w h1 h2 h3 h4 h5 h6
end
section
variable {fS fT Ru : Addr} {A : RAd}
abbrev s_portion_text : Stmt := top 25
theorem sc_portion_text : FnScope ["portion", "top", "bottom"] ["portion"] (defScope s_portion_text) := ⟨rfl, rfl, rfl, by decide +kernel, rfl, by decide +kernel, by decide +kernel⟩
theorem ok_ptext (F : Fun K "portion_text" "portion_text" s_portion_text f fd) : FnOk P w K mg base CX0 1 f fd ["portion"] spPText := by
 refine F.ok sc_portion_text (fun vs H Q E h => ?_) (fun cdv A outer s H vs Q E hr h => ?_)
 ·obtain ⟨r, h, _⟩ := h
  rw [← h.len]; rfl
 obtain ⟨⟨t, b⟩, hA, ⟨ht, hb⟩, k⟩ := h
 obtain ⟨v, rfl, al⟩ := isAll1 hA
 have S : Sta H H H [] _ := Sta.enter (Same.refl _) al
 dsimp only at ht hb k S
 have l1 := itS_lenW ht
 have l2 := itS_lenW hb
 have l3 : ("/" : Str).length = 1 := by decide +kernel
 have l4 : Str.empty.length = 0 := rfl
 refine ⟨_, (pss_cons (ps_set (i := 1) sc_portion_text.nd rfl (by walk_at "o") (pe_ix ix_seq (pv 0) pe_int (fun _ _ => rfl))) (pss_cons (ps_set (i := 2) sc_portion_text.nd rfl (by walk_at "o") (pe_ix ix_seq (pv 0) pe_int (fun _ _ => rfl))) (pss_one (ps_ret (pe_joined (pj_cons (pe_fmt (pv 1)) (pj_cons pe_str (pj_cons (pe_fmt (pv 2)) pj_nil)))))))), rd_start ?_⟩
 walk_at "walk"
 rw [empty_app]
 exact ret_B S k
abbrev s_text_of : Stmt := top 24
theorem sc_text_of : FnScope ["shape", "word", "within_brackets", "pieces"] ["shape"] (defScope s_text_of) := ⟨rfl, rfl, rfl, by decide +kernel, rfl, by decide +kernel, by decide +kernel⟩
theorem ok_textof (B : Bl mg) (C_portion_text : Cal P w K mg base CX0 1 "portion_text" ["portion"] spPText) (F : Fun K "text_of" "text_of" s_text_of f fd) (hm : mg "text_of" = some (.ref f)) (b : Binds K fd ["shape"] []) : ∀ n : Nat, FnOk P w K mg base CX0 (n + 2) f fd ["shape"] (spTextOf n) := by
 intro n
 induction n with
 | zero =>
   refine F.ok sc_text_of (fun vs H Q E h => ?_) (fun cdv A outer s H vs Q E hr h => ?_)
   ·obtain ⟨r, h, _⟩ := h
    rw [← h.len]; rfl
   obtain ⟨r, _, ⟨_, _, hd⟩, _⟩ := h
   exact absurd hd (by cases r <;> simp [Rl.deep])
 | succ n ih =>
   have C_text_of : Cal P w K mg base CX0 (n + 2) "text_of" ["shape"] (spTextOf n) := cal_mk F ih hm b
   refine F.ok sc_text_of (fun vs H Q E h => ?_) (fun cdv A outer s H vs Q E hr h => ?_)
   ·obtain ⟨r, h, _⟩ := h
    rw [← h.len]; rfl
   obtain ⟨r, hA, ⟨hok, hsz, hdp⟩, k⟩ := h
   obtain ⟨v, rfl, al⟩ := isAll1 hA
   dsimp only at k
   have S : Sta H H H [] [(r.shape, v)] := Sta.enter (Same.refl _) al
   have l3 : ("(" : Str).length = 1 := by decide +kernel
   have l4 : Str.empty.length = 0 := rfl
   have l5 : (")" : Str).length = 1 := by decide +kernel
   have l6 : (", " : Str).length = 2 := by decide +kernel
   refine ⟨_, (pss_cons (ps_set (i := 1) sc_text_of.nd rfl (by walk_at "o") (pe_ix ix_seq (pv 0) pe_int (fun _ _ => rfl))) (pss_cons (ps_if (pt_cmpR (op_eqA (units_of hr)) (pe_callB call_lenA rfl B.len bt_len (pa_cons (pv 0) pa_nil)) pe_int (nomark _)) (pss_one (ps_ret (pv 1))) pss_nil) (pss_cons (ps_if (pt_cmpR (op_eqA (units_of hr)) (pv 1) pe_str (nomark _)) (pss_one (ps_set (i := 3) sc_text_of.nd rfl (by walk_at "o") (pe_op op_addA (pe_lst (pa_cons (pe_cal C_portion_text hr (by walk_at "l") pass0 rfl (pa_cons (pe_ix ix_seq (pv 0) pe_int (fun _ _ => rfl)) pa_nil)) pa_nil)) (pe_comp (N := ["inner"]) (n := 1) (fr := []) rfl ⟨rfl, by decide +kernel, rfl, by decide, rfl, rfl, rfl, rfl, rfl⟩ (pi_tup (pe_slice sl_tup (pv 0) (po_some pe_int) po_none)) (fun _ _ _ _ => (pg_name (i := 0) (show (["inner"] : List Str).Nodup from by decide +kernel) rfl (by walk_at "o"))) (fun _ _ _ _ => pif_nil) (fun _ _ _ _ => (pe_cal C_text_of hr (by walk_at "l") pass0 rfl (pa_cons (pv 0) pa_nil))))))) (pss_one (ps_setComp (i := 3) (N := ["inner"]) (n := 1) (fr := []) sc_text_of.nd rfl rfl rfl ⟨rfl, by decide +kernel, rfl, by decide, rfl, rfl, rfl, rfl, rfl⟩ (pi_tup (pe_slice sl_tup (pv 0) (po_some pe_int) po_none)) (fun _ _ _ _ => (pg_name (i := 0) (show (["inner"] : List Str).Nodup from by decide +kernel) rfl (by walk_at "o"))) (fun _ _ _ _ => pif_nil) (fun _ _ _ _ => (pe_cal C_text_of hr (by walk_at "l") pass0 rfl (pa_cons (pv 0) pa_nil)))))) (pss_cons (ps_set (i := 2) sc_text_of.nd rfl (by walk_at "o") (pe_bm PySem.F.plainAttrs_str PySem.F.slot_str_join PySem.F.type_str_join mt_join pe_str (pa_cons (pv 3) pa_nil))) (pss_one (ps_ret (pe_joined (pj_cons (pe_fmt (pv 1)) (pj_cons pe_str (pj_cons (pe_fmt (pv 2)) (pj_cons pe_str pj_nil))))))))))), rd_start ?_⟩
   rcases (show (∃ wd : Str, r.shape = .tuple [.str wd] ∧ r.text = wd) ∨ (∃ (wd : Str) (x : Rl), r.shape = .tuple [.str wd, x.shape] ∧ wd ≠ "upto" ∧ wd.length ≤ 10 ∧ (x.Wid ∧ x.text.length ≤ 2000 ∧ x.deep ≤ n) ∧ r.text = wd ++ ("(" : Str) ++ x.text ++ (")" : Str)) ∨ (∃ x y, r = .groups x y) ∨ ∃ (t b : Int) (x y : Rl), r = .upto t b x y from by
    cases r with
    | shares => exact .inl ⟨_, rfl, rfl⟩
    | evenly => exact .inl ⟨_, rfl, rfl⟩
    | losses => exact .inl ⟨_, rfl, rfl⟩
    | halves => exact .inl ⟨_, rfl, rfl⟩
    | other x =>
      simp only [Rl.text, str_len, Rl.deep] at hsz hdp
      refine .inr (.inl ⟨"other", x, rfl, by decide +kernel, by decide +kernel, ⟨hok, by omega, by omega⟩, ?_⟩)
      rw [Rl.text, show ("other(" : Str) = ("other" : Str) ++ ("(" : Str) by decide +kernel]
    | ranks x =>
      simp only [Rl.text, str_len, Rl.deep] at hsz hdp
      refine .inr (.inl ⟨"ranks", x, rfl, by decide +kernel, by decide +kernel, ⟨hok, by omega, by omega⟩, ?_⟩)
      rw [Rl.text, show ("ranks(" : Str) = ("ranks" : Str) ++ ("(" : Str) by decide +kernel]
    | groups x y => exact .inr (.inr (.inl ⟨x, y, rfl⟩))
    | upto t b x y => exact .inr (.inr (.inr ⟨t, b, x, y, rfl⟩))) with ⟨wd, e1, e2⟩ | ⟨wd, x, e1, hw, hwl, ⟨ox, sx, dx⟩, e2⟩ | ⟨x, y, rfl⟩ | ⟨t, b, x, y, rfl⟩
   ·rw [e1] at S
    rw [e2] at k
    walk_at "walk"
    refine iteD (fun _ => ?_) (fun c => absurd rfl c)
    walk_at "walk"
    exact ret_B S k
   ·rw [e1] at S
    rw [e2] at k
    have lx : x.text.length ≤ 48000 := by omega
    walk_at "walk"
    refine iteD (fun c => by simp at c) (fun _ => ?_)
    walk_at "walk"
    refine iteD (fun c => absurd c hw) (fun _ => ?_)
    walk_at "walk"
    refine rd_slT (xs := [.str wd, x.shape]) S (by walk_at "m") (by show ¬ (HT.sIx 2 0 (some 1) = 0 ∧ HT.sIx 2 2 none = 2); decide) fun l2 H2 e2 S2 => ?_
    refine rd_kITd (xs := [x.shape]) S2 (by walk_at "m") fun J wk => ?_
    refine comp_map wk (fun _ => .str x.text) (ys := [x.text].map PyData.str) rfl S2 (fun _ _ => .mem (by walk_at "mem")) (by show 1 ≤ 1000; decide) (fun j u v B' G' Kd Kn hx t1 S hd C ex s0 H0 => ?_) fun D H3 e3 S3 => ?_
    ·obtain rfl : u = x.shape := by
      match j, hx with
      | 0, hx => exact (Option.some.inj hx).symm
     refine rd_name ⟨rfl, ?_⟩
     walk_at "walk"
     refine rd_textof S (by walk_at "m") ox sx dx fun H4 S4 => ?_
     exact hd S4 Has.str
    walk_at "walk"
    refine rd_join (ys := [x.text]) S3 (by walk_at "mem") (join_ok1 (by omega)) ?_
    rw [glued1]
    walk_at "walk"
    rw [empty_app]
    exact ret_B S3 k
   ·simp only [Rl.text, str_len, Rl.deep] at hsz hdp
    have ox := hok.1
    have oy := hok.2
    have sx : x.text.length ≤ 2000 := by omega
    have sy : y.text.length ≤ 2000 := by omega
    have lx : x.text.length ≤ 48000 := by omega
    have ly : y.text.length ≤ 48000 := by omega
    have S : Sta H H H [] [(.tuple [.str "groups", x.shape, y.shape], v)] := S
    rw [Rl.text, show ("groups(" : Str) = ("groups" : Str) ++ ("(" : Str) by decide +kernel] at k
    have lg : ("groups" : Str).length = 6 := by decide +kernel
    walk_at "walk"
    refine iteD (fun c => by simp at c) (fun _ => ?_)
    walk_at "walk"
    refine iteD (fun c => absurd c (by decide +kernel)) (fun _ => ?_)
    walk_at "walk"
    refine rd_slT (xs := [.str "groups", x.shape, y.shape]) S (by walk_at "m") (by show ¬ (HT.sIx 3 0 (some 1) = 0 ∧ HT.sIx 3 3 none = 3); decide) fun l2 H2 e2 S2 => ?_
    refine rd_kITd (xs := [x.shape, y.shape]) S2 (by walk_at "m") fun J wk => ?_
    refine comp_map wk (fun j => .str ([x, y].getD j x).text) (ys := [x.text, y.text].map PyData.str) rfl S2 (fun _ _ => .mem (by walk_at "mem")) (by show 2 ≤ 1000; decide) (fun j u v B' G' Kd Kn hx t1 S hd C ex s0 H0 => ?_) fun D H3 e3 S3 => ?_
    ·have hj : u = ([x, y].getD j x).shape ∧ ([x, y].getD j x).Wid ∧ ([x, y].getD j x).text.length ≤ 2000 ∧ ([x, y].getD j x).deep ≤ n := by
      match j, hx with
      | 0, hx => exact ⟨(Option.some.inj hx).symm, ox, sx, by show x.deep ≤ n; omega⟩
      | 1, hx => exact ⟨(Option.some.inj hx).symm, oy, sy, by show y.deep ≤ n; omega⟩
     obtain ⟨rfl, o1, o2, o3⟩ := hj
     refine rd_name ⟨rfl, ?_⟩
     walk_at "walk"
     refine rd_textof S (by walk_at "m") o1 o2 o3 fun H4 S4 => ?_
     exact hd S4 Has.str
    walk_at "walk"
    refine rd_join (ys := [x.text, y.text]) S3 (by walk_at "mem") (join_ok2 (by omega) (by omega)) ?_
    rw [glued2]
    have lg2 : (x.text ++ (", " : Str) ++ y.text).length ≤ 100000 := by simp only [str_len]; omega
    walk_at "walk"
    rw [empty_app]
    simp only [str_assoc] at k ⊢
    exact ret_B S3 k
   ·simp only [Rl.text, str_len, Rl.deep] at hsz hdp
    obtain ⟨⟨ht, hb⟩, ox, oy⟩ := hok
    have sx : x.text.length ≤ 2000 := by omega
    have sy : y.text.length ≤ 2000 := by omega
    have lx : x.text.length ≤ 48000 := by omega
    have ly : y.text.length ≤ 48000 := by omega
    have lt := itS_lenW ht
    have lb := itS_lenW hb
    have S : Sta H H H [] [(.tuple [.str "upto", .tuple [.int t, .int b], x.shape, y.shape], v)] := S
    rw [Rl.text, show ("upto(" : Str) = ("upto" : Str) ++ ("(" : Str) by decide +kernel] at k
    have lg : ("upto" : Str).length = 4 := by decide +kernel
    have ls : ("/" : Str).length = 1 := by decide +kernel
    walk_at "walk"
    refine iteD (fun c => by simp at c) (fun _ => ?_)
    walk_at "walk"
    refine iteD (fun _ => ?_) (fun c => absurd rfl c)
    walk_at "walk"
    rename_i w1 S1
    refine rd_ptext S1 (by walk_at "m") ht hb fun H2 S2 => ?_
    walk_at "walk"
    rename_i p3 H3 e3 S3
    refine rd_slT (xs := [.str "upto", .tuple [.int t, .int b], x.shape, y.shape]) S3 (by walk_at "m") (by show ¬ (HT.sIx 4 0 (some 2) = 0 ∧ HT.sIx 4 4 none = 4); decide) fun l4 H4 e4 S4 => ?_
    refine rd_kITd (xs := [x.shape, y.shape]) S4 (by walk_at "m") fun J wk => ?_
    refine comp_map wk (fun j => .str ([x, y].getD j x).text) (ys := [x.text, y.text].map PyData.str) rfl S4 (fun _ _ => .mem (by walk_at "mem")) (by show 2 ≤ 1000; decide) (fun j u v B' G' Kd Kn hx t1 S hd C ex s0 H0 => ?_) fun D H5 e5 S5 => ?_
    ·have hj : u = ([x, y].getD j x).shape ∧ ([x, y].getD j x).Wid ∧ ([x, y].getD j x).text.length ≤ 2000 ∧ ([x, y].getD j x).deep ≤ n := by
      match j, hx with
      | 0, hx => exact ⟨(Option.some.inj hx).symm, ox, sx, by show x.deep ≤ n; omega⟩
      | 1, hx => exact ⟨(Option.some.inj hx).symm, oy, sy, by show y.deep ≤ n; omega⟩
     obtain ⟨rfl, o1, o2, o3⟩ := hj
     refine rd_name ⟨rfl, ?_⟩
     walk_at "walk"
     refine rd_textof S (by walk_at "m") o1 o2 o3 fun H6 S6 => ?_
     exact hd S6 Has.str
    refine rd_addL S5 (S5.vwC (by walk_at "mem")) (S5.vwC (by walk_at "mem")) (by show 1 + 2 ≤ 1000; decide) fun p6 H6 e6 S6 => ?_
    have S6 : Sta H H H6 [(p6, [itS t ++ ("/" : Str) ++ itS b, x.text, y.text].map PyData.str)] [] := S6.weak (by walk_at "sub") (by walk_at "dats")
    walk_at "walk"
    refine rd_join (ys := [itS t ++ ("/" : Str) ++ itS b, x.text, y.text]) S6 (by walk_at "mem") (join_ok3 (by simp only [str_len]; omega) (by omega) (by omega)) ?_
    rw [glued3]
    have lg2 : (itS t ++ ("/" : Str) ++ itS b ++ (", " : Str) ++ x.text ++ (", " : Str) ++ y.text).length ≤ 110000 := by simp only [str_len]; omega
    walk_at "walk"
    rw [empty_app]
    simp only [str_assoc] at k ⊢
    exact ret_B S6 k
abbrev s_Rule_text : Stmt := inClass (top 15) 2
theorem sc_Rule_text : FnScope ["self"] ["self"] (defScope s_Rule_text) := ⟨rfl, rfl, rfl, by decide +kernel, rfl, by decide +kernel, by decide +kernel⟩
theorem ok_text {n : Nat} (okA : ∀ r : Rl, ROk K fS fT Ru (A.cls r)) (C_text_of : Cal P w K mg base CX0 (n + 2) "text_of" ["shape"] (spTextOf n)) (F : Fun K "text" "Rule.text" s_Rule_text f fd) : FnOk P w K mg base CX0 (n + 3) f fd ["self"] (spText A n) := by
 refine F.ok sc_Rule_text (fun vs H Q E h => ?_) (fun cdv A' outer s H vs Q E hr h => ?_)
 ·obtain ⟨r, h, _⟩ := h
  rw [← h.len]; rfl
 obtain ⟨r, hA, ⟨h1, h2, h3⟩, k⟩ := h
 obtain ⟨v, rfl, al⟩ := isAll1 hA
 have S : Sta H H H [] _ := Sta.enter (Same.refl _) al
 refine ⟨_, (pss_one (ps_ret (pe_cal C_text_of hr (by walk_at "l") pass0 rfl (pa_cons (pe_fld (pv 0) rfl) pa_nil)))), rd_start ?_⟩
 walk_at "walk"
 refine rd_kFld S (by walk_at "m") (okA r) fun w S1 => ?_
 refine rd_textof S1 (by walk_at "m") h1 h2 h3 fun H2 S2 => ?_
 exact ret_B S2 k
end
abbrev s_law_cell_at : Stmt := top 37
theorem sc_law_cell_at : FnScope ["_law_script", "_law_k"] ["_law_script", "_law_k"] (defScope s_law_cell_at) := ⟨rfl, rfl, rfl, by decide +kernel, rfl, by decide +kernel, by decide +kernel⟩
theorem ok_cell (B : Bl mg) (F : Fun K "_law_cell_at" "_law_cell_at" s_law_cell_at f fd) : FnOk P w K mg base CX0 1 f fd ["_law_script", "_law_k"] (spCell K) := by
 refine F.ok sc_law_cell_at (fun vs H Q E h => ?_) (fun cdv A outer s H vs Q E hr h => ?_)
 ·obtain ⟨a, ns, k, rfl, _⟩ := h
  rfl
 obtain ⟨a, ns, k, rfl, hS, h0, q⟩ := h
 refine ⟨_, (pss_cons (ps_if (pt_cmpR op_lt (pv 1) (pe_callB call_lenA rfl B.len bt_len (pa_cons (pv 0) pa_nil)) (nomark _)) (pss_one (ps_ret (pe_ix ix_seq (pv 0) (pv 1) (fun _ _ => rfl)))) pss_nil) (pss_one (ps_ret pe_int))), rd_start ?_⟩
 walk_at "walk"
 refine rd_lenS hS ?_
 walk_at "walk"
 refine iteD (fun c => ?_) (fun c => ?_)
 ·walk_at "walk"
  refine rd_ixS hS h0 c ?_
  unfold cellAt at q
  rw [if_pos c] at q
  exact q
 ·walk_at "walk"
  unfold cellAt at q
  rw [if_neg c] at q
  exact q
abbrev s_law_divisor : Stmt := top 39
theorem sc_law_divisor : FnScope ["_law_one", "_law_other", "_law_rest"] ["_law_one", "_law_other"] (defScope s_law_divisor) := ⟨rfl, rfl, rfl, by decide +kernel, rfl, by decide +kernel, by decide +kernel⟩
theorem ok_divisor (B : Bl mg) (F : Fun K "_law_divisor" "_law_divisor" s_law_divisor f fd) : FnOk P w K mg base CX0 1 f fd ["_law_one", "_law_other"] spDiv2 := by
 refine F.ok sc_law_divisor (fun vs H Q E h => ?_) (fun cdv A outer s H vs Q E hr h => ?_)
 ·obtain ⟨a, b, rfl, _⟩ := h
  rfl
 obtain ⟨a, b, rfl, hb, q⟩ := h
 refine ⟨_, (pss_cons (ps_while PassesOwn.never (pt_cmpR (op_neA (units_of hr)) (pv 1) pe_int (nomark _)) (pss_cons (ps_set (i := 2) sc_law_divisor.nd rfl (by walk_at "o") (pe_op op_modN (pv 0) (pv 1))) (pss_cons (ps_set (i := 0) sc_law_divisor.nd rfl (by walk_at "o") (pv 1)) (pss_one (ps_set (i := 1) sc_law_divisor.nd rfl (by walk_at "o") (pv 2)))))) (pss_one (ps_ret (pe_callB call_absA rfl B.abs bt_abs (pa_cons (pv 0) pa_nil))))), rd_start ?_⟩
 refine while_h (fun m σ H2 => ∃ (x y : Int) (v : Option V), σ = [some (.int x), some (.int y), v] ∧ 0 ≤ y ∧ Int.gcd x y = Int.gcd a b ∧ H2 = H ∧ m = y.toNat) _ ⟨a, b, none, rfl, hb, rfl, rfl, rfl⟩ ?_
 rintro m σ H2 ⟨x, y, v, rfl, hy, hg, rfl, rfl⟩
 walk_at "walk"
 refine rd_wh (fun c => ?_) (fun c => ?_)
 ·have c : y ≠ 0 := by simpa using c
  walk_at "walk"
  have e : x.fmod y = x % y := Int.fmod_eq_emod_of_nonneg x hy
  have l1 := Int.emod_nonneg x c
  have l2 := Int.emod_lt_of_pos x (show 0 < y by omega)
  refine ⟨(x.fmod y).toNat, by rw [e]; omega, y, x.fmod y, _, rfl, by rw [e]; exact l1, ?_, rfl, rfl⟩
  rw [e, gcd_step, hg]
 ·have c : y = 0 := by simpa using c
  subst c
  walk_at "walk"
  have e : (x.natAbs : Int) = ((Int.gcd a b : Nat) : Int) := by
   rw [← hg, Int.gcd_zero]
  rw [e]
  exact q
abbrev s_law_mixed : Stmt := top 40
theorem sc_law_mixed : FnScope ["_law_cell", "_law_many", "_law_number", "_law_found", "_law_k"] ["_law_cell", "_law_many"] (defScope s_law_mixed) := ⟨rfl, rfl, rfl, by decide +kernel, rfl, by decide +kernel, by decide +kernel⟩
theorem ok_mixl (F : Fun K "_law_mixed" "_law_mixed" s_law_mixed f fd) (B : Bl mg) : FnOk P w K mg base CX0 1 f fd ["_law_cell", "_law_many"] spMixL := by
 refine F.ok sc_law_mixed (fun vs H Q E h => ?_) (fun cdv A outer s H vs Q E hr h => ?_)
 ·obtain ⟨_, _, _, rfl, _⟩ := h
  rfl
 obtain ⟨G, c, eG, rfl, k⟩ := h
 have S : Sta H G H [] [] := Sta.enter eG fun p hp => absurd hp List.not_mem_nil
 refine ⟨_, (pss_cons (ps_set (i := 2) sc_law_mixed.nd rfl (by walk_at "o") (pe_op op_mod (pe_op op_addA (pe_op op_mulB (pe_op op_mod (pv 0) pe_int) pe_int) pe_int) pe_int)) (pss_cons (ps_set (i := 3) sc_law_mixed.nd rfl (by walk_at "o") (pe_lst pa_nil)) (pss_cons (ps_for PassesOwn.never rfl (pi_range1 rfl B.range (pa_cons (pv 1) pa_nil)) (pg_name (i := 4) sc_law_mixed.nd rfl (by walk_at "o")) (pss_cons (ps_set (i := 2) sc_law_mixed.nd rfl (by walk_at "o") (pe_op op_mod (pe_op op_addA (pe_op op_addA (pe_op op_addA (pe_op op_mulB (pv 2) (pv 2)) (pe_op op_mulB pe_int (pv 2))) (pv 4)) pe_int) pe_int)) (pss_one (ps_expr (pe_bm PySem.F.plainAttrs_list PySem.F.slot_list_append PySem.F.type_list_append mt_append (pv 3) (pa_cons (pv 2) pa_nil)))))) (pss_one (ps_ret (pv 3)))))), rd_start ?_⟩
 walk_at "walk"
 rename_i p1 H1 e1 S1
 refine rd_kR1 H G (by decide) (by decide) fun J wk => ?_
 refine for_wk wk (fun i σ cs ds => ∃ (m : Int) (ns : List Int) (x4 : Option V), σ = [some (.int c), some (.int 4), some (.int m), some (.ref p1), x4] ∧ cs = [(p1, ns.map PyData.int)] ∧ ds = [] ∧ ns.length = i ∧ 0 ≤ m ∧ m < 2147483647) S1
  ⟨_, [], none, rfl, rfl, rfl, rfl, Int.emod_nonneg _ (by decide), Int.emod_lt_of_pos _ (by decide)⟩ (fun _ _ _ _ _ => trivial) ?_ ?_
 ·rintro i x v σ H2 cs ds hx ⟨m, ns, x4, rfl, rfl, rfl, hl, hm0, hm1⟩ S
  obtain ⟨hi, rfl⟩ := rangeD_at hx
  cases S.int1
  have S := S.drop1
  have zm : Sz 64 m := by
   unfold Sz
   have e : (2 : Nat) ^ 64 = 18446744073709551616 := by decide
   rw [e]; omega
  have o1 : IntMulOk m m := Sz.mulOk zm zm (by decide)
  walk_at "walk"
  refine rd_append S Has.int (by rw [List.length_map]; have : i < 4 := hi; omega) fun H3 S3 => ?_
  walk_at "walk"
  refine rd_at (cs := [(p1, (ns ++ [_]).map PyData.int)]) (ds := []) (by rw [List.map_append]; exact S3) ⟨_, _, _, rfl, rfl, rfl, by rw [List.length_append, hl]; rfl, Int.emod_nonneg _ (by decide), Int.emod_lt_of_pos _ (by decide)⟩
 ·rintro σ H2 cs ds ⟨m, ns, x4, rfl, rfl, rfl, hl, hm0, hm1⟩ S
  rw [show (rangeD 0 (Int.toNat 4)).length = 4 from rfl] at hl
  obtain ⟨a, b, d, e, rfl⟩ : ∃ a b d e, ns = [a, b, d, e] := by
   match ns, hl with
   | [a, b, d, e], _ => exact ⟨a, b, d, e, rfl⟩
  walk_at "walk"
  obtain ⟨G', gr, al'⟩ := S.freeze.leave
  exact k _ _ G' a b d e gr (al' _ (by walk_at "mem"))
theorem ok_mix2 (F : Fun K "_law_mixed" "_law_mixed" s_law_mixed f fd) (B : Bl mg) : FnOk P w K mg base CX0 1 f fd ["_law_cell", "_law_many"] spMix2 := by
 refine F.ok sc_law_mixed (fun vs H Q E h => ?_) (fun cdv A outer s H vs Q E hr h => ?_)
 ·obtain ⟨_, _, _, rfl, _⟩ := h
  rfl
 obtain ⟨G, c, eG, rfl, k⟩ := h
 have S : Sta H G H [] [] := Sta.enter eG fun p hp => absurd hp List.not_mem_nil
 refine ⟨_, (pss_cons (ps_set (i := 2) sc_law_mixed.nd rfl (by walk_at "o") (pe_op op_mod (pe_op op_addA (pe_op op_mulB (pe_op op_mod (pv 0) pe_int) pe_int) pe_int) pe_int)) (pss_cons (ps_set (i := 3) sc_law_mixed.nd rfl (by walk_at "o") (pe_lst pa_nil)) (pss_cons (ps_for PassesOwn.never rfl (pi_range1 rfl B.range (pa_cons (pv 1) pa_nil)) (pg_name (i := 4) sc_law_mixed.nd rfl (by walk_at "o")) (pss_cons (ps_set (i := 2) sc_law_mixed.nd rfl (by walk_at "o") (pe_op op_mod (pe_op op_addA (pe_op op_addA (pe_op op_addA (pe_op op_mulB (pv 2) (pv 2)) (pe_op op_mulB pe_int (pv 2))) (pv 4)) pe_int) pe_int)) (pss_one (ps_expr (pe_bm PySem.F.plainAttrs_list PySem.F.slot_list_append PySem.F.type_list_append mt_append (pv 3) (pa_cons (pv 2) pa_nil)))))) (pss_one (ps_ret (pv 3)))))), rd_start ?_⟩
 walk_at "walk"
 rename_i p1 H1 e1 S1
 refine rd_kR1 H G (by decide) (by decide) fun J wk => ?_
 refine for_wk wk (fun i σ cs ds => ∃ (m : Int) (ns : List Int) (x4 : Option V), σ = [some (.int c), some (.int 2), some (.int m), some (.ref p1), x4] ∧ cs = [(p1, ns.map PyData.int)] ∧ ds = [] ∧ ns.length = i ∧ 0 ≤ m ∧ m < 2147483647) S1
  ⟨_, [], none, rfl, rfl, rfl, rfl, Int.emod_nonneg _ (by decide), Int.emod_lt_of_pos _ (by decide)⟩ (fun _ _ _ _ _ => trivial) ?_ ?_
 ·rintro i x v σ H2 cs ds hx ⟨m, ns, x4, rfl, rfl, rfl, hl, hm0, hm1⟩ S
  obtain ⟨hi, rfl⟩ := rangeD_at hx
  cases S.int1
  have S := S.drop1
  have zm : Sz 64 m := by
   unfold Sz
   have e : (2 : Nat) ^ 64 = 18446744073709551616 := by decide
   rw [e]; omega
  have o1 : IntMulOk m m := Sz.mulOk zm zm (by decide)
  walk_at "walk"
  refine rd_append S Has.int (by rw [List.length_map]; have : i < 2 := hi; omega) fun H3 S3 => ?_
  walk_at "walk"
  refine rd_at (cs := [(p1, (ns ++ [_]).map PyData.int)]) (ds := []) (by rw [List.map_append]; exact S3) ⟨_, _, _, rfl, rfl, rfl, by rw [List.length_append, hl]; rfl, Int.emod_nonneg _ (by decide), Int.emod_lt_of_pos _ (by decide)⟩
 ·rintro σ H2 cs ds ⟨m, ns, x4, rfl, rfl, rfl, hl, hm0, hm1⟩ S
  rw [show (rangeD 0 (Int.toNat 2)).length = 2 from rfl] at hl
  obtain ⟨a, b, rfl⟩ : ∃ a b, ns = [a, b] := by
   match ns, hl with
   | [a, b], _ => exact ⟨a, b, rfl⟩
  walk_at "walk"
  obtain ⟨G', gr, al'⟩ := S.freeze.leave
  exact k _ _ G' a b gr (al' _ (by walk_at "mem"))
theorem ok_mixE (B : Bl mg) (F : Fun K "_law_mixed" "_law_mixed" s_law_mixed f fd) : FnOk P w K mg base CX0 1 f fd ["_law_cell", "_law_many"] spMixE := (ok_mixl F B).or (ok_mix2 F B)
abbrev s_law_portion : Stmt := top 41
theorem sc_law_portion : FnScope ["_law_top", "_law_bottom", "_law_share"] ["_law_top", "_law_bottom"] (defScope s_law_portion) := ⟨rfl, rfl, rfl, by decide +kernel, rfl, by decide +kernel, by decide +kernel⟩
theorem ok_port (C_law_divisor : Cal P w K mg base CX0 1 "_law_divisor" ["_law_one", "_law_other"] spDiv2) (F : Fun K "_law_portion" "_law_portion" s_law_portion f fd) : FnOk P w K mg base CX0 2 f fd ["_law_top", "_law_bottom"] spPort := by
 refine F.ok sc_law_portion (fun vs H Q E h => ?_) (fun cdv A outer s H vs Q E hr h => ?_)
 ·obtain ⟨_, _, _, _, rfl, _⟩ := h
  rfl
 obtain ⟨G, a, b, eG, rfl, ⟨hb0, hb1⟩, k⟩ := h
 have S : Sta H G H [] [] := Sta.enter eG fun p hp => absurd hp List.not_mem_nil
 have hn : 2 + b - 1 ≠ 0 := by omega
 have hf := fmod_le (x := a) (n := 2 + b - 1) (by omega)
 have gp : 0 < Int.gcd (1 + a.fmod (2 + b - 1)) (2 + b) := Int.gcd_pos_of_ne_zero_right _ (by omega)
 have gl : (Int.gcd (1 + a.fmod (2 + b - 1)) (2 + b) : Int) ≤ 2 + b := by
  have := Nat.le_of_dvd (by omega) (Int.gcd_dvd_natAbs_right (1 + a.fmod (2 + b - 1)) (2 + b))
  omega
 have hc1 : CDv (1 + a.fmod (2 + b - 1)) ((Int.gcd (1 + a.fmod (2 + b - 1)) (2 + b) : Nat) : Int) := ⟨by omega, Sz.mono (sz_le210 (by omega) (by omega)) (by decide)⟩
 have hc2 : CDv (2 + b) ((Int.gcd (1 + a.fmod (2 + b - 1)) (2 + b) : Nat) : Int) := hc1
 refine ⟨_, (pss_cons (ps_set (i := 1) sc_law_portion.nd rfl (by walk_at "o") (pe_op op_addA pe_int (pv 1))) (pss_cons (ps_set (i := 0) sc_law_portion.nd rfl (by walk_at "o") (pe_op op_addA pe_int (pe_op op_modN (pv 0) (pe_op op_sub (pv 1) pe_int)))) (pss_cons (ps_set (i := 2) sc_law_portion.nd rfl (by walk_at "o") (pe_cal C_law_divisor hr (by walk_at "l") pass0 rfl (pa_cons (pv 0) (pa_cons (pv 1) pa_nil)))) (pss_one (ps_ret (pe_tup (pa_cons (pe_op op_fdivB (pv 0) (pv 2)) (pa_cons (pe_op op_fdivB (pv 1) (pv 2)) pa_nil)))))))), rd_start ?_⟩
 walk_at "walk"
 rename_i p1 H1 e1 S1
 obtain ⟨G', gr, al'⟩ := S1.leave
 refine k _ _ G' _ _ gr (al' _ (by walk_at "mem")) (port_ok (x := 1 + a.fmod (2 + b - 1)) (y := 2 + b) (by omega) (by omega) (by omega))
section
variable {A : RAd}
abbrev s_law_leaf : Stmt := top 42
theorem sc_law_leaf : FnScope ["_law_number"] ["_law_number"] (defScope s_law_leaf) := ⟨rfl, rfl, rfl, by decide +kernel, rfl, by decide +kernel, by decide +kernel⟩
theorem ok_leaf (mShares : Maker P w K mg base "Shares" (A.cls .shares) ["self"] (spInit (A.cls .shares) (α := Unit) (fun _ => []) (fun _ => Rl.shares.shape))) (mEvenly : Maker P w K mg base "Evenly" (A.cls .evenly) ["self"] (spInit (A.cls .evenly) (α := Unit) (fun _ => []) (fun _ => Rl.evenly.shape))) (mLosses : Maker P w K mg base "Losses" (A.cls .losses) ["self"] (spInit (A.cls .losses) (α := Unit) (fun _ => []) (fun _ => Rl.losses.shape))) (mHalves : Maker P w K mg base "Halves" (A.cls .halves) ["self"] (spInit (A.cls .halves) (α := Unit) (fun _ => []) (fun _ => Rl.halves.shape))) (F : Fun K "_law_leaf" "_law_leaf" s_law_leaf f fd) : FnOk P w K mg base CX0 4 f fd ["_law_number"] (spLeaf A) := by
 obtain ⟨f_Shares, fd_Shares, MK_Shares, F_Shares__init, b_Shares__init, g_Shares⟩ := mShares
 obtain ⟨f_Evenly, fd_Evenly, MK_Evenly, F_Evenly__init, b_Evenly__init, g_Evenly⟩ := mEvenly
 obtain ⟨f_Losses, fd_Losses, MK_Losses, F_Losses__init, b_Losses__init, g_Losses⟩ := mLosses
 obtain ⟨f_Halves, fd_Halves, MK_Halves, F_Halves__init, b_Halves__init, g_Halves⟩ := mHalves
 refine F.ok sc_law_leaf (fun vs H Q E h => ?_) (fun cdv A' outer s H vs Q E hr h => ?_)
 ·obtain ⟨G, a, _, h, _⟩ := h
  rw [← h.len]; rfl
 obtain ⟨G, n, eG, hA, _, k⟩ := h
 cases (isAll_ints (ns := [n]) hA)
 have S : Sta H G H [] [] := Sta.enter eG fun p hp => absurd hp List.not_mem_nil
 refine ⟨_, (pss_cons (ps_if (pt_cmpR (op_eqA (units_of hr)) (pe_op op_mod (pv 0) pe_int) pe_int (nomark _)) (pss_one (ps_ret (pe_tup (pa_cons (pe_make0 MK_Shares (F_Shares__init.mono (by walk_at "l")) hr rfl g_Shares b_Shares__init .nil pass0) (pa_cons (pe_tup (pa_cons pe_str pa_nil)) (pa_cons pe_str pa_nil)))))) pss_nil) (pss_cons (ps_if (pt_cmpR (op_eqA (units_of hr)) (pe_op op_mod (pv 0) pe_int) pe_int (nomark _)) (pss_one (ps_ret (pe_tup (pa_cons (pe_make0 MK_Evenly (F_Evenly__init.mono (by walk_at "l")) hr rfl g_Evenly b_Evenly__init .nil pass0) (pa_cons (pe_tup (pa_cons pe_str pa_nil)) (pa_cons pe_str pa_nil)))))) pss_nil) (pss_cons (ps_if (pt_cmpR (op_eqA (units_of hr)) (pe_op op_mod (pv 0) pe_int) pe_int (nomark _)) (pss_one (ps_ret (pe_tup (pa_cons (pe_make0 MK_Losses (F_Losses__init.mono (by walk_at "l")) hr rfl g_Losses b_Losses__init .nil pass0) (pa_cons (pe_tup (pa_cons pe_str pa_nil)) (pa_cons pe_str pa_nil)))))) pss_nil) (pss_one (ps_ret (pe_tup (pa_cons (pe_make0 MK_Halves (F_Halves__init.mono (by walk_at "l")) hr rfl g_Halves b_Halves__init .nil pass0) (pa_cons (pe_tup (pa_cons pe_str pa_nil)) (pa_cons pe_str pa_nil))))))))), rd_start ?_⟩
 walk_at "walk"
 refine iteD (fun _ => ?_) (fun _ => ?_)
 ·skip
  walk_at "walk"
  refine rd_kMake () S HasAll.nil fun x1 H1 e1 S1 => ?_
  walk_at "walk"
  exact ret_Rl (r := .shares) (by assumption) k (by walk_at "m") ⟨rfl, trivial⟩
 ·walk_at "walk"
  refine iteD (fun _ => ?_) (fun _ => ?_)
  ·skip
   walk_at "walk"
   refine rd_kMake () S HasAll.nil fun x1 H1 e1 S1 => ?_
   walk_at "walk"
   exact ret_Rl (r := .evenly) (by assumption) k (by walk_at "m") ⟨rfl, trivial⟩
  ·walk_at "walk"
   refine iteD (fun _ => ?_) (fun _ => ?_)
   ·skip
    walk_at "walk"
    refine rd_kMake () S HasAll.nil fun x1 H1 e1 S1 => ?_
    walk_at "walk"
    exact ret_Rl (r := .losses) (by assumption) k (by walk_at "m") ⟨rfl, trivial⟩
   ·skip
    walk_at "walk"
    refine rd_kMake () S HasAll.nil fun x1 H1 e1 S1 => ?_
    walk_at "walk"
    exact ret_Rl (r := .halves) (by assumption) k (by walk_at "m") ⟨rfl, trivial⟩
abbrev s_law_lone : Stmt := top 43
theorem sc_law_lone : FnScope ["_law_number", "_law_one"] ["_law_number", "_law_one"] (defScope s_law_lone) := ⟨rfl, rfl, rfl, by decide +kernel, rfl, by decide +kernel, by decide +kernel⟩
theorem ok_lone (mOther : Maker P w K mg base "Other" (A.cls (.other .shares)) ["self", "inner"] (spInit (A.cls (.other .shares)) (α := Rl) (fun r => [r.ins A]) (fun r => (Rl.other r).shape))) (mRanks : Maker P w K mg base "Ranks" (A.cls (.ranks .shares)) ["self", "inner"] (spInit (A.cls (.ranks .shares)) (α := Rl) (fun r => [r.ins A]) (fun r => (Rl.ranks r).shape))) (F : Fun K "_law_lone" "_law_lone" s_law_lone f fd) : FnOk P w K mg base CX0 4 f fd ["_law_number", "_law_one"] (spLone A) := by
 obtain ⟨f_Other, fd_Other, MK_Other, F_Other__init, b_Other__init, g_Other⟩ := mOther
 obtain ⟨f_Ranks, fd_Ranks, MK_Ranks, F_Ranks__init, b_Ranks__init, g_Ranks⟩ := mRanks
 refine F.ok sc_law_lone (fun vs H Q E h => ?_) (fun cdv A' outer s H vs Q E hr h => ?_)
 ·obtain ⟨G, a, _, h, _⟩ := h
  rw [← h.len]; rfl
 obtain ⟨G, ⟨n, r⟩, eG, hA, ⟨ok, sz⟩, k⟩ := h
 obtain ⟨v1, v2, rfl, al⟩ := isAll2 hA
 have S : Sta H G H [] _ := Sta.enter eG al
 cases (S.hp (x := .int n) (v := v1) (by walk_at "m")).int_of
 dsimp only at k S ok sz
 have lr : r.text.length ≤ 48000 := Nat.le_trans (r.text_len ok) (by omega)
 have l1 : ("other(" : Str).length = 6 := by decide +kernel
 have l2 : ("ranks(" : Str).length = 6 := by decide +kernel
 have l3 : (")" : Str).length = 1 := by decide +kernel
 refine ⟨_, (pss_cons (ps_if (pt_cmpR (op_eqA (units_of hr)) (pe_op op_mod (pv 0) pe_int) pe_int (nomark _)) (pss_one (ps_ret (pe_tup (pa_cons (pe_make MK_Other (F_Other__init.mono (by walk_at "l")) hr rfl g_Other b_Other__init .nil pass0 (pa_cons (pe_ix ix_seq (pv 1) pe_int (fun _ _ => rfl)) pa_nil)) (pa_cons (pe_tup (pa_cons pe_str (pa_cons (pe_ix ix_seq (pv 1) pe_int (fun _ _ => rfl)) pa_nil))) (pa_cons (pe_op op_addS (pe_op op_addS pe_str (pe_ix ix_seq (pv 1) pe_int (fun _ _ => rfl))) pe_str) pa_nil)))))) pss_nil) (pss_one (ps_ret (pe_tup (pa_cons (pe_make MK_Ranks (F_Ranks__init.mono (by walk_at "l")) hr rfl g_Ranks b_Ranks__init .nil pass0 (pa_cons (pe_ix ix_seq (pv 1) pe_int (fun _ _ => rfl)) pa_nil)) (pa_cons (pe_tup (pa_cons pe_str (pa_cons (pe_ix ix_seq (pv 1) pe_int (fun _ _ => rfl)) pa_nil))) (pa_cons (pe_op op_addS (pe_op op_addS pe_str (pe_ix ix_seq (pv 1) pe_int (fun _ _ => rfl))) pe_str) pa_nil))))))), rd_start ?_⟩
 walk_at "walk"
 refine iteD (fun _ => ?_) (fun _ => ?_)
 ·walk_at "walk"
  rename_i w1 S1
  refine rd_kMake r S1 (HasAll.cons (by walk_at "m") HasAll.nil) fun x2 H2 e2 S2 => ?_
  walk_at "walk"
  exact ret_Rl (r := .other r) (by assumption) k (by walk_at "m") ⟨rfl, ok⟩
 ·walk_at "walk"
  rename_i w1 S1
  refine rd_kMake r S1 (HasAll.cons (by walk_at "m") HasAll.nil) fun x2 H2 e2 S2 => ?_
  walk_at "walk"
  exact ret_Rl (r := .ranks r) (by assumption) k (by walk_at "m") ⟨rfl, ok⟩
abbrev s_law_pair : Stmt := top 44
theorem sc_law_pair : FnScope ["_law_number", "_law_portion_here", "_law_one", "_law_two", "_law_text"] ["_law_number", "_law_portion_here", "_law_one", "_law_two"] (defScope s_law_pair) := ⟨rfl, rfl, rfl, by decide +kernel, rfl, by decide +kernel, by decide +kernel⟩
theorem ok_pair (B : Bl mg) (mGroups : Maker P w K mg base "Groups" (A.cls (.groups .shares .shares)) ["self", "outer", "inner"] (spInit (A.cls (.groups .shares .shares)) (α := Rl × Rl) (fun r => [r.1.ins A, r.2.ins A]) (fun r => (Rl.groups r.1 r.2).shape))) (mUpto : Maker P w K mg base "Upto" (A.cls (.upto 0 0 .shares .shares)) ["self", "portion", "first", "last"] (spInit (A.cls (.upto 0 0 .shares .shares)) (α := (Int × Int) × Rl × Rl) (fun r => [.tuple [.int r.1.1, .int r.1.2], r.2.1.ins A, r.2.2.ins A]) (fun r => (Rl.upto r.1.1 r.1.2 r.2.1 r.2.2).shape))) (F : Fun K "_law_pair" "_law_pair" s_law_pair f fd) : FnOk P w K mg base CX0 4 f fd ["_law_number", "_law_portion_here", "_law_one", "_law_two"] (spPair A) := by
 obtain ⟨f_Groups, fd_Groups, MK_Groups, F_Groups__init, b_Groups__init, g_Groups⟩ := mGroups
 obtain ⟨f_Upto, fd_Upto, MK_Upto, F_Upto__init, b_Upto__init, g_Upto⟩ := mUpto
 refine F.ok sc_law_pair (fun vs H Q E h => ?_) (fun cdv A' outer s H vs Q E hr h => ?_)
 ·obtain ⟨G, a, _, h, _⟩ := h
  rw [← h.len]; rfl
 obtain ⟨G, ⟨n, ⟨t, b⟩, r, r2⟩, eG, hA, ⟨⟨⟨ht, hb⟩, hpr⟩, ⟨ok, sz⟩, ok2, sz2⟩, k⟩ := h
 obtain ⟨v1, v2, v3, v4, rfl, al⟩ := isAll4R hA
 have S : Sta H G H [] _ := Sta.enter eG al
 cases (S.hp (x := .int n) (v := v1) (by walk_at "m")).int_of
 dsimp only at k S ok sz ok2 sz2 ht hb
 have lr : r.text.length ≤ 48000 := Nat.le_trans (r.text_len ok) (by omega)
 have lr2 : r2.text.length ≤ 48000 := Nat.le_trans (r2.text_len ok2) (by omega)
 have lt := itS_len ht
 have lb := itS_len hb
 have l1 : ("groups(" : Str).length = 7 := by decide +kernel
 have l2 : ("upto(" : Str).length = 5 := by decide +kernel
 have l3 : (")" : Str).length = 1 := by decide +kernel
 have l4 : (", " : Str).length = 2 := by decide +kernel
 have l5 : ("/" : Str).length = 1 := by decide +kernel
 refine ⟨_, (pss_cons (ps_if (pt_cmpR (op_eqA (units_of hr)) (pe_op op_mod (pv 0) pe_int) pe_int (nomark _)) (pss_cons (ps_set (i := 4) sc_law_pair.nd rfl (by walk_at "o") (pe_op op_addS (pe_op op_addS (pe_op op_addS (pe_op op_addS pe_str (pe_ix ix_seq (pv 2) pe_int (fun _ _ => rfl))) pe_str) (pe_ix ix_seq (pv 3) pe_int (fun _ _ => rfl))) pe_str)) (pss_one (ps_ret (pe_tup (pa_cons (pe_make MK_Groups (F_Groups__init.mono (by walk_at "l")) hr rfl g_Groups b_Groups__init .nil pass0 (pa_cons (pe_ix ix_seq (pv 2) pe_int (fun _ _ => rfl)) (pa_cons (pe_ix ix_seq (pv 3) pe_int (fun _ _ => rfl)) pa_nil))) (pa_cons (pe_tup (pa_cons pe_str (pa_cons (pe_ix ix_seq (pv 2) pe_int (fun _ _ => rfl)) (pa_cons (pe_ix ix_seq (pv 3) pe_int (fun _ _ => rfl)) pa_nil)))) (pa_cons (pv 4) pa_nil))))))) pss_nil) (pss_cons (ps_set (i := 4) sc_law_pair.nd rfl (by walk_at "o") (pe_op op_addS (pe_op op_addS (pe_op op_addS (pe_op op_addS pe_str (pe_callTy call_strI rfl B.str bt_str (pa_cons (pe_ix ix_seq (pv 1) pe_int (fun _ _ => rfl)) pa_nil))) pe_str) (pe_callTy call_strI rfl B.str bt_str (pa_cons (pe_ix ix_seq (pv 1) pe_int (fun _ _ => rfl)) pa_nil))) pe_str)) (pss_cons (ps_set (i := 4) sc_law_pair.nd rfl (by walk_at "o") (pe_op op_addS (pe_op op_addS (pe_op op_addS (pe_op op_addS (pv 4) (pe_ix ix_seq (pv 2) pe_int (fun _ _ => rfl))) pe_str) (pe_ix ix_seq (pv 3) pe_int (fun _ _ => rfl))) pe_str)) (pss_one (ps_ret (pe_tup (pa_cons (pe_make MK_Upto (F_Upto__init.mono (by walk_at "l")) hr rfl g_Upto b_Upto__init .nil pass0 (pa_cons (pv 1) (pa_cons (pe_ix ix_seq (pv 2) pe_int (fun _ _ => rfl)) (pa_cons (pe_ix ix_seq (pv 3) pe_int (fun _ _ => rfl)) pa_nil)))) (pa_cons (pe_tup (pa_cons pe_str (pa_cons (pv 1) (pa_cons (pe_ix ix_seq (pv 2) pe_int (fun _ _ => rfl)) (pa_cons (pe_ix ix_seq (pv 3) pe_int (fun _ _ => rfl)) pa_nil))))) (pa_cons (pv 4) pa_nil))))))))), rd_start ?_⟩
 walk_at "walk"
 refine iteD (fun _ => ?_) (fun _ => ?_)
 ·walk_at "walk"
  rename_i w1 S1 w2 S2
  refine rd_kMake (r, r2) S2 (HasAll.cons (by walk_at "m") (HasAll.cons (by walk_at "m") HasAll.nil)) fun x2 H2 e2 S3 => ?_
  walk_at "walk"
  exact ret_Rl (r := .groups r r2) (by assumption) k (by walk_at "m") ⟨rfl, ok, ok2⟩
 ·walk_at "walk"
  rename_i w1 S1 w2 S2
  refine rd_kMake ((t, b), r, r2) S2 (HasAll.cons (by walk_at "m") (HasAll.cons (by walk_at "m") (HasAll.cons (by walk_at "m") HasAll.nil))) fun x2 H2 e2 S3 => ?_
  walk_at "walk"
  exact ret_Rl (r := .upto t b r r2) (by assumption) k (by walk_at "m") ⟨rfl, ⟨⟨ht, hb⟩, hpr⟩, ok, ok2⟩
end
section
variable {A : RAd}
abbrev s_law_built : Stmt := top 45
theorem sc_law_built : FnScope ["_law_cells", "_law_great", "_law_pile", "_law_parts", "_law_cell", "_law_xs", "_law_two", "_law_portion_here"] ["_law_cells", "_law_great"] (defScope s_law_built) := ⟨rfl, rfl, rfl, by decide +kernel, rfl, by decide +kernel, by decide +kernel⟩
theorem ok_built (B : Bl mg) (C_law_leaf : Cal P w K mg base CX0 4 "_law_leaf" ["_law_number"] (spLeaf A)) (C_law_lone : Cal P w K mg base CX0 4 "_law_lone" ["_law_number", "_law_one"] (spLone A)) (C_law_pair : Cal P w K mg base CX0 4 "_law_pair" ["_law_number", "_law_portion_here", "_law_one", "_law_two"] (spPair A))
 (C_law_mixed : Cal P w K mg base CX0 1 "_law_mixed" ["_law_cell", "_law_many"] spMixE) (C_law_portion : Cal P w K mg base CX0 2 "_law_portion" ["_law_top", "_law_bottom"] spPort) (F : Fun K "_law_built" "_law_built" s_law_built f fd) : FnOk P w K mg base CX0 5 f fd ["_law_cells", "_law_great"] (spBuilt A) := by
 refine F.ok sc_law_built (fun vs H Q E h => ?_) (fun cdv A' outer s H vs Q E hr h => ?_)
 ·obtain ⟨G, a, _, h, _⟩ := h
  rw [← h.len]; rfl
 obtain ⟨G, ⟨cells, g⟩, eG, hA, ⟨hcl, hg0, hg1⟩, k⟩ := h
 obtain ⟨v1, v2, rfl, al⟩ := isAll2 hA
 have S : Sta H G H [] _ := Sta.enter eG al
 cases (S.hp (x := .int g) (v := v2) (by walk_at "m")).int_of
 dsimp only at k S hcl hg0 hg1
 refine ⟨_, (pss_cons (ps_set (i := 2) sc_law_built.nd rfl (by walk_at "o") (pe_lst (pa_cons (pe_cal C_law_leaf hr (by walk_at "l") pass0 rfl (pa_cons (pe_op op_fdiv (pv 1) pe_int) pa_nil)) pa_nil))) (pss_cons (ps_set (i := 3) sc_law_built.nd rfl (by walk_at "o") pe_int) (pss_cons (ps_for PassesOwn.never rfl (pi_list (pv 0)) (pg_name (i := 4) sc_law_built.nd rfl (by walk_at "o")) (pss_cons (ps_set (i := 5) sc_law_built.nd rfl (by walk_at "o") (pe_cal C_law_mixed hr (by walk_at "l") pass0 rfl (pa_cons (pv 4) (pa_cons pe_int pa_nil)))) (pss_one (ps_if (PW.pt (pw_and (pt_cmpR (op_eqA (units_of hr)) (pe_op op_mod (pe_ix ix_seq (pv 5) pe_int (fun _ _ => rfl)) pe_int) pe_int (nomark _)) (pw_and1 (pt_cmpR op_gt (pe_callB call_lenA rfl B.len bt_len (pa_cons (pv 2) pa_nil)) pe_int (nomark _))))) (pss_cons (ps_set (i := 6) sc_law_built.nd rfl (by walk_at "o") (pe_bm0 PySem.F.plainAttrs_list PySem.F.slot_list_pop PySem.F.type_list_pop mt_pop (pv 2))) (pss_cons (ps_expr (pe_bm PySem.F.plainAttrs_list PySem.F.slot_list_append PySem.F.type_list_append mt_append (pv 2) (pa_cons (pe_cal C_law_pair hr (by walk_at "l") pass0 rfl (pa_cons (pe_ix ix_seq (pv 5) pe_int (fun _ _ => rfl)) (pa_cons (pe_cal C_law_portion hr (by walk_at "l") pass0 rfl (pa_cons (pe_ix ix_seq (pv 5) pe_int (fun _ _ => rfl)) (pa_cons (pe_op op_mod (pe_ix ix_seq (pv 5) pe_int (fun _ _ => rfl)) pe_int) pa_nil))) (pa_cons (pe_bm0 PySem.F.plainAttrs_list PySem.F.slot_list_pop PySem.F.type_list_pop mt_pop (pv 2)) (pa_cons (pv 6) pa_nil))))) pa_nil))) (pss_one (ps_set (i := 3) sc_law_built.nd rfl (by walk_at "o") (pe_op op_addA (pv 3) pe_int))))) (pss_one (ps_if (PW.pt (pw_and (pt_cmpR op_lt (pe_op op_addA (pv 3) (pe_callB call_lenA rfl B.len bt_len (pa_cons (pv 2) pa_nil))) pe_int (nomark _)) (pw_and1 (pt_cmpR op_lt (pe_op op_mod (pe_ix ix_seq (pv 5) pe_int (fun _ _ => rfl)) pe_int) pe_int (nomark _))))) (pss_cons (ps_expr (pe_bm PySem.F.plainAttrs_list PySem.F.slot_list_append PySem.F.type_list_append mt_append (pv 2) (pa_cons (pe_cal C_law_leaf hr (by walk_at "l") pass0 rfl (pa_cons (pe_ix ix_seq (pv 5) pe_int (fun _ _ => rfl)) pa_nil)) pa_nil))) (pss_one (ps_set (i := 3) sc_law_built.nd rfl (by walk_at "o") (pe_op op_addA (pv 3) pe_int)))) (pss_one (ps_if (pt_cmpR op_lt (pe_op op_addA (pv 3) (pe_callB call_lenA rfl B.len bt_len (pa_cons (pv 2) pa_nil))) pe_int (nomark _)) (pss_cons (ps_expr (pe_bm PySem.F.plainAttrs_list PySem.F.slot_list_append PySem.F.type_list_append mt_append (pv 2) (pa_cons (pe_cal C_law_lone hr (by walk_at "l") pass0 rfl (pa_cons (pe_ix ix_seq (pv 5) pe_int (fun _ _ => rfl)) (pa_cons (pe_bm0 PySem.F.plainAttrs_list PySem.F.slot_list_pop PySem.F.type_list_pop mt_pop (pv 2)) pa_nil))) pa_nil))) (pss_one (ps_set (i := 3) sc_law_built.nd rfl (by walk_at "o") (pe_op op_addA (pv 3) pe_int)))) pss_nil)))))))) (pss_cons (ps_while PassesOwn.never (pt_cmpR op_gt (pe_callB call_lenA rfl B.len bt_len (pa_cons (pv 2) pa_nil)) pe_int (nomark _)) (pss_cons (ps_set (i := 6) sc_law_built.nd rfl (by walk_at "o") (pe_bm0 PySem.F.plainAttrs_list PySem.F.slot_list_pop PySem.F.type_list_pop mt_pop (pv 2))) (pss_cons (ps_set (i := 7) sc_law_built.nd rfl (by walk_at "o") (pe_cal C_law_portion hr (by walk_at "l") pass0 rfl (pa_cons (pv 1) (pa_cons (pe_op op_mod (pe_op op_fdiv (pv 1) pe_int) (pe_op op_sub (pe_op op_pow pe_int pe_int) pe_int)) pa_nil)))) (pss_cons (ps_if (pt_cmpR op_gt (pe_callB call_lenA rfl B.len bt_len (pa_cons (pv 2) pa_nil)) pe_int (nomark _)) (pss_one (ps_set (i := 7) sc_law_built.nd rfl (by walk_at "o") (pe_cal C_law_portion hr (by walk_at "l") pass0 rfl (pa_cons (pv 1) (pa_cons (pe_op op_mod (pe_op op_fdiv (pv 1) pe_int) pe_int) pa_nil))))) pss_nil) (pss_one (ps_expr (pe_bm PySem.F.plainAttrs_list PySem.F.slot_list_append PySem.F.type_list_append mt_append (pv 2) (pa_cons (pe_cal C_law_pair hr (by walk_at "l") pass0 rfl (pa_cons (pe_op op_addA (pe_op op_fdiv (pv 1) pe_int) (pe_callB call_lenA rfl B.len bt_len (pa_cons (pv 2) pa_nil))) (pa_cons (pv 7) (pa_cons (pe_bm0 PySem.F.plainAttrs_list PySem.F.slot_list_pop PySem.F.type_list_pop mt_pop (pv 2)) (pa_cons (pv 6) pa_nil))))) pa_nil)))))))) (pss_one (ps_ret (pe_ix ix_seq (pv 2) pe_int (fun _ _ => rfl)))))))), rd_start ?_⟩
 walk_at "walk"
 refine rd_rl (α := Int) _ S (HasAll.cons Has.int HasAll.nil) trivial fun w1 H1 r1 e1 S1 h1 => ?_
 walk_at "walk"
 rename_i p2 H2 e2 S2
 have S2 : Sta H G H2 [(p2, [r1].map (Rl.trip A))] [(.list (cells.map PyData.int), v1)] := S2.dat (by walk_at "dats")
 refine rd_kILd (xs := cells.map PyData.int) S2 (by walk_at "m") fun J wk => ?_
 refine for_wk wk (fun i σ cs ds => ∃ (rs : List Rl) (x4 x5 x6 : Option V), σ = [some v1, some (.int g), some (.ref p2), some (.int (totR rs : Nat)), x4, x5, x6, none] ∧ cs = [(p2, rs.map (Rl.trip A))] ∧ ds = [(.list (cells.map PyData.int), v1)] ∧ totR rs + rs.length ≤ 12 ∧ 1 ≤ rs.length ∧ ∀ r ∈ rs, r.Ok) S2
  ⟨[r1], none, none, none, by rw [show totR [r1] = 1 by show [r1.size].sum = 1; simp [h1.1]]; rfl, rfl, rfl, by rw [show totR [r1] = 1 by show [r1.size].sum = 1; simp [h1.1]]; simp, by simp, fun r hr => by cases List.mem_singleton.mp hr; exact h1.2⟩ (fun i σ cs ds h => ?_) ?_ ?_
 ·obtain ⟨_, _, _, _, _, _, rfl, _⟩ := h
  exact .mem (by walk_at "mem")
 ·rintro i x v σ H3 cs ds hx ⟨rs, x4, x5, x6, rfl, rfl, rfl, hsum, hlen, hoks⟩ S3
  obtain ⟨c, hc, rfl⟩ := mapAt hx
  cases S3.int1
  have S3 := S3.drop1
  have fin : ∀ (ls : List Rl) (σ' : L2.St) (H5 : Hp) (y4 y5 y6 : Option V) (ds' : Dat), σ' = [some v1, some (.int g), some (.ref p2), some (.int (totR ls : Nat)), y4, y5, y6, none] → totR ls + ls.length ≤ 12 → 1 ≤ ls.length → (∀ r ∈ ls, r.Ok) → Sta H G H5 [(p2, ls.map (Rl.trip A))] ds' → (∀ p ∈ [((PyData.list (cells.map PyData.int), v1) : PyData × V)], Has ds' p.1 p.2) →
   AtP H G (fun σ cs ds => ∃ (rs : List Rl) (x4 x5 x6 : Option V), σ = [some v1, some (.int g), some (.ref p2), some (.int (totR rs : Nat)), x4, x5, x6, none] ∧ cs = [(p2, rs.map (Rl.trip A))] ∧ ds = [(.list (cells.map PyData.int), v1)] ∧ totR rs + rs.length ≤ 12 ∧ 1 ≤ rs.length ∧ ∀ r ∈ rs, r.Ok) σ' H5 := by
   rintro ls σ' H5 y4 y5 y6 ds' rfl h1 h2 h3 S5 hd
   exact rd_at (S5.dat hd) ⟨ls, y4, y5, y6, rfl, rfl, rfl, h1, h2, h3⟩
  have szs : ∀ r ∈ rs, r.size ≤ 12 := fun r hr => by
   have := mem_tot hr
   omega
  walk_at "walk"
  refine .inl (rd_mixl S3 fun wx H4 a0 a1 a2 a3 e4 S4 => ?_)
  walk_at "walk"
  refine' rd_ifand (fun h => ?_) (fun cc => ?_) (fun cc => ?_)
  rotate_left
  ·walk_at "walk"
   exact h
  ·rw [Bool.and_eq_true, decide_eq_true_eq, decide_eq_true_eq, List.length_map] at cc
   obtain ⟨ls, ra, rb, rfl⟩ : ∃ ls ra rb, rs = ls ++ [ra] ++ [rb] := by
    refine ⟨rs.dropLast.dropLast, rs.dropLast.getLast (fun z => ?_), rs.getLast (fun z => ?_), ?_⟩
    ·have := congrArg List.length z
     rw [List.length_dropLast, List.length_nil] at this
     omega
    ·rw [z, List.length_nil] at hlen
     omega
    ·rw [List.dropLast_concat_getLast, List.dropLast_concat_getLast]
   have oa := hoks ra (by simp)
   have ob := hoks rb (by simp)
   have za := szs ra (by simp)
   have zb := szs rb (by simp)
   rw [totR_snoc, totR_snoc] at hsum
   rw [List.length_append, List.length_append, List.length_singleton, List.length_singleton] at hsum
   have S4 : Sta H G H4 [(p2, (ls ++ [ra]).map (Rl.trip A) ++ [rb.trip A])] [(.list [.int a0, .int a1, .int a2, .int a3], wx), (.list (cells.map PyData.int), v1)] := by
    rw [List.map_append] at S4
    exact S4
   walk_at "walk"
   refine rd_pop S4 fun vb H5 S5 => ?_
   have S5 : Sta H G H5 [(p2, ls.map (Rl.trip A) ++ [ra.trip A])] [(rb.trip A, vb), (.list [.int a0, .int a1, .int a2, .int a3], wx), (.list (cells.map PyData.int), v1)] := by
    rw [List.map_append] at S5
    exact S5
   walk_at "walk"
   refine rd_port S5 ⟨by omega, by omega⟩ fun wp H6 t u e6 S6 hpo => ?_
   walk_at "walk"
   refine rd_pop S6 fun va H7 S7 => ?_
   walk_at "walk"
   refine rd_rl (α := Int × (Int × Int) × Rl × Rl) (a1, (t, u), ra, rb) S7 (HasAll.cons Has.int (HasAll.cons (by walk_at "m") (HasAll.cons (by walk_at "m") (HasAll.cons (by walk_at "m") HasAll.nil)))) ⟨hpo, ⟨oa, za⟩, ob, zb⟩ fun vr H8 r e8 S8 hg => ?_
   try dsimp only at hg
   walk_at "walk"
   refine rd_append S8 (.mem (List.Mem.head _)) (by rw [List.length_map]; omega) fun H9 S9 => ?_
   walk_at "walk"
   rw [show ls.map (Rl.trip A) ++ [r.trip A] = (ls ++ [r]).map (Rl.trip A) by rw [List.map_append]; rfl] at S9
   refine fin (ls ++ [r]) _ H9 (some (.int c)) (some wx) (some vb) _ ?_ ?_ ?_ ?_ S9 (by walk_at "dats")
   ·rw [show ((totR (ls ++ [r]) : Nat) : Int) = ((totR (ls ++ [ra] ++ [rb]) : Nat) : Int) + 1 by rw [totR_snoc, totR_snoc, totR_snoc, hg.1]; omega]
    rfl
   ·rw [totR_snoc, List.length_append, List.length_singleton, hg.1]
    omega
   ·simp
   ·intro z hz
    rcases List.mem_append.mp hz with h | h
    ·exact hoks z (by simp [h])
    ·cases List.mem_singleton.mp h
     exact hg.2
  ·walk_at "walk"
   refine' rd_ifand (fun h => ?_) (fun c2 => ?_) (fun c2 => ?_)
   rotate_left
   ·walk_at "walk"
    exact h
   ·rw [Bool.and_eq_true, decide_eq_true_eq, List.length_map] at c2
    walk_at "walk"
    refine rd_rl (α := Int) a1 S4 (HasAll.cons Has.int HasAll.nil) trivial fun vr H8 r e8 S8 hg => ?_
    try dsimp only at hg
    walk_at "walk"
    refine rd_append S8 (.mem (List.Mem.head _)) (by rw [List.length_map]; omega) fun H9 S9 => ?_
    walk_at "walk"
    rw [show rs.map (Rl.trip A) ++ [r.trip A] = (rs ++ [r]).map (Rl.trip A) by rw [List.map_append]; rfl] at S9
    refine fin (rs ++ [r]) _ H9 (some (.int c)) (some wx) x6 _ ?_ ?_ ?_ ?_ S9 (by walk_at "dats")
    ·rw [show ((totR (rs ++ [r]) : Nat) : Int) = ((totR rs : Nat) : Int) + 1 by rw [totR_snoc, hg.1]; omega]
     rfl
    ·rw [totR_snoc, List.length_append, List.length_singleton, hg.1]
     omega
    ·simp
    ·intro z hz
     rcases List.mem_append.mp hz with h | h
     ·exact hoks z h
     ·cases List.mem_singleton.mp h
      exact hg.2
   ·walk_at "walk"
    refine iteD (fun c3 => ?_) (fun c3 => ?_)
    ·rw [List.length_map] at c3
     obtain ⟨ls, ra, rfl⟩ : ∃ ls ra, rs = ls ++ [ra] := ⟨rs.dropLast, rs.getLast (fun z => by rw [z, List.length_nil] at hlen; omega), (List.dropLast_concat_getLast _).symm⟩
     have oa := hoks ra (by simp)
     have za := szs ra (by simp)
     rw [totR_snoc, List.length_append, List.length_singleton] at hsum c3
     have S4 : Sta H G H4 [(p2, ls.map (Rl.trip A) ++ [ra.trip A])] [(.list [.int a0, .int a1, .int a2, .int a3], wx), (.list (cells.map PyData.int), v1)] := by
      rw [List.map_append] at S4
      exact S4
     walk_at "walk"
     refine rd_pop S4 fun va H7 S7 => ?_
     walk_at "walk"
     refine rd_rl (α := Int × Rl) (a1, ra) S7 (HasAll.cons Has.int (HasAll.cons (by walk_at "m") HasAll.nil)) ⟨oa, za⟩ fun vr H8 r e8 S8 hg => ?_
     try dsimp only at hg
     walk_at "walk"
     refine rd_append S8 (.mem (List.Mem.head _)) (by rw [List.length_map]; omega) fun H9 S9 => ?_
     walk_at "walk"
     rw [show ls.map (Rl.trip A) ++ [r.trip A] = (ls ++ [r]).map (Rl.trip A) by rw [List.map_append]; rfl] at S9
     refine fin (ls ++ [r]) _ H9 (some (.int c)) (some wx) x6 _ ?_ ?_ ?_ ?_ S9 (by walk_at "dats")
     ·rw [show ((totR (ls ++ [r]) : Nat) : Int) = ((totR (ls ++ [ra]) : Nat) : Int) + 1 by rw [totR_snoc, totR_snoc, hg.1]; omega]
      rfl
     ·rw [totR_snoc, List.length_append, List.length_singleton, hg.1]
      omega
     ·simp
     ·intro z hz
      rcases List.mem_append.mp hz with h | h
      ·exact hoks z (by simp [h])
      ·cases List.mem_singleton.mp h
       exact hg.2
    ·walk_at "walk"
     exact fin rs _ H4 _ _ _ _ rfl hsum hlen hoks S4 (by walk_at "dats")
 ·rintro σ H3 cs ds ⟨rs, x4, x5, x6, rfl, rfl, rfl, hsum, hlen, hoks⟩ S3
  walk_at "walk"
  refine while_sta (fun m σ cs ds => ∃ (rs : List Rl) (x4 x5 x6 x7 x8 : Option V), σ = [some v1, some (.int g), some (.ref p2), x8, x4, x5, x6, x7] ∧ cs = [(p2, rs.map (Rl.trip A))] ∧ ds = [(.list (cells.map PyData.int), v1)] ∧ totR rs + rs.length ≤ 12 ∧ 1 ≤ rs.length ∧ (∀ r ∈ rs, r.Ok) ∧ m = rs.length) _ S3 ⟨rs, _, _, _, _, _, rfl, rfl, rfl, hsum, hlen, hoks, rfl⟩ ?_
  clear hsum hlen hoks S3 x4 x5 x6 rs
  rintro m σ H3 cs ds ⟨rs, x4, x5, x6, x7, x8, rfl, rfl, rfl, hsum, hlen, hoks, rfl⟩ S3
  walk_at "walk"
  refine rd_wh (fun c => ?_) (fun c => ?_)
  ·have c : 1 < rs.length := by
    have : (1 : Int) < (rs.length : Int) := by simpa using c
    omega
   have szs : ∀ r ∈ rs, r.size ≤ 12 := fun r hr => by
    have := mem_tot hr
    omega
   obtain ⟨ls, ra, rb, rfl⟩ : ∃ ls ra rb, rs = ls ++ [ra] ++ [rb] := by
    refine ⟨rs.dropLast.dropLast, rs.dropLast.getLast (fun z => ?_), rs.getLast (fun z => ?_), ?_⟩
    ·have := congrArg List.length z
     rw [List.length_dropLast, List.length_nil] at this
     omega
    ·rw [z, List.length_nil] at hlen
     omega
    ·rw [List.dropLast_concat_getLast, List.dropLast_concat_getLast]
   have oa := hoks ra (by simp)
   have ob := hoks rb (by simp)
   have za := szs ra (by simp)
   have zb := szs rb (by simp)
   rw [totR_snoc, totR_snoc] at hsum
   rw [List.length_append, List.length_append, List.length_singleton, List.length_singleton] at hsum
   have S3 : Sta H G H3 [(p2, (ls ++ [ra]).map (Rl.trip A) ++ [rb.trip A])] [(.list (cells.map PyData.int), v1)] := by
    rw [List.map_append] at S3
    exact S3
   walk_at "walk"
   refine rd_pop S3 fun vb H5 S5 => ?_
   have S5 : Sta H G H5 [(p2, ls.map (Rl.trip A) ++ [ra.trip A])] [(rb.trip A, vb), (.list (cells.map PyData.int), v1)] := by
    rw [List.map_append] at S5
    exact S5
   walk_at "walk"
   refine rd_port S5 ⟨by
    exact Int.emod_nonneg _ (by decide), by
    have h2 : g / 2 ≤ 10 ^ 28 := by omega
    have e : (10 : Int) ^ Int.toNat 60 = 10 ^ 60 := rfl
    rw [Int.emod_eq_of_lt (by omega) (by rw [e]; omega)]
    exact h2⟩ fun wp H6 t u e6 S6 hpo => ?_
   refine rd_name (rd_nx ?_)
   refine seq_cut' (AtP H G (fun σ cs ds => ∃ (t u : Int) (y : V), σ = [some v1, some (.int g), some (.ref p2), x8, x4, x5, some vb, some y] ∧ cs = [(p2, ls.map (Rl.trip A) ++ [ra.trip A])] ∧ ds = [(.tuple [.int t, .int u], y), (rb.trip A, vb), (.list (cells.map PyData.int), v1)] ∧ PortOk t u)) ?_ (fun nxt => ?_)
   ·rintro σ' H7 ⟨cs, ds, S7, t, u, y, rfl, rfl, rfl, hpo⟩
    walk_at "walk"
    refine rd_pop S7 fun va H8 S8 => ?_
    walk_at "walk"
    refine rd_rl (α := Int × (Int × Int) × Rl × Rl) (_, (t, u), ra, rb) S8 (HasAll.cons Has.int (HasAll.cons (by walk_at "m") (HasAll.cons (by walk_at "m") (HasAll.cons (by walk_at "m") HasAll.nil)))) ⟨hpo, ⟨oa, za⟩, ob, zb⟩ fun vr H9 r e9 S9 hg => ?_
    try dsimp only at hg
    walk_at "walk"
    refine rd_append S9 (.mem (List.Mem.head _)) (by rw [List.length_map]; omega) fun H10 S10 => ?_
    walk_at "walk"
    rw [show ls.map (Rl.trip A) ++ [r.trip A] = (ls ++ [r]).map (Rl.trip A) by rw [List.map_append]; rfl] at S10
    refine ⟨ls.length + 1, by simp, _, _, S10.dat (by walk_at "dats"), ls ++ [r], _, _, _, _, _, rfl, rfl, rfl, ?_, ?_, ?_, by simp⟩
    ·rw [totR_snoc, List.length_append, List.length_singleton, hg.1]
     omega
    ·simp
    ·intro z hz
     rcases List.mem_append.mp hz with h | h
     ·exact hoks z (by simp [h])
     ·cases List.mem_singleton.mp h
      exact hg.2
   ·walk_at "walk"
    refine iteD (fun c5 => ?_) (fun c5 => ?_)
    ·walk_at "walk"
     refine rd_port S6 ⟨by omega, by omega⟩ fun wq H7 t' u' e7 S7 hpo' => ?_
     refine rd_name (rd_nx ?_)
     exact nxt _ _ ⟨_, _, S7.dat (by walk_at "dats"), t', u', wq, rfl, rfl, rfl, hpo'⟩
    ·refine rd_next (rd_nx ?_)
     exact nxt _ _ ⟨_, _, S6.dat (by walk_at "dats"), t, u, wp, rfl, rfl, rfl, hpo⟩
  ·have c : ¬ 1 < rs.length := by
    have : ¬ (1 : Int) < (rs.length : Int) := by simpa using c
    omega
   obtain ⟨r, rfl⟩ : ∃ r, rs = [r] := by
    match rs, hlen, c with
    | [r], _, _ => exact ⟨r, rfl⟩
    | _ :: _ :: _, _, c => exact absurd (by simp) c
   walk_at "walk"
   refine rd_ixC (x := r.trip A) S3 (by walk_at "mem") rfl fun wr S4 => ?_
   refine ret_Rl (r := r) S4 k (by walk_at "m") ⟨?_, hoks r (by simp)⟩
   have : totR [r] = r.size := by show [r.size].sum = _; simp
   rw [this, List.length_singleton] at hsum
   omega
end
section
variable {fS fE CW c_NoRule : Addr} {A : RAd}
abbrev s_read_within_brackets : Stmt := top 33
theorem sc_read_within_brackets : FnScope ["walk", "word", "portion", "first", "outer"] ["walk", "word"] (defScope s_read_within_brackets) := ⟨rfl, rfl, rfl, by decide +kernel, rfl, by decide +kernel, by decide +kernel⟩
theorem ok_rwithX {n : Nat} (W_ok : WOk K fS fE CW) {fdE : FuncData} (F_Walk_expect : FnOk P w K mg base (CX2 P w) 3 fE fdE ["self", "word"] (spExpX CW c_NoRule)) (b_Walk_expect : Binds K fdE ["self", "word"] []) (mOther : Maker P w K mg base "Other" (A.cls (.other .shares)) ["self", "inner"] (spInit (A.cls (.other .shares)) (α := Rl) (fun r => [r.ins A]) (fun r => (Rl.other r).shape))) (mRanks : Maker P w K mg base "Ranks" (A.cls (.ranks .shares)) ["self", "inner"] (spInit (A.cls (.ranks .shares)) (α := Rl) (fun r => [r.ins A]) (fun r => (Rl.ranks r).shape))) (mGroups : Maker P w K mg base "Groups" (A.cls (.groups .shares .shares)) ["self", "outer", "inner"] (spInit (A.cls (.groups .shares .shares)) (α := Rl × Rl) (fun r => [r.1.ins A, r.2.ins A]) (fun r => (Rl.groups r.1 r.2).shape))) (mUpto : Maker P w K mg base "Upto" (A.cls (.upto 0 0 .shares .shares)) ["self", "portion", "first", "last"] (spInit (A.cls (.upto 0 0 .shares .shares)) (α := (Int × Int) × Rl × Rl) (fun r => [.tuple [.int r.1.1, .int r.1.2], r.2.1.ins A, r.2.2.ins A]) (fun r => (Rl.upto r.1.1 r.1.2 r.2.1 r.2.2).shape))) (C_read_portion : Cal P w K mg base (CX2 P w) 4 "read_portion" ["walk"] (spPortX CW c_NoRule)) (C_read_rule : Cal P w K mg base (CX2 P w) (2 * n + 5) "read_rule" ["walk"] (spRuleX CW c_NoRule A n)) (F : Fun K "read_within_brackets" "read_within_brackets" s_read_within_brackets f fd) : FnOk P w K mg base (CX2 P w) (2 * n + 6) f fd ["walk", "word"] (spWithX CW c_NoRule A n) := by
 obtain ⟨f_Other, fd_Other, MK_Other, F_Other__init, b_Other__init, g_Other⟩ := mOther
 obtain ⟨f_Ranks, fd_Ranks, MK_Ranks, F_Ranks__init, b_Ranks__init, g_Ranks⟩ := mRanks
 obtain ⟨f_Groups, fd_Groups, MK_Groups, F_Groups__init, b_Groups__init, g_Groups⟩ := mGroups
 obtain ⟨f_Upto, fd_Upto, MK_Upto, F_Upto__init, b_Upto__init, g_Upto⟩ := mUpto
 refine F.ok2 sc_read_within_brackets (fun vs H Q E h => ?_) (fun cdv A' outer s H vs Q E hr h => ?_)
 ·obtain ⟨_, _, _, _, _, _, rfl, _⟩ := h
  rfl
 obtain ⟨wd, hwd, G, a, T, i, rfl, eG, ga, h, hT, hi, hp, k⟩ := h
 have hT' : T.length ≤ 100000 := by omega
 have lc : (", " : Str).length = 2 := by decide +kernel
 have S : Sw a H G H [] := Sw.enter eG ga h fun p hp => absurd hp List.not_mem_nil
 refine ⟨_, (pss_cons (ps_if (pt_cmpR (op_eqA (units_of hr)) (pv 1) pe_str (nomark _)) (pss_one (ps_ret (pe_make MK_Other (F_Other__init.mono (by walk_at "l")) hr rfl g_Other b_Other__init .nil pass0 (pa_cons (pe_cal C_read_rule hr (by walk_at "l") (pass2 rfl rfl rfl (fun _ _ h => h)) rfl (pa_cons (pv 0) pa_nil)) pa_nil)))) pss_nil) (pss_cons (ps_if (pt_cmpR (op_eqA (units_of hr)) (pv 1) pe_str (nomark _)) (pss_one (ps_ret (pe_make MK_Ranks (F_Ranks__init.mono (by walk_at "l")) hr rfl g_Ranks b_Ranks__init .nil pass0 (pa_cons (pe_cal C_read_rule hr (by walk_at "l") (pass2 rfl rfl rfl (fun _ _ h => h)) rfl (pa_cons (pv 0) pa_nil)) pa_nil)))) pss_nil) (pss_cons (ps_if (pt_cmpR (op_eqA (units_of hr)) (pv 1) pe_str (nomark _)) (pss_cons (ps_set (i := 4) sc_read_within_brackets.nd rfl (by walk_at "o") (pe_cal C_read_rule hr (by walk_at "l") (pass2 rfl rfl rfl (fun _ _ h => h)) rfl (pa_cons (pv 0) pa_nil))) (pss_cons (ps_expr (pe_meth (pv 0) W_ok.cl W_ok.me (F_Walk_expect.mono (by walk_at "l")) hr b_Walk_expect .nil (pass2 rfl rfl rfl (fun _ _ h => h)) (pa_cons pe_str pa_nil))) (pss_one (ps_ret (pe_make MK_Groups (F_Groups__init.mono (by walk_at "l")) hr rfl g_Groups b_Groups__init .nil pass0 (pa_cons (pv 4) (pa_cons (pe_cal C_read_rule hr (by walk_at "l") (pass2 rfl rfl rfl (fun _ _ h => h)) rfl (pa_cons (pv 0) pa_nil)) pa_nil))))))) pss_nil) (pss_cons (ps_set (i := 2) sc_read_within_brackets.nd rfl (by walk_at "o") (pe_cal C_read_portion hr (by walk_at "l") (pass2 rfl rfl rfl (fun _ _ h => h)) rfl (pa_cons (pv 0) pa_nil))) (pss_cons (ps_expr (pe_meth (pv 0) W_ok.cl W_ok.me (F_Walk_expect.mono (by walk_at "l")) hr b_Walk_expect .nil (pass2 rfl rfl rfl (fun _ _ h => h)) (pa_cons pe_str pa_nil))) (pss_cons (ps_set (i := 3) sc_read_within_brackets.nd rfl (by walk_at "o") (pe_cal C_read_rule hr (by walk_at "l") (pass2 rfl rfl rfl (fun _ _ h => h)) rfl (pa_cons (pv 0) pa_nil))) (pss_cons (ps_expr (pe_meth (pv 0) W_ok.cl W_ok.me (F_Walk_expect.mono (by walk_at "l")) hr b_Walk_expect .nil (pass2 rfl rfl rfl (fun _ _ h => h)) (pa_cons pe_str pa_nil))) (pss_one (ps_ret (pe_make MK_Upto (F_Upto__init.mono (by walk_at "l")) hr rfl g_Upto b_Upto__init .nil pass0 (pa_cons (pv 2) (pa_cons (pv 3) (pa_cons (pe_cal C_read_rule hr (by walk_at "l") (pass2 rfl rfl rfl (fun _ _ h => h)) rfl (pa_cons (pv 0) pa_nil)) pa_nil))))))))))))), rd_start ?_⟩
 unfold brkL at hwd
 simp only [List.mem_cons, List.not_mem_nil, or_false] at hwd
 simp only [withG] at k
 rcases hwd with rfl | rfl | rfl | rfl
 ·rw [if_pos rfl] at k
  walk_at "walk"
  refine iteD (fun _ => ?_) (fun c => absurd rfl c)
  walk_at "walk"
  refine rd_spWX S h hT hi hp (fun j e H' kp => ?_) fun x j v1 H1 e kp h1 S1 => ?_
  ·rw [e] at k
   exact k H' kp
  rw [e] at k
  walk_at "walk"
  refine rd_kMakeW x S1 (HasAll.cons (by walk_at "m") HasAll.nil) fun x2 H2 e2 S2 => ?_
  exact ret_W S2 k (h1.same e2) (by walk_at "m")
 ·rw [if_neg (by decide +kernel), if_pos rfl] at k
  walk_at "walk"
  refine iteD (fun c => absurd c (by decide +kernel)) (fun _ => ?_)
  walk_at "walk"
  refine iteD (fun _ => ?_) (fun c => absurd rfl c)
  walk_at "walk"
  refine rd_spWX S h hT hi hp (fun j e H' kp => ?_) fun x j v1 H1 e kp h1 S1 => ?_
  ·rw [e] at k
   exact k H' kp
  rw [e] at k
  walk_at "walk"
  refine rd_kMakeW x S1 (HasAll.cons (by walk_at "m") HasAll.nil) fun x2 H2 e2 S2 => ?_
  exact ret_W S2 k (h1.same e2) (by walk_at "m")
 ·rw [if_neg (by decide +kernel), if_neg (by decide +kernel), if_pos rfl] at k
  walk_at "walk"
  refine iteD (fun c => absurd c (by decide +kernel)) (fun _ => ?_)
  walk_at "walk"
  refine iteD (fun c => absurd c (by decide +kernel)) (fun _ => ?_)
  walk_at "walk"
  refine iteD (fun _ => ?_) (fun c => absurd rfl c)
  walk_at "walk"
  refine rd_spWX S h hT hi hp (fun j e H' kp => ?_) fun x j v1 H1 e kp h1 S1 => ?_
  ·rw [e] at k
   exact k H' kp
  rw [e] at k
  have l1 := ruleF_end T n i x j e hi
  walk_at "walk"
  refine rd_meth ?_
  walk_at "walk"
  refine rd_kMe h1 (by rfl) ?_
  walk_at "walk"
  refine rd_expX h1 hT' (by decide +kernel) (by rw [lc]; omega) (fun hh H2 c2 h2 => ?_) (fun j2 st H' ch => ?_)
  case refine_2 =>
   simp only [Except.bind, exp_no st] at k
   exact k H' (kp.trans ch.kp)
  have ex := exp_ok hh
  simp only [Except.bind, ex] at k
  have l2 := expF_le ex l1.2
  rw [lc] at h2 k
  have l3 : j + 2 ≤ T.length := by rw [lc] at l2; exact l2.2
  have S2 := S1.ch c2 h2
  walk_at "walk"
  refine rd_spWX S2 h2 hT l3 (Nat.lt_of_le_of_lt (pc_le T (by omega)) hp) (fun j3 e3 H' kp3 => ?_) fun y j3 v3 H3 e3 kp3 h3 S3 => ?_
  ·rw [e3] at k
   exact k H' ((kp.trans c2.kp).trans kp3)
  rw [e3] at k
  walk_at "walk"
  refine rd_kMakeW (x, y) S3 (HasAll.cons (by walk_at "m") (HasAll.cons (by walk_at "m") HasAll.nil)) fun x4 H4 e4 S4 => ?_
  exact ret_W S4 k (h3.same e4) (by walk_at "m")
 ·rw [if_neg (by decide +kernel), if_neg (by decide +kernel), if_neg (by decide +kernel)] at k
  walk_at "walk"
  refine iteD (fun c => absurd c (by decide +kernel)) (fun _ => ?_)
  walk_at "walk"
  refine iteD (fun c => absurd c (by decide +kernel)) (fun _ => ?_)
  walk_at "walk"
  refine iteD (fun c => absurd c (by decide +kernel)) (fun _ => ?_)
  walk_at "walk"
  refine rd_spWX S h hT hi trivial (fun j e H' kp => ?_) fun q j0 v0 H0 e0 kp0 h0 S0 => ?_
  ·rw [e] at k
   exact k H' kp
  rw [e0] at k
  have l0 := portF_end T i q j0 e0 hi
  walk_at "walk"
  refine rd_meth ?_
  walk_at "walk"
  refine rd_kMe h0 (by rfl) ?_
  walk_at "walk"
  refine rd_expX h0 hT' (by decide +kernel) (by rw [lc]; omega) (fun hh H1 c1 h1 => ?_) (fun j2 st H' ch => ?_)
  case refine_2 =>
   simp only [Except.bind, exp_no st] at k
   exact k H' (kp0.trans ch.kp)
  have ex := exp_ok hh
  simp only [Except.bind, ex] at k
  have l2 := expF_le ex l0.2
  rw [lc] at h1 k
  have l3 : j0 + 2 ≤ T.length := by rw [lc] at l2; exact l2.2
  have S1 := S0.ch c1 h1
  have kp1 := kp0.trans c1.kp
  walk_at "walk"
  refine rd_spWX S1 h1 hT l3 (Nat.lt_of_le_of_lt (pc_le T (by omega)) hp) (fun j3 e3 H' kp3 => ?_) fun x j2 v2 H2 e2 k2 h2 S2 => ?_
  ·rw [e3] at k
   exact k H' (kp1.trans kp3)
  rw [e2] at k
  have l4 := ruleF_end T n _ x j2 e2 l3
  have kp2 := kp1.trans k2
  walk_at "walk"
  refine rd_meth ?_
  walk_at "walk"
  refine rd_kMe h2 (by rfl) ?_
  walk_at "walk"
  refine rd_expX h2 hT' (by decide +kernel) (by rw [lc]; omega) (fun hh2 H3 c3 h3 => ?_) (fun j4 st H' ch => ?_)
  case refine_2 =>
   simp only [exp_no st] at k
   exact k H' (kp2.trans ch.kp)
  have ex2 := exp_ok hh2
  simp only [ex2] at k
  have l5 := expF_le ex2 l4.2
  rw [lc] at h3 k
  have l6 : j2 + 2 ≤ T.length := by rw [lc] at l5; exact l5.2
  have S3 := S2.ch c3 h3
  have kp3 := kp2.trans c3.kp
  walk_at "walk"
  refine rd_spWX S3 h3 hT l6 (Nat.lt_of_le_of_lt (pc_le T (by omega)) hp) (fun j5 e5 H' kp5 => ?_) fun y j5 v5 H5 e5 k5 h5 S5 => ?_
  ·rw [e5] at k
   exact k H' (kp3.trans kp5)
  rw [e5] at k
  walk_at "walk"
  refine rd_kMakeW (q, x, y) S5 (HasAll.cons (by walk_at "m") (HasAll.cons (by walk_at "m") (HasAll.cons (by walk_at "m") HasAll.nil))) fun x6 H6 e6 S6 => ?_
  exact ret_W S6 k (h5.same e6) (by walk_at "m")
abbrev s_read_rule : Stmt := top 31
theorem sc_read_rule : FnScope ["walk", "word", "rule"] ["walk"] (defScope s_read_rule) := ⟨rfl, rfl, rfl, by decide +kernel, rfl, by decide +kernel, by decide +kernel⟩
theorem ok_ruleX {n : Nat} (W_ok : WOk K fS fE CW) {fdE : FuncData} (F_Walk_expect : FnOk P w K mg base (CX2 P w) 3 fE fdE ["self", "word"] (spExpX CW c_NoRule)) (b_Walk_expect : Binds K fdE ["self", "word"] []) (mShares : Maker P w K mg base "Shares" (A.cls .shares) ["self"] (spInit (A.cls .shares) (α := Unit) (fun _ => []) (fun _ => Rl.shares.shape))) (mEvenly : Maker P w K mg base "Evenly" (A.cls .evenly) ["self"] (spInit (A.cls .evenly) (α := Unit) (fun _ => []) (fun _ => Rl.evenly.shape))) (mLosses : Maker P w K mg base "Losses" (A.cls .losses) ["self"] (spInit (A.cls .losses) (α := Unit) (fun _ => []) (fun _ => Rl.losses.shape))) (mHalves : Maker P w K mg base "Halves" (A.cls .halves) ["self"] (spInit (A.cls .halves) (α := Unit) (fun _ => []) (fun _ => Rl.halves.shape))) (C_read_word : Cal P w K mg base (CX2 P w) 4 "read_word" ["walk"] (spWordX CW c_NoRule)) (C_read_within_brackets : Cal P w K mg base (CX2 P w) (2 * n + 6) "read_within_brackets" ["walk", "word"] (spWithX CW c_NoRule A n)) (F : Fun K "read_rule" "read_rule" s_read_rule f fd) : FnOk P w K mg base (CX2 P w) (2 * n + 7) f fd ["walk"] (spRuleX CW c_NoRule A (n + 1)) := by
 obtain ⟨f_Shares, fd_Shares, MK_Shares, F_Shares__init, b_Shares__init, g_Shares⟩ := mShares
 obtain ⟨f_Evenly, fd_Evenly, MK_Evenly, F_Evenly__init, b_Evenly__init, g_Evenly⟩ := mEvenly
 obtain ⟨f_Losses, fd_Losses, MK_Losses, F_Losses__init, b_Losses__init, g_Losses⟩ := mLosses
 obtain ⟨f_Halves, fd_Halves, MK_Halves, F_Halves__init, b_Halves__init, g_Halves⟩ := mHalves
 refine F.ok2 sc_read_rule (fun vs H Q E h => ?_) (fun cdv A' outer s H vs Q E hr h => ?_)
 ·obtain ⟨_, _, _, _, rfl, _⟩ := h
  rfl
 obtain ⟨G, a, T, i, rfl, eG, ga, h, hT, hi, hp, k⟩ := h
 have hT' : T.length ≤ 100000 := by omega
 have lp : (")" : Str).length = 1 := by decide +kernel
 have S : Sw a H G H [] := Sw.enter eG ga h fun p hp => absurd hp List.not_mem_nil
 unfold ruleF at k
 refine ⟨_, (pss_cons (ps_set (i := 1) sc_read_rule.nd rfl (by walk_at "o") (pe_cal C_read_word hr (by walk_at "l") (pass2 rfl rfl rfl (fun _ _ h => h)) rfl (pa_cons (pv 0) pa_nil))) (pss_cons (ps_if (pt_cmpR (op_eqA (units_of hr)) (pv 1) pe_str (nomark _)) (pss_one (ps_ret (pe_make0 MK_Shares (F_Shares__init.mono (by walk_at "l")) hr rfl g_Shares b_Shares__init .nil pass0))) pss_nil) (pss_cons (ps_if (pt_cmpR (op_eqA (units_of hr)) (pv 1) pe_str (nomark _)) (pss_one (ps_ret (pe_make0 MK_Evenly (F_Evenly__init.mono (by walk_at "l")) hr rfl g_Evenly b_Evenly__init .nil pass0))) pss_nil) (pss_cons (ps_if (pt_cmpR (op_eqA (units_of hr)) (pv 1) pe_str (nomark _)) (pss_one (ps_ret (pe_make0 MK_Losses (F_Losses__init.mono (by walk_at "l")) hr rfl g_Losses b_Losses__init .nil pass0))) pss_nil) (pss_cons (ps_if (pt_cmpR (op_eqA (units_of hr)) (pv 1) pe_str (nomark _)) (pss_one (ps_ret (pe_make0 MK_Halves (F_Halves__init.mono (by walk_at "l")) hr rfl g_Halves b_Halves__init .nil pass0))) pss_nil) (pss_cons (ps_set (i := 2) sc_read_rule.nd rfl (by walk_at "o") (pe_cal C_read_within_brackets hr (by walk_at "l") (pass2 rfl rfl rfl (fun _ _ h => h)) rfl (pa_cons (pv 0) (pa_cons (pv 1) pa_nil)))) (pss_cons (ps_expr (pe_meth (pv 0) W_ok.cl W_ok.me (F_Walk_expect.mono (by walk_at "l")) hr b_Walk_expect .nil (pass2 rfl rfl rfl (fun _ _ h => h)) (pa_cons pe_str pa_nil))) (pss_one (ps_ret (pv 2)))))))))), rd_start ?_⟩
 walk_at "walk"
 refine rd_wordF h hT' (by omega) (fun j e H' ch => ?_) (fun m wd hn hh e H1 c1 h1 => ?_)
 ·rw [e] at k
  exact k H' ch.kp
 rw [e] at k
 have S1 := S.ch c1 h1
 have hm := List.mem_of_getElem? hn
 simp only [wordsL, List.mem_cons, List.not_mem_nil, or_false] at hm
 dsimp only [Except.bind] at k
 rcases hm with rfl | rfl | rfl | rfl | rfl | rfl | rfl | rfl
 ·rw [if_pos rfl] at k
  walk_at "walk"
  refine iteD (fun _ => ?_) (fun c => absurd rfl c)
  walk_at "walk"
  refine rd_kMakeW () S1 HasAll.nil fun x2 H2 e2 S2 => ?_
  exact ret_W S2 k (h1.same e2) (by walk_at "m")
 ·rw [if_neg (by decide +kernel), if_pos rfl] at k
  walk_at "walk"
  refine iteD (fun c => absurd c (by decide +kernel)) (fun _ => ?_)
  walk_at "walk"
  refine iteD (fun _ => ?_) (fun c => absurd rfl c)
  walk_at "walk"
  refine rd_kMakeW () S1 HasAll.nil fun x2 H2 e2 S2 => ?_
  exact ret_W S2 k (h1.same e2) (by walk_at "m")
 ·rw [if_neg (by decide +kernel), if_neg (by decide +kernel), if_pos rfl] at k
  walk_at "walk"
  refine iteD (fun c => absurd c (by decide +kernel)) (fun _ => ?_)
  walk_at "walk"
  refine iteD (fun c => absurd c (by decide +kernel)) (fun _ => ?_)
  walk_at "walk"
  refine iteD (fun _ => ?_) (fun c => absurd rfl c)
  walk_at "walk"
  refine rd_kMakeW () S1 HasAll.nil fun x2 H2 e2 S2 => ?_
  exact ret_W S2 k (h1.same e2) (by walk_at "m")
 ·rw [if_neg (by decide +kernel), if_neg (by decide +kernel), if_neg (by decide +kernel), if_pos rfl] at k
  walk_at "walk"
  refine iteD (fun c => absurd c (by decide +kernel)) (fun _ => ?_)
  walk_at "walk"
  refine iteD (fun c => absurd c (by decide +kernel)) (fun _ => ?_)
  walk_at "walk"
  refine iteD (fun c => absurd c (by decide +kernel)) (fun _ => ?_)
  walk_at "walk"
  refine iteD (fun _ => ?_) (fun c => absurd rfl c)
  walk_at "walk"
  refine rd_kMakeW () S1 HasAll.nil fun x2 H2 e2 S2 => ?_
  exact ret_W S2 k (h1.same e2) (by walk_at "m")
 ·rw [if_neg (by decide +kernel), if_neg (by decide +kernel), if_neg (by decide +kernel), if_neg (by decide +kernel)] at k
  have hb := pc_word hh (by decide +kernel)
  have l1 := (wordF_end T i _ _ e hi).2
  walk_at "walk"
  refine iteD (fun c => absurd c (by decide +kernel)) (fun _ => ?_)
  walk_at "walk"
  refine iteD (fun c => absurd c (by decide +kernel)) (fun _ => ?_)
  walk_at "walk"
  refine iteD (fun c => absurd c (by decide +kernel)) (fun _ => ?_)
  walk_at "walk"
  refine iteD (fun c => absurd c (by decide +kernel)) (fun _ => ?_)
  walk_at "walk"
  refine ⟨_, by decide +kernel, rd_spWX S1 h1 hT l1 (by omega) (fun j e2 H' kp => ?_) fun x j v2 H2 e2 kp h2 S2 => ?_⟩
  ·rw [e2] at k
   exact k H' (c1.kp.trans kp)
  rw [e2] at k
  have l2 := withG_end (ruleF_end T n) _ _ x j e2 l1
  walk_at "walk"
  refine rd_meth ?_
  walk_at "walk"
  refine rd_kMe h2 (by rfl) ?_
  walk_at "walk"
  refine rd_expX h2 hT' (by decide +kernel) (by rw [lp]; omega) (fun hh2 H3 c3 h3 => ?_) (fun j4 st H' ch => ?_)
  case refine_2 =>
   simp only [Except.bind, Except.map, exp_no st] at k
   exact k H' ((c1.kp.trans kp).trans ch.kp)
  simp only [Except.bind, Except.map, exp_ok hh2] at k
  have S3 := S2.ch c3 h3
  walk_at "walk"
  exact ret_W S3 k h3 (by walk_at "m")
 ·rw [if_neg (by decide +kernel), if_neg (by decide +kernel), if_neg (by decide +kernel), if_neg (by decide +kernel)] at k
  have hb := pc_word hh (by decide +kernel)
  have l1 := (wordF_end T i _ _ e hi).2
  walk_at "walk"
  refine iteD (fun c => absurd c (by decide +kernel)) (fun _ => ?_)
  walk_at "walk"
  refine iteD (fun c => absurd c (by decide +kernel)) (fun _ => ?_)
  walk_at "walk"
  refine iteD (fun c => absurd c (by decide +kernel)) (fun _ => ?_)
  walk_at "walk"
  refine iteD (fun c => absurd c (by decide +kernel)) (fun _ => ?_)
  walk_at "walk"
  refine ⟨_, by decide +kernel, rd_spWX S1 h1 hT l1 (by omega) (fun j e2 H' kp => ?_) fun x j v2 H2 e2 kp h2 S2 => ?_⟩
  ·rw [e2] at k
   exact k H' (c1.kp.trans kp)
  rw [e2] at k
  have l2 := withG_end (ruleF_end T n) _ _ x j e2 l1
  walk_at "walk"
  refine rd_meth ?_
  walk_at "walk"
  refine rd_kMe h2 (by rfl) ?_
  walk_at "walk"
  refine rd_expX h2 hT' (by decide +kernel) (by rw [lp]; omega) (fun hh2 H3 c3 h3 => ?_) (fun j4 st H' ch => ?_)
  case refine_2 =>
   simp only [Except.bind, Except.map, exp_no st] at k
   exact k H' ((c1.kp.trans kp).trans ch.kp)
  simp only [Except.bind, Except.map, exp_ok hh2] at k
  have S3 := S2.ch c3 h3
  walk_at "walk"
  exact ret_W S3 k h3 (by walk_at "m")
 ·rw [if_neg (by decide +kernel), if_neg (by decide +kernel), if_neg (by decide +kernel), if_neg (by decide +kernel)] at k
  have hb := pc_word hh (by decide +kernel)
  have l1 := (wordF_end T i _ _ e hi).2
  walk_at "walk"
  refine iteD (fun c => absurd c (by decide +kernel)) (fun _ => ?_)
  walk_at "walk"
  refine iteD (fun c => absurd c (by decide +kernel)) (fun _ => ?_)
  walk_at "walk"
  refine iteD (fun c => absurd c (by decide +kernel)) (fun _ => ?_)
  walk_at "walk"
  refine iteD (fun c => absurd c (by decide +kernel)) (fun _ => ?_)
  walk_at "walk"
  refine ⟨_, by decide +kernel, rd_spWX S1 h1 hT l1 (by omega) (fun j e2 H' kp => ?_) fun x j v2 H2 e2 kp h2 S2 => ?_⟩
  ·rw [e2] at k
   exact k H' (c1.kp.trans kp)
  rw [e2] at k
  have l2 := withG_end (ruleF_end T n) _ _ x j e2 l1
  walk_at "walk"
  refine rd_meth ?_
  walk_at "walk"
  refine rd_kMe h2 (by rfl) ?_
  walk_at "walk"
  refine rd_expX h2 hT' (by decide +kernel) (by rw [lp]; omega) (fun hh2 H3 c3 h3 => ?_) (fun j4 st H' ch => ?_)
  case refine_2 =>
   simp only [Except.bind, Except.map, exp_no st] at k
   exact k H' ((c1.kp.trans kp).trans ch.kp)
  simp only [Except.bind, Except.map, exp_ok hh2] at k
  have S3 := S2.ch c3 h3
  walk_at "walk"
  exact ret_W S3 k h3 (by walk_at "m")
 ·rw [if_neg (by decide +kernel), if_neg (by decide +kernel), if_neg (by decide +kernel), if_neg (by decide +kernel)] at k
  have hb := pc_word hh (by decide +kernel)
  have l1 := (wordF_end T i _ _ e hi).2
  walk_at "walk"
  refine iteD (fun c => absurd c (by decide +kernel)) (fun _ => ?_)
  walk_at "walk"
  refine iteD (fun c => absurd c (by decide +kernel)) (fun _ => ?_)
  walk_at "walk"
  refine iteD (fun c => absurd c (by decide +kernel)) (fun _ => ?_)
  walk_at "walk"
  refine iteD (fun c => absurd c (by decide +kernel)) (fun _ => ?_)
  walk_at "walk"
  refine ⟨_, by decide +kernel, rd_spWX S1 h1 hT l1 (by omega) (fun j e2 H' kp => ?_) fun x j v2 H2 e2 kp h2 S2 => ?_⟩
  ·rw [e2] at k
   exact k H' (c1.kp.trans kp)
  rw [e2] at k
  have l2 := withG_end (ruleF_end T n) _ _ x j e2 l1
  walk_at "walk"
  refine rd_meth ?_
  walk_at "walk"
  refine rd_kMe h2 (by rfl) ?_
  walk_at "walk"
  refine rd_expX h2 hT' (by decide +kernel) (by rw [lp]; omega) (fun hh2 H3 c3 h3 => ?_) (fun j4 st H' ch => ?_)
  case refine_2 =>
   simp only [Except.bind, Except.map, exp_no st] at k
   exact k H' ((c1.kp.trans kp).trans ch.kp)
  simp only [Except.bind, Except.map, exp_ok hh2] at k
  have S3 := S2.ch c3 h3
  walk_at "walk"
  exact ret_W S3 k h3 (by walk_at "m")
theorem ok_rulesX (W_ok : WOk K fS fE CW) {fdE : FuncData} (F_Walk_expect : FnOk P w K mg base (CX2 P w) 3 fE fdE ["self", "word"] (spExpX CW c_NoRule)) (b_Walk_expect : Binds K fdE ["self", "word"] []) (mShares : Maker P w K mg base "Shares" (A.cls .shares) ["self"] (spInit (A.cls .shares) (α := Unit) (fun _ => []) (fun _ => Rl.shares.shape))) (mEvenly : Maker P w K mg base "Evenly" (A.cls .evenly) ["self"] (spInit (A.cls .evenly) (α := Unit) (fun _ => []) (fun _ => Rl.evenly.shape))) (mLosses : Maker P w K mg base "Losses" (A.cls .losses) ["self"] (spInit (A.cls .losses) (α := Unit) (fun _ => []) (fun _ => Rl.losses.shape))) (mHalves : Maker P w K mg base "Halves" (A.cls .halves) ["self"] (spInit (A.cls .halves) (α := Unit) (fun _ => []) (fun _ => Rl.halves.shape))) (mOther : Maker P w K mg base "Other" (A.cls (.other .shares)) ["self", "inner"] (spInit (A.cls (.other .shares)) (α := Rl) (fun r => [r.ins A]) (fun r => (Rl.other r).shape))) (mRanks : Maker P w K mg base "Ranks" (A.cls (.ranks .shares)) ["self", "inner"] (spInit (A.cls (.ranks .shares)) (α := Rl) (fun r => [r.ins A]) (fun r => (Rl.ranks r).shape))) (mGroups : Maker P w K mg base "Groups" (A.cls (.groups .shares .shares)) ["self", "outer", "inner"] (spInit (A.cls (.groups .shares .shares)) (α := Rl × Rl) (fun r => [r.1.ins A, r.2.ins A]) (fun r => (Rl.groups r.1 r.2).shape))) (mUpto : Maker P w K mg base "Upto" (A.cls (.upto 0 0 .shares .shares)) ["self", "portion", "first", "last"] (spInit (A.cls (.upto 0 0 .shares .shares)) (α := (Int × Int) × Rl × Rl) (fun r => [.tuple [.int r.1.1, .int r.1.2], r.2.1.ins A, r.2.2.ins A]) (fun r => (Rl.upto r.1.1 r.1.2 r.2.1 r.2.2).shape))) (C_read_word : Cal P w K mg base (CX2 P w) 4 "read_word" ["walk"] (spWordX CW c_NoRule)) (C_read_portion : Cal P w K mg base (CX2 P w) 4 "read_portion" ["walk"] (spPortX CW c_NoRule)) {fr fw : Addr} {fdr fdw : FuncData} (F : Fun K "read_rule" "read_rule" s_read_rule fr fdr) (hm : mg "read_rule" = some (.ref fr)) (b : Binds K fdr ["walk"] []) (Fw : Fun K "read_within_brackets" "read_within_brackets" s_read_within_brackets fw fdw) (hmw : mg "read_within_brackets" = some (.ref fw)) (bw : Binds K fdw ["walk", "word"] []) : ∀ n, FnOk P w K mg base (CX2 P w) (2 * n + 5) fr fdr ["walk"] (spRuleX CW c_NoRule A n) := by
 intro n
 induction n with
 | zero =>
   refine F.ok2 sc_read_rule (fun vs H Q E h => ?_) (fun cdv A' outer s H vs Q E hr h => ?_)
   ·obtain ⟨_, _, _, _, rfl, _⟩ := h
    rfl
   obtain ⟨G, a, T, i, rfl, eG, ga, h, hT, hi, hp, k⟩ := h
   exact absurd hp (Nat.not_lt_zero _)
 | succ n ih =>
   have C1 : Cal P w K mg base (CX2 P w) (2 * n + 5) "read_rule" ["walk"] (spRuleX CW c_NoRule A n) := ⟨fr, fdr, ih, hm, F.kp, b⟩
   have C2 : Cal P w K mg base (CX2 P w) (2 * n + 6) "read_within_brackets" ["walk", "word"] (spWithX CW c_NoRule A n) := ⟨fw, fdw, ok_rwithX W_ok F_Walk_expect b_Walk_expect mOther mRanks mGroups mUpto C_read_portion C1 Fw, hmw, Fw.kp, bw⟩
   exact ok_ruleX W_ok F_Walk_expect b_Walk_expect mShares mEvenly mLosses mHalves C_read_word C2 F
end
section
variable {fS fE CW c_NoRule c_PurseError fN : Addr} {fdN : FuncData} {A : RAd}
abbrev s_Walk___init__ : Stmt := inClass (top 29) 0
theorem sc_Walk___init__ : FnScope ["self", "signs"] ["self", "signs"] (defScope s_Walk___init__) := ⟨rfl, rfl, rfl, by decide +kernel, rfl, by decide +kernel, by decide +kernel⟩
theorem ok_winit (W_ok : WOk K fS fE CW) (F : Fun K "__init__" "Walk.__init__" s_Walk___init__ f fd) : FnOk P w K mg base CX0 1 f fd ["self", "signs"] (spWInit CW) := by
 refine F.ok sc_Walk___init__ (fun vs H Q E h => ?_) (fun cdv A outer s H vs Q E hr h => ?_)
 ·obtain ⟨_, _, _, rfl, _⟩ := h
  rfl
 obtain ⟨x, dx, T, rfl, hx, k⟩ := h
 refine ⟨_, (pss_cons (ps_fld (pv 0) (pv 1) rfl) (pss_one (ps_fld (pv 0) pe_int rfl))), rd_start ?_⟩
 refine rd_seq ?_
 refine ⟨.str T, rfl, .ref x, rfl, x, CW, dx, [], rfl, hx, W_ok.cl, W_ok.na, by decide, ?_⟩
 refine rd_nx ?_
 refine ⟨.ref x, rfl, x, CW, dx, _, rfl, upd_same, W_ok.cl, W_ok.nb, by show 1 < 1000; decide, ?_⟩
 refine k _ (Ch.upd.trans Ch.upd) ⟨dx, ?_⟩
 rw [upd_same]
 rfl
abbrev s_read : Stmt := top 30
theorem sc_read : FnScope ["text", "walk", "rule"] ["text"] (defScope s_read) := ⟨rfl, rfl, rfl, by decide +kernel, rfl, by decide +kernel, by decide +kernel⟩
theorem ok_readX {n : Nat} (MX_NoRule : ExcMk K c_NoRule c_PurseError fN) (F_NoRule__init : FnOk P w K mg base CX0 1 fN fdN ["self", "at"] (spXI c_NoRule "at")) (b_NoRule__init : Binds K fdN ["self", "at"] []) (g_NoRule : mg "NoRule" = some (.ref c_NoRule)) (W_ok : WOk K fS fE CW) {fdS fWI : FuncData} {fI : Addr} (F_Walk_sign : FnOk P w K mg base CX0 1 fS fdS ["self"] (spSign CW)) (b_Walk_sign : Binds K fdS ["self"] []) (g_Walk : mg "Walk" = some (.ref CW)) (MK_Walk : Mk K CW fI) (F_Walk__init : FnOk P w K mg base CX0 1 fI fWI ["self", "signs"] (spWInit CW)) (b_Walk__init : Binds K fWI ["self", "signs"] []) (C_read_rule : Cal P w K mg base (CX2 P w) (2 * n + 5) "read_rule" ["walk"] (spRuleX CW c_NoRule A n)) (F : Fun K "read" "read" s_read f fd) : FnOk P w K mg base (CX2 P w) (2 * n + 6) f fd ["text"] (spReadX c_NoRule A n) := by
 refine F.ok2 sc_read (fun vs H Q E h => ?_) (fun cdv A' outer s H vs Q E hr h => ?_)
 ·obtain ⟨_, _, rfl, _⟩ := h
  rfl
 obtain ⟨G, T, rfl, eG, hT, hp, k⟩ := h
 have hT' : T.length ≤ 100000 := by omega
 unfold readF at k
 refine ⟨_, (pss_cons (ps_set (i := 1) sc_read.nd rfl (by walk_at "o") (pe_make MK_Walk (F_Walk__init.mono (by walk_at "l")) hr rfl g_Walk b_Walk__init .nil pass0 (pa_cons (pv 0) pa_nil))) (pss_cons (ps_set (i := 2) sc_read.nd rfl (by walk_at "o") (pe_cal C_read_rule hr (by walk_at "l") (pass2 rfl rfl rfl (fun _ _ h => h)) rfl (pa_cons (pv 1) pa_nil))) (pss_cons (ps_if (pt_cmpR (op_neA (units_of hr)) (pe_methA (pv 1) (F_Walk_sign.mono (by walk_at "l")) hr b_Walk_sign pass0) pe_str (nomark _)) (pss_one (ps_raiseI MX_NoRule (F_NoRule__init.mono (by walk_at "l")) hr b_NoRule__init rfl g_NoRule rfl rfl rfl rfl (fun _ _ h => h) (pa_cons (pe_fld (pv 1) rfl) pa_nil))) pss_nil) (pss_one (ps_ret (pv 2)))))), rd_start ?_⟩
 walk_at "walk"
 intro x dx hx0 hd0 hne
 refine ⟨x, dx, T, rfl, upd_same, fun H2 c2 h2 => ⟨rfl, ?_⟩⟩
 have old : ∀ p o, H p = some o → H2 p = some o := fun p o hp => by
  rw [c2 p (ne_of_none hp hx0), upd_ne (ne_of_none hp hx0), upd_ne (ne_of_none hp hd0)]; exact hp
 have S : Sw x H2 G H2 [] := Sw.enter (fun p o hp => old p o (eG p o hp)) (eG.free hx0) h2 fun p hp => absurd hp List.not_mem_nil
 have kpS : ∀ {H3 : Hp}, Kp x H2 H3 → Same H H3 := fun kp p o hp => kp p o (ne_of_none hp hx0) (old p o hp)
 walk_at "walk"
 refine rd_spWX S h2 hT (Nat.zero_le _) hp (fun j e H' kp => ?_) fun r j v3 H3 e kp h3 S3 => ?_
 ·rw [e] at k
  exact k H' (kpS kp)
 rw [e] at k
 dsimp only [Except.bind] at k
 have l := ruleF_end T n 0 r j e (Nat.zero_le _)
 walk_at "walk"
 refine rd_kWS h3 W_ok ?_
 refine rd_sign h3 hT' ?_
 by_cases hj : j = T.length
 ·subst hj
  rw [if_pos rfl] at k
  rw [sgn_end]
  walk_at "walk"
  refine iteNS (by decide +kernel) ?_
  walk_at "walk"
  obtain ⟨G3, m, al3⟩ := S3.leave
  refine k _ H3 G3 ⟨kpS m.k, m.g, m.s, fun p hp => m.o p ?_⟩ (al3 _ (List.mem_singleton.mpr rfl))
  cases e : H p with
  | none => exact absurd e hp
  | some o => rw [old p o e]; simp
 ·rw [if_neg hj] at k
  walk_at "walk"
  rw [decide_eq_false (sgn_some (by omega))]
  refine (if_pos rfl).mpr ?_
  exact rd_raiseW rfl h3 W_ok (by omega) (k _ (kpS kp))
end
abbrev s_law_alike : Stmt := top 52
theorem sc_law_alike : FnScope ["_law_text", "_law_at", "_law_other", "_law_many"] ["_law_text", "_law_at", "_law_other"] (defScope s_law_alike) := ⟨rfl, rfl, rfl, by decide +kernel, rfl, by decide +kernel, by decide +kernel⟩
theorem ok_alike (B : Bl mg) (F : Fun K "_law_alike" "_law_alike" s_law_alike f fd) : FnOk P w K mg base CX0 1 f fd ["_law_text", "_law_at", "_law_other"] spAlike := by
 refine F.ok sc_law_alike (fun vs H Q E h => ?_) (fun cdv A outer s H vs Q E hr h => ?_)
 ·obtain ⟨_, _, _, rfl, _⟩ := h
  rfl
 obtain ⟨T, wd, i, rfl, hT, hw, k⟩ := h
 refine ⟨_, (pss_cons (ps_set (i := 3) sc_law_alike.nd rfl (by walk_at "o") pe_int) (pss_cons (ps_while PassesOwn.never (PW.pt (pw_and (pt_cmpR op_lt (pv 3) (pe_callB call_lenS rfl B.len bt_len (pa_cons (pv 2) pa_nil)) (nomark _)) (pw_and1 (pt_cmpR (op_eqA (units_of hr)) (pe_slice sl_str (pv 0) (po_some (pe_op op_addA (pv 1) (pv 3))) (po_some (pe_op op_addA (pe_op op_addA (pv 1) (pv 3)) pe_int))) (pe_ix ix_seq (pv 2) (pv 3) (fun _ _ => rfl)) (nomark _))))) (pss_one (ps_set (i := 3) sc_law_alike.nd rfl (by walk_at "o") (pe_op op_addA (pv 3) pe_int)))) (pss_one (ps_ret (pv 3))))), rd_start ?_⟩
 walk_at "walk"
 refine while_h (fun m σ H2 => ∃ n : Nat, σ = [some (.str T), some (.int i), some (.str wd), some (.int n)] ∧ n ≤ wd.length ∧ H2 = H ∧ m = wd.length - n ∧ ∀ j, j < n → ∀ c, wd.cps.toList[j]? = some c → sgn T (i + j) = ⟨#[c]⟩) _ ⟨0, rfl, Nat.zero_le _, rfl, rfl, fun _ z => absurd z (Nat.not_lt_zero _)⟩ ?_
 rintro m σ H2 ⟨n, rfl, hn, rfl, rfl, pre⟩
 walk_at "walk"
 refine rd_lenZ (by omega) ?_
 walk_at "walk"
 refine iteD (fun c => ?_) (fun c => ?_)
 ·have c : n < wd.length := by omega
  have hc : wd.cps.toList[n]? = some (wd.cps.toList[n]'(by rw [str_tl]; exact c)) := List.getElem?_eq_getElem _
  generalize (wd.cps.toList[n]'(by rw [str_tl]; exact c)) = x at hc
  walk_at "walk"
  refine rd_slStr (by omega) ?_
  rw [← Int.natCast_add, sgn_lit]
  walk_at "walk"
  refine rd_ixZ (by omega) hc ?_
  walk_at "walk"
  refine rd_wh (fun z => ?_) (fun z => ?_)
  ·walk_at "walk"
   refine ⟨wd.length - (n + 1), by omega, n + 1, rfl, c, rfl, rfl, fun j hj c' hc' => ?_⟩
   rcases Nat.lt_succ_iff_lt_or_eq.mp hj with y | y
   ·exact pre j y c' hc'
   ·subst y
    rw [hc] at hc'
    cases hc'
    exact of_decide_eq_true z
  ·walk_at "walk"
   have e : alk T wd.cps.toList i = n := alk_of (by rw [str_tl]; exact hn) pre fun c' hc' => by
    rw [hc] at hc'
    cases hc'
    exact of_decide_eq_false z
   rw [e] at k
   exact k
 ·walk_at "walk"
  refine rd_wh (fun z => by cases z) (fun _ => ?_)
  walk_at "walk"
  have e : alk T wd.cps.toList i = n := alk_of (by rw [str_tl]; exact hn) pre fun c' hc' => by
   have := (List.getElem?_eq_some_iff.mp hc').1
   rw [str_tl] at this
   omega
  rw [e] at k
  exact k
abbrev s_law_figures : Stmt := top 53
theorem sc_law_figures : FnScope ["_law_text", "_law_at", "_law_end"] ["_law_text", "_law_at"] (defScope s_law_figures) := ⟨rfl, rfl, rfl, by decide +kernel, rfl, by decide +kernel, by decide +kernel⟩
theorem ok_figsL (F : Fun K "_law_figures" "_law_figures" s_law_figures f fd) : FnOk P w K mg base CX0 1 f fd ["_law_text", "_law_at"] spFigs := by
 refine F.ok sc_law_figures (fun vs H Q E h => ?_) (fun cdv A outer s H vs Q E hr h => ?_)
 ·obtain ⟨_, _, rfl, _⟩ := h
  rfl
 obtain ⟨T, i, rfl, hT, k⟩ := h
 refine ⟨_, (pss_cons (ps_set (i := 2) sc_law_figures.nd rfl (by walk_at "o") (pv 1)) (pss_cons (ps_while PassesOwn.never (PW.pt (pw_and (pt_cmpR (op_neA (units_of hr)) (pe_slice sl_str (pv 0) (po_some (pv 2)) (po_some (pe_op op_addA (pv 2) pe_int))) pe_str (nomark _)) (pw_and1 (pt_cmpR op_inS (pe_ix ix_seq (pv 0) (pv 2) (fun _ _ => rfl)) pe_str rfl)))) (pss_one (ps_set (i := 2) sc_law_figures.nd rfl (by walk_at "o") (pe_op op_addA (pv 2) pe_int)))) (pss_cons (ps_if (pt_cmpR (op_eqA (units_of hr)) (pe_slice sl_str (pv 0) (po_some (pv 1)) (po_some (pe_op op_addA (pv 1) pe_int))) pe_str (nomark _)) (pss_one (ps_ret (pv 1))) pss_nil) (pss_one (ps_ret (pv 2)))))), rd_start ?_⟩
 walk_at "walk"
 have fin : ∀ n : Nat, (∀ j, j < n → sgn T (i + j) ∈ figs) → sgn T (i + n) ∉ figs → tSeq (tIfS (tTest (tOp rEqA (tSl rSlS (tVar 0) (tPart (tVar 1)) (tPart (tOp rAddA (tVar 1) (tC (.int 1))))) (tC (.str "0")))) (tRet (tVar 1)) tNext) (tRet (tVar 2)) (endD Q) [some (.str T), some (.int i), some (.int ((i + n : Nat) : Int))] H := by
  intro n pre st
  walk_at "walk"
  refine rd_slStr (by omega) ?_
  rw [sgn_lit]
  walk_at "walk"
  refine iteD (fun c => ?_) (fun c => ?_)
  ·walk_at "walk"
   rw [figsAt_none (by rw [c]; exact zero_no)] at k
   exact k
  ·walk_at "walk"
   rw [figsAt_run pre st c] at k
   exact k
 refine while_h (fun m σ H2 => ∃ n : Nat, σ = [some (.str T), some (.int i), some (.int ((i + n : Nat) : Int))] ∧ H2 = H ∧ m = T.length - (i + n) ∧ ∀ j, j < n → sgn T (i + j) ∈ figs) _ ⟨0, rfl, rfl, rfl, fun _ z => absurd z (Nat.not_lt_zero _)⟩ ?_
 rintro m σ H2 ⟨n, rfl, rfl, rfl, pre⟩
 walk_at "walk"
 refine rd_slStr (by omega) ?_
 rw [sgn_lit]
 walk_at "walk"
 refine iteNot (fun c => ?_) (fun c => ?_)
 ·obtain ⟨x, hx, ex⟩ := sgn_at (sgn_len c)
  walk_at "walk"
  refine rd_ixZ (by omega) hx ?_
  walk_at "walk"
  refine rd_inOne ?_
  walk_at "walk"
  refine rd_wh (fun z => ?_) (fun z => ?_)
  ·walk_at "walk"
   have l := sgn_len c
   refine ⟨T.length - (i + (n + 1)), by omega, n + 1, rfl, rfl, rfl, fun j hj => ?_⟩
   rcases Nat.lt_succ_iff_lt_or_eq.mp hj with y | y
   ·exact pre j y
   ·subst y
    rw [ex]
    exact fig_in.mp (of_decide_eq_true z)
  ·refine fin n pre fun y => ?_
   rw [ex] at y
   exact absurd (fig_in.mpr y) (of_decide_eq_false z)
 ·walk_at "walk"
  refine rd_wh (fun z => by cases z) (fun _ => ?_)
  exact fin n pre (sgn_emp c)
abbrev s_law_comma : Stmt := top 54
theorem sc_law_comma : FnScope ["_law_text", "_law_at", "_law_many"] ["_law_text", "_law_at"] (defScope s_law_comma) := ⟨rfl, rfl, rfl, by decide +kernel, rfl, by decide +kernel, by decide +kernel⟩
theorem ok_comma (C_law_alike : Cal P w K mg base CX0 1 "_law_alike" ["_law_text", "_law_at", "_law_other"] spAlike) (F : Fun K "_law_comma" "_law_comma" s_law_comma f fd) : FnOk P w K mg base CX0 2 f fd ["_law_text", "_law_at"] spComma := by
 refine F.ok sc_law_comma (fun vs H Q E h => ?_) (fun cdv A outer s H vs Q E hr h => ?_)
 ·obtain ⟨_, _, _, h, _⟩ := h
  rw [← h.len]; rfl
 obtain ⟨G, ⟨T, i⟩, eG, hA, hT, k⟩ := h
 have eA := isAll_si hA
 dsimp only at eA
 subst eA
 dsimp only at hT k
 have S : Sta H G H [] [] := Sta.enter eG fun p hp => absurd hp List.not_mem_nil
 refine ⟨_, (pss_cons (ps_set (i := 2) sc_law_comma.nd rfl (by walk_at "o") (pe_cal C_law_alike hr (by walk_at "l") pass0 rfl (pa_cons (pv 0) (pa_cons (pv 1) (pa_cons pe_str pa_nil))))) (pss_one (ps_ret (pe_tup (pa_cons (pe_op op_addA (pv 1) (pv 2)) (pa_cons (pe_cmpR (op_eqA (units_of hr)) (pv 2) pe_int (nomark _)) pa_nil)))))), rd_start ?_⟩
 walk_at "walk"
 refine rd_alike hT (by decide +kernel) ?_
 walk_at "walk"
 rename_i p1 H1 e1 S1
 refine ret_T S1 k ?_
 rw [Int.natCast_add, show decide (alk T cm i = 2) = decide (((alk T cm i : Nat) : Int) = 2) from decide_eq_decide.mpr ⟨fun z => by omega, fun z => by omega⟩]
 exact .mem (by walk_at "mem")
abbrev s_law_portion_read : Stmt := top 55
theorem sc_law_portion_read : FnScope ["_law_text", "_law_at", "_law_slash", "_law_end", "_law_top", "_law_bottom"] ["_law_text", "_law_at"] (defScope s_law_portion_read) := ⟨rfl, rfl, rfl, by decide +kernel, rfl, by decide +kernel, by decide +kernel⟩
theorem ok_portL (B : Bl mg) (C_law_figures : Cal P w K mg base CX0 1 "_law_figures" ["_law_text", "_law_at"] spFigs) (C_law_divisor : Cal P w K mg base CX0 1 "_law_divisor" ["_law_one", "_law_other"] spDiv2) (C_law_comma : Cal P w K mg base CX0 2 "_law_comma" ["_law_text", "_law_at"] spComma) (F : Fun K "_law_portion_read" "_law_portion_read" s_law_portion_read f fd) : FnOk P w K mg base CX0 3 f fd ["_law_text", "_law_at"] spPortL := by
 refine F.ok sc_law_portion_read (fun vs H Q E h => ?_) (fun cdv A outer s H vs Q E hr h => ?_)
 ·obtain ⟨_, _, _, h, _⟩ := h
  rw [← h.len]; rfl
 obtain ⟨G, ⟨T, i⟩, eG, hA, ⟨hT, hrun⟩, k⟩ := h
 have eA := isAll_si hA
 dsimp only at eA
 subst eA
 dsimp only at hT hrun k
 have S : Sta H G H [] [] := Sta.enter eG fun p hp => absurd hp List.not_mem_nil
 refine ⟨_, (pss_cons (ps_set (i := 2) sc_law_portion_read.nd rfl (by walk_at "o") (pe_cal C_law_figures hr (by walk_at "l") pass0 rfl (pa_cons (pv 0) (pa_cons (pv 1) pa_nil)))) (pss_cons (ps_if (PW.pt (pw_or (pt_cmpR (op_eqA (units_of hr)) (pv 2) (pv 1) (nomark _)) (pw_or1 (pt_cmpR (op_neA (units_of hr)) (pe_slice sl_str (pv 0) (po_some (pv 2)) (po_some (pe_op op_addA (pv 2) pe_int))) pe_str (nomark _))))) (pss_one (ps_ret (pe_tup (pa_cons (pv 2) (pa_cons pe_bl pa_nil))))) pss_nil) (pss_cons (ps_set (i := 3) sc_law_portion_read.nd rfl (by walk_at "o") (pe_cal C_law_figures hr (by walk_at "l") pass0 rfl (pa_cons (pv 0) (pa_cons (pe_op op_addA (pv 2) pe_int) pa_nil)))) (pss_cons (ps_if (pt_cmpR (op_eqA (units_of hr)) (pv 3) (pe_op op_addA (pv 2) pe_int) (nomark _)) (pss_one (ps_ret (pe_tup (pa_cons (pv 3) (pa_cons pe_bl pa_nil))))) pss_nil) (pss_cons (ps_set (i := 4) sc_law_portion_read.nd rfl (by walk_at "o") (pe_callTy call_intS rfl B.int bt_int (pa_cons (pe_slice sl_str (pv 0) (po_some (pv 1)) (po_some (pv 2))) pa_nil))) (pss_cons (ps_set (i := 5) sc_law_portion_read.nd rfl (by walk_at "o") (pe_callTy call_intS rfl B.int bt_int (pa_cons (pe_slice sl_str (pv 0) (po_some (pe_op op_addA (pv 2) pe_int)) (po_some (pv 3))) pa_nil))) (pss_cons (ps_if (PW.pt (pw_or (pt_cmpR op_ge (pv 4) (pv 5) (nomark _)) (pw_or1 (pt_cmpR (op_neA (units_of hr)) (pe_cal C_law_divisor hr (by walk_at "l") pass0 rfl (pa_cons (pv 4) (pa_cons (pv 5) pa_nil))) pe_int (nomark _))))) (pss_one (ps_ret (pe_tup (pa_cons (pv 3) (pa_cons pe_bl pa_nil))))) pss_nil) (pss_one (ps_ret (pe_cal C_law_comma hr (by walk_at "l") pass0 rfl (pa_cons (pv 0) (pa_cons (pv 3) pa_nil)))))))))))), rd_start ?_⟩
 walk_at "walk"
 refine rd_figs (by omega) ?_
 walk_at "walk"
 by_cases h1 : sgn T i ∈ figs.drop 1
 case neg =>
  rw [figsAt_none h1]
  rw [prt1 h1] at k
  refine (if_pos (decide_eq_true (by simp))).mpr ?_
  walk_at "walk"
  rename_i p1 H1 e1 S1
  exact ret_T S1 k (by walk_at "m")
 obtain ⟨ds, f1⟩ := figs_ex h1
 rw [f1.at]
 have p1 := f1.pos
 refine (if_neg (fun z => by have z := of_decide_eq_true z; omega)).mpr ?_
 walk_at "walk"
 refine rd_slStr (by omega) ?_
 rw [sgn_lit]
 walk_at "walk"
 refine iteNot (fun c => ?_) (fun c => ?_)
 ·rw [prt2 f1 c] at k
  walk_at "walk"
  rename_i p2 H1 e1 S1
  exact ret_T S1 k (by walk_at "m")
 walk_at "walk"
 refine rd_figs (i := i + ds.length + 1) (by omega) ?_
 walk_at "walk"
 by_cases h2 : sgn T (i + ds.length + 1) ∈ figs.drop 1
 case neg =>
  rw [figsAt_none h2]
  rw [prt3 f1 c h2] at k
  refine (if_pos (decide_eq_true (by simp))).mpr ?_
  walk_at "walk"
  rename_i p2 H1 e1 S1
  exact ret_T S1 k (by walk_at "m")
 obtain ⟨es, f2⟩ := figs_ex h2
 rw [f2.at]
 have p2 := f2.pos
 refine (if_neg (fun z => by have z := of_decide_eq_true z; omega)).mpr ?_
 have i1 := fig_int f1 rfl (Nat.le_trans (hrun _ _ f1) (by decide))
 have i2 := fig_int f2 rfl (Nat.le_trans (hrun _ _ f2) (by decide))
 walk_at "walk"
 refine rd_slStr (by omega) ?_
 walk_at "walk"
 refine rd_intS i1.2 i1.1 ?_
 walk_at "walk"
 refine rd_slStr (by omega) ?_
 walk_at "walk"
 refine rd_intS i2.2 i2.1 ?_
 walk_at "walk"
 refine' rd_ifor (fun h => ?_) (fun z => ?_) (fun z => ?_)
 rotate_left
 ·walk_at "walk"
  refine rd_div2 (valD_nn f2) ?_
  walk_at "walk"
  exact h
 ·rw [Bool.or_eq_true, decide_eq_true_eq] at z
  rw [prt4 f1 c f2 (z.imp id fun z => by
   intro e
   rw [e] at z
   exact absurd z (by decide))] at k
  walk_at "walk"
  rename_i p3 H1 e1 S1
  exact ret_T S1 k (by walk_at "m")
 ·rw [Bool.or_eq_false_iff, decide_eq_false_iff_not] at z
  rw [prt5 f1 c f2 (by
   rintro (y | y)
   ·exact z.1 y
   ·have e := z.2
    rw [decide_eq_false (by omega)] at e
    cases e)] at k
  walk_at "walk"
  refine rd_comma (i := i + ds.length + 1 + es.length) S (by omega) fun v1 H1 e1 S1 => ?_
  exact ret_T S1 k (by walk_at "m")
abbrev s_law_begin : Stmt := top 57
theorem sc_law_begin : FnScope ["_law_text", "_law_at", "_law_best", "_law_other", "_law_many"] ["_law_text", "_law_at"] (defScope s_law_begin) := ⟨rfl, rfl, rfl, by decide +kernel, rfl, by decide +kernel, by decide +kernel⟩
theorem ok_begin (B : Bl mg) (C_law_alike : Cal P w K mg base CX0 1 "_law_alike" ["_law_text", "_law_at", "_law_other"] spAlike) (F : Fun K "_law_begin" "_law_begin" s_law_begin f fd) : FnOk P w K mg base CX0 2 f fd ["_law_text", "_law_at"] spBegin := by
 refine F.ok sc_law_begin (fun vs H Q E h => ?_) (fun cdv A outer s H vs Q E hr h => ?_)
 ·obtain ⟨_, _, _, h, _⟩ := h
  rw [← h.len]; rfl
 obtain ⟨G, ⟨T, i⟩, eG, hA, hT, k⟩ := h
 have eA := isAll_si hA
 dsimp only at eA
 subst eA
 dsimp only at hT k
 have S : Sta H G H [] [] := Sta.enter eG fun p hp => absurd hp List.not_mem_nil
 refine ⟨_, (pss_cons (ps_set (i := 2) sc_law_begin.nd rfl (by walk_at "o") pe_int) (pss_cons (ps_for PassesOwn.never rfl (pi_list (pe_lst (pa_cons pe_str (pa_cons pe_str (pa_cons pe_str (pa_cons pe_str (pa_cons pe_str (pa_cons pe_str (pa_cons pe_str (pa_cons pe_str pa_nil)))))))))) (pg_name (i := 3) sc_law_begin.nd rfl (by walk_at "o")) (pss_cons (ps_set (i := 4) sc_law_begin.nd rfl (by walk_at "o") (pe_cal C_law_alike hr (by walk_at "l") pass0 rfl (pa_cons (pv 0) (pa_cons (pv 1) (pa_cons (pv 3) pa_nil))))) (pss_cons (ps_if (pt_cmpR (op_eqA (units_of hr)) (pv 4) (pe_callB call_lenS rfl B.len bt_len (pa_cons (pv 3) pa_nil)) (nomark _)) (pss_one (ps_ret (pe_tup (pa_cons (pe_op op_addA (pv 1) (pv 4)) (pa_cons (pv 3) pa_nil))))) pss_nil) (pss_one (ps_set (i := 2) sc_law_begin.nd rfl (by walk_at "o") (pe_callB (call_maxA rfl) rfl B.max bt_max (pa_cons (pv 2) (pa_cons (pv 4) pa_nil)))))))) (pss_one (ps_ret (pe_tup (pa_cons (pe_op op_addA (pv 1) (pv 2)) (pa_cons pe_str pa_nil))))))), rd_start ?_⟩
 walk_at "walk"
 rename_i p1 H1 e1 S1
 have S1 := S1.freeze
 refine rd_kILd (xs := wordsL.map PyData.str) S1 (by walk_at "m") fun J wk => ?_
 refine for_wk wk (fun n σ cs ds => ∃ (x3 x4 : Option V), σ = [some (.str T), some (.int i), some (.int ((best T i (wordsL.take n) : Nat) : Int)), x3, x4] ∧ cs = [] ∧ ds = [(.list (wordsL.map PyData.str), .ref p1)] ∧ ∀ m wd, m < n → wordsL[m]? = some wd → alk T wd.cps.toList i ≠ wd.length) S1 ⟨none, none, rfl, rfl, rfl, fun m _ h => absurd h (Nat.not_lt_zero _)⟩ (fun n σ cs ds h => ?_) ?_ ?_
 ·obtain ⟨_, _, rfl, rfl, rfl, _⟩ := h
  exact .mem (by walk_at "mem")
 ·rintro n x v σ H2 cs ds hx ⟨x3, x4, rfl, rfl, rfl, pre⟩ S2
  obtain ⟨wd, hw, rfl⟩ := mapAt hx
  obtain rfl : v = .str wd := by have z := S2.top; rw [Is] at z; exact z
  have lw := words_len n wd hw
  walk_at "walk"
  refine rd_alike hT (by omega) ?_
  walk_at "walk"
  refine rd_lenZ (by omega) ?_
  walk_at "walk"
  refine iteD (fun c => ?_) (fun c => ?_)
  ·have c : alk T wd.cps.toList i = wd.length := by omega
   walk_at "walk"
   rename_i p3 H3 e3 S3
   have ew := begF_word hw c
   refine ret_T (r := .tuple [.int ((i : Int) + ((alk T wd.cps.toList i : Nat) : Int)), .str wd]) S3 (fun v H' G' gr hv => k v H' G' gr ?_) (by walk_at "m")
   unfold begF
   rw [ew]
   dsimp only
   rw [Int.natCast_add, ← c]
   exact hv
  ·walk_at "walk"
   refine rd_at (cs := []) (ds := [(.list (wordsL.map PyData.str), .ref p1)]) (S2.dat (by walk_at "dats")) ⟨some (.str wd), some (.int ((alk T wd.cps.toList i : Nat) : Int)), ?_, rfl, rfl, fun m wd' hm hw' => ?_⟩
   ·rw [List.take_succ, hw, Option.toList_some, best_snoc, show ((max (best T i (wordsL.take n)) (alk T wd.cps.toList i) : Nat) : Int) = max ((best T i (wordsL.take n) : Nat) : Int) ((alk T wd.cps.toList i : Nat) : Int) by omega]
    rfl
   ·rcases Nat.lt_succ_iff_lt_or_eq.mp hm with y | y
    ·exact pre m wd' y hw'
    ·subst y
     rw [hw] at hw'
     cases hw'
     exact fun z => c (by rw [z])
 ·rintro σ H2 cs ds ⟨x3, x4, rfl, rfl, rfl, pre⟩ S2
  walk_at "walk"
  rename_i p3 H3 e3 S3
  have ew := begF_best (T := T) (i := i) fun wd hm => by
   obtain ⟨m, hm'⟩ := List.mem_iff_getElem?.mp hm
   exact pre m wd (by rw [List.length_map]; exact (List.getElem?_eq_some_iff.mp hm').1) hm'
  refine ret_T (r := .tuple [.int ((i : Int) + ((best T i (wordsL.take (wordsL.map PyData.str).length) : Nat) : Int)), .str ""]) S3 (fun v H' G' gr hv => k v H' G' gr ?_) (by walk_at "m")
  unfold begF
  rw [ew]
  dsimp only
  rw [List.length_map, List.take_length] at hv
  rw [Int.natCast_add]
  exact hv
abbrev s_law_behind : Stmt := top 56
theorem sc_law_behind : FnScope ["_law_text", "_law_at", "_law_pile", "_law_place", "_law_good"] ["_law_text", "_law_at", "_law_pile"] (defScope s_law_behind) := ⟨rfl, rfl, rfl, by decide +kernel, rfl, by decide +kernel, by decide +kernel⟩
theorem ok_beh (B : Bl mg) (C_law_comma : Cal P w K mg base CX0 2 "_law_comma" ["_law_text", "_law_at"] spComma) (F : Fun K "_law_behind" "_law_behind" s_law_behind f fd) : FnOk P w K mg base CX0 3 f fd ["_law_text", "_law_at", "_law_pile"] spBeh := by
 refine F.ok sc_law_behind (fun vs H Q E h => ?_) (fun cdv A outer s H vs Q E hr h => ?_)
 ·obtain ⟨_, _, _, _, _, _, rfl, _⟩ := h
  rfl
 obtain ⟨B0, G0, T, i, L, p, rfl, S, hT, hp, h1, k⟩ := h
 refine ⟨_, (pss_cons (ps_while PassesOwn.never (pt_cmpR (op_neA (units_of hr)) (pv 2) (pe_lst pa_nil) (nomark _)) (pss_cons (ps_asg (pe_op op_sub (pe_ix ix_seq (pv 2) (pe_un un_neg pe_int) (fun _ _ => rfl)) pe_int) (pg_sub (pv 2) (pe_un un_neg pe_int) set_list)) (pss_cons (ps_if (pt_cmpR op_gt (pe_ix ix_seq (pv 2) (pe_un un_neg pe_int) (fun _ _ => rfl)) pe_int (nomark _)) (pss_cons (ps_asg (pe_cal C_law_comma hr (by walk_at "l") pass0 rfl (pa_cons (pv 0) (pa_cons (pv 1) pa_nil))) (pg_tup rfl (pgs_cons (pg_name (i := 3) sc_law_behind.nd rfl (by walk_at "o")) (pgs_cons (pg_name (i := 4) sc_law_behind.nd rfl (by walk_at "o")) pgs_nil)))) (pss_one (ps_ret (pe_tup (pa_cons (pv 3) (pa_cons (pe_ix ix_seq (pe_lst (pa_cons pe_str (pa_cons pe_str pa_nil))) (pe_callTy call_int1 rfl B.int bt_int (pa_cons (pv 4) pa_nil)) (fun _ _ => rfl)) pa_nil)))))) pss_nil) (pss_cons (ps_if (pt_cmpR (op_neA (units_of hr)) (pe_slice sl_str (pv 0) (po_some (pv 1)) (po_some (pe_op op_addA (pv 1) pe_int))) pe_str (nomark _)) (pss_one (ps_ret (pe_tup (pa_cons (pv 1) (pa_cons pe_str pa_nil))))) pss_nil) (pss_cons (ps_expr (pe_bm0 PySem.F.plainAttrs_list PySem.F.slot_list_pop PySem.F.type_list_pop mt_pop (pv 2))) (pss_one (ps_set (i := 1) sc_law_behind.nd rfl (by walk_at "o") (pe_op op_addA (pv 1) pe_int)))))))) (pss_one (ps_ret (pe_tup (pa_cons (pv 1) (pa_cons (pe_ix ix_seq (pe_lst (pa_cons pe_str (pa_cons pe_str pa_nil))) (pe_callTy call_int1 rfl B.int bt_int (pa_cons (pe_cmpR (op_eqA (units_of hr)) (pv 1) (pe_callB call_lenS rfl B.len bt_len (pa_cons (pv 0) pa_nil)) (nomark _)) pa_nil)) (fun _ _ => rfl)) pa_nil)))))), rd_start ?_⟩
 walk_at "walk"
 refine while_sta (fun m σ cs ds => ∃ (j : Nat) (q : List Nat) (x3 x4 : Option V), σ = [some (.str T), some (.int j), some (.ref L), x3, x4] ∧ cs = [(L, pil q)] ∧ ds = [] ∧ q.length ≤ 900 ∧ (∀ k ∈ q, 1 ≤ k) ∧ m = q.length ∧ behF T q j = behF T p i) _ S ⟨i, p, none, none, rfl, rfl, rfl, hp, h1, rfl, rfl⟩ ?_
 rintro m σ H2 cs ds ⟨j, q, x3, x4, rfl, rfl, rfl, hq, h1, rfl, eb⟩ S2
 walk_at "walk"
 rename_i p3 H3 e3 S3
 refine rd_neD (x := .list (pil q)) (y := .list []) (S3.hpC (by walk_at "mem")) (S3.hpC (by walk_at "mem")) (shaped_pil q) shaped_nil ?_
 rw [eqv_pil]
 have S3 : Sta B0 G0 H3 [(L, pil q)] [] := S3.weak (by walk_at "sub") (by walk_at "dats")
 walk_at "walk"
 refine rd_wh (fun c => ?_) (fun c => ?_)
 ·obtain ⟨n, q, rfl⟩ : ∃ n r, q = n :: r := by
   cases q with
   | nil => exact absurd c (by decide)
   | cons n r => exact ⟨n, r, rfl⟩
  have n1 := h1 n (List.mem_cons_self ..)
  rw [pil_cons] at S3
  walk_at "walk"
  refine rd_ixCI S3 (by walk_at "mem") (atI_last _ _) ?_
  walk_at "walk"
  refine rd_setL S3 (y := .int ((n - 1 : Nat) : Int)) (by rw [show ((n - 1 : Nat) : Int) = (n : Int) - 1 by omega]; exact Has.int) (ixN_neg1 (by simp)) fun H4 S4 => ?_
  rw [pil_set] at S4
  walk_at "walk"
  refine rd_ixCI S4 (by walk_at "mem") (atI_last _ _) ?_
  walk_at "walk"
  refine iteD (fun c2 => ?_) (fun c2 => ?_)
  ·have c2 : 0 < n - 1 := by omega
   have eb : behF T p i = if alk T cm j = 2 then .goes (j + 2) ((n - 1) :: q) else .fails (j + alk T cm j) := by
    rw [← eb]
    show (if 0 < n - 1 then _ else _) = _
    rw [if_pos c2]
   walk_at "walk"
   refine rd_comma S4 (by omega) fun v5 H5 e5 S5 => ?_
   walk_at "walk"
   refine rd_kGT2 S5 (by walk_at "m") fun w1 w2 S6 => ?_
   obtain rfl := S6.int1
   obtain rfl := S6.bool_of (b := decide (alk T cm j = 2)) (by walk_at "m")
   have S6 : Sta B0 G0 H5 [(L, pil q ++ [.int ((n - 1 : Nat) : Int)])] [] := S6.dat (by walk_at "dats")
   walk_at "walk"
   rename_i p7 H7 e7 S7
   refine .inr ⟨_, rfl, ?_⟩
   change rIx _ (.ref p7) (.int _) _ _
   by_cases c3 : alk T cm j = 2
   ·rw [if_pos c3] at eb
    rw [decide_eq_true c3]
    refine rd_ixC S7 (by walk_at "mem") (x := .str "goes on") rfl fun w8 S8 => ?_
    obtain rfl := S8.str_of (b := "goes on") (by walk_at "m")
    walk_at "walk"
    rename_i p9 H9 e9 S9
    refine k _ "goes on" (pil q ++ [.int ((n - 1 : Nat) : Int)]) _ _ ?_ (S9.weak (by walk_at "sub") (by walk_at "dats"))
    rw [eb]
    refine ⟨?_, rfl, (pil_cons _ _).symm⟩
    rw [c3]
   ·rw [if_neg c3] at eb
    rw [decide_eq_false c3]
    refine rd_ixC S7 (by walk_at "mem") (x := .str "fails") rfl fun w8 S8 => ?_
    obtain rfl := S8.str_of (b := "fails") (by walk_at "m")
    walk_at "walk"
    rename_i p9 H9 e9 S9
    refine k _ "fails" (pil q ++ [.int ((n - 1 : Nat) : Int)]) _ _ ?_ (S9.weak (by walk_at "sub") (by walk_at "dats"))
    rw [eb]
    exact ⟨rfl, rfl⟩
  ·have c2 : ¬ 0 < n - 1 := by omega
   have eb : behF T p i = if sgn T j ≠ (")" : Str) then .fails j else behF T q (j + 1) := by
    rw [← eb]
    show (if 0 < n - 1 then _ else _) = _
    rw [if_neg c2]
   walk_at "walk"
   refine rd_slStr (by omega) ?_
   rw [sgn_lit]
   walk_at "walk"
   refine iteNot (fun c3 => ?_) (fun c3 => ?_)
   ·rw [if_pos c3] at eb
    walk_at "walk"
    rename_i p9 H9 e9 S9
    refine k _ "fails" (pil q ++ [.int ((n - 1 : Nat) : Int)]) _ _ ?_ (S9.weak (by walk_at "sub") (by walk_at "dats"))
    rw [eb]
    exact ⟨rfl, rfl⟩
   ·rw [if_neg (fun z => z c3)] at eb
    walk_at "walk"
    refine rd_pop S4 fun v5 H5 S5 => ?_
    walk_at "walk"
    refine ⟨q.length, by simp, _, _, S5.dat (by walk_at "dats"), j + 1, q, _, _, rfl, rfl, rfl, by rw [List.length_cons] at hq; omega, fun k hk => h1 k (List.mem_cons_of_mem _ hk), rfl, eb.symm⟩
 ·obtain rfl : q = [] := by simpa using c
  have eb : behF T p i = if j = T.length then .ends j else .fails j := by
   rw [← eb]
   rfl
  walk_at "walk"
  rename_i p7 H7 e7 S7
  refine rd_lenZ (by omega) ?_
  walk_at "walk"
  refine .inr ⟨_, rfl, ?_⟩
  change rIx _ (.ref p7) (.int _) _ _
  by_cases c3 : j = T.length
  ·rw [if_pos c3] at eb
   rw [decide_eq_true (by rw [c3])]
   refine rd_ixC S7 (by walk_at "mem") (x := .str "ends") rfl fun w8 S8 => ?_
   obtain rfl := S8.str_of (b := "ends") (by walk_at "m")
   walk_at "walk"
   rename_i p9 H9 e9 S9
   refine k _ "ends" (pil []) _ _ ?_ (S9.weak (by walk_at "sub") (by walk_at "dats"))
   rw [eb]
   exact ⟨rfl, rfl⟩
  ·rw [if_neg c3] at eb
   rw [decide_eq_false (by omega)]
   refine rd_ixC S7 (by walk_at "mem") (x := .str "fails") rfl fun w8 S8 => ?_
   obtain rfl := S8.str_of (b := "fails") (by walk_at "m")
   walk_at "walk"
   rename_i p9 H9 e9 S9
   refine k _ "fails" (pil []) _ _ ?_ (S9.weak (by walk_at "sub") (by walk_at "dats"))
   rw [eb]
   exact ⟨rfl, rfl⟩
abbrev s_law_fails : Stmt := top 58
theorem sc_law_fails : FnScope ["_law_text", "_law_pile", "_law_at", "_law_word", "_law_other", "_law_good"] ["_law_text"] (defScope s_law_fails) := ⟨rfl, rfl, rfl, by decide +kernel, rfl, by decide +kernel, by decide +kernel⟩
theorem ok_fails (B : Bl mg) (C_law_begin : Cal P w K mg base CX0 2 "_law_begin" ["_law_text", "_law_at"] spBegin) (C_law_portion_read : Cal P w K mg base CX0 3 "_law_portion_read" ["_law_text", "_law_at"] spPortL) (C_law_behind : Cal P w K mg base CX0 3 "_law_behind" ["_law_text", "_law_at", "_law_pile"] spBeh) (F : Fun K "_law_fails" "_law_fails" s_law_fails f fd) : FnOk P w K mg base CX0 4 f fd ["_law_text"] spFails := by
 refine F.ok sc_law_fails (fun vs H Q E h => ?_) (fun cdv A outer s H vs Q E hr h => ?_)
 ·obtain ⟨r, h, _⟩ := h
  rw [← h.len]; rfl
 obtain ⟨⟨T, k0, res⟩, hA, ⟨hT, hrun, hR, hpc⟩, k⟩ := h
 obtain ⟨v, rfl, al⟩ := isAll1 hA
 have S : Sta H H H [] _ := Sta.enter (Same.refl _) al
 obtain rfl := S.str_of (b := T) (by walk_at "m")
 dsimp only at hT hrun hR hpc k
 have S : Sta H H H [] [] := S.dat (by walk_at "dats")
 refine ⟨_, (pss_cons (ps_set (i := 1) sc_law_fails.nd rfl (by walk_at "o") (pe_lst pa_nil)) (pss_cons (ps_set (i := 2) sc_law_fails.nd rfl (by walk_at "o") pe_int) (pss_cons (ps_set (i := 3) sc_law_fails.nd rfl (by walk_at "o") pe_str) (pss_cons (ps_while PassesOwn.never (pt_cmpR (op_eqA (units_of hr)) (pv 3) pe_str (nomark _)) (pss_cons (ps_asg (pe_cal C_law_begin hr (by walk_at "l") pass0 rfl (pa_cons (pv 0) (pa_cons (pv 2) pa_nil))) (pg_tup rfl (pgs_cons (pg_name (i := 2) sc_law_fails.nd rfl (by walk_at "o")) (pgs_cons (pg_name (i := 4) sc_law_fails.nd rfl (by walk_at "o")) pgs_nil)))) (pss_cons (ps_if (pt_cmpR (op_eqA (units_of hr)) (pv 4) pe_str (nomark _)) (pss_one (ps_ret (pv 2))) pss_nil) (pss_cons (ps_set (i := 5) sc_law_fails.nd rfl (by walk_at "o") pe_bl) (pss_cons (ps_if (pt_cmpR (op_eqA (units_of hr)) (pv 4) pe_str (nomark _)) (pss_one (ps_asg (pe_cal C_law_portion_read hr (by walk_at "l") pass0 rfl (pa_cons (pv 0) (pa_cons (pv 2) pa_nil))) (pg_tup rfl (pgs_cons (pg_name (i := 2) sc_law_fails.nd rfl (by walk_at "o")) (pgs_cons (pg_name (i := 5) sc_law_fails.nd rfl (by walk_at "o")) pgs_nil))))) pss_nil) (pss_cons (ps_if (pt_not (pt_val (pv 5))) (pss_one (ps_ret (pv 2))) pss_nil) (pss_one (ps_if (pt_cmpR (op_eqA (units_of hr)) (pe_ix ix_seq (pv 4) (pe_un un_neg pe_int) (fun _ _ => rfl)) pe_str (nomark _)) (pss_one (ps_expr (pe_bm PySem.F.plainAttrs_list PySem.F.slot_list_append PySem.F.type_list_append mt_append (pv 1) (pa_cons (pe_op op_addS pe_int (pe_callTy call_int1 rfl B.int bt_int (pa_cons (pe_cmpR op_in_seq (pv 4) (pe_tup (pa_cons pe_str (pa_cons pe_str pa_nil))) rfl) pa_nil))) pa_nil)))) (pss_one (ps_asg (pe_cal C_law_behind hr (by walk_at "l") pass0 rfl (pa_cons (pv 0) (pa_cons (pv 2) (pa_cons (pv 1) pa_nil)))) (pg_tup rfl (pgs_cons (pg_name (i := 2) sc_law_fails.nd rfl (by walk_at "o")) (pgs_cons (pg_name (i := 3) sc_law_fails.nd rfl (by walk_at "o")) pgs_nil))))))))))))) (pss_cons (ps_if (pt_cmpR (op_eqA (units_of hr)) (pv 3) pe_str (nomark _)) (pss_one (ps_ret (pv 2))) pss_nil) (pss_one (ps_ret pe_non))))))), rd_start ?_⟩
 walk_at "walk"
 rename_i L H1 e1 S1
 have S1 : Sta H H H1 [(L, pil [])] [] := S1
 refine while_sta (fun μ σ cs ds => (∃ (i : Nat) (p : List Nat) (x4 x5 : Option V) (n : Nat), σ = [some (.str T), some (.ref L), some (.int i), some (.str "goes on"), x4, x5] ∧ cs = [(L, pil p)] ∧ ds = [] ∧ μ = n + 1 ∧ Rch T n i p res ∧ 5 * p.length ≤ i ∧ i ≤ T.length ∧ ∀ k ∈ p, 1 ≤ k) ∨
  ∃ (i : Nat) (wd : Str) (ys : List PyData) (x4 x5 : Option V), σ = [some (.str T), some (.ref L), some (.int i), some (.str wd), x4, x5] ∧ cs = [(L, ys)] ∧ ds = [] ∧ μ = 0 ∧ ((wd = "fails" ∧ res = some i) ∨ (wd = "ends" ∧ res = none))) _ S1 (.inl ⟨0, [], none, none, k0, rfl, rfl, rfl, rfl, hR, Nat.zero_le _, Nat.zero_le _, fun _ h => absurd h List.not_mem_nil⟩) ?_
 rintro μ σ H2 cs ds (⟨i, p, x4, x5, n, rfl, rfl, rfl, rfl, hR, hl, hi, h1⟩ | ⟨i, wd, ys, x4, x5, rfl, rfl, rfl, rfl, hw⟩) S2
 ·walk_at "walk"
  refine rd_wh (fun _ => ?_) (fun c => absurd rfl (of_decide_eq_false c))
  have hst : stepF T i p = .inl res ∨ ∃ m j q, n = m + 1 ∧ stepF T i p = .inr (j, q) ∧ Rch T m j q res := by
   cases hR with
   | done h => exact .inl h
   | more h g => exact .inr ⟨_, _, _, rfl, h, g⟩
  clear hR
  unfold stepF at hst
  walk_at "walk"
  refine rd_begin S2 (by omega) fun v3 H3 e3 S3 => ?_
  unfold begF at S3
  walk_at "walk"
  refine rd_kGT2 S3 (by walk_at "m") fun w1 w2 S4 => ?_
  cases hw : wordF T i with
  | error e =>
    rw [hw] at S4 hst
    dsimp only at S4 hst
    obtain rfl : res = some e := by
     rcases hst with h | ⟨_, _, _, _, h, _⟩
     ·exact (Sum.inl.inj h).symm
     ·cases h
    obtain rfl := S4.int1
    obtain rfl := S4.str_of (b := "") (by walk_at "m")
    walk_at "walk"
    refine iteD (fun _ => ?_) (fun c => absurd rfl c)
    walk_at "walk"
    exact k _ S4.base
  | ok x =>
    obtain ⟨wd, j⟩ := x
    rw [hw] at S4 hst
    dsimp only at S4 hst
    obtain ⟨hh, hm, ej⟩ := word_here hw
    have hj := wordF_end T i _ _ hw hi
    obtain ⟨ne, l7, l5⟩ := word_some hm
    obtain ⟨c, hc, ec⟩ := word_last hm
    obtain rfl := S4.int1
    obtain rfl := S4.str_of (b := wd) (by walk_at "m")
    have S4 : Sta H H H3 [(L, pil p)] [] := S4.dat (by walk_at "dats")
    walk_at "walk"
    refine iteD (fun c => absurd c ne) (fun _ => ?_)
    walk_at "walk"
    by_cases hu : wd = "upto("
    ·subst hu
     rw [if_pos rfl] at hst
     refine iteD (fun _ => ?_) (fun c => absurd rfl c)
     walk_at "walk"
     refine rd_portL S4 hT hrun fun v5 H5 e5 S5 => ?_
     unfold prtR at S5
     walk_at "walk"
     refine rd_kGT2 S5 (by walk_at "m") fun w1 w2 S6 => ?_
     cases hp : prtF T j with
     | error e =>
       rw [hp] at S6 hst
       dsimp only at S6 hst
       obtain rfl : res = some e := by
        rcases hst with h | ⟨_, _, _, _, h, _⟩
        ·exact (Sum.inl.inj h).symm
        ·cases h
       obtain rfl := S6.int1
       obtain rfl := S6.bool_of (b := false) (by walk_at "m")
       walk_at "walk"
       exact k _ S6.base
     | ok j2 =>
       rw [hp] at S6 hst
       dsimp only at S6 hst
       have hj2 := prt_end hp hj.2
       obtain ⟨m, q, j3, rfl, h, hR⟩ : ∃ m q j3, n = m + 1 ∧ (j3, q) = (j2, 2 :: p) ∧ Rch T m j3 q res := by
        rcases hst with h | ⟨m, j3, q, e, h, g⟩
        ·cases h
        ·exact ⟨m, q, j3, e, (Sum.inr.inj h).symm, g⟩
       cases h
       obtain rfl := S6.int1
       obtain rfl := S6.bool_of (b := true) (by walk_at "m")
       have S6 : Sta H H H5 [(L, pil p)] [] := S6.dat (by walk_at "dats")
       walk_at "walk"
       refine rd_ixLast (by omega) hc ?_
       walk_at "walk"
       rw [ec]
       refine iteD (fun _ => ?_) (fun c => absurd (by decide +kernel) c)
       walk_at "walk"
       rename_i p7 H7 e7 S7
       refine rd_inT (ys := ["groups(", "upto("]) S7 (by walk_at "m") ?_
       walk_at "walk"
       refine .inr ⟨_, rfl, ?_⟩
       change rAddS (.int 1) (.int _) _ _
       refine rd_addSI ?_
       walk_at "walk"
       refine rd_append (y := .int ((2 : Nat) : Int)) S7 Has.int (by rw [pil_len]; omega) fun H8 S8 => ?_
       rw [← pil_cons] at S8
       walk_at "walk"
       refine ⟨m + 1, by omega, _, _, S8.dat (by walk_at "dats"), .inl ⟨j2, 2 :: p, _, _, m, rfl, rfl, rfl, rfl, hR, ?_, hj2.2, fun k hk => ?_⟩⟩
       ·have := l5 (by decide +kernel)
        rw [List.length_cons]; omega
       ·rcases List.mem_cons.mp hk with z | z
        ·omega
        ·exact h1 k z
    ·rw [if_neg hu] at hst
     refine iteD (fun c => absurd c hu) (fun _ => ?_)
     walk_at "walk"
     refine rd_ixLast (by omega) hc ?_
     walk_at "walk"
     rw [ec]
     refine iteD (fun hb => ?_) (fun hb => ?_)
     ·have hst : ∃ m, n = m + 1 ∧ Rch T m j ((if wd = "groups(" then 2 else 1) :: p) res := by
       by_cases hg : wd = "groups("
       ·rw [if_pos hg] at hst
        rw [if_pos hg]
        rcases hst with h | ⟨m, j3, q, e, h, g⟩
        ·cases h
        ·cases h
         exact ⟨m, e, g⟩
       ·have : ∀ z ∈ brkL, z = "upto(" ∨ z = "groups(" ∨ z = "other(" ∨ z = "ranks(" := by decide +kernel
        have ho : wd = "other(" ∨ wd = "ranks(" := by
         rcases this wd hb with z | z | z
         ·exact absurd z hu
         ·exact absurd z hg
         ·exact z
        rw [if_neg hg, if_pos ho] at hst
        rw [if_neg hg]
        rcases hst with h | ⟨m, j3, q, e, h, g⟩
        ·cases h
        ·cases h
         exact ⟨m, e, g⟩
      obtain ⟨m, rfl, hR⟩ := hst
      walk_at "walk"
      rename_i p7 H7 e7 S7
      refine rd_inT (ys := ["groups(", "upto("]) S7 (by walk_at "m") ?_
      walk_at "walk"
      refine .inr ⟨_, rfl, ?_⟩
      change rAddS (.int 1) (.int _) _ _
      refine rd_addSI ?_
      walk_at "walk"
      have ev : (1 : Int) + (if decide (wd ∈ (["groups(", "upto("] : List Str)) = true then 1 else 0) = (((if wd = "groups(" then 2 else 1) : Nat) : Int) := by
       by_cases hg : wd = "groups("
       ·rw [if_pos hg, if_pos (decide_eq_true (by rw [hg]; decide +kernel))]
        rfl
       ·rw [if_neg hg, if_neg]
        ·rfl
        ·intro z
         have z := of_decide_eq_true z
         rcases List.mem_cons.mp z with z | z
         ·exact hg z
         ·exact hu (List.mem_singleton.mp z)
      rw [ev]
      refine rd_append S7 Has.int (by rw [pil_len]; omega) fun H8 S8 => ?_
      rw [← pil_cons] at S8
      walk_at "walk"
      refine ⟨m + 1, by omega, _, _, S8.dat (by walk_at "dats"), .inl ⟨j, _ :: p, _, _, m, rfl, rfl, rfl, rfl, hR, ?_, hj.2, fun k hk => ?_⟩⟩
      ·have := l5 hb
       rw [List.length_cons]; omega
      ·rcases List.mem_cons.mp hk with z | z
       ·rw [z]; split <;> omega
       ·exact h1 k z
     ·have n2 : wd ≠ "groups(" := fun z => hb (by rw [z]; decide +kernel)
      have n3 : ¬ (wd = "other(" ∨ wd = "ranks(") := fun z => hb (by rcases z with z | z <;> rw [z] <;> decide +kernel)
      rw [if_neg n2, if_neg n3] at hst
      walk_at "walk"
      refine ⟨H, H, T, j, L, p, rfl, S4, hT, by omega, h1, fun j5 w5 ys v5 H5 hbh S5 => ?_⟩
      walk_at "walk"
      refine rd_kGT2 S5 (by walk_at "m") fun w1 w2 S6 => ?_
      obtain rfl := S6.int1
      obtain rfl := S6.str_of (b := w5) (by walk_at "m")
      have S6 : Sta H H H5 [(L, ys)] [] := S6.dat (by walk_at "dats")
      walk_at "walk"
      cases hbf : behF T p j with
      | goes j' p' =>
        rw [hbf] at hbh hst
        dsimp only at hst
        obtain ⟨rfl, rfl, rfl⟩ := hbh
        obtain ⟨b1, b2, b3, b4⟩ := beh_goes hbf hj.2
        rcases hst with h | ⟨m, j3, q, rfl, h, g⟩
        ·cases h
        ·cases h
         exact ⟨m + 1, by omega, _, _, S6.dat (ds' := []) (by walk_at "dats"), .inl ⟨j', p', _, _, m, rfl, rfl, rfl, rfl, g, by omega, b2, b4 h1⟩⟩
      | fails e =>
        rw [hbf] at hbh hst
        dsimp only at hst
        obtain ⟨rfl, rfl⟩ := hbh
        rcases hst with h | ⟨m, j3, q, rfl, h, g⟩
        ·cases h
         exact ⟨0, by omega, _, _, S6.dat (ds' := []) (by walk_at "dats"), .inr ⟨e, "fails", ys, _, _, rfl, rfl, rfl, rfl, .inl ⟨rfl, rfl⟩⟩⟩
        ·cases h
      | ends e =>
        rw [hbf] at hbh hst
        dsimp only at hst
        obtain ⟨rfl, rfl⟩ := hbh
        rcases hst with h | ⟨m, j3, q, rfl, h, g⟩
        ·cases h
         exact ⟨0, by omega, _, _, S6.dat (ds' := []) (by walk_at "dats"), .inr ⟨e, "ends", ys, _, _, rfl, rfl, rfl, rfl, .inr ⟨rfl, rfl⟩⟩⟩
        ·cases h
 ·walk_at "walk"
  refine rd_wh (fun c => ?_) (fun _ => ?_)
  ·have c := of_decide_eq_true c
   rcases hw with ⟨rfl, _⟩ | ⟨rfl, _⟩
   ·exact absurd c (by decide +kernel)
   ·exact absurd c (by decide +kernel)
  walk_at "walk"
  rcases hw with ⟨rfl, rfl⟩ | ⟨rfl, rfl⟩
  ·refine iteD (fun _ => ?_) (fun c => absurd rfl c)
   walk_at "walk"
   exact k _ S2.base
  ·refine iteD (fun c => absurd c (by decide +kernel)) (fun _ => ?_)
   walk_at "walk"
   exact k _ S2.base
abbrev s_law_sign : Stmt := top 47
theorem sc_law_sign : FnScope ["_law_cell", "_law_signs"] ["_law_cell"] (defScope s_law_sign) := ⟨rfl, rfl, rfl, by decide +kernel, rfl, by decide +kernel, by decide +kernel⟩
theorem ok_lsign (B : Bl mg) (F : Fun K "_law_sign" "_law_sign" s_law_sign f fd) : FnOk P w K mg base CX0 1 f fd ["_law_cell"] spLSign := by
 refine F.ok sc_law_sign (fun vs H Q E h => ?_) (fun cdv A outer s H vs Q E hr h => ?_)
 ·obtain ⟨_, rfl, _⟩ := h
  rfl
 obtain ⟨c, rfl, k⟩ := h
 refine ⟨_, (pss_cons (ps_set (i := 1) sc_law_sign.nd rfl (by walk_at "o") pe_str) (pss_cons (ps_if (pt_cmpR (op_eqA (units_of hr)) (pe_op op_mod (pv 0) pe_int) pe_int (nomark _)) (pss_one (ps_ret (pe_ix ix_seq pe_str (pe_op op_mod (pe_op op_fdiv (pv 0) pe_int) pe_int) (fun _ _ => rfl)))) pss_nil) (pss_one (ps_ret (pe_ix ix_seq (pv 1) (pe_op op_modN (pe_op op_fdiv (pv 0) pe_int) (pe_callB call_lenS rfl B.len bt_len (pa_cons (pv 1) pa_nil))) (fun _ _ => rfl)))))), rd_start ?_⟩
 walk_at "walk"
 refine iteD (fun _ => ?_) (fun _ => ?_)
 ·walk_at "walk"
  refine rd_ixAny (by decide +kernel) (Int.emod_nonneg _ (by decide)) (Int.emod_lt_of_pos _ (by decide)) fun y hy => ?_
  exact k y hy
 ·walk_at "walk"
  refine rd_lenZ (by decide +kernel) ?_
  walk_at "walk"
  have ls : (" !\"#$&'()*+,-./0123456789:;<=>?@ABCDEFGHIJKLMNOPQRSTUVWXYZ[\\]^_`abcdefghijklmnopqrstuvwxyz{|}~" : Str).length = 94 := by decide +kernel
  rw [ls]
  refine rd_modN (by decide) ?_
  have hf := fmod_le (x := c / 2) (n := ((94 : Nat) : Int)) (by decide)
  refine rd_ixAny (by decide +kernel) hf.1 (by rw [ls]; exact hf.2) fun y hy => ?_
  exact k y hy
abbrev s_law_put_at : Stmt := top 48
theorem sc_law_put_at : FnScope ["_law_text", "_law_signs", "_law_other", "_law_cell", "_law_more", "_law_places", "_law_at"] ["_law_text", "_law_signs", "_law_other", "_law_cell", "_law_more"] (defScope s_law_put_at) := ⟨rfl, rfl, rfl, by decide +kernel, rfl, by decide +kernel, by decide +kernel⟩
theorem ok_put (B : Bl mg) (F : Fun K "_law_put_at" "_law_put_at" s_law_put_at f fd) : FnOk P w K mg base CX0 1 f fd ["_law_text", "_law_signs", "_law_other", "_law_cell", "_law_more"] spPut := by
 refine F.ok sc_law_put_at (fun vs H Q E h => ?_) (fun cdv A outer s H vs Q E hr h => ?_)
 ·obtain ⟨_, _, _, _, _, _, _, _, _, _, _, rfl, _⟩ := h
  rfl
 obtain ⟨T, sg, z, cell, m, L, R, C, l, r, c, rfl, hT, hL, hz, hl, hm, k⟩ := h
 have lT := hT.len
 have lz := hz.len
 have S : Sta H H H [] [] := Sta.enter (Same.refl _) fun p hp => absurd hp List.not_mem_nil
 refine ⟨_, (pss_cons (ps_setComp (i := 5) (N := ["_law_k", "_law_text", "_law_signs", "_law_more"]) (n := 1) (fr := [0, 1, 4]) sc_law_put_at.nd rfl rfl rfl ⟨rfl, by decide +kernel, rfl, by decide, rfl, rfl, rfl, rfl, rfl⟩ (pi_range1 rfl B.range (pa_cons (pe_callB call_lenS rfl B.len bt_len (pa_cons (pv 0) pa_nil)) pa_nil)) (fun _ _ _ _ => (pg_name (i := 0) (show (["_law_k", "_law_text", "_law_signs", "_law_more"] : List Str).Nodup from by decide +kernel) rfl (by walk_at "o"))) (fun _ _ _ _ => (pif_one (pt_cmpR op_inS (pe_ix ix_seq (pv 1) (pv 0) (fun _ _ => rfl)) (pv 2) rfl))) (fun _ _ _ _ => (pe_op op_addA (pv 0) (pv 3)))) (pss_cons (ps_if (pt_cmpR (op_eqA (units_of hr)) (pv 5) (pe_lst pa_nil) (nomark _)) (pss_one (ps_ret (pe_op op_addS (pv 0) (pv 2)))) pss_nil) (pss_cons (ps_set (i := 6) sc_law_put_at.nd rfl (by walk_at "o") (pe_ix ix_seq (pv 5) (pe_op op_modN (pv 3) (pe_callB call_lenA rfl B.len bt_len (pa_cons (pv 5) pa_nil))) (fun _ _ => rfl))) (pss_one (ps_ret (pe_op op_addS (pe_op op_addS (pe_slice sl_str (pv 0) po_none (po_some (pv 6))) (pv 2)) (pe_slice sl_str (pv 0) (po_some (pv 6)) po_none))))))), rd_start ?_⟩
 walk_at "walk"
 refine rd_lenZ (by omega) ?_
 walk_at "walk"
 refine rd_kR1 H H (by omega) (by omega) fun J wk => ?_
 refine comp_wk wk (fun j => (plcF T sg m j).map fun k => .int ((k : Nat) : Int)) S (fun _ _ => trivial) (by rw [rangeD_len]; omega) (fun j u v B' G' Kd Kn hx t1 S hd hn C ex s0 H0 => ?_) fun D H1 e1 S1 => ?_
 ·obtain ⟨hj, rfl⟩ := rangeD_at hx
  cases S.int1
  have hj : j < T.cps.toList.length := by rw [str_tl]; omega
  have hc := List.getElem?_eq_getElem hj
  refine rd_name ⟨rfl, ?_⟩
  rw [Int.zero_add]
  walk_at "walk"
  refine rd_ixZ (by omega) hc ?_
  walk_at "walk"
  refine rd_inOne ?_
  walk_at "walk"
  have ef := plc_some (m := m) (sg := sg) hc
  refine iteD (fun g => ?_) (fun g => ?_)
  ·rw [if_pos g] at ef
   walk_at "walk"
   refine hd (z := .int ((j + m : Nat) : Int)) (by rw [ef]; rfl) S ?_
   rw [Int.natCast_add]
   exact Has.int
  ·rw [if_neg g] at ef
   exact hn (by rw [ef]; rfl) S
 rw [rangeD_len, plc_eq T sg m _ (by omega)] at S1
 refine rd_name (rd_nx ?_)
 walk_at "walk"
 rename_i p2 H2 e2 S2
 refine rd_eqD (x := .list (natD (plc T sg m))) (y := .list []) (S2.hpC (by walk_at "mem")) (S2.hpC (by walk_at "mem")) (by rw [natD_row]; exact shaped_row _) shaped_nil ?_
 rw [eqv_nat]
 walk_at "walk"
 refine iteD (fun g => ?_) (fun g => ?_)
 ·walk_at "walk"
  refine k _ _ (e1.trans e2) ?_
  exact (hT.app hz).mono (by omega) (by omega) (by omega)
 ·have hp : 0 < (plc T sg m).length := List.length_pos_iff.mpr g
  walk_at "walk"
  rw [natD_len]
  refine rd_modN (by omega) ?_
  have hf := fmod_le (x := cell) (n := (((plc T sg m).length : Nat) : Int)) (by omega)
  refine rd_ixNat S2 (ns := plc T sg m) (by walk_at "mem") hf.1 hf.2 fun a ha => ?_
  have la := plc_le ha
  have l1 := Txt.slice_le T none (some ((a : Nat) : Int))
  have l2 := Txt.slice_le T (some ((a : Nat) : Int)) none
  walk_at "walk"
  refine rd_slStr (by omega) ?_
  walk_at "walk"
  refine rd_slStr (by omega) ?_
  walk_at "walk"
  exact k _ _ (e1.trans e2) (hT.splice hz (Nat.le_refl a) (splice_eq a (by omega)))
abbrev s_law_other_portion : Stmt := top 49
theorem sc_law_other_portion : FnScope ["_law_text", "_law_cell", "_law_at", "_law_start", "_law_end", "_law_top", "_law_others"] ["_law_text", "_law_cell"] (defScope s_law_other_portion) := ⟨rfl, rfl, rfl, by decide +kernel, rfl, by decide +kernel, by decide +kernel⟩
theorem ok_oport (B : Bl mg) (F : Fun K "_law_other_portion" "_law_other_portion" s_law_other_portion f fd) : FnOk P w K mg base CX0 1 f fd ["_law_text", "_law_cell"] spOPort := by
 refine F.ok sc_law_other_portion (fun vs H Q E h => ?_) (fun cdv A outer s H vs Q E hr h => ?_)
 ·obtain ⟨_, _, _, _, _, rfl, _⟩ := h
  rfl
 obtain ⟨T, cell, L, R, C, rfl, hT, hL, k⟩ := h
 have lT := hT.len
 have S : Sta H H H [] [] := Sta.enter (Same.refl _) fun p hp => absurd hp List.not_mem_nil
 refine ⟨_, (pss_cons (ps_set (i := 2) sc_law_other_portion.nd rfl (by walk_at "o") (pe_bm PySem.F.plainAttrs_str PySem.F.slot_str_find PySem.F.type_str_find mt_find (pv 0) (pa_cons pe_str pa_nil))) (pss_cons (ps_if (pt_cmpR op_lt (pv 2) pe_int (nomark _)) (pss_one (ps_ret (pe_op op_addS (pe_op op_addS (pe_op op_addS (pe_op op_addS pe_str (pe_ix ix_seq (pe_lst (pa_cons pe_str (pa_cons pe_str (pa_cons pe_str (pa_cons pe_str pa_nil))))) (pe_op op_mod (pv 1) pe_int) (fun _ _ => rfl))) pe_str) (pv 0)) pe_str))) pss_nil) (pss_cons (ps_set (i := 3) sc_law_other_portion.nd rfl (by walk_at "o") (pv 2)) (pss_cons (ps_while PassesOwn.never (PW.pt (pw_and (pt_cmpR op_gt (pv 3) pe_int (nomark _)) (pw_and1 (pt_cmpR op_inS (pe_ix ix_seq (pv 0) (pe_op op_sub (pv 3) pe_int) (fun _ _ => rfl)) pe_str rfl)))) (pss_one (ps_set (i := 3) sc_law_other_portion.nd rfl (by walk_at "o") (pe_op op_sub (pv 3) pe_int)))) (pss_cons (ps_set (i := 4) sc_law_other_portion.nd rfl (by walk_at "o") (pe_op op_addA (pv 2) pe_int)) (pss_cons (ps_while PassesOwn.never (PW.pt (pw_and (pt_cmpR op_lt (pv 4) (pe_callB call_lenS rfl B.len bt_len (pa_cons (pv 0) pa_nil)) (nomark _)) (pw_and1 (pt_cmpR op_inS (pe_ix ix_seq (pv 0) (pv 4) (fun _ _ => rfl)) pe_str rfl)))) (pss_one (ps_set (i := 4) sc_law_other_portion.nd rfl (by walk_at "o") (pe_op op_addA (pv 4) pe_int)))) (pss_cons (ps_set (i := 5) sc_law_other_portion.nd rfl (by walk_at "o") (pe_slice sl_str (pv 0) (po_some (pv 3)) (po_some (pv 2)))) (pss_cons (ps_set (i := 6) sc_law_other_portion.nd rfl (by walk_at "o") (pe_lst (pa_cons pe_str (pa_cons (pe_op op_addS (pe_op op_addS (pv 5) pe_str) (pv 5)) (pa_cons pe_str (pa_cons pe_str (pa_cons pe_str (pa_cons pe_str (pa_cons pe_str (pa_cons pe_str (pa_cons pe_str (pa_cons pe_str (pa_cons pe_str (pa_cons pe_str (pa_cons pe_str pa_nil))))))))))))))) (pss_one (ps_ret (pe_op op_addS (pe_op op_addS (pe_slice sl_str (pv 0) po_none (po_some (pv 3))) (pe_ix ix_seq (pv 6) (pe_op op_mod (pv 1) pe_int) (fun _ _ => rfl))) (pe_slice sl_str (pv 0) (po_some (pv 4)) po_none)))))))))))), rd_start ?_⟩
 walk_at "walk"
 refine rd_find ?_
 walk_at "walk"
 rcases find_lt (T := T) (y := "/") (by decide +kernel) with ef | ⟨a, ef, la⟩
 ·rw [ef]
  walk_at "walk"
  refine iteD (fun _ => ?_) (fun c => absurd (by decide) c)
  walk_at "walk"
  rename_i p1 H1 e1 S1
  refine rd_ixStrs (ys := ["1/1", "2/4", "3/2", "0/5"]) S1 (by walk_at "mem") (Int.emod_nonneg _ (by decide)) (Int.emod_lt_of_pos _ (by decide)) fun z hz => ?_
  have tz : Tx 3 3 0 z := by
   have : ∀ z ∈ (["1/1", "2/4", "3/2", "0/5"] : List Str), (z.cps.all (· < 128) && decide (z.length ≤ 3) && decide (cnt z.cps.toList ≤ 0)) = true := by decide +kernel
   exact tx_lit3 z 3 0 (this z hz)
  have lz := tz.len
  have l1 : ("upto(" : Str).length = 5 := by decide +kernel
  have l2 : (", shares, " : Str).length = 10 := by decide +kernel
  have l3 : (")" : Str).length = 1 := by decide +kernel
  walk_at "walk"
  refine k _ _ e1 ?_
  exact (((((tx_lit3 "upto(" 5 1 (by decide +kernel)).app tz).app (tx_lit3 ", shares, " 10 0 (by decide +kernel))).app hT).app (tx_lit3 ")" 1 0 (by decide +kernel))).mono (by omega) (by omega) (by omega)
 ·have la : a < T.length := by
   have : ("/" : Str).length = 1 := by decide +kernel
   omega
  rw [ef]
  walk_at "walk"
  refine iteD (fun c => absurd c (by omega)) (fun _ => ?_)
  refine rd_next (rd_nx ?_)
  refine rd_seq (rd_asg (rd_var rfl (rd_name (rd_nx ?_))))
  refine seq_cut' (fun σ H2 => ∃ b : Nat, σ = [some (.str T), some (.int cell), some (.int ((a : Nat) : Int)), some (.int ((b : Nat) : Int)), none, none, none] ∧ H2 = H ∧ b ≤ a) ?_ (fun nxt => ?_)
  rotate_left
  ·refine while_h (fun m σ H2 => ∃ b : Nat, σ = [some (.str T), some (.int cell), some (.int ((a : Nat) : Int)), some (.int ((b : Nat) : Int)), none, none, none] ∧ H2 = H ∧ b ≤ a ∧ m = b) _ ⟨a, rfl, rfl, Nat.le_refl _, rfl⟩ ?_
   rintro m σ H2 ⟨b, rfl, rfl, hb, rfl⟩
   walk_at "walk"
   refine iteD (fun c => ?_) (fun c => ?_)
   ·have hj : m - 1 < T.cps.toList.length := by rw [str_tl]; omega
    walk_at "walk"
    rw [show ((m : Nat) : Int) - 1 = ((m - 1 : Nat) : Int) by omega]
    refine rd_ixZ (by omega) (List.getElem?_eq_getElem hj) ?_
    walk_at "walk"
    refine rd_inOne ?_
    walk_at "walk"
    refine rd_wh (fun _ => ?_) (fun _ => ?_)
    ·walk_at "walk"
     exact ⟨m - 1, by omega, m - 1, by rw [show ((m : Nat) : Int) - 1 = ((m - 1 : Nat) : Int) by omega]; rfl, rfl, by omega, rfl⟩
    ·exact nxt _ _ ⟨m, rfl, rfl, hb⟩
   ·walk_at "walk"
    refine rd_wh (fun z => by cases z) (fun _ => ?_)
    exact nxt _ _ ⟨m, rfl, rfl, hb⟩
  rintro σ H2 ⟨b, rfl, rfl, hb⟩
  refine rd_seq (rd_asg (rd_op (rd_var rfl (rd_c (rd_addI (rd_name (rd_nx ?_)))))))
  refine seq_cut' (fun σ H3 => ∃ e : Nat, σ = [some (.str T), some (.int cell), some (.int ((a : Nat) : Int)), some (.int ((b : Nat) : Int)), some (.int ((e : Nat) : Int)), none, none] ∧ H3 = H2 ∧ a + 1 ≤ e ∧ e ≤ T.length) ?_ (fun nxt => ?_)
  rotate_left
  ·refine while_h (fun m σ H3 => ∃ e : Nat, σ = [some (.str T), some (.int cell), some (.int ((a : Nat) : Int)), some (.int ((b : Nat) : Int)), some (.int ((e : Nat) : Int)), none, none] ∧ H3 = H2 ∧ a + 1 ≤ e ∧ e ≤ T.length ∧ m = T.length - e) _ ⟨a + 1, rfl, rfl, Nat.le_refl _, la, rfl⟩ ?_
   rintro m σ H3 ⟨e, rfl, rfl, he, hl, rfl⟩
   walk_at "walk"
   refine rd_lenZ (by omega) ?_
   walk_at "walk"
   refine iteD (fun c => ?_) (fun c => ?_)
   ·have hj : e < T.cps.toList.length := by rw [str_tl]; omega
    walk_at "walk"
    refine rd_ixZ (by omega) (List.getElem?_eq_getElem hj) ?_
    walk_at "walk"
    refine rd_inOne ?_
    walk_at "walk"
    refine rd_wh (fun _ => ?_) (fun _ => ?_)
    ·walk_at "walk"
     exact ⟨T.length - (e + 1), by omega, e + 1, rfl, rfl, by omega, by omega, rfl⟩
    ·exact nxt _ _ ⟨e, rfl, rfl, he, hl⟩
   ·walk_at "walk"
    refine rd_wh (fun z => by cases z) (fun _ => ?_)
    exact nxt _ _ ⟨e, rfl, rfl, he, hl⟩
  rintro σ H3 ⟨e, rfl, rfl, he, hl⟩
  have lt := Txt.slice_le T (some ((b : Nat) : Int)) (some ((a : Nat) : Int))
  have et := sl_mid T hb (Nat.le_of_lt la)
  have ls : ("/" : Str).length = 1 := by decide +kernel
  have l1 := Txt.slice_le T none (some ((b : Nat) : Int))
  have l2 := Txt.slice_le T (some ((e : Nat) : Int)) none
  walk_at "walk"
  refine rd_slStr (by omega) ?_
  generalize Txt.slice T (some ((b : Nat) : Int)) (some ((a : Nat) : Int)) = top at *
  walk_at "walk"
  rename_i p4 H4 e4 S4
  refine rd_slStr (by omega) ?_
  walk_at "walk"
  refine rd_ixStrs (ys := ["1/1", top ++ ("/" : Str) ++ top, "2/4", "3/2", "0/5", "1/03", "01/3", "1/", "/3", "6/9", "12/8", "1/3/5", "1 /3"]) S4 (by walk_at "mem") (Int.emod_nonneg _ (by decide)) (Int.emod_lt_of_pos _ (by decide)) fun z hz => ?_
  have hz : z = top ++ ("/" : Str) ++ top ∨ (z.cps.all (· < 128) && decide (z.length ≤ 5) && decide (cnt z.cps.toList ≤ 0)) = true := by
   simp only [List.mem_cons, List.not_mem_nil, or_false] at hz
   rcases hz with rfl | rfl | rfl | rfl | rfl | rfl | rfl | rfl | rfl | rfl | rfl | rfl | rfl
   ·exact .inr (by decide +kernel)
   ·exact .inl rfl
   all_goals exact .inr (by decide +kernel)
  have lz : z.length ≤ 3000 := by
   rcases hz with rfl | hz
   ·simp only [str_len]; omega
   ·have := (tx_lit3 z 5 0 hz).len; omega
  walk_at "walk"
  refine rd_slStr (by omega) ?_
  walk_at "walk"
  refine k _ _ e4 ?_
  rcases hz with rfl | hz
  ·have tt : Tx (1 + L) (1 + R) (0 + C) (("/" : Str) ++ top) := (tx_lit3 "/" 1 0 (by decide +kernel)).app (hT.part et)
   refine (hT.splice (a := a) (b := e) tt (by omega) ?_).mono (by omega) (by omega) (by omega)
   rw [splice_eq e (by omega), str_toList, str_toList, str_toList, et]
   have : T.cps.toList.take a = T.cps.toList.take b ++ (T.cps.toList.drop b).take (a - b) := by
    rw [← List.take_add, show b + (a - b) = a by omega]
   rw [this]
   simp only [List.append_assoc]
  ·exact (hT.splice (tx_lit3 z 5 0 hz) (show b ≤ e by omega) (splice_eq e (by omega))).mono (by omega) (by omega) (by omega)
abbrev s_law_spoilt : Stmt := top 50
theorem sc_law_spoilt : FnScope ["_law_way", "_law_cell", "_law_text", "_law_at", "_law_places"] ["_law_way", "_law_cell", "_law_text"] (defScope s_law_spoilt) := ⟨rfl, rfl, rfl, by decide +kernel, rfl, by decide +kernel, by decide +kernel⟩
theorem ok_spoil (B : Bl mg) (C_law_sign : Cal P w K mg base CX0 1 "_law_sign" ["_law_cell"] spLSign) (C_law_put_at : Cal P w K mg base CX0 1 "_law_put_at" ["_law_text", "_law_signs", "_law_other", "_law_cell", "_law_more"] spPut) (C_law_other_portion : Cal P w K mg base CX0 1 "_law_other_portion" ["_law_text", "_law_cell"] spOPort) (F : Fun K "_law_spoilt" "_law_spoilt" s_law_spoilt f fd) : FnOk P w K mg base CX0 2 f fd ["_law_way", "_law_cell", "_law_text"] spSpoil := by
 refine F.ok sc_law_spoilt (fun vs H Q E h => ?_) (fun cdv A outer s H vs Q E hr h => ?_)
 ·obtain ⟨_, _, _, _, _, _, rfl, _⟩ := h
  rfl
 obtain ⟨way, cell, T, L, R, C, rfl, hT, hL, k⟩ := h
 have lT := hT.len
 have S : Sta H H H [] [] := Sta.enter (Same.refl _) fun p hp => absurd hp List.not_mem_nil
 refine ⟨_, (pss_cons (ps_set (i := 3) sc_law_spoilt.nd rfl (by walk_at "o") (pe_op op_modN (pe_op op_fdiv (pv 1) pe_int) (pe_op op_addS (pe_callB call_lenS rfl B.len bt_len (pa_cons (pv 2) pa_nil)) pe_int))) (pss_cons (ps_if (pt_cmpR (op_eqA (units_of hr)) (pv 0) pe_int (nomark _)) (pss_one (ps_ret (pe_op op_addS (pe_op op_addS (pe_slice sl_str (pv 2) po_none (po_some (pv 3))) (pe_cal C_law_sign hr (by walk_at "l") pass0 rfl (pa_cons (pv 1) pa_nil))) (pe_slice sl_str (pv 2) (po_some (pv 3)) po_none)))) pss_nil) (pss_cons (ps_if (pt_cmpR (op_eqA (units_of hr)) (pv 0) pe_int (nomark _)) (pss_one (ps_ret (pe_op op_addS (pe_op op_addS (pe_slice sl_str (pv 2) po_none (po_some (pv 3))) (pe_cal C_law_sign hr (by walk_at "l") pass0 rfl (pa_cons (pv 1) pa_nil))) (pe_slice sl_str (pv 2) (po_some (pe_op op_addA (pv 3) pe_int)) po_none)))) pss_nil) (pss_cons (ps_if (pt_cmpR (op_eqA (units_of hr)) (pv 0) pe_int (nomark _)) (pss_one (ps_ret (pe_op op_addS (pe_slice sl_str (pv 2) po_none (po_some (pv 3))) (pe_slice sl_str (pv 2) (po_some (pe_op op_addA (pv 3) pe_int)) po_none)))) pss_nil) (pss_cons (ps_if (pt_cmpR (op_eqA (units_of hr)) (pv 0) pe_int (nomark _)) (pss_one (ps_ret (pe_slice sl_str (pv 2) po_none (po_some (pv 3))))) pss_nil) (pss_cons (ps_if (pt_cmpR (op_eqA (units_of hr)) (pv 0) pe_int (nomark _)) (pss_one (ps_ret (pe_cal C_law_put_at hr (by walk_at "l") pass0 rfl (pa_cons (pv 2) (pa_cons pe_str (pa_cons (pe_ix ix_seq pe_str (pe_op op_mod (pv 1) pe_int) (fun _ _ => rfl)) (pa_cons (pe_op op_fdiv (pv 1) pe_int) (pa_cons (pe_op op_mod (pe_op op_fdiv (pv 1) pe_int) pe_int) pa_nil)))))))) pss_nil) (pss_cons (ps_if (pt_cmpR (op_eqA (units_of hr)) (pv 0) pe_int (nomark _)) (pss_one (ps_ret (pe_cal C_law_other_portion hr (by walk_at "l") pass0 rfl (pa_cons (pv 2) (pa_cons (pv 1) pa_nil))))) pss_nil) (pss_cons (ps_if (pt_cmpR (op_eqA (units_of hr)) (pv 0) pe_int (nomark _)) (pss_one (ps_ret (pe_cal C_law_put_at hr (by walk_at "l") pass0 rfl (pa_cons (pv 2) (pa_cons pe_str (pa_cons (pe_ix ix_seq (pe_lst (pa_cons pe_str (pa_cons pe_str (pa_cons pe_str pa_nil)))) (pe_op op_mod (pv 1) pe_int) (fun _ _ => rfl)) (pa_cons (pe_op op_fdiv (pv 1) pe_int) (pa_cons pe_int pa_nil)))))))) pss_nil) (pss_cons (ps_if (pt_cmpR (op_eqA (units_of hr)) (pv 0) pe_int (nomark _)) (pss_one (ps_ret (pe_op op_addS (pv 2) (pe_ix ix_seq (pe_lst (pa_cons pe_str (pa_cons pe_str (pa_cons pe_str (pa_cons pe_str (pa_cons pe_str pa_nil)))))) (pe_op op_mod (pv 1) pe_int) (fun _ _ => rfl))))) pss_nil) (pss_cons (ps_if (pt_cmpR (op_eqA (units_of hr)) (pv 0) pe_int (nomark _)) (pss_cons (ps_set (i := 4) sc_law_spoilt.nd rfl (by walk_at "o") (pe_op op_addA (pe_comp (N := ["_law_k", "_law_text"]) (n := 1) (fr := [2]) rfl ⟨rfl, by decide +kernel, rfl, by decide, rfl, rfl, rfl, rfl, rfl⟩ (pi_range1 rfl B.range (pa_cons (pe_callB call_lenS rfl B.len bt_len (pa_cons (pv 2) pa_nil)) pa_nil)) (fun _ _ _ _ => (pg_name (i := 0) (show (["_law_k", "_law_text"] : List Str).Nodup from by decide +kernel) rfl (by walk_at "o"))) (fun _ _ _ _ => (pif_one (pt_cmpR op_inS (pe_ix ix_seq (pv 1) (pv 0) (fun _ _ => rfl)) pe_str rfl))) (fun _ _ _ _ => (pv 0))) (pe_lst (pa_cons (pe_callB call_lenS rfl B.len bt_len (pa_cons (pv 2) pa_nil)) pa_nil)))) (pss_cons (ps_set (i := 3) sc_law_spoilt.nd rfl (by walk_at "o") (pe_ix ix_seq (pv 4) (pe_op op_modN (pv 1) (pe_callB call_lenA rfl B.len bt_len (pa_cons (pv 4) pa_nil))) (fun _ _ => rfl))) (pss_one (ps_ret (pe_op op_addS (pe_slice sl_str (pv 2) po_none (po_some (pv 3))) (pe_slice sl_str (pv 2) (po_some (pe_op op_addA (pv 3) pe_int)) po_none)))))) pss_nil) (pss_one (ps_ret (pv 2))))))))))))), rd_start ?_⟩
 walk_at "walk"
 refine rd_lenZ (by omega) ?_
 walk_at "walk"
 have hf := fmod_le (x := cell / 184) (n := ((T.length : Nat) : Int) + 1) (by omega)
 generalize (cell / 184).fmod (((T.length : Nat) : Int) + 1) = at0 at *
 obtain ⟨a, rfl⟩ := Int.eq_ofNat_of_zero_le hf.1
 have la : a ≤ T.length := by have := hf.2; omega
 have l1 := Txt.slice_le T none (some ((a : Nat) : Int))
 have l2 := Txt.slice_le T (some ((a : Nat) : Int)) none
 have l3 := Txt.slice_le T (some (((a : Nat) : Int) + 1)) none
 have ea : (((a : Nat) : Int) + 1) = ((a + 1 : Nat) : Int) := by omega
 walk_at "walk"
 refine iteD (fun _ => ?_) (fun _ => ?_)
 ·walk_at "walk"
  refine rd_slStr (by omega) ?_
  walk_at "walk"
  refine rd_lsign fun z hz => ?_
  have lz := hz.len
  walk_at "walk"
  refine rd_slStr (by omega) ?_
  walk_at "walk"
  exact k _ _ (Same.refl _) ((hT.splice hz (Nat.le_refl a) (splice_eq a la)).mono (by omega) (by omega) (by omega))
 walk_at "walk"
 refine iteD (fun _ => ?_) (fun _ => ?_)
 ·walk_at "walk"
  refine rd_slStr (by omega) ?_
  walk_at "walk"
  refine rd_lsign fun z hz => ?_
  have lz := hz.len
  walk_at "walk"
  refine rd_slStr (by omega) ?_
  walk_at "walk"
  rw [ea]
  exact k _ _ (Same.refl _) ((hT.splice hz (Nat.le_succ a) (splice_eq (a + 1) la)).mono (by omega) (by omega) (by omega))
 walk_at "walk"
 refine iteD (fun _ => ?_) (fun _ => ?_)
 ·walk_at "walk"
  refine rd_slStr (by omega) ?_
  walk_at "walk"
  refine rd_slStr (by omega) ?_
  walk_at "walk"
  rw [ea]
  exact k _ _ (Same.refl _) ((hT.splice tx_emp (Nat.le_succ a) (splice_no (a + 1) la)).mono (by omega) (by omega) (by omega))
 walk_at "walk"
 refine iteD (fun _ => ?_) (fun _ => ?_)
 ·walk_at "walk"
  refine rd_slStr (by omega) ?_
  exact k _ _ (Same.refl _) ((hT.part (a := 0) (b := a) (by rw [sl_to T la, List.drop_zero])).mono (by omega) (by omega) (by omega))
 walk_at "walk"
 refine iteD (fun _ => ?_) (fun _ => ?_)
 ·walk_at "walk"
  refine rd_ixAny (by decide +kernel) (Int.emod_nonneg _ (by decide)) (Int.emod_lt_of_pos _ (by decide)) fun y hy => ?_
  walk_at "walk"
  obtain ⟨m, em⟩ := Int.eq_ofNat_of_zero_le (Int.emod_nonneg (cell / 3) (show (2 : Int) ≠ 0 by decide))
  have lm := Int.emod_lt_of_pos (cell / 3) (show (0 : Int) < 2 by decide)
  rw [em] at lm ⊢
  refine rd_put hT (by omega) hy (by decide) (by omega) fun U H' e hU => ?_
  exact k _ _ e (hU.mono (by omega) (by omega) (by omega))
 walk_at "walk"
 refine iteD (fun _ => ?_) (fun _ => ?_)
 ·walk_at "walk"
  exact rd_oport hT (by omega) k
 walk_at "walk"
 refine iteD (fun _ => ?_) (fun _ => ?_)
 ·walk_at "walk"
  rename_i p1 H1 e1 S1
  refine rd_ixStrs (ys := [", shares", " ", ","]) S1 (by walk_at "mem") (Int.emod_nonneg _ (by decide)) (Int.emod_lt_of_pos _ (by decide)) fun z hz => ?_
  have tz : Tx 8 8 0 z := by
   have : ∀ z ∈ ([", shares", " ", ","] : List Str), (z.cps.all (· < 128) && decide (z.length ≤ 8) && decide (cnt z.cps.toList ≤ 0)) = true := by decide +kernel
   exact tx_lit3 z 8 0 (this z hz)
  walk_at "walk"
  refine rd_put (m := 0) hT (by omega) tz (by decide) (by omega) fun U H' e hU => ?_
  exact k _ _ (e1.trans e) (hU.mono (by omega) (by omega) (by omega))
 walk_at "walk"
 refine iteD (fun _ => ?_) (fun _ => ?_)
 ·walk_at "walk"
  rename_i p1 H1 e1 S1
  refine rd_ixStrs (ys := [")", ", ", " ", "s", "("]) S1 (by walk_at "mem") (Int.emod_nonneg _ (by decide)) (Int.emod_lt_of_pos _ (by decide)) fun z hz => ?_
  have tz : Tx 2 2 1 z := by
   have : ∀ z ∈ ([")", ", ", " ", "s", "("] : List Str), (z.cps.all (· < 128) && decide (z.length ≤ 2) && decide (cnt z.cps.toList ≤ 1)) = true := by decide +kernel
   exact tx_lit3 z 2 1 (this z hz)
  have lz := tz.len
  walk_at "walk"
  exact k _ _ e1 ((hT.app tz).mono (by omega) (by omega) (by omega))
 walk_at "walk"
 refine iteD (fun _ => ?_) (fun _ => ?_)
 ·walk_at "walk"
  refine rd_lenZ (by omega) ?_
  walk_at "walk"
  refine rd_kR1 H H (by omega) (by omega) fun J wk => ?_
  refine comp_wk wk (fun j => (plcF T " ," 0 j).map fun k => .int ((k : Nat) : Int)) S (fun _ _ => trivial) (by rw [rangeD_len]; omega) (fun j u v B' G' Kd Kn hx t1 S hd hn C ex s0 H0 => ?_) fun D H1 e1 S1 => ?_
  ·obtain ⟨hj, rfl⟩ := rangeD_at hx
   cases S.int1
   have hj : j < T.cps.toList.length := by rw [str_tl]; omega
   have hc := List.getElem?_eq_getElem hj
   refine rd_name ⟨rfl, ?_⟩
   rw [Int.zero_add]
   walk_at "walk"
   refine rd_ixZ (by omega) hc ?_
   walk_at "walk"
   refine rd_inOne ?_
   walk_at "walk"
   have ef := plc_some (m := 0) (sg := " ,") hc
   refine iteD (fun g => ?_) (fun g => ?_)
   ·rw [if_pos g] at ef
    walk_at "walk"
    exact hd (z := .int ((j : Nat) : Int)) (by rw [ef]; rfl) S Has.int
   ·rw [if_neg g] at ef
    exact hn (by rw [ef]; rfl) S
  rw [rangeD_len, plc_eq T " ," 0 _ (by omega)] at S1
  have lp : (plc T " ," 0).length ≤ T.length := by
   unfold plc
   exact Nat.le_trans (List.length_filterMap_le _ _) (by rw [List.length_range]; exact Nat.le_refl _)
  walk_at "walk"
  refine rd_lenZ (by omega) ?_
  walk_at "walk"
  rename_i p2 H2 e2 S2
  refine rd_addL S2 (S2.vwC (xs := natD (plc T " ," 0)) (by walk_at "mem")) (S2.vwC (by walk_at "mem")) (by rw [natD_len]; show _ + 1 ≤ 1000; omega) fun p3 H3 e3 S3 => ?_
  have S3 : Sta H H H3 [(p3, natD (plc T " ," 0 ++ [T.length]))] [] := by
   have : natD (plc T " ," 0 ++ [T.length]) = natD (plc T " ," 0) ++ [.int ((T.length : Nat) : Int)] := by unfold natD; rw [List.map_append]; rfl
   rw [this]
   exact S3.weak (by walk_at "sub") (by walk_at "dats")
  refine rd_name (rd_nx ?_)
  walk_at "walk"
  rw [natD_len]
  have hp : 0 < (plc T " ," 0 ++ [T.length]).length := by simp
  refine rd_modN (by omega) ?_
  have hf := fmod_le (x := cell) (n := (((plc T " ," 0 ++ [T.length]).length : Nat) : Int)) (by omega)
  refine rd_ixNat S3 (ns := plc T " ," 0 ++ [T.length]) (by walk_at "mem") hf.1 hf.2 fun b hb => ?_
  have lb : b ≤ T.length := by
   rcases List.mem_append.mp hb with z | z
   ·have := plc_le z; omega
   ·rw [List.mem_singleton.mp z]; exact Nat.le_refl _
  have m1 := Txt.slice_le T none (some ((b : Nat) : Int))
  have m2 := Txt.slice_le T (some (((b : Nat) : Int) + 1)) none
  walk_at "walk"
  refine rd_slStr (by omega) ?_
  walk_at "walk"
  refine rd_slStr (by omega) ?_
  walk_at "walk"
  rw [show (((b : Nat) : Int) + 1) = ((b + 1 : Nat) : Int) by omega]
  exact k _ _ ((e1.trans e2).trans e3) ((hT.splice tx_emp (Nat.le_succ b) (splice_no (b + 1) lb)).mono (by omega) (by omega) (by omega))
 walk_at "walk"
 exact k _ _ (Same.refl _) (hT.mono (by omega) (by omega) (by omega))
abbrev s_law_twice : Stmt := top 51
theorem sc_law_twice : FnScope ["_law_script", "_law_good", "_law_first", "_law_cell", "_law_text", "_law_more", "_law_other", "_law_parts", "_law_word"] ["_law_script", "_law_good"] (defScope s_law_twice) := ⟨rfl, rfl, rfl, by decide +kernel, rfl, by decide +kernel, by decide +kernel⟩
theorem ok_twice (B : Bl mg) (C_law_cell_at : Cal P w K mg base CX0 1 "_law_cell_at" ["_law_script", "_law_k"] (spCell K)) (C_law_mixed : Cal P w K mg base CX0 1 "_law_mixed" ["_law_cell", "_law_many"] spMixE) (C_law_spoilt : Cal P w K mg base CX0 2 "_law_spoilt" ["_law_way", "_law_cell", "_law_text"] spSpoil) (F : Fun K "_law_twice" "_law_twice" s_law_twice f fd) : FnOk P w K mg base CX0 3 f fd ["_law_script", "_law_good"] (spTwice K) := by
 refine F.ok sc_law_twice (fun vs H Q E h => ?_) (fun cdv A outer s H vs Q E hr h => ?_)
 ·obtain ⟨_, _, _, rfl, _⟩ := h
  rfl
 obtain ⟨a, ns, T, rfl, hS, hn, hT, k⟩ := h
 have S : Sta H H H [] [] := Sta.enter (Same.refl _) fun p hp => absurd hp List.not_mem_nil
 refine ⟨_, (pss_cons (ps_set (i := 2) sc_law_twice.nd rfl (by walk_at "o") (pe_cal C_law_cell_at hr (by walk_at "l") pass0 rfl (pa_cons (pv 0) (pa_cons pe_int pa_nil)))) (pss_cons (ps_set (i := 3) sc_law_twice.nd rfl (by walk_at "o") (pe_cal C_law_cell_at hr (by walk_at "l") pass0 rfl (pa_cons (pv 0) (pa_cons pe_int pa_nil)))) (pss_cons (ps_set (i := 4) sc_law_twice.nd rfl (by walk_at "o") (pe_cal C_law_spoilt hr (by walk_at "l") pass0 rfl (pa_cons (pe_op op_mod (pv 2) pe_int) (pa_cons (pv 3) (pa_cons (pv 1) pa_nil))))) (pss_cons (ps_set (i := 5) sc_law_twice.nd rfl (by walk_at "o") (pe_op op_fdiv (pv 3) (pe_op op_pow pe_int pe_int))) (pss_cons (ps_if (pt_cmpR op_lt (pv 3) (pe_op op_pow pe_int pe_int) (nomark _)) (pss_one (ps_set (i := 5) sc_law_twice.nd rfl (by walk_at "o") (pe_ix ix_seq (pe_cal C_law_mixed hr (by walk_at "l") pass0 rfl (pa_cons (pe_op op_addA (pv 3) (pv 2)) (pa_cons pe_int pa_nil))) pe_int (fun _ _ => rfl)))) pss_nil) (pss_cons (ps_set (i := 6) sc_law_twice.nd rfl (by walk_at "o") (pe_cal C_law_spoilt hr (by walk_at "l") pass0 rfl (pa_cons (pe_op op_mod (pe_op op_fdiv (pv 2) pe_int) pe_int) (pa_cons (pv 5) (pa_cons (pv 4) pa_nil))))) (pss_cons (ps_set (i := 7) sc_law_twice.nd rfl (by walk_at "o") (pe_bm PySem.F.plainAttrs_str PySem.F.slot_str_count PySem.F.type_str_count mt_count (pv 6) (pa_cons pe_str pa_nil))) (pss_cons (ps_for PassesOwn.never rfl (pi_list (pe_lst (pa_cons pe_str (pa_cons pe_str (pa_cons pe_str (pa_cons pe_str pa_nil)))))) (pg_name (i := 8) sc_law_twice.nd rfl (by walk_at "o")) (pss_one (ps_set (i := 7) sc_law_twice.nd rfl (by walk_at "o") (pe_op op_addA (pv 7) (pe_bm PySem.F.plainAttrs_str PySem.F.slot_str_count PySem.F.type_str_count mt_count (pv 6) (pa_cons (pv 8) pa_nil)))))) (pss_cons (ps_if (PW.pt (pw_or (pt_cmpR (op_eqA (units_of hr)) (pe_op op_mod (pe_op op_fdiv (pv 2) pe_int) pe_int) pe_int (nomark _)) (pw_or (pt_cmpR op_gt (pe_bm PySem.F.plainAttrs_str PySem.F.slot_str_count PySem.F.type_str_count mt_count (pv 6) (pa_cons pe_str pa_nil)) pe_int (nomark _)) (pw_or1 (pt_cmpR op_gt (pv 7) pe_int (nomark _)))))) (pss_one (ps_ret (pv 4))) pss_nil) (pss_one (ps_ret (pv 6)))))))))))), rd_start ?_⟩
 walk_at "walk"
 refine rd_spoil hT (by decide) fun U1 H1 e1 hU1 => ?_
 have S1 := S.same e1
 refine rd_name (rd_nx ?_)
 refine rd_seq (rd_asg (rd_op (rd_var rfl (rd_op (rd_c (rd_c (rd_pow ⟨by decide, by decide, by decide⟩ (rd_fdivL ⟨by decide, by decide⟩ (rd_name (rd_nx ?_))))))))))
 refine seq_cut' (fun σ H2 => ∃ x : Int, σ = [some (.ref a), some (.str T), some (.int (cellAt ns 1)), some (.int (cellAt ns 2)), some (.str U1), some (.int x), none, none, none] ∧ Same H H2) ?_ (fun nxt => ?_)
 rotate_left
 ·walk_at "walk"
  refine iteD (fun _ => ?_) (fun _ => ?_)
  ·walk_at "walk"
   refine .inr (rd_mix2 S1 fun v2 H2 x y e2 S2 => ?_)
   refine rd_ixLI S2 (by walk_at "m") (n := y) rfl ?_
   refine rd_name ?_
   exact nxt _ _ ⟨y, rfl, e1.trans e2⟩
  ·exact nxt _ _ ⟨_, rfl, e1⟩
 rintro σ H2 ⟨x, rfl, e2⟩
 have S2 := S.same e2
 have l1 := hU1.len
 walk_at "walk"
 refine rd_spoil hU1 (by decide) fun U2 H3 e3 hU2 => ?_
 have S3 := S2.same e3
 walk_at "walk"
 refine rd_count ?_
 walk_at "walk"
 rename_i p4 H4 e4 S4
 have S4 := S4.freeze
 refine rd_kILd (xs := (["shares", "evenly", "losses", "halves"] : List Str).map PyData.str) S4 (by walk_at "m") fun J wk => ?_
 refine for_wk wk (fun n σ cs ds => ∃ (m : Int) (x8 : Option V), σ = [some (.ref a), some (.str T), some (.int (cellAt ns 1)), some (.int (cellAt ns 2)), some (.str U1), some (.int x), some (.str U2), some (.int m), x8] ∧ cs = [] ∧ ds = [(.list ((["shares", "evenly", "losses", "halves"] : List Str).map PyData.str), .ref p4)]) S4 ⟨_, none, rfl, rfl, rfl⟩ (fun n σ cs ds h => ?_) ?_ ?_
 ·obtain ⟨_, _, rfl, rfl, rfl⟩ := h
  exact .mem (by walk_at "mem")
 ·rintro n x v σ H5 cs ds hx ⟨m, x8, rfl, rfl, rfl⟩ S5
  obtain ⟨wd, hw, rfl⟩ := mapAt hx
  obtain rfl := S5.str_of (b := wd) (by walk_at "m")
  walk_at "walk"
  refine rd_count ?_
  walk_at "walk"
  exact rd_at (cs := []) (S5.dat (by walk_at "dats")) ⟨_, _, rfl, rfl, rfl⟩
 ·rintro σ H5 cs ds ⟨m, x8, rfl, rfl, rfl⟩ S5
  have eb : Same H H5 := S5.base
  have r1 : Q (.str U1) H5 := k _ _ eb (hU1.mono (by decide) (by decide) (by decide))
  have r2 : Q (.str U2) H5 := k _ _ eb (hU2.mono (by decide) (by decide) (by decide))
  walk_at "walk"
  refine iteD (fun _ => ?_) (fun _ => ?_)
  ·walk_at "walk"
   exact r1
  walk_at "walk"
  refine rd_count ?_
  walk_at "walk"
  refine iteD (fun _ => ?_) (fun _ => ?_)
  ·walk_at "walk"
   exact r1
  walk_at "walk"
  refine iteD (fun _ => ?_) (fun _ => ?_)
  ·walk_at "walk"
   exact r1
  walk_at "walk"
  exact r2
section
variable {fS fE CW c_NoRule c_PurseError fN : Addr} {fdN : FuncData} {A : RAd}
abbrev s_law_read : Stmt := top 59
theorem sc_law_read : FnScope ["_law_text", "_law_caught", "_law_told", "_law_e"] ["_law_text"] (defScope s_law_read) := ⟨rfl, rfl, rfl, by decide +kernel, rfl, by decide +kernel, by decide +kernel⟩
theorem ok_lread {n : Nat} (g_PurseError : mg "PurseError" = some (.ref c_PurseError)) (hU : Under base c_NoRule c_PurseError) (C_read : Cal P w K mg base (CX2 P w) (2 * n + 6) "read" ["text"] (spReadX c_NoRule A n)) (F : Fun K "_law_read" "_law_read" s_law_read f fd) : FnOk P w K mg base CX0 (2 * n + 7) f fd ["_law_text"] (spLRead c_NoRule A n) := by
 refine F.ok sc_law_read (fun vs H Q E h => ?_) (fun cdv A' outer s H vs Q E hr h => ?_)
 ·obtain ⟨_, _, rfl, _⟩ := h
  rfl
 obtain ⟨G, T, rfl, eG, hT, hp, k⟩ := h
 refine ⟨_, (pss_cons (ps_set (i := 1) sc_law_read.nd rfl (by walk_at "o") pe_non) (pss_cons (ps_set (i := 2) sc_law_read.nd rfl (by walk_at "o") pe_non) (pss_cons (ps_tryR (i := 3) (j := 2) rfl rfl rfl g_PurseError sc_law_read.nd rfl rfl C_read hr (by walk_at "l") rfl rfl (by walk_at "o") (fun pn xe => (pa_cons (pv 0) pa_nil)) (fun a => (pss_one (ps_set (i := 1) sc_law_read.nd rfl (by walk_at "o") (pv 3))))) (pss_one (ps_ret (pe_tup (pa_cons (pv 2) (pa_cons (pv 1) pa_nil)))))))), rd_start ?_⟩
 walk_at "walk"
 refine rd_tryR ?_
 walk_at "walk"
 refine ⟨G, T, rfl, eG, hT, hp, ?_⟩
 cases e : readF n T with
 | error j =>
   rw [e] at k
   dsimp only at k ⊢
   intro H1 e1 dx hdx
   refine kXR_of hU fun a ha => ?_
   have nd : dx ≠ a := fun z => by rw [← z, upd_same] at ha; cases ha
   walk_at "walk"
   change tRet (tTup (tCons (tVar 2) (tCons (tVar 1) tNil))) (endD Q) _ _
   refine rd_ret (rd_tup (rd_cons (rd_var rfl (rd_cons (rd_var rfl (rd_nil ?_))))))
   refine ⟨by show 2 ≤ sizeLine; decide, fun t ht => ?_⟩
   have s1 := Same.new hdx (.xd [("at", .int ((j : Nat) : Int))])
   have s2 := Same.new ha (excO2 a c_NoRule dx)
   have s3 := Same.new ht (.tup [.non, .ref a])
   exact k t a _ (((e1.trans s1).trans s2).trans s3) upd_same ⟨dx, s3 _ _ upd_same, s3 _ _ (s2 _ _ upd_same)⟩
 | ok r =>
   rw [e] at k
   dsimp only at k ⊢
   intro v H1 G1 gr hv
   have S : Sta H1 G1 H1 [] [(r.ins A, v)] := Sta.enter gr.sub fun p hp => by cases List.mem_singleton.mp hp; exact hv
   walk_at "walk"
   rename_i p2 H2 e2 S2
   obtain ⟨G2, gr2, al⟩ := S2.leave
   exact k _ _ G2 (gr.trans gr2) (al _ (by walk_at "mem"))
end
abbrev s_law_kinds : Stmt := top 46
theorem sc_law_kinds : FnScope ["_law_e", "_law_found"] ["_law_e"] (defScope s_law_kinds) := ⟨rfl, rfl, rfl, by decide +kernel, rfl, by decide +kernel, by decide +kernel⟩
theorem ok_kinds2 {c_NoFraction c_NoPurse c_NoClaims c_NoRule c_NoPlace c_NoDivision : Addr} (FG : PySem.Slot "ValueError" "__getattribute__" "BaseException.__getattribute__") (B : Bl mg) (Z : Kd K mg c_NoRule c_NoFraction c_NoPurse c_NoClaims c_NoRule c_NoPlace c_NoDivision false false false true false false) (F : Fun K "_law_kinds" "_law_kinds" s_law_kinds f fd) : FnOk P w K mg base CX0 1 f fd ["_law_e"] (spKinds2 c_NoRule "NoRule") := by
 refine F.ok sc_law_kinds (fun vs H Q E h => ?_) (fun cdv A outer s H vs Q E hr h => ?_)
 ·obtain ⟨G, a, j, _, rfl, _⟩ := h
  rfl
 obtain ⟨G, a, j, eG, rfl, ha, k⟩ := h
 have S : Sta H G H [] [] := Sta.enter eG fun p hp => absurd hp List.not_mem_nil
 have g_NoFraction := Z.g1
 have g_NoPurse := Z.g2
 have g_NoClaims := Z.g3
 have g_NoRule := Z.g4
 have g_NoPlace := Z.g5
 have g_NoDivision := Z.g6
 refine ⟨_, (pss_cons (ps_set (i := 1) sc_law_kinds.nd rfl (by walk_at "o") (pe_lst pa_nil)) (pss_cons (ps_if (pt_val (pe_callB (call_isE2 FG) rfl B.isinstance bt_isinstance (pa_cons (pv 0) (pa_cons (pe_glob (v := .ref c_NoFraction) rfl g_NoFraction rfl) pa_nil)))) (pss_one (ps_expr (pe_bm PySem.F.plainAttrs_list PySem.F.slot_list_append PySem.F.type_list_append mt_append (pv 1) (pa_cons pe_str pa_nil)))) pss_nil) (pss_cons (ps_if (pt_val (pe_callB (call_isE2 FG) rfl B.isinstance bt_isinstance (pa_cons (pv 0) (pa_cons (pe_glob (v := .ref c_NoPurse) rfl g_NoPurse rfl) pa_nil)))) (pss_one (ps_expr (pe_bm PySem.F.plainAttrs_list PySem.F.slot_list_append PySem.F.type_list_append mt_append (pv 1) (pa_cons pe_str pa_nil)))) pss_nil) (pss_cons (ps_if (pt_val (pe_callB (call_isE2 FG) rfl B.isinstance bt_isinstance (pa_cons (pv 0) (pa_cons (pe_glob (v := .ref c_NoClaims) rfl g_NoClaims rfl) pa_nil)))) (pss_one (ps_expr (pe_bm PySem.F.plainAttrs_list PySem.F.slot_list_append PySem.F.type_list_append mt_append (pv 1) (pa_cons pe_str pa_nil)))) pss_nil) (pss_cons (ps_if (pt_val (pe_callB (call_isE2 FG) rfl B.isinstance bt_isinstance (pa_cons (pv 0) (pa_cons (pe_glob (v := .ref c_NoRule) rfl g_NoRule rfl) pa_nil)))) (pss_one (ps_expr (pe_bm PySem.F.plainAttrs_list PySem.F.slot_list_append PySem.F.type_list_append mt_append (pv 1) (pa_cons pe_str pa_nil)))) pss_nil) (pss_cons (ps_if (pt_val (pe_callB (call_isE2 FG) rfl B.isinstance bt_isinstance (pa_cons (pv 0) (pa_cons (pe_glob (v := .ref c_NoPlace) rfl g_NoPlace rfl) pa_nil)))) (pss_one (ps_expr (pe_bm PySem.F.plainAttrs_list PySem.F.slot_list_append PySem.F.type_list_append mt_append (pv 1) (pa_cons pe_str pa_nil)))) pss_nil) (pss_cons (ps_if (pt_val (pe_callB (call_isE2 FG) rfl B.isinstance bt_isinstance (pa_cons (pv 0) (pa_cons (pe_glob (v := .ref c_NoDivision) rfl g_NoDivision rfl) pa_nil)))) (pss_one (ps_expr (pe_bm PySem.F.plainAttrs_list PySem.F.slot_list_append PySem.F.type_list_append mt_append (pv 1) (pa_cons pe_str pa_nil)))) pss_nil) (pss_cons (ps_if (pt_not (pt_val (pe_callB (call_isE2 FG) rfl B.isinstance bt_isinstance (pa_cons (pv 0) (pa_cons (pe_bltn (v := .ty "ValueError") rfl B.ValueError bt_ValueError rfl) pa_nil))))) (pss_one (ps_expr (pe_bm PySem.F.plainAttrs_list PySem.F.slot_list_append PySem.F.type_list_append mt_append (pv 1) (pa_cons pe_str pa_nil)))) pss_nil) (pss_one (ps_ret (pv 1))))))))))), rd_start ?_⟩
 repeat (first
  | walk_at "rd"
  | refine rd_isE2 (by assumption) ha Z.exc Z.k1 ?_ | refine rd_isE2 (by assumption) ha Z.exc Z.k2 ?_ | refine rd_isE2 (by assumption) ha Z.exc Z.k3 ?_
  | refine rd_isE2 (by assumption) ha Z.exc Z.k4 ?_ | refine rd_isE2 (by assumption) ha Z.exc Z.k5 ?_ | refine rd_isE2 (by assumption) ha Z.exc Z.k6 ?_
  | refine rd_isV2 (by assumption) ha Z.exc Z.kV ?_
  | refine rd_append (by assumption) Has.str (by decide) fun H2 S2 => ?_)
 exact ret_T (Sta.freeze (by assumption)) k (by walk_at "m")
abbrev s_law_whole : Stmt := top 38
theorem sc_law_whole : FnScope ["_law_found"] ["_law_found"] (defScope s_law_whole) := ⟨rfl, rfl, rfl, by decide +kernel, rfl, by decide +kernel, by decide +kernel⟩
theorem ok_lwhole (B : Bl mg) (F : Fun K "_law_whole" "_law_whole" s_law_whole f fd) : FnOk P w K mg base CX0 1 f fd ["_law_found"] spWhole := by
 refine F.ok sc_law_whole (fun vs H Q E h => ?_) (fun cdv A outer s H vs Q E hr h => ?_)
 ·obtain ⟨n, rfl, _⟩ := h
  rfl
 obtain ⟨n, rfl, q⟩ := h
 have S : Sta H H H [] [] := Sta.enter (Same.refl _) fun p hp => absurd hp List.not_mem_nil
 have hi : Is H (.int n) (.int n) := S.hp Has.int
 refine ⟨_, (pss_one (ps_ret (pe_and (pe_callB call_isi rfl B.isinstance bt_isinstance (pa_cons (pv 0) (pa_cons (pe_bltn (v := .ty "int") rfl B.int bt_int rfl) pa_nil))) (pe_one (pe_not (pe_callB call_isi rfl B.isinstance bt_isinstance (pa_cons (pv 0) (pa_cons (pe_bltn (v := .ty "bool") rfl B.bool bt_bool rfl) pa_nil)))))))), rd_start ?_⟩
 walk_at "walk"
 exact q
section
variable {A : RAd}
abbrev s_law : Stmt := top 60
theorem sc_law : FnScope ["_law_script", "_law_rule", "_law_shape", "_law_good", "_law_text", "_law_due", "_law_told", "_law_caught"] ["_law_script"] (defScope s_law) := ⟨rfl, rfl, rfl, by decide +kernel, rfl, by decide +kernel, by decide +kernel⟩
theorem ok_law {fS fT c_Rule c_NoRule : Addr} {fdT : FuncData} (B : Bl mg) (FG : PySem.Slot "ValueError" "__getattribute__" "BaseException.__getattribute__") (XF : ExcFld K c_NoRule "at") (okA : ∀ r : Rl, ROk K fS fT c_Rule (A.cls r)) (g_Rule : mg "Rule" = some (.ref c_Rule)) (F_Rule_text : FnOk P w K mg base CX0 54 fT fdT ["self"] (spText A 51)) (b_Rule_text : Binds K fdT ["self"] [])
 (C_law_cell_at : Cal P w K mg base CX0 1 "_law_cell_at" ["_law_script", "_law_k"] (spCell K)) (C_law_built : Cal P w K mg base CX0 5 "_law_built" ["_law_cells", "_law_great"] (spBuilt A)) (C_law_twice : Cal P w K mg base CX0 3 "_law_twice" ["_law_script", "_law_good"] (spTwice K)) (C_law_fails : Cal P w K mg base CX0 4 "_law_fails" ["_law_text"] spFails) (C_law_read : Cal P w K mg base CX0 109 "_law_read" ["_law_text"] (spLRead c_NoRule A 51)) (C_law_kinds : Cal P w K mg base CX0 1 "_law_kinds" ["_law_e"] (spKinds2 c_NoRule "NoRule")) (C_law_whole : Cal P w K mg base CX0 1 "_law_whole" ["_law_found"] spWhole) (F : Fun K "law" "law" s_law f fd) : FnOk P w K mg base CX0 110 f fd ["_law_script"] (spLaw K) := by
 refine F.ok sc_law (fun vs H Q E h => ?_) (fun cdv A' outer s H vs Q E hr h => ?_)
 ·obtain ⟨a, ns, rfl, _⟩ := h
  rfl
 obtain ⟨a, ns, rfl, hS, hlen, _, q⟩ := h
 have S : Sta H H H [] [] := Sta.enter (Same.refl _) fun p hp => absurd hp List.not_mem_nil
 refine ⟨_, (pss_cons (ps_asg (pe_cal C_law_built hr (by walk_at "l") pass0 rfl (pa_cons (pe_slice sl_list (pv 0) (po_some pe_int) (po_some pe_int)) (pa_cons (pe_op op_mod (pe_cal C_law_cell_at hr (by walk_at "l") pass0 rfl (pa_cons (pv 0) (pa_cons pe_int pa_nil))) (pe_op op_pow pe_int pe_int)) pa_nil))) (pg_tup rfl (pgs_cons (pg_name (i := 1) sc_law.nd rfl (by walk_at "o")) (pgs_cons (pg_name (i := 2) sc_law.nd rfl (by walk_at "o")) (pgs_cons (pg_name (i := 3) sc_law.nd rfl (by walk_at "o")) pgs_nil))))) (pss_cons (ps_set (i := 4) sc_law.nd rfl (by walk_at "o") (pe_cal C_law_twice hr (by walk_at "l") pass0 rfl (pa_cons (pv 0) (pa_cons (pv 3) pa_nil)))) (pss_cons (ps_set (i := 5) sc_law.nd rfl (by walk_at "o") (pe_cal C_law_fails hr (by walk_at "l") pass0 rfl (pa_cons (pv 4) pa_nil))) (pss_cons (ps_asg (pe_cal C_law_read hr (by walk_at "l") pass0 rfl (pa_cons (pv 4) pa_nil)) (pg_tup rfl (pgs_cons (pg_name (i := 6) sc_law.nd rfl (by walk_at "o")) (pgs_cons (pg_name (i := 7) sc_law.nd rfl (by walk_at "o")) pgs_nil)))) (pss_cons (ps_if (pt_cmpR op_isN (pv 5) pe_non (nomark _)) (pss_one (ps_ret (pe_and (pe_cmpR op_isN (pv 7) pe_non (nomark _)) (pe_and (pe_callB call_isC rfl B.isinstance bt_isinstance (pa_cons (pv 6) (pa_cons (pe_glob (v := .ref c_Rule) rfl g_Rule rfl) pa_nil))) (pe_one (pe_cmpR (op_eqA (units_of hr)) (pe_methA (pv 6) (F_Rule_text.mono (by walk_at "l")) hr b_Rule_text pass0) (pv 4) (nomark _))))))) pss_nil) (pss_cons (ps_if (PW.pt (pw_or (pt_cmpR op_isN (pv 7) pe_non (nomark _)) (pw_or1 (pt_cmpR (op_neA (units_of hr)) (pe_cal C_law_kinds hr (by walk_at "l") pass0 rfl (pa_cons (pv 7) pa_nil)) (pe_lst (pa_cons pe_str pa_nil)) (nomark _))))) (pss_one (ps_ret pe_bl)) pss_nil) (pss_one (ps_ret (pe_and (pe_cal C_law_whole hr (by walk_at "l") pass0 rfl (pa_cons (pe_fldE FG (pv 7) rfl) pa_nil)) (pe_one (pe_cmpR (op_eqA (units_of hr)) (pe_fldE FG (pv 7) rfl) (pv 5) (nomark _)))))))))))), rd_start ?_⟩
 walk_at "walk"
 refine rd_slS S hS fun l1 H1 e1 S1 => ?_
 have hcl : (cutI ns (some 3) (some 63)).length ≤ 63 := by unfold cutI; rw [List.length_take, List.length_drop]; omega
 generalize cutI ns (some 3) (some 63) = cells at *
 have S2 := S1.freeze
 have hS2 : SqL K H1 a (ns.map V.int) := S2.base.seq hS
 walk_at "walk"
 have hg : 0 ≤ cellAt ns 0 % 10 ^ Int.toNat 28 ∧ cellAt ns 0 % 10 ^ Int.toNat 28 < 10 ^ 28 := ⟨Int.emod_nonneg _ (by decide), Int.emod_lt_of_pos _ (by decide)⟩
 generalize cellAt ns 0 % 10 ^ Int.toNat 28 = g at *
 refine rd_rl (α := List Int × Int) (cells, g) S2 (HasAll.cons (by walk_at "m") (HasAll.cons Has.int HasAll.nil)) ⟨by show cells.length ≤ 1000; omega, hg.1, hg.2⟩ fun w3 H3 r e3 S3 h1 => ?_
 obtain ⟨hsz, ok⟩ := h1
 have S3 : Sta H H H3 [] [(r.trip A, w3)] := S3.dat (by walk_at "dats")
 walk_at "walk"
 refine rd_kGT3 (x := r.ins A) (y := r.shape) (z := .str r.text) S3 (by walk_at "m") fun u1 u2 u3 S4 => ?_
 cases (S4.hp (x := .str r.text) (v := u3) (by walk_at "m")).str_of
 have S5 : Sta H H H3 [] [] := S4.dat (by walk_at "dats")
 have hS3 : SqL K H3 a (ns.map V.int) := S5.base.seq hS
 walk_at "walk"
 refine ⟨a, ns, r.text, rfl, hS3, hlen, built_tx ok hsz, fun U H4 e4 hU => ?_⟩
 have lU := hU.len
 have hrun : RunT U 560 := fun i ds f => Nat.le_trans (hU.runT i ds f) (by decide)
 have hpc := hU.pc
 obtain ⟨m, hR⟩ := reach_read (T := U) (n := 51) (by omega)
 walk_at "walk"
 refine rd_spB (α := Str × Nat × Option Nat) (U, m, _) (by simp only [IsAll, Is]; exact ⟨_, _, rfl, rfl, rfl⟩) ⟨by show U.length ≤ 2000; omega, hrun, hR, by show pc U 0 ≤ 500; omega⟩ fun H5 e5 => ?_
 dsimp only
 walk_at "walk"
 refine ⟨H5, U, rfl, Same.refl _, by omega, by omega, ?_⟩
 cases hf : readF 51 U with
 | error j =>
   dsimp only
   intro t x H6 e6 ht hx
   have S6 : Sta H6 H6 H6 [] [] := Sta.enter (Same.refl _) fun p hp => absurd hp List.not_mem_nil
   walk_at "walk"
   refine ⟨t, [.non, .ref x], rfl, SqT.of ht, rfl, ?_⟩
   walk_at "walk"
   refine ⟨rfl, ?_⟩
   walk_at "walk"
   refine iteD (fun c => by cases c) (fun _ => ?_)
   walk_at "walk"
   refine ⟨rfl, ?_⟩
   walk_at "walk"
   refine iteD (fun c => by cases c) (fun _ => ?_)
   walk_at "walk"
   refine rd_kinds2 S6 hx fun v7 H7 e7 S7 => ?_
   walk_at "walk"
   rename_i p8 H8 e8 S8
   refine rd_neD (x := .list [.str "NoRule"]) (y := .list [.str "NoRule"]) (S8.hp (by walk_at "m")) (S8.hpC (by walk_at "mem")) (shaped_one _ (by decide +kernel)) (shaped_one _ (by decide +kernel)) ?_
   rw [eqv_one]
   have hx := hx.same S8.base
   walk_at "walk"
   refine rd_fldE rfl hx XF ?_
   walk_at "walk"
   refine rd_whole ?_
   walk_at "walk"
   refine rd_fldE rfl hx XF ?_
   walk_at "walk"
   change rEqA (.int _) (.int ((j : Nat) : Int)) H8 _
   refine rd_eqI ?_
   rw [decide_eq_true rfl]
   exact q _
 | ok r2 =>
   dsimp only
   intro v H6 G6 gr hv
   obtain ⟨et, hd, hw⟩ := read_text hrun hf
   have S6 : Sta H6 G6 H6 [] [(.tuple [r2.ins A, .none], v)] := Sta.enter gr.sub fun p hp => by cases List.mem_singleton.mp hp; exact hv
   walk_at "walk"
   refine rd_kGT2 S6 (by walk_at "m") fun w1 w2 S7 => ?_
   obtain rfl : w2 = .non := by have z := S7.hp (x := .none) (v := w2) (by walk_at "m"); rw [Is] at z; exact z
   walk_at "walk"
   refine ⟨rfl, ?_⟩
   walk_at "walk"
   refine iteD (fun _ => ?_) (fun c => absurd rfl c)
   walk_at "walk"
   refine ⟨rfl, ?_⟩
   walk_at "walk"
   refine iteD (fun _ => ?_) (fun c => absurd rfl c)
   walk_at "walk"
   refine rd_isC S7 (by walk_at "m") (okA r2) ?_
   walk_at "walk"
   refine rd_kMT S7 (by walk_at "m") (okA r2) ?_
   refine rd_text S7 (by walk_at "m") hw (by rw [et]; omega) hd fun H8 S8 => ?_
   walk_at "walk"
   rw [decide_eq_true et]
   exact q _
end
end
theorem all_mk {l : PySem.W.OpenLaw} {w : World} {K : PySem.W.Frag} {h : Heap} {mg : Str → Option Value} {fa : Addr} (X : K.In h) (G : h.Ns mainGlobals mg) (hfa : mg "law" = some (.ref fa))
 {f1 f2 f3 f4 f5 f6 f7 f8 f9 f10 f11 f12 f13 f14 f15 f16 f17 f18 f19 f20 f21 f22 f23 f24 f25 f26 f27 f28 f29 f30 f31 f32 f33 f34 f35 f36 : Addr} {od1 od2 od3 od4 od5 od6 od7 od8 od9 od10 od11 od12 od13 od14 od15 od16 od17 od18 od19 od20 od21 od22 od23 od24 od25 od26 od27 od28 od29 od30 od31 od32 od33 od34 od35 od36 an1 an2 an3 an4 an5 an6 an7 an8 an9 an10 an11 an12 an13 an14 an15 an16 an17 an18 an19 an20 an21 an22 an23 an24 an25 an26 an27 an28 an29 an30 an31 an32 an33 an34 an35 an36 : Option Addr} {sl1 sl2 sl3 sl4 sl5 sl6 sl7 sl8 sl9 sl10 sl11 sl12 sl13 sl14 sl15 sl16 sl17 sl18 sl19 sl20 sl21 sl22 sl23 sl24 sl25 sl26 sl27 sl28 sl29 sl30 sl31 sl32 sl33 sl34 sl35 sl36 : Array (Option Value)} {oc1 oc2 oc3 oc4 oc5 oc6 oc7 oc8 oc9 oc10 oc11 oc12 oc13 oc14 oc15 oc16 oc17 oc18 oc19 oc20 oc21 oc22 oc23 oc24 oc25 oc26 oc27 oc28 oc29 oc30 oc31 oc32 oc33 oc34 oc35 oc36 kV1 kV2 kV3 kV4 kV5 kV6 kV7 kV8 kV9 kV10 kV11 kV12 kV13 kV14 kV15 kV16 kV17 kV18 kV19 kV20 kV21 kV22 kV23 kV24 kV25 kV26 kV27 kV28 kV29 kV30 kV31 kV32 kV33 kV34 kV35 kV36 dc1 dc2 dc3 dc4 dc5 dc6 dc7 dc8 dc9 dc10 dc11 dc12 dc13 dc14 dc15 dc16 dc17 dc18 dc19 dc20 dc21 dc22 dc23 dc24 dc25 dc26 dc27 dc28 dc29 dc30 dc31 dc32 dc33 dc34 dc35 dc36 pm1 pm2 pm3 pm4 pm5 pm6 pm7 pm8 pm9 pm10 pm11 pm12 pm13 pm14 pm15 pm16 pm17 pm18 pm19 pm20 pm21 pm22 pm23 pm24 pm25 pm26 pm27 pm28 pm29 pm30 pm31 pm32 pm33 pm34 pm35 pm36 cd1 cd2 cd3 cd4 cd5 cd6 cd7 cd8 cd9 cd10 cd11 cd12 cd13 cd14 cd15 cd16 cd17 cd18 cd19 cd20 cd21 cd22 cd23 cd24 cd25 cd26 cd27 cd28 cd29 cd30 cd31 cd32 cd33 cd34 cd35 cd36 ct1 ct2 ct3 ct4 ct5 ct6 ct7 ct8 ct9 ct10 ct11 ct12 ct13 ct14 ct15 ct16 ct17 ct18 ct19 ct20 ct21 ct22 ct23 ct24 ct25 ct26 ct27 ct28 ct29 ct30 ct31 ct32 ct33 ct34 ct35 ct36 : Value}
 (a1 : PySem.W.nsIn K mainGlobals "fraction" = some (some (.ref f1))) (l1 : K.lookup f1 = some ⟨oc1, od1, .func (PySem.W.fnOf "fraction" "fraction" (defArgs s_fraction) (defBody s_fraction) (defScope s_fraction) .none kV1 dc1 pm1 an1 cd1 ct1), sl1⟩) (c1 : PySem.W.codeIn K cd1 "fraction" = true) (k1 : PySem.W.keepIn K (.ref f1) = true)
 (a2 : PySem.W.nsIn K mainGlobals "is_whole" = some (some (.ref f2))) (l2 : K.lookup f2 = some ⟨oc2, od2, .func (PySem.W.fnOf "is_whole" "is_whole" (defArgs s_is_whole) (defBody s_is_whole) (defScope s_is_whole) .none kV2 dc2 pm2 an2 cd2 ct2), sl2⟩) (c2 : PySem.W.codeIn K cd2 "is_whole" = true) (k2 : PySem.W.keepIn K (.ref f2) = true)
 (a3 : PySem.W.nsIn K mainGlobals "lowest" = some (some (.ref f3))) (l3 : K.lookup f3 = some ⟨oc3, od3, .func (PySem.W.fnOf "lowest" "lowest" (defArgs s_lowest) (defBody s_lowest) (defScope s_lowest) .none kV3 dc3 pm3 an3 cd3 ct3), sl3⟩) (c3 : PySem.W.codeIn K cd3 "lowest" = true) (k3 : PySem.W.keepIn K (.ref f3) = true)
 (a4 : PySem.W.nsIn K mainGlobals "greatest_divisor" = some (some (.ref f4))) (l4 : K.lookup f4 = some ⟨oc4, od4, .func (PySem.W.fnOf "greatest_divisor" "greatest_divisor" (defArgs s_greatest_divisor) (defBody s_greatest_divisor) (defScope s_greatest_divisor) .none kV4 dc4 pm4 an4 cd4 ct4), sl4⟩) (c4 : PySem.W.codeIn K cd4 "greatest_divisor" = true) (k4 : PySem.W.keepIn K (.ref f4) = true)
 (a5 : PySem.W.nsIn K mainGlobals "text_of" = some (some (.ref f5))) (l5 : K.lookup f5 = some ⟨oc5, od5, .func (PySem.W.fnOf "text_of" "text_of" (defArgs s_text_of) (defBody s_text_of) (defScope s_text_of) .none kV5 dc5 pm5 an5 cd5 ct5), sl5⟩) (c5 : PySem.W.codeIn K cd5 "text_of" = true) (k5 : PySem.W.keepIn K (.ref f5) = true)
 (a6 : PySem.W.nsIn K mainGlobals "portion_text" = some (some (.ref f6))) (l6 : K.lookup f6 = some ⟨oc6, od6, .func (PySem.W.fnOf "portion_text" "portion_text" (defArgs s_portion_text) (defBody s_portion_text) (defScope s_portion_text) .none kV6 dc6 pm6 an6 cd6 ct6), sl6⟩) (c6 : PySem.W.codeIn K cd6 "portion_text" = true) (k6 : PySem.W.keepIn K (.ref f6) = true)
 (a7 : PySem.W.nsIn K mainGlobals "read" = some (some (.ref f7))) (l7 : K.lookup f7 = some ⟨oc7, od7, .func (PySem.W.fnOf "read" "read" (defArgs s_read) (defBody s_read) (defScope s_read) .none kV7 dc7 pm7 an7 cd7 ct7), sl7⟩) (c7 : PySem.W.codeIn K cd7 "read" = true) (k7 : PySem.W.keepIn K (.ref f7) = true)
 (a8 : PySem.W.nsIn K mainGlobals "read_rule" = some (some (.ref f8))) (l8 : K.lookup f8 = some ⟨oc8, od8, .func (PySem.W.fnOf "read_rule" "read_rule" (defArgs s_read_rule) (defBody s_read_rule) (defScope s_read_rule) .none kV8 dc8 pm8 an8 cd8 ct8), sl8⟩) (c8 : PySem.W.codeIn K cd8 "read_rule" = true) (k8 : PySem.W.keepIn K (.ref f8) = true)
 (a9 : PySem.W.nsIn K mainGlobals "read_word" = some (some (.ref f9))) (l9 : K.lookup f9 = some ⟨oc9, od9, .func (PySem.W.fnOf "read_word" "read_word" (defArgs s_read_word) (defBody s_read_word) (defScope s_read_word) .none kV9 dc9 pm9 an9 cd9 ct9), sl9⟩) (c9 : PySem.W.codeIn K cd9 "read_word" = true) (k9 : PySem.W.keepIn K (.ref f9) = true)
 (a10 : PySem.W.nsIn K mainGlobals "read_within_brackets" = some (some (.ref f10))) (l10 : K.lookup f10 = some ⟨oc10, od10, .func (PySem.W.fnOf "read_within_brackets" "read_within_brackets" (defArgs s_read_within_brackets) (defBody s_read_within_brackets) (defScope s_read_within_brackets) .none kV10 dc10 pm10 an10 cd10 ct10), sl10⟩) (c10 : PySem.W.codeIn K cd10 "read_within_brackets" = true) (k10 : PySem.W.keepIn K (.ref f10) = true)
 (a11 : PySem.W.nsIn K mainGlobals "read_portion" = some (some (.ref f11))) (l11 : K.lookup f11 = some ⟨oc11, od11, .func (PySem.W.fnOf "read_portion" "read_portion" (defArgs s_read_portion) (defBody s_read_portion) (defScope s_read_portion) .none kV11 dc11 pm11 an11 cd11 ct11), sl11⟩) (c11 : PySem.W.codeIn K cd11 "read_portion" = true) (k11 : PySem.W.keepIn K (.ref f11) = true)
 (a12 : PySem.W.nsIn K mainGlobals "read_number" = some (some (.ref f12))) (l12 : K.lookup f12 = some ⟨oc12, od12, .func (PySem.W.fnOf "read_number" "read_number" (defArgs s_read_number) (defBody s_read_number) (defScope s_read_number) .none kV12 dc12 pm12 an12 cd12 ct12), sl12⟩) (c12 : PySem.W.codeIn K cd12 "read_number" = true) (k12 : PySem.W.keepIn K (.ref f12) = true)
 (a13 : PySem.W.nsIn K mainGlobals "_law_cell_at" = some (some (.ref f13))) (l13 : K.lookup f13 = some ⟨oc13, od13, .func (PySem.W.fnOf "_law_cell_at" "_law_cell_at" (defArgs s_law_cell_at) (defBody s_law_cell_at) (defScope s_law_cell_at) .none kV13 dc13 pm13 an13 cd13 ct13), sl13⟩) (c13 : PySem.W.codeIn K cd13 "_law_cell_at" = true) (k13 : PySem.W.keepIn K (.ref f13) = true)
 (a14 : PySem.W.nsIn K mainGlobals "_law_whole" = some (some (.ref f14))) (l14 : K.lookup f14 = some ⟨oc14, od14, .func (PySem.W.fnOf "_law_whole" "_law_whole" (defArgs s_law_whole) (defBody s_law_whole) (defScope s_law_whole) .none kV14 dc14 pm14 an14 cd14 ct14), sl14⟩) (c14 : PySem.W.codeIn K cd14 "_law_whole" = true) (k14 : PySem.W.keepIn K (.ref f14) = true)
 (a15 : PySem.W.nsIn K mainGlobals "_law_divisor" = some (some (.ref f15))) (l15 : K.lookup f15 = some ⟨oc15, od15, .func (PySem.W.fnOf "_law_divisor" "_law_divisor" (defArgs s_law_divisor) (defBody s_law_divisor) (defScope s_law_divisor) .none kV15 dc15 pm15 an15 cd15 ct15), sl15⟩) (c15 : PySem.W.codeIn K cd15 "_law_divisor" = true) (k15 : PySem.W.keepIn K (.ref f15) = true)
 (a16 : PySem.W.nsIn K mainGlobals "_law_mixed" = some (some (.ref f16))) (l16 : K.lookup f16 = some ⟨oc16, od16, .func (PySem.W.fnOf "_law_mixed" "_law_mixed" (defArgs s_law_mixed) (defBody s_law_mixed) (defScope s_law_mixed) .none kV16 dc16 pm16 an16 cd16 ct16), sl16⟩) (c16 : PySem.W.codeIn K cd16 "_law_mixed" = true) (k16 : PySem.W.keepIn K (.ref f16) = true)
 (a17 : PySem.W.nsIn K mainGlobals "_law_portion" = some (some (.ref f17))) (l17 : K.lookup f17 = some ⟨oc17, od17, .func (PySem.W.fnOf "_law_portion" "_law_portion" (defArgs s_law_portion) (defBody s_law_portion) (defScope s_law_portion) .none kV17 dc17 pm17 an17 cd17 ct17), sl17⟩) (c17 : PySem.W.codeIn K cd17 "_law_portion" = true) (k17 : PySem.W.keepIn K (.ref f17) = true)
 (a18 : PySem.W.nsIn K mainGlobals "_law_leaf" = some (some (.ref f18))) (l18 : K.lookup f18 = some ⟨oc18, od18, .func (PySem.W.fnOf "_law_leaf" "_law_leaf" (defArgs s_law_leaf) (defBody s_law_leaf) (defScope s_law_leaf) .none kV18 dc18 pm18 an18 cd18 ct18), sl18⟩) (c18 : PySem.W.codeIn K cd18 "_law_leaf" = true) (k18 : PySem.W.keepIn K (.ref f18) = true)
 (a19 : PySem.W.nsIn K mainGlobals "_law_lone" = some (some (.ref f19))) (l19 : K.lookup f19 = some ⟨oc19, od19, .func (PySem.W.fnOf "_law_lone" "_law_lone" (defArgs s_law_lone) (defBody s_law_lone) (defScope s_law_lone) .none kV19 dc19 pm19 an19 cd19 ct19), sl19⟩) (c19 : PySem.W.codeIn K cd19 "_law_lone" = true) (k19 : PySem.W.keepIn K (.ref f19) = true)
 (a20 : PySem.W.nsIn K mainGlobals "_law_pair" = some (some (.ref f20))) (l20 : K.lookup f20 = some ⟨oc20, od20, .func (PySem.W.fnOf "_law_pair" "_law_pair" (defArgs s_law_pair) (defBody s_law_pair) (defScope s_law_pair) .none kV20 dc20 pm20 an20 cd20 ct20), sl20⟩) (c20 : PySem.W.codeIn K cd20 "_law_pair" = true) (k20 : PySem.W.keepIn K (.ref f20) = true)
 (a21 : PySem.W.nsIn K mainGlobals "_law_built" = some (some (.ref f21))) (l21 : K.lookup f21 = some ⟨oc21, od21, .func (PySem.W.fnOf "_law_built" "_law_built" (defArgs s_law_built) (defBody s_law_built) (defScope s_law_built) .none kV21 dc21 pm21 an21 cd21 ct21), sl21⟩) (c21 : PySem.W.codeIn K cd21 "_law_built" = true) (k21 : PySem.W.keepIn K (.ref f21) = true)
 (a22 : PySem.W.nsIn K mainGlobals "_law_kinds" = some (some (.ref f22))) (l22 : K.lookup f22 = some ⟨oc22, od22, .func (PySem.W.fnOf "_law_kinds" "_law_kinds" (defArgs s_law_kinds) (defBody s_law_kinds) (defScope s_law_kinds) .none kV22 dc22 pm22 an22 cd22 ct22), sl22⟩) (c22 : PySem.W.codeIn K cd22 "_law_kinds" = true) (k22 : PySem.W.keepIn K (.ref f22) = true)
 (a23 : PySem.W.nsIn K mainGlobals "_law_sign" = some (some (.ref f23))) (l23 : K.lookup f23 = some ⟨oc23, od23, .func (PySem.W.fnOf "_law_sign" "_law_sign" (defArgs s_law_sign) (defBody s_law_sign) (defScope s_law_sign) .none kV23 dc23 pm23 an23 cd23 ct23), sl23⟩) (c23 : PySem.W.codeIn K cd23 "_law_sign" = true) (k23 : PySem.W.keepIn K (.ref f23) = true)
 (a24 : PySem.W.nsIn K mainGlobals "_law_put_at" = some (some (.ref f24))) (l24 : K.lookup f24 = some ⟨oc24, od24, .func (PySem.W.fnOf "_law_put_at" "_law_put_at" (defArgs s_law_put_at) (defBody s_law_put_at) (defScope s_law_put_at) .none kV24 dc24 pm24 an24 cd24 ct24), sl24⟩) (c24 : PySem.W.codeIn K cd24 "_law_put_at" = true) (k24 : PySem.W.keepIn K (.ref f24) = true)
 (a25 : PySem.W.nsIn K mainGlobals "_law_other_portion" = some (some (.ref f25))) (l25 : K.lookup f25 = some ⟨oc25, od25, .func (PySem.W.fnOf "_law_other_portion" "_law_other_portion" (defArgs s_law_other_portion) (defBody s_law_other_portion) (defScope s_law_other_portion) .none kV25 dc25 pm25 an25 cd25 ct25), sl25⟩) (c25 : PySem.W.codeIn K cd25 "_law_other_portion" = true) (k25 : PySem.W.keepIn K (.ref f25) = true)
 (a26 : PySem.W.nsIn K mainGlobals "_law_spoilt" = some (some (.ref f26))) (l26 : K.lookup f26 = some ⟨oc26, od26, .func (PySem.W.fnOf "_law_spoilt" "_law_spoilt" (defArgs s_law_spoilt) (defBody s_law_spoilt) (defScope s_law_spoilt) .none kV26 dc26 pm26 an26 cd26 ct26), sl26⟩) (c26 : PySem.W.codeIn K cd26 "_law_spoilt" = true) (k26 : PySem.W.keepIn K (.ref f26) = true)
 (a27 : PySem.W.nsIn K mainGlobals "_law_twice" = some (some (.ref f27))) (l27 : K.lookup f27 = some ⟨oc27, od27, .func (PySem.W.fnOf "_law_twice" "_law_twice" (defArgs s_law_twice) (defBody s_law_twice) (defScope s_law_twice) .none kV27 dc27 pm27 an27 cd27 ct27), sl27⟩) (c27 : PySem.W.codeIn K cd27 "_law_twice" = true) (k27 : PySem.W.keepIn K (.ref f27) = true)
 (a28 : PySem.W.nsIn K mainGlobals "_law_alike" = some (some (.ref f28))) (l28 : K.lookup f28 = some ⟨oc28, od28, .func (PySem.W.fnOf "_law_alike" "_law_alike" (defArgs s_law_alike) (defBody s_law_alike) (defScope s_law_alike) .none kV28 dc28 pm28 an28 cd28 ct28), sl28⟩) (c28 : PySem.W.codeIn K cd28 "_law_alike" = true) (k28 : PySem.W.keepIn K (.ref f28) = true)
 (a29 : PySem.W.nsIn K mainGlobals "_law_figures" = some (some (.ref f29))) (l29 : K.lookup f29 = some ⟨oc29, od29, .func (PySem.W.fnOf "_law_figures" "_law_figures" (defArgs s_law_figures) (defBody s_law_figures) (defScope s_law_figures) .none kV29 dc29 pm29 an29 cd29 ct29), sl29⟩) (c29 : PySem.W.codeIn K cd29 "_law_figures" = true) (k29 : PySem.W.keepIn K (.ref f29) = true)
 (a30 : PySem.W.nsIn K mainGlobals "_law_comma" = some (some (.ref f30))) (l30 : K.lookup f30 = some ⟨oc30, od30, .func (PySem.W.fnOf "_law_comma" "_law_comma" (defArgs s_law_comma) (defBody s_law_comma) (defScope s_law_comma) .none kV30 dc30 pm30 an30 cd30 ct30), sl30⟩) (c30 : PySem.W.codeIn K cd30 "_law_comma" = true) (k30 : PySem.W.keepIn K (.ref f30) = true)
 (a31 : PySem.W.nsIn K mainGlobals "_law_portion_read" = some (some (.ref f31))) (l31 : K.lookup f31 = some ⟨oc31, od31, .func (PySem.W.fnOf "_law_portion_read" "_law_portion_read" (defArgs s_law_portion_read) (defBody s_law_portion_read) (defScope s_law_portion_read) .none kV31 dc31 pm31 an31 cd31 ct31), sl31⟩) (c31 : PySem.W.codeIn K cd31 "_law_portion_read" = true) (k31 : PySem.W.keepIn K (.ref f31) = true)
 (a32 : PySem.W.nsIn K mainGlobals "_law_behind" = some (some (.ref f32))) (l32 : K.lookup f32 = some ⟨oc32, od32, .func (PySem.W.fnOf "_law_behind" "_law_behind" (defArgs s_law_behind) (defBody s_law_behind) (defScope s_law_behind) .none kV32 dc32 pm32 an32 cd32 ct32), sl32⟩) (c32 : PySem.W.codeIn K cd32 "_law_behind" = true) (k32 : PySem.W.keepIn K (.ref f32) = true)
 (a33 : PySem.W.nsIn K mainGlobals "_law_begin" = some (some (.ref f33))) (l33 : K.lookup f33 = some ⟨oc33, od33, .func (PySem.W.fnOf "_law_begin" "_law_begin" (defArgs s_law_begin) (defBody s_law_begin) (defScope s_law_begin) .none kV33 dc33 pm33 an33 cd33 ct33), sl33⟩) (c33 : PySem.W.codeIn K cd33 "_law_begin" = true) (k33 : PySem.W.keepIn K (.ref f33) = true)
 (a34 : PySem.W.nsIn K mainGlobals "_law_fails" = some (some (.ref f34))) (l34 : K.lookup f34 = some ⟨oc34, od34, .func (PySem.W.fnOf "_law_fails" "_law_fails" (defArgs s_law_fails) (defBody s_law_fails) (defScope s_law_fails) .none kV34 dc34 pm34 an34 cd34 ct34), sl34⟩) (c34 : PySem.W.codeIn K cd34 "_law_fails" = true) (k34 : PySem.W.keepIn K (.ref f34) = true)
 (a35 : PySem.W.nsIn K mainGlobals "_law_read" = some (some (.ref f35))) (l35 : K.lookup f35 = some ⟨oc35, od35, .func (PySem.W.fnOf "_law_read" "_law_read" (defArgs s_law_read) (defBody s_law_read) (defScope s_law_read) .none kV35 dc35 pm35 an35 cd35 ct35), sl35⟩) (c35 : PySem.W.codeIn K cd35 "_law_read" = true) (k35 : PySem.W.keepIn K (.ref f35) = true)
 (a36 : PySem.W.nsIn K mainGlobals "law" = some (some (.ref f36))) (l36 : K.lookup f36 = some ⟨oc36, od36, .func (PySem.W.fnOf "law" "law" (defArgs s_law) (defBody s_law) (defScope s_law) .none kV36 dc36 pm36 an36 cd36 ct36), sl36⟩) (c36 : PySem.W.codeIn K cd36 "law" = true) (k36 : PySem.W.keepIn K (.ref f36) = true)
 {c_Rule c_Shares c_Evenly c_Losses c_Halves c_Other c_Ranks c_Groups c_Upto : Addr} {f_Rule___init__ f_Rule_shape f_Rule_text f_Shares___init__ f_Evenly___init__ f_Losses___init__ f_Halves___init__ f_Other___init__ f_Ranks___init__ f_Groups___init__ f_Upto___init__ : Addr} {od_Rule___init__ an_Rule___init__ od_Rule_shape an_Rule_shape od_Rule_text an_Rule_text od_Shares___init__ an_Shares___init__ od_Evenly___init__ an_Evenly___init__ od_Losses___init__ an_Losses___init__ od_Halves___init__ an_Halves___init__ od_Other___init__ an_Other___init__ od_Ranks___init__ an_Ranks___init__ od_Groups___init__ an_Groups___init__ od_Upto___init__ an_Upto___init__ : Option Addr} {sl_Rule___init__ sl_Rule_shape sl_Rule_text sl_Shares___init__ sl_Evenly___init__ sl_Losses___init__ sl_Halves___init__ sl_Other___init__ sl_Ranks___init__ sl_Groups___init__ sl_Upto___init__ : Array (Option Value)} {oc_Rule___init__ kV_Rule___init__ dc_Rule___init__ pm_Rule___init__ cd_Rule___init__ ct_Rule___init__ oc_Rule_shape kV_Rule_shape dc_Rule_shape pm_Rule_shape cd_Rule_shape ct_Rule_shape oc_Rule_text kV_Rule_text dc_Rule_text pm_Rule_text cd_Rule_text ct_Rule_text oc_Shares___init__ kV_Shares___init__ dc_Shares___init__ pm_Shares___init__ cd_Shares___init__ ct_Shares___init__ oc_Evenly___init__ kV_Evenly___init__ dc_Evenly___init__ pm_Evenly___init__ cd_Evenly___init__ ct_Evenly___init__ oc_Losses___init__ kV_Losses___init__ dc_Losses___init__ pm_Losses___init__ cd_Losses___init__ ct_Losses___init__ oc_Halves___init__ kV_Halves___init__ dc_Halves___init__ pm_Halves___init__ cd_Halves___init__ ct_Halves___init__ oc_Other___init__ kV_Other___init__ dc_Other___init__ pm_Other___init__ cd_Other___init__ ct_Other___init__ oc_Ranks___init__ kV_Ranks___init__ dc_Ranks___init__ pm_Ranks___init__ cd_Ranks___init__ ct_Ranks___init__ oc_Groups___init__ kV_Groups___init__ dc_Groups___init__ pm_Groups___init__ cd_Groups___init__ ct_Groups___init__ oc_Upto___init__ kV_Upto___init__ dc_Upto___init__ pm_Upto___init__ cd_Upto___init__ ct_Upto___init__ : Value} (x_Rule : PySem.W.nsIn K mainGlobals "Rule" = some (some (.ref c_Rule))) (x_Shares : PySem.W.nsIn K mainGlobals "Shares" = some (some (.ref c_Shares))) (x_Evenly : PySem.W.nsIn K mainGlobals "Evenly" = some (some (.ref c_Evenly))) (x_Losses : PySem.W.nsIn K mainGlobals "Losses" = some (some (.ref c_Losses))) (x_Halves : PySem.W.nsIn K mainGlobals "Halves" = some (some (.ref c_Halves))) (x_Other : PySem.W.nsIn K mainGlobals "Other" = some (some (.ref c_Other))) (x_Ranks : PySem.W.nsIn K mainGlobals "Ranks" = some (some (.ref c_Ranks))) (x_Groups : PySem.W.nsIn K mainGlobals "Groups" = some (some (.ref c_Groups))) (x_Upto : PySem.W.nsIn K mainGlobals "Upto" = some (some (.ref c_Upto)))
 (e_Rule___init__ : PySem.W.findCls K (.ref c_Rule) (.type "type") "__init__" = some (.val (.ref f_Rule___init__))) (e_Shares___init__ : PySem.W.findIn K (.ref c_Shares) "__init__" = some (some (.ref f_Shares___init__))) (e_Evenly___init__ : PySem.W.findIn K (.ref c_Evenly) "__init__" = some (some (.ref f_Evenly___init__))) (e_Losses___init__ : PySem.W.findIn K (.ref c_Losses) "__init__" = some (some (.ref f_Losses___init__))) (e_Halves___init__ : PySem.W.findIn K (.ref c_Halves) "__init__" = some (some (.ref f_Halves___init__))) (e_Other___init__ : PySem.W.findIn K (.ref c_Other) "__init__" = some (some (.ref f_Other___init__))) (e_Ranks___init__ : PySem.W.findIn K (.ref c_Ranks) "__init__" = some (some (.ref f_Ranks___init__))) (e_Groups___init__ : PySem.W.findIn K (.ref c_Groups) "__init__" = some (some (.ref f_Groups___init__))) (e_Upto___init__ : PySem.W.findIn K (.ref c_Upto) "__init__" = some (some (.ref f_Upto___init__))) (es_Shares : PySem.W.findIn K (.ref c_Shares) "shape" = some (some (.ref f_Rule_shape))) (et_Shares : PySem.W.findIn K (.ref c_Shares) "text" = some (some (.ref f_Rule_text))) (es_Evenly : PySem.W.findIn K (.ref c_Evenly) "shape" = some (some (.ref f_Rule_shape))) (et_Evenly : PySem.W.findIn K (.ref c_Evenly) "text" = some (some (.ref f_Rule_text))) (es_Losses : PySem.W.findIn K (.ref c_Losses) "shape" = some (some (.ref f_Rule_shape))) (et_Losses : PySem.W.findIn K (.ref c_Losses) "text" = some (some (.ref f_Rule_text))) (es_Halves : PySem.W.findIn K (.ref c_Halves) "shape" = some (some (.ref f_Rule_shape))) (et_Halves : PySem.W.findIn K (.ref c_Halves) "text" = some (some (.ref f_Rule_text))) (es_Other : PySem.W.findIn K (.ref c_Other) "shape" = some (some (.ref f_Rule_shape))) (et_Other : PySem.W.findIn K (.ref c_Other) "text" = some (some (.ref f_Rule_text))) (es_Ranks : PySem.W.findIn K (.ref c_Ranks) "shape" = some (some (.ref f_Rule_shape))) (et_Ranks : PySem.W.findIn K (.ref c_Ranks) "text" = some (some (.ref f_Rule_text))) (es_Groups : PySem.W.findIn K (.ref c_Groups) "shape" = some (some (.ref f_Rule_shape))) (et_Groups : PySem.W.findIn K (.ref c_Groups) "text" = some (some (.ref f_Rule_text))) (es_Upto : PySem.W.findIn K (.ref c_Upto) "shape" = some (some (.ref f_Rule_shape))) (et_Upto : PySem.W.findIn K (.ref c_Upto) "text" = some (some (.ref f_Rule_text)))
 (l_Rule___init__ : K.lookup f_Rule___init__ = some ⟨oc_Rule___init__, od_Rule___init__, .func (PySem.W.fnOf "__init__" "Rule.__init__" (defArgs s_Rule___init__) (defBody s_Rule___init__) (defScope s_Rule___init__) .none kV_Rule___init__ dc_Rule___init__ pm_Rule___init__ an_Rule___init__ cd_Rule___init__ ct_Rule___init__), sl_Rule___init__⟩) (c2_Rule___init__ : PySem.W.codeIn K cd_Rule___init__ "Rule.__init__" = true) (k_Rule___init__ : PySem.W.keepIn K (.ref f_Rule___init__) = true)
 (l_Rule_shape : K.lookup f_Rule_shape = some ⟨oc_Rule_shape, od_Rule_shape, .func (PySem.W.fnOf "shape" "Rule.shape" (defArgs s_Rule_shape) (defBody s_Rule_shape) (defScope s_Rule_shape) .none kV_Rule_shape dc_Rule_shape pm_Rule_shape an_Rule_shape cd_Rule_shape ct_Rule_shape), sl_Rule_shape⟩) (c2_Rule_shape : PySem.W.codeIn K cd_Rule_shape "Rule.shape" = true) (k_Rule_shape : PySem.W.keepIn K (.ref f_Rule_shape) = true)
 (l_Rule_text : K.lookup f_Rule_text = some ⟨oc_Rule_text, od_Rule_text, .func (PySem.W.fnOf "text" "Rule.text" (defArgs s_Rule_text) (defBody s_Rule_text) (defScope s_Rule_text) .none kV_Rule_text dc_Rule_text pm_Rule_text an_Rule_text cd_Rule_text ct_Rule_text), sl_Rule_text⟩) (c2_Rule_text : PySem.W.codeIn K cd_Rule_text "Rule.text" = true) (k_Rule_text : PySem.W.keepIn K (.ref f_Rule_text) = true)
 (l_Shares___init__ : K.lookup f_Shares___init__ = some ⟨oc_Shares___init__, od_Shares___init__, .func (PySem.W.fnOf "__init__" "Shares.__init__" (defArgs s_Shares___init__) (defBody s_Shares___init__) (defScope s_Shares___init__) .none kV_Shares___init__ dc_Shares___init__ pm_Shares___init__ an_Shares___init__ cd_Shares___init__ ct_Shares___init__), sl_Shares___init__⟩) (c2_Shares___init__ : PySem.W.codeIn K cd_Shares___init__ "Shares.__init__" = true) (k_Shares___init__ : PySem.W.keepIn K (.ref f_Shares___init__) = true)
 (l_Evenly___init__ : K.lookup f_Evenly___init__ = some ⟨oc_Evenly___init__, od_Evenly___init__, .func (PySem.W.fnOf "__init__" "Evenly.__init__" (defArgs s_Evenly___init__) (defBody s_Evenly___init__) (defScope s_Evenly___init__) .none kV_Evenly___init__ dc_Evenly___init__ pm_Evenly___init__ an_Evenly___init__ cd_Evenly___init__ ct_Evenly___init__), sl_Evenly___init__⟩) (c2_Evenly___init__ : PySem.W.codeIn K cd_Evenly___init__ "Evenly.__init__" = true) (k_Evenly___init__ : PySem.W.keepIn K (.ref f_Evenly___init__) = true)
 (l_Losses___init__ : K.lookup f_Losses___init__ = some ⟨oc_Losses___init__, od_Losses___init__, .func (PySem.W.fnOf "__init__" "Losses.__init__" (defArgs s_Losses___init__) (defBody s_Losses___init__) (defScope s_Losses___init__) .none kV_Losses___init__ dc_Losses___init__ pm_Losses___init__ an_Losses___init__ cd_Losses___init__ ct_Losses___init__), sl_Losses___init__⟩) (c2_Losses___init__ : PySem.W.codeIn K cd_Losses___init__ "Losses.__init__" = true) (k_Losses___init__ : PySem.W.keepIn K (.ref f_Losses___init__) = true)
 (l_Halves___init__ : K.lookup f_Halves___init__ = some ⟨oc_Halves___init__, od_Halves___init__, .func (PySem.W.fnOf "__init__" "Halves.__init__" (defArgs s_Halves___init__) (defBody s_Halves___init__) (defScope s_Halves___init__) .none kV_Halves___init__ dc_Halves___init__ pm_Halves___init__ an_Halves___init__ cd_Halves___init__ ct_Halves___init__), sl_Halves___init__⟩) (c2_Halves___init__ : PySem.W.codeIn K cd_Halves___init__ "Halves.__init__" = true) (k_Halves___init__ : PySem.W.keepIn K (.ref f_Halves___init__) = true)
 (l_Other___init__ : K.lookup f_Other___init__ = some ⟨oc_Other___init__, od_Other___init__, .func (PySem.W.fnOf "__init__" "Other.__init__" (defArgs s_Other___init__) (defBody s_Other___init__) (defScope s_Other___init__) .none kV_Other___init__ dc_Other___init__ pm_Other___init__ an_Other___init__ cd_Other___init__ ct_Other___init__), sl_Other___init__⟩) (c2_Other___init__ : PySem.W.codeIn K cd_Other___init__ "Other.__init__" = true) (k_Other___init__ : PySem.W.keepIn K (.ref f_Other___init__) = true)
 (l_Ranks___init__ : K.lookup f_Ranks___init__ = some ⟨oc_Ranks___init__, od_Ranks___init__, .func (PySem.W.fnOf "__init__" "Ranks.__init__" (defArgs s_Ranks___init__) (defBody s_Ranks___init__) (defScope s_Ranks___init__) .none kV_Ranks___init__ dc_Ranks___init__ pm_Ranks___init__ an_Ranks___init__ cd_Ranks___init__ ct_Ranks___init__), sl_Ranks___init__⟩) (c2_Ranks___init__ : PySem.W.codeIn K cd_Ranks___init__ "Ranks.__init__" = true) (k_Ranks___init__ : PySem.W.keepIn K (.ref f_Ranks___init__) = true)
 (l_Groups___init__ : K.lookup f_Groups___init__ = some ⟨oc_Groups___init__, od_Groups___init__, .func (PySem.W.fnOf "__init__" "Groups.__init__" (defArgs s_Groups___init__) (defBody s_Groups___init__) (defScope s_Groups___init__) .none kV_Groups___init__ dc_Groups___init__ pm_Groups___init__ an_Groups___init__ cd_Groups___init__ ct_Groups___init__), sl_Groups___init__⟩) (c2_Groups___init__ : PySem.W.codeIn K cd_Groups___init__ "Groups.__init__" = true) (k_Groups___init__ : PySem.W.keepIn K (.ref f_Groups___init__) = true)
 (l_Upto___init__ : K.lookup f_Upto___init__ = some ⟨oc_Upto___init__, od_Upto___init__, .func (PySem.W.fnOf "__init__" "Upto.__init__" (defArgs s_Upto___init__) (defBody s_Upto___init__) (defScope s_Upto___init__) .none kV_Upto___init__ dc_Upto___init__ pm_Upto___init__ an_Upto___init__ cd_Upto___init__ ct_Upto___init__), sl_Upto___init__⟩) (c2_Upto___init__ : PySem.W.codeIn K cd_Upto___init__ "Upto.__init__" = true) (k_Upto___init__ : PySem.W.keepIn K (.ref f_Upto___init__) = true) (n_Rule_shape : PySem.W.isFn K (.ref f_Rule_shape) = true) (n_Rule_text : PySem.W.isFn K (.ref f_Rule_text) = true)
 (sp_Rule : PySem.W.specialIn K (.ref c_Rule) "__getattribute__" = some (some (.builtin "type.__getattribute__"))) (rd_Rule : PySem.W.readsIn K c_Rule (.type "type") = true) (hn0 : PySem.W.specialIn K (.builtin "object.__class__") "__get__" = some (some (.builtin "getset_descriptor.__get__"))) (ht0 : PySem.W.takesIn K (.builtin "object.__class__") = some true)
 (pg_Shares : PySem.W.plainGet K c_Shares Str.empty = true) (hd_Shares : PySem.W.hasDictIn K c_Shares = true) (po_Shares : PySem.W.plainOver K c_Shares = true) (sa_Shares : PySem.W.findIn K (.ref c_Shares) "__setattr__" = some (some (.builtin "object.__setattr__"))) (na_Shares : PySem.W.findIn K (.ref c_Shares) "form" = some none) (ha_Shares : PySem.W.findIn K (.ref c_Shares) "__class__" = some (some (.builtin "object.__class__"))) (mo_Shares : PySem.W.mroIn K c_Shares (.type "object") = some true) (kt_Shares : PySem.W.kitOne K (.ref c_Shares) (.ref c_Rule) = some true) (mk_Shares : PySem.W.makesIn K c_Shares = true) (nf_Shares : PySem.W.isFn K (.ref f_Shares___init__) = true) (kc_Shares : PySem.W.keepIn K (.ref c_Shares) = true)
 (pg_Evenly : PySem.W.plainGet K c_Evenly Str.empty = true) (hd_Evenly : PySem.W.hasDictIn K c_Evenly = true) (po_Evenly : PySem.W.plainOver K c_Evenly = true) (sa_Evenly : PySem.W.findIn K (.ref c_Evenly) "__setattr__" = some (some (.builtin "object.__setattr__"))) (na_Evenly : PySem.W.findIn K (.ref c_Evenly) "form" = some none) (ha_Evenly : PySem.W.findIn K (.ref c_Evenly) "__class__" = some (some (.builtin "object.__class__"))) (mo_Evenly : PySem.W.mroIn K c_Evenly (.type "object") = some true) (kt_Evenly : PySem.W.kitOne K (.ref c_Evenly) (.ref c_Rule) = some true) (mk_Evenly : PySem.W.makesIn K c_Evenly = true) (nf_Evenly : PySem.W.isFn K (.ref f_Evenly___init__) = true) (kc_Evenly : PySem.W.keepIn K (.ref c_Evenly) = true)
 (pg_Losses : PySem.W.plainGet K c_Losses Str.empty = true) (hd_Losses : PySem.W.hasDictIn K c_Losses = true) (po_Losses : PySem.W.plainOver K c_Losses = true) (sa_Losses : PySem.W.findIn K (.ref c_Losses) "__setattr__" = some (some (.builtin "object.__setattr__"))) (na_Losses : PySem.W.findIn K (.ref c_Losses) "form" = some none) (ha_Losses : PySem.W.findIn K (.ref c_Losses) "__class__" = some (some (.builtin "object.__class__"))) (mo_Losses : PySem.W.mroIn K c_Losses (.type "object") = some true) (kt_Losses : PySem.W.kitOne K (.ref c_Losses) (.ref c_Rule) = some true) (mk_Losses : PySem.W.makesIn K c_Losses = true) (nf_Losses : PySem.W.isFn K (.ref f_Losses___init__) = true) (kc_Losses : PySem.W.keepIn K (.ref c_Losses) = true)
 (pg_Halves : PySem.W.plainGet K c_Halves Str.empty = true) (hd_Halves : PySem.W.hasDictIn K c_Halves = true) (po_Halves : PySem.W.plainOver K c_Halves = true) (sa_Halves : PySem.W.findIn K (.ref c_Halves) "__setattr__" = some (some (.builtin "object.__setattr__"))) (na_Halves : PySem.W.findIn K (.ref c_Halves) "form" = some none) (ha_Halves : PySem.W.findIn K (.ref c_Halves) "__class__" = some (some (.builtin "object.__class__"))) (mo_Halves : PySem.W.mroIn K c_Halves (.type "object") = some true) (kt_Halves : PySem.W.kitOne K (.ref c_Halves) (.ref c_Rule) = some true) (mk_Halves : PySem.W.makesIn K c_Halves = true) (nf_Halves : PySem.W.isFn K (.ref f_Halves___init__) = true) (kc_Halves : PySem.W.keepIn K (.ref c_Halves) = true)
 (pg_Other : PySem.W.plainGet K c_Other Str.empty = true) (hd_Other : PySem.W.hasDictIn K c_Other = true) (po_Other : PySem.W.plainOver K c_Other = true) (sa_Other : PySem.W.findIn K (.ref c_Other) "__setattr__" = some (some (.builtin "object.__setattr__"))) (na_Other : PySem.W.findIn K (.ref c_Other) "form" = some none) (ha_Other : PySem.W.findIn K (.ref c_Other) "__class__" = some (some (.builtin "object.__class__"))) (mo_Other : PySem.W.mroIn K c_Other (.type "object") = some true) (kt_Other : PySem.W.kitOne K (.ref c_Other) (.ref c_Rule) = some true) (mk_Other : PySem.W.makesIn K c_Other = true) (nf_Other : PySem.W.isFn K (.ref f_Other___init__) = true) (kc_Other : PySem.W.keepIn K (.ref c_Other) = true)
 (pg_Ranks : PySem.W.plainGet K c_Ranks Str.empty = true) (hd_Ranks : PySem.W.hasDictIn K c_Ranks = true) (po_Ranks : PySem.W.plainOver K c_Ranks = true) (sa_Ranks : PySem.W.findIn K (.ref c_Ranks) "__setattr__" = some (some (.builtin "object.__setattr__"))) (na_Ranks : PySem.W.findIn K (.ref c_Ranks) "form" = some none) (ha_Ranks : PySem.W.findIn K (.ref c_Ranks) "__class__" = some (some (.builtin "object.__class__"))) (mo_Ranks : PySem.W.mroIn K c_Ranks (.type "object") = some true) (kt_Ranks : PySem.W.kitOne K (.ref c_Ranks) (.ref c_Rule) = some true) (mk_Ranks : PySem.W.makesIn K c_Ranks = true) (nf_Ranks : PySem.W.isFn K (.ref f_Ranks___init__) = true) (kc_Ranks : PySem.W.keepIn K (.ref c_Ranks) = true)
 (pg_Groups : PySem.W.plainGet K c_Groups Str.empty = true) (hd_Groups : PySem.W.hasDictIn K c_Groups = true) (po_Groups : PySem.W.plainOver K c_Groups = true) (sa_Groups : PySem.W.findIn K (.ref c_Groups) "__setattr__" = some (some (.builtin "object.__setattr__"))) (na_Groups : PySem.W.findIn K (.ref c_Groups) "form" = some none) (ha_Groups : PySem.W.findIn K (.ref c_Groups) "__class__" = some (some (.builtin "object.__class__"))) (mo_Groups : PySem.W.mroIn K c_Groups (.type "object") = some true) (kt_Groups : PySem.W.kitOne K (.ref c_Groups) (.ref c_Rule) = some true) (mk_Groups : PySem.W.makesIn K c_Groups = true) (nf_Groups : PySem.W.isFn K (.ref f_Groups___init__) = true) (kc_Groups : PySem.W.keepIn K (.ref c_Groups) = true)
 (pg_Upto : PySem.W.plainGet K c_Upto Str.empty = true) (hd_Upto : PySem.W.hasDictIn K c_Upto = true) (po_Upto : PySem.W.plainOver K c_Upto = true) (sa_Upto : PySem.W.findIn K (.ref c_Upto) "__setattr__" = some (some (.builtin "object.__setattr__"))) (na_Upto : PySem.W.findIn K (.ref c_Upto) "form" = some none) (ha_Upto : PySem.W.findIn K (.ref c_Upto) "__class__" = some (some (.builtin "object.__class__"))) (mo_Upto : PySem.W.mroIn K c_Upto (.type "object") = some true) (kt_Upto : PySem.W.kitOne K (.ref c_Upto) (.ref c_Rule) = some true) (mk_Upto : PySem.W.makesIn K c_Upto = true) (nf_Upto : PySem.W.isFn K (.ref f_Upto___init__) = true) (kc_Upto : PySem.W.keepIn K (.ref c_Upto) = true)
 {c_Walk c_WORDS c_FIGURES : Addr} {f_Walk___init__ f_Walk_sign f_Walk_expect : Addr} {od_Walk___init__ an_Walk___init__ od_Walk_sign an_Walk_sign od_Walk_expect an_Walk_expect : Option Addr} {sl_Walk___init__ sl_Walk_sign sl_Walk_expect : Array (Option Value)} {oc_Walk___init__ kV_Walk___init__ dc_Walk___init__ pm_Walk___init__ cd_Walk___init__ ct_Walk___init__ oc_Walk_sign kV_Walk_sign dc_Walk_sign pm_Walk_sign cd_Walk_sign ct_Walk_sign oc_Walk_expect kV_Walk_expect dc_Walk_expect pm_Walk_expect cd_Walk_expect ct_Walk_expect : Value} {tWORDS0 tWORDS1 tWORDS2 tWORDS3 tWORDS4 tWORDS5 tWORDS6 tWORDS7 tFIGURES0 tFIGURES1 tFIGURES2 tFIGURES3 tFIGURES4 tFIGURES5 tFIGURES6 tFIGURES7 tFIGURES8 tFIGURES9 : Tok} {n_WORDS n_FIGURES : Nat} {sl_WORDS sl_FIGURES : Array (Option Value)} (x_Walk : PySem.W.nsIn K mainGlobals "Walk" = some (some (.ref c_Walk))) (x_WORDS : PySem.W.nsIn K mainGlobals "WORDS" = some (some (.ref c_WORDS))) (x_FIGURES : PySem.W.nsIn K mainGlobals "FIGURES" = some (some (.ref c_FIGURES)))
 (l_WORDS : K.lookup c_WORDS = some ⟨.type "tuple", none, .seq #[.str "shares" tWORDS0, .str "evenly" tWORDS1, .str "losses" tWORDS2, .str "halves" tWORDS3, .str "other(" tWORDS4, .str "ranks(" tWORDS5, .str "groups(" tWORDS6, .str "upto(" tWORDS7] n_WORDS, sl_WORDS⟩)
 (l_FIGURES : K.lookup c_FIGURES = some ⟨.type "tuple", none, .seq #[.str "0" tFIGURES0, .str "1" tFIGURES1, .str "2" tFIGURES2, .str "3" tFIGURES3, .str "4" tFIGURES4, .str "5" tFIGURES5, .str "6" tFIGURES6, .str "7" tFIGURES7, .str "8" tFIGURES8, .str "9" tFIGURES9] n_FIGURES, sl_FIGURES⟩)
 (e_Walk___init__ : PySem.W.findIn K (.ref c_Walk) "__init__" = some (some (.ref f_Walk___init__))) (e_Walk_sign : PySem.W.findIn K (.ref c_Walk) "sign" = some (some (.ref f_Walk_sign))) (e_Walk_expect : PySem.W.findIn K (.ref c_Walk) "expect" = some (some (.ref f_Walk_expect)))
 (l_Walk___init__ : K.lookup f_Walk___init__ = some ⟨oc_Walk___init__, od_Walk___init__, .func (PySem.W.fnOf "__init__" "Walk.__init__" (defArgs s_Walk___init__) (defBody s_Walk___init__) (defScope s_Walk___init__) .none kV_Walk___init__ dc_Walk___init__ pm_Walk___init__ an_Walk___init__ cd_Walk___init__ ct_Walk___init__), sl_Walk___init__⟩) (c2_Walk___init__ : PySem.W.codeIn K cd_Walk___init__ "Walk.__init__" = true) (k_Walk___init__ : PySem.W.keepIn K (.ref f_Walk___init__) = true) (n_Walk___init__ : PySem.W.isFn K (.ref f_Walk___init__) = true)
 (l_Walk_sign : K.lookup f_Walk_sign = some ⟨oc_Walk_sign, od_Walk_sign, .func (PySem.W.fnOf "sign" "Walk.sign" (defArgs s_Walk_sign) (defBody s_Walk_sign) (defScope s_Walk_sign) .none kV_Walk_sign dc_Walk_sign pm_Walk_sign an_Walk_sign cd_Walk_sign ct_Walk_sign), sl_Walk_sign⟩) (c2_Walk_sign : PySem.W.codeIn K cd_Walk_sign "Walk.sign" = true) (k_Walk_sign : PySem.W.keepIn K (.ref f_Walk_sign) = true) (n_Walk_sign : PySem.W.isFn K (.ref f_Walk_sign) = true)
 (l_Walk_expect : K.lookup f_Walk_expect = some ⟨oc_Walk_expect, od_Walk_expect, .func (PySem.W.fnOf "expect" "Walk.expect" (defArgs s_Walk_expect) (defBody s_Walk_expect) (defScope s_Walk_expect) .none kV_Walk_expect dc_Walk_expect pm_Walk_expect an_Walk_expect cd_Walk_expect ct_Walk_expect), sl_Walk_expect⟩) (c2_Walk_expect : PySem.W.codeIn K cd_Walk_expect "Walk.expect" = true) (k_Walk_expect : PySem.W.keepIn K (.ref f_Walk_expect) = true) (n_Walk_expect : PySem.W.isFn K (.ref f_Walk_expect) = true)
 (pg_Walk : PySem.W.plainGet K c_Walk Str.empty = true) (hd_Walk : PySem.W.hasDictIn K c_Walk = true) (po_Walk : PySem.W.plainOver K c_Walk = true) (sa_Walk : PySem.W.findIn K (.ref c_Walk) "__setattr__" = some (some (.builtin "object.__setattr__"))) (na_Walk : PySem.W.findIn K (.ref c_Walk) "signs" = some none) (nb_Walk : PySem.W.findIn K (.ref c_Walk) "at" = some none) (mk_Walk : PySem.W.makesIn K c_Walk = true) (kc_Walk : PySem.W.keepIn K (.ref c_Walk) = true)
 {c_PurseError c_NoFraction c_NoPurse c_NoClaims c_NoRule c_NoPlace c_NoDivision f_NoRule___init__ : Addr} {cdR : ClassData} {od_NoRule___init__ an_NoRule___init__ : Option Addr} {sl_NoRule___init__ : Array (Option Value)} {oc_NoRule___init__ kV_NoRule___init__ dc_NoRule___init__ pm_NoRule___init__ cd_NoRule___init__ ct_NoRule___init__ : Value} (x_PurseError : PySem.W.nsIn K mainGlobals "PurseError" = some (some (.ref c_PurseError))) (x_NoFraction : PySem.W.nsIn K mainGlobals "NoFraction" = some (some (.ref c_NoFraction))) (x_NoPurse : PySem.W.nsIn K mainGlobals "NoPurse" = some (some (.ref c_NoPurse))) (x_NoClaims : PySem.W.nsIn K mainGlobals "NoClaims" = some (some (.ref c_NoClaims))) (x_NoRule : PySem.W.nsIn K mainGlobals "NoRule" = some (some (.ref c_NoRule))) (x_NoPlace : PySem.W.nsIn K mainGlobals "NoPlace" = some (some (.ref c_NoPlace))) (x_NoDivision : PySem.W.nsIn K mainGlobals "NoDivision" = some (some (.ref c_NoDivision)))
 (qP : PySem.W.excIn K c_PurseError vChain "ValueError.__new__" = true) (oR : ownIn K c_NoRule c_PurseError = true) (mP : PySem.W.mroIn K c_PurseError (.type "BaseException") = some true)
 (w1 : PySem.W.clsIn K c_NoRule = some cdR) (w2 : PySem.W.mroIn K c_NoRule (.type "object") = some true) (w3 : PySem.W.mroIn K c_NoRule (.type "BaseException") = some true) (w4 : PySem.W.findIn K (.ref c_NoRule) "__getattribute__" = some (some (.builtin "BaseException.__getattribute__"))) (w5 : PySem.W.findIn K (.ref c_NoRule) "__getattr__" = some none) (w6 : PySem.W.findIn K (.ref c_NoRule) "__class__" = some (some (.builtin "object.__class__"))) (t1 : PySem.W.kitOne K (.ref c_NoRule) (.ref c_NoFraction) = some false) (t2 : PySem.W.kitOne K (.ref c_NoRule) (.ref c_NoPurse) = some false) (t3 : PySem.W.kitOne K (.ref c_NoRule) (.ref c_NoClaims) = some false) (t4 : PySem.W.kitOne K (.ref c_NoRule) (.ref c_NoRule) = some true) (t5 : PySem.W.kitOne K (.ref c_NoRule) (.ref c_NoPlace) = some false) (t6 : PySem.W.kitOne K (.ref c_NoRule) (.ref c_NoDivision) = some false) (tV : PySem.W.kitOne K (.ref c_NoRule) (.type "ValueError") = some true)
 (sP : PySem.W.specialIn K (.ref c_PurseError) "__getattribute__" = some (some (.builtin "type.__getattribute__"))) (rP : PySem.W.readsIn K c_PurseError (.type "type") = true) (fP : PySem.W.findCls K (.ref c_PurseError) (.type "type") "__init__" = some (.val (.builtin "ValueError.__init__")))
 (iR : PySem.W.findIn K (.ref c_NoRule) "__init__" = some (some (.ref f_NoRule___init__))) (yR : PySem.W.typeIn K (.ref f_NoRule___init__) = some (.type "function")) (saR : PySem.W.findIn K (.ref c_NoRule) "__setattr__" = some (some (.builtin "object.__setattr__"))) (kpR : PySem.W.keepIn K (.ref c_NoRule) = true) (naR : PySem.W.findIn K (.ref c_NoRule) "at" = some none) (hdR : PySem.W.hasDictIn K c_NoRule = true)
 (l_NoRule___init__ : K.lookup f_NoRule___init__ = some ⟨oc_NoRule___init__, od_NoRule___init__, .func (PySem.W.fnOf "__init__" "NoRule.__init__" (defArgs s_NoRule___init__) (defBody s_NoRule___init__) (defScope s_NoRule___init__) .none kV_NoRule___init__ dc_NoRule___init__ pm_NoRule___init__ an_NoRule___init__ cd_NoRule___init__ ct_NoRule___init__), sl_NoRule___init__⟩) (c2_NoRule___init__ : PySem.W.codeIn K cd_NoRule___init__ "NoRule.__init__" = true) (k_NoRule___init__ : PySem.W.keepIn K (.ref f_NoRule___init__) = true)
 (z_len : PySem.W.nsIn K mainGlobals "len" = some none) (z_abs : PySem.W.nsIn K mainGlobals "abs" = some none) (z_min : PySem.W.nsIn K mainGlobals "min" = some none) (z_max : PySem.W.nsIn K mainGlobals "max" = some none) (z_isinstance : PySem.W.nsIn K mainGlobals "isinstance" = some none) (z_range : PySem.W.nsIn K mainGlobals "range" = some none) (z_int : PySem.W.nsIn K mainGlobals "int" = some none) (z_bool : PySem.W.nsIn K mainGlobals "bool" = some none) (z_tuple : PySem.W.nsIn K mainGlobals "tuple" = some none) (z_list : PySem.W.nsIn K mainGlobals "list" = some none) (z_enumerate : PySem.W.nsIn K mainGlobals "enumerate" = some none) (z_zip : PySem.W.nsIn K mainGlobals "zip" = some none) (z_reversed : PySem.W.nsIn K mainGlobals "reversed" = some none) (z_ValueError : PySem.W.nsIn K mainGlobals "ValueError" = some none) (z_sum : PySem.W.nsIn K mainGlobals "sum" = some none) (z_str : PySem.W.nsIn K mainGlobals "str" = some none) :
 ∃ fd : FuncData, (∀ (s : Shared) (v : Value), BindsTo s fd ⟨[v], []⟩ [("_law_script", v)]) ∧ ∀ base : Heap, K.In base → base.Ns mainGlobals mg → FnOk l.prog w K mg base CX0 110 fa fd ["_law_script"] (spLaw K) := by
 have e := hfa.symm.trans (PySem.W.mg_of X G a36)
 cases e
 have F_fraction := fun_mk (st := s_fraction) l1 c1 k1
 have b_fraction := F_fraction.binds (ps := ["top", "bottom"]) fun _ _ _ _ _ _ us hl => match us, hl with | [_, _], _ => rfl
 have m_fraction := PySem.W.mg_of X G a1
 have F_is_whole := fun_mk (st := s_is_whole) l2 c2 k2
 have b_is_whole := F_is_whole.binds (ps := ["number"]) fun _ _ _ _ _ _ us hl => match us, hl with | [_], _ => rfl
 have m_is_whole := PySem.W.mg_of X G a2
 have F_lowest := fun_mk (st := s_lowest) l3 c3 k3
 have b_lowest := F_lowest.binds (ps := ["top", "bottom"]) fun _ _ _ _ _ _ us hl => match us, hl with | [_, _], _ => rfl
 have m_lowest := PySem.W.mg_of X G a3
 have F_greatest_divisor := fun_mk (st := s_greatest_divisor) l4 c4 k4
 have b_greatest_divisor := F_greatest_divisor.binds (ps := ["one", "two"]) fun _ _ _ _ _ _ us hl => match us, hl with | [_, _], _ => rfl
 have m_greatest_divisor := PySem.W.mg_of X G a4
 have F_text_of := fun_mk (st := s_text_of) l5 c5 k5
 have b_text_of := F_text_of.binds (ps := ["shape"]) fun _ _ _ _ _ _ us hl => match us, hl with | [_], _ => rfl
 have m_text_of := PySem.W.mg_of X G a5
 have F_portion_text := fun_mk (st := s_portion_text) l6 c6 k6
 have b_portion_text := F_portion_text.binds (ps := ["portion"]) fun _ _ _ _ _ _ us hl => match us, hl with | [_], _ => rfl
 have m_portion_text := PySem.W.mg_of X G a6
 have F_read := fun_mk (st := s_read) l7 c7 k7
 have b_read := F_read.binds (ps := ["text"]) fun _ _ _ _ _ _ us hl => match us, hl with | [_], _ => rfl
 have m_read := PySem.W.mg_of X G a7
 have F_read_rule := fun_mk (st := s_read_rule) l8 c8 k8
 have b_read_rule := F_read_rule.binds (ps := ["walk"]) fun _ _ _ _ _ _ us hl => match us, hl with | [_], _ => rfl
 have m_read_rule := PySem.W.mg_of X G a8
 have F_read_word := fun_mk (st := s_read_word) l9 c9 k9
 have b_read_word := F_read_word.binds (ps := ["walk"]) fun _ _ _ _ _ _ us hl => match us, hl with | [_], _ => rfl
 have m_read_word := PySem.W.mg_of X G a9
 have F_read_within_brackets := fun_mk (st := s_read_within_brackets) l10 c10 k10
 have b_read_within_brackets := F_read_within_brackets.binds (ps := ["walk", "word"]) fun _ _ _ _ _ _ us hl => match us, hl with | [_, _], _ => rfl
 have m_read_within_brackets := PySem.W.mg_of X G a10
 have F_read_portion := fun_mk (st := s_read_portion) l11 c11 k11
 have b_read_portion := F_read_portion.binds (ps := ["walk"]) fun _ _ _ _ _ _ us hl => match us, hl with | [_], _ => rfl
 have m_read_portion := PySem.W.mg_of X G a11
 have F_read_number := fun_mk (st := s_read_number) l12 c12 k12
 have b_read_number := F_read_number.binds (ps := ["walk"]) fun _ _ _ _ _ _ us hl => match us, hl with | [_], _ => rfl
 have m_read_number := PySem.W.mg_of X G a12
 have F_law_cell_at := fun_mk (st := s_law_cell_at) l13 c13 k13
 have b_law_cell_at := F_law_cell_at.binds (ps := ["_law_script", "_law_k"]) fun _ _ _ _ _ _ us hl => match us, hl with | [_, _], _ => rfl
 have m_law_cell_at := PySem.W.mg_of X G a13
 have F_law_whole := fun_mk (st := s_law_whole) l14 c14 k14
 have b_law_whole := F_law_whole.binds (ps := ["_law_found"]) fun _ _ _ _ _ _ us hl => match us, hl with | [_], _ => rfl
 have m_law_whole := PySem.W.mg_of X G a14
 have F_law_divisor := fun_mk (st := s_law_divisor) l15 c15 k15
 have b_law_divisor := F_law_divisor.binds (ps := ["_law_one", "_law_other"]) fun _ _ _ _ _ _ us hl => match us, hl with | [_, _], _ => rfl
 have m_law_divisor := PySem.W.mg_of X G a15
 have F_law_mixed := fun_mk (st := s_law_mixed) l16 c16 k16
 have b_law_mixed := F_law_mixed.binds (ps := ["_law_cell", "_law_many"]) fun _ _ _ _ _ _ us hl => match us, hl with | [_, _], _ => rfl
 have m_law_mixed := PySem.W.mg_of X G a16
 have F_law_portion := fun_mk (st := s_law_portion) l17 c17 k17
 have b_law_portion := F_law_portion.binds (ps := ["_law_top", "_law_bottom"]) fun _ _ _ _ _ _ us hl => match us, hl with | [_, _], _ => rfl
 have m_law_portion := PySem.W.mg_of X G a17
 have F_law_leaf := fun_mk (st := s_law_leaf) l18 c18 k18
 have b_law_leaf := F_law_leaf.binds (ps := ["_law_number"]) fun _ _ _ _ _ _ us hl => match us, hl with | [_], _ => rfl
 have m_law_leaf := PySem.W.mg_of X G a18
 have F_law_lone := fun_mk (st := s_law_lone) l19 c19 k19
 have b_law_lone := F_law_lone.binds (ps := ["_law_number", "_law_one"]) fun _ _ _ _ _ _ us hl => match us, hl with | [_, _], _ => rfl
 have m_law_lone := PySem.W.mg_of X G a19
 have F_law_pair := fun_mk (st := s_law_pair) l20 c20 k20
 have b_law_pair := F_law_pair.binds (ps := ["_law_number", "_law_portion_here", "_law_one", "_law_two"]) fun _ _ _ _ _ _ us hl => match us, hl with | [_, _, _, _], _ => rfl
 have m_law_pair := PySem.W.mg_of X G a20
 have F_law_built := fun_mk (st := s_law_built) l21 c21 k21
 have b_law_built := F_law_built.binds (ps := ["_law_cells", "_law_great"]) fun _ _ _ _ _ _ us hl => match us, hl with | [_, _], _ => rfl
 have m_law_built := PySem.W.mg_of X G a21
 have F_law_kinds := fun_mk (st := s_law_kinds) l22 c22 k22
 have b_law_kinds := F_law_kinds.binds (ps := ["_law_e"]) fun _ _ _ _ _ _ us hl => match us, hl with | [_], _ => rfl
 have m_law_kinds := PySem.W.mg_of X G a22
 have F_law_sign := fun_mk (st := s_law_sign) l23 c23 k23
 have b_law_sign := F_law_sign.binds (ps := ["_law_cell"]) fun _ _ _ _ _ _ us hl => match us, hl with | [_], _ => rfl
 have m_law_sign := PySem.W.mg_of X G a23
 have F_law_put_at := fun_mk (st := s_law_put_at) l24 c24 k24
 have b_law_put_at := F_law_put_at.binds (ps := ["_law_text", "_law_signs", "_law_other", "_law_cell", "_law_more"]) fun _ _ _ _ _ _ us hl => match us, hl with | [_, _, _, _, _], _ => rfl
 have m_law_put_at := PySem.W.mg_of X G a24
 have F_law_other_portion := fun_mk (st := s_law_other_portion) l25 c25 k25
 have b_law_other_portion := F_law_other_portion.binds (ps := ["_law_text", "_law_cell"]) fun _ _ _ _ _ _ us hl => match us, hl with | [_, _], _ => rfl
 have m_law_other_portion := PySem.W.mg_of X G a25
 have F_law_spoilt := fun_mk (st := s_law_spoilt) l26 c26 k26
 have b_law_spoilt := F_law_spoilt.binds (ps := ["_law_way", "_law_cell", "_law_text"]) fun _ _ _ _ _ _ us hl => match us, hl with | [_, _, _], _ => rfl
 have m_law_spoilt := PySem.W.mg_of X G a26
 have F_law_twice := fun_mk (st := s_law_twice) l27 c27 k27
 have b_law_twice := F_law_twice.binds (ps := ["_law_script", "_law_good"]) fun _ _ _ _ _ _ us hl => match us, hl with | [_, _], _ => rfl
 have m_law_twice := PySem.W.mg_of X G a27
 have F_law_alike := fun_mk (st := s_law_alike) l28 c28 k28
 have b_law_alike := F_law_alike.binds (ps := ["_law_text", "_law_at", "_law_other"]) fun _ _ _ _ _ _ us hl => match us, hl with | [_, _, _], _ => rfl
 have m_law_alike := PySem.W.mg_of X G a28
 have F_law_figures := fun_mk (st := s_law_figures) l29 c29 k29
 have b_law_figures := F_law_figures.binds (ps := ["_law_text", "_law_at"]) fun _ _ _ _ _ _ us hl => match us, hl with | [_, _], _ => rfl
 have m_law_figures := PySem.W.mg_of X G a29
 have F_law_comma := fun_mk (st := s_law_comma) l30 c30 k30
 have b_law_comma := F_law_comma.binds (ps := ["_law_text", "_law_at"]) fun _ _ _ _ _ _ us hl => match us, hl with | [_, _], _ => rfl
 have m_law_comma := PySem.W.mg_of X G a30
 have F_law_portion_read := fun_mk (st := s_law_portion_read) l31 c31 k31
 have b_law_portion_read := F_law_portion_read.binds (ps := ["_law_text", "_law_at"]) fun _ _ _ _ _ _ us hl => match us, hl with | [_, _], _ => rfl
 have m_law_portion_read := PySem.W.mg_of X G a31
 have F_law_behind := fun_mk (st := s_law_behind) l32 c32 k32
 have b_law_behind := F_law_behind.binds (ps := ["_law_text", "_law_at", "_law_pile"]) fun _ _ _ _ _ _ us hl => match us, hl with | [_, _, _], _ => rfl
 have m_law_behind := PySem.W.mg_of X G a32
 have F_law_begin := fun_mk (st := s_law_begin) l33 c33 k33
 have b_law_begin := F_law_begin.binds (ps := ["_law_text", "_law_at"]) fun _ _ _ _ _ _ us hl => match us, hl with | [_, _], _ => rfl
 have m_law_begin := PySem.W.mg_of X G a33
 have F_law_fails := fun_mk (st := s_law_fails) l34 c34 k34
 have b_law_fails := F_law_fails.binds (ps := ["_law_text"]) fun _ _ _ _ _ _ us hl => match us, hl with | [_], _ => rfl
 have m_law_fails := PySem.W.mg_of X G a34
 have F_law_read := fun_mk (st := s_law_read) l35 c35 k35
 have b_law_read := F_law_read.binds (ps := ["_law_text"]) fun _ _ _ _ _ _ us hl => match us, hl with | [_], _ => rfl
 have m_law_read := PySem.W.mg_of X G a35
 have F_law := fun_mk (st := s_law) l36 c36 k36
 have b_law := F_law.binds (ps := ["_law_script"]) fun _ _ _ _ _ _ us hl => match us, hl with | [_], _ => rfl
 have m_law := PySem.W.mg_of X G a36
 have B : Bl mg := ⟨PySem.W.mg_none_of X G z_len, PySem.W.mg_none_of X G z_abs, PySem.W.mg_none_of X G z_min, PySem.W.mg_none_of X G z_max, PySem.W.mg_none_of X G z_isinstance, PySem.W.mg_none_of X G z_range, PySem.W.mg_none_of X G z_int, PySem.W.mg_none_of X G z_bool, PySem.W.mg_none_of X G z_tuple, PySem.W.mg_none_of X G z_list, PySem.W.mg_none_of X G z_enumerate, PySem.W.mg_none_of X G z_zip, PySem.W.mg_none_of X G z_reversed, PySem.W.mg_none_of X G z_ValueError, PySem.W.mg_none_of X G z_sum, PySem.W.mg_none_of X G z_str⟩
 refine ⟨PySem.W.fnOf "law" "law" (defArgs s_law) (defBody s_law) (defScope s_law) .none kV36 dc36 pm36 an36 cd36 ct36, fun s v => .of_eq rfl, fun base XB GB => ?_⟩
 have F_Rule___init__ := fun_mk (st := s_Rule___init__) l_Rule___init__ c2_Rule___init__ k_Rule___init__
 have b_Rule___init__ := F_Rule___init__.binds (ps := ["self", "form"]) fun _ _ _ _ _ _ us hl => match us, hl with | [_, _], _ => rfl
 have F_Rule_shape := fun_mk (st := s_Rule_shape) l_Rule_shape c2_Rule_shape k_Rule_shape
 have b_Rule_shape := F_Rule_shape.binds (ps := ["self"]) fun _ _ _ _ _ _ us hl => match us, hl with | [_], _ => rfl
 have F_Rule_text := fun_mk (st := s_Rule_text) l_Rule_text c2_Rule_text k_Rule_text
 have b_Rule_text := F_Rule_text.binds (ps := ["self"]) fun _ _ _ _ _ _ us hl => match us, hl with | [_], _ => rfl
 have F_Shares___init__ := fun_mk (st := s_Shares___init__) l_Shares___init__ c2_Shares___init__ k_Shares___init__
 have b_Shares___init__ := F_Shares___init__.binds (ps := ["self"]) fun _ _ _ _ _ _ us hl => match us, hl with | [_], _ => rfl
 have F_Evenly___init__ := fun_mk (st := s_Evenly___init__) l_Evenly___init__ c2_Evenly___init__ k_Evenly___init__
 have b_Evenly___init__ := F_Evenly___init__.binds (ps := ["self"]) fun _ _ _ _ _ _ us hl => match us, hl with | [_], _ => rfl
 have F_Losses___init__ := fun_mk (st := s_Losses___init__) l_Losses___init__ c2_Losses___init__ k_Losses___init__
 have b_Losses___init__ := F_Losses___init__.binds (ps := ["self"]) fun _ _ _ _ _ _ us hl => match us, hl with | [_], _ => rfl
 have F_Halves___init__ := fun_mk (st := s_Halves___init__) l_Halves___init__ c2_Halves___init__ k_Halves___init__
 have b_Halves___init__ := F_Halves___init__.binds (ps := ["self"]) fun _ _ _ _ _ _ us hl => match us, hl with | [_], _ => rfl
 have F_Other___init__ := fun_mk (st := s_Other___init__) l_Other___init__ c2_Other___init__ k_Other___init__
 have b_Other___init__ := F_Other___init__.binds (ps := ["self", "inner"]) fun _ _ _ _ _ _ us hl => match us, hl with | [_, _], _ => rfl
 have F_Ranks___init__ := fun_mk (st := s_Ranks___init__) l_Ranks___init__ c2_Ranks___init__ k_Ranks___init__
 have b_Ranks___init__ := F_Ranks___init__.binds (ps := ["self", "inner"]) fun _ _ _ _ _ _ us hl => match us, hl with | [_, _], _ => rfl
 have F_Groups___init__ := fun_mk (st := s_Groups___init__) l_Groups___init__ c2_Groups___init__ k_Groups___init__
 have b_Groups___init__ := F_Groups___init__.binds (ps := ["self", "outer", "inner"]) fun _ _ _ _ _ _ us hl => match us, hl with | [_, _, _], _ => rfl
 have F_Upto___init__ := fun_mk (st := s_Upto___init__) l_Upto___init__ c2_Upto___init__ k_Upto___init__
 have b_Upto___init__ := F_Upto___init__.binds (ps := ["self", "portion", "first", "last"]) fun _ _ _ _ _ _ us hl => match us, hl with | [_, _, _, _], _ => rfl
 have F_Walk___init__ := fun_mk (st := s_Walk___init__) l_Walk___init__ c2_Walk___init__ k_Walk___init__
 have b_Walk___init__ := F_Walk___init__.binds (ps := ["self", "signs"]) fun _ _ _ _ _ _ us hl => match us, hl with | [_, _], _ => rfl
 have F_Walk_sign := fun_mk (st := s_Walk_sign) l_Walk_sign c2_Walk_sign k_Walk_sign
 have b_Walk_sign := F_Walk_sign.binds (ps := ["self"]) fun _ _ _ _ _ _ us hl => match us, hl with | [_], _ => rfl
 have F_Walk_expect := fun_mk (st := s_Walk_expect) l_Walk_expect c2_Walk_expect k_Walk_expect
 have b_Walk_expect := F_Walk_expect.binds (ps := ["self", "word"]) fun _ _ _ _ _ _ us hl => match us, hl with | [_, _], _ => rfl
 have g_Walk := PySem.W.mg_of XB GB x_Walk
 have g_WORDS := PySem.W.mg_of XB GB x_WORDS
 have g_FIGURES := PySem.W.mg_of XB GB x_FIGURES
 have W_ok : WOk K f_Walk_sign f_Walk_expect c_Walk := ⟨⟨pg_Walk, hd_Walk, po_Walk, sa_Walk⟩, na_Walk, nb_Walk, ⟨e_Walk_sign, n_Walk_sign, k_Walk_sign⟩, ⟨e_Walk_expect, n_Walk_expect, k_Walk_expect⟩⟩
 have MK_Walk : Mk K c_Walk f_Walk___init__ := ⟨mk_Walk, e_Walk___init__, n_Walk___init__, kc_Walk⟩
 have fk : Fg K c_FIGURES := ⟨⟨_, _, _, l_FIGURES, by show 10 ≤ sizeLine; decide, (.cons ⟨_, rfl⟩ (.cons ⟨_, rfl⟩ (.cons ⟨_, rfl⟩ (.cons ⟨_, rfl⟩ (.cons ⟨_, rfl⟩ (.cons ⟨_, rfl⟩ (.cons ⟨_, rfl⟩ (.cons ⟨_, rfl⟩ (.cons ⟨_, rfl⟩ (.cons ⟨_, rfl⟩ .nil))))))))))⟩⟩
 have wk : Wd K c_WORDS := ⟨⟨_, _, _, l_WORDS, by show 8 ≤ sizeLine; decide, (.cons ⟨_, rfl⟩ (.cons ⟨_, rfl⟩ (.cons ⟨_, rfl⟩ (.cons ⟨_, rfl⟩ (.cons ⟨_, rfl⟩ (.cons ⟨_, rfl⟩ (.cons ⟨_, rfl⟩ (.cons ⟨_, rfl⟩ .nil))))))))⟩⟩
 have g_Rule := PySem.W.mg_of XB GB x_Rule
 have g_Shares := PySem.W.mg_of XB GB x_Shares
 have ok_Shares : ROk K f_Rule_shape f_Rule_text c_Rule c_Shares := ⟨⟨pg_Shares, hd_Shares, po_Shares, sa_Shares⟩, na_Shares, ⟨es_Shares, n_Rule_shape, k_Rule_shape⟩, ⟨et_Shares, n_Rule_text, k_Rule_text⟩, ha_Shares, hn0, ht0, mo_Shares, kt_Shares⟩
 have MK_Shares : Mk K c_Shares f_Shares___init__ := ⟨mk_Shares, e_Shares___init__, nf_Shares, kc_Shares⟩
 have g_Evenly := PySem.W.mg_of XB GB x_Evenly
 have ok_Evenly : ROk K f_Rule_shape f_Rule_text c_Rule c_Evenly := ⟨⟨pg_Evenly, hd_Evenly, po_Evenly, sa_Evenly⟩, na_Evenly, ⟨es_Evenly, n_Rule_shape, k_Rule_shape⟩, ⟨et_Evenly, n_Rule_text, k_Rule_text⟩, ha_Evenly, hn0, ht0, mo_Evenly, kt_Evenly⟩
 have MK_Evenly : Mk K c_Evenly f_Evenly___init__ := ⟨mk_Evenly, e_Evenly___init__, nf_Evenly, kc_Evenly⟩
 have g_Losses := PySem.W.mg_of XB GB x_Losses
 have ok_Losses : ROk K f_Rule_shape f_Rule_text c_Rule c_Losses := ⟨⟨pg_Losses, hd_Losses, po_Losses, sa_Losses⟩, na_Losses, ⟨es_Losses, n_Rule_shape, k_Rule_shape⟩, ⟨et_Losses, n_Rule_text, k_Rule_text⟩, ha_Losses, hn0, ht0, mo_Losses, kt_Losses⟩
 have MK_Losses : Mk K c_Losses f_Losses___init__ := ⟨mk_Losses, e_Losses___init__, nf_Losses, kc_Losses⟩
 have g_Halves := PySem.W.mg_of XB GB x_Halves
 have ok_Halves : ROk K f_Rule_shape f_Rule_text c_Rule c_Halves := ⟨⟨pg_Halves, hd_Halves, po_Halves, sa_Halves⟩, na_Halves, ⟨es_Halves, n_Rule_shape, k_Rule_shape⟩, ⟨et_Halves, n_Rule_text, k_Rule_text⟩, ha_Halves, hn0, ht0, mo_Halves, kt_Halves⟩
 have MK_Halves : Mk K c_Halves f_Halves___init__ := ⟨mk_Halves, e_Halves___init__, nf_Halves, kc_Halves⟩
 have g_Other := PySem.W.mg_of XB GB x_Other
 have ok_Other : ROk K f_Rule_shape f_Rule_text c_Rule c_Other := ⟨⟨pg_Other, hd_Other, po_Other, sa_Other⟩, na_Other, ⟨es_Other, n_Rule_shape, k_Rule_shape⟩, ⟨et_Other, n_Rule_text, k_Rule_text⟩, ha_Other, hn0, ht0, mo_Other, kt_Other⟩
 have MK_Other : Mk K c_Other f_Other___init__ := ⟨mk_Other, e_Other___init__, nf_Other, kc_Other⟩
 have g_Ranks := PySem.W.mg_of XB GB x_Ranks
 have ok_Ranks : ROk K f_Rule_shape f_Rule_text c_Rule c_Ranks := ⟨⟨pg_Ranks, hd_Ranks, po_Ranks, sa_Ranks⟩, na_Ranks, ⟨es_Ranks, n_Rule_shape, k_Rule_shape⟩, ⟨et_Ranks, n_Rule_text, k_Rule_text⟩, ha_Ranks, hn0, ht0, mo_Ranks, kt_Ranks⟩
 have MK_Ranks : Mk K c_Ranks f_Ranks___init__ := ⟨mk_Ranks, e_Ranks___init__, nf_Ranks, kc_Ranks⟩
 have g_Groups := PySem.W.mg_of XB GB x_Groups
 have ok_Groups : ROk K f_Rule_shape f_Rule_text c_Rule c_Groups := ⟨⟨pg_Groups, hd_Groups, po_Groups, sa_Groups⟩, na_Groups, ⟨es_Groups, n_Rule_shape, k_Rule_shape⟩, ⟨et_Groups, n_Rule_text, k_Rule_text⟩, ha_Groups, hn0, ht0, mo_Groups, kt_Groups⟩
 have MK_Groups : Mk K c_Groups f_Groups___init__ := ⟨mk_Groups, e_Groups___init__, nf_Groups, kc_Groups⟩
 have g_Upto := PySem.W.mg_of XB GB x_Upto
 have ok_Upto : ROk K f_Rule_shape f_Rule_text c_Rule c_Upto := ⟨⟨pg_Upto, hd_Upto, po_Upto, sa_Upto⟩, na_Upto, ⟨es_Upto, n_Rule_shape, k_Rule_shape⟩, ⟨et_Upto, n_Rule_text, k_Rule_text⟩, ha_Upto, hn0, ht0, mo_Upto, kt_Upto⟩
 have MK_Upto : Mk K c_Upto f_Upto___init__ := ⟨mk_Upto, e_Upto___init__, nf_Upto, kc_Upto⟩
 have okA : ∀ r : Rl, ROk K f_Rule_shape f_Rule_text c_Rule ((⟨c_Shares, c_Evenly, c_Losses, c_Halves, c_Other, c_Ranks, c_Groups, c_Upto⟩ : RAd).cls r) := fun r => by cases r <;> assumption
 generalize hAA : (⟨c_Shares, c_Evenly, c_Losses, c_Halves, c_Other, c_Ranks, c_Groups, c_Upto⟩ : RAd) = A at okA
 have F_NoRule___init__ := fun_mk (st := s_NoRule___init__) l_NoRule___init__ c2_NoRule___init__ k_NoRule___init__
 have b_NoRule___init__ := F_NoRule___init__.binds (ps := ["self", "at"]) fun _ _ _ _ _ _ us hl => match us, hl with | [_, _], _ => rfl
 have g_PurseError := PySem.W.mg_of XB GB x_PurseError
 have g_NoRule := PySem.W.mg_of XB GB x_NoRule
 have MX_NoRule : ExcMk K c_NoRule c_PurseError f_NoRule___init__ := ⟨oR, iR, yR, saR, w2, kpR⟩
 have hU : Under base c_NoRule c_PurseError := under_own XB oR qP mP
 have hI : ExcIn K c_NoRule := ⟨⟨_, w1⟩, w2, w3, w4, w5, w6⟩
 have XF : ExcFld K c_NoRule "at" := ⟨w3, w4, w5, hdR, naR⟩
 have Z : Kd K mg c_NoRule c_NoFraction c_NoPurse c_NoClaims c_NoRule c_NoPlace c_NoDivision false false false true false false := ⟨hI, tV, PySem.W.mg_of XB GB x_NoFraction, PySem.W.mg_of XB GB x_NoPurse, PySem.W.mg_of XB GB x_NoClaims, PySem.W.mg_of XB GB x_NoRule, PySem.W.mg_of XB GB x_NoPlace, PySem.W.mg_of XB GB x_NoDivision, t1, t2, t3, t4, t5, t6⟩
 have F_rinit := ok_rinit (P := l.prog) (w := w) (mg := mg) (base := base) (fS := f_Rule_shape) (fT := f_Rule_text) (Ru := c_Rule) F_Rule___init__
 have F_shape := ok_shape (P := l.prog) (w := w) (mg := mg) (base := base) okA F_Rule_shape
 have i_Shares := ok_init_Shares (A := A) g_Rule sp_Rule rd_Rule e_Rule___init__ F_rinit k_Rule___init__ b_Rule___init__ (okA .shares) F_Shares___init__
 have m_Shares : Maker l.prog w K mg base "Shares" (A.cls .shares) ["self"] (spInit (A.cls .shares) (α := Unit) (fun _ => []) (fun _ => Rl.shares.shape)) := by
  subst hAA
  exact ⟨_, _, MK_Shares, i_Shares, b_Shares___init__, g_Shares⟩
 have i_Evenly := ok_init_Evenly (A := A) g_Rule sp_Rule rd_Rule e_Rule___init__ F_rinit k_Rule___init__ b_Rule___init__ (okA .evenly) F_Evenly___init__
 have m_Evenly : Maker l.prog w K mg base "Evenly" (A.cls .evenly) ["self"] (spInit (A.cls .evenly) (α := Unit) (fun _ => []) (fun _ => Rl.evenly.shape)) := by
  subst hAA
  exact ⟨_, _, MK_Evenly, i_Evenly, b_Evenly___init__, g_Evenly⟩
 have i_Losses := ok_init_Losses (A := A) g_Rule sp_Rule rd_Rule e_Rule___init__ F_rinit k_Rule___init__ b_Rule___init__ (okA .losses) F_Losses___init__
 have m_Losses : Maker l.prog w K mg base "Losses" (A.cls .losses) ["self"] (spInit (A.cls .losses) (α := Unit) (fun _ => []) (fun _ => Rl.losses.shape)) := by
  subst hAA
  exact ⟨_, _, MK_Losses, i_Losses, b_Losses___init__, g_Losses⟩
 have i_Halves := ok_init_Halves (A := A) g_Rule sp_Rule rd_Rule e_Rule___init__ F_rinit k_Rule___init__ b_Rule___init__ (okA .halves) F_Halves___init__
 have m_Halves : Maker l.prog w K mg base "Halves" (A.cls .halves) ["self"] (spInit (A.cls .halves) (α := Unit) (fun _ => []) (fun _ => Rl.halves.shape)) := by
  subst hAA
  exact ⟨_, _, MK_Halves, i_Halves, b_Halves___init__, g_Halves⟩
 have i_Other := ok_init_Other (A := A) g_Rule sp_Rule rd_Rule e_Rule___init__ F_rinit k_Rule___init__ b_Rule___init__ F_shape b_Rule_shape okA F_Other___init__
 have m_Other : Maker l.prog w K mg base "Other" (A.cls (.other .shares)) ["self", "inner"] (spInit (A.cls (.other .shares)) (α := Rl) (fun r => [r.ins A]) (fun r => (Rl.other r).shape)) := by
  subst hAA
  exact ⟨_, _, MK_Other, i_Other, b_Other___init__, g_Other⟩
 have i_Ranks := ok_init_Ranks (A := A) g_Rule sp_Rule rd_Rule e_Rule___init__ F_rinit k_Rule___init__ b_Rule___init__ F_shape b_Rule_shape okA F_Ranks___init__
 have m_Ranks : Maker l.prog w K mg base "Ranks" (A.cls (.ranks .shares)) ["self", "inner"] (spInit (A.cls (.ranks .shares)) (α := Rl) (fun r => [r.ins A]) (fun r => (Rl.ranks r).shape)) := by
  subst hAA
  exact ⟨_, _, MK_Ranks, i_Ranks, b_Ranks___init__, g_Ranks⟩
 have i_Groups := ok_init_Groups (A := A) g_Rule sp_Rule rd_Rule e_Rule___init__ F_rinit k_Rule___init__ b_Rule___init__ F_shape b_Rule_shape okA F_Groups___init__
 have m_Groups : Maker l.prog w K mg base "Groups" (A.cls (.groups .shares .shares)) ["self", "outer", "inner"] (spInit (A.cls (.groups .shares .shares)) (α := Rl × Rl) (fun r => [r.1.ins A, r.2.ins A]) (fun r => (Rl.groups r.1 r.2).shape)) := by
  subst hAA
  exact ⟨_, _, MK_Groups, i_Groups, b_Groups___init__, g_Groups⟩
 have i_Upto := ok_init_Upto (A := A) g_Rule sp_Rule rd_Rule e_Rule___init__ F_rinit k_Rule___init__ b_Rule___init__ F_shape b_Rule_shape okA F_Upto___init__
 have m_Upto : Maker l.prog w K mg base "Upto" (A.cls (.upto 0 0 .shares .shares)) ["self", "portion", "first", "last"] (spInit (A.cls (.upto 0 0 .shares .shares)) (α := (Int × Int) × Rl × Rl) (fun r => [.tuple [.int r.1.1, .int r.1.2], r.2.1.ins A, r.2.2.ins A]) (fun r => (Rl.upto r.1.1 r.1.2 r.2.1 r.2.2).shape)) := by
  subst hAA
  exact ⟨_, _, MK_Upto, i_Upto, b_Upto___init__, g_Upto⟩
 have C_ptext := cal_mk (P := l.prog) (w := w) (base := base) F_portion_text (ok_ptext F_portion_text) m_portion_text b_portion_text
 have C_textof := cal_mk (P := l.prog) (w := w) (base := base) F_text_of (ok_textof B C_ptext F_text_of m_text_of b_text_of 51) m_text_of b_text_of
 have F_text := ok_text (n := 51) okA C_textof F_Rule_text
 have C_cell := cal_mk (P := l.prog) (w := w) (base := base) F_law_cell_at (ok_cell B F_law_cell_at) m_law_cell_at b_law_cell_at
 have C_div := cal_mk (P := l.prog) (w := w) (base := base) F_law_divisor (ok_divisor B F_law_divisor) m_law_divisor b_law_divisor
 have C_mix := cal_mk (P := l.prog) (w := w) (base := base) F_law_mixed (ok_mixE B F_law_mixed) m_law_mixed b_law_mixed
 have C_port := cal_mk (P := l.prog) (w := w) (base := base) F_law_portion (ok_port C_div F_law_portion) m_law_portion b_law_portion
 have C_leaf := cal_mk (P := l.prog) (w := w) (base := base) F_law_leaf (ok_leaf m_Shares m_Evenly m_Losses m_Halves F_law_leaf) m_law_leaf b_law_leaf
 have C_lone := cal_mk (P := l.prog) (w := w) (base := base) F_law_lone (ok_lone m_Other m_Ranks F_law_lone) m_law_lone b_law_lone
 have C_pair := cal_mk (P := l.prog) (w := w) (base := base) F_law_pair (ok_pair B m_Groups m_Upto F_law_pair) m_law_pair b_law_pair
 have C_built := cal_mk (P := l.prog) (w := w) (base := base) F_law_built (ok_built B C_leaf C_lone C_pair C_mix C_port F_law_built) m_law_built b_law_built
 have C_gcd := cal_mk (P := l.prog) (w := w) (base := base) F_greatest_divisor (ok_gcd F_greatest_divisor) m_greatest_divisor b_greatest_divisor
 have C_lowest := cal_mk (P := l.prog) (w := w) (base := base) F_lowest (ok_lowest B C_gcd F_lowest) m_lowest b_lowest
 have C_is_whole := cal_mk (P := l.prog) (w := w) (base := base) F_is_whole (ok_is_whole B F_is_whole) m_is_whole b_is_whole
 have C_fraction := cal_mk (P := l.prog) (w := w) (base := base) F_fraction (ok_frac0 C_is_whole C_lowest F_fraction) m_fraction b_fraction
 have I_NoRule := ok_init_NoRule (P := l.prog) (w := w) (mg := mg) (base := base) g_PurseError sP rP fP MX_NoRule naR F_NoRule___init__
 have F_sign := ok_sign (P := l.prog) (w := w) (mg := mg) (base := base) W_ok F_Walk_sign
 have F_winit := ok_winit (P := l.prog) (w := w) (mg := mg) (base := base) W_ok F_Walk___init__
 have F_expect := ok_expX MX_NoRule I_NoRule b_NoRule___init__ g_NoRule W_ok F_sign b_Walk_sign F_Walk_expect
 have C_numr := cal_mkX (P := l.prog) (w := w) (base := base) F_read_number (ok_numX MX_NoRule I_NoRule b_NoRule___init__ g_NoRule W_ok g_FIGURES fk F_sign b_Walk_sign F_read_number) m_read_number b_read_number
 have C_portr := cal_mkX (P := l.prog) (w := w) (base := base) F_read_portion (ok_portX MX_NoRule I_NoRule b_NoRule___init__ g_NoRule W_ok F_expect b_Walk_expect C_numr C_fraction F_read_portion) m_read_portion b_read_portion
 have C_word := cal_mkX (P := l.prog) (w := w) (base := base) F_read_word (ok_wordX MX_NoRule I_NoRule b_NoRule___init__ g_NoRule W_ok g_WORDS wk F_sign b_Walk_sign F_expect b_Walk_expect F_read_word) m_read_word b_read_word
 have C_rule := cal_mkX (P := l.prog) (w := w) (base := base) F_read_rule (ok_rulesX (A := A) W_ok F_expect b_Walk_expect m_Shares m_Evenly m_Losses m_Halves m_Other m_Ranks m_Groups m_Upto C_word C_portr F_read_rule m_read_rule b_read_rule F_read_within_brackets m_read_within_brackets b_read_within_brackets 51) m_read_rule b_read_rule
 have C_read := cal_mkX (P := l.prog) (w := w) (base := base) F_read (ok_readX (n := 51) MX_NoRule I_NoRule b_NoRule___init__ g_NoRule W_ok F_sign b_Walk_sign g_Walk MK_Walk F_winit b_Walk___init__ C_rule F_read) m_read b_read
 have C_lread := cal_mk (P := l.prog) (w := w) (base := base) F_law_read (ok_lread (n := 51) g_PurseError hU C_read F_law_read) m_law_read b_law_read
 have C_kinds := cal_mk (P := l.prog) (w := w) (base := base) F_law_kinds (ok_kinds2 PySem.F.attr_ValueError.ga B Z F_law_kinds) m_law_kinds b_law_kinds
 have C_lwhole := cal_mk (P := l.prog) (w := w) (base := base) F_law_whole (ok_lwhole B F_law_whole) m_law_whole b_law_whole
 have C_lsign := cal_mk (P := l.prog) (w := w) (base := base) F_law_sign (ok_lsign B F_law_sign) m_law_sign b_law_sign
 have C_put := cal_mk (P := l.prog) (w := w) (base := base) F_law_put_at (ok_put B F_law_put_at) m_law_put_at b_law_put_at
 have C_oport := cal_mk (P := l.prog) (w := w) (base := base) F_law_other_portion (ok_oport B F_law_other_portion) m_law_other_portion b_law_other_portion
 have C_spoil := cal_mk (P := l.prog) (w := w) (base := base) F_law_spoilt (ok_spoil B C_lsign C_put C_oport F_law_spoilt) m_law_spoilt b_law_spoilt
 have C_twice := cal_mk (P := l.prog) (w := w) (base := base) F_law_twice (ok_twice B C_cell C_mix C_spoil F_law_twice) m_law_twice b_law_twice
 have C_alike := cal_mk (P := l.prog) (w := w) (base := base) F_law_alike (ok_alike B F_law_alike) m_law_alike b_law_alike
 have C_figs := cal_mk (P := l.prog) (w := w) (base := base) F_law_figures (ok_figsL F_law_figures) m_law_figures b_law_figures
 have C_comma := cal_mk (P := l.prog) (w := w) (base := base) F_law_comma (ok_comma C_alike F_law_comma) m_law_comma b_law_comma
 have C_portl := cal_mk (P := l.prog) (w := w) (base := base) F_law_portion_read (ok_portL B C_figs C_div C_comma F_law_portion_read) m_law_portion_read b_law_portion_read
 have C_beh := cal_mk (P := l.prog) (w := w) (base := base) F_law_behind (ok_beh B C_comma F_law_behind) m_law_behind b_law_behind
 have C_begin := cal_mk (P := l.prog) (w := w) (base := base) F_law_begin (ok_begin B C_alike F_law_begin) m_law_begin b_law_begin
 have C_fails := cal_mk (P := l.prog) (w := w) (base := base) F_law_fails (ok_fails B C_begin C_portl C_beh F_law_fails) m_law_fails b_law_fails
 exact ok_law B PySem.F.attr_ValueError.ga XF okA g_Rule F_text b_Rule_text C_cell C_built C_twice C_fails C_lread C_kinds C_lwhole F_law
theorem walk {l : PySem.W.OpenLaw} {q : Program} {loose : List Str} {XP : (Str → Option Value) → Heap → Prop} {YP : World → Heap → Prop} {d : DefRec} {K : Params → PySem.W.Frag} (hn : l.most = some 63) (hdf : d.params.defaults = [])
 (hY : ∀ (w : World) (h : Heap), YP w h → (K w.params).In h)
 (F : ∀ (w : World) (mg : Str → Option Value) (fa : Addr) (h : Heap), (K w.params).In h → h.Ns mainGlobals mg → mg d.name = some (.ref fa) →
  ∃ fd : FuncData, (∀ (s : Shared) (u : Value), BindsTo s fd ⟨[u], []⟩ [("_law_script", u)]) ∧ ∀ base : Heap, (K w.params).In base → base.Ns mainGlobals mg → FnOk l.prog w (K w.params) mg base CX0 110 fa fd ["_law_script"] (spLaw (K w.params))) :
 PySem.W.WalkO q loose XP YP l.row.toRowW d [] (fun f vs => PySem.call f vs) :=
 L2.walk_of (n := 63) (k := 110) (x := "_law_script") (CX := fun _ => CX0) (sp := fun w => spLaw (K w.params)) hn (by decide) hdf ⟨rfl, by decide, by decide⟩ hY F (fun _ _ a ns hl hO hS => ⟨a, ns, rfl, hS, hl, hO, fun _ => rfl⟩) fun _ _ _ _ _ z => z
end K
structure PySem.W.Fast:Prop where(tw4881407521480267684 tw8097165934581660063 tw8823625960551280028 tw12042468470692792816 tw7249211308845104954 tw6368511224735683573 tw6526286714763263930 tw10364303503893016977 tw9574759218509989175 tw13748324062020589682 tw8789837983002907051 tw11572854735973004652 tw4249065931803930685 tw7878586220198676660 tw9065113228036754977 tw14272586631263151914 tw14550248363591154890 tw18280716826924726207 tw17086239224487423671 tw18054126036297837560 tw708913624193108541 tw15102513156478121329 tw13539235191961160850 tw3516674663842871680 tw5539994236471534669 tw169702261367964431 tw18088231652092712575 tw12453697848930541252 tw9615732585506370725 tw13258643722925622638 tw14692113529712968308 tw8494142289394214022 tw11889796793160843182 tw4542507614135379855 tw8054005266362399097 tw2289983140101782701 tw17162745513030900630 tw2831888512341903887 tw2738428752833297439 tw5059273281174350283 tw7506554990643948286 tw10404687304235591677 tw16887347611405654205 tw8532322307982052971 tw5042101856599564787 tw12291380234683917149 tw13294912508395454043 tw18174210329248992286 tw11581763996525622528 tw14735097333278295335 tw10324448469642905004 tw6510568612784535685 tw16716359910061591993 tw2932902743604349391 tw4153984819863801791 tw3607045969877550486 tw11854540489601065693 tw13079915799960669439 tw10332827640486565419 tw17160216156468404570 tw17977510168546078794 tw7729820247660639515 tw425804480517483948 tw508422438695851789 tw1045486488520207557 tw1996979521147154260 tw14808673798221105997 tw1912669307973838484 tw2895459633060371788 tw10858975309473060569 tw7102172373027619570 tw14664606996434764394 tw14000267109447701022 tw4622687193527971029 tw12493833266646476006 tw13602185541549864065 tw9225839190712278254 tw4089011947076710733 tw5658183187614614169 tw539984558996407928 tw16858321952463617150 tw12653854060293728133 tw5225082234522949987 tw14797834623650105628 tw15450632945520882466 tw11258041642756771377 tw15496840748578267760 tw1583494154843982525 tw9210026328216212636 tw16299570547216396966 tw12144192986180352383 tw7912362279755197235 tw11129051505785142366 tw10877783691458964866 tw7294450764029149981 tw14217281344101621873 tw4236632712844829678 tw3001568083877908234 tw16062341611643841647 tw2967146261776753926 tw1512630047722110354 tw5887688523803404241 tw3750494580544798715 tw1912168698755887262 tw14723982756299337063 tw2487493441988752067 tw17062144484165994316 tw879191773732406829 tw1146432996287561711 tw13189212237810705379 tw13614048223912739923 tw15396422513014681895 tw15069557876242637681 tw9007955588667259499 tw15449735889212169065 tw8154367449455535563 tw11892717322936379763 tw10542484704313854348 tw2048106729515043429 tw9536623649948423861 tw10113107261983910866 tw1754001147870314436 tw518114417972600490 tw3290128826492188601 tw12486806877741485054 tw111526988625945862 tw16050271033717408800 tw17101085955309377501 tw4504708515852318581 tw4930776619729458457 tw503146009963791174 tw3972059664327522097 tw2178087250327167436 tw8764974559593478416 tw3110229425980372898 tw7345890742542653059 tw12660246642036557195 tw3410552715335757866 tw17920945293484292408 tw1296046732040006395 tw14108125439434156473 tw17571149434385890980 tw17075213317286621249 tw6319340778531983701 tw6652729396190019531 tw13031977528738463933 tw14564434991136075981 tw5512017644978420414 tw18027806494035097108 tw1110378122356367555 tw4435801589408528981 tw11535599992909637788 tw3341040736400435285 tw4839283418264362414 tw13744439624218765592 tw4318221737796831082 tw10058219485891451884 tw9702477414799327017 tw16795530962334030619 tw13872404443300980789 tw12240581675170939482 tw5957284827760513975 tw16027608129222101759 tw14721880281666726924 tw17515270879038106305 tw17715407896211128958 tw13406461587898988944 tw13822752516883286480 tw7329792794884017674 tw985745525587711489 tw16119842358725553721 tw1858057409217594266 tw16423314130109132778 tw15705208135442843341 tw848254021633925508 tw6409530117425722045 tw18219476079896551001 tw2105633170843802974 tw9399606950531504474 tw5322893022387258777 tw5194345813411580078 tw6292568714247743220 tw15169927367526900699 tw9125051192801918063 tw11510534129619649074 tw7564226484615057616 tw13939195825093554308 tw16587453143061844618 tw2096057403553296763 tw16359434418348332382 tw569044042707675678 tw17208980542626081733 tw9828268632423416708 tw18286775359694043402 tw1991108221071767056 tw16998995002254349050 tw12039077389377703365 tw4337131922166883023 tw15820891380584489490 tw17116619109377913372 tw4103056801603075476 tw3376059271521274562 tw15563812244088512471 tw7971100260719881798 tw12959392526956902985 tw4515083024317784402 tw16493702958429219649 tw2519155437601687047 tw8103974862559628737 tw13299546433835244995 tw15402906251810448172 tw7506950963942776249 tw16458030928617959370 tw12885802302184556019 tw11121237548083766053 tw15918794877821337821 tw2951173767472587027 tw1667198015844615722 tw5095578891336420755 tw2792316533813566287 tw767726990370681269 tw17918966778302229782 tw16478694805480647092 tw11870572219076390565 tw4462040959770253744 tw14860846081734849346 tw13875273259248627631 tw1834796772730461153 tw16010506541612399127 tw10787753301762830690 tw6124337531695927747 tw15677893524369620648 tw3142351470589733635 tw11446937518013046475 tw2710866961381872275 tw7793115141271343178 tw4393627346396766418 tw9548346276140697405 tw12611546134286773179 tw13216093016909570458 tw1268711515475627476 tw12115750480453046748 tw8278022050728236179 tw12501283330196996073 tw16273231960916977290 tw16240672408274363670 tw17090996028373779455 tw9567243326878039414 tw4938609382725373464 tw5885947068849531097 tw9245974140395406864 tw10659819621172355666 tw10752154673442402963 tw15006637956617862365 tw12690363729638002356 tw6962246738882761432 tw117157750167253971 tw13311916038956992881 tw11545719195751838506 tw7228228797033488319 tw1973657497067138177 tw13854973690737628429 tw7157049662627286475 tw1934932952333394478 tw7212107729400737045 tw5558948344695030285 tw16166184516877460816 tw7462030881693323388 tw8815748557332294507 tw12068518152030241972 tw14203765941860260449 tw14658261469650322986 tw1773541846738718712 tw5955499151980003489 tw7161983094518580524 tw6388843013435739461 tw3143364951705423390 tw16988848242154798136 tw102921536307214177 tw9165031862615870713 tw7265053682185393459 tw1695802973495039178 tw16885286082790708128 tw133167349243597573 tw14578749274017512120 tw7824668283801065691 tw11661898866322254141 tw4747434440064409444 tw10648544687280198273 tw15147467131616815428 tw13167073367407840818 tw15896860505038894776 tw14457220009932637366 tw18420360296034330474 tw2444904731186080728 tw15135113897126260647 tw12240932719673399606 tw1704834883374793331 tw9543030628993375011 tw4348545972584281858 tw4406916464350935126 tw10461626896247392049 tw16496266071152862195 tw15536353991469862497 tw14337995366565892102 tw5787773040685472362 tw12578264064696450521 tw9585576325413969032 tw14227478206728373438 tw5035894476109476507 tw8182647609427857544 tw17946705209788995082 tw8691537031887830016 tw5800221973019624522 tw14913646992749320609 tw17265366179311973767 tw13215582293609617791 tw5311404573773802962 tw1732742930398585445 tw7090745547494220791 tw16318580664467803160 tw15962561344218380399 tw8871290724357357748 tw6583792125552546823 tw8368437998099507639 tw16296077969805786576 tw6189924142425899742 tw17715608294638368791 tw8192724296178199159 tw16154627859931752735 tw13166664815798283167 tw2031541021128073807 tw12878589227029849056 tw3876790758471539798 tw17887733653184105058 tw11937318587667783305 tw6833137976825928908 tw17071477743548112983 tw11267102259286466275 tw8525946434564998520 tw14840433554334398706 tw16635922489513033651 tw4523792798374534758 tw1201388434096561928 tw4115887296283121903 tw7320610162018409503 tw6940725885191270957 tw3429100337552697140 tw10680214833115688960 tw2560986993712611653 tw4544563511039881573 tw9805214038749413768 tw15827461620104959268 tw9609211531783900312 tw3568115925282295684 tw12115962883455608372 tw968616602343504196 tw11540416796762302171 tw11217062779537709483 tw1350256191347238084 tw14796204380121047671 tw11089097641072554359 tw13471187360240151684 tw16986405153081262484 tw17375626858713295266 tw7115415026603425950 tw16660002181343516221 tw10459613561202528241 tw14087837375559507407 tw7559633767895711699 tw10570983854196947976 tw7094823978852339625 tw7251073306463723469 tw2510936258340600252 tw554610981774834237 tw12598045115936384577 tw2124921452112543647 tw13472740310508924748 tw12208146995195720822 tw12127673990995934485 tw10062832445724998863:True)
open PySem PySem.W PyProof.Rows
set_option maxRecDepth 100000 in
set_option maxHeartbeats 0 in
theorem PySem.Challenge.cw_shortpurse_k23_where_a_text_fails_holds : PySem.Challenge.rw_shortpurse_k23_where_a_text_fails.Holds := by
 w_on; o_law; k_head; (case hw => w_witness2)
 k_fill
 refine K.walk (l := PySem.Challenge.rw_shortpurse_k23_where_a_text_fails) rfl rfl (fun w h Y => PySem.W.kIn_of Y) ?F
 case F =>
  intro w mg fa h KX G hmg
  refine' K.all_mk KX G hmg ?a1 ?l1 ?c1 ?k1 ?a2 ?l2 ?c2 ?k2 ?a3 ?l3 ?c3 ?k3 ?a4 ?l4 ?c4 ?k4 ?a5 ?l5 ?c5 ?k5 ?a6 ?l6 ?c6 ?k6 ?a7 ?l7 ?c7 ?k7 ?a8 ?l8 ?c8 ?k8 ?a9 ?l9 ?c9 ?k9 ?a10 ?l10 ?c10 ?k10 ?a11 ?l11 ?c11 ?k11 ?a12 ?l12 ?c12 ?k12 ?a13 ?l13 ?c13 ?k13 ?a14 ?l14 ?c14 ?k14 ?a15 ?l15 ?c15 ?k15 ?a16 ?l16 ?c16 ?k16 ?a17 ?l17 ?c17 ?k17 ?a18 ?l18 ?c18 ?k18 ?a19 ?l19 ?c19 ?k19 ?a20 ?l20 ?c20 ?k20 ?a21 ?l21 ?c21 ?k21 ?a22 ?l22 ?c22 ?k22 ?a23 ?l23 ?c23 ?k23 ?a24 ?l24 ?c24 ?k24 ?a25 ?l25 ?c25 ?k25 ?a26 ?l26 ?c26 ?k26 ?a27 ?l27 ?c27 ?k27 ?a28 ?l28 ?c28 ?k28 ?a29 ?l29 ?c29 ?k29 ?a30 ?l30 ?c30 ?k30 ?a31 ?l31 ?c31 ?k31 ?a32 ?l32 ?c32 ?k32 ?a33 ?l33 ?c33 ?k33 ?a34 ?l34 ?c34 ?k34 ?a35 ?l35 ?c35 ?k35 ?a36 ?l36 ?c36 ?k36 ?x_Rule ?x_Shares ?x_Evenly ?x_Losses ?x_Halves ?x_Other ?x_Ranks ?x_Groups ?x_Upto ?e_Rule___init__ ?e_Shares___init__ ?e_Evenly___init__ ?e_Losses___init__ ?e_Halves___init__ ?e_Other___init__ ?e_Ranks___init__ ?e_Groups___init__ ?e_Upto___init__ ?es_Shares ?et_Shares ?es_Evenly ?et_Evenly ?es_Losses ?et_Losses ?es_Halves ?et_Halves ?es_Other ?et_Other ?es_Ranks ?et_Ranks ?es_Groups ?et_Groups ?es_Upto ?et_Upto ?l_Rule___init__ ?c2_Rule___init__ ?k_Rule___init__ ?l_Rule_shape ?c2_Rule_shape ?k_Rule_shape ?l_Rule_text ?c2_Rule_text ?k_Rule_text ?l_Shares___init__ ?c2_Shares___init__ ?k_Shares___init__ ?l_Evenly___init__ ?c2_Evenly___init__ ?k_Evenly___init__ ?l_Losses___init__ ?c2_Losses___init__ ?k_Losses___init__ ?l_Halves___init__ ?c2_Halves___init__ ?k_Halves___init__ ?l_Other___init__ ?c2_Other___init__ ?k_Other___init__ ?l_Ranks___init__ ?c2_Ranks___init__ ?k_Ranks___init__ ?l_Groups___init__ ?c2_Groups___init__ ?k_Groups___init__ ?l_Upto___init__ ?c2_Upto___init__ ?k_Upto___init__ ?n_Rule_shape ?n_Rule_text ?sp_Rule ?rd_Rule ?hn0 ?ht0 ?pg_Shares ?hd_Shares ?po_Shares ?sa_Shares ?na_Shares ?ha_Shares ?mo_Shares ?kt_Shares ?mk_Shares ?nf_Shares ?kc_Shares ?pg_Evenly ?hd_Evenly ?po_Evenly ?sa_Evenly ?na_Evenly ?ha_Evenly ?mo_Evenly ?kt_Evenly ?mk_Evenly ?nf_Evenly ?kc_Evenly ?pg_Losses ?hd_Losses ?po_Losses ?sa_Losses ?na_Losses ?ha_Losses ?mo_Losses ?kt_Losses ?mk_Losses ?nf_Losses ?kc_Losses ?pg_Halves ?hd_Halves ?po_Halves ?sa_Halves ?na_Halves ?ha_Halves ?mo_Halves ?kt_Halves ?mk_Halves ?nf_Halves ?kc_Halves ?pg_Other ?hd_Other ?po_Other ?sa_Other ?na_Other ?ha_Other ?mo_Other ?kt_Other ?mk_Other ?nf_Other ?kc_Other ?pg_Ranks ?hd_Ranks ?po_Ranks ?sa_Ranks ?na_Ranks ?ha_Ranks ?mo_Ranks ?kt_Ranks ?mk_Ranks ?nf_Ranks ?kc_Ranks ?pg_Groups ?hd_Groups ?po_Groups ?sa_Groups ?na_Groups ?ha_Groups ?mo_Groups ?kt_Groups ?mk_Groups ?nf_Groups ?kc_Groups ?pg_Upto ?hd_Upto ?po_Upto ?sa_Upto ?na_Upto ?ha_Upto ?mo_Upto ?kt_Upto ?mk_Upto ?nf_Upto ?kc_Upto ?x_Walk ?x_WORDS ?x_FIGURES ?l_WORDS ?l_FIGURES ?e_Walk___init__ ?e_Walk_sign ?e_Walk_expect ?l_Walk___init__ ?c2_Walk___init__ ?k_Walk___init__ ?n_Walk___init__ ?l_Walk_sign ?c2_Walk_sign ?k_Walk_sign ?n_Walk_sign ?l_Walk_expect ?c2_Walk_expect ?k_Walk_expect ?n_Walk_expect ?pg_Walk ?hd_Walk ?po_Walk ?sa_Walk ?na_Walk ?nb_Walk ?mk_Walk ?kc_Walk ?x_PurseError ?x_NoFraction ?x_NoPurse ?x_NoClaims ?x_NoRule ?x_NoPlace ?x_NoDivision ?qP ?oR ?mP ?w1 ?w2 ?w3 ?w4 ?w5 ?w6 ?t1 ?t2 ?t3 ?t4 ?t5 ?t6 ?tV ?sP ?rP ?fP ?iR ?yR ?saR ?kpR ?naR ?hdR ?l_NoRule___init__ ?c2_NoRule___init__ ?k_NoRule___init__ ?z_len ?z_abs ?z_min ?z_max ?z_isinstance ?z_range ?z_int ?z_bool ?z_tuple ?z_list ?z_enumerate ?z_zip ?z_reversed ?z_ValueError ?z_sum ?z_str
  (case a1 => k_is)
  (case l1 => k_is)
  (case c1 => k_is)
  (case k1 => k_is)
  (case a2 => k_is)
  (case l2 => k_is)
  (case c2 => k_is)
  (case k2 => k_is)
  (case a3 => k_is)
  (case l3 => k_is)
  (case c3 => k_is)
  (case k3 => k_is)
  (case a4 => k_is)
  (case l4 => k_is)
  (case c4 => k_is)
  (case k4 => k_is)
  (case a5 => k_is)
  (case l5 => k_is)
  (case c5 => k_is)
  (case k5 => k_is)
  (case a6 => k_is)
  (case l6 => k_is)
  (case c6 => k_is)
  (case k6 => k_is)
  (case a7 => k_is)
  (case l7 => k_is)
  (case c7 => k_is)
  (case k7 => k_is)
  (case a8 => k_is)
  (case l8 => k_is)
  (case c8 => k_is)
  (case k8 => k_is)
  (case a9 => k_is)
  (case l9 => k_is)
  (case c9 => k_is)
  (case k9 => k_is)
  (case a10 => k_is)
  (case l10 => k_is)
  (case c10 => k_is)
  (case k10 => k_is)
  (case a11 => k_is)
  (case l11 => k_is)
  (case c11 => k_is)
  (case k11 => k_is)
  (case a12 => k_is)
  (case l12 => k_is)
  (case c12 => k_is)
  (case k12 => k_is)
  (case a13 => k_is)
  (case l13 => k_is)
  (case c13 => k_is)
  (case k13 => k_is)
  (case a14 => k_is)
  (case l14 => k_is)
  (case c14 => k_is)
  (case k14 => k_is)
  (case a15 => k_is)
  (case l15 => k_is)
  (case c15 => k_is)
  (case k15 => k_is)
  (case a16 => k_is)
  (case l16 => k_is)
  (case c16 => k_is)
  (case k16 => k_is)
  (case a17 => k_is)
  (case l17 => k_is)
  (case c17 => k_is)
  (case k17 => k_is)
  (case a18 => k_is)
  (case l18 => k_is)
  (case c18 => k_is)
  (case k18 => k_is)
  (case a19 => k_is)
  (case l19 => k_is)
  (case c19 => k_is)
  (case k19 => k_is)
  (case a20 => k_is)
  (case l20 => k_is)
  (case c20 => k_is)
  (case k20 => k_is)
  (case a21 => k_is)
  (case l21 => k_is)
  (case c21 => k_is)
  (case k21 => k_is)
  (case a22 => k_is)
  (case l22 => k_is)
  (case c22 => k_is)
  (case k22 => k_is)
  (case a23 => k_is)
  (case l23 => k_is)
  (case c23 => k_is)
  (case k23 => k_is)
  (case a24 => k_is)
  (case l24 => k_is)
  (case c24 => k_is)
  (case k24 => k_is)
  (case a25 => k_is)
  (case l25 => k_is)
  (case c25 => k_is)
  (case k25 => k_is)
  (case a26 => k_is)
  (case l26 => k_is)
  (case c26 => k_is)
  (case k26 => k_is)
  (case a27 => k_is)
  (case l27 => k_is)
  (case c27 => k_is)
  (case k27 => k_is)
  (case a28 => k_is)
  (case l28 => k_is)
  (case c28 => k_is)
  (case k28 => k_is)
  (case a29 => k_is)
  (case l29 => k_is)
  (case c29 => k_is)
  (case k29 => k_is)
  (case a30 => k_is)
  (case l30 => k_is)
  (case c30 => k_is)
  (case k30 => k_is)
  (case a31 => k_is)
  (case l31 => k_is)
  (case c31 => k_is)
  (case k31 => k_is)
  (case a32 => k_is)
  (case l32 => k_is)
  (case c32 => k_is)
  (case k32 => k_is)
  (case a33 => k_is)
  (case l33 => k_is)
  (case c33 => k_is)
  (case k33 => k_is)
  (case a34 => k_is)
  (case l34 => k_is)
  (case c34 => k_is)
  (case k34 => k_is)
  (case a35 => k_is)
  (case l35 => k_is)
  (case c35 => k_is)
  (case k35 => k_is)
  (case a36 => k_is)
  (case l36 => k_is)
  (case c36 => k_is)
  (case k36 => k_is)
  (case x_Rule => k_is)
  (case x_Shares => k_is)
  (case x_Evenly => k_is)
  (case x_Losses => k_is)
  (case x_Halves => k_is)
  (case x_Other => k_is)
  (case x_Ranks => k_is)
  (case x_Groups => k_is)
  (case x_Upto => k_is)
  (case e_Rule___init__ => k_is)
  (case e_Shares___init__ => k_is)
  (case e_Evenly___init__ => k_is)
  (case e_Losses___init__ => k_is)
  (case e_Halves___init__ => k_is)
  (case e_Other___init__ => k_is)
  (case e_Ranks___init__ => k_is)
  (case e_Groups___init__ => k_is)
  (case e_Upto___init__ => k_is)
  (case es_Shares => k_is)
  (case et_Shares => k_is)
  (case es_Evenly => k_is)
  (case et_Evenly => k_is)
  (case es_Losses => k_is)
  (case et_Losses => k_is)
  (case es_Halves => k_is)
  (case et_Halves => k_is)
  (case es_Other => k_is)
  (case et_Other => k_is)
  (case es_Ranks => k_is)
  (case et_Ranks => k_is)
  (case es_Groups => k_is)
  (case et_Groups => k_is)
  (case es_Upto => k_is)
  (case et_Upto => k_is)
  (case l_Rule___init__ => k_is)
  (case c2_Rule___init__ => k_is)
  (case k_Rule___init__ => k_is)
  (case l_Rule_shape => k_is)
  (case c2_Rule_shape => k_is)
  (case k_Rule_shape => k_is)
  (case l_Rule_text => k_is)
  (case c2_Rule_text => k_is)
  (case k_Rule_text => k_is)
  (case l_Shares___init__ => k_is)
  (case c2_Shares___init__ => k_is)
  (case k_Shares___init__ => k_is)
  (case l_Evenly___init__ => k_is)
  (case c2_Evenly___init__ => k_is)
  (case k_Evenly___init__ => k_is)
  (case l_Losses___init__ => k_is)
  (case c2_Losses___init__ => k_is)
  (case k_Losses___init__ => k_is)
  (case l_Halves___init__ => k_is)
  (case c2_Halves___init__ => k_is)
  (case k_Halves___init__ => k_is)
  (case l_Other___init__ => k_is)
  (case c2_Other___init__ => k_is)
  (case k_Other___init__ => k_is)
  (case l_Ranks___init__ => k_is)
  (case c2_Ranks___init__ => k_is)
  (case k_Ranks___init__ => k_is)
  (case l_Groups___init__ => k_is)
  (case c2_Groups___init__ => k_is)
  (case k_Groups___init__ => k_is)
  (case l_Upto___init__ => k_is)
  (case c2_Upto___init__ => k_is)
  (case k_Upto___init__ => k_is)
  (case n_Rule_shape => k_is)
  (case n_Rule_text => k_is)
  (case sp_Rule => k_is)
  (case rd_Rule => k_is)
  (case hn0 => k_is)
  (case ht0 => k_is)
  (case pg_Shares => k_is)
  (case hd_Shares => k_is)
  (case po_Shares => k_is)
  (case sa_Shares => k_is)
  (case na_Shares => k_is)
  (case ha_Shares => k_is)
  (case mo_Shares => k_is)
  (case kt_Shares => kit_is)
  (case mk_Shares => k_is)
  (case nf_Shares => k_is)
  (case kc_Shares => k_is)
  (case pg_Evenly => k_is)
  (case hd_Evenly => k_is)
  (case po_Evenly => k_is)
  (case sa_Evenly => k_is)
  (case na_Evenly => k_is)
  (case ha_Evenly => k_is)
  (case mo_Evenly => k_is)
  (case kt_Evenly => kit_is)
  (case mk_Evenly => k_is)
  (case nf_Evenly => k_is)
  (case kc_Evenly => k_is)
  (case pg_Losses => k_is)
  (case hd_Losses => k_is)
  (case po_Losses => k_is)
  (case sa_Losses => k_is)
  (case na_Losses => k_is)
  (case ha_Losses => k_is)
  (case mo_Losses => k_is)
  (case kt_Losses => kit_is)
  (case mk_Losses => k_is)
  (case nf_Losses => k_is)
  (case kc_Losses => k_is)
  (case pg_Halves => k_is)
  (case hd_Halves => k_is)
  (case po_Halves => k_is)
  (case sa_Halves => k_is)
  (case na_Halves => k_is)
  (case ha_Halves => k_is)
  (case mo_Halves => k_is)
  (case kt_Halves => kit_is)
  (case mk_Halves => k_is)
  (case nf_Halves => k_is)
  (case kc_Halves => k_is)
  (case pg_Other => k_is)
  (case hd_Other => k_is)
  (case po_Other => k_is)
  (case sa_Other => k_is)
  (case na_Other => k_is)
  (case ha_Other => k_is)
  (case mo_Other => k_is)
  (case kt_Other => kit_is)
  (case mk_Other => k_is)
  (case nf_Other => k_is)
  (case kc_Other => k_is)
  (case pg_Ranks => k_is)
  (case hd_Ranks => k_is)
  (case po_Ranks => k_is)
  (case sa_Ranks => k_is)
  (case na_Ranks => k_is)
  (case ha_Ranks => k_is)
  (case mo_Ranks => k_is)
  (case kt_Ranks => kit_is)
  (case mk_Ranks => k_is)
  (case nf_Ranks => k_is)
  (case kc_Ranks => k_is)
  (case pg_Groups => k_is)
  (case hd_Groups => k_is)
  (case po_Groups => k_is)
  (case sa_Groups => k_is)
  (case na_Groups => k_is)
  (case ha_Groups => k_is)
  (case mo_Groups => k_is)
  (case kt_Groups => kit_is)
  (case mk_Groups => k_is)
  (case nf_Groups => k_is)
  (case kc_Groups => k_is)
  (case pg_Upto => k_is)
  (case hd_Upto => k_is)
  (case po_Upto => k_is)
  (case sa_Upto => k_is)
  (case na_Upto => k_is)
  (case ha_Upto => k_is)
  (case mo_Upto => k_is)
  (case kt_Upto => kit_is)
  (case mk_Upto => k_is)
  (case nf_Upto => k_is)
  (case kc_Upto => k_is)
  (case x_Walk => k_is)
  (case x_WORDS => k_is)
  (case x_FIGURES => k_is)
  (case l_WORDS => k_is)
  (case l_FIGURES => k_is)
  (case e_Walk___init__ => k_is)
  (case e_Walk_sign => k_is)
  (case e_Walk_expect => k_is)
  (case l_Walk___init__ => k_is)
  (case c2_Walk___init__ => k_is)
  (case k_Walk___init__ => k_is)
  (case n_Walk___init__ => k_is)
  (case l_Walk_sign => k_is)
  (case c2_Walk_sign => k_is)
  (case k_Walk_sign => k_is)
  (case n_Walk_sign => k_is)
  (case l_Walk_expect => k_is)
  (case c2_Walk_expect => k_is)
  (case k_Walk_expect => k_is)
  (case n_Walk_expect => k_is)
  (case pg_Walk => k_is)
  (case hd_Walk => k_is)
  (case po_Walk => k_is)
  (case sa_Walk => k_is)
  (case na_Walk => k_is)
  (case nb_Walk => k_is)
  (case mk_Walk => k_is)
  (case kc_Walk => k_is)
  (case x_PurseError => k_is)
  (case x_NoFraction => k_is)
  (case x_NoPurse => k_is)
  (case x_NoClaims => k_is)
  (case x_NoRule => k_is)
  (case x_NoPlace => k_is)
  (case x_NoDivision => k_is)
  (case qP => k_exc)
  (case oR => kernel_rfl)
  (case mP => k_is)
  (case w1 => k_is)
  (case w2 => k_is)
  (case w3 => k_is)
  (case w4 => k_is)
  (case w5 => k_is)
  (case w6 => k_is)
  (case t1 => kit_is)
  (case t2 => kit_is)
  (case t3 => kit_is)
  (case t4 => kit_is)
  (case t5 => kit_is)
  (case t6 => kit_is)
  (case tV => kit_is)
  (case sP => k_is)
  (case rP => k_is)
  (case fP => k_is)
  (case iR => k_is)
  (case yR => first | k_is | kernel_rfl)
  (case saR => k_is)
  (case kpR => k_is)
  (case naR => k_is)
  (case hdR => k_is)
  (case l_NoRule___init__ => k_is)
  (case c2_NoRule___init__ => k_is)
  (case k_NoRule___init__ => k_is)
  (case z_len => k_is)
  (case z_abs => k_is)
  (case z_min => k_is)
  (case z_max => k_is)
  (case z_isinstance => k_is)
  (case z_range => k_is)
  (case z_int => k_is)
  (case z_bool => k_is)
  (case z_tuple => k_is)
  (case z_list => k_is)
  (case z_enumerate => k_is)
  (case z_zip => k_is)
  (case z_reversed => k_is)
  (case z_ValueError => k_is)
  (case z_sum => k_is)
  (case z_str => k_is)
