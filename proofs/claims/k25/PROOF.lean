import PyProof.Rows.All
import Wide.All
import OpenK.AllK
import Wide.FinOn
import Lean
import PyProof.EqAt
import PyProof.EqKinds
import PyProof.TupleCall
import PyProof.Draws
import PyProof.EnumMake
import PyProof.ZipIter
import PyProof.Rows.SumAny
import KE.KRevIter
import PyProof.StrCalls2
import KE.KRevSl
import KE.LcSums
import PyProof.Rows.SetFrom
import PyProof.DictIter
import PyProof.CollectWalk
import PyProof.Rows.SortRev
import PySem.Challenge.RW_shortpurse_k25_round_the_other_way_and_u
set_option Elab.async false
set_option linter.all false
set_option maxRecDepth 100000
set_option maxHeartbeats 4000000
set_option exponentiation.threshold 2000
namespace L2
open PySem PySem.Spec PyProof.Rows
abbrev Key := Sum Int Str
def keyIs : Key → Value → Bool
 | .inl k, v => Value.isInt k v
 | .inr x, v => Value.isStrOf x v
def keyH (w : World) : Key → Int
 | .inl k => hashInt k
 | .inr x => hashStr w x
theorem xj : ∀ {k : Key} {v : Value}, keyIs k v = true → (∃ i t, k = Sum.inl i ∧ v = Value.int i t) ∨ (∃ x t, k = Sum.inr x ∧ v = Value.str x t)
 | .inl i, v, h => by
   obtain ⟨t, e⟩ := Value.isInt_shape (k := i) (v := v) h
   exact .inl ⟨i, t, rfl, e⟩
 | .inr x, v, h => by
   obtain ⟨t, e⟩ := Value.isStrOf_shape (x := x) (v := v) h
   exact .inr ⟨x, t, rfl, e⟩
theorem key_ll (a b : Int) : decide ((Sum.inl a : Key) = Sum.inl b) = (a == b) := by
 by_cases e : a = b
 ·subst e; simp
 ·have h : ¬ (Sum.inl a : Key) = Sum.inl b := fun q => e (Sum.inl.inj q)
  rw [decide_eq_false h]
  exact (beq_eq_false_iff_ne.mpr e).symm
theorem key_rr (a b : Str) : decide ((Sum.inr a : Key) = Sum.inr b) = decide (a = b) := by
 by_cases e : a = b
 ·subst e; simp
 ·have h : ¬ (Sum.inr a : Key) = Sum.inr b := fun q => e (Sum.inr.inj q)
  rw [decide_eq_false h, decide_eq_false e]
theorem key_lr (a : Int) (b : Str) : decide ((Sum.inl a : Key) = Sum.inr b) = false := decide_eq_false (fun q => nomatch q)
theorem key_rl (a : Str) (b : Int) : decide ((Sum.inr a : Key) = Sum.inl b) = false := decide_eq_false (fun q => nomatch q)
def zeo (prog : Program) (w : World) : PySem.KeyKind prog w Key where
 is := keyIs
 hash := keyH w
 inj := fun v a b ha hb => by
  rcases xj ha with ⟨i, t, rfl, rfl⟩ | ⟨x, t, rfl, rfl⟩
  ·rcases xj hb with ⟨j, u, rfl, e⟩ | ⟨y, u, rfl, e⟩
   ·injection e with e1 _; rw [e1]
   ·exact nomatch e
  ·rcases xj hb with ⟨j, u, rfl, e⟩ | ⟨y, u, rfl, e⟩
   ·exact nomatch e
   ·injection e with e1 _; rw [e1]
 byValue := fun k v h => by
  rcases xj h with ⟨i, t, rfl, rfl⟩ | ⟨x, t, rfl, rfl⟩ <;> rfl
 pyHash := fun hv h => by
  rcases xj hv with ⟨i, t, rfl, rfl⟩ | ⟨x, t, rfl, rfl⟩
  ·exact wpAny_pyHash_int h
  ·exact wpAny_pyHash_str h
 eqBool := fun hu hv h => by
  rcases xj hu with ⟨i, t, rfl, rfl⟩ | ⟨x, t, rfl, rfl⟩
  ·rcases xj hv with ⟨j, u, rfl, rfl⟩ | ⟨y, u, rfl, rfl⟩
   ·rw [key_ll] at h; exact wpAny_eqBool_int h
   ·rw [key_lr] at h; exact SeqAt.EqAt.int_str i t y u _ _ _ _ h
  ·rcases xj hv with ⟨j, u, rfl, rfl⟩ | ⟨y, u, rfl, rfl⟩
   ·rw [key_rl] at h; exact SeqAt.EqAt.str_int x t j u _ _ _ _ h
   ·rw [key_rr] at h; exact wpAny_eqBool_str h
 «strs» := fun k x t v h => by
  rcases xj h with ⟨i, u, rfl, e⟩ | ⟨y, u, rfl, e⟩
  ·exact nomatch e
  ·injection e with e1 _
   subst e1
   cases v <;> rfl
end L2
namespace L2
open PySem PySem.Spec PyProof.Rows
inductive V where
 | non | bl (b : Bool) | int (i : Int) | str (x : Str) | byt (b : Array UInt8) | flt (b : UInt64) | ref (a : Addr) | ty (n : String)
 deriving DecidableEq
def ZH : V → Value → Prop
 | .non, u => u = Value.none
 | .bl b, u => u = Value.bool b
 | .int i, u => ∃ t, u = Value.int i t
 | .str x, u => ∃ t, u = Value.str x t
 | .byt b, u => ∃ t, u = Value.bytes b t
 | .flt b, u => ∃ t, u = Value.float b t
 | .ref a, u => u = Value.ref a
 | .ty n, u => u = Value.type n
abbrev xA : List V → List Value → Prop := Paired ZH
theorem xA.length {xs : List V} {us : List Value} (r : xA xs us) : xs.length = us.length := Paired.length r
theorem xA.get : ∀ {xs : List V} {us : List Value} {i : Nat} {x : V}, xA xs us → xs[i]? = some x → ∃ u, us[i]? = some u ∧ ZH x u
 | _, _, _, _, .nil, e => by simp at e
 | _, _, 0, _, .cons r _, e => by simp at e; subst e; exact ⟨_, rfl, r⟩
 | _, _, i + 1, x, .cons _ t, e => by
   obtain ⟨u, h1, h2⟩ := xA.get (i := i) (x := x) t (by simpa using e)
   exact ⟨u, by simpa using h1, h2⟩
theorem xA.append : ∀ {xs ys : List V} {us ws : List Value}, xA xs us → xA ys ws → xA (xs ++ ys) (us ++ ws)
 | _, _, _, _, .nil, s => s
 | _, _, _, _, .cons r t, s => .cons r (xA.append t s)
theorem xA.take : ∀ {xs : List V} {us : List Value} (n : Nat), xA xs us → xA (xs.take n) (us.take n)
 | _, _, 0, _ => .nil
 | _, _, _ + 1, .nil => .nil
 | _, _, n + 1, .cons r t => .cons r (xA.take n t)
theorem xA.drop : ∀ {xs : List V} {us : List Value} (n : Nat), xA xs us → xA (xs.drop n) (us.drop n)
 | _, _, 0, r => r
 | _, _, _ + 1, .nil => .nil
 | _, _, n + 1, .cons _ t => xA.drop n t
def ze0 : Option V → Option Value → Prop
 | some v, some u => ZH v u
 | none, none => True
 | _, _ => False
def KV {κ : Type} : List (κ × V) → List (κ × Value) → Prop := Paired fun (p : κ × V) (q : κ × Value) => p.1 = q.1 ∧ ZH p.2 q.2
def kV : Key → V
 | .inl i => .int i
 | .inr x => .str x
inductive HO where
 | lst (xs : List V)
 | tup (xs : List V)
 | dK (kvs : List (Key × V)) | dT (kvs : List (List Key × V))
 | set (S : Int → Bool) (n : Nat)
 | ins (C dx : Addr) (fs : List (Str × V))
 | own (x : Addr)
 | xd (fs : List (Str × V))
 | met (f x : Addr)
 | rng (lo hi : Int)
 | frz (o : Obj) (u : HO)
 | tbl (ps : Array Value)
 | ext (φ : Heap → Prop)
abbrev Hp := Addr → Option HO
def upd (H : Hp) (a : Addr) (o : HO) : Hp := fun b => if b = a then some o else H b
theorem yH {H : Hp} {a : Addr} {o : HO} : upd H a o a = some o := by unfold upd; rw [if_pos rfl]
theorem ye {H : Hp} {a b : Addr} {o : HO} (h : b ≠ a) : upd H a o b = H b := by unfold upd; rw [if_neg h]
theorem yf {H : Hp} {a b : Addr} {o : HO} (h : H a = some o) (h' : H b = none) : a ≠ b := by
 intro e; subst e; rw [h] at h'; cases h'
section
variable (P : Program) (w : World)
def Zv (H : Hp) (h : Heap) (a : Addr) : HO → Prop
 | .lst xs => xs.length ≤ sizeLine ∧ ∃ (its : List Value) (n : Nat), xA xs its ∧ h.get? a = some { cls := .type "list", data := .seq its.toArray n }
 | .tup xs => xs.length ≤ sizeLine ∧ ∃ its : List Value, xA xs its ∧ IsTup h a its.toArray
 | .dK kvs => kvs.length ≤ sizeLine ∧ (a == sysModules) = false ∧ ∃ vs, KV kvs vs ∧ h.DictOf (zeo P w) a vs
 | .dT kvs => kvs.length ≤ sizeLine ∧ (a == sysModules) = false ∧ ∃ xs : List (List Key × Addr × Value),
  Paired (fun (p : List Key × V) (q : List Key × Addr × Value) => p.1 = q.1 ∧ H q.2.1 = some (.tup (p.1.map kV)) ∧ ZH p.2 q.2.2) kvs xs ∧
  ∃ o es ep, h.get? a = some o ∧ o.ExactDict ∧ o.data = .dict es ep ∧ es.toList = xs.map (entryOfKey (tupleKind (zeo P w))) ∧ (xs.map (·.1)).Nodup
 | .set S n => h.SetOf (intKind P w) a S n
 | .ins C dx fs => H dx = some (.own a) ∧ fs.length ≤ 1000 ∧ dx ≠ a ∧ h.get? a = some (PySem.W.instObj C dx) ∧
  ∃ mA, h.Ns1 dx mA ∧ (∀ f, ze0 (fs.lookup f) (mA f)) ∧ PySem.Within mA (fs.map (·.1))
 | .own _ => ∃ o, h.get? a = some o
 | .xd fs => ∃ mA, h.Ns1 a mA ∧ ∀ f, ze0 (fs.lookup f) (mA f)
 | .rng lo hi => ∃ t u v, h.get? a = some { cls := .type "range", data := .fields #[.int lo t, .int hi u, .int 1 v] }
 | .frz o u => h.get? a = some o ∧ Zv H h a u
 | .tbl ps => h.get? a = some { cls := .none, data := .fields ps }
 | .met f x => h.get? a = some (PySem.W.methodObj (.ref f) (.ref x))
 | .ext φ => φ h ∧ (∃ o, h.get? a = some o) ∧ ∀ h1 h2 : Heap, φ h1 → (∀ o, h1.get? a = some o → h2.get? a = some o) → φ h2
def HOk (H : Hp) (h : Heap) : Prop := ∀ a o, H a = some o → Zv P w H h a o
end
section
variable {P : Program} {w : World} {H H' : Hp} {h h' : Heap} {a : Addr} {o : HO}
theorem Zv.lt (x : Zv P w H h a o) : a < h.objs.size := by
 cases o with
 | lst xs => obtain ⟨_, _, _, _, e⟩ := x; exact Heap.lt_size e
 | tup xs => obtain ⟨_, _, _, p⟩ := x; exact p.lt
 | dK kvs => obtain ⟨_, _, _, _, o, _, _, e, _⟩ := x; exact Heap.lt_size e
 | dT kvs => obtain ⟨_, _, _, _, o, _, _, e, _⟩ := x; exact Heap.lt_size e
 | set S n => obtain ⟨o, _, _, _, e, _⟩ := x; exact Heap.lt_size e
 | ins C dx fs => obtain ⟨_, _, _, e, _⟩ := x; exact Heap.lt_size e
 | own y => obtain ⟨_, e⟩ := x; exact Heap.lt_size e
 | xd fs => obtain ⟨_, ⟨_, _, _, e, _⟩, _⟩ := x; exact Heap.lt_size e
 | rng lo hi => obtain ⟨_, _, _, e⟩ := x; exact Heap.lt_size e
 | frz ob u => obtain ⟨e, _⟩ := x; exact Heap.lt_size e
 | tbl ps => exact Heap.lt_size (show h.get? a = some _ from x)
 | met f y => exact Heap.lt_size (show h.get? a = some _ from x)
 | ext φ => obtain ⟨_, ⟨_, e⟩, _⟩ := x; exact Heap.lt_size e
theorem Paired.mapP {α β : Type} {F G : α → β → Prop} : ∀ {l₁ : List α} {l₂ : List β}, Paired F l₁ l₂ → (∀ a b, F a b → G a b) → Paired G l₁ l₂
 | _, _, .nil, _ => .nil
 | _, _, .cons r t, f => .cons (f _ _ r) (Paired.mapP t f)
theorem Zv.stay (x : Zv P w H h a o) (k : ∀ b u, (b = a ∨ H b = some (.own a)) → h.get? b = some u → h'.get? b = some u)
 (ho : ∀ b, H b = some (.own a) → H' b = some (.own a)) (ht : ∀ b xs, H b = some (.tup xs) → H' b = some (.tup xs)) : Zv P w H' h' a o := by
 induction o with
 | lst xs => obtain ⟨z, its, n, r, e⟩ := x; exact ⟨z, its, n, r, k _ _ (.inl rfl) e⟩
 | tup xs => obtain ⟨z, its, r, ob, e, c⟩ := x; exact ⟨z, its, r, ob, k _ _ (.inl rfl) e, c⟩
 | dK kvs => obtain ⟨z, y, vs, r, ob, es, ep, e, c⟩ := x; exact ⟨z, y, vs, r, ob, es, ep, k _ _ (.inl rfl) e, c⟩
 | dT kvs =>
   obtain ⟨z, y, xs, r, ob, es, ep, e, c⟩ := x
   exact ⟨z, y, xs, Paired.mapP r fun p q z => ⟨z.1, ht _ _ z.2.1, z.2.2⟩, ob, es, ep, k _ _ (.inl rfl) e, c⟩
 | set S n => obtain ⟨ob, es, ep, t, e, c⟩ := x; exact ⟨ob, es, ep, t, k _ _ (.inl rfl) e, c⟩
 | ins C dx fs =>
   obtain ⟨d, z, ne, e, mA, ⟨od, es, ep, e2, c⟩, r⟩ := x
   exact ⟨ho _ d, z, ne, k _ _ (.inl rfl) e, mA, ⟨od, es, ep, k _ _ (.inr d) e2, c⟩, r⟩
 | own y => obtain ⟨ob, e⟩ := x; exact ⟨ob, k _ _ (.inl rfl) e⟩
 | xd fs => obtain ⟨mA, ⟨od, es, ep, e, c⟩, r⟩ := x; exact ⟨mA, ⟨od, es, ep, k _ _ (.inl rfl) e, c⟩, r⟩
 | rng lo hi => obtain ⟨t, u, v, e⟩ := x; exact ⟨t, u, v, k _ _ (.inl rfl) e⟩
 | frz ob u ih => obtain ⟨e, q⟩ := x; exact ⟨k _ _ (.inl rfl) e, ih q⟩
 | tbl ps =>
   have e : h.get? a = some { cls := .none, data := .fields ps } := x
   show h'.get? a = some { cls := .none, data := .fields ps }
   exact k a _ (.inl rfl) e
 | met f y =>
   have e : h.get? a = some (PySem.W.methodObj (.ref f) (.ref y)) := x
   show h'.get? a = some (PySem.W.methodObj (.ref f) (.ref y))
   exact k a _ (.inl rfl) e
 | ext φ => obtain ⟨p, ⟨o, e⟩, st⟩ := x; exact ⟨st _ _ p fun o q => k _ _ (.inl rfl) q, ⟨o, k _ _ (.inl rfl) e⟩, st⟩
theorem HOk.lt (x : HOk P w H h) (e : H a = some o) : a < h.objs.size := (x a o e).lt
theorem HOk.fresh (x : HOk P w H h) (e : h.objs.size ≤ a) : H a = none := by
 cases q : H a with
 | none => rfl
 | some u => exact absurd (Nat.lt_of_lt_of_le (x.lt q) e) (Nat.lt_irrefl _)
theorem HOk.kept (x : HOk P w H h) (k : ∀ b u, h.get? b = some u → h'.get? b = some u) : HOk P w H h' := fun a o e =>
 (x a o e).stay (fun b u _ q => k b u q) (fun _ q => q) fun _ _ q => q
theorem HOk.laid (x : HOk P w H h) (k : ∀ b u, h.get? b = some u → h'.get? b = some u) (hp : h.objs.size ≤ a) (new : Zv P w (upd H a o) h' a o) : HOk P w (upd H a o) h' := fun b u e => by
 have hn := x.fresh hp
 by_cases hb : b = a
 ·subst hb; rw [yH] at e; cases e; exact new
 ·rw [ye hb] at e
  exact (x b u e).stay (fun c v _ q => k c v q) (fun c q => by rw [ye (yf q hn)]; exact q) fun c xs q => by rw [ye (yf q hn)]; exact q
end
def Rd (H : Hp) (a : Addr) (u : HO) : Prop := H a = some u ∨ ∃ o, H a = some (.frz o u)
theorem Rd.ok {P : Program} {w : World} {H : Hp} {h : Heap} {a : Addr} {u : HO} (r : Rd H a u) (x : HOk P w H h) : Zv P w H h a u := by
 rcases r with r | ⟨o, r⟩
 ·exact x a u r
 ·obtain ⟨_, q⟩ := x a _ r
  exact q
def Mut : Option HO → Prop
 | some (.lst _) => True
 | some (.dK _) => True
 | some (.dT _) => True
 | some (.set _ _) => True
 | some (.ins _ _ _) => True
 | some (.ext _) => True
 | _ => False
section
variable {P : Program} {w : World} {H : Hp} {h h' : Heap} {x e : Addr} {o' : HO}
theorem HOk.write (ok : HOk P w H h) (mu : Mut (H x)) (he : e = x ∨ H e = some (.own x)) (k : ∀ b u, b ≠ e → h.get? b = some u → h'.get? b = some u) (heo : ∃ u, h'.get? e = some u)
 (new : Zv P w (upd H x o') h' x o') : HOk P w (upd H x o') h' := fun b u q => by
 have nown : ∀ c y, H c = some (.own y) → c ≠ x := fun c y r z => by subst z; rw [r] at mu; exact mu
 have ntup : ∀ c xs, H c = some (.tup xs) → c ≠ x := fun c xs r z => by subst z; rw [r] at mu; exact mu
 by_cases hb : b = x
 ·subst hb; rw [yH] at q; cases q; exact new
 ·rw [ye hb] at q
  by_cases hbe : b = e
  ·have q' : H b = some (.own x) := by
    rcases he with z | z
    ·exact absurd (hbe.trans z) hb
    ·rw [hbe]; exact z
   rw [q] at q'; cases q'
   obtain ⟨v, hv⟩ := heo
   exact ⟨v, by rw [hbe]; exact hv⟩
  ·refine (ok b u q).stay (fun c v hc r => k c v ?_ r) (fun c r => by rw [ye (nown c b r)]; exact r) fun c xs r => by rw [ye (ntup c xs r)]; exact r
   rcases hc with rfl | hc
   ·exact hbe
   ·rintro rfl
    rcases he with z | z
    ·exact nown c b hc z
    ·rw [hc] at z; cases z; exact hb rfl
end
structure Un (fs ex : List Addr) (H H' : Hp) (h h' : Heap) : Prop where
 keep : ∀ b o, h.get? b = some o → H b = none → b ∉ fs → b ∉ ex → h'.get? b = some o
 slot : ∀ b o, h.get? b = some o → H b = none → b ∈ fs → b ∉ ex → ∃ sl, h'.get? b = some { o with slots := sl }
 free : ∀ b o, h.get? b = some o → H b = none → b ∉ ex → H' b = none
 there : ∀ b o, h.get? b = some o → b ∉ ex → ∃ o', h'.get? b = some o'
 tups : ∀ b xs, H b = some (.tup xs) → H' b = some (.tup xs)
 frzs : ∀ b o u, H b = some (.frz o u) → H' b = some (.frz o u)
 tbls : ∀ b ps, H b = some (.tbl ps) → ∃ more, H' b = some (.tbl (ps ++ more))
section
variable {fs fs' ex ex' : List Addr} {H H1 H2 : Hp} {h h1 h2 h' : Heap} {a x e : Addr} {o : HO}
theorem Un.any (u : Un fs ex H H1 h h1) {b : Addr} {ob : Obj} (q : h.get? b = some ob) (n : H b = none) (hx : b ∉ ex) : ∃ sl, h1.get? b = some { ob with slots := sl } := by
 by_cases hb : b ∈ fs
 ·exact u.slot b ob q n hb hx
 ·exact ⟨ob.slots, u.keep b ob q n hb hx⟩
theorem Un.trans (a : Un fs ex H H1 h h1) (b : Un fs ex H1 H2 h1 h2) : Un fs ex H H2 h h2 where
 keep := fun c ob q n hc hx => b.keep c ob (a.keep c ob q n hc hx) (a.free c ob q n hx) hc hx
 slot := fun c ob q n hc hx => by
  obtain ⟨sl, e1⟩ := a.slot c ob q n hc hx
  obtain ⟨sl', e2⟩ := b.slot c _ e1 (a.free c ob q n hx) hc hx
  exact ⟨sl', e2⟩
 free := fun c ob q n hx => by
  obtain ⟨o', e1⟩ := a.there c ob q hx
  exact b.free c o' e1 (a.free c ob q n hx) hx
 there := fun c ob q hx => by
  obtain ⟨o', e1⟩ := a.there c ob q hx
  exact b.there c o' e1 hx
 tups := fun c xs q => b.tups c xs (a.tups c xs q)
 frzs := fun c ob xs q => b.frzs c ob xs (a.frzs c ob xs q)
 tbls := fun c ps q => by
  obtain ⟨m1, e1⟩ := a.tbls c ps q
  obtain ⟨m2, e2⟩ := b.tbls c _ e1
  exact ⟨m1 ++ m2, by rw [e2, Array.append_assoc]⟩
theorem Un.kept (k : ∀ b u, h.get? b = some u → h'.get? b = some u) : Un fs ex H H h h' :=
 ⟨fun b ob q _ _ _ => k b ob q, fun b ob q _ _ _ => ⟨ob.slots, k b ob q⟩, fun _ _ _ n _ => n, fun b ob q _ => ⟨ob, k b ob q⟩, fun _ _ q => q, fun _ _ _ q => q, fun _ ps q => ⟨#[], by rw [q]; simp⟩⟩
theorem Un.refl : Un fs ex H H h h := Un.kept fun _ _ q => q
theorem Un.laid (k : ∀ b u, h.get? b = some u → h'.get? b = some u) (hp : h.objs.size ≤ a) (hn : H a = none) : Un fs ex H (upd H a o) h h' where
 keep := fun b u q _ _ _ => k b u q
 slot := fun b u q _ _ _ => ⟨u.slots, k b u q⟩
 free := fun b u q n _ => by rw [ye (Nat.ne_of_lt (Nat.lt_of_lt_of_le (Heap.lt_size q) hp))]; exact n
 there := fun b u q _ => ⟨u, k b u q⟩
 tups := fun b xs q => by rw [ye (yf q hn)]; exact q
 frzs := fun b u xs q => by rw [ye (yf q hn)]; exact q
 tbls := fun b ps q => ⟨#[], by rw [ye (yf q hn), q]; simp⟩
theorem Un.write (mu : Mut (H x)) (he : e = x ∨ H e = some (.own x)) (k : ∀ b u, b ≠ e → h.get? b = some u → h'.get? b = some u) (heo : ∃ u, h'.get? e = some u) : Un fs ex H (upd H x o) h h' := by
 have hx : ∀ b, H b = none → b ≠ x := fun b n z => by subst z; rw [n] at mu; exact mu
 have hb : ∀ b, H b = none → b ≠ e := fun b n z => by
  subst z
  rcases he with r | r
  ·exact hx b n r
  ·rw [n] at r; cases r
 have hm : ∀ b u, H b = some u → ¬ Mut (some u) → b ≠ x := fun b u q nm z => by subst z; rw [q] at mu; exact nm mu
 refine ⟨fun b u q n _ _ => k b u (hb b n) q, fun b u q n _ _ => ⟨u.slots, k b u (hb b n) q⟩, fun b u q n _ => by rw [ye (hx b n)]; exact n, fun b u q _ => ?_,
  fun b xs q => by rw [ye (hm b _ q fun z => z)]; exact q, fun b u xs q => by rw [ye (hm b _ q fun z => z)]; exact q, fun b ps q => ⟨#[], by rw [ye (hm b _ q fun z => z), q]; simp⟩⟩
 by_cases hbe : b = e
 ·subst hbe; exact heo
 ·exact ⟨u, k b u hbe q⟩
end
def trk (h : Heap) (H : Hp) : List Addr := (List.range h.objs.size).filter fun a => (H a).isSome
def zfY (h : Heap) (H : Hp) : Heap := PySem.W.hideAll h (trk h H)
theorem zew (h : Heap) (H : Hp) : (zfY h H).objs.size = h.objs.size := PySem.W.hideAll_size _ _
theorem zfX {h : Heap} {H : Hp} {b : Addr} {o : Obj} (e : h.get? b = some o) (n : H b = none) : (zfY h H).get? b = some o :=
 PySem.W.hideAll_get _ e fun hm => by
  have q : (H b).isSome = true := (List.mem_filter.mp hm).2
  rw [n] at q; simp at q
theorem zhN {h : Heap} {H : Hp} {b : Addr} {o : Obj} (e : (zfY h H).get? b = some o) : h.get? b = some o ∧ H b = none := by
 have e' : h.get? b = some o := PySem.W.of_hideAll (trk h H) e
 refine ⟨e', ?_⟩
 cases q : H b with
 | none => rfl
 | some x =>
   have hm : b ∈ trk h H := List.mem_filter.mpr ⟨List.mem_range.mpr (Heap.lt_size e'), by simp [q]⟩
   have z : (zfY h H).get? b = none := PySem.W.hideAll_none (trk h H) hm
   rw [z] at e; cases e
def zh9 (g h : Heap) (L : Addr) : List (Addr × Obj) := (List.range h.objs.size).filterMap fun a => if a = L ∨ (g.get? a).isSome = true then none else (h.get? a).map fun o => (a, o)
def rest (g h : Heap) (L d : Addr) : List (Addr × Obj) := (zh9 g h L).filter fun p => decide (p.1 ≠ d)
end L2
namespace L2
open PySem PySem.Spec PyProof.Rows
structure Mod (K : PySem.W.Frag) (mg : Str → Option Value) (base : Heap) : Prop where
 kin : K.In base
 glob : base.Ns mainGlobals mg
 blt : ∃ mb, base.Ns builtinsNs mb ∧ ∀ x : Str, x ≠ "__name__" → mb x = bootBuiltins x
 nolimit : base.NoLimit
structure Cx where
 prog : Program
 w : World
 K : PySem.W.Frag
 mg : Str → Option Value
 base : Heap
 A : Around
 N : List Str
 s₀ : Shared
 H₀ : Hp
 env : Env
 outer : List Env
 stack : List Env
 ex : List Addr
 fn : Str → Bool
 calm : Bool
 pn : List (Addr × Obj)
 xe : Value → Shared → Prop
def frs (l : List Env) : List Addr := l.filterMap (·.frame)
abbrev Cx.fs (X : Cx) : List Addr := frs X.outer
def Vis (sc : Scope) (x : Str) : Prop := sc.names.lookup x = some .local ∨ sc.names.lookup x = some .cell ∨ sc.names.lookup x = some .free
def Loc (sc : Scope) (x : Str) : Prop := sc.names.lookup x = some .local ∨ sc.names.lookup x = some .cell
def Look (env : Env) (h : Heap) (m : Str → Option Value) (x : Str) (u : Value) : Prop :=
 (env.kindOf x = some .local ∧ m x = some u) ∨ ((env.kindOf x = some .cell ∨ env.kindOf x = some .free) ∧ ∃ c, env.cells.lookup x = some c ∧ h.IsCell c (some u))
structure Cx.Ok (X : Cx) : Prop where
 mod : Mod X.K X.mg X.base
 kind : X.env.scope.kind = .function
 glob : X.env.globals = mainGlobals
 blt : X.env.builtins = builtinsNs
 above : X.s₀.heap.objs.size ≤ X.env.locals
 inj : ∀ x y c, X.env.cells.lookup x = some c → X.env.cells.lookup y = some c → x = y
 has : ∀ x, (X.env.kindOf x = some .cell ∨ X.env.kindOf x = some .free) → ∃ c, X.env.cells.lookup x = some c
 cab : ∀ x c, X.fn x = true → X.env.cells.lookup x = some c → X.s₀.heap.objs.size ≤ c
 hd : X.calm = true → X.A.handled = none
 frames : X.A.frames = some X.stack
 stk : X.stack = X.outer ∨ (X.stack = X.env :: X.outer ∧ X.env.frame = some X.env.locals)
 exf : ∀ b ∈ X.ex, b ≠ X.env.locals ∧ ∀ x c, X.env.cells.lookup x = some c → c ≠ b
 bs : ∀ b o, X.base.get? b = some o → X.s₀.heap.get? b = some o ∧ X.H₀ b = none
 bsz : X.base.objs.size ≤ X.s₀.heap.objs.size
 noex : ∀ b o, X.base.get? b = some o → b ∉ X.ex
 exfs : ∀ b ∈ X.ex, b ∉ X.fs
 funs : X.s₀.heap.FunFrames X.base X.outer
 frf : ∀ b ∈ X.fs, X.H₀ b = none
structure Inv (X : Cx) (pins : List (Addr × Obj)) (σ : List (Option V)) (H : Hp) (s : Shared) : Prop where
 ok : X.Ok
 os : s.os = X.s₀.os
 bare : AllBare s.gens
 base : Un X.fs X.ex X.H₀ H X.s₀.heap s.heap
 loc : ∃ m, s.heap.Ns X.env.locals m ∧ ∀ (i : Nat) (x : Str) (v : V), X.N[i]? = some x → σ[i]? = some (some v) → Vis X.env.scope x → ∃ u, ZH v u ∧ Look X.env s.heap m x u
 cell : ∀ x c, X.env.cells.lookup x = some c → ∃ v, s.heap.IsCell c v
 free : H X.env.locals = none
 freeC : ∀ x c, X.env.cells.lookup x = some c → H c = none
 pin : ∀ p ∈ X.pn ++ pins, s.heap.get? p.1 = some p.2 ∧ H p.1 = none ∧ p.1 ≠ X.env.locals ∧ p.1 ∉ X.fs ∧ ∀ v, p.2.data ≠ .cell v
 hok : HOk X.prog X.w H s.heap
 len : σ.length = X.N.length
section
variable {X : Cx} {pins : List (Addr × Obj)} {σ : List (Option V)} {H H' : Hp} {s : Shared} {h' : Heap}
theorem Cx.Ok.nofr (ok : X.Ok) {b : Addr} {o : Obj} (e : X.base.get? b = some o) : b ∉ X.fs := fun hb => by
 have := (ok.funs.mem hb).1
 rw [e] at this; cases this
theorem Inv.bs (I : Inv X pins σ H s) : ∀ b o, X.base.get? b = some o → s.heap.get? b = some o ∧ H b = none := fun b o e =>
 ⟨I.base.keep b o (I.ok.bs b o e).1 (I.ok.bs b o e).2 (I.ok.nofr e) (I.ok.noex b o e), I.base.free b o (I.ok.bs b o e).1 (I.ok.bs b o e).2 (I.ok.noex b o e)⟩
theorem Inv.bk (I : Inv X pins σ H s) : ∀ b o, X.base.get? b = some o → s.heap.get? b = some o := fun b o e => (I.bs b o e).1
theorem Inv.mod (I : Inv X pins σ H s) : Mod X.K X.mg X.base := I.ok.mod
theorem Inv.kIn (I : Inv X pins σ H s) : X.K.In s.heap := I.ok.mod.kin.keeps I.bk
theorem Inv.fr (I : Inv X pins σ H s) : ∃ m, Fr X.base X.env.locals s.heap m :=
 let ⟨m, hn, _⟩ := I.loc
 ⟨m, hn, I.bk, Nat.le_trans I.ok.bsz I.ok.above⟩
theorem Inv.lt (I : Inv X pins σ H s) : X.env.locals < s.heap.objs.size := let ⟨_, hn, _⟩ := I.loc; hn.lt
theorem Inv.sz (I : Inv X pins σ H s) : X.s₀.heap.objs.size ≤ s.heap.objs.size := Nat.le_trans I.ok.above (Nat.le_of_lt I.lt)
theorem Inv.nofs (I : Inv X pins σ H s) {a : Addr} (h : s.heap.objs.size ≤ a) : a ∉ X.fs := fun hb => by
 obtain ⟨_, o, ho, _⟩ := I.ok.funs.mem hb
 exact absurd (Nat.lt_of_lt_of_le (Heap.lt_size ho) (Nat.le_trans I.sz h)) (Nat.lt_irrefl _)
theorem Inv.cne (I : Inv X pins σ H s) : ∀ x c, X.env.cells.lookup x = some c → c ≠ X.env.locals := fun x c e z => by
 obtain ⟨v, o, ho, hd⟩ := I.cell x c e
 obtain ⟨m, ⟨o', es, ep, ho', hd', _⟩, _⟩ := I.loc
 rw [z, ho'] at ho; cases ho; rw [hd'] at hd; cases hd
theorem Inv.funs (I : Inv X pins σ H s) : s.heap.FunFrames X.base X.outer := by
 have all : ∀ (l : List Env), (∀ b ∈ frs l, b ∈ X.fs) → X.s₀.heap.FunFrames X.base l → s.heap.FunFrames X.base l := by
  intro l
  induction l with
  | nil => intro _ _; trivial
  | cons env r ih =>
    intro hs hl
    obtain ⟨hk, ⟨L, o, hf, hn, ho, hd⟩, hr⟩ := hl
    have hL : L ∈ X.fs := hs L (by unfold frs; rw [List.filterMap_cons, hf]; exact List.mem_cons_self)
    obtain ⟨sl, e⟩ := I.base.slot L o ho (I.ok.frf L hL) hL fun z => I.ok.exfs L z hL
    exact ⟨hk, ⟨L, _, hf, hn, e, hd⟩, ih (fun b hb => hs b (by unfold frs; rw [List.filterMap_cons, hf]; exact List.mem_cons_of_mem _ hb)) hr⟩
 exact all X.outer (fun _ hb => hb) I.ok.funs
theorem Inv.stack (I : Inv X pins σ H s) : s.heap.FunFrames X.base X.stack := by
 rcases I.ok.stk with e | ⟨e, hf⟩
 ·rw [e]; exact I.funs
 ·rw [e]
  obtain ⟨m, hn, _⟩ := I.loc
  refine .cons (by rw [I.ok.kind]; decide) hf hn ?_ I.funs
  exact Heap.get?_none_of_le (Nat.le_trans I.ok.bsz I.ok.above)
theorem Inv.stkSub (I : Inv X pins σ H s) : ∀ b ∈ frs X.stack, b ∈ X.env.locals :: X.fs := fun b hb => by
 rcases I.ok.stk with e | ⟨e, hf⟩
 ·rw [e] at hb; exact List.mem_cons_of_mem _ hb
 ·rw [e] at hb
  unfold frs at hb
  rw [List.filterMap_cons, hf] at hb
  exact hb
theorem Inv.stkFree (I : Inv X pins σ H s) : ∀ b ∈ frs X.stack, H b = none := fun b hb => by
 rcases List.mem_cons.mp (I.stkSub b hb) with e | hb
 ·rw [e]; exact I.free
 ·obtain ⟨_, o, ho, _⟩ := I.ok.funs.mem hb
  exact I.base.free b o ho (I.ok.frf b hb) fun z => I.ok.exfs b z hb
theorem Inv.step {g' : Array GenState} {t' : Nat} {d' : Drawn} {ch : List Addr} (I : Inv X pins σ H s)
 (hch : ∀ b ∈ ch, (b ∈ X.ex ∨ X.s₀.heap.objs.size ≤ b) ∧ b ≠ X.env.locals ∧ (∀ x c, X.env.cells.lookup x = some c → c ≠ b) ∧ ∀ p ∈ X.pn ++ pins, p.1 ≠ b)
 (keep : ∀ b o, b ≠ X.env.locals → b ∉ X.fs → b ∉ ch → s.heap.get? b = some o → H b = none → h'.get? b = some o)
 (slot : ∀ b o, b ≠ X.env.locals → b ∈ X.fs → b ∉ ch → s.heap.get? b = some o → H b = none → ∃ sl, h'.get? b = some { o with slots := sl }) (free : ∀ b o, b ∉ ch → s.heap.get? b = some o → H b = none → H' b = none)
 (there : ∀ b o, b ∉ ch → s.heap.get? b = some o → ∃ o', h'.get? b = some o')
 (tups : ∀ b xs, H b = some (.tup xs) → H' b = some (.tup xs)) (frzs : ∀ b o u, H b = some (.frz o u) → H' b = some (.frz o u)) (tbls : ∀ b ps, H b = some (.tbl ps) → ∃ more, H' b = some (.tbl (ps ++ more)))
 (ns : ∀ m, s.heap.Ns X.env.locals m → h'.Ns X.env.locals m) (hok : HOk X.prog X.w H' h') (hg : AllBare g') :
 Inv X pins σ H' { s with heap := h', gens := g', drawn := d', toks := t' } := by
 have neL : ∀ b o, X.s₀.heap.get? b = some o → b ≠ X.env.locals := fun b o e => Nat.ne_of_lt (Nat.lt_of_lt_of_le (Heap.lt_size e) I.ok.above)
 have neC : ∀ b o, X.s₀.heap.get? b = some o → b ∉ X.ex → b ∉ ch := fun b o e hx hb => by
  rcases (hch b hb).1 with z | z
  ·exact hx z
  ·exact absurd (Nat.lt_of_lt_of_le (Heap.lt_size e) z) (Nat.lt_irrefl _)
 have cellK : ∀ x c, X.env.cells.lookup x = some c → ∀ v, s.heap.IsCell c v → h'.IsCell c v := fun x c e v ⟨o, ho, hd⟩ => by
  have nch : c ∉ ch := fun z => (hch c z).2.2.1 x c e rfl
  by_cases hc : c ∈ X.fs
  ·obtain ⟨sl, q⟩ := slot c o (I.cne x c e) hc nch ho (I.freeC x c e)
   exact ⟨_, q, hd⟩
  ·exact ⟨o, keep c o (I.cne x c e) hc nch ho (I.freeC x c e), hd⟩
 refine ⟨I.ok, I.os, hg, ⟨fun b o e n hb hx => ?_, fun b o e n hb hx => ?_, fun b o e n hx => ?_, fun b o e hx => ?_, fun b xs e => tups b xs (I.base.tups b xs e), fun b o xs e => frzs b o xs (I.base.frzs b o xs e), fun b ps e => ?_⟩, ?_, fun x c e => ?_, ?_, fun x c e => ?_, fun p hp => ?_, hok, I.len⟩
 ·exact keep b o (neL b o e) hb (neC b o e hx) (I.base.keep b o e n hb hx) (I.base.free b o e n hx)
 ·obtain ⟨sl, e1⟩ := I.base.slot b o e n hb hx
  obtain ⟨sl', e2⟩ := slot b _ (neL b o e) hb (neC b o e hx) e1 (I.base.free b o e n hx)
  exact ⟨sl', e2⟩
 ·obtain ⟨o', e1⟩ := I.base.there b o e hx
  exact free b o' (neC b o e hx) e1 (I.base.free b o e n hx)
 ·obtain ⟨o', e1⟩ := I.base.there b o e hx
  exact there b o' (neC b o e hx) e1
 ·obtain ⟨m1, e1⟩ := I.base.tbls b ps e
  obtain ⟨m2, e2⟩ := tbls b _ e1
  exact ⟨m1 ++ m2, by rw [e2, Array.append_assoc]⟩
 ·obtain ⟨m, hn, hl⟩ := I.loc
  refine ⟨m, ns m hn, fun i x v e1 e2 e3 => ?_⟩
  obtain ⟨u, r, l⟩ := hl i x v e1 e2 e3
  refine ⟨u, r, ?_⟩
  rcases l with l | ⟨k, c, e, z⟩
  ·exact .inl l
  ·exact .inr ⟨k, c, e, cellK x c e _ z⟩
 ·obtain ⟨v, z⟩ := I.cell x c e
  exact ⟨v, cellK x c e v z⟩
 ·obtain ⟨m, ⟨o, _, _, ho, _⟩, _⟩ := I.loc
  exact free _ o (fun z => (hch _ z).2.1 rfl) ho I.free
 ·obtain ⟨v, o, ho, hd⟩ := I.cell x c e
  exact free c o (fun z => (hch c z).2.2.1 x c e rfl) ho (I.freeC x c e)
 ·obtain ⟨e, n, ne, nf, d⟩ := I.pin p hp
  have nch : p.1 ∉ ch := fun z => (hch p.1 z).2.2.2 p hp rfl
  exact ⟨keep p.1 p.2 ne nf nch e n, free p.1 p.2 nch e n, ne, nf, d⟩
theorem Inv.un {t' : Nat} (I : Inv X pins σ H s) (u : Un X.fs [] H H' s.heap h') (hok : HOk X.prog X.w H' h') : Inv X pins σ H' { s with heap := h', toks := t' } := by
 obtain ⟨m, ⟨o, es, ep, ho, r⟩, _⟩ := id I.loc
 obtain ⟨sl, hL⟩ := u.any ho I.free (by simp)
 exact I.step (g' := s.gens) (d' := s.drawn) (ch := []) (fun _ z => nomatch z) (fun b o _ hb _ e n => u.keep b o e n hb (by simp)) (fun b o _ hb _ e n => u.slot b o e n hb (by simp)) (fun b o _ e n => u.free b o e n (by simp)) (fun b o _ e => u.there b o e (by simp)) u.tups u.frzs u.tbls (fun m' hm => by
  obtain ⟨o', es', ep', ho', r'⟩ := hm
  rw [ho] at ho'; cases ho'
  exact ⟨_, es', ep', hL, r'⟩) hok I.bare
theorem Inv.call {g' : Array GenState} {t' : Nat} {d' : Drawn} {ch : List Addr} (I : Inv X pins σ H s) (u : Un (frs X.stack) ch H H' s.heap h') (hok : HOk X.prog X.w H' h') (hg : AllBare g')
 (hch : ∀ b ∈ ch, (b ∈ X.ex ∨ X.s₀.heap.objs.size ≤ b) ∧ b ≠ X.env.locals ∧ (∀ x c, X.env.cells.lookup x = some c → c ≠ b) ∧ ∀ p ∈ X.pn ++ pins, p.1 ≠ b) :
 Inv X pins σ H' { s with heap := h', gens := g', drawn := d', toks := t' } := by
 obtain ⟨m, ⟨o, es, ep, ho, r⟩, _⟩ := id I.loc
 obtain ⟨sl, hL⟩ := u.any ho I.free fun z => (hch _ z).2.1 rfl
 exact I.step (ch := ch) hch (fun b o hL hb hc e n => u.keep b o e n (fun z => (List.mem_cons.mp (I.stkSub b z)).elim hL hb) hc) (fun b o _ _ hc e n => u.any e n hc) (fun b o hc e n => u.free b o e n hc) (fun b o hc e => u.there b o e hc) u.tups u.frzs u.tbls (fun m' hm => by
  obtain ⟨o', es', ep', ho', r'⟩ := hm
  rw [ho] at ho'; cases ho'
  exact ⟨_, es', ep', hL, r'⟩) hok hg
theorem Inv.turned {t' : Nat} {it : Addr} (I : Inv X pins σ H s) (k : ∀ b o, b ≠ it → s.heap.get? b = some o → h'.get? b = some o) (hn : H it = none) (hL : it ≠ X.env.locals)
 (h1 : it ∈ X.ex ∨ X.s₀.heap.objs.size ≤ it) (h2 : ∀ x c, X.env.cells.lookup x = some c → c ≠ it) (h3 : ∀ p ∈ X.pn ++ pins, p.1 ≠ it) : Inv X pins σ H { s with heap := h', toks := t' } := by
 have nit : ∀ b u, H b = some u → b ≠ it := fun b u e z => by rw [z, hn] at e; cases e
 refine I.step (g' := s.gens) (d' := s.drawn) (ch := [it]) (fun b hb => ?_) (fun b o _ _ hc e _ => k b o (fun z => hc (by simp [z])) e) (fun b o _ _ hc e _ => ⟨o.slots, k b o (fun z => hc (by simp [z])) e⟩) (fun _ _ _ _ n => n)
  (fun b o hc e => ⟨o, k b o (fun z => hc (by simp [z])) e⟩) (fun _ _ e => e) (fun _ _ _ e => e) (fun b ps e => ⟨#[], by rw [e]; simp⟩) (fun m hm => ?_) (fun b u e => ?_) I.bare
 ·have e : b = it := by simpa using hb
  subst e
  exact ⟨h1, hL, h2, h3⟩
 ·obtain ⟨o, es, ep, ho, r⟩ := hm
  exact ⟨o, es, ep, k _ o (Ne.symm hL) ho, r⟩
 ·refine (I.hok b u e).stay (fun c v hc q => k c v ?_ q) (fun _ q => q) fun _ _ q => q
  rcases hc with z | z
  ·rw [z]; exact nit b u e
  ·exact nit c _ z
theorem Inv.tok (I : Inv X pins σ H s) (t : Nat) : Inv X pins σ H { s with toks := t } := I.un (h' := s.heap) (t' := t) Un.refl I.hok
theorem Inv.kept {t' : Nat} (I : Inv X pins σ H s) (k : ∀ b u, s.heap.get? b = some u → h'.get? b = some u) : Inv X pins σ H { s with heap := h', toks := t' } := I.un (Un.kept k) (I.hok.kept k)
theorem Inv.laid {a : Addr} {o : HO} {t' : Nat} (I : Inv X pins σ H s) (k : ∀ b u, s.heap.get? b = some u → h'.get? b = some u) (hp : s.heap.objs.size ≤ a) (new : Zv X.prog X.w (upd H a o) h' a o) :
 Inv X pins σ (upd H a o) { s with heap := h', toks := t' } := I.un (Un.laid k hp (I.hok.fresh hp)) (I.hok.laid k hp new)
theorem Inv.write {x e : Addr} {o : HO} {t' : Nat} (I : Inv X pins σ H s) (mu : Mut (H x)) (he : e = x ∨ H e = some (.own x)) (k : ∀ b u, b ≠ e → s.heap.get? b = some u → h'.get? b = some u) (heo : ∃ u, h'.get? e = some u)
 (new : Zv X.prog X.w (upd H x o) h' x o) : Inv X pins σ (upd H x o) { s with heap := h', toks := t' } := I.un (Un.write mu he k heo) (I.hok.write mu he k heo new)
theorem Inv.weak {σ' : List (Option V)} (I : Inv X pins σ H s) (hl : σ'.length = σ.length) (w : ∀ (i : Nat) v, σ'[i]? = some (some v) → σ[i]? = some (some v)) : Inv X pins σ' H s :=
 ⟨I.ok, I.os, I.bare, I.base, let ⟨m, hn, hl'⟩ := I.loc; ⟨m, hn, fun i x v e1 e2 e3 => hl' i x v e1 (w i v e2) e3⟩, I.cell, I.free, I.freeC, I.pin, I.hok, hl.trans I.len⟩
theorem Inv.pins_of {pins' : List (Addr × Obj)} (I : Inv X pins σ H s) (h : ∀ p ∈ pins', s.heap.get? p.1 = some p.2 ∧ H p.1 = none ∧ p.1 ≠ X.env.locals ∧ p.1 ∉ X.fs ∧ ∀ v, p.2.data ≠ .cell v) : Inv X pins' σ H s :=
 ⟨I.ok, I.os, I.bare, I.base, I.loc, I.cell, I.free, I.freeC, fun p hp => (List.mem_append.mp hp).elim (fun z => I.pin p (List.mem_append_left _ z)) (h p), I.hok, I.len⟩
theorem zce {N : List Str} (hN : N.Nodup) {i j : Nat} {x : Str} (a : N[i]? = some x) (b : N[j]? = some x) : i = j := by
 obtain ⟨h1, e1⟩ := List.getElem?_eq_some_iff.mp a
 obtain ⟨h2, e2⟩ := List.getElem?_eq_some_iff.mp b
 exact (List.getElem_inj hN).mp (e1.trans e2.symm)
theorem zau {M : Model} {A : Around} {E : Value → Shared → Prop} {i : Nat} {x : Str} {v : V} {u : Value} {Q : Unit → Shared → Prop} (I : Inv X pins σ H s) (hN : X.N.Nodup) (hi : X.N[i]? = some x) (hx : Loc X.env.scope x) (r : ZH v u)
 (h : ∀ s', Inv X pins (σ.set i (some v)) H s' → (∃ a, Heap.SameBut a s.heap s'.heap ∧ (a = X.env.locals ∨ X.env.cells.lookup x = some a)) → Q () s') (hf : X.fn x = true ∨ X.env.scope.names.lookup x = some .local := by first | exact .inl rfl | exact .inr rfl | assumption) : wpAny M A (storeName X.env x u) Q E s := by
 obtain ⟨m, hn, hl⟩ := id I.loc
 have hcls : (X.env.scope.kind == .class || (X.env.scope.kind == .module && X.env.locals != X.env.globals)) = false := by rw [I.ok.kind]; rfl
 have hiσ : i < σ.length := by rw [I.len]; exact (List.getElem?_eq_some_iff.mp hi).1
 have cne := I.cne
 have tracked : ∀ {a : Addr} {h' : Heap}, (∃ o, s.heap.get? a = some o ∧ H a = none) → Heap.SameBut a s.heap h' → HOk X.prog X.w H h' := fun {a h'} ha hs b ob e => by
  obtain ⟨_, _, hfree⟩ := ha
  refine (I.hok b ob e).stay (fun c w' hc q => (hs.2 c ?_).trans q) (fun _ q => q) fun _ _ q => q
  rintro rfl
  rcases hc with rfl | hc
  ·rw [hfree] at e; cases e
  ·rw [hfree] at hc; cases hc
 rcases hx with hk | hk
 ·refine wpAny_storeName_local hk hn (fun h' hn' hs => ?_) hcls
  obtain ⟨oL, _, _, hoL, _⟩ := id hn
  refine h _ ⟨I.ok, I.os, I.bare, ⟨fun b o e n hb hx => ?_, fun b o e n hb hx => ?_, I.base.free, fun b o e hx => ?_, I.base.tups, I.base.frzs, I.base.tbls⟩, ⟨_, hn', fun j y v' e1 e2 e3 => ?_⟩, fun y c e => ?_, I.free, I.freeC, fun p hp => ?_, tracked ⟨oL, hoL, I.free⟩ hs, by simpa using I.len⟩ ⟨_, hs, .inl rfl⟩
  ·exact (hs.2 b (Nat.ne_of_lt (Nat.lt_of_lt_of_le (Heap.lt_size e) I.ok.above))).trans (I.base.keep b o e n hb hx)
  ·obtain ⟨sl, e1⟩ := I.base.slot b o e n hb hx
   exact ⟨sl, (hs.2 b (Nat.ne_of_lt (Nat.lt_of_lt_of_le (Heap.lt_size e) I.ok.above))).trans e1⟩
  ·obtain ⟨o', e1⟩ := I.base.there b o e hx
   exact ⟨o', (hs.2 b (Nat.ne_of_lt (Nat.lt_of_lt_of_le (Heap.lt_size e) I.ok.above))).trans e1⟩
  ·by_cases hj : j = i
   ·subst hj
    rw [hi] at e1; cases e1
    rw [List.getElem?_set_self hiσ] at e2
    cases e2
    exact ⟨u, r, .inl ⟨hk, by simp⟩⟩
   ·rw [List.getElem?_set_ne (Ne.symm hj)] at e2
    obtain ⟨u', r', q⟩ := hl j y v' e1 e2 e3
    refine ⟨u', r', ?_⟩
    rcases q with ⟨k, e⟩ | ⟨k, c, e, z⟩
    ·refine .inl ⟨k, ?_⟩
     have : y ≠ x := fun e => hj (zce hN e1 (e ▸ hi))
     simp [this, e]
    ·exact .inr ⟨k, c, e, z.sameBut hs (cne y c e)⟩
  ·obtain ⟨w', z⟩ := I.cell y c e
   exact ⟨w', z.sameBut hs (cne y c e)⟩
  ·obtain ⟨e, n, ne, nf, d⟩ := I.pin p hp
   exact ⟨(hs.2 p.1 ne).trans e, n, ne, nf, d⟩
 ·have hfn : X.fn x = true := by
   rcases hf with z | z
   ·exact z
   ·rw [z] at hk; cases hk
  obtain ⟨c, hc⟩ := I.ok.has x (.inl hk)
  obtain ⟨w', z⟩ := I.cell x c hc
  refine wpAny_storeName_cell I.ok.kind hk hc z (fun h' hc' hs => ?_)
  obtain ⟨oc, hoc, hocd⟩ := id z
  refine h { s with heap := h' } ⟨I.ok, I.os, I.bare, ⟨fun b o e n hb hx => ?_, fun b o e n hb hx => ?_, I.base.free, fun b o e hx => ?_, I.base.tups, I.base.frzs, I.base.tbls⟩, ⟨m, hn.sameBut hs (Ne.symm (cne x c hc)), fun j y v' e1 e2 e3 => ?_⟩, fun y c' e => ?_, I.free, I.freeC, fun p hp => ?_, tracked ⟨oc, hoc, I.freeC x c hc⟩ hs, by simpa using I.len⟩ ⟨c, hs, .inr hc⟩
  ·exact (hs.2 b (Nat.ne_of_lt (Nat.lt_of_lt_of_le (Heap.lt_size e) (I.ok.cab x c hfn hc)))).trans (I.base.keep b o e n hb hx)
  ·obtain ⟨sl, e1⟩ := I.base.slot b o e n hb hx
   exact ⟨sl, (hs.2 b (Nat.ne_of_lt (Nat.lt_of_lt_of_le (Heap.lt_size e) (I.ok.cab x c hfn hc)))).trans e1⟩
  ·obtain ⟨o', e1⟩ := I.base.there b o e hx
   exact ⟨o', (hs.2 b (Nat.ne_of_lt (Nat.lt_of_lt_of_le (Heap.lt_size e) (I.ok.cab x c hfn hc)))).trans e1⟩
  ·by_cases hj : j = i
   ·subst hj
    rw [hi] at e1; cases e1
    rw [List.getElem?_set_self hiσ] at e2
    cases e2
    exact ⟨u, r, .inr ⟨.inl hk, c, hc, hc'⟩⟩
   ·rw [List.getElem?_set_ne (Ne.symm hj)] at e2
    obtain ⟨u', r', q⟩ := hl j y v' e1 e2 e3
    refine ⟨u', r', ?_⟩
    rcases q with q | ⟨k, c', e, z'⟩
    ·exact .inl q
    ·refine .inr ⟨k, c', e, z'.sameBut hs ?_⟩
     rintro rfl
     exact hj (zce hN e1 (I.ok.inj _ _ _ e hc ▸ hi))
  ·by_cases hcc : c' = c
   ·subst hcc; exact ⟨_, hc'⟩
   ·obtain ⟨w2, z2⟩ := I.cell y c' e
    exact ⟨w2, z2.sameBut hs hcc⟩
  ·obtain ⟨e, n, ne, nf, d⟩ := I.pin p hp
   refine ⟨(hs.2 p.1 ?_).trans e, n, ne, nf, d⟩
   intro q
   rw [q, hoc] at e
   have q' : oc = p.2 := Option.some.inj e
   exact d w' (by rw [← q']; exact hocd)
theorem WW {M : Model} {A : Around} {E : Value → Shared → Prop} {i : Nat} {x : Str} {v : V} {u : Value} {Q : Unit → Shared → Prop} (I : Inv X pins σ H s) (hN : X.N.Nodup) (hi : X.N[i]? = some x) (hx : Loc X.env.scope x) (r : ZH v u)
 (h : ∀ s', Inv X pins (σ.set i (some v)) H s' → Q () s') (hf : X.fn x = true ∨ X.env.scope.names.lookup x = some .local := by first | exact .inl rfl | exact .inr rfl | assumption) : wpAny M A (storeName X.env x u) Q E s :=
 zau I hN hi hx r (fun s' I' _ => h s' I') hf
theorem Inv.call' {s' : Shared} {ch : List Addr} (I : Inv X pins σ H s) (ho : s'.os = s.os) (u : Un (frs X.stack) ch H H' s.heap s'.heap) (hok : HOk X.prog X.w H' s'.heap) (hg : AllBare s'.gens)
 (hch : ∀ b ∈ ch, (b ∈ X.ex ∨ X.s₀.heap.objs.size ≤ b) ∧ b ≠ X.env.locals ∧ (∀ x c, X.env.cells.lookup x = some c → c ≠ b) ∧ ∀ p ∈ X.pn ++ pins, p.1 ≠ b) : Inv X pins σ H' s' := by
 obtain ⟨h', g', d', t', o'⟩ := s'
 have e : o' = s.os := ho
 subst e
 exact I.call (g' := g') (t' := t') (d' := d') u hok hg hch
end
abbrev XK := Value → Option Addr → Hp → Prop
abbrev St := List (Option V)
abbrev VK := V → Hp → Prop
abbrev TE := St → Hp → VK → Prop
abbrev TT := St → Hp → (Bool → Hp → Prop) → Prop
abbrev TA := St → Hp → (List V → Hp → Prop) → Prop
structure Ends where
 nx : St → Hp → Prop
 rt : VK
 bk : St → Hp → Prop := fun _ _ => False
 ct : St → Hp → Prop := fun _ _ => False
abbrev TS := Ends → St → Hp → Prop
def EP (X : Cx) (pins : List (Addr × Obj)) (σ : St) (Q : VK) (u : Value) (s' : Shared) : Prop := ∃ v H', Inv X pins σ H' s' ∧ ZH v u ∧ Q v H'
def TP (X : Cx) (pins : List (Addr × Obj)) (σ : St) (Q : Bool → Hp → Prop) (b : Bool) (s' : Shared) : Prop := ∃ H', Inv X pins σ H' s' ∧ Q b H'
def AP (X : Cx) (pins : List (Addr × Obj)) (σ : St) (Q : List V → Hp → Prop) (us : List Value) (s' : Shared) : Prop := ∃ vs H', Inv X pins σ H' s' ∧ xA vs us ∧ Q vs H'
def SP (X : Cx) (pins : List (Addr × Obj)) (D : Ends) (f : Flow) (s' : Shared) : Prop :=
 match f with
 | .next => ∃ σ' H', Inv X pins σ' H' s' ∧ D.nx σ' H'
 | .brk => ∃ σ' H', Inv X pins σ' H' s' ∧ D.bk σ' H'
 | .cont => ∃ σ' H', Inv X pins σ' H' s' ∧ D.ct σ' H'
 | .ret u => ∃ v σ' H', Inv X pins σ' H' s' ∧ ZH v u ∧ D.rt v H'
def PE (X : Cx) (e : Expr) (t : TE) : Prop :=
 ∀ (pins : List (Addr × Obj)) (s : Shared) (σ : St) (H : Hp) (Q : VK), Inv X pins σ H s → t σ H Q → wpAny (model X.prog X.w) X.A (eval e X.env) (EP X pins σ Q) X.xe s
def PT (X : Cx) (e : Expr) (t : TT) : Prop :=
 ∀ (pins : List (Addr × Obj)) (s : Shared) (σ : St) (H : Hp) (Q : Bool → Hp → Prop), Inv X pins σ H s → t σ H Q → wpAny (model X.prog X.w) X.A (isTrue e X.env (eval e X.env)) (TP X pins σ Q) X.xe s
def PW (X : Cx) (e : Expr) (t : TT) : Prop :=
 ∀ (whole : Sem Value) (pins : List (Addr × Obj)) (s : Shared) (σ : St) (H : Hp) (Q : Bool → Hp → Prop), Inv X pins σ H s → t σ H Q → wpAny (model X.prog X.w) X.A (isTrue e X.env whole) (TP X pins σ Q) X.xe s
theorem PW.pt {X : Cx} {e : Expr} {t : TT} (h : PW X e t) : PT X e t := h _
def PA (X : Cx) (es : List Expr) (t : TA) : Prop :=
 ∀ (pos : Pos) (pins : List (Addr × Obj)) (s : Shared) (σ : St) (H : Hp) (Q : List V → Hp → Prop), Inv X pins σ H s → t σ H Q → wpAny (model X.prog X.w) X.A (spliced (backTo pos (starEach es X.env))) (AP X pins σ Q) X.xe s
def PS (X : Cx) (st : Stmt) (t : TS) : Prop :=
 ∀ (pins : List (Addr × Obj)) (s : Shared) (σ : St) (H : Hp) (D : Ends), Inv X pins σ H s → t D σ H → wpAny (model X.prog X.w) X.A (exec st X.env) (SP X pins D) X.xe s
def PSs (X : Cx) (st : List Stmt) (t : TS) : Prop :=
 ∀ (pins : List (Addr × Obj)) (s : Shared) (σ : St) (H : Hp) (D : Ends), Inv X pins σ H s → t D σ H → wpAny (model X.prog X.w) X.A (execs st X.env) (SP X pins D) X.xe s
theorem thn {α : Type} {t : Sem α} {Q Q' : α → Shared → Prop} {M : Model} {A : Around} {E : Value → Shared → Prop} {s : Shared} (h : wpAny M A t Q E s) (hQ : ∀ a s, Q a s → Q' a s) : wpAny M A t Q' E s := wpAny_mono h hQ fun _ _ x => x
end L2
namespace L2
open PySem PySem.Spec PyProof.Rows
section
variable {X : Cx}
theorem bin {a b : Expr} {ta tb : TE} (ha : PE X a ta) (hb : PE X b tb) {pins : List (Addr × Obj)} {s : Shared} {σ : St} {H : Hp} {R : V → V → Hp → Prop} (I : Inv X pins σ H s) (h : ta σ H fun x H1 => tb σ H1 fun y H2 => R x y H2)
 {α : Type} {Q : α → Shared → Prop} {f : Value → Value → Sem α}
 (hf : ∀ v u s2 x y H2, Inv X pins σ H2 s2 → ZH x v → ZH y u → R x y H2 → wpAny (model X.prog X.w) X.A (f v u) Q X.xe s2) :
 wpAny (model X.prog X.w) X.A (eval a X.env) (fun v s₁ => wpAny (model X.prog X.w) X.A (eval b X.env) (fun u s₂ => wpAny (model X.prog X.w) X.A (f v u) Q X.xe s₂) X.xe s₁) X.xe s := by
 refine thn (ha pins s σ H _ I h) fun v s1 ⟨x, H1, I1, r1, q1⟩ => ?_
 refine thn (hb pins s1 σ H1 _ I1 q1) fun u s2 ⟨y, H2, I2, r2, q2⟩ => ?_
 exact hf v u s2 x y H2 I2 r1 r2 q2
def tVar (i : Nat) : TE := fun σ H Q => ∃ v, σ[i]? = some (some v) ∧ Q v H
def tC (v : V) : TE := fun _ H Q => Q v H
theorem pe_var {i : Nat} {x : Str} {pos : Pos} (hN : X.N[i]? = some x) (hv : Vis X.env.scope x) (hd : (x == ("__debug__" : Str)) = false := by decide) (hcd : (x == ("__classdict__" : Str)) = false := by decide) : PE X (.Name x pos) (tVar i) := by
 intro pins s σ H Q I h
 obtain ⟨v, e, h⟩ := h
 obtain ⟨m, hn, hl⟩ := I.loc
 obtain ⟨u, r, l⟩ := hl i x v hN e hv
 have fin : EP X pins σ Q u s := ⟨v, H, I, r, h⟩
 rcases l with ⟨hk, hm⟩ | ⟨hk, c, hc, hcell⟩
 ·exact wpAny_Name (wpAny_loadName_local I.ok.kind hk hn hm fin) hd
 ·rcases hk with hk | hk
  ·exact wpAny_Name (wpAny_loadName_cell I.ok.kind hk hc hcell fin) hd
  ·exact wpAny_Name (wpAny_loadName_free I.ok.kind hk hc hcell fin hcd) hd
theorem zg {i j pos} : PE X (.Constant (.int i) j pos) (tC (.int i)) := fun _ _ _ H _ I h => wpAny_Constant_int ⟨.int i, H, I.tok _, ⟨_, rfl⟩, h⟩
theorem WQ {b j pos} : PE X (.Constant (.bool b) j pos) (tC (.bl b)) := fun _ _ _ H _ I h => Constant_bool ⟨.bl b, H, I, rfl, h⟩
theorem yh {x j pos} : PE X (.Constant (.str x) j pos) (tC (.str x)) := fun _ _ _ H _ I h => Calls.Constant_str ⟨.str x, H, I.tok _, ⟨_, rfl⟩, h⟩
def Gl (X : Cx) (x : Str) : Prop := X.env.kindOf x = some .globalImplicit
theorem VH {E : Value → Shared → Prop} {pins : List (Addr × Obj)} {s : Shared} {σ : St} {H : Hp} {x : Str} {u : Value} {pos : Pos} {Q : Value → Shared → Prop} (I : Inv X pins σ H s) (hg : Gl X x) (hm : X.mg x = some u) (h : Q u s)
 (hd : (x == ("__debug__" : Str)) = false := by decide) : wpAny (model X.prog X.w) X.A (eval (.Name x pos) X.env) Q E s :=
 Calls.Name_function_global I.ok.kind hg (Calls.loadGlobal_global (by rw [I.ok.glob]; exact I.mod.glob.keeps I.bk) hm h) hd
theorem XW {E : Value → Shared → Prop} {pins : List (Addr × Obj)} {s : Shared} {σ : St} {H : Hp} {x : Str} {u : Value} {pos : Pos} {Q : Value → Shared → Prop} (I : Inv X pins σ H s) (hg : Gl X x) (hm : X.mg x = none) (hv : bootBuiltins x = some u) (h : Q u s)
 (hn : x ≠ "__name__" := by decide) (hd : (x == ("__debug__" : Str)) = false := by decide) : wpAny (model X.prog X.w) X.A (eval (.Name x pos) X.env) Q E s := by
 obtain ⟨mb, h1, h2⟩ := I.mod.blt
 exact Calls.Name_function_global I.ok.kind hg (Calls.loadGlobal_builtin (by rw [I.ok.glob]; exact I.mod.glob.keeps I.bk) hm (by rw [I.ok.blt]; exact h1.keeps I.bk) ((h2 x hn).trans hv) h) hd
theorem zd5 {x : Str} {v : V} {u : Value} {pos : Pos} (hg : Gl X x) (hm : X.mg x = some u) (r : ZH v u) (hd : (x == ("__debug__" : Str)) = false := by decide) : PE X (.Name x pos) (tC v) :=
 fun _ _ _ H _ I h => VH I hg hm ⟨v, H, I, r, h⟩ hd
theorem UY {x : Str} {v : V} {u : Value} {pos : Pos} (hg : Gl X x) (hm : X.mg x = none) (hv : bootBuiltins x = some u) (r : ZH v u) (hn : x ≠ "__name__" := by decide) (hd : (x == ("__debug__" : Str)) = false := by decide) : PE X (.Name x pos) (tC v) :=
 fun _ _ _ H _ I h => XW I hg hm hv ⟨v, H, I, r, h⟩ hn hd
variable {a b : Expr} {ta tb : TE} {pos : Pos}
def PC (X : Cx) (op : CmpOp) (a b : Expr) (t : TE) : Prop :=
 ∀ (pins : List (Addr × Obj)) (s : Shared) (σ : St) (H : Hp) (Q : VK), Inv X pins σ H s → t σ H Q →
   wpAny (model X.prog X.w) X.A (eval a X.env) (fun v s₁ => wpAny (model X.prog X.w) X.A (eval b X.env) (fun u s₂ => wpAny (model X.prog X.w) X.A (compareOp op v u) (EP X pins σ Q) X.xe s₂) X.xe s₁) X.xe s
def tB (t : TE) : TT := fun σ H Q => t σ H fun x H1 => ∃ c, x = .bl c ∧ Q c H1
theorem pt_cmp {op : CmpOp} {t : TE} (h : PC X op a b t) (h1 : behindInMarks op b = false := by first | exact nobehind _ (by decide) (by decide) | rfl) : PT X (.Compare a [op] [b] pos) (tB t) := by
 intro pins s σ H Q I hw
 refine wpAny_isTrue_Compare1 (thn (h pins s σ H _ I hw) fun v s1 h1 => thn h1 fun u s2 h2 => thn h2 fun c s3 ⟨x, H1, I1, r1, q1⟩ => ?_) h1
 obtain ⟨d, rfl, q⟩ := q1
 cases r1
 exact wpAny_truthy_bool ⟨H1, I1, q⟩
theorem XR {e : Expr} {t : TE} (h : PE X e t) (he : ∀ whole, isTrue e X.env whole = (do let v ← whole; standAt e.pos; holding [v] (truthy v)) := by intro _; rfl) : PT X e (tB t) := by
 intro pins s σ H Q I hw
 refine isTrue_plain (thn (h pins s σ H _ I hw) fun v s1 ⟨x, H1, I1, r1, q1⟩ => ?_) (he _)
 obtain ⟨d, rfl, q⟩ := q1
 cases r1
 exact wpAny_truthy_bool ⟨H1, I1, q⟩
variable {tA tB' : TT} {rest : List Expr}
def tAnd (t u : TT) : TT := fun σ H Q => t σ H fun c H1 => if c = true then u σ H1 Q else Q false H1
def tOr (t u : TT) : TT := fun σ H Q => t σ H fun c H1 => if c = true then Q true H1 else u σ H1 Q
def tNot (t : TT) : TT := fun σ H Q => t σ H fun c H1 => Q (!c) H1
theorem zdZ (ha : PT X a tA) : PW X (.BoolOp .And [a] pos) tA := by
 intro wh pins s σ H Q I h
 refine isTrue_and (thn (ha pins s σ H Q I h) fun c s1 e => ?_)
 cases c with
 | true => exact isTrue_and_nil e
 | false => exact e
theorem Uq (ha : PT X a tA) : PW X (.BoolOp .Or [a] pos) tA := by
 intro wh pins s σ H Q I h
 refine isTrue_or (thn (ha pins s σ H Q I h) fun c s1 e => ?_)
 cases c with
 | false => exact isTrue_or_nil e
 | true => exact e
theorem zgq (ha : PT X a tA) (hb : PW X (.BoolOp .And (b :: rest) pos) tB') : PW X (.BoolOp .And (a :: b :: rest) pos) (tAnd tA tB') := by
 intro wh pins s σ H Q I h
 refine isTrue_and (thn (ha pins s σ H _ I h) fun c s1 ⟨H1, I1, q1⟩ => ?_)
 cases c with
 | true => exact hb wh pins s1 σ H1 Q I1 q1
 | false => exact ⟨H1, I1, q1⟩
theorem VV (ha : PT X a tA) (hb : PW X (.BoolOp .Or (b :: rest) pos) tB') : PW X (.BoolOp .Or (a :: b :: rest) pos) (tOr tA tB') := by
 intro wh pins s σ H Q I h
 refine isTrue_or (thn (ha pins s σ H _ I h) fun c s1 ⟨H1, I1, q1⟩ => ?_)
 cases c with
 | true => exact ⟨H1, I1, q1⟩
 | false => exact hb wh pins s1 σ H1 Q I1 q1
theorem WK (ha : PT X a tA) : PT X (.UnaryOp .Not a pos) (tNot tA) := by
 intro pins s σ H Q I h
 exact isTrue_not (ha pins s σ H (fun c H1 => Q (!c) H1) I h)
def tAndV (ta tb : TE) : TE := fun σ H Q => ta σ H fun x H1 => ∃ c, x = .bl c ∧ if c = true then tb σ H1 Q else Q (.bl false) H1
def tNotV (ta : TE) : TE := fun σ H Q => ta σ H fun x H1 => ∃ c, x = .bl c ∧ Q (.bl (!c)) H1
theorem zgr {op} {t : TE} (h : PE X a t) : PE X (.BoolOp op [a] pos) t := fun pins s σ H Q I hw => BoolOp_one (h pins s σ H Q I hw)
theorem zgt (ha : PE X a ta) (hb : PE X (.BoolOp .And (b :: rest) pos) tb) : PE X (.BoolOp .And (a :: b :: rest) pos) (tAndV ta tb) := by
 intro pins s σ H Q I h
 refine BoolOp_and (thn (ha pins s σ H _ I h) fun v s1 ⟨x, H1, I1, r1, q1⟩ => ?_)
 obtain ⟨c, rfl, q1⟩ := q1
 cases r1
 refine wpAny_truthy_bool ?_
 cases c with
 | true => exact hb pins s1 σ H1 Q I1 q1
 | false => exact ⟨.bl false, H1, I1, rfl, q1⟩
theorem pe_not (ha : PE X a ta) : PE X (.UnaryOp .Not a pos) (tNotV ta) := by
 intro pins s σ H Q I h
 refine UnaryOp_ (thn (ha pins s σ H _ I h) fun v s1 ⟨x, H1, I1, r1, q1⟩ => ?_)
 obtain ⟨c, rfl, q1⟩ := q1
 cases r1
 exact not_of (wpAny_truthy_bool ⟨.bl (!c), H1, I1, rfl, q1⟩)
end
end L2
namespace L2
open PySem PySem.Spec PyProof.Rows
def SqL (K : PySem.W.Frag) (H : Hp) (a : Addr) (xs : List V) : Prop :=
 Rd H a (.lst xs) ∨
  ∃ (o : Obj) (its : Array Value) (n : Nat), K.lookup a = some o ∧ o.cls = .type "list" ∧ o.dict = none ∧ o.data = .seq its n ∧ its.size ≤ sizeLine ∧ xA xs its.toList
def SqT (K : PySem.W.Frag) (H : Hp) (a : Addr) (xs : List V) : Prop :=
 Rd H a (.tup xs) ∨
  ∃ (o : Obj) (its : Array Value) (n : Nat), K.lookup a = some o ∧ o.cls = .type "tuple" ∧ o.data = .seq its n ∧ its.size ≤ sizeLine ∧ xA xs its.toList
def absV : Value → Option V
 | .none => some .non
 | .bool b => some (.bl b)
 | .int i _ => some (.int i)
 | .str x _ => some (.str x)
 | .bytes b _ => some (.byt b)
 | .float b _ => some (.flt b)
 | .ref a => some (.ref a)
 | .type n => some (.ty n)
 | _ => none
theorem ZH.abs {x : V} {u : Value} (r : ZH x u) : absV u = some x := by
 cases x with
 | non => cases r; rfl
 | bl _ => cases r; rfl
 | int _ => obtain ⟨t, rfl⟩ := r; rfl
 | str _ => obtain ⟨t, rfl⟩ := r; rfl
 | byt _ => obtain ⟨t, rfl⟩ := r; rfl
 | flt _ => obtain ⟨t, rfl⟩ := r; rfl
 | ref _ => cases r; rfl
 | ty _ => cases r; rfl
theorem ZH.inj {x y : V} {u : Value} (r : ZH x u) (q : ZH y u) : x = y := Option.some.inj (r.abs.symm.trans q.abs)
theorem xA.inj : ∀ {xs ys : List V} {us : List Value}, xA xs us → xA ys us → xs = ys
 | _, _, _, .nil, .nil => rfl
 | _, _, _, .cons r t, .cons r' t' => by rw [r.inj r', xA.inj t t']
section
variable {X : Cx} {pins : List (Addr × Obj)} {σ : St} {H : Hp} {s : Shared} {a : Addr} {xs ys : List V}
theorem SqL.of {K : PySem.W.Frag} (h : H a = some (.lst xs)) : SqL K H a xs := .inl (.inl h)
theorem SqT.of {K : PySem.W.Frag} (h : H a = some (.tup xs)) : SqT K H a xs := .inl (.inl h)
theorem Inv.list (I : Inv X pins σ H s) (h : SqL X.K H a xs) : ∃ its : List Value, xA xs its ∧ PlainL s.heap a its.toArray ∧ xs.length ≤ sizeLine := by
 rcases h with h | ⟨o, its, n, hk, hc, hd, hs, hz, r⟩
 ·obtain ⟨z, its, n, r, e⟩ := h.ok I.hok
  exact ⟨its, r, ⟨_, n, e, rfl, rfl, rfl⟩, z⟩
 ·refine ⟨its.toList, r, ⟨o, n, I.kIn a o hk, hc, hd, by simpa using hs⟩, ?_⟩
  have e := r.length
  simp only [Array.length_toList] at e
  omega
theorem Inv.tuple (I : Inv X pins σ H s) (h : SqT X.K H a xs) : ∃ its : List Value, xA xs its ∧ IsTup s.heap a its.toArray ∧ xs.length ≤ sizeLine := by
 rcases h with h | ⟨o, its, n, hk, hc, hs, hz, r⟩
 ·obtain ⟨z, its, r, p⟩ := h.ok I.hok
  exact ⟨its, r, p, z⟩
 ·refine ⟨its.toList, r, ⟨o, I.kIn a o hk, hc, n, by simpa using hs⟩, ?_⟩
  have e := r.length
  simp only [Array.length_toList] at e
  omega
theorem Inv.list_inj (I : Inv X pins σ H s) (h : SqL X.K H a xs) (h' : SqL X.K H a ys) : xs = ys := by
 obtain ⟨its, r, ⟨o, n, e, _, _, d⟩, _⟩ := I.list h
 obtain ⟨its', r', ⟨o', n', e', _, _, d'⟩, _⟩ := I.list h'
 rw [e] at e'; cases e'
 rw [d] at d'
 injection d' with d1 _
 have : its = its' := by simpa using congrArg Array.toList d1
 subst this
 exact r.inj r'
theorem Inv.tuple_inj (I : Inv X pins σ H s) (h : SqT X.K H a xs) (h' : SqT X.K H a ys) : xs = ys := by
 obtain ⟨its, r, ⟨o, e, _, n, d⟩, _⟩ := I.tuple h
 obtain ⟨its', r', ⟨o', e', _, n', d'⟩, _⟩ := I.tuple h'
 rw [e] at e'; cases e'
 rw [d] at d'
 injection d' with d1 _
 have : its = its' := by simpa using congrArg Array.toList d1
 subst this
 exact r.inj r'
end
abbrev Cx.wish (X : Cx) (E : Value → Shared → Prop) : Cx := { X with xe := E }
abbrev Cx.nox (X : Cx) : Cx := X.wish fun _ _ => False
theorem Cx.Ok.wish {X : Cx} (ok : X.Ok) (E : Value → Shared → Prop) : (X.wish E).Ok :=
 ⟨ok.mod, ok.kind, ok.glob, ok.blt, ok.above, ok.inj, ok.has, ok.cab, ok.hd, ok.frames, ok.stk, ok.exf, ok.bs, ok.bsz, ok.noex, ok.exfs, ok.funs, ok.frf⟩
theorem Cx.Ok.unwish {X : Cx} {E : Value → Shared → Prop} (ok : (X.wish E).Ok) : X.Ok :=
 ⟨ok.mod, ok.kind, ok.glob, ok.blt, ok.above, ok.inj, ok.has, ok.cab, ok.hd, ok.frames, ok.stk, ok.exf, ok.bs, ok.bsz, ok.noex, ok.exfs, ok.funs, ok.frf⟩
section
variable {X : Cx} {pins : List (Addr × Obj)} {σ : St} {H : Hp} {s : Shared} {E : Value → Shared → Prop}
theorem Inv.wish (I : Inv X pins σ H s) (E : Value → Shared → Prop) : Inv (X.wish E) pins σ H s := ⟨I.ok.wish E, I.os, I.bare, I.base, I.loc, I.cell, I.free, I.freeC, I.pin, I.hok, I.len⟩
theorem Inv.unwish (I : Inv (X.wish E) pins σ H s) : Inv X pins σ H s := ⟨I.ok.unwish, I.os, I.bare, I.base, I.loc, I.cell, I.free, I.freeC, I.pin, I.hok, I.len⟩
theorem SP.unwish {D : Ends} {f : Flow} {s' : Shared} (h : SP (X.wish E) pins D f s') : SP X pins D f s' := by
 cases f with
 | next => obtain ⟨σ', H', I, q⟩ := h; exact ⟨σ', H', I.unwish, q⟩
 | brk => obtain ⟨σ', H', I, q⟩ := h; exact ⟨σ', H', I.unwish, q⟩
 | cont => obtain ⟨σ', H', I, q⟩ := h; exact ⟨σ', H', I.unwish, q⟩
 | ret u => obtain ⟨v, σ', H', I, r, q⟩ := h; exact ⟨v, σ', H', I.unwish, r, q⟩
theorem PSs.nox {st : List Stmt} {t : TS} (h : PSs X.nox st t) : PSs X st t := fun pins s σ H D I hw =>
 wpAny_mono (h pins s σ H D (I.wish _) hw) (fun _ _ q => q.unwish) fun _ _ z => False.elim z
end
section
variable {X : Cx} {st : Stmt} {rest : List Stmt} {t u : TS} {e : Expr} {te : TE} {pos : Pos}
def tNext : TS := fun D σ H => D.nx σ H
def tSeq (t u : TS) : TS := fun D σ H => t { D with nx := u D } σ H
theorem zL : PSs X [] tNext := fun _ _ σ H _ I h => wpAny_execs_nil ⟨σ, H, I, h⟩
theorem zj (h1 : PS X st t) (h2 : PSs X rest u) : PSs X (st :: rest) (tSeq t u) := by
 intro pins s σ H D I h
 refine wpAny_execs_cons (thn (h1 pins s σ H { D with nx := u D } I h) fun f s1 q => ?_)
 cases f with
 | next =>
   obtain ⟨σ', H', I', q⟩ := q
   exact h2 pins s1 σ' H' D I' q
 | ret v => exact q
 | brk => exact q
 | cont => exact q
theorem zk (h1 : PS X st t) : PSs X [st] t := by
 intro pins s σ H D I h
 refine wpAny_execs_cons (thn (h1 pins s σ H D I h) fun f s1 q => ?_)
 cases f with
 | next => exact wpAny_execs_nil q
 | ret v => exact q
 | brk => exact q
 | cont => exact q
theorem Inv.quiet {pins : List (Addr × Obj)} {σ : St} {H : Hp} {s : Shared} (I : Inv X pins σ H s) : interactive X.env = false := by simp [interactive, I.ok.kind]
def tDrop (te : TE) : TS := fun D σ H => te σ H fun _ H1 => D.nx σ H1
theorem Yx (he : PE X e te) (hs : swapsWith e none pos.line X.env = pure false := by rfl) : PS X (.Expr e pos) (tDrop te) := by
 intro pins s σ H D I h
 exact wpAny_Expr_any (thn (he pins s σ H _ I h) fun v s1 ⟨x, H1, I1, r1, q1⟩ => ⟨σ, H1, I1, q1⟩) I.quiet hs
def tRet (te : TE) : TS := fun D σ H => te σ H D.rt
theorem zE (he : PE X e te) : PS X (.Return (some e) pos) (tRet te) := by
 intro pins s σ H D I h
 exact wpAny_Return_some (thn (he pins s σ H _ I h) fun v s1 ⟨x, H1, I1, r1, q1⟩ => ⟨x, σ, H1, I1, r1, q1⟩)
def tIfS (c : TT) (t u : TS) : TS := fun D σ H => c σ H fun b H1 => if b = true then t D σ H1 else u D σ H1
theorem yr {c : Expr} {a b : List Stmt} {tc : TT} (hc : PT X c tc) (ha : PSs X a t) (hb : PSs X b u) : PS X (.If c a b pos) (tIfS tc t u) := by
 intro pins s σ H D I h
 refine wpAny_If (thn (hc pins s σ H _ I h) fun d s1 ⟨H1, I1, q1⟩ => ?_)
 cases d with
 | true => exact ha pins s1 σ H1 D I1 q1
 | false => exact hb pins s1 σ H1 D I1 q1
def tNever : TS := fun _ _ _ => False
theorem Zh : PS X st tNever := fun _ _ _ _ _ _ h => h.elim
end
abbrev TG := V → St → Hp → (St → Hp → Prop) → Prop
abbrev TGs := List V → St → Hp → (St → Hp → Prop) → Prop
def PG (X : Cx) (target : Expr) (t : TG) : Prop :=
 ∀ (pins : List (Addr × Obj)) (s : Shared) (σ : St) (H : Hp) (v : V) (u : Value) (Q : St → Hp → Prop), Inv X pins σ H s → ZH v u → t v σ H Q →
   wpAny (model X.prog X.w) X.A (assign target X.env u) (fun _ s' => ∃ σ' H', Inv X pins σ' H' s' ∧ Q σ' H') X.xe s
def PGs (X : Cx) (ts : List Expr) (t : TGs) : Prop :=
 ∀ (pins : List (Addr × Obj)) (s : Shared) (σ : St) (H : Hp) (vs : List V) (us : List Value) (Q : St → Hp → Prop), Inv X pins σ H s → xA vs us → t vs σ H Q →
   wpAny (model X.prog X.w) X.A (assignInOrder ((assignEach ts X.env).map (·.2)) us) (fun _ s' => ∃ σ' H', Inv X pins σ' H' s' ∧ Q σ' H') X.xe s
section
variable {X : Cx} {pos : Pos}
def zey (i : Nat) : TG := fun v σ H Q => Q (σ.set i (some v)) H
theorem zP {i : Nat} {x : Str} (hN : X.N.Nodup) (hi : X.N[i]? = some x) (hx : Loc X.env.scope x) (hf : X.fn x = true ∨ X.env.scope.names.lookup x = some .local := by first | exact .inl rfl | exact .inr rfl | assumption) : PG X (.Name x pos) (zey i) := by
 intro pins s σ H v u Q I r h
 exact wpAny_assign_Name (WW I hN hi hx r (fun s' I' => ⟨_, H, I', h⟩) hf)
def gNil : TGs := fun vs σ H Q => vs = [] ∧ Q σ H
def gCons (t : TG) (u : TGs) : TGs := fun vs σ H Q => ∃ v r, vs = v :: r ∧ t v σ H fun σ' H' => u r σ' H' Q
theorem ZD : PGs X [] gNil := by
 intro pins s σ H vs us Q I r h
 obtain ⟨e, h⟩ := h
 subst e
 cases r
 exact assignInOrder_nil ⟨σ, H, I, h⟩
theorem ym {e : Expr} {es : List Expr} {t : TG} {u : TGs} (h1 : PG X e t) (h2 : PGs X es u)
 (hs : (assignEach (e :: es) X.env).map (·.2) = assign e X.env :: (assignEach es X.env).map (·.2) := by rfl) : PGs X (e :: es) (gCons t u) := by
 intro pins s σ H vs us Q I r h
 obtain ⟨v, vr, e1, h⟩ := h
 subst e1
 cases r with
 | cons r rr =>
   rw [hs]
   refine assignInOrder_cons (thn (h1 pins s σ H _ _ _ I r h) fun _ s1 ⟨σ1, H1, I1, q1⟩ => ?_)
   exact h2 pins s1 σ1 H1 _ _ Q I1 rr q1
def gTup (K : PySem.W.Frag) (n : Nat) (t : TGs) : TG := fun v σ H Q => ∃ a xs, v = .ref a ∧ SqT K H a xs ∧ xs.length = n ∧ t xs σ H Q
theorem Yy {es : List Expr} {k : Nat} {t : TGs} {n : Nat} (hc : X.calm = true) (h : PGs X es t)
 (hn : (assignEach es X.env).length = n := by rfl) (hst : (assignEach es X.env).findIdx? (·.1) = none := by rfl) : PG X (.Tuple es k pos) (gTup X.K n t) := by
 intro pins s σ H v u Q I r hw
 obtain ⟨a, xs, e1, hq, hl, hw⟩ := hw
 subst e1
 cases r
 obtain ⟨its, rv, ht, hz⟩ := I.tuple hq
 refine assign_Tuple_tuple (I.ok.hd hc) ht (by simp [hn, ← hl, rv.length]) hst fun h' hx => ?_
 have I1 : Inv X pins σ H { s with heap := h' } := I.kept (t' := s.toks) fun b o e => hx b o (Nat.ne_of_lt (Heap.lt_size e)) e
 exact h pins _ σ H xs _ Q I1 (by simpa using rv) hw
def tAsg (te : TE) (g : TG) : TS := fun D σ H => te σ H fun x H1 => g x σ H1 D.nx
theorem ps_asg {tg e : Expr} {te : TE} {g : TG} (he : PE X e te) (hg : PG X tg g) (hs : swapsWithSole [tg] e pos.line X.env = pure false := by rfl) (hw : swappedStores [tg] e X.env = pure none := by rfl)
 (h1 : (assignEach [tg] X.env).map (·.2) = [assign tg X.env] := by rfl) : PS X (.Assign [tg] e pos) (tAsg te g) := by
 intro pins s σ H D I h
 refine wpAny_Assign_stores (thn (he pins s σ H _ I h) fun v s1 ⟨x, H1, I1, r1, q1⟩ => ?_) hs hw
 rw [h1]
 exact thn (hg pins s1 σ H1 x v _ I1 r1 q1) fun _ s2 q => q
theorem zV {i : Nat} {x : Str} {e : Expr} {te : TE} {pos' : Pos} (hN : X.N.Nodup) (hi : X.N[i]? = some x) (hx : Loc X.env.scope x) (he : PE X e te) (hs : swapsWith e (some (.Name x pos')) pos.line X.env = pure false := by rfl) (hf : X.fn x = true ∨ X.env.scope.names.lookup x = some .local := by first | exact .inl rfl | exact .inr rfl | assumption) :
 PS X (.Assign [.Name x pos'] e pos) (tAsg te (zey i)) := by
 intro pins s σ H D I h
 refine wpAny_Assign_Name (thn (he pins s σ H _ I h) fun v s1 ⟨y, H1, I1, r1, q1⟩ => ?_) hs
 exact WW I1 hN hi hx r1 (fun s2 I2 => ⟨_, H1, I2, q1⟩) hf
def tPar (i j : Nat) (ta : TA) : TS := fun D σ H => ta σ H fun vs H1 => ∃ v w, vs = [v, w] ∧ D.nx ((σ.set i (some v)).set j (some w)) H1
theorem ps_par {i j : Nat} {x y : Str} {a b : Expr} {ta : TA} {px py pt : Pos} {kt k2 pt2} (hc : X.calm = true) (hN : X.N.Nodup) (hi : X.N[i]? = some x) (hj : X.N[j]? = some y) (hij : i ≠ j)
 (hx : X.env.scope.names.lookup x = some .local) (hy : X.env.scope.names.lookup y = some .local) (ha : PA X [a, b] ta)
 (hw : swappedStores [.Tuple [.Name x px, .Name y py] kt pt] (.Tuple [a, b] k2 pt2) X.env = pure (some [x, y]))
 (hs : swapsWithSole [.Tuple [.Name x px, .Name y py] kt pt] (.Tuple [a, b] k2 pt2) pos.line X.env = pure false := by rfl) :
 PS X (.Assign [.Tuple [.Name x px, .Name y py] kt pt] (.Tuple [a, b] k2 pt2) pos) (tPar i j ta) := by
 intro pins s σ H D I h
 rw [exec_Assign_arm]
 refine wpAny_bind (wpAny_standAt ?_)
 rw [hs]
 refine wpAny_bind (wpAny_pure ?_)
 rw [if_neg (by decide)]
 refine wpAny_bind (Tuple_ (thn (ha _ pins s σ H _ I h) fun us s1 ⟨vs, H1, I1, r1, q1⟩ => ?_))
 obtain ⟨v, w, e1, q1⟩ := q1
 subst e1
 obtain ⟨u1, u2, rfl, rv, rw'⟩ : ∃ u1 u2, us = [u1, u2] ∧ ZH v u1 ∧ ZH w u2 := by
  cases r1 with
  | cons p q =>
    cases q with
    | cons p' q' =>
      cases q'
      exact ⟨_, _, rfl, p, p'⟩
 refine wpAny_newObj_type ?_ (by show 2 ≤ sizeLine; decide)
 have I2 : Inv X pins σ H1 { s1 with heap := s1.heap.push { cls := .type "tuple", data := .seq [u1, u2].toArray } } := I1.kept (t' := s1.toks) fun b o e => Heap.get?_push_of_some _ e
 rw [hw]
 refine wpAny_bind (wpAny_pure ?_)
 show wpAny (model X.prog X.w) X.A (do rule "assign.swapped-stores"; let items ← unpackItems (.ref s1.heap.objs.size) 2 none; assignInOrder [fun v => bindName X.env y v, fun v => bindName X.env x v] items.reverse; pure Flow.next) _ _ _
 refine wpAny_bind (wpAny_rule (wpAny_bind (unpackItems_tuple (items := #[u1, u2]) (I.ok.hd hc) (IsTup.new s1.heap _) fun h' hx' => ?_)))
 have I3 := I2.kept (h' := h') (t' := s1.toks) fun b o e => hx' b o (Nat.ne_of_lt (Heap.lt_size e)) e
 show wpAny _ _ (assignInOrder [fun v => bindName X.env y v, fun v => bindName X.env x v] [u2, u1] >>= fun _ => pure Flow.next) _ _ _
 refine wpAny_bind (assignInOrder_cons (wpAny_bindName (WW I3 hN hj (.inl hy) rw' (fun s2 I4 => ?_) (.inr hy))))
 refine assignInOrder_cons (wpAny_bindName (WW I4 hN hi (.inl hx) rv (fun s3 I5 => assignInOrder_nil (wpAny_pure ?_)) (.inr hx)))
 rw [List.set_comm _ _ (Ne.symm hij)] at I5
 exact ⟨_, H1, I5, q1⟩
end
section
variable {X : Cx} {pos : Pos}
def zge (c : TT) (tb : TS) : TS := fun D σ H => ∃ W : Nat → St → Hp → Prop, (∃ m, W m σ H) ∧ ∀ m σ H, W m σ H →
 c σ H fun b H1 => if b = true then ∃ N : St → Hp → Prop, (∀ σ' H', N σ' H' → ∃ m', m' < m ∧ W m' σ' H') ∧ tb { D with nx := N, ct := N, bk := D.nx } σ H1 else D.nx σ H1
theorem UV {c : Expr} {body : List Stmt} {tc : TT} {tb : TS} (hp : PassesOwn (model X.prog X.w) X.A X.env X.xe) (hc : PT X c tc) (hb : PSs X body tb) : PS X (.While c body [] pos) (zge tc tb) := by
 intro pins s σ H D I h
 obtain ⟨W, ⟨m0, w0⟩, turn⟩ := h
 refine wpAny_While (codeAny_whileLoop (fun n s' => ∃ σ' H', Inv X pins σ' H' s' ∧ W n σ' H') ?_ m0 ⟨σ, H, I, w0⟩)
 rintro n s1 ⟨σ1, H1, I1, w1⟩
 refine wpAny_passesOwn hp (thn (hc pins s1 σ1 H1 _ I1 (turn n σ1 H1 w1)) fun b s2 ⟨H2, I2, q2⟩ => ?_)
 cases b with
 | true =>
   obtain ⟨N, hN, q2⟩ := q2
   rw [if_pos rfl]
   refine wpAny_passesOwn hp (thn (hb pins s2 σ1 H2 _ I2 q2) fun f s3 q3 => ?_)
   cases f with
   | next =>
     obtain ⟨σ3, H3, I3, n3⟩ := q3
     obtain ⟨m', hm, w3⟩ := hN σ3 H3 n3
     exact ⟨m', hm, σ3, H3, I3, w3⟩
   | cont =>
     obtain ⟨σ3, H3, I3, n3⟩ := q3
     obtain ⟨m', hm, w3⟩ := hN σ3 H3 n3
     exact ⟨m', hm, σ3, H3, I3, w3⟩
   | brk => exact q3
   | ret v => exact q3
 | false =>
   rw [if_neg Bool.false_ne_true]
   exact wpAny_execs_nil ⟨σ1, H2, I2, q2⟩
end
structure It where
 go : Nat → Hp → Prop
 yld : Nat → Hp → V → Hp → Prop
 stop : Nat → Hp → Prop
def zbQ (X : Cx) (pins : List (Addr × Obj)) (H : Hp) (b : Addr) : Prop :=
 H b = none ∧ b ≠ X.env.locals ∧ b ∉ X.fs ∧ (b ∈ X.ex ∨ X.s₀.heap.objs.size ≤ b) ∧ (∀ x c, X.env.cells.lookup x = some c → c ≠ b) ∧ ∀ p ∈ X.pn ++ pins, p.1 ≠ b
theorem Inv.fpOk {X : Cx} {pins : List (Addr × Obj)} {σ : St} {H H' : Hp} {s : Shared} {b : Addr} (I : Inv X pins σ H s) (hb : s.heap.objs.size ≤ b) (hn : H' b = none) : zbQ X pins H' b := by
 refine ⟨hn, Nat.ne_of_gt (Nat.lt_of_lt_of_le I.lt hb), I.nofs hb, .inr (Nat.le_trans I.sz hb), fun x c e z => ?_, fun p hp z => ?_⟩
 ·obtain ⟨v, q⟩ := I.cell x c e
  exact absurd (Nat.lt_of_lt_of_le q.lt (by rw [z]; exact hb)) (Nat.lt_irrefl _)
 ·exact absurd (Nat.lt_of_lt_of_le (Heap.lt_size (I.pin p hp).1) (by rw [z]; exact hb)) (Nat.lt_irrefl _)
structure Turn (P : Program) (w : World) (K : PySem.W.Frag) (tg : Expr) (J : It) (fp : List Addr) (it : Addr) (tn : Nat → Heap → Prop) : Prop where
 mem : it ∈ fp
 obj : ∀ i h, tn i h → ∀ b ∈ fp, ∃ o, h.get? b = some o ∧ ∀ v, o.data ≠ .cell v
 keep : ∀ i h h', tn i h → (∀ b ∈ fp, ∀ o, h.get? b = some o → h'.get? b = some o) → tn i h'
 item : ∀ (X : Cx), X.prog = P → X.w = w → X.K = K → X.calm = true → ∀ (i : Nat) (pins : List (Addr × Obj)) (s : Shared) (σ : St) (H : Hp) (E : Value → Shared → Prop), Inv X pins σ H s → (∀ b ∈ fp, zbQ X pins H b) → tn i s.heap → J.go i H →
  wpAny (model P w) X.A (pyNext (.ref it)) (fun r s1 => ∃ u, r = some u ∧
   wpAny (model P w) X.A (letOwnedTupleGo tg (.ref it) u) (fun _ s2 => ∃ x H', Inv X pins σ H' s2 ∧ ZH x u ∧ J.yld i H x H' ∧ tn (i + 1) s2.heap ∧ ∀ b ∈ fp, H' b = none) E s1) E s
 done : ∀ (X : Cx), X.prog = P → X.w = w → X.K = K → X.calm = true → ∀ (i : Nat) (pins : List (Addr × Obj)) (s : Shared) (σ : St) (H : Hp) (E : Value → Shared → Prop), Inv X pins σ H s → (∀ b ∈ fp, zbQ X pins H b) → tn i s.heap → J.stop i H →
  wpAny (model P w) X.A (pyNext (.ref it)) (fun r s1 => r = none ∧ Inv X pins σ H s1) E s
 self : ∀ (A : Around) (i : Nat) (s : Shared) (Q : Value → Shared → Prop) (E : Value → Shared → Prop), tn i s.heap → Q (.ref it) s → wpAny (model P w) A (pyIter (.ref it)) Q E s
abbrev TI := St → Hp → (It → Hp → Prop) → Prop
def PIE (X : Cx) (pins : List (Addr × Obj)) (σ : St) (tg : Expr) (R : It → Hp → Prop) (itv : Value) (s2 : Shared) : Prop :=
 ∃ (it : Addr) (fp : List Addr) (tn : Nat → Heap → Prop) (J : It) (H' : Hp), itv = .ref it ∧ Inv X pins σ H' s2 ∧ Turn X.prog X.w X.K tg J fp it tn ∧ tn 0 s2.heap ∧ (∀ b ∈ fp, zbQ X pins H' b) ∧ R J H'
def PI (X : Cx) (tg iter : Expr) (wi : TI) : Prop :=
 ∀ (pins : List (Addr × Obj)) (s : Shared) (σ : St) (H : Hp) (R : It → Hp → Prop), Inv X pins σ H s → wi σ H R →
   wpAny (model X.prog X.w) X.A (eval iter X.env) (fun v s1 => wpAny (model X.prog X.w) X.A (pyIter v) (PIE X pins σ tg R) X.xe s1) X.xe s
theorem zf0 {M : Model} {A : Around} {E : Value → Shared → Prop} {s : Shared} {tg : Expr} {it : Addr} {u : Value} {o : Obj} {n : String} {vs : Array Value} {Q : Unit → Shared → Prop} (ho : s.heap.get? it = some o) (hc : o.cls = .type n) (hd : o.data = .fields vs)
 (hn : ["enumerate", "zip", "dict_itemiterator", "dict_reverseitemiterator", "odict_iterator", "itertools.zip_longest", "itertools.pairwise"].contains n = false) (hQ : Q () s) : wpAny M A (letOwnedTupleGo tg (.ref it) u) Q E s := by
 unfold letOwnedTupleGo
 cases tg <;> first
  | exact wpAny_pure hQ
  | (cases u <;> first
   | exact wpAny_pure hQ
   | (refine wpAny_bind (wpAny_load ho ?_)
      rw [hc, hd]
      show wpAny M A (if (["enumerate", "zip", "dict_itemiterator", "dict_reverseitemiterator", "odict_iterator", "itertools.zip_longest", "itertools.pairwise"].contains n && vs[0]? == some (rawInt _)) = true then _ else _) Q E s
      rw [if_neg (by intro h; rw [hn, Bool.false_and] at h; cases h)]
      exact wpAny_pure hQ))
def Itl (K : PySem.W.Frag) (a : Addr) : It :=
 ⟨fun i H => ∃ xs x, SqL K H a xs ∧ xs[i]? = some x, fun i H x H' => H' = H ∧ ∀ xs, SqL K H a xs → xs[i]? = some x, fun i H => ∃ xs, SqL K H a xs ∧ xs.length ≤ i⟩
def Itt (K : PySem.W.Frag) (a : Addr) : It :=
 ⟨fun i H => ∃ xs x, SqT K H a xs ∧ xs[i]? = some x, fun i H x H' => H' = H ∧ ∀ xs, SqT K H a xs → xs[i]? = some x, fun i H => ∃ xs, SqT K H a xs ∧ xs.length ≤ i⟩
def Itr (lo : Int) (n : Nat) : It := ⟨fun i _ => i < n, fun i H x H' => H' = H ∧ x = .int (lo + i), fun i _ => n ≤ i⟩
theorem zdj {P : Program} {w : World} {K : PySem.W.Frag} {tg : Expr} (a it : Addr) : Turn P w K tg (Itl K a) [it] it (fun i h => h.IsListIter it a i) where
 mem := by simp
 obj := fun i h st b hb => by
  have e : b = it := by simpa using hb
  subst e
  obtain ⟨o, e, c, d⟩ := st
  exact ⟨o, e, fun v z => by rw [d] at z; cases z⟩
 keep := fun i h h' st k => st.at fun o e => k it (by simp) o e
 item := by
  intro X hP hw hK hc i pins s σ H E I hf st hg
  subst hP hw hK
  obtain ⟨xs, x, hq, hx⟩ := hg
  obtain ⟨its, rv, p, hz⟩ := I.list hq
  obtain ⟨u, hu, ru⟩ := rv.get hx
  obtain ⟨f0, f1, f2, f3, f4, f5⟩ := hf it (by simp)
  refine wpAny_pyNext_list_item st p.isList (x := u) (by simpa using hu) fun h' st' sb => ?_
  have I1 : Inv X pins σ H { s with heap := h' } := I.turned (t' := s.toks) (fun b o hb e => (sb.2 b hb).trans e) f0 f1 f3 f4 f5
  obtain ⟨o, e, c, d⟩ := id st'
  exact ⟨u, rfl, zf0 (s := { s with heap := h' }) e c d (by decide) ⟨x, H, I1, ru, ⟨rfl, fun ys hy => by rw [I.list_inj hy hq]; exact hx⟩, st', fun b hb => (hf b hb).1⟩⟩
 done := by
  intro X hP hw hK hc i pins s σ H E I hf st hg
  subst hP hw hK
  obtain ⟨xs, hq, hx⟩ := hg
  obtain ⟨its, rv, p, hz⟩ := I.list hq
  obtain ⟨f0, f1, f2, f3, f4, f5⟩ := hf it (by simp)
  have hl := rv.length
  exact wpAny_pyNext_list_end (I.ok.hd hc) st p.isList (by simp; omega) fun h' eb => ⟨rfl, I.turned (t' := s.toks) (fun b o hb e => eb b o hb e) f0 f1 f3 f4 f5⟩
 self := fun _ _ _ _ _ st h => wpAny_pyIter_listiter st h
theorem zcx {P : Program} {w : World} {K : PySem.W.Frag} {tg : Expr} (a it : Addr) : Turn P w K tg (Itt K a) [it] it (fun i h => h.IsTupleIter it a i) where
 mem := by simp
 obj := fun i h st b hb => by
  have e : b = it := by simpa using hb
  subst e
  obtain ⟨o, e, c, d⟩ := st
  exact ⟨o, e, fun v z => by rw [d] at z; cases z⟩
 keep := fun i h h' st k => st.at fun o e => k it (by simp) o e
 item := by
  intro X hP hw hK hc i pins s σ H E I hf st hg
  subst hP hw hK
  obtain ⟨xs, x, hq, hx⟩ := hg
  obtain ⟨its, rv, p, hz⟩ := I.tuple hq
  obtain ⟨u, hu, ru⟩ := rv.get hx
  obtain ⟨f0, f1, f2, f3, f4, f5⟩ := hf it (by simp)
  refine wpAny_pyNext_tuple_item st (show s.heap.IsTuple a its.toArray from p) (x := u) (by simpa using hu) fun h' st' sb => ?_
  have I1 : Inv X pins σ H { s with heap := h' } := I.turned (t' := s.toks) (fun b o hb e => (sb.2 b hb).trans e) f0 f1 f3 f4 f5
  obtain ⟨o, e, c, d⟩ := id st'
  exact ⟨u, rfl, zf0 (s := { s with heap := h' }) e c d (by decide) ⟨x, H, I1, ru, ⟨rfl, fun ys hy => by rw [I.tuple_inj hy hq]; exact hx⟩, st', fun b hb => (hf b hb).1⟩⟩
 done := by
  intro X hP hw hK hc i pins s σ H E I hf st hg
  subst hP hw hK
  obtain ⟨xs, hq, hx⟩ := hg
  obtain ⟨its, rv, p, hz⟩ := I.tuple hq
  obtain ⟨f0, f1, f2, f3, f4, f5⟩ := hf it (by simp)
  have hl := rv.length
  exact wpAny_pyNext_tuple_end (I.ok.hd hc) st (show s.heap.IsTuple a its.toArray from p) (by simp; omega) fun h' eb => ⟨rfl, I.turned (t' := s.toks) (fun b o hb e => eb b o hb e) f0 f1 f3 f4 f5⟩
 self := fun _ _ _ _ _ st h => wpAny_pyIter_tupleiter st h
theorem zcy {P : Program} {w : World} {K : PySem.W.Frag} {tg : Expr} (it : Addr) (lo : Int) (n : Nat) : Turn P w K tg (Itr lo n) [it] it (fun i h => IsRangeIter h it (lo + (i : Nat) * 1) ((n : Int) - (i : Nat)) 1) where
 mem := by simp
 obj := fun i h st b hb => by
  have e : b = it := by simpa using hb
  subst e
  exact ⟨_, st, fun v z => by
   have z' : Data.fields _ = Data.cell v := z
   cases z'⟩
 keep := fun i h h' st k => k it (by simp) _ st
 item := by
  intro X hP hw hK hc i pins s σ H E I hf st hg
  subst hP hw hK
  obtain ⟨f0, f1, f2, f3, f4, f5⟩ := hf it (by simp)
  have W := Walks.range (prog := X.prog) (w := X.w) (I.ok.hd hc) it lo 1 n
  refine W.item i s _ _ hg st fun v h' tk hv st' kk => ?_
  obtain ⟨t, rfl⟩ := hv
  have I1 : Inv X pins σ H { s with heap := h', toks := tk } := I.turned (fun b o hb e => kk b o (by simpa using hb) e) f0 f1 f3 f4 f5
  refine ⟨_, rfl, zf0 (s := { s with heap := h', toks := tk }) (n := "range_iterator") st' rfl rfl (by decide) ⟨.int (lo + i), H, I1, ⟨t, ?_⟩, ⟨rfl, rfl⟩, st', fun b hb => (hf b hb).1⟩⟩
  rw [Int.mul_one]
 done := by
  intro X hP hw hK hc i pins s σ H E I hf st hg
  subst hP hw hK
  obtain ⟨f0, f1, f2, f3, f4, f5⟩ := hf it (by simp)
  exact wpAny_pyNext_range_end (I.ok.hd hc) st (by have : n ≤ i := hg; omega) fun h' eb => ⟨rfl, I.turned (t' := s.toks) (fun b o hb e => eb b o hb e) f0 f1 f3 f4 f5⟩
 self := fun _ _ _ _ _ st h => wpAny_pyIter_rangeiter st h
end L2
namespace L2
open PySem PySem.Spec PyProof.Rows
section
variable {X : Cx} {tg : Expr}
def iList (K : PySem.W.Frag) (tl : TE) : TI := fun σ H R => tl σ H fun x H1 => ∃ a, x = .ref a ∧ (∃ xs, SqL K H1 a xs) ∧ R (Itl K a) H1
def iTup (K : PySem.W.Frag) (tl : TE) : TI := fun σ H R => tl σ H fun x H1 => ∃ a, x = .ref a ∧ (∃ xs, SqT K H1 a xs) ∧ R (Itt K a) H1
theorem yY {l : Expr} {tl : TE} (hl : PE X l tl) : PI X tg l (iList X.K tl) := by
 intro pins s σ H R I h
 refine thn (hl pins s σ H _ I h) fun v s1 ⟨x, H1, I1, r1, q1⟩ => ?_
 obtain ⟨a, e, ⟨xs, hq⟩, q⟩ := q1
 subst e
 cases r1
 obtain ⟨its, rv, p, hz⟩ := I1.list hq
 refine wpAny_pyIter_list p.isList ?_
 refine ⟨s1.heap.objs.size, [s1.heap.objs.size], _, _, H1, rfl, I1.kept (t' := s1.toks) fun b o e => Heap.get?_push_of_some _ e, zdj a _, ⟨_, Heap.get?_push_size _ rfl, rfl, rfl⟩, fun b hb => ?_, q⟩
 have e : b = s1.heap.objs.size := by simpa using hb
 subst e
 exact I1.fpOk (Nat.le_refl _) (I1.hok.fresh (Nat.le_refl _))
theorem zd1 {l : Expr} {tl : TE} (hl : PE X l tl) : PI X tg l (iTup X.K tl) := by
 intro pins s σ H R I h
 refine thn (hl pins s σ H _ I h) fun v s1 ⟨x, H1, I1, r1, q1⟩ => ?_
 obtain ⟨a, e, ⟨xs, hq⟩, q⟩ := q1
 subst e
 cases r1
 obtain ⟨its, rv, p, hz⟩ := I1.tuple hq
 refine wpAny_pyIter_tuple (show s1.heap.IsTuple a its.toArray from p) ?_
 refine ⟨s1.heap.objs.size, [s1.heap.objs.size], _, _, H1, rfl, I1.kept (t' := s1.toks) fun b o e => Heap.get?_push_of_some _ e, zcx a _, ⟨_, Heap.get?_push_size _ rfl, rfl, rfl⟩, fun b hb => ?_, q⟩
 have e : b = s1.heap.objs.size := by simpa using hb
 subst e
 exact I1.fpOk (Nat.le_refl _) (I1.hok.fresh (Nat.le_refl _))
theorem zfv {pins : List (Addr × Obj)} {σ : St} {H : Hp} {s : Shared} {R : It → Hp → Prop} {E : Value → Shared → Prop} {lo hi : Int} {t u v : Tok} {tk : Nat} (I : Inv X pins σ H s) (h1 : -(2 ^ 62) ≤ lo) (h2 : lo < 2 ^ 62) (h3 : -(2 ^ 62) ≤ hi) (h4 : hi < 2 ^ 62)
 (q : R (Itr lo (hi - lo).toNat) H) : wpAny (model X.prog X.w) X.A (pyIter (.ref s.heap.objs.size)) (PIE X pins σ tg R) E { s with heap := s.heap.push { cls := .type "range", data := .fields #[.int lo t, .int hi u, .int 1 v] }, toks := tk } := by
 refine wpAny_pyIter_range (IsRange.new ..) (small_one h1 h2 h3 h4) ?_
 have I1 : Inv X pins σ H { s with heap := s.heap.push { cls := .type "range", data := .fields #[.int lo t, .int hi u, .int 1 v] }, toks := tk } := I.kept fun b o e => Heap.get?_push_of_some _ e
 refine ⟨(s.heap.push { cls := .type "range", data := .fields #[.int lo t, .int hi u, .int 1 v] }).objs.size, [(s.heap.push { cls := .type "range", data := .fields #[.int lo t, .int hi u, .int 1 v] }).objs.size], _, _, H, rfl,
  I1.kept (t' := tk) fun b o e => Heap.get?_push_of_some _ e, zcy _ lo (hi - lo).toNat, ?_, fun b hb => ?_, q⟩
 ·have e1 : lo + ((0 : Nat) : Int) * 1 = lo := by simp
  have e2 : (((hi - lo).toNat : Nat) : Int) - ((0 : Nat) : Int) = Builtin.Range.rangeSize lo hi 1 := by rw [rangeSize_one]; split <;> omega
  show IsRangeIter _ _ (lo + ((0 : Nat) : Int) * 1) ((((hi - lo).toNat : Nat) : Int) - ((0 : Nat) : Int)) 1
  rw [e1, e2]
  exact Heap.get?_push_size _ rfl
 ·have e : b = (s.heap.push { cls := .type "range", data := .fields #[.int lo t, .int hi u, .int 1 v] }).objs.size := by simpa using hb
  subst e
  exact I1.fpOk (Nat.le_refl _) (I1.hok.fresh (Nat.le_refl _))
def iRng1 (ta : TA) : TI := fun σ H R => ta σ H fun vs H1 => ∃ j : Int, vs = [.int j] ∧ -(2 ^ 62) ≤ j ∧ j < 2 ^ 62 ∧ R (Itr 0 j.toNat) H1
theorem zd2 {a : Expr} {ta : TA} {p pos : Pos} (hg : Gl X "range") (hm : X.mg "range" = none) (ha : PA X [a] ta) (hs : starEach [a] X.env = [(false, eval a X.env)] := by rfl) : PI X tg (.Call (.Name "range" p) [a] [] pos) (iRng1 ta) := by
 intro pins s σ H R I h
 refine Call_ (XW I hg hm boot_range (PyProof.Rows.callWith_type1 (thn (ha pos pins s σ H _ I h) fun us s1 ⟨vs, H1, I1, r1, q1⟩ => ?_) hs rfl))
 obtain ⟨j, e, q1, q2, q⟩ := q1
 subst e
 cases r1 with
 | cons r rr =>
   cases rr
   obtain ⟨t, rfl⟩ := r
   exact call_range_1 (zfv I1 (by omega) (by omega) q1 q2 (by simpa using q))
def tFor (wi : TI) (g : TG) (tb : TS) : TS := fun D σ H => wi σ H fun J H1 => ∃ W : Nat → Nat → St → Hp → Prop, (∃ m, W 0 m σ H1) ∧ ∀ i m σ H, W i m σ H →
 (J.stop i H ∧ D.nx σ H) ∨ (J.go i H ∧ ∃ N : St → Hp → Prop, (∀ σ' H', N σ' H' → ∃ m', m' < m ∧ W (i + 1) m' σ' H') ∧ ∀ x H', J.yld i H x H' → g x σ H' fun σ2 H2 => tb { D with nx := N, ct := N, bk := D.nx } σ2 H2)
def Ur (fp : List Addr) (h : Heap) : List (Addr × Obj) := fp.filterMap fun b => (h.get? b).map fun o => (b, o)
theorem ZA {fp : List Addr} {h : Heap} {b : Addr} {o : Obj} (hb : b ∈ fp) (e : h.get? b = some o) : (b, o) ∈ Ur fp h := List.mem_filterMap.mpr ⟨b, hb, by rw [e]; rfl⟩
theorem zel {fp : List Addr} {h : Heap} {p : Addr × Obj} (hp : p ∈ Ur fp h) : p.1 ∈ fp ∧ h.get? p.1 = some p.2 := by
 obtain ⟨b, hb, e⟩ := List.mem_filterMap.mp hp
 cases q : h.get? b with
 | none => rw [q] at e; cases e
 | some o =>
   rw [q] at e
   have e' : (b, o) = p := Option.some.inj e
   subst e'
   exact ⟨hb, q⟩
theorem Inv.pinned {pins : List (Addr × Obj)} {σ : St} {H : Hp} {s : Shared} {fp : List Addr} (I : Inv X pins σ H s) (hf : ∀ b ∈ fp, zbQ X pins H b) (ho : ∀ b ∈ fp, ∃ o, s.heap.get? b = some o ∧ ∀ v, o.data ≠ .cell v) : Inv X (pins ++ Ur fp s.heap) σ H s :=
 I.pins_of fun p hp => (List.mem_append.mp hp).elim (fun z => I.pin p (List.mem_append_right _ z)) fun z => by
  obtain ⟨hb, e⟩ := zel z
  obtain ⟨f0, f1, f2, _⟩ := hf p.1 hb
  obtain ⟨o, e', d⟩ := ho p.1 hb
  rw [e] at e'; cases e'
  exact ⟨e, f0, f1, f2, d⟩
theorem Inv.unpinned {pins pl : List (Addr × Obj)} {σ : St} {H : Hp} {s : Shared} (I : Inv X (pins ++ pl) σ H s) : Inv X pins σ H s := I.pins_of fun p hp => I.pin p (List.mem_append_right _ (List.mem_append_left _ hp))
theorem Vx {iter : Expr} {body : List Stmt} {wi : TI} {g : TG} {tb : TS} {pos : Pos} (hp : PassesOwn (model X.prog X.w) X.A X.env X.xe) (hc : X.calm = true) (hi : PI X tg iter wi) (hg : PG X tg g) (hb : PSs X body tb)
 (hs : ∀ x, foldedSetIterable iter X.env x = pure x := by intro _; rfl) : PS X (.For tg iter body [] pos) (tFor wi g tb) := by
 intro pins s σ H D I h
 refine wpAny_For (thn (hi pins s σ H _ I h) fun v s1 h1 => thn h1 fun itv s2 h2 => ?_) hs
 obtain ⟨it, fp, tn, J, H2, e, I2, T, st2, f2, W, ⟨m0, w0⟩, turn⟩ := h2
 subst e
 have stat : ∀ {H' : Hp}, (∀ b ∈ fp, H' b = none) → ∀ b ∈ fp, zbQ X pins H' b := fun hn b hb => ⟨hn b hb, (f2 b hb).2⟩
 refine codeAny_forLoop_any (fun n s' => ∃ i σ' H', Inv X pins σ' H' s' ∧ tn i s'.heap ∧ (∀ b ∈ fp, H' b = none) ∧ W i n σ' H') ?_ m0 ⟨0, σ, H2, I2, st2, fun b hb => (f2 b hb).1, w0⟩
 rintro n s3 ⟨i, σ3, H3, I3, st3, fr3, w3⟩
 rcases turn i n σ3 H3 w3 with ⟨stop, qn⟩ | ⟨go, N, hN, step⟩
 ·refine wpAny_passesOwn hp (thn (T.done X rfl rfl rfl hc i pins s3 σ3 H3 X.xe I3 (stat fr3) st3 stop) fun r s4 ⟨hr, I4⟩ => ?_)
  subst hr
  exact wpAny_execs_nil ⟨σ3, H3, I4, qn⟩
 ·refine wpAny_passesOwn hp (thn (T.item X rfl rfl rfl hc i pins s3 σ3 H3 X.xe I3 (stat fr3) st3 go) fun r s4 ⟨u, hr, h4⟩ => ?_)
  subst hr
  refine wpAny_passesOwn hp (thn h4 fun _ s5 ⟨x, H5, I5, r5, y5, st5, fr5⟩ => ?_)
  have I5' := I5.pinned (stat fr5) (T.obj _ _ st5)
  refine wpAny_passesOwn hp (thn (hg _ s5 σ3 H5 x u _ I5' r5 (step x H5 y5)) fun _ s6 ⟨σ6, H6, I6, q6⟩ => ?_)
  refine wpAny_passesOwn hp (thn (hb _ s6 σ6 H6 _ I6 q6) fun f s7 q7 => ?_)
  have again : ∀ {σ7 : St} {H7 : Hp}, Inv X (pins ++ Ur fp s5.heap) σ7 H7 s7 → N σ7 H7 → ∃ m, m < n ∧ ∃ i σ' H', Inv X pins σ' H' s7 ∧ tn i s7.heap ∧ (∀ b ∈ fp, H' b = none) ∧ W i m σ' H' := fun {σ7 H7} I7 n7 => by
   obtain ⟨m', hm, w7⟩ := hN σ7 H7 n7
   refine ⟨m', hm, i + 1, σ7, H7, I7.unpinned, T.keep _ _ _ st5 fun b hb o e => (I7.pin (b, o) (List.mem_append_right _ (List.mem_append_right _ (ZA hb e)))).1, fun b hb => ?_, w7⟩
   obtain ⟨o, e, d⟩ := T.obj _ _ st5 b hb
   exact (I7.pin (b, o) (List.mem_append_right _ (List.mem_append_right _ (ZA hb e)))).2.1
  cases f with
  | next => obtain ⟨σ7, H7, I7, n7⟩ := q7; exact again I7 n7
  | cont => obtain ⟨σ7, H7, I7, n7⟩ := q7; exact again I7 n7
  | brk => obtain ⟨σ7, H7, I7, q7⟩ := q7; exact ⟨σ7, H7, I7.unpinned, q7⟩
  | ret v => obtain ⟨x7, σ7, H7, I7, r7, q7⟩ := q7; exact ⟨x7, σ7, H7, I7.unpinned, r7, q7⟩
end
end L2
namespace L2
open PySem PySem.Spec PyProof.Rows
abbrev R2 := V → V → Hp → VK → Prop
def OpR (X : Cx) (f : Value → Value → Sem Value) (r : R2) : Prop :=
 ∀ (pins : List (Addr × Obj)) (s : Shared) (σ : St) (H : Hp) (x y : V) (v u : Value) (Q : VK), Inv X pins σ H s → ZH x v → ZH y u → r x y H Q →
   wpAny (model X.prog X.w) X.A (f v u) (EP X pins σ Q) X.xe s
def UnR (X : Cx) (f : Value → Sem Value) (r : V → Hp → VK → Prop) : Prop :=
 ∀ (pins : List (Addr × Obj)) (s : Shared) (σ : St) (H : Hp) (x : V) (v : Value) (Q : VK), Inv X pins σ H s → ZH x v → r x H Q →
   wpAny (model X.prog X.w) X.A (f v) (EP X pins σ Q) X.xe s
def YG (X : Cx) (f : Value) (r : List V → Hp → VK → Prop) : Prop :=
 ∀ (pins : List (Addr × Obj)) (s : Shared) (σ : St) (H : Hp) (xs : List V) (us : List Value) (Q : VK), Inv X pins σ H s → xA xs us → r xs H Q →
   wpAny (model X.prog X.w) X.A (call f us) (EP X pins σ Q) X.xe s
def tOp (r : R2) (ta tb : TE) : TE := fun σ H Q => ta σ H fun x H1 => tb σ H1 fun y H2 => r x y H2 Q
def tUn (r : V → Hp → VK → Prop) (ta : TE) : TE := fun σ H Q => ta σ H fun x H1 => r x H1 Q
def rI (C : Int → Int → Prop) (g : Int → Int → V) : R2 := fun x y H Q => ∃ i j, x = .int i ∧ y = .int j ∧ C i j ∧ Q (g i j) H
def rI0 (g : Int → Int → V) : R2 := fun x y H Q => ∃ i j, x = .int i ∧ y = .int j ∧ Q (g i j) H
def rU (g : Int → V) : V → Hp → VK → Prop := fun x H Q => ∃ i, x = .int i ∧ Q (g i) H
section
variable {X : Cx} {a b c : Expr} {ta tb tc : TE} {pos : Pos}
theorem binT (ha : PE X a ta) (hb : PE X b tb) {pins : List (Addr × Obj)} {s : Shared} {σ : St} {H : Hp} {R : V → V → Hp → Prop} (I : Inv X pins σ H s)
 (h : ta σ H fun x H1 => tb σ H1 fun y H2 => R x y H2) {Q : Value → Shared → Prop} {f : Value → Value → Sem Value}
 (hf : ∀ v u s2 x y H2, Inv X pins σ H2 s2 → ZH x v → ZH y u → R x y H2 → wpAny (model X.prog X.w) X.A (f v u) Q X.xe s2) :
 wpAny (model X.prog X.w) X.A (eval a X.env) (fun v s₁ => wpAny (model X.prog X.w) X.A (eval b X.env) (fun u s₂ => wpAny (model X.prog X.w) X.A (f v u) Q X.xe s₂) X.xe s₁) X.xe s := by
 refine thn (ha pins s σ H _ I h) fun v s1 ⟨x, H1, I1, r1, q1⟩ => ?_
 refine thn (hb pins s1 σ H1 _ I1 q1) fun u s2 ⟨y, H2, I2, r2, q2⟩ => ?_
 exact hf v u s2 x y H2 I2 r1 r2 q2
theorem zC {op : Operator} {r : R2} (ho : OpR X (binaryOp op) r) (ha : PE X a ta) (hb : PE X b tb) : PE X (.BinOp a op b pos) (tOp r ta tb) := by
 intro pins s σ H Q I h
 exact wpAny_BinOp (binT ha hb I h fun v u s2 x y H2 I2 rx ry q => ho pins s2 σ H2 x y v u Q I2 rx ry q)
theorem zhD {op : UnaryOp} {r : V → Hp → VK → Prop} (ho : UnR X (unaryOp op) r) (ha : PE X a ta) : PE X (.UnaryOp op a pos) (tUn r ta) := by
 intro pins s σ H Q I h
 exact UnaryOp_ (thn (ha pins s σ H _ I h) fun v s1 ⟨x, H1, I1, r1, q1⟩ => ho pins s1 σ H1 x v Q I1 r1 q1)
theorem opI {f : Value → Value → Sem Value} {C : Int → Int → Prop} {g : Int → Int → Int}
 (rule : ∀ (i j : Int) (t u : Tok) (s : Shared) (Q : Value → Shared → Prop) (E : Value → Shared → Prop), C i j → Q (.int (g i j) s.toks) { s with toks := s.toks + 1 } → wpAny (model X.prog X.w) X.A (f (.int i t) (.int j u)) Q E s) :
 OpR X f (rI C fun i j => .int (g i j)) := by
 intro pins s σ H x y v u Q I rx ry h
 obtain ⟨i, j, rfl, rfl, hc, q⟩ := h
 obtain ⟨t, rfl⟩ := rx
 obtain ⟨t', rfl⟩ := ry
 exact rule i j t t' s _ _ hc ⟨.int (g i j), H, I.tok _, ⟨_, rfl⟩, q⟩
theorem opI0 {f : Value → Value → Sem Value} {g : Int → Int → Int}
 (rule : ∀ (i j : Int) (t u : Tok) (s : Shared) (Q : Value → Shared → Prop) (E : Value → Shared → Prop), Q (.int (g i j) s.toks) { s with toks := s.toks + 1 } → wpAny (model X.prog X.w) X.A (f (.int i t) (.int j u)) Q E s) :
 OpR X f (rI0 fun i j => .int (g i j)) := by
 intro pins s σ H x y v u Q I rx ry h
 obtain ⟨i, j, rfl, rfl, q⟩ := h
 obtain ⟨t, rfl⟩ := rx
 obtain ⟨t', rfl⟩ := ry
 exact rule i j t t' s _ _ ⟨.int (g i j), H, I.tok _, ⟨_, rfl⟩, q⟩
theorem opB0 {f : Value → Value → Sem Value} {g : Int → Int → Bool}
 (rule : ∀ (i j : Int) (t u : Tok) (s : Shared) (Q : Value → Shared → Prop) (E : Value → Shared → Prop), Q (.bool (g i j)) s → wpAny (model X.prog X.w) X.A (f (.int i t) (.int j u)) Q E s) :
 OpR X f (rI0 fun i j => .bl (g i j)) := by
 intro pins s σ H x y v u Q I rx ry h
 obtain ⟨i, j, rfl, rfl, q⟩ := h
 obtain ⟨t, rfl⟩ := rx
 obtain ⟨t', rfl⟩ := ry
 exact rule i j t t' s _ _ ⟨.bl (g i j), H, I, rfl, q⟩
def CDiv (i j : Int) : Prop := 0 < j ∧ j < 1073741824
def CPow (i j : Int) : Prop := 0 ≤ j ∧ j ≤ 1000000 ∧ i.natAbs < 2 ^ 64
def CMul (i j : Int) : Prop := (-(2 ^ 64) < i ∧ i < 2 ^ 64) ∨ (-(2 ^ 64) < j ∧ j < 2 ^ 64)
theorem CMul.ok {i j : Int} (h : CMul i j) : IntMulOk i j := by
 rcases h with ⟨h1, h2⟩ | ⟨h1, h2⟩
 ·exact .of_left (intBits_le_64 h1 h2)
 ·exact .of_right (intBits_le_64 h1 h2)
theorem op_add : OpR X (binaryOp .Add) (rI0 fun i j => .int (i + j)) := opI0 fun _ _ _ _ _ _ _ q => add_int q
theorem Xj : OpR X (binaryOp .Sub) (rI0 fun i j => .int (i - j)) := opI0 fun _ _ _ _ _ _ _ q => sub_int q
theorem Zf : OpR X (binaryOp .FloorDiv) (rI CDiv fun i j => .int (i / j)) := opI fun i j _ _ _ _ _ hc q => by
 have h1 : (0 : Int) < j := hc.1
 have h2 : j < 1073741824 := hc.2
 exact floordiv_int (by omega) (by rw [Int.fdiv_eq_ediv_of_nonneg i (by omega)]; exact q) (.inl (PyProof.noPylong_small (by omega)))
theorem xg : OpR X (binaryOp .Mod) (rI (fun _ j => 0 < j) fun i j => .int (i % j)) := opI fun i j _ _ _ _ _ hc q => by
 have h1 : (0 : Int) < j := hc
 exact mod_int' (by omega) (by rw [Int.fmod_eq_emod_of_nonneg i (by omega)]; exact q)
theorem Xp : OpR X (binaryOp .Mod) (rI (fun _ j => j ≠ 0) fun i j => .int (i.fmod j)) := opI fun _ _ _ _ _ _ _ hc q => mod_int' hc q
theorem VC : OpR X (binaryOp .Pow) (rI CPow fun i j => .int (i ^ j.toNat)) := opI fun _ _ _ _ _ _ _ hc q => pow_int_small hc.1 hc.2.1 hc.2.2 q
theorem unI {f : Value → Sem Value} {g : Int → Int}
 (rule : ∀ (i : Int) (t : Tok) (s : Shared) (Q : Value → Shared → Prop) (E : Value → Shared → Prop), Q (.int (g i) s.toks) { s with toks := s.toks + 1 } → wpAny (model X.prog X.w) X.A (f (.int i t)) Q E s) :
 UnR X f (rU fun i => .int (g i)) := by
 intro pins s σ H x v Q I rx h
 obtain ⟨i, rfl, q⟩ := h
 obtain ⟨t, rfl⟩ := rx
 exact rule i t s _ _ ⟨.int (g i), H, I.tok _, ⟨_, rfl⟩, q⟩
theorem zdi : UnR X (unaryOp .USub) (rU fun i => .int (-i)) := unI fun _ _ _ _ _ q => neg_int q
end
def scal : V → V → Bool
 | .non, .non => true | .non, .int _ => true | .int _, .non => true | .non, .bl _ => true | .bl _, .non => true | .non, .str _ => true | .str _, .non => true
 | .int _, .int _ => true | .bl _, .bl _ => true | .str _, .str _ => true | .byt _, .byt _ => true
 | .int _, .str _ => true | .str _, .int _ => true | .bl _, .str _ => true | .str _, .bl _ => true
 | _, _ => false
def rEq : R2 := fun x y H Q => scal x y = true ∧ Q (.bl (decide (x = y))) H
def rNe : R2 := fun x y H Q => scal x y = true ∧ Q (.bl (!decide (x = y))) H
theorem zeI {i j : Int} : decide (V.int i = V.int j) = (i == j) := by
 rw [Bool.eq_iff_iff]
 simp
theorem zgG {i j : Bool} : decide (V.bl i = V.bl j) = (i == j) := by
 rw [Bool.eq_iff_iff]
 simp
theorem zeH {i j : Str} : decide (V.str i = V.str j) = (i == j) := by
 rw [Bool.eq_iff_iff]
 simp
theorem zeJ {i j : Array UInt8} : decide (V.byt i = V.byt j) = (i.toList == j.toList) := by
 rw [Bool.eq_iff_iff]
 cases i
 cases j
 simp
section
variable {X : Cx} {a b c : Expr} {ta tb tc : TE} {pos : Pos}
theorem yJ {pins : List (Addr × Obj)} {σ : St} {H : Hp} {s : Shared} {Q : VK} {k k' : Bool} (I : Inv X pins σ H s) (q : Q (.bl k) H) (e : k = k') : EP X pins σ Q (.bool k') s := by
 subst e
 exact ⟨.bl k, H, I, rfl, q⟩
theorem op_eq : OpR X (compareOp .Eq) rEq := by
 intro pins s σ H x y v u Q I rx ry h
 obtain ⟨hs, q⟩ := h
 cases x with
 | non =>
   cases rx
   cases y with
   | non => cases ry; exact PySem.EqNone.eq_none_none (yJ I q (by simp))
   | bl j => cases ry; exact PySem.EqNone.eq_none_bool (yJ I q (by simp))
   | int j => obtain ⟨t', rfl⟩ := ry; exact PySem.EqNone.eq_none_int (yJ I q (by simp))
   | str j => obtain ⟨t', rfl⟩ := ry; exact PySem.EqNone.eq_none_str (yJ I q (by simp))
   | _ => exact absurd (show false = true from hs) Bool.false_ne_true
 | bl i =>
   cases rx
   cases y with
   | non => cases ry; exact PySem.EqNone.eq_bool_none (yJ I q (by simp))
   | bl j => cases ry; exact eq_bool (yJ I q zgG)
   | str j => obtain ⟨t', rfl⟩ := ry; exact PySem.EqMixed.eq_bool_str (yJ I q (by simp))
   | _ => exact absurd (show false = true from hs) Bool.false_ne_true
 | int i =>
   obtain ⟨t, rfl⟩ := rx
   cases y with
   | non => cases ry; exact PySem.EqNone.eq_int_none (yJ I q (by simp))
   | int j => obtain ⟨t', rfl⟩ := ry; exact eq_int (yJ I q zeI)
   | str j => obtain ⟨t', rfl⟩ := ry; exact PySem.EqMixed.eq_int_str (yJ I q (by simp))
   | _ => exact absurd (show false = true from hs) Bool.false_ne_true
 | str i =>
   obtain ⟨t, rfl⟩ := rx
   cases y with
   | non => cases ry; exact PySem.EqNone.eq_str_none (yJ I q (by simp))
   | bl j => cases ry; exact PySem.EqMixed.eq_str_bool (yJ I q (by simp))
   | int j => obtain ⟨t', rfl⟩ := ry; exact PySem.EqMixed.eq_str_int (yJ I q (by simp))
   | str j => obtain ⟨t', rfl⟩ := ry; exact eq_str (yJ I q zeH)
   | _ => exact absurd (show false = true from hs) Bool.false_ne_true
 | byt i =>
   obtain ⟨t, rfl⟩ := rx
   cases y with
   | byt j => obtain ⟨t', rfl⟩ := ry; exact PySem.W.eq_bytes (yJ I q zeJ)
   | _ => exact absurd (show false = true from hs) Bool.false_ne_true
 | _ => cases y <;> exact absurd (show false = true from hs) Bool.false_ne_true
theorem op_ne : OpR X (compareOp .NotEq) rNe := by
 intro pins s σ H x y v u Q I rx ry h
 obtain ⟨hs, q⟩ := h
 cases x with
 | non =>
   cases rx
   cases y with
   | non => cases ry; exact PySem.EqNone.ne_none_none (yJ I q (by simp))
   | bl j => cases ry; exact PySem.EqNone.ne_none_bool (yJ I q (by simp))
   | int j => obtain ⟨t', rfl⟩ := ry; exact PySem.EqNone.ne_none_int (yJ I q (by simp))
   | str j => obtain ⟨t', rfl⟩ := ry; exact PySem.EqNone.ne_none_str (yJ I q (by simp))
   | _ => exact absurd (show false = true from hs) Bool.false_ne_true
 | bl i =>
   cases rx
   cases y with
   | non => cases ry; exact PySem.EqNone.ne_bool_none (yJ I q (by simp))
   | bl j => cases ry; exact ne_bool (yJ I q (congrArg not zgG))
   | str j => obtain ⟨t', rfl⟩ := ry; exact PySem.EqMixed.ne_bool_str (yJ I q (by simp))
   | _ => exact absurd (show false = true from hs) Bool.false_ne_true
 | int i =>
   obtain ⟨t, rfl⟩ := rx
   cases y with
   | non => cases ry; exact PySem.EqNone.ne_int_none (yJ I q (by simp))
   | int j => obtain ⟨t', rfl⟩ := ry; exact ne_int (yJ I q (congrArg not zeI))
   | str j => obtain ⟨t', rfl⟩ := ry; exact PySem.EqMixed.ne_int_str (yJ I q (by simp))
   | _ => exact absurd (show false = true from hs) Bool.false_ne_true
 | str i =>
   obtain ⟨t, rfl⟩ := rx
   cases y with
   | non => cases ry; exact PySem.EqNone.ne_str_none (yJ I q (by simp))
   | bl j => cases ry; exact PySem.EqMixed.ne_str_bool (yJ I q (by simp))
   | int j => obtain ⟨t', rfl⟩ := ry; exact PySem.EqMixed.ne_str_int (yJ I q (by simp))
   | str j => obtain ⟨t', rfl⟩ := ry; exact ne_str (yJ I q (congrArg not zeH))
   | _ => exact absurd (show false = true from hs) Bool.false_ne_true
 | byt i =>
   obtain ⟨t, rfl⟩ := rx
   cases y with
   | byt j => obtain ⟨t', rfl⟩ := ry; exact PySem.W.ne_bytes (yJ I q (congrArg not zeJ))
   | _ => exact absurd (show false = true from hs) Bool.false_ne_true
 | _ => cases y <;> exact absurd (show false = true from hs) Bool.false_ne_true
theorem zaX : OpR X (compareOp .Lt) (rI0 fun i j => .bl (decide (i < j))) := opB0 fun _ _ _ _ _ _ _ q => lt_int q
theorem op_le : OpR X (compareOp .LtE) (rI0 fun i j => .bl (decide (i ≤ j))) := opB0 fun _ _ _ _ _ _ _ q => le_int q
theorem zcL : OpR X (compareOp .Gt) (rI0 fun i j => .bl (decide (j < i))) := opB0 fun _ _ _ _ _ _ _ q => gt_int q
theorem OpR.or {f : Value → Value → Sem Value} {r r' : R2} (h : OpR X f r) (h' : OpR X f r') : OpR X f (fun x y H Q => r x y H Q ∨ r' x y H Q) := by
 intro pins s σ H x y v u Q I rx ry q
 rcases q with q | q
 ·exact h pins s σ H x y v u Q I rx ry q
 ·exact h' pins s σ H x y v u Q I rx ry q
theorem zN (b : Expr) {op : CmpOp} (h : op ≠ .In := by decide) (h2 : op ≠ .NotIn := by decide) : behindInMarks op b = false := by
 have e1 : (op == CmpOp.In) = false := by cases op <;> first | rfl | exact absurd rfl h
 have e2 : (op == CmpOp.NotIn) = false := by cases op <;> first | rfl | exact absurd rfl h2
 cases b <;> simp [behindInMarks, e1, e2]
theorem UX {op : CmpOp} {r : R2} (ho : OpR X (compareOp op) r) (ha : PE X a ta) (hb : PE X b tb) (hm : behindInMarks op b = false) : PE X (.Compare a [op] [b] pos) (tOp r ta tb) := by
 intro pins s σ H Q I h
 exact wpAny_Compare1 (binT ha hb I h fun v u s2 x y H2 I2 rx ry q => ho pins s2 σ H2 x y v u Q I2 rx ry q) hm
def tTest (t : TE) : TT := fun σ H Q => t σ H fun x H' => ∃ k, x = .bl k ∧ Q k H'
theorem zJ {op : CmpOp} {r : R2} (ho : OpR X (compareOp op) r) (ha : PE X a ta) (hb : PE X b tb) (hm : behindInMarks op b = false) : PT X (.Compare a [op] [b] pos) (tTest (tOp r ta tb)) := by
 intro pins s σ H Q I h
 refine wpAny_isTrue_Compare1 (thn (ha pins s σ H _ I h) fun v s1 ⟨x, H1, I1, r1, q1⟩ => thn (hb pins s1 σ H1 _ I1 q1) fun u s2 ⟨y, H2, I2, r2, q2⟩ =>
  thn (ho pins s2 σ H2 x y v u _ I2 r1 r2 q2) fun c s3 ⟨z, H3, I3, r3, k, e, q3⟩ => ?_) hm
 subst e
 cases r3
 exact wpAny_truthy_bool ⟨H3, I3, q3⟩
theorem zcg : (sizeLine : Nat) < 2 ^ 63 := by rw [sizeLine_eq]; decide
theorem VT {x : V} {us : List Value} (r : xA [x] us) : ∃ u, us = [u] ∧ ZH x u := by
 cases r with
 | cons r1 r2 => cases r2; exact ⟨_, rfl, r1⟩
theorem ze4 {x y : V} {us : List Value} (r : xA [x, y] us) : ∃ u w', us = [u, w'] ∧ ZH x u ∧ ZH y w' := by
 cases r with
 | cons r1 r2 =>
   cases r2 with
   | cons r3 r4 => cases r4; exact ⟨_, _, rfl, r1, r3⟩
theorem zf7 : YG X (.builtin "abs") (fun xs H Q => ∃ i, xs = [.int i] ∧ Q (.int (if i < 0 then -i else i)) H) := by
 intro pins s σ H xs us Q I r h
 obtain ⟨i, rfl, q⟩ := h
 obtain ⟨u, rfl, t, rfl⟩ := VT r
 exact call_abs_int fun u tk => ⟨.int (if i < 0 then -i else i), H, I.tok _, ⟨_, rfl⟩, q⟩
theorem zeR (hc : X.calm = true) : YG X (.builtin "min") (fun xs H Q => ∃ i j, xs = [.int i, .int j] ∧ Q (.int (if j < i then j else i)) H) := by
 intro pins s σ H xs us Q I r h
 obtain ⟨i, j, rfl, q⟩ := h
 obtain ⟨u, w', rfl, ⟨t, rfl⟩, ⟨t', rfl⟩⟩ := ze4 r
 refine min_two_ints (I.ok.hd hc) fun h' tk k => ⟨_, H, I.kept k, ?_, q⟩
 by_cases hj : j < i
 ·rw [if_pos hj, if_pos hj]; exact ⟨_, rfl⟩
 ·rw [if_neg hj, if_neg hj]; exact ⟨_, rfl⟩
end
end L2
namespace L2
open PySem PySem.Spec PyProof.Rows
structure ObjM (h : Heap) (x dx C : Addr) (mA : Str → Option Value) : Prop where
 obj : h.get? x = some (PySem.W.instObj C dx)
 ns : h.Ns1 dx mA
 ne : dx ≠ x
theorem zeq {h : Heap} {dx : Addr} {mA : Str → Option Value} (n : h.Ns1 dx mA) : ∃ od, h.get? dx = some od ∧ ∀ name, PySem.W.lookIn name od = some (mA name) := by
 obtain ⟨o, es, ep, ho, hd, hk, _, hm⟩ := n
 refine ⟨o, ho, fun name => ?_⟩
 have e := hm name
 unfold nsFind findBy at e
 rw [← Array.find?_toList] at e
 unfold PySem.W.lookIn
 rw [hd]
 dsimp only
 split
 ·rename_i y q
  rw [q] at e
  exact congrArg some e
 ·rename_i q
  rw [q] at e
  have a : es.toList.any (·.refKey) = false := by
   rw [List.any_eq_false]
   intro y hy
   obtain ⟨z, t, hkey⟩ := hk y (Array.mem_toList_iff.mp hy)
   simp [DictEntry.refKey, hkey]
  have a' : ¬ es.toList.any (·.refKey) = true := by rw [a]; exact Bool.false_ne_true
  rw [if_neg a']
  exact congrArg some e
theorem ObjM.look {h : Heap} {x dx C : Addr} {mA : Str → Option Value} (I : ObjM h x dx C mA) : ∃ od, PySem.W.InstAt h x (PySem.W.instObj C dx) C (some od) ∧ ∀ name, PySem.W.lookIn name od = some (mA name) :=
 let ⟨od, ho, hl⟩ := zeq I.ns
 ⟨od, ⟨I.obj, rfl, rfl, ho⟩, hl⟩
section
variable {prog : Program} {w : World} {A : Around} {E : Value → Shared → Prop} {s : Shared} {K : PySem.W.Frag} {x dx C f : Addr} {mA : Str → Option Value} {name : Str} {v : Value}
theorem zhY {expr : Bool} {Q : Value → Shared → Prop} (X : K.In s.heap) (I : ObjM s.heap x dx C mA) (hg : PySem.W.plainGet K C name = true) (hh : PySem.W.hasDictIn K C = true)
 (ha : PySem.W.findIn K (.ref C) name = some none) (hv : mA name = some v) (hv' : PySem.W.handedIn v = true) (h : Q v { s with toks := s.toks + 1 }) :
 wpAny (model prog w) A (getAttr (.ref x) name expr) Q E s := by
 obtain ⟨od, J, hl⟩ := I.look
 exact PySem.W.get_value X J (PySem.W.plainGet_of hg).1 (PySem.W.findObj_own hh ha rfl (by rw [hl, hv])) hv' h
theorem zf1 {pl : Sem Bool} {Q : Value × List Value → Shared → Prop} (X : K.In s.heap) (I : ObjM s.heap x dx C mA) (hg : PySem.W.plainGet K C name = true)
 (hf : PySem.W.findIn K (.ref C) name = some (some (.ref f))) (ht : PySem.W.isFn K (.ref f) = true) (hv : mA name = none) (h : Q (.ref f, [.ref x]) s) :
 wpAny (model prog w) A (getMethod (.ref x) name pl) Q E s := by
 obtain ⟨od, J, hl⟩ := I.look
 exact PySem.W.method_fn X J (PySem.W.plainGet_of hg).1 (PySem.W.plainGet_of hg).2 hf (beq_iff_eq.mp ht) (by show (PySem.W.lookIn name od).map (·.isSome) = some false; rw [hl, hv]; rfl) h
theorem zgP {ns : List Str} {Q : Unit → Shared → Prop} (X : K.In s.heap) (I : ObjM s.heap x dx C mA)
 (hs : PySem.W.findIn K (.ref C) "__setattr__" = some (some (.builtin "object.__setattr__"))) (hp : PySem.W.plainOver K C = true) (ht : PySem.W.takerIn K C name = some none) (hh : PySem.W.hasDictIn K C = true)
 (hw : PySem.Within mA ns) (hsz : ns.length ≤ sizeLine)
 (h : ∀ h', ObjM h' x dx C (fun y => if y = name then some v else mA y) → Heap.SameBut dx s.heap h' → Q () { s with heap := h', toks := s.toks + 2 }) :
 wpAny (model prog w) A (setAttr (.ref x) name v) Q E s := by
 obtain ⟨od, J, hl⟩ := I.look
 refine PySem.W.set_plain X J hs (PySem.W.osa_open (s := { s with toks := s.toks + 1 }) (r := none) X J hp ht fun b => ?_)
 obtain ⟨cd, hc, hd'⟩ := PySem.W.any_some hh
 have hx : s.heap.get? x = some ⟨.ref C, some dx, .plain, #[]⟩ := I.obj
 refine wpAny_bind (wpAny_pure (wpAny_bind (wpAny_bind (wpAny_loadPart hx (wpAny_bind (PySem.W.Looks.here (s := { s with toks := s.toks + 1 }) (PySem.W.looks_clsIn X hc) ?_))))))
 rw [hd']
 refine wpAny_pure (a := some dx) (wpAny_bind (wpAny_pure (wpAny_bind ?_)))
 refine wpAny_nsSet1 (s := { s with toks := s.toks + 1 }) I.ns fun h' hn2 hs2 => ?_
 obtain ⟨oD, esD, epD, hoD, hdD, hcD⟩ := hn2.count (PySem.Within.cons name v hw)
 refine wpAny_bind (wpAny_lookBehind hoD (by rw [hdD]; exact pastItsLine_dict (Nat.le_trans hcD (by rw [List.length_cons]; omega))) ?_)
 exact wpAny_pure (h _ ⟨(hs2.2 _ (Ne.symm I.ne)).trans I.obj, hn2, I.ne⟩ hs2)
theorem zfQ {R : Result → Shared → Prop} {vs : List Value} {kw : List (Str × Value)} (X : K.In s.heap) (hm : PySem.W.makesIn K C = true)
 (hi : PySem.W.findIn K (.ref C) "__init__" = some (some (.ref f))) (hf : PySem.W.typeIn K (.ref f) = some (.type "function"))
 (h : codeAny (model prog w) (A.under (.builtin "type.__call__" ⟨.ref C :: vs, kw⟩)) (.call (.ref f) ⟨.ref (s.heap.objs.size + 1) :: vs, kw⟩) (PySem.W.InitBack (s.heap.objs.size + 1) R)
  { s with heap := (s.heap.push PySem.W.emptyDict).push (PySem.W.instObj C s.heap.objs.size) }) :
 codeAny (model prog w) A (.call (.ref C) ⟨vs, kw⟩) R s := by
 obtain ⟨hh, g, d, t, os⟩ := s
 exact PySem.W.make_core (PySem.W.makes_of X hm) (PySem.W.looks_findIn X hi) (fun self => PySem.W.bind_fn X self hf) (.inl rfl) h
end
def zbg (f : Str) (v : V) : List (Str × V) → List (Str × V)
 | [] => [(f, v)]
 | (g, x) :: r => if g = f then (g, v) :: r else (g, x) :: zbg f v r
theorem VF (f g : Str) (v : V) : ∀ fs : List (Str × V), (zbg f v fs).lookup g = if g = f then some v else fs.lookup g
 | [] => by
   show List.lookup g [(f, v)] = _
   by_cases h : g = f
   ·have hb : (g == f) = true := beq_iff_eq.mpr h
    simp only [List.lookup, hb, if_pos h]
   ·have hb : (g == f) = false := beq_eq_false_iff_ne.mpr h
    simp only [List.lookup, hb, if_neg h]
 | (k, x) :: r => by
   have ih := VF f g v r
   rw [show zbg f v ((k, x) :: r) = (if k = f then (k, v) :: r else (k, x) :: zbg f v r) from rfl]
   by_cases hk : k = f
   ·rw [if_pos hk]
    by_cases h : g = k
    ·have hb : (g == k) = true := beq_iff_eq.mpr h
     simp only [List.lookup, hb, if_pos (h.trans hk)]
    ·have hb : (g == k) = false := beq_eq_false_iff_ne.mpr h
     simp only [List.lookup, hb, if_neg (fun e : g = f => h (e.trans hk.symm))]
   ·rw [if_neg hk]
    by_cases h : g = k
    ·have hb : (g == k) = true := beq_iff_eq.mpr h
     simp only [List.lookup, hb, if_neg (fun e : g = f => hk (h.symm.trans e))]
    ·have hb : (g == k) = false := beq_eq_false_iff_ne.mpr h
     simp only [List.lookup, hb]
     exact ih
theorem VJ (f : Str) (v : V) : ∀ fs : List (Str × V), f ∈ (zbg f v fs).map (·.1) ∧ ∀ g, g ∈ fs.map (·.1) → g ∈ (zbg f v fs).map (·.1)
 | [] => ⟨by simp [zbg], fun g h => by simp at h⟩
 | (k, x) :: r => by
   obtain ⟨i1, i2⟩ := VJ f v r
   rw [show zbg f v ((k, x) :: r) = (if k = f then (k, v) :: r else (k, x) :: zbg f v r) from rfl]
   by_cases hk : k = f
   ·rw [if_pos hk]
    subst hk
    exact ⟨by simp, fun g h => by simpa using h⟩
   ·rw [if_neg hk]
    refine ⟨?_, fun g h => ?_⟩
    ·rw [List.map_cons]
     exact List.mem_cons_of_mem _ i1
    ·rw [List.map_cons] at h ⊢
     rcases List.mem_cons.mp h with e | e
     ·exact List.mem_cons.mpr (.inl e)
     ·exact List.mem_cons_of_mem _ (i2 g e)
theorem VG (f : Str) (v : V) : ∀ fs : List (Str × V), (zbg f v fs).length ≤ fs.length + 1
 | [] => by simp [zbg]
 | (k, x) :: r => by
   have ih := VG f v r
   rw [show zbg f v ((k, x) :: r) = (if k = f then (k, v) :: r else (k, x) :: zbg f v r) from rfl]
   by_cases hk : k = f
   ·rw [if_pos hk, List.length_cons, List.length_cons]; omega
   ·rw [if_neg hk, List.length_cons, List.length_cons]; omega
theorem ze0.some_of {v : V} {o : Option Value} (r : ze0 (some v) o) : ∃ u, o = some u ∧ ZH v u := by
 cases o with
 | none => exact (show False from r).elim
 | some u => exact ⟨u, rfl, r⟩
theorem ze0.none_of {o : Option Value} (r : ze0 none o) : o = none := by
 cases o with
 | none => rfl
 | some u => exact (show False from r).elim
theorem zex {v : V} {u : Value} (r : ZH v u) : PySem.W.handedIn u = true := by
 cases v with
 | non => cases (show u = Value.none from r); rfl
 | bl b => cases (show u = Value.bool b from r); rfl
 | int i => obtain ⟨t, e⟩ := (show ∃ t, u = Value.int i t from r); cases e; rfl
 | str x => obtain ⟨t, e⟩ := (show ∃ t, u = Value.str x t from r); cases e; rfl
 | byt b => obtain ⟨t, e⟩ := (show ∃ t, u = Value.bytes b t from r); cases e; rfl
 | flt b => obtain ⟨t, e⟩ := (show ∃ t, u = Value.float b t from r); cases e; rfl
 | ref a => cases (show u = Value.ref a from r); rfl
 | ty n => cases (show u = Value.type n from r); rfl
section
variable {P : Program} {w : World} {H H' : Hp} {h h' : Heap} {a C dx : Addr} {fs fs' : List (Str × V)}
theorem zad (hok : HOk P w H h) (e : H a = some (.ins C dx fs)) : ∃ mA, ObjM h a dx C mA ∧ (∀ f, ze0 (fs.lookup f) (mA f)) ∧ PySem.Within mA (fs.map (·.1)) ∧ fs.length ≤ 1000 ∧ H dx = some (.own a) := by
 obtain ⟨d, z, ne, ob, mA, n, r, q⟩ := (show Zv P w H h a (.ins C dx fs) from hok a _ e)
 exact ⟨mA, ⟨ob, n, ne⟩, r, q, z, d⟩
end
structure Cls (K : PySem.W.Frag) (C : Addr) : Prop where
 pg : PySem.W.plainGet K C Str.empty = true
 hd : PySem.W.hasDictIn K C = true
 po : PySem.W.plainOver K C = true
 sa : PySem.W.findIn K (.ref C) "__setattr__" = some (some (.builtin "object.__setattr__"))
theorem Cls.get {K : PySem.W.Frag} {C : Addr} (c : Cls K C) (f : Str) : PySem.W.plainGet K C f = true := c.pg
def WN (K : PySem.W.Frag) (C : Addr) (f : Str) : Prop := PySem.W.findIn K (.ref C) f = some none
theorem WN.taker {K : PySem.W.Frag} {C : Addr} {f : Str} (n : WN K C f) : PySem.W.takerIn K C f = some none := by
 unfold PySem.W.takerIn
 rw [show PySem.W.findIn K (.ref C) f = some none from n]
 rfl
structure Meth (K : PySem.W.Frag) (C : Addr) (m : Str) (f : Addr) : Prop where
 at_ : PySem.W.findIn K (.ref C) m = some (some (.ref f))
 fn : PySem.W.isFn K (.ref f) = true
 kp : PySem.W.keepIn K (.ref f) = true
section
variable {X : Cx} {pins : List (Addr × Obj)} {σ : St} {H : Hp} {s : Shared} {a C dx : Addr} {fs : List (Str × V)} {f : Str} {v : V} {A : Around} {E : Value → Shared → Prop}
theorem zc0 {b : Bool} {Q : Value → Shared → Prop} (I : Inv X pins σ H s) (e : H a = some (.ins C dx fs)) (c : Cls X.K C) (n : WN X.K C f) (l : fs.lookup f = some v)
 (h : ∀ u s', Inv X pins σ H s' → ZH v u → Q u s') : wpAny (model X.prog X.w) A (getAttr (.ref a) f b) Q E s := by
 obtain ⟨mA, O, r, _, _, _⟩ := zad I.hok e
 obtain ⟨u, hu, ru⟩ := ze0.some_of (v := v) (o := mA f) (by rw [← l]; exact r f)
 exact zhY I.kIn O (c.get f) c.hd n hu (zex ru) (h u _ (I.tok _) ru)
theorem Ux {m : Str} {g : Addr} {pl : Sem Bool} {Q : Value × List Value → Shared → Prop} (I : Inv X pins σ H s) (e : H a = some (.ins C dx fs)) (c : Cls X.K C) (k : Meth X.K C m g) (l : fs.lookup m = none)
 (h : Q (.ref g, [.ref a]) s) : wpAny (model X.prog X.w) A (getMethod (.ref a) m pl) Q E s := by
 obtain ⟨mA, O, r, _, _, _⟩ := zad I.hok e
 have hn : mA m = none := ze0.none_of (by rw [← l]; exact r m)
 exact zf1 I.kIn O (c.get m) k.at_ k.fn hn h
theorem zcB {y : V} {u : Value} {Q : Unit → Shared → Prop} (I : Inv X pins σ H s) (e : H a = some (.ins C dx fs)) (c : Cls X.K C) (n : WN X.K C f) (hl : fs.length < 1000) (ry : ZH y u)
 (h : ∀ s', Inv X pins σ (upd H a (.ins C dx (zbg f y fs))) s' → Q () s') : wpAny (model X.prog X.w) A (setAttr (.ref a) f u) Q E s := by
 obtain ⟨mA, O, r, wi, _, ho⟩ := zad I.hok e
 have hz : (fs.map (·.1)).length ≤ sizeLine := by rw [List.length_map, sizeLine_eq]; omega
 refine zgP I.kIn O c.sa c.po n.taker c.hd wi hz fun h' O' sb => h _ ?_
 have hd : ∃ o, h'.get? dx = some o := let ⟨o, _, _, e', _⟩ := O'.ns; ⟨o, e'⟩
 refine I.write (x := a) (e := dx) (by rw [e]; exact True.intro) (.inr ho) (fun b q hb z => (sb.2 b hb).trans z) hd ?_
 refine ⟨by rw [ye O.ne]; exact ho, ?_, O.ne, O'.obj, _, O'.ns, fun g => ?_, fun g hg => ?_⟩
 ·have := VG f y fs; omega
 ·show ze0 ((zbg f y fs).lookup g) (if g = f then some u else mA g)
  rw [VF]
  by_cases q : g = f
  ·rw [if_pos q, if_pos q]; exact ry
  ·rw [if_neg q, if_neg q]; exact r g
 ·by_cases q : g = f
  ·rw [q]; exact (VJ f y fs).1
  ·refine (VJ f y fs).2 g (wi g fun z => hg ?_)
   show (if g = f then some u else mA g) = none
   rw [if_neg q]; exact z
theorem Inv.made (I : Inv X pins σ H s) : Inv X pins σ (upd (upd H s.heap.objs.size (.own (s.heap.objs.size + 1))) (s.heap.objs.size + 1) (.ins C s.heap.objs.size []))
 { s with heap := (s.heap.push PySem.W.emptyDict).push (PySem.W.instObj C s.heap.objs.size) } := by
 have e1 : (s.heap.push PySem.W.emptyDict).get? s.heap.objs.size = some PySem.W.emptyDict := Heap.get?_push_size s.heap rfl
 have e2 : ((s.heap.push PySem.W.emptyDict).push (PySem.W.instObj C s.heap.objs.size)).get? (s.heap.objs.size + 1) = some (PySem.W.instObj C s.heap.objs.size) := by
  have := Heap.get?_push_size (s.heap.push PySem.W.emptyDict) (o := PySem.W.instObj C s.heap.objs.size) rfl
  rwa [Heap.size_push] at this
 have e3 : (s.heap.push PySem.W.emptyDict).Ns s.heap.objs.size (fun _ => none) := ⟨PySem.W.emptyDict, #[], _, e1, rfl, (fun e he => absurd he (by simp)), fun _ => rfl⟩
 have I1 := I.laid (a := s.heap.objs.size) (o := .own (s.heap.objs.size + 1)) (h' := s.heap.push PySem.W.emptyDict) (t' := s.toks) (fun b u q => Heap.get?_push_of_some _ q) (Nat.le_refl _) ⟨_, e1⟩
 refine I1.laid (a := s.heap.objs.size + 1) (o := .ins C s.heap.objs.size []) (t' := s.toks) (fun b u q => Heap.get?_push_of_some _ q) (Nat.le_of_eq (Heap.size_push _ _)) ?_
 have ne : s.heap.objs.size ≠ s.heap.objs.size + 1 := Nat.ne_of_lt (Nat.lt_succ_self _)
 refine ⟨by rw [ye ne, yH], Nat.zero_le _, ne, e2, fun _ => none, (Heap.Ns1.of_empty e3).at fun o q => Heap.get?_push_of_some _ q, fun _ => True.intro, fun y hy => absurd rfl hy⟩
theorem zh8 {prog : Program} {w : World} {env : Env} {e : Expr} {f : Str} {pos : Pos} {s : Shared} {Q : Value → Shared → Prop} (hb : attributeBase e f env (eval e env) = eval e env)
 (h : wpAny (model prog w) A (eval e env) (fun o s₁ => wpAny (model prog w) A (getAttr o f true) Q E s₁) E s) : wpAny (model prog w) A (eval (.Attribute e f pos) env) Q E s :=
 Attribute_any_ h (by rw [arm_eval_Attribute, hb])
end
def tFld (K : PySem.W.Frag) (ta : TE) (f : Str) : TE := fun σ H Q => ta σ H fun x H1 => ∃ a C dx fs v, x = .ref a ∧ H1 a = some (.ins C dx fs) ∧ Cls K C ∧ WN K C f ∧ fs.lookup f = some v ∧ Q v H1
def sFld (K : PySem.W.Frag) (ta tv : TE) (f : Str) : TS := fun D σ H => tv σ H fun y H1 => ta σ H1 fun x H2 => ∃ a C dx fs, x = .ref a ∧ H2 a = some (.ins C dx fs) ∧ Cls K C ∧ WN K C f ∧ fs.length < 1000 ∧
 D.nx σ (upd H2 a (.ins C dx (zbg f y fs)))
section
variable {X : Cx} {o e value : Expr} {f : Str} {pos pos' tpos : Pos} {ta tv : TE}
theorem zgs (he : PE X e ta) (hb : attributeBase e f X.env (eval e X.env) = eval e X.env) : PE X (.Attribute e f pos) (tFld X.K ta f) := by
 intro pins s σ H Q I h
 refine zh8 hb (thn (he pins s σ H _ I h) fun u s1 ⟨x, H1, I1, rx, a, C, dx, fs, v, ex, ea, c, n, l, q⟩ => ?_)
 subst ex
 obtain rfl : u = Value.ref a := rx
 exact zc0 I1 ea c n l fun u' s2 I2 ru => ⟨v, H1, I2, ru, q⟩
theorem ps_fld (ha : PE X o ta) (hv : PE X value tv) (hs : swapsWith value (some (.Attribute o f pos')) pos.line X.env = pure false) : PS X (.Assign [.Attribute o f pos'] value pos) (sFld X.K ta tv f) := by
 intro pins s σ H D I h
 refine plainObj_wpAny_Assign_Attribute (thn (hv pins s σ H _ I h) fun u s1 ⟨y, H1, I1, ry, q⟩ => thn (ha pins s1 σ H1 _ I1 q) fun ov s2 ⟨x, H2, I2, rx, a, C, dx, fs, ex, ea, c, n, l, q2⟩ => ?_) hs
 subst ex
 obtain rfl : ov = Value.ref a := rx
 exact zcB I2 ea c n l ry fun s3 I3 => ⟨σ, _, I3, q2⟩
end
section
variable {X : Cx} {pins : List (Addr × Obj)} {σ : St} {H : Hp} {s : Shared} {A : Around} {E : Value → Shared → Prop} {Q : Value → Shared → Prop} {c : Value} {b : Bool}
inductive TyOf (K : PySem.W.Frag) (H : Hp) : V → Value → Prop where
 | non : TyOf K H .non (.type "NoneType")
 | bl (x : Bool) : TyOf K H (.bl x) (.type "bool")
 | int (i : Int) : TyOf K H (.int i) (.type "int")
 | str (x : Str) : TyOf K H (.str x) (.type "str")
 | flt (x : UInt64) : TyOf K H (.flt x) (.type "float")
 | lst {a : Addr} {xs : List V} (e : H a = some (.lst xs)) : TyOf K H (.ref a) (.type "list")
 | frz {a : Addr} {o : Obj} {xs : List V} (e : H a = some (.frz o (.lst xs))) : TyOf K H (.ref a) (.type "list")
 | tup {a : Addr} {xs : List V} (e : H a = some (.tup xs)) : TyOf K H (.ref a) (.type "tuple")
 | dK {a : Addr} {kvs : List (Key × V)} (e : H a = some (.dK kvs)) : TyOf K H (.ref a) (.type "dict")
 | dT {a : Addr} {kvs : List (List Key × V)} (e : H a = some (.dT kvs)) : TyOf K H (.ref a) (.type "dict")
 | ins {a C dx : Addr} {fs : List (Str × V)} (e : H a = some (.ins C dx fs)) (cl : Cls K C) (ha : PySem.W.findIn K (.ref C) "__class__" = some (some (.builtin "object.__class__")))
  (hn : PySem.W.specialIn K (.builtin "object.__class__") "__get__" = some (some (.builtin "getset_descriptor.__get__"))) (htk : PySem.W.takesIn K (.builtin "object.__class__") = some true)
  (hm : PySem.W.mroIn K C (.type "object") = some true) : TyOf K H (.ref a) (.ref C)
theorem za3 {x : V} {u t : Value} (I : Inv X pins σ H s) (rx : ZH x u) (ty : TyOf X.K H x t) (e : PySem.W.kitOne X.K t c = some b) (h : ∀ tk, Q (.bool b) { s with toks := tk }) :
 wpAny (model X.prog X.w) A (call (.builtin "isinstance") [u, c]) Q E s := by
 cases ty with
 | non => cases (show u = Value.none from rx); exact PySem.W.kia_one PySem.W.kitx_none I.kIn True.intro e (fun z => nomatch z) h
 | bl y => cases (show u = Value.bool y from rx); exact PySem.W.kia_one PySem.W.kitx_bool I.kIn True.intro e (fun z => nomatch z) h
 | int i => obtain ⟨t, q⟩ := (show ∃ t, u = Value.int i t from rx); cases q; exact PySem.W.kia_one PySem.W.kitx_int I.kIn True.intro e (fun z => nomatch z) h
 | str y => obtain ⟨t, q⟩ := (show ∃ t, u = Value.str y t from rx); cases q; exact PySem.W.kia_one PySem.W.kitx_str I.kIn True.intro e (fun z => nomatch z) h
 | flt y => obtain ⟨t, q⟩ := (show ∃ t, u = Value.float y t from rx); cases q; exact PySem.W.kia_one PySem.W.kitx_float I.kIn True.intro e (fun z => nomatch z) h
 | @lst a xs ea =>
   cases (show u = Value.ref a from rx)
   obtain ⟨_, _, n, _, h1⟩ := (show Zv X.prog X.w H s.heap a (.lst xs) from I.hok a _ ea)
   exact PySem.W.kia_one PySem.W.kitx_list I.kIn ⟨_, h1, rfl⟩ e (fun z => nomatch z) h
 | @frz a ob xs ea =>
   cases (show u = Value.ref a from rx)
   obtain ⟨_, _, _, n, _, h1⟩ := (show Zv X.prog X.w H s.heap a (.frz ob (.lst xs)) from I.hok a _ ea)
   exact PySem.W.kia_one PySem.W.kitx_list I.kIn ⟨_, h1, rfl⟩ e (fun z => nomatch z) h
 | @tup a xs ea =>
   cases (show u = Value.ref a from rx)
   obtain ⟨_, _, _, p⟩ := (show Zv X.prog X.w H s.heap a (.tup xs) from I.hok a _ ea)
   obtain ⟨o, h1, h2, _⟩ := p
   exact PySem.W.kia_one PySem.W.kitx_tuple I.kIn ⟨o, h1, h2⟩ e (fun z => nomatch z) h
 | @dK a kvs ea =>
   cases (show u = Value.ref a from rx)
   obtain ⟨_, _, vs, _, p⟩ := (show Zv X.prog X.w H s.heap a (.dK kvs) from I.hok a _ ea)
   obtain ⟨o, es, ep, h1, h2, _⟩ := p
   exact PySem.W.kia_one PySem.W.kitx_dict I.kIn ⟨o, h1, h2.1⟩ e (fun z => nomatch z) h
 | @dT a kvs ea =>
   cases (show u = Value.ref a from rx)
   obtain ⟨_, _, xs, _, o, es, ep, h1, h2, _⟩ := (show Zv X.prog X.w H s.heap a (.dT kvs) from I.hok a _ ea)
   exact PySem.W.kia_one PySem.W.kitx_dict I.kIn ⟨o, h1, h2.1⟩ e (fun z => nomatch z) h
 | @ins a C dx fs ea cl ha hn htk hm =>
   cases (show u = Value.ref a from rx)
   obtain ⟨mA, O, _⟩ := zad I.hok ea
   obtain ⟨od, J, _⟩ := O.look
   exact PySem.W.kia_one (PySem.W.kitx_own (cl.get _) cl.hd ha hn htk hm) I.kIn J e (fun z => nomatch z) h
end
end L2
namespace L2
open PySem PySem.Spec PyProof.Rows
structure Room (k : Nat) (A : Around) : Prop where
 hd : A.handled = none
 dp : A.depth + 3 * k + 5 < recursionLimit
 un : A.units + 16 * k + 200 < cLine
theorem Room.mono {j k : Nat} {A : Around} (r : Room k A) (h : j ≤ k) : Room j A := ⟨r.hd, by have := r.dp; omega, by have := r.un; omega⟩
theorem Room.deeper {k : Nat} {A : Around} (r : Room (k + 1) A) (env : Env) : Room k (A.deeper env) :=
 ⟨r.hd, by have := r.dp; show A.depth + 1 + 3 * k + 5 < _; omega, by have := r.un; show A.units + 3 + 16 * k + 200 < _; omega⟩
theorem zcW {A : Around} {C : Addr} {us : List Value} {kw : List (Str × Value)} : (A.under (.builtin "type.__call__" ⟨.ref C :: us, kw⟩)).depth = A.depth + 1 := by
 first | rfl | simp [Around.under, Code.weight, Code.isCreation, Code.isGuard, Code.isCaller, Code.frames, Code.isFrame, guardIds]
theorem zcV {A : Around} {C : Addr} {us : List Value} {kw : List (Str × Value)} : (A.under (.builtin "type.__call__" ⟨.ref C :: us, kw⟩)).units = A.units + 1 := by
 first | rfl | simp [Around.under, Code.cUnits, Code.frames, Code.isFrame]
theorem Room.make {k : Nat} {A : Around} (r : Room (k + 1) A) (C : Addr) (us : List Value) (kw : List (Str × Value)) : Room k (A.under (.builtin "type.__call__" ⟨.ref C :: us, kw⟩)) :=
 ⟨r.hd, by have := r.dp; rw [zcW]; omega, by have := r.un; rw [zcV]; omega⟩
theorem Room.depth {k : Nat} {A : Around} (r : Room k A) : A.depth < recursionLimit := by have := r.dp; omega
theorem Room.units {k : Nat} {A : Around} (r : Room k A) : A.units + 64 < cLine := by have := r.un; omega
def tNil : TA := fun _ H Q => Q [] H
def tCons (ta : TE) (tr : TA) : TA := fun σ H Q => ta σ H fun x H1 => tr σ H1 fun xs H2 => Q (x :: xs) H2
section
variable {X : Cx} {e : Expr} {es : List Expr} {te : TE} {t : TA} {pos : Pos}
theorem zh : PA X [] tNil := fun _ _ _ _ H Q I h => Calls.spliced_nil ⟨[], H, I, .nil, h⟩
theorem zd (ha : PE X e te) (hr : PA X es t) (hs : starEach (e :: es) X.env = (false, eval e X.env) :: starEach es X.env := by rfl) : PA X (e :: es) (tCons te t) := by
 intro pos pins s σ H Q I h
 rw [hs]
 show wpAny _ _ (spliced ((false, eval e X.env) :: backTo pos (starEach es X.env))) _ _ s
 refine Calls.spliced_cons (thn (ha pins s σ H _ I h) fun u s1 ⟨x, H1, I1, r1, q1⟩ => ?_)
 exact thn (hr pos pins s1 σ H1 _ I1 q1) fun us s2 ⟨xs, H2, I2, r2, q2⟩ => ⟨x :: xs, H2, I2, .cons r1 r2, q2⟩
def tTup (t : TA) : TE := fun σ H Q => t σ H fun xs H1 => xs.length ≤ sizeLine ∧ ∀ p, H1 p = none → Q (.ref p) (upd H1 p (.tup xs))
def tLst (t : TA) : TE := fun σ H Q => t σ H fun xs H1 => xs.length ≤ sizeLine ∧ ∀ p, H1 p = none → Q (.ref p) (upd H1 p (.lst xs))
theorem yj {x1} (h : PA X es t) : PE X (.Tuple es x1 pos) (tTup t) := by
 intro pins s σ H Q I hq
 refine wpAny_Tuple_spliced (thn (h pos pins s σ H _ I hq) fun us s1 ⟨xs, H1, I1, r, z, q⟩ => ⟨by rw [← r.length]; exact z, ?_⟩)
 have hf : H1 s1.heap.objs.size = none := I1.hok.fresh (Nat.le_refl _)
 refine ⟨.ref s1.heap.objs.size, upd H1 s1.heap.objs.size (.tup xs), I1.laid (t' := s1.toks) (fun b u e => Heap.get?_push_of_some _ e) (Nat.le_refl _) ?_, rfl, q _ hf⟩
 exact ⟨z, us, r, ⟨_, Heap.get?_push_size _ rfl, rfl, _, rfl⟩⟩
theorem ZR (h : PA X es t) : PE X (.List es pos) (tLst t) := by
 intro pins s σ H Q I hq
 refine wpAny_List_spliced (thn (h pos pins s σ H _ I hq) fun us s1 ⟨xs, H1, I1, r, z, q⟩ => ⟨by rw [← r.length]; exact z, ?_⟩)
 have hf : H1 s1.heap.objs.size = none := I1.hok.fresh (Nat.le_refl _)
 refine ⟨.ref s1.heap.objs.size, upd H1 s1.heap.objs.size (.lst xs), I1.laid (t' := s1.toks) (fun b u e => Heap.get?_push_of_some _ e) (Nat.le_refl _) ?_, rfl, q _ hf⟩
 exact ⟨z, us, 0, r, Heap.get?_push_size _ rfl⟩
end
abbrev Sp := List V → Hp → VK → XK → Prop
abbrev CXT := List Env → Hp → Shared → XK → Value → Shared → Prop
structure Env0 (P : Program) (w : World) (K : PySem.W.Frag) (mg : Str → Option Value) (base : Heap) (A : Around) (outer : List Env) (s : Shared) (H : Hp) : Prop where
 frames : A.frames = some outer
 mod : Mod K mg base
 bs : ∀ b o, base.get? b = some o → s.heap.get? b = some o ∧ H b = none
 bsz : base.objs.size ≤ s.heap.objs.size
 funs : s.heap.FunFrames base outer
 frf : ∀ b ∈ frs outer, H b = none
 hok : HOk P w H s.heap
 bare : AllBare s.gens
def CE (outer : List Env) (P : Program) (w : World) (H : Hp) (s : Shared) (Q : VK) (u : Value) (s' : Shared) : Prop :=
 ∃ v H', s'.os = s.os ∧ AllBare s'.gens ∧ Un (frs outer) [] H H' s.heap s'.heap ∧ HOk P w H' s'.heap ∧ ZH v u ∧ Q v H'
def CR (CX : CXT) (outer : List Env) (P : Program) (w : World) (H : Hp) (s : Shared) (Q : VK) (E : XK) (r : Result) (s' : Shared) : Prop :=
 match r with
 | .ok (.ret u) => CE outer P w H s Q u s'
 | .ok _ => False
 | .error e => CX outer H s E e s'
structure FnOk (P : Program) (w : World) (K : PySem.W.Frag) (mg : Str → Option Value) (base : Heap) (CX : CXT) (k : Nat) (f : Addr) (fd : FuncData) (ps : List Str) (sp : Sp) : Prop where
 len : ∀ vs H Q E, sp vs H Q E → vs.length = ps.length
 run : ∀ (A : Around) (outer : List Env) (s : Shared) (H : Hp) (args : Args) (us : List Value) (vs : List V) (Q : VK) (E : XK), Room k A → Env0 P w K mg base A outer s H → BindsTo s fd args (ps.zip us) → xA vs us → sp vs H Q E →
  codeAny (model P w) A (.call (.ref f) args) (CR CX outer P w H s Q E) s
theorem FnOk.mono {P : Program} {w : World} {K : PySem.W.Frag} {mg : Str → Option Value} {base : Heap} {CX : CXT} {j k : Nat} {f : Addr} {fd : FuncData} {ps : List Str} {sp : Sp} (F : FnOk P w K mg base CX j f fd ps sp) (h : j ≤ k) :
 FnOk P w K mg base CX k f fd ps sp := ⟨F.len, fun A outer s H args us vs Q E hr => F.run A outer s H args us vs Q E (hr.mono h)⟩
theorem Env0.make {P : Program} {w : World} {K : PySem.W.Frag} {mg : Str → Option Value} {base : Heap} {A : Around} {outer : List Env} {s : Shared} {H : Hp} (e : Env0 P w K mg base A outer s H) (C : Addr) (us : List Value) (kw : List (Str × Value)) :
 Env0 P w K mg base (A.under (.builtin "type.__call__" ⟨.ref C :: us, kw⟩)) outer s H := ⟨by first | exact e.frames | (simpa [Around.under, Code.envs, Code.isFrame, pushEnvs] using e.frames), e.mod, e.bs, e.bsz, e.funs, e.frf, e.hok, e.bare⟩
section
variable {X : Cx} {pins : List (Addr × Obj)} {σ : St} {H : Hp} {s s' : Shared}
theorem Inv.env0 (I : Inv X pins σ H s) : Env0 X.prog X.w X.K X.mg X.base X.A X.stack s H :=
 ⟨I.ok.frames, I.ok.mod, I.bs, Nat.le_trans I.ok.bsz I.sz, I.stack, I.stkFree, I.hok, I.bare⟩
theorem Inv.after {Q : VK} {u : Value} (I : Inv X pins σ H s) (h : CE X.stack X.prog X.w H s Q u s') : EP X pins σ Q u s' := by
 obtain ⟨v, H', os, bare, un, hok, r, q⟩ := h
 obtain ⟨hh, g, d, t, os'⟩ := s'
 obtain rfl : os' = s.os := os
 exact ⟨v, H', I.call (h' := hh) (g' := g) (d' := d) (t' := t) (ch := []) un hok bare (fun b z => absurd z (by simp)), r, q⟩
end
def zdm (sp : Sp) (dvs : List V) (E : XK) (t : TA) : TE := fun σ H Q => t σ H fun vs H1 => sp (vs ++ dvs) H1 Q E
def zgK (C : Addr) (sp : Sp) (dvs : List V) (E : XK) (t : TA) : TE := fun σ H Q => t σ H fun vs H1 => ∀ x dx, H1 x = none → H1 dx = none → dx ≠ x →
 sp (.ref x :: (vs ++ dvs)) (upd (upd H1 dx (.own x)) x (.ins C dx [])) (fun v H2 => v = .non ∧ Q (.ref x) H2) E
def xU (K : PySem.W.Frag) (fd : FuncData) (ps : List Str) (ds : List Value) : Prop :=
 ∀ (s : Shared) (us : List Value), K.In s.heap → (us ++ ds).length = ps.length → BindsTo s fd ⟨us, []⟩ (ps.zip (us ++ ds))
theorem xU.all {K : PySem.W.Frag} {fd : FuncData} {ps : List Str} (h : ∀ us : List Value, us.length = ps.length → bindArgs fd ⟨us, []⟩ = pure (ps.zip us)) : xU K fd ps [] := fun s us _ hl => by
 rw [List.append_nil] at hl ⊢
 exact .of_eq (h us hl)
def Xk (CX : CXT) (X : Cx) (E : XK) : Prop := ∀ (pins : List (Addr × Obj)) (σ : St) (H : Hp) (s : Shared) (e : Value) (s' : Shared), Inv X pins σ H s → CX X.stack H s E e s' → X.xe e s'
section
variable {X : Cx} {CX : CXT} {k : Nat} {f C : Addr} {fd : FuncData} {ps : List Str} {sp : Sp} {dvs : List V} {ds : List Value} {E : XK} {x m : Str} {p pos apos : Pos} {e o : Expr} {es : List Expr} {ta : TE} {t : TA}
theorem zb4 {pins : List (Addr × Obj)} {σ : St} {H : Hp} {s : Shared} {Q : VK} {us : List Value} {vs : List V} (F : FnOk X.prog X.w X.K X.mg X.base CX k f fd ps sp) (hr : Room k X.A) (hb : xU X.K fd ps ds) (hd : xA dvs ds) (hx : Xk CX X E)
 (I : Inv X pins σ H s) (r : xA vs us) (h : sp (vs ++ dvs) H Q E) : wpAny (model X.prog X.w) X.A (call (.ref f) us) (EP X pins σ Q) X.xe s := by
 have r2 : xA (vs ++ dvs) (us ++ ds) := r.append hd
 have hl : (us ++ ds).length = ps.length := by rw [← r2.length]; exact F.len _ _ _ _ h
 refine wpAny_call (codeAny_mono (F.run X.A X.stack s H ⟨us, []⟩ (us ++ ds) (vs ++ dvs) Q E hr I.env0 (hb s us I.kIn hl) r2 h) fun r s' hq => ?_)
 cases r with
 | error e => exact hx pins σ H s e s' I hq
 | ok fl =>
   cases fl with
   | ret u => exact I.after hq
   | next => exact False.elim hq
   | brk => exact False.elim hq
   | cont => exact False.elim hq
theorem zhE (F : FnOk X.prog X.w X.K X.mg X.base CX k f fd ps sp) (hr : Room k X.A) (hg : Gl X x) (hm : X.mg x = some (.ref f)) (hk : PySem.W.keepIn X.K (.ref f) = true) (hb : xU X.K fd ps ds) (hd : xA dvs ds) (hx : Xk CX X E)
 (ha : PA X (e :: es) t) (hdb : (x == ("__debug__" : Str)) = false := by decide) (he : starEach (e :: es) X.env = (false, eval e X.env) :: starEach es X.env := by rfl) (hpl : (backTo pos (starEach es X.env)).any (·.1) = false := by rfl) :
 PE X (.Call (.Name x p) (e :: es) [] pos) (zdm sp dvs E t) := by
 intro pins s σ H Q I h
 refine wpAny_Call_Name_kw (VH I hg hm ?_ hdb)
 refine PySem.W.callWith_K (h₀ := X.base) I.ok.mod.kin hk (thn (ha pos pins s σ H _ I h) fun us s1 ⟨vs, H1, I1, r, q⟩ => ⟨I1.kIn, ?_⟩) he hpl
 exact zb4 F hr hb hd hx I1 r q
structure Mk (K : PySem.W.Frag) (C f : Addr) : Prop where
 makes : PySem.W.makesIn K C = true
 init : PySem.W.findIn K (.ref C) "__init__" = some (some (.ref f))
 fn : PySem.W.isFn K (.ref f) = true
 kp : PySem.W.keepIn K (.ref C) = true
theorem zb3 {pins : List (Addr × Obj)} {σ : St} {H : Hp} {s : Shared} {Q : VK} {us : List Value} {vs : List V} (M : Mk X.K C f) (F : FnOk X.prog X.w X.K X.mg X.base CX k f fd ps sp) (hr : Room (k + 1) X.A) (hb : xU X.K fd ps ds) (hd : xA dvs ds)
 (hx : Xk CX X E) (I : Inv X pins σ H s) (r : xA vs us)
 (h : ∀ x dx, H x = none → H dx = none → dx ≠ x → sp (.ref x :: (vs ++ dvs)) (upd (upd H dx (.own x)) x (.ins C dx [])) (fun v H2 => v = .non ∧ Q (.ref x) H2) E) :
 wpAny (model X.prog X.w) X.A (call (.ref C) us) (EP X pins σ Q) X.xe s := by
 have hq := h (s.heap.objs.size + 1) s.heap.objs.size (I.hok.fresh (Nat.le_succ _)) (I.hok.fresh (Nat.le_refl _)) (Nat.ne_of_lt (Nat.lt_succ_self _))
 have I2 := Inv.made (C := C) I
 have r2 : xA (V.ref (s.heap.objs.size + 1) :: (vs ++ dvs)) (Value.ref (s.heap.objs.size + 1) :: (us ++ ds)) := .cons rfl (r.append hd)
 have hl : (Value.ref (s.heap.objs.size + 1) :: us ++ ds).length = ps.length := by
  have e := r2.length
  rw [F.len _ _ _ _ hq] at e
  exact e.symm
 refine wpAny_call (zfQ (f := f) I.kIn M.makes M.init (beq_iff_eq.mp M.fn) (codeAny_mono (F.run _ X.stack _ _ ⟨Value.ref (s.heap.objs.size + 1) :: us, []⟩ (Value.ref (s.heap.objs.size + 1) :: (us ++ ds)) _ _ E (hr.make C us [])
  (I2.env0.make C us []) (hb _ (Value.ref (s.heap.objs.size + 1) :: us) I2.kIn hl) r2 hq) fun r s' hq' => ?_))
 cases r with
 | error e => exact hx pins σ _ _ e s' I2 hq'
 | ok fl =>
   cases fl with
   | ret u =>
     obtain ⟨v, H', I3, rv, ev, q3⟩ := I2.after hq'
     subst ev
     exact ⟨rv, ⟨V.ref (s.heap.objs.size + 1), H', I3, rfl, q3⟩⟩
   | next => exact False.elim hq'
   | brk => exact False.elim hq'
   | cont => exact False.elim hq'
theorem zd4 (M : Mk X.K C f) (F : FnOk X.prog X.w X.K X.mg X.base CX k f fd ps sp) (hr : Room (k + 1) X.A) (hg : Gl X x) (hm : X.mg x = some (.ref C)) (hb : xU X.K fd ps ds) (hd : xA dvs ds) (hx : Xk CX X E)
 (ha : PA X (e :: es) t) (hdb : (x == ("__debug__" : Str)) = false := by decide) (he : starEach (e :: es) X.env = (false, eval e X.env) :: starEach es X.env := by rfl) (hpl : (backTo pos (starEach es X.env)).any (·.1) = false := by rfl) :
 PE X (.Call (.Name x p) (e :: es) [] pos) (zgK C sp dvs E t) := by
 intro pins s σ H Q I h
 refine wpAny_Call_Name_kw (VH I hg hm ?_ hdb)
 refine PySem.W.callWith_K (h₀ := X.base) I.ok.mod.kin M.kp (thn (ha pos pins s σ H _ I h) fun us s1 ⟨vs, H1, I1, r, q⟩ => ⟨I1.kIn, ?_⟩) he hpl
 exact zb3 M F hr hb hd hx I1 r q
theorem Va (M : Mk X.K C f) (F : FnOk X.prog X.w X.K X.mg X.base CX k f fd ps sp) (hr : Room (k + 1) X.A) (hg : Gl X x) (hm : X.mg x = some (.ref C)) (hb : xU X.K fd ps ds) (hd : xA dvs ds) (hx : Xk CX X E)
 (hdb : (x == ("__debug__" : Str)) = false := by decide) : PE X (.Call (.Name x p) [] [] pos) (zgK C sp dvs E tNil) := by
 intro pins s σ H Q I h
 refine wpAny_Call_Name_kw (VH I hg hm ?_ hdb)
 exact PySem.W.callWith_K0 I.kIn M.kp (zb3 (us := []) M F hr hb hd hx I .nil h)
end
section
variable {X : Cx} {CX : CXT} {k : Nat} {f C : Addr} {fd : FuncData} {ps ks : List Str} {sp : Sp} {E : XK} {x m : Str} {p pos apos kpos : Pos} {e o : Expr} {es : List Expr} {kws : List Keyword} {te ta : TE} {t tk : TA} {nm : Option Str}
variable {g : List Value → List Value → List Value} {gV : List V → List V → List V}
end
structure FnScope (N P : List Str) (sc : Scope) : Prop where
 kind : sc.kind = .function
 co : sc.isCoroutine = false
 gen : sc.isGenerator = false
 nd : N.Nodup
 pre : N.take P.length = P
 par : ∀ x ∈ P, sc.names.lookup x = some .local ∨ sc.names.lookup x = some .cell
 nofree : ∀ y ∈ sc.names, y.2 ≠ .free
theorem zba {kindOf : Str → Option NameKind} {x : Str} : ∀ {binds : List (Str × Value)} {m : Str → Option Value}, (∀ v, (x, v) ∉ binds) → bindL kindOf binds m x = m x
 | [], _, _ => rfl
 | (n, v) :: r, m, h => by
   unfold bindL
   rw [zba fun w hw => h w (List.mem_cons_of_mem _ hw)]
   split
   ·have : x ≠ n := by rintro rfl; exact h v List.mem_cons_self
    simp [this]
   ·rfl
theorem zbc {kindOf : Str → Option NameKind} {x : Str} : ∀ {binds : List (Str × Value)} {m : Str → Option Value}, (∀ v, (x, v) ∉ binds) → bindC kindOf binds m x = m x
 | [], _, _ => rfl
 | (n, v) :: r, m, h => by
   unfold bindC
   rw [zbc fun w hw => h w (List.mem_cons_of_mem _ hw)]
   split
   ·rfl
   ·have : x ≠ n := by rintro rfl; exact h v List.mem_cons_self
    simp [this]
theorem zbb {kindOf : Str → Option NameKind} {x : Str} {v : Value} : ∀ {P : List Str} {vs : List Value} {i : Nat} {m : Str → Option Value}, P.Nodup → P[i]? = some x → vs[i]? = some v → kindOf x = some .local →
 bindL kindOf (P.zip vs) m x = some v
 | [], _, _, _, _, h, _, _ => by simp at h
 | _ :: _, [], _, _, _, _, h, _ => by simp at h
 | p :: P, w :: vs, 0, m, nd, h1, h2, hk => by
   simp at h1 h2; subst h1; subst h2
   show bindL kindOf ((p, w) :: P.zip vs) m p = _
   unfold bindL
   rw [zba fun v hv => (List.nodup_cons.mp nd).1 (List.of_mem_zip hv).1, if_pos hk]
   simp
 | p :: P, w :: vs, i + 1, m, nd, h1, h2, hk => by
   show bindL kindOf ((p, w) :: P.zip vs) m x = _
   unfold bindL
   exact zbb (i := i) (List.nodup_cons.mp nd).2 (by simpa using h1) (by simpa using h2) hk
theorem zbd {kindOf : Str → Option NameKind} {x : Str} {v : Value} : ∀ {P : List Str} {vs : List Value} {i : Nat} {m : Str → Option Value}, P.Nodup → P[i]? = some x → vs[i]? = some v → kindOf x ≠ some .local →
 bindC kindOf (P.zip vs) m x = some v
 | [], _, _, _, _, h, _, _ => by simp at h
 | _ :: _, [], _, _, _, _, h, _ => by simp at h
 | p :: P, w :: vs, 0, m, nd, h1, h2, hk => by
   simp at h1 h2; subst h1; subst h2
   show bindC kindOf ((p, w) :: P.zip vs) m p = _
   unfold bindC
   rw [zbc fun v hv => (List.nodup_cons.mp nd).1 (List.of_mem_zip hv).1, if_neg hk]
   simp
 | p :: P, w :: vs, i + 1, m, nd, h1, h2, hk => by
   show bindC kindOf ((p, w) :: P.zip vs) m x = _
   unfold bindC
   exact zbd (i := i) (List.nodup_cons.mp nd).2 (by simpa using h1) (by simpa using h2) hk
def zav (N : List Str) (vs : List V) : St := vs.map some ++ List.replicate (N.length - vs.length) none
def zif (CX : CXT) (P : Program) (w : World) (K : PySem.W.Frag) (mg : Str → Option Value) (base : Heap) (N : List Str) (qual : Str) (scope : Scope) (f : Addr) (cd : Value) (A : Around) (outer : List Env) (s : Shared) (H : Hp) (E : XK) : Cx where
 prog := P
 w := w
 K := K
 mg := mg
 base := base
 A := A.deeper (envOfC qual scope s.heap.objs.size f cd)
 N := N
 s₀ := s
 H₀ := H
 env := envOfC qual scope s.heap.objs.size f cd
 outer := outer
 stack := envOfC qual scope s.heap.objs.size f cd :: outer
 ex := []
 calm := true
 fn := fun _ => true
 pn := []
 xe := fun e s' => wpAny (model P w) (A.deeper (envOfC qual scope s.heap.objs.size f cd)) (leaving (envOfC qual scope s.heap.objs.size f cd) e) (fun _ s'' => CX outer H s E e s'') (fun e' s'' => CX outer H s E e' s'') s'
theorem zct {sc : Scope} {n : Nat} {x : Str} (h : sc.names.lookup x = some .cell) : ∃ c, (cellsFrom n sc.names []).lookup x = some c := by
 have q := PySem.W.cellsFrom_some sc.names n [] (.inl h)
 exact Option.isSome_iff_exists.mp q
theorem zeu {CX : CXT} {P : Program} {w : World} {K : PySem.W.Frag} {mg : Str → Option Value} {base : Heap} {N ps : List Str} {qual : Str} {scope : Scope} {f : Addr} {cd : Value} {A : Around} {outer : List Env} {s s1 : Shared} {H : Hp} {E : XK} {us : List Value} {vs : List V}
 (S : FnScope N ps scope) (hd : A.handled = none) (e0 : Env0 P w K mg base A outer s H) (hl : vs.length = ps.length) (r : xA vs us)
 (x : InCallC s s.heap.objs.size (bindL (envOfC qual scope s.heap.objs.size f cd).kindOf (ps.zip us) fun _ => none) (cellsFrom (s.heap.objs.size + 1) scope.names []) (bindC (envOfC qual scope s.heap.objs.size f cd).kindOf (ps.zip us) fun _ => none) s1) :
 Inv (zif CX P w K mg base N qual scope f cd A outer s H E) [] (zav N vs) H s1 := by
 have hpl : ps.length ≤ N.length := by have := congrArg List.length S.pre; rw [List.length_take] at this; omega
 obtain ⟨h1, tk, rfl, hk⟩ := x.done
 have noA : ∀ b : Addr, b ∉ (zif CX P w K mg base N qual scope f cd A outer s H E).ex := fun b z => absurd (show b ∈ ([] : List Addr) from z) (by simp)
 refine ⟨⟨e0.mod, S.kind, rfl, rfl, Nat.le_refl _, fun y z c h1 h2 => ?_, fun y hy => ?_, fun y c _ h => ?_, fun _ => hd, Around.frames_deeper e0.frames, .inr ⟨rfl, rfl⟩, fun b z => absurd z (noA b), e0.bs, e0.bsz, fun b _ _ => noA b, fun b z => absurd z (noA b), e0.funs, e0.frf⟩,
  rfl, e0.bare, Un.kept hk, ⟨_, x.toInCall.ns, fun i y v h1 h2 h3 => ?_⟩, fun y c h => ⟨_, x.cell y c h⟩, e0.hok.fresh (Nat.le_refl _), fun y c h => ?_, fun p hp => absurd (show p ∈ ([] : List (Addr × Obj)) from hp) (by simp), e0.hok.kept hk, ?_⟩
 ·exact name_of_addr x.apart (PySem.mem_of_lookup h1) (PySem.mem_of_lookup h2)
 ·have hy : scope.names.lookup y = some .cell ∨ scope.names.lookup y = some .free := hy
  rcases hy with hy | hy
  ·exact zct hy
  ·exact absurd rfl (S.nofree _ (PySem.mem_of_lookup hy))
 ·exact Nat.le_of_lt (x.above y c (PySem.mem_of_lookup h))
 ·have hi : i < vs.length := by
   unfold zav at h2
   by_cases hi : i < vs.length
   ·exact hi
   ·rw [List.getElem?_append_right (by simpa using hi)] at h2
    rw [List.getElem?_replicate] at h2
    split at h2 <;> cases h2
  have ha : vs[i]? = some v := by
   unfold zav at h2
   rw [List.getElem?_append_left (by simpa using hi), List.getElem?_map] at h2
   cases e : vs[i]? with
   | none => rw [e] at h2; cases h2
   | some a => rw [e] at h2; cases h2; rfl
  obtain ⟨u, hu, rv⟩ := r.get ha
  have hp : ps[i]? = some y := by
   rw [← S.pre, List.getElem?_take_of_lt (by omega)]; exact h1
  have ndP : ps.Nodup := by rw [← S.pre]; exact S.nd.sublist (List.take_sublist _ _)
  refine ⟨u, rv, ?_⟩
  rcases S.par y (List.mem_of_getElem? hp) with k | k
  ·exact .inl ⟨k, zbb ndP hp hu k⟩
  ·obtain ⟨c, e⟩ := zct (n := s.heap.objs.size + 1) k
   refine .inr ⟨.inl k, c, e, ?_⟩
   have q := x.cell y c e
   rw [zbd ndP hp hu (by show scope.names.lookup y ≠ _; rw [k]; decide)] at q
   exact q
 ·exact e0.hok.fresh (Nat.le_of_lt (x.above y c (PySem.mem_of_lookup h)))
 ·unfold zav
  show _ = N.length
  rw [List.length_append, List.length_map, List.length_replicate]
  omega
theorem fn_of {CX : CXT} {P : Program} {w : World} {K : PySem.W.Frag} {mg : Str → Option Value} {base : Heap} {k : Nat} {f : Addr} {name qual : Str} {params : Arguments} {body : List Stmt} {scope : Scope} {dV kV doc pm cdv ct oc : Value} {an od : Option Addr}
 {osl : Array (Option Value)} {N ps : List Str} {sp : Sp} (lk : K.lookup f = some ⟨oc, od, .func (PySem.W.fnOf name qual params body scope dV kV doc pm an cdv ct), osl⟩) (hcd : PySem.W.codeIn K cdv qual = true) (S : FnScope N ps scope)
 (len : ∀ vs H Q E, sp vs H Q E → vs.length = ps.length)
 (hbody : ∀ (A : Around) (outer : List Env) (s : Shared) (H : Hp) (vs : List V) (Q : VK) (E : XK), Room k (A.deeper (envOfC qual scope s.heap.objs.size f cdv)) → sp vs H Q E →
  ∃ t, PSs (zif CX P w K mg base N qual scope f cdv A outer s H E) body t ∧ t { nx := fun _ H' => Q .non H', rt := Q } (zav N vs) H) :
 FnOk P w K mg base CX (k + 1) f (PySem.W.fnOf name qual params body scope dV kV doc pm an cdv ct) ps sp := by
 refine ⟨len, fun A outer s H args us vs Q E hr e0 hb r hsp => ?_⟩
 have hl := len _ _ _ _ hsp
 have KX : K.In s.heap := e0.mod.kin.keeps fun b o e => (e0.bs b o e).1
 have lim : s.heap.NoLimit := e0.mod.nolimit.keeps fun b o e => (e0.bs b o e).1
 have hkind : ∀ y ∈ ps.zip us, scope.names.lookup y.1 = some .local ∨ (scope.names.lookup y.1 = some .cell ∧ ((cellsFrom (s.heap.objs.size + 1) scope.names []).lookup y.1).isSome = true) := fun ⟨n, v⟩ hy => by
  rcases S.par n (List.of_mem_zip hy).1 with q | q
  ·exact .inl q
  ·exact .inr ⟨q, PySem.W.cellsFrom_some _ _ _ (.inl q)⟩
 refine codeAny_call_function hr.depth (KX _ _ lk) rfl S.co S.gen rfl (PySem.W.codeRec_of KX hcd) (hb _ _ _ _ ?_)
 refine wpAny_newFunctionEnv_cells S.kind hkind fun env he s1 x => ?_
 subst he
 refine ⟨lim.keeps x.toInCall.keep, codeAny_func ?_⟩
 obtain ⟨t, ht, hq⟩ := hbody A outer s H vs Q E (hr.deeper _) hsp
 have I : Inv (zif CX P w K mg base N qual scope f cdv A outer s H E) [] (zav N vs) H s1 := zeu S hr.hd e0 hl r x
 refine wpAny_mono (ht [] s1 (zav N vs) H _ I hq) (fun fl s' hs => ?_) fun e s' hs => hs
 have fin : ∀ {σ' : St} {H' : Hp} {v : V} {u : Value}, Inv (zif CX P w K mg base N qual scope f cdv A outer s H E) [] σ' H' s' → ZH v u → Q v H' → CE outer P w H s Q u s' :=
  fun {σ' H' v u} J rv q => ⟨v, H', J.os, J.bare, J.base, J.hok, rv, q⟩
 cases fl with
 | ret u =>
   obtain ⟨v, σ', H', J, rv, q⟩ := hs
   exact fin J rv q
 | next =>
   obtain ⟨σ', H', J, q⟩ := hs
   exact fin (v := V.non) (u := Value.none) J rfl q
 | brk =>
   obtain ⟨_, _, _, q⟩ := hs
   exact False.elim q
 | cont =>
   obtain ⟨_, _, _, q⟩ := hs
   exact False.elim q
end L2
namespace L2
open PySem PySem.Spec PyProof.Rows
section
variable {X : Cx} {x : Str} {p pos : Pos} {e : Expr} {es : List Expr} {t : TA} {id T : String} {r : List V → Hp → VK → Prop}
def tCB (r : List V → Hp → VK → Prop) (t : TA) : TE := fun σ H Q => t σ H fun vs H1 => r vs H1 Q
theorem zR (hc : YG X (.builtin id) r) (hg : Gl X x) (hm : X.mg x = none) (hv : bootBuiltins x = some (.builtin id)) (ha : PA X (e :: es) t) (hn : x ≠ "__name__" := by decide) (hdb : (x == ("__debug__" : Str)) = false := by decide)
 (he : starEach (e :: es) X.env = (false, eval e X.env) :: starEach es X.env := by rfl) (hpl : (backTo pos (starEach es X.env)).any (·.1) = false := by rfl) : PE X (.Call (.Name x p) (e :: es) [] pos) (tCB r t) := by
 intro pins s σ H Q I h
 refine wpAny_Call_Name_kw (XW I hg hm hv ?_ hn hdb)
 exact PyProof.Rows.callWith_builtin1 (thn (ha pos pins s σ H _ I h) fun us s1 ⟨vs, H1, I1, r1, q1⟩ => hc pins s1 σ H1 vs us Q I1 r1 q1) he hpl
theorem ZS (hc : YG X (.type T) r) (hg : Gl X x) (hm : X.mg x = none) (hv : bootBuiltins x = some (.type T)) (ha : PA X (e :: es) t) (hn : x ≠ "__name__" := by decide) (hdb : (x == ("__debug__" : Str)) = false := by decide)
 (he : starEach (e :: es) X.env = (false, eval e X.env) :: starEach es X.env := by rfl) (hpl : (backTo pos (starEach es X.env)).any (·.1) = false := by rfl) : PE X (.Call (.Name x p) (e :: es) [] pos) (tCB r t) := by
 intro pins s σ H Q I h
 refine wpAny_Call_Name_kw (XW I hg hm hv ?_ hn hdb)
 exact PyProof.Rows.callWith_type1 (thn (ha pos pins s σ H _ I h) fun us s1 ⟨vs, H1, I1, r1, q1⟩ => hc pins s1 σ H1 vs us Q I1 r1 q1) he hpl
end
end L2
namespace HT
open PySem PyProof.Rows
section
open PySem.SeqAt
open PySem.AutoSeq1 (wpAny_loadPart')
open PySem.MeetsSeq PySem.MeetsSeq2 PySem.MeetsSeq3
end
section
variable {prog : Program} {w : World} {A : Around} {E : Value → Shared → Prop} {s : Shared}
def sIx (n d : Nat) : Option Int → Nat
 | none => d
 | some v => if v < 0 then (v + (n : Int)).toNat else min v.toNat n
theorem sIx_none (n d : Nat) : sIx n d none = d := rfl
theorem sIx_nat (n d k : Nat) : sIx n d (some (k : Int)) = min k n := by
 show (if (k : Int) < 0 then ((k : Int) + (n : Int)).toNat else min (k : Int).toNat n) = min k n
 rw [if_neg (by omega), Int.toNat_natCast]
end
end HT
namespace L2
open PySem PySem.Spec PyProof.Rows
abbrev TO := St → Hp → (Option Int → Hp → Prop) → Prop
def PO (X : Cx) (e : Option Expr) (t : TO) : Prop :=
 ∀ (pins : List (Addr × Obj)) (s : Shared) (σ : St) (H : Hp) (Q : Option Int → Hp → Prop), Inv X pins σ H s → t σ H Q →
   wpAny (model X.prog X.w) X.A (evalPart e X.env) (fun u s' => ∃ o H', Inv X pins σ H' s' ∧ IsPart u o ∧ Q o H') X.xe s
def zdl : TO := fun _ H Q => Q none H
def tPart (t : TE) : TO := fun σ H Q => t σ H fun x H1 => ∃ i, x = .int i ∧ Q (some i) H1
theorem YY {ns : List Int} : ∀ {us : List Value}, xA (ns.map V.int) us → IntsAre us ns := by
 induction ns with
 | nil => intro us r; rw [List.map_nil] at r; cases r; exact .nil
 | cons n ns ih =>
   intro us r
   rw [List.map_cons] at r
   cases r with
   | cons r1 r2 =>
     obtain ⟨t, e⟩ := r1
     subst e
     exact .cons n t (ih r2)
section
variable {X : Cx} {e : Expr} {te : TE} {lo hi : Option Expr} {tl th : TO} {pos p2 : Pos}
theorem zhA : PO X none zdl := by
 intro pins s σ H Q I h
 rw [evalPart_none]
 exact wpAny_pure ⟨none, H, I, .none, h⟩
theorem zbx (h : PE X e te) : PO X (some e) (tPart te) := by
 intro pins s σ H Q I hw
 rw [evalPart_some]
 refine thn (h pins s σ H _ I hw) fun u s1 ⟨x, H1, I1, r1, q1⟩ => ?_
 obtain ⟨i, rfl, q⟩ := q1
 obtain ⟨t, rfl⟩ := r1
 exact ⟨some i, H1, I1, .int i t, q⟩
def SlR (X : Cx) (r : V → Option Int → Option Int → Hp → VK → Prop) : Prop :=
 ∀ (pins : List (Addr × Obj)) (s : Shared) (σ : St) (H : Hp) (x : V) (v vl vu : Value) (lo hi : Option Int) (sl : Addr) (Q : VK), Inv X pins σ H s → ZH x v → s.heap.IsSliceOf sl vl vu .none → IsPart vl lo → IsPart vu hi → r x lo hi H Q →
   ∃ T id, typeLookup (.type T) "__getitem__" = pure (some (.builtin id)) ∧ s.TypeIs v T ∧ wpAny (model X.prog X.w) X.A (getItem v (.ref sl)) (EP X pins σ Q) X.xe s
def tSl (r : V → Option Int → Option Int → Hp → VK → Prop) (te : TE) (tl th : TO) : TE := fun σ H Q => te σ H fun x H1 => tl σ H1 fun l H2 => th σ H2 fun u H3 => r x l u H3 Q
theorem zcb {r : V → Option Int → Option Int → Hp → VK → Prop} (hr : SlR X r) (he : PE X e te) (hl : PO X lo tl) (hu : PO X hi th) : PE X (.Subscript e (.Slice lo hi none p2) pos) (tSl r te tl th) := by
 intro pins s σ H Q I h
 refine Subscript_ (thn (he pins s σ H _ I h) fun v s1 ⟨x, H1, I1, r1, q1⟩ => ?_)
 refine wpAny_Slice (thn (hl pins s1 σ H1 _ I1 q1) fun vl s2 ⟨l, H2, I2, pl, q2⟩ => thn (hu pins s2 σ H2 _ I2 q2) fun vu s3 ⟨u, H3, I3, pu, q3⟩ => ?_)
 rw [evalPart_none]
 refine wpAny_pure ?_
 have I4 : Inv X pins σ H3 { s3 with heap := s3.heap.push { cls := .type "slice", data := .fields #[vl, vu, .none] } } := I3.kept (t' := s3.toks) fun b ob q => Heap.get?_push_of_some _ q
 obtain ⟨T, id, hT, ht, hg⟩ := hr pins { s3 with heap := s3.heap.push { cls := .type "slice", data := .fields #[vl, vu, .none] } } σ H3 x v vl vu l u s3.heap.objs.size Q I4 r1 (Heap.IsSliceOf.new ..) pl pu q3
 show wpAny (model X.prog X.w) X.A (subscriptTail e (.Slice lo hi none p2) v (.ref s3.heap.objs.size)) (EP X pins σ Q) X.xe { s3 with heap := s3.heap.push { cls := .type "slice", data := .fields #[vl, vu, .none] } }
 exact tail_any (ops := [.ref s3.heap.objs.size, v]) ht hT hg (by with_unfolding_all rfl)
def zh5 (xs : List V) (lo hi : Option Int) : List V := (xs.drop (HT.sIx xs.length 0 lo)).take (HT.sIx xs.length xs.length hi - HT.sIx xs.length 0 lo)
theorem zbK (xs : List V) (lo hi : Option Int) : (zh5 xs lo hi).length ≤ xs.length := by
 unfold zh5
 rw [List.length_take, List.length_drop]
 omega
end
end L2
namespace L2
open PySem PySem.Spec PyProof.Rows
def ixN (n : Nat) (i : Int) : Option Nat := if 0 ≤ i then (if i < n then some i.toNat else none) else if -(n : Int) ≤ i then some (i + n).toNat else none
def atI {α : Type} (xs : List α) (i : Int) : Option α := (ixN xs.length i).bind fun j => xs[j]?
theorem zhW {n : Nat} {i : Int} {j : Nat} (h : ixN n i = some j) : seqIndex? i n = some j ∧ j < n ∧ -(n : Int) ≤ i ∧ i < n := by
 unfold ixN at h
 by_cases h0 : 0 ≤ i
 ·rw [if_pos h0] at h
  by_cases h1 : i < n
  ·rw [if_pos h1] at h
   have e : i.toNat = j := Option.some.inj h
   exact ⟨by rw [seqIndex_of h0 h1, e], by omega, by omega, h1⟩
  ·rw [if_neg h1] at h; cases h
 ·rw [if_neg h0] at h
  by_cases h1 : -(n : Int) ≤ i
  ·rw [if_pos h1] at h
   have e : (i + n).toNat = j := Option.some.inj h
   exact ⟨by rw [seqIndex_neg (by omega) h1, e], by omega, h1, by omega⟩
  ·rw [if_neg h1] at h; cases h
theorem zbO {α : Type} {xs : List α} {i : Int} {v : α} (h : atI xs i = some v) : ∃ j, seqIndex? i xs.length = some j ∧ xs[j]? = some v ∧ j < xs.length ∧ -(xs.length : Int) ≤ i ∧ i < xs.length := by
 unfold atI at h
 cases e : ixN xs.length i with
 | none => rw [e] at h; cases h
 | some j =>
   rw [e] at h
   obtain ⟨h1, h2, h3, h4⟩ := zhW e
   exact ⟨j, h1, h, h2, h3, h4⟩
theorem Yk {α : Type} {xs : List α} {j : Nat} {v : α} (h : xs[j]? = some v) : atI xs (j : Int) = some v := by
 have hj : j < xs.length := (List.getElem?_eq_some_iff.mp h).1
 have e : ixN xs.length (j : Int) = some j := by
  unfold ixN
  rw [if_pos (by omega), if_pos (by omega)]; simp
 unfold atI; rw [e]; exact h
theorem zf9 {α : Type} (xs : List α) (v : α) : atI (xs ++ [v]) (-1) = some v := by
 have hl : (xs ++ [v]).length = xs.length + 1 := by simp
 have e : ixN (xs ++ [v]).length (-1) = some xs.length := by
  unfold ixN
  rw [hl, if_neg (by decide), if_pos (by omega)]
  congr 1
  omega
 unfold atI
 rw [e]
 show (xs ++ [v])[xs.length]? = some v
 simp
def zid (b : Expr) : Prop := ∀ o i, subscripted b false o i = operate [o, i] (getItem o i)
def IxR (X : Cx) (r : R2) : Prop :=
 ∀ (value slice : Expr) (pins : List (Addr × Obj)) (s : Shared) (σ : St) (H : Hp) (x y : V) (v u : Value) (Q : VK), Inv X pins σ H s → ZH x v → ZH y u → r x y H Q →
   subscripted slice false v u = operate [v, u] (getItem v u) → wpAny (model X.prog X.w) X.A (subscriptTail value slice v u) (EP X pins σ Q) X.xe s
def MtR (X : Cx) (id : String) (r : V → List V → Hp → VK → Prop) : Prop :=
 ∀ (pins : List (Addr × Obj)) (s : Shared) (σ : St) (H : Hp) (x : V) (xs : List V) (v : Value) (us : List Value) (Q : VK), Inv X pins σ H s → ZH x v → xA xs us → r x xs H Q →
   wpAny (model X.prog X.w) X.A (call (.builtin id) (v :: us)) (EP X pins σ Q) X.xe s
section
variable {X : Cx} {a b : Expr} {ta tb : TE} {pos : Pos}
theorem IxR.or {r r' : R2} (h : IxR X r) (h' : IxR X r') : IxR X (fun x y H Q => r x y H Q ∨ r' x y H Q) := by
 intro value slice pins s σ H x y v u Q I rx ry q hs
 rcases q with q | q
 ·exact h value slice pins s σ H x y v u Q I rx ry q hs
 ·exact h' value slice pins s σ H x y v u Q I rx ry q hs
theorem zB {r : R2} (hr : IxR X r) (ha : PE X a ta) (hb : PE X b tb) (hs : zid b) : PE X (.Subscript a b pos) (tOp r ta tb) := by
 intro pins s σ H Q I h
 exact Subscript_ (binT ha hb I h fun v u s2 x y H2 I2 rx ry q => hr a b pins s2 σ H2 x y v u Q I2 rx ry q (hs _ _))
def rIxL (K : PySem.W.Frag) : R2 := fun x y H Q => ∃ p xs i v, x = .ref p ∧ y = .int i ∧ SqL K H p xs ∧ atI xs i = some v ∧ Q v H
def rIxT (K : PySem.W.Frag) : R2 := fun x y H Q => ∃ p xs i v, x = .ref p ∧ y = .int i ∧ SqT K H p xs ∧ atI xs i = some v ∧ Q v H
def rIxS : R2 := fun x y H Q => ∃ z i c, x = .str z ∧ y = .int i ∧ z.length ≤ sizeLine ∧ atI z.cps.toList i = some c ∧ Q (.str ⟨#[c]⟩) H
theorem zhV : IxR X (rIxL X.K) := by
 intro value slice pins s σ H x y v u Q I rx ry h hs
 obtain ⟨p, xs, i, z, rfl, rfl, hq, he, q⟩ := h
 cases rx
 obtain ⟨t, rfl⟩ := ry
 obtain ⟨its, r, pl, hz⟩ := I.list hq
 obtain ⟨j, h1, h2, h3, h4, h5⟩ := zbO he
 obtain ⟨w, ew, rw'⟩ := r.get h2
 have hl := r.length
 have hn := zcg
 have fin : EP X pins σ Q w s := ⟨z, H, I, rw', q⟩
 by_cases h0 : 0 ≤ i
 ·have hj : i.toNat = j := by
   rw [seqIndex_of h0 h5] at h1
   exact Option.some.inj h1
  exact item_listR pl.isList h0 (by omega) (by rw [hj]; simpa using ew) fin hs
 ·have hj : (i + (its.toArray.size : Int)).toNat = j := by
   rw [seqIndex_neg (by omega) h4] at h1
   rw [List.size_toArray, ← hl]
   exact Option.some.inj h1
  exact subscriptTail_builtinR (x := w) pl.isList.typeIs slot_list_getitem.lookup
   (wpAny_getItem_list_neg (Q := fun r s' => r = w ∧ EP X pins σ Q r s') pl.isList (by omega) (by rw [List.size_toArray] <;> omega) (by omega) (by rw [hj]; simpa using ew) ⟨rfl, fin⟩) hs
theorem ix_tup : IxR X (rIxT X.K) := by
 intro value slice pins s σ H x y v u Q I rx ry h hs
 obtain ⟨p, xs, i, z, rfl, rfl, hq, he, q⟩ := h
 cases rx
 obtain ⟨t, rfl⟩ := ry
 obtain ⟨its, r, pl, hz⟩ := I.tuple hq
 obtain ⟨j, h1, h2, h3, h4, h5⟩ := zbO he
 obtain ⟨w, ew, rw'⟩ := r.get h2
 have hl := r.length
 have hn := zcg
 have fin : EP X pins σ Q w s := ⟨z, H, I, rw', q⟩
 exact subscriptTail_builtinR (x := w) pl.typeIs slot_tuple_getitem.lookup
  (getItem_tuple (j := j) (Q := fun r s' => r = w ∧ EP X pins σ Q r s') pl (by omega) (by omega) (by rw [List.size_toArray, ← hl]; exact h1) (by simpa using ew) ⟨rfl, fin⟩) hs
theorem ix_str : IxR X rIxS := by
 intro value slice pins s σ H x y v u Q I rx ry h hs
 obtain ⟨z, i, c, rfl, rfl, hz, he, q⟩ := h
 obtain ⟨t, rfl⟩ := rx
 obtain ⟨t', rfl⟩ := ry
 obtain ⟨j, h1, h2, h3, h4, h5⟩ := zbO he
 have hl : z.cps.toList.length = z.length := by simp [Str.length]
 rw [hl] at h1 h4 h5
 have hn := zcg
 exact tail_any (typeIs_str s z t) slot_str_getitem.lookup (getItem_str (c := c) (by
  have e1 : decide (i < -(2 ^ 63 : Int)) = false := decide_eq_false (by omega)
  have e2 : decide (i ≥ 2 ^ 63) = false := decide_eq_false (by omega)
  rw [e1, e2, Bool.or_false]) (by rw [h1]; simpa using h2) ⟨.str ⟨#[c]⟩, H, I.tok _, ⟨_, rfl⟩, q⟩) hs
def rIx (K : PySem.W.Frag) : R2 := fun x y H Q => rIxL K x y H Q ∨ rIxT K x y H Q ∨ rIxS x y H Q
theorem zo : IxR X (rIx X.K) := zhV.or (ix_tup.or ix_str)
theorem zaA (lo hi : Option Int) (n : Nat) : (sliceBounds lo hi none n).1 = ((HT.sIx n 0 lo : Nat) : Int) ∧ (sliceBounds lo hi none n).2.1 = ((HT.sIx n n hi : Nat) : Int) ∧ (sliceBounds lo hi none n).2.2 = 1 := by
 refine ⟨?_, ?_, rfl⟩
 ·cases lo with
  | none => simp [sliceBounds, HT.sIx]
  | some i =>
    simp only [sliceBounds, HT.sIx, Option.getD_none, show (1 : Int) > 0 by decide, if_true]
    by_cases h : i < 0
    ·simp only [h, if_true] <;> omega
    ·simp only [h, if_false] <;> omega
 ·cases hi with
  | none => simp [sliceBounds, HT.sIx]
  | some i =>
    simp only [sliceBounds, HT.sIx, Option.getD_none, show (1 : Int) > 0 by decide, if_true]
    by_cases h : i < 0
    ·simp only [h, if_true] <;> omega
    ·simp only [h, if_false] <;> omega
theorem UN (its : List Value) (lo hi : Option Int) : slicePick its.toArray lo hi none = ((its.drop (HT.sIx its.length 0 lo)).take (HT.sIx its.length its.length hi - HT.sIx its.length 0 lo)).toArray := by
 obtain ⟨h1, h2, h3⟩ := zaA lo hi its.toArray.size
 unfold slicePick
 rw [h1, h2, h3]
 simp only [sliceRange_one, pick_run, List.size_toArray] <;> rfl
def rSlL (K : PySem.W.Frag) : V → Option Int → Option Int → Hp → VK → Prop := fun x lo hi H Q => ∃ a xs, x = .ref a ∧ SqL K H a xs ∧ ∀ p, H p = none → Q (.ref p) (upd H p (.lst (zh5 xs lo hi)))
theorem zdv : SlR X (rSlL X.K) := by
 intro pins s σ H x v vl vu lo hi sl Q I rx hs pl pu h
 obtain ⟨a, xs, rfl, hx, q⟩ := h
 cases rx
 obtain ⟨its, r, ht, hz⟩ := I.list hx
 have hlen := r.length
 refine ⟨"list", _, slot_list_getitem.lookup, ht.isList.typeIs, ?_⟩
 refine wpAny_getItem_list_slice ht.isList hs pl pu .none (by simp) ?_ (by rw [List.size_toArray] <;> omega)
 rw [UN, ← hlen]
 refine ⟨.ref s.heap.objs.size, _, I.laid (t' := s.toks) (o := .lst (zh5 xs lo hi)) (fun b ob q => Heap.get?_push_of_some _ q) (Nat.le_refl _) ?_, rfl, q _ (I.hok.fresh (Nat.le_refl _))⟩
 exact ⟨Nat.le_trans (zbK xs lo hi) hz, _, 0, (r.drop (HT.sIx xs.length 0 lo)).take (HT.sIx xs.length xs.length hi - HT.sIx xs.length 0 lo), Heap.get?_push_size _ rfl⟩
theorem za8 : YG X (.builtin "len") (fun xs H Q => ∃ p ys, xs = [.ref p] ∧ (SqL X.K H p ys ∨ SqT X.K H p ys) ∧ Q (.int ys.length) H) := by
 intro pins s σ H xs us Q I r h
 obtain ⟨p, ys, rfl, hq, q⟩ := h
 obtain ⟨u, rfl, rx⟩ := VT r
 cases rx
 have hn := zcg
 rcases hq with hq | hq
 ·obtain ⟨its, r', pl, hz⟩ := I.list hq
  have hlen := r'.length
  exact Calls.call_len_list pl.isList (by simp only [List.size_toArray] <;> omega) ⟨.int ys.length, H, I.tok _, ⟨s.toks + 1, by rw [List.size_toArray, hlen]⟩, q⟩
 ·obtain ⟨its, r', pl, hz⟩ := I.tuple hq
  have hlen := r'.length
  exact len_tuple pl (by simp only [List.size_toArray] <;> omega) ⟨.int ys.length, H, I.tok _, ⟨s.toks + 1, by rw [List.size_toArray, hlen]⟩, q⟩
theorem za7 : YG X (.type "list") (fun xs H Q => ∃ p ys, xs = [.ref p] ∧ (SqL X.K H p ys ∨ SqT X.K H p ys) ∧ ∀ l, H l = none → Q (.ref l) (upd H l (.lst ys))) := by
 intro pins s σ H xs us Q I r h
 obtain ⟨p, ys, rfl, hq, q⟩ := h
 obtain ⟨u, rfl, rx⟩ := VT r
 cases rx
 have fin : ∀ (its : List Value), xA ys its → ys.length ≤ sizeLine → ∀ (h' : Heap) (c' : Nat), (∀ b o', s.heap.get? b = some o' → h'.get? b = some o') →
  h'.get? s.heap.objs.size = some { cls := .type "list", dict := none, data := .seq its.toArray c', slots := #[] } → EP X pins σ Q (.ref s.heap.objs.size) { s with heap := h' } := fun its r' hz h' c' kp e =>
  ⟨.ref s.heap.objs.size, _, I.laid (t' := s.toks) kp (Nat.le_refl _) (show Zv X.prog X.w _ h' _ (.lst ys) from ⟨hz, its, c', r', e⟩), rfl, q _ (I.hok.fresh (Nat.le_refl _))⟩
 rcases hq with hq | hq
 ·obtain ⟨its, r', pl, hz⟩ := I.list hq
  have hlen := r'.length
  obtain ⟨o, ho, hc, n, hd⟩ := pl.isList
  exact call_list_seq p (.inl rfl) ho hc hd (fun h' c' kp e => fin its r' hz h' c' kp e) (by simp only [List.size_toArray] <;> omega)
 ·obtain ⟨its, r', pl, hz⟩ := I.tuple hq
  have hlen := r'.length
  obtain ⟨o, ho, hc, n, hd⟩ := pl
  exact call_list_seq p (.inr rfl) ho hc hd (fun h' c' kp e => fin its r' hz h' c' kp e) (by simp only [List.size_toArray] <;> omega)
theorem zai : YG X (.type "tuple") (fun xs H Q => ∃ p ys, xs = [.ref p] ∧ ((SqL X.K H p ys ∧ ∀ l, H l = none → Q (.ref l) (upd H l (.tup ys))) ∨ (SqT X.K H p ys ∧ Q (.ref p) H))) := by
 intro pins s σ H xs us Q I r h
 obtain ⟨p, ys, rfl, h⟩ := h
 obtain ⟨u, rfl, rx⟩ := VT r
 cases rx
 rcases h with ⟨hq, q⟩ | ⟨hq, q⟩
 ·obtain ⟨its, r', pl, hz⟩ := I.list hq
  have hlen := r'.length
  refine call_tuple_list pl.isList (fun h' kp => ?_) (by simp only [List.size_toArray] <;> omega)
  have I1 : Inv X pins σ H { s with heap := h' } := I.kept (t' := s.toks) kp
  have I2 : Inv X pins σ (upd H h'.objs.size (.tup ys)) { s with heap := h'.push { cls := .type "tuple", data := .seq its.toArray } } :=
   I1.laid (t' := s.toks) (fun b o e => Heap.get?_push_of_some _ e) (Nat.le_refl _) (show Zv X.prog X.w _ _ _ (.tup ys) from ⟨hz, its, r', IsTup.new _ _⟩)
  exact ⟨.ref h'.objs.size, _, I2, rfl, q _ (I1.hok.fresh (Nat.le_refl _))⟩
 ·obtain ⟨its, r', pl, hz⟩ := I.tuple hq
  exact call_tuple_same pl ⟨.ref p, H, I, rfl, q⟩
def tyV (K : PySem.W.Frag) (T : String) (x : V) (H : Hp) : Prop := match x with
 | .str _ => T = "str"
 | .int _ => T = "int"
 | .ref p => (T = "list" ∧ ∃ xs, SqL K H p xs) ∨ (T = "tuple" ∧ ∃ o, K.lookup p = some o ∧ o.cls = .type "tuple" ∧ o.dict = none) ∨
  (T = "dict" ∧ ((∃ kvs, H p = some (.dK kvs)) ∨ ∃ kvs, H p = some (.dT kvs))) ∨ (T = "set" ∧ ∃ S n, H p = some (.set S n))
 | _ => False
theorem tyV_is {pins : List (Addr × Obj)} {σ : St} {H : Hp} {s : Shared} {T : String} {x : V} {v : Value} (I : Inv X pins σ H s) (r : ZH x v) (ty : tyV X.K T x H) :
 s.TypeIs v T ∧ ∀ a, v = .ref a → ∃ ob, s.heap.get? a = some ob ∧ ob.dict = none := by
 cases x with
 | str z =>
   obtain ⟨t, rfl⟩ := r
   cases (show T = "str" from ty)
   exact ⟨typeIs_str s z t, fun _ e => nomatch e⟩
 | int i =>
   obtain ⟨t, rfl⟩ := r
   cases (show T = "int" from ty)
   exact ⟨typeIs_int s i t, fun _ e => nomatch e⟩
 | ref p =>
   cases r
   rcases ty with ⟨rfl, xs, hq⟩ | ⟨rfl, o, hk, hc, hd⟩ | ⟨rfl, hk⟩ | ⟨rfl, S, n, hk⟩
   ·obtain ⟨its, _, pl, _⟩ := I.list hq
    refine ⟨pl.isList.typeIs, fun a e => ?_⟩
    cases e
    obtain ⟨o, n, e, c, hd, _⟩ := pl
    exact ⟨o, e, hd⟩
   ·refine ⟨⟨o, I.kIn p o hk, hc⟩, fun a e => ?_⟩
    cases e
    exact ⟨o, I.kIn _ o hk, hd⟩
   ·have z : ∃ o, s.heap.get? p = some o ∧ o.ExactDict := by
     rcases hk with ⟨kvs, hk⟩ | ⟨kvs, hk⟩
     ·obtain ⟨_, _, _, _, o, _, _, e, ex, _⟩ := I.hok p _ hk
      exact ⟨o, e, ex⟩
     ·obtain ⟨_, _, _, _, o, _, _, e, ex, _⟩ := I.hok p _ hk
      exact ⟨o, e, ex⟩
    obtain ⟨o, e, ex⟩ := z
    refine ⟨⟨o, e, ex.1⟩, fun a e2 => ?_⟩
    cases e2
    exact ⟨o, e, ex.2.1⟩
   ·obtain ⟨o, _, _, _, e, ex, _⟩ := I.hok p _ hk
    refine ⟨⟨o, e, ex.1⟩, fun a e2 => ?_⟩
    cases e2
    exact ⟨o, e, ex.2.1⟩
 | _ => exact False.elim ty
def tBM (K : PySem.W.Frag) (T : String) (r : V → List V → Hp → VK → Prop) (to : TE) (t : TA) : TE := fun σ H Q => to σ H fun x H1 => tyV K T x H1 ∧ t σ H1 fun xs H2 => r x xs H2 Q
variable {o e : Expr} {es : List Expr} {to : TE} {t : TA} {name : Str} {apos cpos : Pos} {T id : String} {r : V → List V → Hp → VK → Prop}
theorem pe_bm (pa : PlainAttrs T) (slot : Slot T name id) (hty : typeOf (.builtin id) = pure (.type "method_descriptor")) (hm : MtR X id r) (ho : PE X o to) (ha : PA X (e :: es) t)
 (hbase : attributeBase o name X.env (eval o X.env) = eval o X.env := by rfl)
 (hfew : ((backTo cpos (starEach (e :: es) X.env)).all (fun x => !x.1) && (backToKw cpos (keywordEach [] X.env)).all (fun x => x.1.isSome)
  && decide ((e :: es).length + ([] : List Keyword).length + (if ([] : List Keyword).isEmpty then 0 else 1) < 30)) = true := by rfl)
 (hline : (apos.endLine == cpos.line) = true := by rfl) (hs : starEach (e :: es) X.env = (false, eval e X.env) :: starEach es X.env := by rfl) (hplain : (backTo cpos (starEach es X.env)).any (·.1) = false := by rfl) :
 PE X (.Call (.Attribute o name apos) (e :: es) [] cpos) (tBM X.K T r to t) := by
 intro pins s σ H Q I h
 refine wpAny_Call_method_late hbase hfew hline rfl (thn (ho pins s σ H _ I h) fun v s1 ⟨x, H1, I1, r1, ty, q1⟩ => ?_)
 obtain ⟨h1, h2⟩ := tyV_is I1 r1 ty
 refine ⟨T, id, pa, slot, hty, h1, h2, ?_⟩
 have hA := ha cpos pins s1 σ H1 _ I1 q1
 rw [hs] at hA ⊢
 refine Calls.callWith_builtin (by show (false || (backTo cpos (starEach es X.env)).any (·.1)) = false; rw [hplain] <;> rfl) (Calls.evalArgs_plain ?_)
 exact thn hA fun us s2 ⟨vs, H2, I2, r2, q2⟩ => hm pins s2 σ H2 x vs v us Q I2 r1 r2 q2
end
end L2
namespace L2
open PySem PySem.Spec PyProof.Rows
def MtM (X : Cx) (id : String) (r : V → List V → Hp → VK → Prop) : Prop :=
 ∀ (pins : List (Addr × Obj)) (s : Shared) (σ : St) (H : Hp) (x : V) (xs : List V) (v : Value) (us : List Value) (Q : VK), Inv X pins σ H s → ZH x v → xA xs us → r x xs H Q →
   wpAny (model X.prog X.w) X.A (call (.builtin id) (v :: us)) (EP X pins σ Q) X.xe s
theorem xA.one : ∀ {x : V} {us : List Value}, xA [x] us → ∃ u, us = [u] ∧ ZH x u
 | _, _, .cons r .nil => ⟨_, rfl, r⟩
theorem xA.zero : ∀ {us : List Value}, xA [] us → us = []
 | _, .nil => rfl
theorem xA.rep {xs : List V} {us : List Value} (h : xA xs us) : ∀ k : Nat, xA (List.replicate k xs).flatten (List.replicate k us).flatten
 | 0 => .nil
 | k + 1 => by
   rw [List.replicate_succ, List.replicate_succ, List.flatten_cons, List.flatten_cons]
   exact xA.append h (xA.rep h k)
theorem za4 (its : List Value) : ∀ (k : Nat) (acc : List Value),
 List.foldl (fun x1 x2 => x1 ++ x2) acc.toArray (List.replicate k its.toArray) = (acc ++ (List.replicate k its).flatten).toArray
 | 0, acc => by simp
 | k + 1, acc => by
   have e : acc.toArray ++ its.toArray = (acc ++ its).toArray := by simp
   have e2 : (acc ++ its) ++ (List.replicate k its).flatten = acc ++ (List.replicate (k + 1) its).flatten := by
    rw [List.replicate_succ, List.flatten_cons, List.append_assoc]
   rw [← e2, ← za4 its k (acc ++ its), ← e, List.replicate_succ, List.foldl_cons]
section
variable {X : Cx} {pins : List (Addr × Obj)} {σ : St} {H : Hp} {s : Shared} {l b : Addr} {xs ys zs : List V}
theorem Inv.lset {its its' : List Value} {n : Nat} {f : Array Value → Array Value} {t' : Nat} (I : Inv X pins σ H s) (hH : H l = some (.lst xs))
 (e : s.heap.get? l = some { cls := .type "list", data := .seq its.toArray n }) (hf : f its.toArray = its'.toArray) (hv : xA ys its') (hz : ys.length ≤ sizeLine) :
 Inv X pins σ (upd H l (.lst ys)) { s with heap := s.heap.update l (Obj.mapSeq f), toks := t' } := by
 have q := PySem.IsL.update e f
 rw [hf] at q
 refine I.write (x := l) (e := l) (by rw [hH]; exact trivial) (.inl rfl) (fun b' u hb hu => (Heap.get?_update_other s.heap (Obj.mapSeq f) (Ne.symm hb)).trans hu) ⟨_, q⟩ ?_
 exact ⟨hz, its', _, hv, q⟩
theorem Inv.lnew {its : List Value} {t' : Nat} (I : Inv X pins σ H s) (hv : xA ys its) (hz : ys.length ≤ sizeLine) :
 Inv X pins σ (upd H s.heap.objs.size (.lst ys)) { s with heap := s.heap.push { cls := .type "list", data := .seq its.toArray }, toks := t' } :=
 I.laid (fun _ _ q => Heap.get?_push_of_some _ q) (Nat.le_refl _) ⟨hz, its, 0, hv, Heap.get?_push_size _ rfl⟩
theorem Inv.fresh (I : Inv X pins σ H s) : H s.heap.objs.size = none := I.hok.fresh (Nat.le_refl _)
theorem Inv.lstM (I : Inv X pins σ H s) (hH : H l = some (.lst xs)) : xs.length ≤ sizeLine ∧ ∃ (its : List Value) (n : Nat), xA xs its ∧ xs.length = its.length ∧ s.heap.get? l = some { cls := .type "list", data := .seq its.toArray n } := by
 obtain ⟨z, its, n, r, e⟩ := I.hok l _ hH
 exact ⟨z, its, n, r, r.length, e⟩
theorem zcd {n : Nat} (h : n ≤ sizeLine) : Builtin.List.listTooLong n = false := by
 unfold Builtin.List.listTooLong
 exact decide_eq_false (by omega)
end
section
variable {X : Cx}
def zdY : V → List V → Hp → VK → Prop := fun x vs H Q => ∃ l xs y, x = .ref l ∧ vs = [y] ∧ H l = some (.lst xs) ∧ xs.length < sizeLine ∧ Q .non (upd H l (.lst (xs ++ [y])))
theorem VE : MtM X "list.append" zdY := by
 intro pins s σ H x vs v us Q I rx rv h
 obtain ⟨l, xs, y, rfl, rfl, hH, hz, q⟩ := h
 cases rx
 obtain ⟨u, rfl, ru⟩ := rv.one
 obtain ⟨z, its, n, r, hl, e⟩ := I.lstM hH
 refine call_meets F.slot_list_append ⟨_, e, rfl⟩ F.entry_list_append (F.args_list_append_2 _ _) (PySem.list_append l its.toArray n u (by rw [List.size_toArray]; omega)) ⟨e, ?_⟩
 refine ⟨.non, _, I.lset (its' := its ++ [u]) hH e (by simp) (r.append (.cons ru .nil)) ?_, rfl, q⟩
 rw [List.length_append, List.length_singleton]
 omega
def zhx : V → List V → Hp → VK → Prop := fun x vs H Q => ∃ l b xs zs, x = .ref l ∧ vs = [.ref b] ∧ H l = some (.lst xs) ∧ H b = some (.lst zs) ∧ xs.length + zs.length ≤ sizeLine ∧ Q .non (upd H l (.lst (xs ++ zs)))
theorem mt_extend : MtM X "list.extend" zhx := by
 intro pins s σ H x vs v us Q I rx rv h
 obtain ⟨l, b, xs, zs, rfl, rfl, hH, hB, hz, q⟩ := h
 cases rx
 obtain ⟨u, rfl, ru⟩ := rv.one
 cases ru
 obtain ⟨z, its, n, r, hl, e⟩ := I.lstM hH
 obtain ⟨z2, its2, n2, r2, hl2, e2⟩ := I.lstM hB
 have hsz : its.toArray.size + its2.toArray.size ≤ sizeLine := by rw [List.size_toArray, List.size_toArray]; omega
 have hlong : ¬ (!its.toArray.isEmpty && Builtin.List.listTooLong (its.toArray.size + its2.toArray.size)) = true := by
  rw [zcd hsz, Bool.and_false]
  exact Bool.false_ne_true
 refine call_meets F.slot_list_extend ⟨_, e, rfl⟩ F.entry_list_extend (F.args_list_extend_2 _ _)
  (AutoSeq1.list_extend_list_list_0 l its.toArray n b its2.toArray n2 hlong (by rw [List.size_toArray]; omega) (by omega)) ⟨e, e2, ?_⟩
 refine ⟨.non, _, I.lset (its' := its ++ its2) hH e (by simp) (r.append r2) ?_, rfl, q⟩
 rw [List.length_append]
 omega
def rCat : R2 := fun x y H Q => ∃ l b xs zs, x = .ref l ∧ y = .ref b ∧ H l = some (.lst xs) ∧ H b = some (.lst zs) ∧ xs.length + zs.length ≤ sizeLine ∧ ∀ p, H p = none → Q (.ref p) (upd H p (.lst (xs ++ zs)))
theorem op_cat : OpR X (binaryOp .Add) rCat := by
 intro pins s σ H x y v u Q I rx ry h
 obtain ⟨l, b, xs, zs, rfl, rfl, hH, hB, hz, q⟩ := h
 cases rx
 cases ry
 obtain ⟨z, its, n, r, hl, e⟩ := I.lstM hH
 obtain ⟨z2, its2, n2, r2, hl2, e2⟩ := I.lstM hB
 refine PySem.P.add_list e e2 ?_ (by rw [List.size_toArray, List.size_toArray]; omega)
 have ea : its.toArray ++ its2.toArray = (its ++ its2).toArray := by simp
 rw [ea]
 exact ⟨.ref _, _, I.lnew (t' := s.toks) (r.append r2) (by rw [List.length_append]; omega), rfl, q _ I.fresh⟩
def rRep : R2 := fun x y H Q => ∃ l k xs, x = .ref l ∧ y = .int k ∧ H l = some (.lst xs) ∧ -(2 ^ 63) ≤ k ∧ k < 2 ^ 63 ∧ xs.length * k.toNat ≤ sizeLine ∧
 ∀ p, H p = none → Q (.ref p) (upd H p (.lst (List.replicate k.toNat xs).flatten))
theorem zhQ {α : Type} (xs : List α) (k : Nat) : (List.replicate k xs).flatten.length = k * xs.length := by
 induction k with
 | zero => simp
 | succ k ih => rw [List.replicate_succ, List.flatten_cons, List.length_append, ih, Nat.succ_mul, Nat.add_comm]
theorem op_rep : OpR X (binaryOp .Mult) rRep := by
 intro pins s σ H x y v u Q I rx ry h
 obtain ⟨l, k, xs, rfl, rfl, hH, h1, h2, hz, q⟩ := h
 cases rx
 obtain ⟨t, rfl⟩ := ry
 obtain ⟨z, its, n, r, hl, e⟩ := I.lstM hH
 have hlen : its.toArray.size * k.toNat ≤ sizeLine := by rw [List.size_toArray, ← hl]; exact hz
 have hcap : ¬ its.toArray.size * k.toNat > (2 ^ 63 - 1) / 8 := by
  have : (sizeLine : Nat) ≤ (2 ^ 63 - 1) / 8 := by decide
  omega
 have hfit : ¬ (!Builtin.List.listFitsIndex k) = true := by
  rw [fitsIndex_both h1 h2]
  exact Bool.false_ne_true
 have hlong : ¬ Builtin.List.listTooLong (its.toArray.size * k.toNat) = true := by
  rw [zcd hlen]
  exact Bool.false_ne_true
 have hnew : List.foldl (fun x1 x2 => x1 ++ x2) #[] (List.replicate (if its.toArray.isEmpty = true then 0 else k.toNat) its.toArray) = (List.replicate k.toNat its).flatten.toArray := by
  have f0 : ∀ m : Nat, List.foldl (fun x1 x2 => x1 ++ x2) #[] (List.replicate m its.toArray) = (List.replicate m its).flatten.toArray := fun m => by
   have := za4 its m []
   rw [List.nil_append] at this
   exact this
  rw [f0]
  cases its with
  | nil => simp
  | cons a r' => rw [if_neg (by simp)]
 refine wpAny_binaryOp_repeat_ref (T := "list") (U := "int") (by decide) ⟨_, e, rfl⟩ (fun s' => typeIs_int s' k t) noFill_list_mul F.fills_int_mul F.slot_int_rmul repeat_list F.slot_int_index.lookup
  (call_meets F.slot_int_rmul (typeIs_int s k t) F.entry_int_rmul (F.args_int_rmul_2 _ _) (int___rmul___int_list k t l its.toArray n)
   ⟨e, rfl, ⟨_, e, rfl⟩, call_meets F.slot_list_mul ⟨_, e, rfl⟩ F.entry_list_mul (F.args_list_mul_2 _ _) (AutoListH.list___mul___list_int_3 l its.toArray n k t hfit hcap hlong) ⟨e, ?_⟩⟩)
 rw [hnew]
 exact ⟨.ref _, _, I.lnew (t' := s.toks) (r.rep k.toNat) (by rw [zhQ, Nat.mul_comm]; exact hz), rfl, q _ I.fresh⟩
end
section
variable {prog : Program} {w : World} {A : Around} {E : Value → Shared → Prop} {s : Shared}
set_option maxRecDepth 100000 in
end
section
variable {X : Cx}
end
end L2
namespace Att
open PySem PySem.W PySem.Calls PyProof.Rows
theorem VL {P : Params} {h : Heap} : ∀ (ns : List Int) (vs : List Value), WellAll P h vs (ns.map WData.int) → IntsAre vs ns := by
 intro ns
 induction ns with
 | nil =>
   intro vs w
   rw [List.map_nil] at w
   cases w
   exact .nil
 | cons n ns ih =>
   intro vs w
   rw [List.map_cons] at w
   cases w with
   | cons a b =>
     cases a
     exact .cons _ _ (ih _ b)
theorem zdA {l : OpenLaw} {n : Nat} (hn : l.most = some n) {P : Params} {h : Heap} {args : List WData} {vals : List Value}
 (hpre : l.row.toRowW.claim.pre args = true) (hwl : WellAll P h vals args) :
 ∃ a vs ns, vals = [Value.ref a] ∧ args = [WData.list (ns.map WData.int)] ∧ h.get? a = some { cls := .type "list", data := .seq vs.toArray } ∧ IntsAre vs ns ∧ ns.length ≤ n := by
 have hsh : WShape.hasAll [] args [.list .int] = true := (pre_splitW hpre).1
 have hc : l.pre.holds [] { args := args } = true := (pre_splitW hpre).2
 obtain ⟨d, r, rfl, h1, h2⟩ := hasAllW_cons hsh
 obtain rfl := hasAllW_nil h2
 obtain ⟨xs, rfl, h3⟩ := hasW_list h1
 obtain ⟨ns, rfl⟩ := items_int h3
 have hlen : ns.length ≤ n := by
  unfold OpenLaw.pre at hc
  have h4 : (WTm.not (.lt (.lit (.int (n : Int))) (.len (.arg 0)))).holds [] { args := [.list (ns.map .int)] } = true := by
   have h4 := (holds_andW hc).1
   rw [hn] at h4
   exact h4
  have h5 := condW_of h4 (w_not (w_lt w_lit (w_len_list (w_arg rfl))))
  rw [List.length_map] at h5
  refine Nat.le_of_not_lt fun q => ?_
  have q' : (n : Int) < ((ns.length : Nat) : Int) := by omega
  first
   | (rw [decide_eq_true q'] at h5; exact absurd h5 (by decide))
   | (simp at h5; omega)
 cases hwl with
 | cons w1 w2 =>
   cases w2
   cases w1 with
   | list ho hall => exact ⟨_, _, ns, rfl, rfl, ho, VL ns _ hall, hlen⟩
theorem zd0 (l : OpenLaw) (args : List WData) : l.row.toRowW.claim.post args (.bool true) args = true :=
 postW_of (r := l.row.toRowW) (X := (true == true))
  (show WShape.has [] (.bool true) .bool = true by first | rfl | decide | simp [WShape.has, WShape.arms, WShape.armsAll])
  (show (WTm.eq .res (.lit (.bool true))).value [] { args := args, res := some (.bool true), after := args } = some (.bool (true == true)) from w_eq_bool (w_res rfl) w_lit) rfl
theorem attach_call {l : OpenLaw} {n : Nat} {q : Program} {loose : List Str} {XP : (Str → Option Value) → Heap → Prop} {YP : World → Heap → Prop} {d : DefRec}
 (hn : l.most = some n) (hdf : d.params.defaults = [])
 (call : ∀ (w : World) (s₀ s₁ : Shared) (mg mb : Str → Option Value) (fa : Addr) (o : Obj) (pm cd doc : Value) (a : Addr) (vs : List Value) (ns : List Int),
  Ground q loose [] XP w s₀ mg mb s₁.heap → YP w s₁.heap →
  s₁.heap.get? fa = some o → o.data = .func (docDef d.name d.params d.body d.scope pm cd doc) → s₁.heap.CodeRec cd d.name → mg d.name = some (.ref fa) →
  s₁.heap.get? a = some { cls := .type "list", data := .seq vs.toArray } → IntsAre vs ns → ns.length ≤ n → s₁.gens = #[] →
  codeAny (model l.prog w) callerA (.call (.ref fa) ⟨[.ref a], []⟩) (fun r s' => r = .ok (.ret (.bool true)) ∧ OldK s₁.heap s'.heap ∧ s'.os = s₁.os ∧ AllBare s'.gens) s₁) :
 WalkO q loose XP YP l.row.toRowW d [] (fun f vs => PySem.call f vs) := by
 intro w s₀ s₁ mg mb G Y fa o pm cd doc dV kV ho hd hcd hD hmg hg args vals as hpre hlay hrd hwl hlo
 obtain rfl : dV = .none := Dflts.none hD hdf
 obtain rfl : kV = .none := Dflts.noKw hD
 obtain ⟨a, vs, ns, rfl, rfl, hobj, hints, hlen⟩ := zdA hn hpre hwl
 refine enter_call (codeAny_mono (call w s₀ s₁ mg mb fa o pm cd doc a vs ns G Y ho (fd_plain hd) hcd hmg hobj hints hlen hg) fun r s' hq => ?_)
 obtain ⟨rfl, h2, h3, h4⟩ := hq
 exact ⟨.inl ⟨.bool true, .bool true, [], rfl, fun _ => rfl, .bool true, zd0 l _, fun _ => ⟨List.Pairwise.nil, fun _ hm => (nomatch hm)⟩⟩, h2, h3, h4⟩
section
variable {prog : Program} {w : World} {A : Around} {E : Value → Shared → Prop} {s : Shared} {K : Frag}
def ledger (h : Heap) (L d : Addr) : List (Addr × Obj) := (List.range h.objs.size).filterMap fun a => if a = L ∨ a = d then none else (h.get? a).map fun o => (a, o)
end
end Att
namespace L2
open PySem PySem.Spec PyProof.Rows
theorem zaq : ∀ {vs : List Value} {ns : List Int}, IntsAre vs ns → xA (ns.map V.int) vs
 | _, _, .nil => .nil
 | _, _, .cons n t h => .cons ⟨t, rfl⟩ (zaq h)
def Only (H : Hp) : Prop := ∀ b, H b = none ∨ ∃ o xs, H b = some (.frz o (.lst xs))
theorem zfT {P : Program} {w : World} {K : PySem.W.Frag} {mg mb : Str → Option Value} {CX : CXT} {k : Nat} {fa a : Addr} {fd : FuncData} {x : Str} {sp : Sp} {s₁ : Shared} {vs : List Value} {ns : List Int}
 (KX : K.In s₁.heap) (hns : s₁.heap.Ns mainGlobals mg) (hb : s₁.heap.Ns builtinsNs mb) (hbb : ∀ x : Str, x ≠ "__name__" → mb x = bootBuiltins x) (hlim : s₁.heap.NoLimit) (hg : s₁.gens = #[])
 (ha : s₁.heap.get? a = some { cls := .type "list", data := .seq vs.toArray }) (hi : IntsAre vs ns) (hl : ns.length ≤ sizeLine) (hr : Room k callerA)
 (F : ∀ base : Heap, K.In base → base.Ns mainGlobals mg → FnOk P w K mg base CX k fa fd [x] sp) (hbind : ∀ (s : Shared) (u : Value), BindsTo s fd ⟨[u], []⟩ [(x, u)])
 (hsp : ∀ H : Hp, Only H → SqL K H a (ns.map V.int) → sp [.ref a] H (fun v _ => v = .bl true) fun _ _ _ => False)
 (hCX : ∀ H e s', CX [] H s₁ (fun _ _ _ => False) e s' → False) :
 codeAny (model P w) callerA (.call (.ref fa) ⟨[.ref a], []⟩) (fun r s' => r = .ok (.ret (.bool true)) ∧ OldK s₁.heap s'.heap ∧ s'.os = s₁.os ∧ AllBare s'.gens) s₁ := by
 have rv := zaq hi
 have lenV := hi.length
 have core : ∀ H : Hp, Only H → SqL K H a (ns.map V.int) → HOk P w H s₁.heap → (∀ b, H b ≠ none → b = a) → (H a ≠ none → K.lookup a = none) →
  codeAny (model P w) callerA (.call (.ref fa) ⟨[.ref a], []⟩) (fun r s' => r = .ok (.ret (.bool true)) ∧ OldK s₁.heap s'.heap ∧ s'.os = s₁.os ∧ AllBare s'.gens) s₁ := by
  intro H hO hS hok hA hK
  have base_of : ∀ {b : Addr} {o : Obj}, s₁.heap.get? b = some o → H b = none → (zfY s₁.heap H).get? b = some o := fun e n => zfX e n
  have noA : ∀ {b : Addr} {o : Obj} {es : Array DictEntry} {ep : Nat}, s₁.heap.get? b = some o → o.data = .dict es ep → H b = none := fun {b o es ep} e d => by
   cases q : H b with
   | none => rfl
   | some u =>
     have e' : b = a := hA b (by rw [q]; simp)
     subst e'
     rw [ha] at e; cases e
     have d' : Data.seq vs.toArray _ = Data.dict es ep := d
     cases d'
  have nsK : ∀ {b : Addr} {m : Str → Option Value}, s₁.heap.Ns b m → (zfY s₁.heap H).Ns b m := fun {b m} ⟨o, es, ep, e, d, r⟩ => ⟨o, es, ep, base_of e (noA e d), d, r⟩
  have hKb : K.In (zfY s₁.heap H) := fun b o e => base_of (KX b o e) (by
   cases q : H b with
   | none => rfl
   | some u =>
     have e' : b = a := hA b (by rw [q]; simp)
     subst e'
     rw [hK (by rw [q]; simp)] at e; cases e)
  have hM : Mod K mg (zfY s₁.heap H) := ⟨hKb, nsK hns, ⟨mb, nsK hb, hbb⟩, let ⟨mc, h1, h2⟩ := hlim; ⟨mc, nsK h1, h2⟩⟩
  have e0 : Env0 P w K mg (zfY s₁.heap H) callerA [] s₁ H := ⟨rfl, hM, fun b o e => zhN e, Nat.le_of_eq (zew _ _), trivial, fun b hb => absurd (show b ∈ ([] : List Addr) from hb) (by simp), hok, .of_eq hg⟩
  refine codeAny_mono ((F _ hKb (nsK hns)).run callerA [] s₁ H ⟨[.ref a], []⟩ [.ref a] [.ref a] _ _ hr e0 (hbind s₁ (.ref a)) (.cons rfl .nil) (hsp H hO hS)) fun r s' h => ?_
  cases r with
  | error e => exact (hCX H e s' h).elim
  | ok fl =>
    cases fl with
    | next => exact False.elim h
    | brk => exact False.elim h
    | cont => exact False.elim h
    | ret u =>
      obtain ⟨v, H', os, bare, un, hok', r', q⟩ := h
      have q' : v = .bl true := q
      subst q'
      obtain rfl : u = Value.bool true := r'
      refine ⟨rfl, OldK.of_keep fun b o e => ?_, os, bare⟩
      cases q : H b with
      | none => exact un.keep b o e q (by intro z; exact absurd (show b ∈ ([] : List Addr) from z) (by simp)) (by simp)
      | some u =>
        rcases hO b with z | ⟨ob, xs, z⟩
        ·rw [q] at z; cases z
        ·have z2 := un.frzs b ob _ z
         obtain ⟨e1, _⟩ := hok b _ z
         obtain ⟨e2, _⟩ := hok' b _ z2
         rw [e] at e1; cases e1
         exact e2
 cases hk : K.lookup a with
 | some o =>
   have e := KX a o hk
   rw [ha] at e
   cases e
   refine core (fun _ => none) (fun _ => .inl rfl) (.inr ⟨_, vs.toArray, _, hk, rfl, rfl, rfl, by rw [List.size_toArray, lenV]; exact hl, by simpa using rv⟩) (fun b u z => by have z' : (none : Option HO) = some u := z; cases z') (fun b z => absurd rfl z) fun z => absurd rfl z
 | none =>
   refine core (fun b => if b = a then some (.frz { cls := .type "list", data := .seq vs.toArray } (.lst (ns.map V.int))) else none) (fun b => ?_) (.inl (.inr ⟨{ cls := .type "list", data := .seq vs.toArray }, if_pos rfl⟩)) (fun b u z => ?_) (fun b z => ?_) fun _ => hk
   ·by_cases hb : b = a
    ·exact .inr ⟨_, _, if_pos hb⟩
    ·exact .inl (if_neg hb)
   ·by_cases hb : b = a
    ·have z' := (if_pos hb).symm.trans z
     cases z'
     subst hb
     exact ⟨ha, by rw [List.length_map]; exact hl, vs, _, rv, ha⟩
    ·have z' := (if_neg hb).symm.trans z
     cases z'
   ·by_cases hb : b = a
    ·exact hb
    ·exact absurd (if_neg hb) z
end L2
namespace L2
open PySem PySem.Spec PyProof.Rows
theorem zgJ {l : PySem.W.OpenLaw} {n k : Nat} {q : Program} {loose : List Str} {XP : (Str → Option Value) → Heap → Prop} {YP : World → Heap → Prop} {d : DefRec} {K : Params → PySem.W.Frag} {CX : World → CXT} {sp : World → Sp} {x : Str}
 (hn : l.most = some n) (hn2 : n ≤ sizeLine) (hdf : d.params.defaults = []) (hr : Room k callerA)
 (hY : ∀ (w : World) (h : Heap), YP w h → (K w.params).In h)
 (F : ∀ (w : World) (mg : Str → Option Value) (fa : Addr) (h : Heap), (K w.params).In h → h.Ns mainGlobals mg → mg d.name = some (.ref fa) →
  ∃ fd : FuncData, (∀ (s : Shared) (u : Value), BindsTo s fd ⟨[u], []⟩ [(x, u)]) ∧
    ∀ base : Heap, (K w.params).In base → base.Ns mainGlobals mg → FnOk l.prog w (K w.params) mg base (CX w) k fa fd [x] (sp w))
 (hsp : ∀ (w : World) (H : Hp) (a : Addr) (ns : List Int), ns.length ≤ n → Only H → SqL (K w.params) H a (ns.map V.int) → sp w [.ref a] H (fun v _ => v = .bl true) fun _ _ _ => False)
 (hCX : ∀ (w : World) (H : Hp) (s : Shared) (e : Value) (s' : Shared), CX w [] H s (fun _ _ _ => False) e s' → False) :
 PySem.W.WalkO q loose XP YP l.row.toRowW d [] (fun f vs => PySem.call f vs) := by
 refine Att.attach_call hn hdf fun w s₀ s₁ mg mb fa o pm cd doc a vs ns G Y ho hd hcd hmg hobj hints hlen hg => ?_
 have KX := hY w _ Y
 obtain ⟨fd, hb, hF⟩ := F w mg fa _ KX G.T.g hmg
 exact zfT KX G.T.g G.T.b G.T.builtins G.T.nolimit hg hobj hints (Nat.le_trans hlen hn2) hr hF hb (fun H hO hS => hsp w H a ns hlen hO hS) fun H e s' => hCX w H s₁ e s'
end L2
namespace L2
open PySem PySem.Spec PyProof.Rows
def Zg (s : Stmt) (j : Nat) : Stmt := match s with
 | .ClassDef _ _ _ body _ _ _ _ _ _ _ => body.getD j (.Pass ⟨0, 0, 0, 0⟩)
 | _ => .Pass ⟨0, 0, 0, 0⟩
def zG (s : Stmt) : Arguments := match s with
 | .FunctionDef _ a _ _ _ _ _ _ _ _ => a
 | _ => { posonlyargs := [], args := [], vararg := none, kwonlyargs := [], kw_defaults := [], kwarg := none, defaults := [] }
def zF (s : Stmt) : List Stmt := match s with
 | .FunctionDef _ _ b _ _ _ _ _ _ _ => b
 | _ => []
def zi (s : Stmt) : Scope := match s with
 | .FunctionDef _ _ _ _ _ _ sc _ _ _ => sc
 | _ => { kind := .function, names := [], isGenerator := false, isCoroutine := false }
abbrev CX0 : CXT := fun _ _ _ _ _ _ => False
abbrev E0 : XK := fun _ _ _ => False
theorem zK {X : Cx} : Xk CX0 X E0 := fun _ _ _ _ _ _ _ h => h.elim
structure Fun (K : PySem.W.Frag) (x qual : Str) (st : Stmt) (f : Addr) (fd : FuncData) : Prop where
 ex : ∃ (oc : Value) (od : Option Addr) (kV doc pm : Value) (an : Option Addr) (cdv ct : Value) (osl : Array (Option Value)),
  fd = PySem.W.fnOf x qual (zG st) (zF st) (zi st) .none kV doc pm an cdv ct ∧ K.lookup f = some ⟨oc, od, .func fd, osl⟩ ∧ PySem.W.codeIn K cdv qual = true
 kp : PySem.W.keepIn K (.ref f) = true
section
variable {P : Program} {w : World} {K : PySem.W.Frag} {mg : Str → Option Value} {base : Heap}
theorem Fun.ok {x qual : Str} {st : Stmt} {f : Addr} {fd : FuncData} {N ps : List Str} {k : Nat} {sp : Sp} (F : Fun K x qual st f fd) (S : FnScope N ps (zi st)) (len : ∀ vs H Q E, sp vs H Q E → vs.length = ps.length)
 (hbody : ∀ (cdv : Value) (A : Around) (outer : List Env) (s : Shared) (H : Hp) (vs : List V) (Q : VK) (E : XK), Room k (A.deeper (envOfC qual (zi st) s.heap.objs.size f cdv)) → sp vs H Q E →
  ∃ t, PSs (zif CX0 P w K mg base N qual (zi st) f cdv A outer s H E).nox (zF st) t ∧ t { nx := fun _ H' => Q .non H', rt := Q } (zav N vs) H) : FnOk P w K mg base CX0 (k + 1) f fd ps sp := by
 obtain ⟨oc, od, kV, doc, pm, an, cdv, ct, osl, rfl, lk, hcd⟩ := F.ex
 refine fn_of lk hcd S len fun A outer s H vs Q E hr hsp => ?_
 obtain ⟨t, h, q⟩ := hbody cdv A outer s H vs Q E hr hsp
 exact ⟨t, h.nox, q⟩
theorem Fun.binds {x qual : Str} {st : Stmt} {f : Addr} {fd : FuncData} {ps : List Str} (F : Fun K x qual st f fd)
 (h : ∀ (kV doc pm : Value) (an : Option Addr) (cdv ct : Value) (us : List Value), us.length = ps.length → bindArgs (PySem.W.fnOf x qual (zG st) (zF st) (zi st) .none kV doc pm an cdv ct) ⟨us, []⟩ = pure (ps.zip us)) : xU K fd ps [] := by
 obtain ⟨oc, od, kV, doc, pm, an, cdv, ct, osl, rfl, lk, hcd⟩ := F.ex
 exact .all (h kV doc pm an cdv ct)
theorem zQ {x qual : Str} {st : Stmt} {f : Addr} {oc : Value} {od an : Option Addr} {osl : Array (Option Value)} {kV doc pm cdv ct : Value} (l : K.lookup f = some ⟨oc, od, .func (PySem.W.fnOf x qual (zG st) (zF st) (zi st) .none kV doc pm an cdv ct), osl⟩)
 (c : PySem.W.codeIn K cdv qual = true) (k : PySem.W.keepIn K (.ref f) = true) : Fun K x qual st f (PySem.W.fnOf x qual (zG st) (zF st) (zi st) .none kV doc pm an cdv ct) := ⟨⟨oc, od, kV, doc, pm, an, cdv, ct, osl, rfl, l, c⟩, k⟩
end
theorem Yq {n : Nat} (h : n ≤ 1000) : n < sizeLine := Nat.lt_of_le_of_lt h (by decide)
section
variable {X : Cx}
theorem pv (i : Nat) {x : Str} {pos : Pos} (hN : X.N[i]? = some x := by rfl) (hv : Vis X.env.scope x := by first | exact Or.inl rfl | exact Or.inr (Or.inl rfl) | exact Or.inr (Or.inr rfl)) (hd : (x == ("__debug__" : Str)) = false := by decide)
 (hcd : (x == ("__classdict__" : Str)) = false := by decide) : PE X (.Name x pos) (tVar i) := pe_var hN hv hd hcd
end
theorem iteF {A B : Prop} (h : B) : if false = true then A else B := by
 rw [if_neg Bool.false_ne_true]
 exact h
theorem iteT {A B : Prop} (h : A) : if true = true then A else B := by
 rw [if_pos rfl]
 exact h
theorem zfV {c A B : Prop} [Decidable c] (hc : c) (h : B) : if (!decide c) = true then A else B := by
 rw [decide_eq_true hc]
 exact iteF h
def yc (H H' : Hp) : Prop := ∀ b o, H b = some o → H' b = some o
theorem yc.refl (H : Hp) : yc H H := fun _ _ h => h
theorem yc.trans {H H1 H2 : Hp} (a : yc H H1) (b : yc H1 H2) : yc H H2 := fun c o h => b c o (a c o h)
theorem yc.free {H H' : Hp} (e : yc H H') {l : Addr} (h : H' l = Option.none) : H l = Option.none := by
 cases q : H l with
 | none => rfl
 | some o =>
   rw [e l o q] at h
   cases h
theorem yc.seq {K : PySem.W.Frag} {H H' : Hp} {a : Addr} {xs : List V} (e : yc H H') (h : SqL K H a xs) : SqL K H' a xs := by
 rcases h with (h | ⟨o, h⟩) | h
 ·exact .inl (.inl (e _ _ h))
 ·exact .inl (.inr ⟨o, e _ _ h⟩)
 ·exact .inr h
end L2
namespace L2
open PySem PySem.W PySem.Spec PySem.Calls PyProof.Rows
section
variable {X : Cx} {e v1 v2 : Expr} {es rest : List Expr} {te : TE} {pos p2 : Pos}
theorem YW {CX : CXT} {k : Nat} {f C : Addr} {fd : FuncData} {ps : List Str} {sp : Sp} {E : XK} {c m : Str} {p apos : Pos} {t : TA} {pl : Sem Bool} (hg : Gl X c) (hm : X.mg c = some (.ref C))
 (hs : specialIn X.K (.ref C) "__getattribute__" = some (some (.builtin "type.__getattribute__"))) (hrd : readsIn X.K C (.type "type") = true) (hf : findCls X.K (.ref C) (.type "type") m = some (.val (.ref f)))
 (F : FnOk X.prog X.w X.K X.mg X.base CX k f fd ps sp) (hr : Room k X.A) (hk : PySem.W.keepIn X.K (.ref f) = true) (hb : xU X.K fd ps []) (hx : Xk CX X E) (ha : PA X (e :: es) t)
 (hd : (c == ("__debug__" : Str)) = false := by decide) (hst : starEach (e :: es) X.env = (false, eval e X.env) :: starEach es X.env := by rfl) (hpl : (backTo pos (starEach es X.env)).any (·.1) = false := by rfl)
 (ht : eval (.Call (.Attribute (.Name c p) m apos) (e :: es) [] pos) X.env = (do
  let ov ← eval (.Name c p) X.env
  standAt apos.atName
  let (f, first) ← holding [ov] (getMethod ov m pl)
  callWith pos f first (backTo pos (starEach (e :: es) X.env)) (backToKw pos (keywordEach [] X.env))) := by rfl) :
 PE X (.Call (.Attribute (.Name c p) m apos) (e :: es) [] pos) (zdm sp [] E t) := by
 intro pins s σ H Q I h
 refine PySem.W.methodCall_KW (pl := pl) (VH I hg hm ?_ hd) ht
 refine method_cls I.kIn hs (cls_value I.kIn hrd hf rfl ?_)
 have I1 := I.tok (s.toks + 1)
 refine PySem.W.callWith_K (first := []) (h₀ := X.base) I.ok.mod.kin hk (thn (ha pos pins _ σ H _ I1 h) fun us s2 ⟨vs, H2, I2, r, q2⟩ => ⟨I2.kIn, ?_⟩) hst hpl
 exact zb4 (us := us) (vs := vs) F hr hb .nil hx I2 r q2
def zgh (K : PySem.W.Frag) (m : Str) (f : Addr) (sp : Sp) (E : XK) (ta : TE) : TE := fun σ H Q => ta σ H fun x H1 => ∃ a C dx fs, x = .ref a ∧ H1 a = some (.ins C dx fs) ∧ Cls K C ∧ Meth K C m f ∧ fs.lookup m = none ∧ sp [x] H1 Q E
theorem UW {CX : CXT} {k : Nat} {f : Addr} {fd : FuncData} {ps : List Str} {sp : Sp} {E : XK} {m : Str} {apos : Pos} {pl : Sem Bool} (he : PE X e te) (F : FnOk X.prog X.w X.K X.mg X.base CX k f fd ps sp) (hr : Room k X.A) (hb : xU X.K fd ps []) (hx : Xk CX X E)
 (ht : eval (.Call (.Attribute e m apos) [] [] pos) X.env = (do
  let ov ← eval e X.env
  standAt apos.atName
  let (f, first) ← holding [ov] (getMethod ov m pl)
  callWith pos f first (backTo pos (starEach [] X.env)) (backToKw pos (keywordEach [] X.env))) := by rfl) :
 PE X (.Call (.Attribute e m apos) [] [] pos) (zgh X.K m f sp E te) := by
 intro pins s σ H Q I h
 refine PySem.W.methodCall_KW (pl := pl) (thn (he pins s σ H _ I h) fun u s1 ⟨x, H1, I1, rx, a, C, dx, fs, ex, ea, c, k, l, q⟩ => ?_) ht
 subst ex
 cases (show u = Value.ref a from rx)
 refine Ux I1 ea c k l ?_
 exact PySem.W.callWith_K0 (first := [.ref a]) I1.kIn k.kp (zb4 (us := [.ref a]) (vs := [.ref a]) F hr hb .nil hx I1 (.cons rfl .nil) q)
def rIsC (K : PySem.W.Frag) : List V → Hp → VK → Prop := fun xs H Q => ∃ (x : V) (c : Addr) (t : Value) (b : Bool), xs = [x, .ref c] ∧ TyOf K H x t ∧ PySem.W.kitOne K t (.ref c) = some b ∧ Q (.bl b) H
theorem zf6 : YG X (.builtin "isinstance") (rIsC X.K) := by
 intro pins s σ H xs us Q I r h
 obtain ⟨x, c, t, b, rfl, ty, e, q⟩ := h
 obtain ⟨u, w', rfl, r1, r2⟩ := ze4 r
 cases (show w' = Value.ref c from r2)
 exact za3 I r1 ty e fun tk => ⟨.bl b, H, I.tok tk, rfl, q⟩
end
end L2
namespace S
open PySem PySem.Spec PyProof.Rows L2
def Sz (n : Nat) (x : Int) : Prop := x.natAbs < 2 ^ n
theorem Sz.mono {m n : Nat} {x : Int} (h : Sz m x) (l : m ≤ n) : Sz n x := Nat.lt_of_lt_of_le h (Nat.pow_le_pow_right (by decide) l)
theorem Sz.bits {n : Nat} {x : Int} (h : Sz n x) : Builtin.Int.intBits x ≤ n := intBits_le_iff.mpr h
theorem Sz.of {n : Nat} {x : Int} (h : Builtin.Int.intBits x ≤ n) : Sz n x := intBits_le_iff.mp h
theorem Sz.mulOk {m n : Nat} {x y : Int} (h : Sz m x) (g : Sz n y) (l : m + n ≤ 134217728) : IntMulOk x y := IntMulOk.of_le h.bits g.bits l
theorem Sz.mul {m n : Nat} {x y : Int} (h : Sz m x) (g : Sz n y) : Sz (m + n) (x * y) := Sz.of (intBits_mul_le h.bits g.bits)
theorem Sz.add {n : Nat} {x y : Int} (h : Sz n x) (g : Sz n y) : Sz (n + 1) (x + y) := Sz.of (Nat.le_trans (intBits_add_le h.bits g.bits) (by omega))
theorem Sz.sub {n : Nat} {x y : Int} (h : Sz n x) (g : Sz n y) : Sz (n + 1) (x - y) := Sz.of (Nat.le_trans (intBits_sub_le h.bits g.bits) (by omega))
theorem Sz.le {n : Nat} {x y : Int} (h : Sz n x) (l : y.natAbs ≤ x.natAbs) : Sz n y := Nat.lt_of_le_of_lt l h
theorem Sz.log {n : Nat} {x : Int} (h : Sz n x) (l : n ≤ 8999) : x.natAbs.log2 < 9000 := by
 by_cases h0 : x.natAbs = 0
 ·rw [h0]; decide +kernel
 ·have := (Nat.log2_lt h0).mpr (Sz.mono h l)
  omega
section
variable {X : Cx}
theorem zS : OpR X (binaryOp .Mult) (rI IntMulOk fun i j => .int (i * j)) := opI fun _ _ _ _ _ _ _ hc q => mul_int q hc
def CDv (_ j : Int) : Prop := j ≠ 0 ∧ Sz 8999 j
theorem Yd : OpR X (binaryOp .FloorDiv) (rI CDv fun i j => .int (i.fdiv j)) := opI fun i j _ _ _ _ _ hc q =>
 floordiv_int hc.1 q (.inl (PyProof.noPylong_of_log2 (hc.2.log (Nat.le_refl _))))
end
mutual
def Is (H : Hp) : PyData → V → Prop
 | .none, v => v = .non
 | .bool b, v => v = .bl b
 | .int i, v => v = .int i
 | .str x, v => v = .str x
 | .list xs, v => ∃ p vs, v = .ref p ∧ H p = some (.lst vs) ∧ zM H xs vs
 | .tuple xs, v => ∃ p vs, v = .ref p ∧ H p = some (.tup vs) ∧ zM H xs vs
 | .dict kvs, v => ze1 H kvs v
def zM (H : Hp) : List PyData → List V → Prop
 | [], vs => vs = []
 | x :: xs, vs => ∃ v r, vs = v :: r ∧ Is H x v ∧ zM H xs r
def ze1 (H : Hp) : List (PyData × PyData) → V → Prop
 | [(c, x)], v => ∃ (p C dx : Addr) (w : V), c = .int ((C : Nat) : Int) ∧ v = .ref p ∧ H p = some (.ins C dx [("form", w)]) ∧ Is H x w
 | _, _ => False
end
mutual
theorem Is.mono {H H' : Hp} (e : yc H H') : ∀ (d : PyData) (v : V), Is H d v → Is H' d v
 | .none, v, h => by simpa only [Is] using h
 | .bool b, v, h => by simpa only [Is] using h
 | .int i, v, h => by simpa only [Is] using h
 | .str x, v, h => by simpa only [Is] using h
 | .list xs, v, h => by
   rw [Is] at h ⊢
   obtain ⟨p, vs, e1, e2, e3⟩ := h
   exact ⟨p, vs, e1, e _ _ e2, zM.mono e xs vs e3⟩
 | .tuple xs, v, h => by
   rw [Is] at h ⊢
   obtain ⟨p, vs, e1, e2, e3⟩ := h
   exact ⟨p, vs, e1, e _ _ e2, zM.mono e xs vs e3⟩
 | .dict kvs, v, h => by
   rw [Is] at h ⊢
   exact ze1.mono e kvs v h
theorem ze1.mono {H H' : Hp} (e : yc H H') : ∀ (d : List (PyData × PyData)) (v : V), ze1 H d v → ze1 H' d v
 | [], v, h => by rw [ze1] at h; exact h.elim; simp
 | [(c, x)], v, h => by
   rw [ze1] at h ⊢
   obtain ⟨p, C, dx, w, e1, e2, e3, e4⟩ := h
   exact ⟨p, C, dx, w, e1, e2, e _ _ e3, Is.mono e x w e4⟩
 | _ :: _ :: _, v, h => by rw [ze1] at h; exact h.elim; simp
theorem zM.mono {H H' : Hp} (e : yc H H') : ∀ (d : List PyData) (v : List V), zM H d v → zM H' d v
 | [], v, h => by rw [zM] at h ⊢; exact h
 | x :: xs, v, h => by
   rw [zM] at h ⊢
   obtain ⟨v, r, e1, e2, e3⟩ := h
   exact ⟨v, r, e1, Is.mono e x v e2, zM.mono e xs r e3⟩
end
theorem yc.new {H : Hp} {p : Addr} (h : H p = none) (o : HO) : yc H (upd H p o) := fun b u q => by rw [ye (yf q h)]; exact q
section
variable {X : Cx} {pins : List (Addr × Obj)} {σ : L2.St} {H : Hp} {s : Shared}
mutual
theorem Is.reads (I : Inv X pins σ H s) : ∀ (d : PyData) (v : V) (u : Value), d.canLay0 = true → Is H d v → ZH v u → ∃ as, Reads s.heap u d as
 | .none, v, u, lay, h, r => by rw [Is] at h; subst h; cases (show u = Value.none from r); exact ⟨_, .none⟩
 | .bool b, v, u, lay, h, r => by rw [Is] at h; subst h; cases (show u = Value.bool b from r); exact ⟨_, .bool b⟩
 | .int i, v, u, lay, h, r => by rw [Is] at h; subst h; obtain ⟨t, rfl⟩ := (show ∃ t, u = Value.int i t from r); exact ⟨_, .int i t⟩
 | .str x, v, u, lay, h, r => by rw [Is] at h; subst h; obtain ⟨t, rfl⟩ := (show ∃ t, u = Value.str x t from r); exact ⟨_, .str x t⟩
 | .list xs, v, u, lay, h, r => by
   rw [Is] at h
   obtain ⟨p, vs, e1, e2, e3⟩ := h
   subst e1
   cases (show u = Value.ref p from r)
   obtain ⟨_, its, n, hv, hp⟩ := (show Zv X.prog X.w H s.heap p (.lst vs) from I.hok p _ e2)
   obtain ⟨as, q⟩ := zM.reads I xs vs its (by rw [PyData.canLay0] at lay; exact lay) e3 hv
   exact ⟨_, .list hp rfl rfl (by simpa using q)⟩
 | .tuple xs, v, u, lay, h, r => by
   rw [Is] at h
   obtain ⟨p, vs, e1, e2, e3⟩ := h
   subst e1
   cases (show u = Value.ref p from r)
   obtain ⟨_, its, hv, hp⟩ := (show Zv X.prog X.w H s.heap p (.tup vs) from I.hok p _ e2)
   obtain ⟨o, h1, h2, n, h3⟩ := hp
   obtain ⟨as, q⟩ := zM.reads I xs vs its (by rw [PyData.canLay0] at lay; exact lay) e3 hv
   exact ⟨_, .tuple h1 h2 h3 (by simpa using q)⟩
 | .dict _, v, u, lay, h, r => by rw [PyData.canLay0] at lay; cases lay
theorem zM.reads (I : Inv X pins σ H s) : ∀ (d : List PyData) (v : List V) (u : List Value), PyData.canLayAll0 d = true → zM H d v → xA v u → ∃ as, ReadsAll s.heap u d as
 | [], v, u, lay, h, r => by rw [zM] at h; subst h; cases xA.zero r; exact ⟨_, .nil⟩
 | x :: xs, v, u, lay, h, r => by
   rw [PyData.canLayAll0, Bool.and_eq_true] at lay
   rw [zM] at h
   obtain ⟨v, w, e1, e2, e3⟩ := h
   subst e1
   cases r with
   | cons r1 r2 =>
     obtain ⟨as, q⟩ := Is.reads I x v _ lay.1 e2 r1
     obtain ⟨bs, q2⟩ := zM.reads I xs w _ lay.2 e3 r2
     exact ⟨_, .cons q q2⟩
end
end
def rEqD : R2 := fun x y H Q => ∃ d e, Is H d x ∧ Is H e y ∧ SeqAt.shaped d = true ∧ SeqAt.shaped e = true ∧ Q (.bl (PyData.eqv d e)) H
def rNeD : R2 := fun x y H Q => ∃ d e, Is H d x ∧ Is H e y ∧ SeqAt.shaped d = true ∧ SeqAt.shaped e = true ∧ Q (.bl (!PyData.eqv d e)) H
section
variable {X : Cx}
theorem op_eqD (hu : X.A.units + 64 < cLine) : OpR X (compareOp .Eq) rEqD := by
 intro pins s σ H x y v u Q I rx ry h
 obtain ⟨d, e, h1, h2, h3, h4, q⟩ := h
 obtain ⟨as, r1⟩ := Is.reads I d x v (SeqAt.canLay_of_shaped h3) h1 rx
 obtain ⟨bs, r2⟩ := Is.reads I e y u (SeqAt.canLay_of_shaped h4) h2 ry
 exact eq_dataH r1 r2 h3 h4 hu ⟨.bl _, H, I, rfl, q⟩
theorem op_neD (hu : X.A.units + 64 < cLine) : OpR X (compareOp .NotEq) rNeD := by
 intro pins s σ H x y v u Q I rx ry h
 obtain ⟨d, e, h1, h2, h3, h4, q⟩ := h
 obtain ⟨as, r1⟩ := Is.reads I d x v (SeqAt.canLay_of_shaped h3) h1 rx
 obtain ⟨bs, r2⟩ := Is.reads I e y u (SeqAt.canLay_of_shaped h4) h2 ry
 exact ne_dataH r1 r2 h3 h4 hu ⟨.bl _, H, I, rfl, q⟩
end
def rIsi (K : PySem.W.Frag) : List V → Hp → VK → Prop := fun xs H Q => ∃ (x : V) (T : String) (t : Value) (b : Bool), xs = [x, .ty T] ∧ TyOf K H x t ∧ PySem.W.kitOne K t (.type T) = some b ∧ Q (.bl b) H
section
variable {X : Cx}
theorem Ve : YG X (.builtin "isinstance") (rIsi X.K) := by
 intro pins s σ H xs us Q I r h
 obtain ⟨x, T, t, b, rfl, ty, e, q⟩ := h
 obtain ⟨u, w', rfl, r1, r2⟩ := ze4 r
 cases (show w' = Value.type T from r2)
 exact za3 I r1 ty e fun tk => ⟨.bl b, H, I.tok tk, rfl, q⟩
end
structure Cal (P : Program) (w : World) (K : PySem.W.Frag) (mg : Str → Option Value) (base : Heap) (CX : CXT) (k : Nat) (x : Str) (ps : List Str) (sp : Sp) : Prop where
 ex : ∃ (f : Addr) (fd : FuncData), FnOk P w K mg base CX k f fd ps sp ∧ mg x = some (.ref f) ∧ PySem.W.keepIn K (.ref f) = true ∧ xU K fd ps []
section
variable {X : Cx} {CX : CXT} {k j : Nat} {ps : List Str} {sp : Sp} {E : XK} {x : Str} {p pos : Pos} {e : Expr} {es : List Expr} {t : TA}
theorem zv (C : Cal X.prog X.w X.K X.mg X.base CX k x ps sp) (hr : Room j X.A) (hk : k ≤ j) (hx : Xk CX X E) (hg : Gl X x)
 (ha : PA X (e :: es) t) (hdb : (x == ("__debug__" : Str)) = false := by decide) (he : starEach (e :: es) X.env = (false, eval e X.env) :: starEach es X.env := by rfl) (hpl : (backTo pos (starEach es X.env)).any (·.1) = false := by rfl) :
 PE X (.Call (.Name x p) (e :: es) [] pos) (zdm sp [] E t) := by
 obtain ⟨f, fd, F, hm, hk2, hb⟩ := C.ex
 exact zhE F (hr.mono hk) hg hm hk2 hb .nil hx ha hdb he hpl
end
theorem zH {A : Around} {k : Nat} (hr : Room k A) : A.units + 64 < cLine := hr.units
def frD (q : Rat) : PyData := .tuple [.int q.num, .int (q.den : Int)]
def SzQ (n : Nat) (q : Rat) : Prop := Sz n q.num ∧ Sz n (q.den : Int)
theorem SzQ.mono {m n : Nat} {q : Rat} (h : SzQ m q) (l : m ≤ n) : SzQ n q := ⟨h.1.mono l, h.2.mono l⟩
theorem den_pos (q : Rat) : (0 : Int) < (q.den : Int) := Int.natCast_pos.mpr q.den_pos
theorem SzQ.divInt {n : Nat} {a b : Int} (ha : Sz n a) (hb : Sz n b) (h0 : b ≠ 0) : SzQ n (Rat.divInt a b) := by
 constructor
 ·refine ha.le ?_
  rw [Rat.num_divInt, Int.natAbs_ediv_of_dvd ?_]
  ·rw [Int.natAbs_mul]
   have e : b.sign.natAbs = 1 := Int.natAbs_sign_of_ne_zero h0
   rw [e, Nat.one_mul]
   exact Nat.div_le_self _ _
  ·exact Int.dvd_trans (Int.gcd_dvd_right b a) (Int.dvd_mul_left _ _)
 ·refine hb.le ?_
  rw [Rat.den_divInt, if_neg h0]
  show b.natAbs / b.gcd a ≤ b.natAbs
  exact Nat.div_le_self _ _
theorem YE : bootBuiltins "len" = some (.builtin "len") := by decide +kernel
theorem zeU : bootBuiltins "abs" = some (.builtin "abs") := by decide +kernel
theorem zeT : bootBuiltins "min" = some (.builtin "min") := by decide +kernel
theorem bt_max : bootBuiltins "max" = some (.builtin "max") := by decide +kernel
theorem xR : bootBuiltins "isinstance" = some (.builtin "isinstance") := by decide +kernel
theorem bt_int : bootBuiltins "int" = some (.type "int") := by decide +kernel
theorem zh7 : bootBuiltins "bool" = some (.type "bool") := by decide +kernel
theorem Yj : bootBuiltins "tuple" = some (.type "tuple") := by decide +kernel
theorem zh6 : bootBuiltins "list" = some (.type "list") := by decide +kernel
theorem za9 : bootBuiltins "enumerate" = some (.type "enumerate") := by decide +kernel
theorem bt_zip : bootBuiltins "zip" = some (.type "zip") := by decide +kernel
theorem zbN : bootBuiltins "reversed" = some (.type "reversed") := by decide +kernel
theorem Wb : bootBuiltins "sum" = some (.builtin "sum") := by decide +kernel
structure Bl (mg : Str → Option Value) : Prop where
 len : mg "len" = none
 abs : mg "abs" = none
 min : mg "min" = none
 max : mg "max" = none
 isinstance : mg "isinstance" = none
 range : mg "range" = none
 int : mg "int" = none
 bool : mg "bool" = none
 tuple : mg "tuple" = none
 list : mg "list" = none
 enumerate : mg "enumerate" = none
 zip : mg "zip" = none
 reversed : mg "reversed" = none
 ValueError : mg "ValueError" = none
 sum : mg "sum" = none
 str : mg "str" = none
theorem zgC {c A B : Prop} [Decidable c] (h1 : ¬ c → A) (h2 : c → B) : if (!decide c) = true then A else B := by
 by_cases hc : c
 ·rw [decide_eq_true hc]; exact h2 hc
 ·rw [decide_eq_false hc]; exact h1 hc
theorem Yo {c A B : Prop} [Decidable c] (h1 : c → A) (h2 : ¬ c → B) : if decide c = true then A else B := by
 by_cases hc : c
 ·rw [decide_eq_true hc]; exact h1 hc
 ·rw [decide_eq_false hc]; exact h2 hc
theorem zga {ms : List Int} {k : Int} (h0 : 0 ≤ k) (h : k < (ms.length : Int)) : atI (ms.map V.int) k = some (.int (ms.getD k.toNat 0)) := by
 have hk : k.toNat < ms.length := by omega
 have ek : k = ((k.toNat : Nat) : Int) := by omega
 have q : atI (ms.map V.int) ((k.toNat : Nat) : Int) = some (.int (ms.getD k.toNat 0)) := Yk (by rw [List.getElem?_map, List.getElem?_eq_getElem hk, List.getD_eq_getElem?_getD, List.getElem?_eq_getElem hk]; rfl)
 rwa [← ek] at q
theorem Wy {a b : Int} (hb : 0 < b) : (a.fdiv (Int.gcd a b : Nat) = (Rat.divInt a b).num) ∧ b.fdiv (Int.gcd a b : Nat) = ((Rat.divInt a b).den : Int) := by
 have g0 : (0 : Int) ≤ ((Int.gcd a b : Nat) : Int) := Int.natCast_nonneg _
 rw [Int.fdiv_eq_ediv_of_nonneg _ g0, Int.fdiv_eq_ediv_of_nonneg _ g0, Rat.num_divInt, Rat.den_divInt, if_neg (by omega), Int.gcd_comm b a, Int.sign_eq_one_of_pos hb, Int.one_mul]
 refine ⟨rfl, ?_⟩
 have e : b = (b.natAbs : Int) := by omega
 rw [Int.natCast_ediv, ← e]
theorem zep {a b : Int} (hb : b < 0) : (a.fdiv (-((Int.gcd a b : Nat) : Int)) = (Rat.divInt a b).num) ∧ b.fdiv (-((Int.gcd a b : Nat) : Int)) = ((Rat.divInt a b).den : Int) := by
 have h := Wy (a := -a) (b := -b) (by omega)
 rw [Rat.neg_divInt_neg, Int.neg_gcd, Int.gcd_neg] at h
 rw [← h.1, ← h.2]
 constructor
 ·rw [← Int.neg_fdiv_neg, Int.neg_neg]
 ·rw [← Int.neg_fdiv_neg, Int.neg_neg]
theorem zbT {n : Nat} (h : 1 ≤ n) {x : Int} (h1 : -2 < x) (h2 : x < 2) : Sz n x := Sz.mono (show Sz 1 x by unfold Sz; omega) h
theorem zcm (a b : Int) : Int.gcd b (a % b) = Int.gcd a b := by
 have e : a % b = a - b * (a / b) := by have := Int.mul_ediv_add_emod a b; omega
 rw [e, Int.gcd_sub_mul_left_right, Int.gcd_comm]
end S
namespace S
open PySem PySem.Spec PyProof.Rows L2
def yO (cells : List (Str × Addr)) : List (Str × NameKind) → List (Str × Addr) → List (Str × Addr)
 | [], acc => acc
 | (n, k) :: r, acc => yO cells r (if k == .free then (n, (cells.lookup n).getD 0) :: acc else acc)
theorem Yh {scope : Scope} {env : Env} (h : ∀ y ∈ scope.names, y.2 = .free → ∃ c, env.cells.lookup y.1 = some c) : closureFor scope env = pure (yO env.cells scope.names []) := by
 have key : ∀ (names : List (Str × NameKind)) (acc : List (Str × Addr)), (∀ y ∈ names, y.2 = .free → ∃ c, env.cells.lookup y.1 = some c) →
  (forIn names acc fun x r => match x with
   | (name, kind) => if (kind == NameKind.free) = true then do
    let a ← cellOf env name
    pure (ForInStep.yield ((name, a) :: r))
    else pure (ForInStep.yield r) : Sem (List (Str × Addr))) = pure (yO env.cells names acc) := by
  intro names
  induction names with
  | nil => intro acc _; rfl
  | cons y r ih =>
    intro acc hy
    obtain ⟨n, k⟩ := y
    rw [List.forIn_cons, yO]
    have hr := fun z hz => hy z (List.mem_cons_of_mem _ hz)
    cases hk : k == NameKind.free with
    | false =>
      simp only [hk, Bool.false_eq_true, if_false, pure_bind]
      exact ih acc hr
    | true =>
      obtain ⟨c, hc⟩ := hy (n, k) (List.mem_cons_self ..) (by simpa using hk)
      have hc' : cellOf env n = pure c := by unfold cellOf; rw [hc]
      simp only [hk, if_true, hc', pure_bind, hc, Option.getD_some]
      exact ih _ hr
 simp only [closureFor]
 rw [key _ _ h]
 rfl
theorem Yi {cells : List (Str × Addr)} {x : Str} {c : Addr} : ∀ {names : List (Str × NameKind)} {acc : List (Str × Addr)}, (∀ y ∈ names, y.2 = .free → ∃ c, cells.lookup y.1 = some c) → (∀ c, acc.lookup x = some c → cells.lookup x = some c) →
 (yO cells names acc).lookup x = some c → cells.lookup x = some c
 | [], acc, _, ha, h => ha c h
 | (n, k) :: r, acc, hn, ha, h => by
   rw [yO] at h
   refine Yi (fun z hz => hn z (List.mem_cons_of_mem _ hz)) (fun c' hc' => ?_) h
   cases hk : k == NameKind.free with
   | false => rw [hk] at hc'; simp only [Bool.false_eq_true, if_false] at hc'; exact ha c' hc'
   | true =>
     rw [hk] at hc'
     simp only [if_true] at hc'
     obtain ⟨d, hd⟩ := hn (n, k) (List.mem_cons_self ..) (by simpa using hk)
     rw [List.lookup_cons] at hc'
     cases hx : x == n with
     | true =>
       rw [hx] at hc'
       have e : x = n := by simpa using hx
       subst e
       have hd' : cells.lookup x = some d := hd
       rw [hd'] at hc' ⊢
       exact hc'
     | false => rw [hx] at hc'; exact ha c' hc'
theorem ZV {cells : List (Str × Addr)} {x : Str} : ∀ {names : List (Str × NameKind)} {acc : List (Str × Addr)}, ((x, NameKind.free) ∈ names ∨ (acc.lookup x).isSome = true) → ((yO cells names acc).lookup x).isSome = true
 | [], acc, h => by
   rcases h with h | h
   ·exact absurd h (List.not_mem_nil)
   ·exact h
 | (n, k) :: r, acc, h => by
   rw [yO]
   refine ZV ?_
   have keep : (acc.lookup x).isSome = true → ((if (k == NameKind.free) = true then (n, (cells.lookup n).getD 0) :: acc else acc).lookup x).isSome = true := fun z => by
    split
    ·rw [List.lookup_cons]; split <;> simp [z]
    ·exact z
   rcases h with h | h
   ·rcases List.mem_cons.mp h with e | e
    ·cases e
     refine .inr ?_
     simp
    ·exact .inl e
   ·exact .inr (keep h)
def ZU (X : Cx) (N : List Str) (scope : Scope) (C : Addr) (ex : List Addr) (s : Shared) (H : Hp) : Cx where
 prog := X.prog
 w := X.w
 K := X.K
 mg := X.mg
 base := X.base
 A := X.A
 N := N
 s₀ := s
 H₀ := H
 env := compEnvC scope (yO X.env.cells scope.names []) C X.env
 outer := X.stack
 stack := X.stack
 ex := ex
 fn := fun _ => false
 calm := X.calm
 pn := []
 xe := fun _ _ => False
def frσ (σ : L2.St) (fr : List Nat) : L2.St := fr.map fun j => (σ[j]?).getD none
structure CompOk (X : Cx) (N : List Str) (n : Nat) (fr : List Nat) (scope : Scope) : Prop where
 kind : scope.kind = .function
 nd : N.Nodup
 names : (N.drop n) = fr.map (fun j => (X.N[j]?).getD ("" : Str))
 own : n ≤ N.length
 inx : (fr.all fun j => decide (j < X.N.length)) = true
 free : ((N.drop n).all fun x => decide (scope.names.lookup x = some .free)) = true
 nocell : (scope.names.all fun y => decide (y.2 ≠ .cell)) = true
 loc : (scope.names.all fun y => decide (y.2 = .local → scope.names.lookup y.1 = some .local)) = true
 seen : (scope.names.all fun y => decide (y.2 = .free → (X.env.kindOf y.1 = some .cell ∨ X.env.kindOf y.1 = some .free))) = true
theorem XJ {scope : Scope} {env : Env} {x : Str} {k : NameKind} (h : (relabel scope env).names.lookup x = some k) (hk : k = .cell ∨ k = .free) (hc : (scope.names.all fun y => decide (y.2 ≠ .cell)) = true) : (x, NameKind.free) ∈ scope.names := by
 unfold relabel at h
 dsimp only at h
 have key : ∀ names : List (Str × NameKind), (names.all fun y => decide (y.2 ≠ .cell)) = true →
  (names.map fun (n, k) => if (k == NameKind.free && env.scope.kind == .function && env.kindOf n == some .cell) = true then (n, NameKind.cell) else (n, k)).lookup x = some k → (x, NameKind.free) ∈ names := by
  intro names
  induction names with
  | nil => intro _ h; simp at h
  | cons y r ih =>
    intro ha h
    obtain ⟨n, j⟩ := y
    rw [List.all_cons, Bool.and_eq_true] at ha
    rw [List.map_cons] at h
    have e1 : ∀ (b : Bool) (k1 : NameKind), ((if b = true then (n, NameKind.cell) else (n, k1)) : Str × NameKind) = (n, if b = true then NameKind.cell else k1) := by intro b k1; cases b <;> rfl
    dsimp only at h
    rw [e1, List.lookup_cons] at h
    cases hx : x == n with
    | false => rw [hx] at h; exact List.mem_cons_of_mem _ (ih ha.2 h)
    | true =>
      rw [hx] at h
      have e : x = n := by simpa using hx
      subst e
      have h' := Option.some.inj h
      have hj : j ≠ .cell := by simpa using ha.1
      have : j = .free := by
       cases hb : (j == NameKind.free && env.scope.kind == .function && env.kindOf x == some .cell) with
       | true =>
         rw [Bool.and_eq_true, Bool.and_eq_true] at hb
         simpa using hb.1.1
       | false =>
         rw [hb] at h'
         simp only [Bool.false_eq_true, if_false] at h'
         subst h'
         rcases hk with z | z
         ·exact absurd z hj
         ·exact z
      subst this
      exact List.mem_cons_self ..
 exact key _ hc h
theorem WI {scope : Scope} {env : Env} {x : Str} (h : scope.names.lookup x = some .free) : (relabel scope env).names.lookup x = some .cell ∨ (relabel scope env).names.lookup x = some .free := by
 unfold relabel
 dsimp only
 have key : ∀ names : List (Str × NameKind), names.lookup x = some .free →
  (names.map fun (n, k) => if (k == NameKind.free && env.scope.kind == .function && env.kindOf n == some .cell) = true then (n, NameKind.cell) else (n, k)).lookup x = some .cell ∨ (names.map fun (n, k) => if (k == NameKind.free && env.scope.kind == .function && env.kindOf n == some .cell) = true then (n, NameKind.cell) else (n, k)).lookup x = some .free := by
  intro names
  induction names with
  | nil => intro h; simp at h
  | cons y r ih =>
    intro h
    obtain ⟨n, j⟩ := y
    have e1 : ∀ (b : Bool) (k1 : NameKind), ((if b = true then (n, NameKind.cell) else (n, k1)) : Str × NameKind) = (n, if b = true then NameKind.cell else k1) := by intro b k1; cases b <;> rfl
    rw [List.map_cons]
    dsimp only
    rw [e1, List.lookup_cons]
    rw [List.lookup_cons] at h
    cases hx : x == n with
    | false => rw [hx] at h; exact ih h
    | true =>
      rw [hx] at h
      cases Option.some.inj h
      dsimp only
      split
      ·exact .inl rfl
      ·exact .inr rfl
 exact key _ h
section
variable {X : Cx} {N : List Str} {n : Nat} {fr : List Nat} {scope : Scope} {pins : List (Addr × Obj)} {σ : L2.St} {H : Hp} {s : Shared}
theorem CompOk.cells (O : CompOk X N n fr scope) (I : Inv X pins σ H s) : ∀ y ∈ scope.names, y.2 = .free → ∃ c, X.env.cells.lookup y.1 = some c := fun y hy hf => I.ok.has y.1 (of_decide_eq_true (List.all_eq_true.mp O.seen y hy) hf)
theorem zc2 {fp : List Addr} {h' : Heap} {tk : Nat} {m : Str → Option Value} (O : CompOk X N n fr scope) (I : Inv X pins σ H s) (hf : ∀ b ∈ fp, zbQ X pins H b) (hfl : ∀ b ∈ fp, b < s.heap.objs.size)
 (hns : h'.Ns s.heap.objs.size m) (keep : ∀ b o, s.heap.get? b = some o → h'.get? b = some o) :
 Inv (ZU X N scope s.heap.objs.size fp s H) [] (List.replicate n none ++ frσ σ fr) H { s with heap := h', toks := tk } := by
 have hcl := O.cells I
 have lk : ∀ x c, (yO X.env.cells scope.names []).lookup x = some c → X.env.cells.lookup x = some c := fun x c h => Yi hcl (fun c h => by simp at h) h
 have cne : ∀ x c, (yO X.env.cells scope.names []).lookup x = some c → ∃ v, s.heap.IsCell c v := fun x c h => I.cell x c (lk x c h)
 have clt : ∀ x c, (yO X.env.cells scope.names []).lookup x = some c → c < s.heap.objs.size := fun x c h => by
  obtain ⟨v, o, ho, _⟩ := cne x c h
  exact Heap.lt_size ho
 refine ⟨⟨I.mod, O.kind, I.ok.glob, I.ok.blt, Nat.le_refl _, fun x y c h1 h2 => I.ok.inj x y c (lk x c h1) (lk y c h2), fun x hx => ?_, fun x c h => (by cases h), I.ok.hd, I.ok.frames, .inl rfl, fun b hb => ⟨Nat.ne_of_lt (hfl b hb), fun x c h => (hf b hb).2.2.2.2.1 x c (lk x c h)⟩, I.bs, Nat.le_trans I.ok.bsz I.sz, fun b o e hb => ?_, fun b hb z => ?_, I.stack, I.stkFree⟩,
  rfl, I.bare, Un.kept keep, ⟨m, hns, fun i x v h1 h2 h3 => ?_⟩, fun x c h => ?_, I.hok.fresh (Nat.le_refl _), fun x c h => I.freeC x c (lk x c h), fun p hp => absurd hp (by simp [ZU]), I.hok.kept keep, ?_⟩
 ·have hx' : (x, NameKind.free) ∈ scope.names := by
   rcases hx with hx | hx
   ·exact XJ hx (.inl rfl) O.nocell
   ·exact XJ hx (.inr rfl) O.nocell
  exact Option.isSome_iff_exists.mp (ZV (.inl hx'))
 ·rcases (hf b hb).2.2.2.1 with z | z
  ·exact I.ok.noex b o e z
  ·exact absurd (Nat.lt_of_lt_of_le (Heap.lt_size (I.ok.bs b o e).1) z) (Nat.lt_irrefl _)
 ·rcases List.mem_cons.mp (I.stkSub b z) with q | q
  ·exact (hf b hb).2.1 q
  ·exact (hf b hb).2.2.1 q
 ·by_cases hi : i < n
  ·rw [List.getElem?_append_left (by simpa using hi), List.getElem?_replicate, if_pos hi] at h2
   cases h2
  ·have h1' : (N.drop n)[i - n]? = some x := by rw [List.getElem?_drop, show n + (i - n) = i by omega]; exact h1
   rw [List.getElem?_append_right (by simpa using hi), List.length_replicate] at h2
   unfold frσ at h2
   rw [List.getElem?_map] at h2
   rw [O.names, List.getElem?_map] at h1'
   cases ej : fr[i - n]? with
   | none => rw [ej] at h2; cases h2
   | some j =>
     rw [ej] at h2 h1'
     have hjl : j < X.N.length := of_decide_eq_true (List.all_eq_true.mp O.inx j (List.mem_of_getElem? ej))
     have hx : X.N[j]? = some x := by
      have e := Option.some.inj h1'
      dsimp only at e
      rw [List.getElem?_eq_getElem hjl] at e ⊢
      exact congrArg some e
     have hv : σ[j]? = some (some v) := by
      have e := Option.some.inj h2
      dsimp only at e
      cases es : σ[j]? with
      | none => rw [es] at e; cases e
      | some o => rw [es] at e; rw [show o = some v from e]
     have hfl' : scope.names.lookup x = some .free := by
      refine of_decide_eq_true (List.all_eq_true.mp O.free x ?_)
      exact List.mem_of_getElem? (i := i - n) (by rw [List.getElem?_drop, show n + (i - n) = i by omega]; exact h1)
     have hfx : (x, NameKind.free) ∈ scope.names := PySem.mem_of_lookup hfl'
     have hkX := of_decide_eq_true (List.all_eq_true.mp O.seen _ hfx) rfl
     obtain ⟨mX, hnX, hlX⟩ := I.loc
     obtain ⟨u, ru, lu⟩ := hlX j x v hx hv (hkX.elim (fun z => .inr (.inl z)) fun z => .inr (.inr z))
     refine ⟨u, ru, .inr ⟨?_, ?_⟩⟩
     ·exact WI hfl'
     ·obtain ⟨c, hc⟩ := Option.isSome_iff_exists.mp (ZV (cells := X.env.cells) (acc := []) (.inl hfx))
      refine ⟨c, hc, ?_⟩
      rcases lu with ⟨k, _⟩ | ⟨_, c', hc', z⟩
      ·rcases hkX with q | q
       ·rw [show X.env.kindOf x = _ from k] at q; cases q
       ·rw [show X.env.kindOf x = _ from k] at q; cases q
      ·have := lk x c hc
       rw [hc'] at this
       cases this
       obtain ⟨o, ho, hd⟩ := z
       exact ⟨o, keep _ _ ho, hd⟩
 ·obtain ⟨v, o, ho, hd⟩ := cne x c h
  exact ⟨v, o, keep _ _ ho, hd⟩
 ·rw [List.length_append, List.length_replicate]
  unfold frσ
  have e := congrArg List.length O.names
  rw [List.length_drop, List.length_map] at e
  have := O.own
  show _ = N.length
  rw [List.length_map]
  omega
end
def PIf (Y : Cx) (ifs : List Expr) (tt : TT) : Prop :=
 ∀ (pins : List (Addr × Obj)) (s : Shared) (σ : L2.St) (H : Hp) (Q : Bool → Hp → Prop), Inv Y pins σ H s → tt σ H Q →
   wpAny (model Y.prog Y.w) Y.A (forIn ifs true fun c r => if r = true then do let ok ← isTrue c Y.env (eval c Y.env); pure (ForInStep.yield ok) else pure (ForInStep.yield r)) (TP Y pins σ Q) Y.xe s
def tTrue : TT := fun _ H Q => Q true H
theorem yo {Y : Cx} : PIf Y [] tTrue := fun pins s σ H Q I h => wpAny_tests_nil ⟨H, I, h⟩
theorem zhC {Y : Cx} {c : Expr} {tt : TT} (h : PT Y c tt) : PIf Y [c] tt := fun pins s σ H Q I q => wpAny_tests_one (h pins s σ H Q I q)
abbrev Blk (α : Type) := Addr → List Addr → Shared → Hp → α
def ze7 (n : Nat) (fr : List Nat) (wi : TI) (g : Blk TG) (tt : Blk TT) (te : Blk TE) : TE := fun σ H Q => wi σ H fun J H1 => ∀ D, H1 D = none → ∀ C ex s0 H0,
 ∃ W : Nat → Nat → List V → Hp → Prop, (∃ m, W 0 m [] (upd H1 D (.lst []))) ∧ ∀ i m ys H2, W i m ys H2 → H2 D = some (.lst ys) ∧
   ((J.stop i H2 ∧ Q (.ref D) H2) ∨ (J.go i H2 ∧ ∀ x H3, J.yld i H2 x H3 → g C ex s0 H0 x (List.replicate n none ++ frσ σ fr) H3 fun σ4 H4 => σ4.drop n = frσ σ fr ∧ tt C ex s0 H0 σ4 H4 fun b H5 =>
     if b = true then te C ex s0 H0 σ4 H5 fun y H6 => H6 D = some (.lst ys) ∧ ys.length < sizeLine ∧ ∃ m', m' < m ∧ W (i + 1) m' (ys ++ [y]) (upd H6 D (.lst (ys ++ [y])))
     else ∃ m', m' < m ∧ W (i + 1) m' ys H5))
structure Side (X : Cx) (pins : List (Addr × Obj)) (H : Hp) (C : Addr) : Prop where
 nt : H C = none
 nl : C ≠ X.env.locals
 ab : X.s₀.heap.objs.size ≤ C
 nc : ∀ x c, X.env.cells.lookup x = some c → c ≠ C
 np : ∀ p ∈ X.pn ++ pins, p.1 ≠ C
section
variable {X : Cx} {N : List Str} {n : Nat} {fr : List Nat} {scope : Scope}
theorem yL {α : Type} {M : Model} {A : Around} {m : Sem α} {Q : α → Shared → Prop} {E : Value → Shared → Prop} {s : Shared} (h : wpAny M A m Q (fun _ _ => False) s) : wpAny M A m Q E s := wpAny_mono h (fun _ _ q => q) fun _ _ z => z.elim
theorem zcs {tg iter elt : Expr} {ifs : List Expr} {pos : Pos} {g : Blk TG} {tt : Blk TT} {te : Blk TE} {pins : List (Addr × Obj)} {σ : L2.St} {H2 : Hp} {s2 : Shared} {it : Addr} {fp : List Addr} {tn : Nat → Heap → Prop} {J : It} {Q : VK}
 {RR : Value → Addr → Result → Shared → Prop} {E : Value → Shared → Prop}
 (hc : X.calm = true) (O : CompOk X N n fr scope)
 (hg : ∀ C ex s H, PG (ZU X N scope C ex s H) tg (g C ex s H)) (ht : ∀ C ex s H, PIf (ZU X N scope C ex s H) ifs (tt C ex s H)) (he : ∀ C ex s H, PE (ZU X N scope C ex s H) elt (te C ex s H))
 (I2 : Inv X pins σ H2 s2) (T : Turn X.prog X.w X.K tg J fp it tn) (st2 : tn 0 s2.heap) (f2 : ∀ b ∈ fp, zbQ X pins H2 b)
 (hW : ∀ D, H2 D = none → ∀ C ex s0 H0, ∃ W : Nat → Nat → List V → Hp → Prop, (∃ m, W 0 m [] (upd H2 D (.lst []))) ∧ ∀ i m ys H2, W i m ys H2 → H2 D = some (.lst ys) ∧
  ((J.stop i H2 ∧ Q (.ref D) H2) ∨ (J.go i H2 ∧ ∀ x H3, J.yld i H2 x H3 → g C ex s0 H0 x (List.replicate n none ++ frσ σ fr) H3 fun σ4 H4 => σ4.drop n = frσ σ fr ∧ tt C ex s0 H0 σ4 H4 fun b H5 =>
    if b = true then te C ex s0 H0 σ4 H5 fun y H6 => H6 D = some (.lst ys) ∧ ys.length < sizeLine ∧ ∃ m', m' < m ∧ W (i + 1) m' (ys ++ [y]) (upd H6 D (.lst (ys ++ [y])))
    else ∃ m', m' < m ∧ W (i + 1) m' ys H5)))
 (hR : ∀ (D C : Addr) (H' : Hp) (s' : Shared), Q (.ref D) H' → (∃ m, s'.heap.Ns C m) → Side X pins H' C → Inv X pins σ H' s' → RR (.ref D) C (.ok .next) s') :
 wpAny (model X.prog X.w) X.A (newList []) (fun acc s₃ => wpAny (model X.prog X.w) X.A (newFunctionEnv scope X.env.globals (yO X.env.cells scope.names []) [] X.env.qual none .none (some X.env)) (fun cenv s₄ =>
  codeAny (model X.prog X.w) X.A (.compStart (.ListComp elt [⟨tg, iter, ifs, 0⟩] scope pos) 0 (.ref it) acc { cenv with scope := relabel scope X.env }) (RR acc cenv.locals) s₄) E s₃) E s2 := by
 have nocell : ∀ y ∈ scope.names, y.2 ≠ .cell := fun y hy => of_decide_eq_true (List.all_eq_true.mp O.nocell y hy)
 refine wpAny_newObj_type (wpAny_newFunctionEnv nocell (by intro y hy; simp at hy) (fun h₁ hns₁ hsb₁ => ?_) O.kind)
 have hDn : H2 s2.heap.objs.size = none := I2.fresh
 have I3 : Inv X pins σ (upd H2 s2.heap.objs.size (.lst [])) { s2 with heap := s2.heap.push { cls := .type "list", data := .seq ([] : List Value).toArray }, toks := s2.toks } := I2.lnew (its := []) .nil (Nat.zero_le _)
 generalize hD : s2.heap.objs.size = D at *
 dsimp only at hns₁ hsb₁ ⊢
 generalize hs3 : s2.heap.push { cls := .type "list", dict := none, data := .seq ([] : List Value).toArray } = hp3 at *
 have k23 : ∀ b o, s2.heap.get? b = some o → hp3.get? b = some o := fun b o e => by rw [← hs3]; exact Heap.get?_push_of_some _ e
 have sz3 : hp3.objs.size = D + 1 := by rw [← hs3, Heap.size_push, hD]
 have keep : ∀ b o, hp3.get? b = some o → h₁.get? b = some o := fun b o e => hsb₁.extBut b o (Nat.ne_of_lt (Heap.lt_size e)) (Heap.get?_push_of_some _ e)
 have flt : ∀ b ∈ fp, b < D := fun b hb => by
  obtain ⟨o, ho, _⟩ := T.obj _ _ st2 b hb
  rw [← hD]
  exact Heap.lt_size ho
 have f3 : ∀ b ∈ fp, zbQ X pins (upd H2 D (.lst [])) b := fun b hb => ⟨by rw [ye (Nat.ne_of_lt (flt b hb))]; exact (f2 b hb).1, (f2 b hb).2⟩
 have IY := zc2 (tk := s2.toks + ([] : List (Str × Value)).length) O I3 f3 (fun b hb => by show b < hp3.objs.size; rw [sz3]; exact Nat.lt_succ_of_lt (flt b hb)) hns₁ keep
 obtain ⟨W, ⟨m0, w0⟩, turn⟩ := hW _ hDn hp3.objs.size fp { s2 with heap := hp3, toks := s2.toks } (upd H2 D (.lst []))
 have st4 : tn 0 h₁ := T.keep _ _ _ st2 fun b hb o e => keep b o (k23 b o e)
 generalize hY : ZU X N scope hp3.objs.size fp { s2 with heap := hp3, toks := s2.toks } (upd H2 D (.lst [])) = Y at *
 have eEnv : Y.env = compEnvC scope (yO X.env.cells scope.names []) hp3.objs.size X.env := by rw [← hY]; rfl
 have hgY := hg hp3.objs.size fp { s2 with heap := hp3, toks := s2.toks } (upd H2 D (.lst []))
 have htY := ht hp3.objs.size fp { s2 with heap := hp3, toks := s2.toks } (upd H2 D (.lst []))
 have heY := he hp3.objs.size fp { s2 with heap := hp3, toks := s2.toks } (upd H2 D (.lst []))
 rw [hY] at hgY htY heY
 have eP : Y.prog = X.prog := by rw [← hY]; rfl
 have eW : Y.w = X.w := by rw [← hY]; rfl
 have eK : Y.K = X.K := by rw [← hY]; rfl
 have eA : Y.A = X.A := by rw [← hY]; rfl
 have eC : Y.calm = true := by rw [← hY]; exact hc
 have eX : Y.xe = fun _ _ => False := by rw [← hY]; rfl
 have fY : ∀ {H' : Hp}, (∀ b ∈ fp, H' b = none) → ∀ b ∈ fp, zbQ Y [] H' b := fun {H'} hn b hb => by
  have h1 := IY.ok.exf b (by rw [← hY]; exact hb)
  refine ⟨hn b hb, h1.1, IY.ok.exfs b (by rw [← hY]; exact hb), .inl (by rw [← hY]; exact hb), h1.2, fun p hp => absurd hp (by rw [← hY]; simp [ZU])⟩
 have loop : codeAny (model X.prog X.w) X.A (.compLoop (.ListComp elt [⟨tg, iter, ifs, 0⟩] scope pos) 0 (.ref it) (.ref D) (compEnvC scope (yO X.env.cells scope.names []) hp3.objs.size X.env))
  (RR (.ref D) hp3.objs.size) { s2 with heap := h₁, toks := s2.toks + ([] : List (Str × Value)).length } := by
  refine codeAny_loop rfl (fun k s' => ∃ i ys H', Inv Y [] (List.replicate n none ++ frσ σ fr) H' s' ∧ tn i s'.heap ∧ (∀ b ∈ fp, H' b = none) ∧ W i k ys H') (fun k s5 hI => ?_) m0 ⟨0, [], _, IY, st4, fun b hb => (f3 b hb).1, w0⟩
  obtain ⟨i, ys, H5, I5, st5, fr5, w5⟩ := hI
  show wpAny _ X.A ((compTurn (.ListComp elt [⟨tg, iter, ifs, 0⟩] scope pos) 0 (.ref it) (.ref D) _).onRaise (fun x => do noteFrame x _; theTreesLotGoes x)) _ _ s5
  refine wpAny_noted ?_
  rw [compTurn_list, ← eEnv]
  refine wpAny_bind (wpAny_standAt (wpAny_bind ?_))
  obtain ⟨hDl, step⟩ := turn i k ys H5 w5
  rcases step with ⟨stop, qn⟩ | ⟨go, step⟩
  ·have d := T.done Y eP eW eK eC i [] s5 _ H5 (fun _ _ => False) I5 (fY fr5) st5 stop
   rw [eA] at d
   refine yL (thn d fun r s6 ⟨hr, I6⟩ => ?_)
   subst hr
   refine wpAny_pure ?_
   have hC : H5 hp3.objs.size = none := by have := I6.free; rw [eEnv] at this; exact this
   have hns6 : ∃ m, s6.heap.Ns hp3.objs.size m := by
    have := I6.loc
    rw [eEnv] at this
    obtain ⟨m, hm, _⟩ := this
    exact ⟨m, hm⟩
   have sd : Side X pins H5 hp3.objs.size := ⟨hC, Nat.ne_of_gt I3.lt, I3.sz, fun x c e => Nat.ne_of_lt (let ⟨v, o, ho, _⟩ := I3.cell x c e; Heap.lt_size ho), fun p hp => Nat.ne_of_lt (Heap.lt_size (I3.pin p hp).1)⟩
   refine hR D hp3.objs.size H5 s6 qn hns6 sd ?_
   have un := I6.base
   have e0 : Y.s₀.heap = hp3 := by rw [← hY]; rfl
   have eH0 : Y.H₀ = upd H2 D (.lst []) := by rw [← hY]; rfl
   have eF : Y.fs = frs X.stack := by rw [← hY]; rfl
   have eEx : Y.ex = fp := by rw [← hY]; rfl
   rw [e0, eH0, eF, eEx] at un
   have hok' : HOk X.prog X.w H5 s6.heap := by have := I6.hok; rw [eP, eW] at this; exact this
   have os6 : s6.os = s2.os := I6.os.trans (by rw [← hY]; rfl)
   exact I3.call' (s' := s6) (ch := fp) os6 un hok' I6.bare fun b hb => ⟨(f2 b hb).2.2.2.1, (f2 b hb).2.1, (f2 b hb).2.2.2.2.1, (f2 b hb).2.2.2.2.2⟩
  ·have d := T.item Y eP eW eK eC i [] s5 _ H5 (fun _ _ => False) I5 (fY fr5) st5 go
   rw [eA] at d
   refine yL (thn d fun r s6 ⟨u, hr, h6⟩ => ?_)
   subst hr
   refine wpAny_bind (yL (thn h6 fun _ s7 ⟨x, H7, I7, r7, y7, st7, fr7⟩ => ?_))
   have I7' := I7.pinned (fY fr7) (T.obj _ _ st7)
   have g7 := hgY _ s7 _ H7 x u _ I7' r7 (step x H7 y7)
   rw [eA, eP, eW, eX] at g7
   refine wpAny_bind (yL (thn g7 fun _ s8 ⟨σ8, H8, I8, ed, q8⟩ => ?_))
   have t8 := htY _ s8 σ8 H8 _ I8 q8
   rw [eA, eP, eW, eX] at t8
   refine wpAny_bind (yL (thn t8 fun b s9 ⟨H9, I9, q9⟩ => ?_))
   have back : ∀ {s' : Shared} {H' : Hp} {ys' : List V} {m' : Nat}, Inv Y ([] ++ Ur fp s7.heap) σ8 H' s' → m' < k → W (i + 1) m' ys' H' → ∃ m, m < k ∧ ∃ i ys H', Inv Y [] (List.replicate n none ++ frσ σ fr) H' s' ∧ tn i s'.heap ∧ (∀ b ∈ fp, H' b = none) ∧ W i m ys H' := fun {s' H' ys' m'} I' hm w' => by
    refine ⟨m', hm, i + 1, ys', H', ?_, T.keep _ _ _ st7 fun b hb o e => (I'.pin (b, o) (List.mem_append_right _ (List.mem_append_right _ (ZA hb e)))).1, fun b hb => ?_, w'⟩
    ·refine (Inv.unpinned I').weak ?_ fun j v hj => ?_
     ·exact IY.len.trans I'.len.symm
     ·by_cases hjn : j < n
      ·rw [List.getElem?_append_left (by simpa using hjn), List.getElem?_replicate, if_pos hjn] at hj
       cases hj
      ·rw [List.getElem?_append_right (by simpa using hjn), List.length_replicate, ← ed, List.getElem?_drop, show n + (j - n) = j by omega] at hj
       exact hj
    ·obtain ⟨o, e, d⟩ := T.obj _ _ st7 b hb
     exact (I'.pin (b, o) (List.mem_append_right _ (List.mem_append_right _ (ZA hb e)))).2.1
   cases b with
   | false =>
     obtain ⟨m', hm, w9⟩ := q9
     exact wpAny_pure ⟨rfl, back I9 hm w9⟩
   | true =>
     have e9 := heY _ s9 σ8 H9 _ I9 q9
     rw [eA, eP, eW, eX] at e9
     refine wpAny_bind (wpAny_bind (yL (thn e9 fun v s10 ⟨y, H10, I10, r10, hD10, hz, m', hm, w10⟩ => ?_)))
     have a10 := VE _ s10 σ8 H10 (.ref D) [y] (.ref D) [v] (fun _ H' => H' = upd H10 D (.lst (ys ++ [y]))) I10 rfl (.cons r10 .nil) ⟨D, ys, y, rfl, rfl, hD10, hz, rfl⟩
     rw [eA, eP, eW, eX] at a10
     refine wpAny_bind (yL (thn a10 fun _ s11 ⟨_, H11, I11, _, e11⟩ => ?_))
     subst e11
     exact wpAny_pure (wpAny_pure ⟨rfl, back I11 hm w10⟩)
 exact codeAny_compStart_list loop (T.self _ _ _ _ _ st4 loop)
theorem yZ {tg iter elt : Expr} {ifs : List Expr} {pos : Pos} {wi : TI} {g : Blk TG} {tt : Blk TT} {te : Blk TE}
 (hc : X.calm = true) (O : CompOk X N n fr scope) (hi : PI X tg iter wi)
 (hg : ∀ C ex s H, PG (ZU X N scope C ex s H) tg (g C ex s H)) (ht : ∀ C ex s H, PIf (ZU X N scope C ex s H) ifs (tt C ex s H)) (he : ∀ C ex s H, PE (ZU X N scope C ex s H) elt (te C ex s H))
 (hs : ∀ x, foldedSetIterable iter X.env x = pure x := by intro _; rfl) :
 PE X (.ListComp elt [⟨tg, iter, ifs, 0⟩] scope pos) (ze7 n fr wi g tt te) := by
 intro pins s σ H Q I h
 rw [eval_ListComp]
 refine wpAny_comprehension_free (use := none) rfl hs (Yh (O.cells I)) O.kind (fun y hy => of_decide_eq_true (List.all_eq_true.mp O.loc y hy)) (thn (hi pins s σ H _ I h) fun v s1 h1 => thn h1 fun itv s2 h2 => ?_)
 obtain ⟨it, fp, tn, J, H2, e, I2, T, st2, f2, hW⟩ := h2
 subst e
 refine zcs (RR := fun acc C => compPost (model X.prog X.w) X.A X.xe none (EP X pins σ Q) acc C) hc O hg ht he I2 T st2 f2 hW ?_
 intro D C H' s' q ⟨m, hm⟩ sd inv
 exact ⟨m, hm, fun h' hs' => ⟨.ref D, H', inv.turned (t' := s'.toks) (it := C) (fun b o hb e => hs'.extBut b o hb e) sd.nt sd.nl (.inr sd.ab) sd.nc sd.np, rfl, q⟩⟩
theorem Ze {i : Nat} {x : Str} {px : Pos} {tg iter elt : Expr} {ifs : List Expr} {pos spos : Pos} {wi : TI} {g : Blk TG} {tt : Blk TT} {te : Blk TE}
 (hN : X.N.Nodup) (hx : X.N[i]? = some x) (hk : X.env.scope.names.lookup x = some .local)
 (hc : X.calm = true) (O : CompOk X N n fr scope) (hi : PI X tg iter wi)
 (hg : ∀ C ex s H, PG (ZU X N scope C ex s H) tg (g C ex s H)) (ht : ∀ C ex s H, PIf (ZU X N scope C ex s H) ifs (tt C ex s H)) (he : ∀ C ex s H, PE (ZU X N scope C ex s H) elt (te C ex s H))
 (hsw : swapsWith (.ListComp elt [⟨tg, iter, ifs, 0⟩] scope pos) (some (.Name x px)) spos.line X.env = pure true := by rfl)
 (hs : ∀ x, foldedSetIterable iter X.env x = pure x := by intro _; rfl) :
 PS X (.Assign [.Name x px] (.ListComp elt [⟨tg, iter, ifs, 0⟩] scope pos) spos) (tAsg (ze7 n fr wi g tt te) (zey i)) := by
 intro pins s σ H D I h
 rw [exec_Assign_Name_used _ _ _ _ hsw]
 refine wpAny_bind (wpAny_standAt (wpAny_bind ?_))
 show wpAny _ X.A (do let _ ← comprehension (.ListComp elt [⟨tg, iter, ifs, 0⟩] scope pos) scope X.env _ (newList []) false (eval iter X.env) (some (assign (.Name x px) X.env))) _ _ s
 refine wpAny_bind (wpAny_mono (wpAny_comprehension_free (use := some (assign (.Name x px) X.env)) (Q := fun _ s' => SP X pins D .next s') rfl hs (Yh (O.cells I)) O.kind (fun y hy => of_decide_eq_true (List.all_eq_true.mp O.loc y hy))
  (thn (hi pins s σ H _ I h) fun v s1 h1 => thn h1 fun itv s2 h2 => ?_)) (fun _ s' hq => wpAny_pure (wpAny_pure hq)) fun _ _ e => e)
 obtain ⟨it, fp, tn, J, H2, e, I2, T, st2, f2, hW⟩ := h2
 subst e
 refine zcs (Q := fun x H1 => zey i x σ H1 D.nx) (RR := fun acc C => compPost (model X.prog X.w) X.A X.xe (some (assign (.Name x px) X.env)) (fun _ s' => SP X pins D .next s') acc C) hc O hg ht he I2 T st2 f2 hW ?_
 intro Dl C H' s' q ⟨m, hm⟩ sd inv
 show wpAny _ X.A (assign (.Name x px) X.env (.ref Dl)) _ _ _
 refine wpAny_assign_Name (zau (i := i) (v := .ref Dl) inv hN hx (.inl hk) rfl (fun s6 I6 ⟨a, hsb, ha⟩ => ?_) (.inr hk))
 have hCa : C ≠ a := by
  rcases ha with z | z
  ·rw [z]; exact sd.nl
  ·exact fun e => sd.nc x a z e.symm
 refine ⟨m, hm.sameBut hsb hCa, fun h' hs' => ?_⟩
 refine ⟨_, H', I6.turned (t' := s6.toks) (it := C) (fun b o hb e => hs'.extBut b o hb e) sd.nt sd.nl (.inr sd.ab) sd.nc sd.np, q⟩
end
end S
namespace S
open PySem PySem.Spec PyProof.Rows L2
open PySem.AutoSeq1 (wpAny_loadPart')
def ItB (b : Bool) (h : Heap) (it a : Addr) (i : Nat) : Prop := match b with | true => h.IsListIter it a i | false => h.IsTupleIter it a i
def SeB (b : Bool) (h : Heap) (a : Addr) (items : Array Value) : Prop := match b with | true => h.IsList a items | false => h.IsTuple a items
def SqB (b : Bool) (K : PySem.W.Frag) (H : Hp) (a : Addr) (xs : List V) : Prop := match b with | true => SqL K H a xs | false => SqT K H a xs
theorem ItB.at {b : Bool} {h h' : Heap} {it a : Addr} {i : Nat} (x : ItB b h it a i) (k : ∀ o, h.get? it = some o → h'.get? it = some o) : ItB b h' it a i := by
 cases b with
 | true => obtain ⟨o, ho, r⟩ := x; exact ⟨o, k o ho, r⟩
 | false => obtain ⟨o, ho, r⟩ := x; exact ⟨o, k o ho, r⟩
theorem ItB.obj {b : Bool} {h : Heap} {it a : Addr} {i : Nat} (x : ItB b h it a i) : ∃ o, h.get? it = some o ∧ ∀ v, o.data ≠ .cell v := by
 cases b with
 | true => obtain ⟨o, ho, c, d⟩ := x; exact ⟨o, ho, fun v z => by rw [d] at z; cases z⟩
 | false => obtain ⟨o, ho, c, d⟩ := x; exact ⟨o, ho, fun v z => by rw [d] at z; cases z⟩
theorem SeB.at {b : Bool} {h h' : Heap} {a : Addr} {items : Array Value} (x : SeB b h a items) (k : ∀ o, h.get? a = some o → h'.get? a = some o) : SeB b h' a items := by
 cases b with
 | true => obtain ⟨o, ho, r⟩ := x; exact ⟨o, k o ho, r⟩
 | false => obtain ⟨o, ho, r⟩ := x; exact ⟨o, k o ho, r⟩
theorem SeB.obj {b : Bool} {h : Heap} {a : Addr} {items : Array Value} (x : SeB b h a items) : ∃ o, h.get? a = some o := by
 cases b with
 | true => obtain ⟨o, ho, r⟩ := x; exact ⟨o, ho⟩
 | false => obtain ⟨o, ho, r⟩ := x; exact ⟨o, ho⟩
section
variable {X : Cx} {pins : List (Addr × Obj)} {σ : L2.St} {H : Hp} {s : Shared} {a : Addr} {xs ys : List V} {b : Bool}
theorem seB (I : Inv X pins σ H s) (h : SqB b X.K H a xs) : ∃ its : List Value, xA xs its ∧ SeB b s.heap a its.toArray ∧ xs.length ≤ sizeLine := by
 cases b with
 | true => obtain ⟨its, r, p, z⟩ := I.list h; exact ⟨its, r, p.isList, z⟩
 | false => obtain ⟨its, r, p, z⟩ := I.tuple h; exact ⟨its, r, p, z⟩
theorem zbr (I : Inv X pins σ H s) (h : SqB b X.K H a xs) (h' : SqB b X.K H a ys) : xs = ys := by
 cases b with
 | true => exact I.list_inj h h'
 | false => exact I.tuple_inj h h'
end
section
variable {prog : Program} {w : World} {A : Around} {E : Value → Shared → Prop} {s : Shared}
theorem Ww {it t : Addr} {i : Nat} {items} {x : Value} {Q : Value → Shared → Prop} (hit : s.heap.IsTupleIter it t i)
 (ht : s.heap.IsTuple t items) (hx : items[i]? = some x)
 (hQ : ∀ h', h'.IsTupleIter it t (i + 1) → Heap.SameBut it s.heap h' → Q x { s with heap := h' }) :
 wpAny (model prog w) A (Builtin.SmallTypes.nextOf (.ref it)) Q E s := by
 obtain ⟨o, ho, hc, hd⟩ := id hit
 obtain ⟨ol, hol, _, nl, hdl⟩ := ht
 unfold Builtin.SmallTypes.nextOf
 refine wpAny_bind (wpAny_callSpecial?_slot (name := Str.ofString "__next__") hit.typeIs F.slot_tuple_iterator_next
  (wpAny_call_entry F.slot_tuple_iterator_next hit.typeIs F.entry_tuple_iterator_next ?_ (F.args_tuple_iterator_next_1 _)))
 show wpAny _ _ (field (.ref it) 0 >>= _) _ _ s
 refine wpAny_bind (wpAny_field ho hd (x := .ref t) rfl ?_)
 show wpAny _ _ (if (Value.ref t == Value.none) = true then _ else _) _ _ s
 rw [if_neg (show ¬ ((Value.ref t == Value.none) = true) from Bool.false_ne_true)]
 show wpAny _ _ (field (.ref it) 1 >>= _) _ _ s
 refine wpAny_bind (wpAny_field ho hd (x := .int i 0) rfl ?_)
 show wpAny _ _ (seqItems? (.ref t) >>= _) _ _ s
 refine wpAny_bind (wpAny_seqItems hol hdl ?_)
 simp only [Int.toNat_natCast, hx]
 refine wpAny_bind (wpAny_setField ho hd (by simp) (wpAny_pure ⟨x, rfl, wpAny_pure (hQ _ ?_ (Heap.SameBut.update ..))⟩))
 exact ⟨_, Heap.get?_update_self _ ho (Obj.isFreed_of_fields (Obj.data_mapFields hd _)), (Obj.cls_mapFields ..).trans hc, by
  rw [Obj.data_mapFields hd]; simp [rawInt]⟩
theorem WR {it t : Addr} {i : Nat} {items} {Q : Value → Shared → Prop} (hh : A.handled = none)
 (hit : s.heap.IsTupleIter it t i) (ht : s.heap.IsTuple t items) (hx : items[i]? = none)
 (hE : ∀ h' e, Heap.ExtBut it s.heap h' → (∃ o, h'.get? e = some o ∧ o.cls = .type "StopIteration") → E (.ref e) { s with heap := h' }) :
 wpAny (model prog w) A (Builtin.SmallTypes.nextOf (.ref it)) Q E s := by
 obtain ⟨o, ho, hc, hd⟩ := id hit
 obtain ⟨ol, hol, _, nl, hdl⟩ := ht
 unfold Builtin.SmallTypes.nextOf
 refine wpAny_bind (wpAny_callSpecial?_slot (name := Str.ofString "__next__") hit.typeIs F.slot_tuple_iterator_next
  (wpAny_call_entry F.slot_tuple_iterator_next hit.typeIs F.entry_tuple_iterator_next ?_ (F.args_tuple_iterator_next_1 _)))
 show wpAny _ _ (field (.ref it) 0 >>= _) _ _ s
 refine wpAny_bind (wpAny_field ho hd (x := .ref t) rfl ?_)
 show wpAny _ _ (if (Value.ref t == Value.none) = true then _ else _) _ _ s
 rw [if_neg (show ¬ ((Value.ref t == Value.none) = true) from Bool.false_ne_true)]
 show wpAny _ _ (field (.ref it) 1 >>= _) _ _ s
 refine wpAny_bind (wpAny_field ho hd (x := .int i 0) rfl ?_)
 show wpAny _ _ (seqItems? (.ref t) >>= _) _ _ s
 refine wpAny_bind (wpAny_seqItems hol hdl ?_)
 simp only [Int.toNat_natCast, hx]
 refine wpAny_bind (wpAny_rule (wpAny_bind (wpAny_setField ho hd (by simp) ?_)))
 show wpAny _ _ (newExc (.type "StopIteration") [] >>= _) _ _ _
 refine wpAny_bind ?_
 simp only [newExc, newTuple]
 refine wpAny_bind (wpAny_newObj_type ?_ (by size_fits))
 refine wpAny_bind (m := firstArgMember _ _) (wpAny_of_eq (a := Value.none) (by first | rfl | (simp only [firstArgMember]; rfl)) ?_)
 refine wpAny_newObj_type ?_ (by size_fits)
 simp only [raiseNew]
 refine wpAny_bind (wpAny_handled ?_)
 first | rw [show A.in1.handled = none from hh] | rw [hh]
 refine wpAny_bind (wpAny_pure (wpAny_throw ?_))
 exact hE _ _ (((Heap.SameBut.update ..).extBut.push _).push _) ⟨_, Heap.get?_push_size _ rfl, rfl⟩
theorem YX {b : Bool} {it a : Addr} {i : Nat} {items} {x : Value} {Q : Value → Shared → Prop} (hit : ItB b s.heap it a i) (hl : SeB b s.heap a items) (hx : items[i]? = some x)
 (hQ : ∀ h', ItB b h' it a (i + 1) → Heap.SameBut it s.heap h' → Q x { s with heap := h' }) : wpAny (model prog w) A (Builtin.SmallTypes.nextOf (.ref it)) Q E s := by
 cases b with
 | true => exact wpAny_nextOf_list_item hit hl hx hQ
 | false => exact Ww hit hl hx hQ
theorem XU {b : Bool} {it a : Addr} {i : Nat} {items} {Q : Value → Shared → Prop} (hh : A.handled = none) (hit : ItB b s.heap it a i) (hl : SeB b s.heap a items) (hx : items[i]? = none)
 (hE : ∀ h' e, Heap.ExtBut it s.heap h' → (∃ o, h'.get? e = some o ∧ o.cls = .type "StopIteration") → E (.ref e) { s with heap := h' }) :
 wpAny (model prog w) A (Builtin.SmallTypes.nextOf (.ref it)) Q E s := by
 cases b with
 | true => exact wpAny_nextOf_list_end hh hit hl hx hE
 | false => exact WR hh hit hl hx hE
end
theorem drawsB {prog : Program} {w : World} {A : Around} (hh : A.handled = none) (b : Bool) (it a : Addr) (hne : a ≠ it) (items : Array Value) :
 Draws prog w A it [it, a] items.size (fun i x => items[i]? = some x) (fun i h => ItB b h it a i ∧ SeB b h a items) where
 live := fun i h hst => by obtain ⟨o, ho, _⟩ := hst.1.obj; exact ⟨o, ho⟩
 frame := fun i h h' hst hk => ⟨hst.1.at fun o e => hk _ (by simp) o e, hst.2.at fun o e => hk _ (by simp) o e⟩
 item := fun i s Q E hi hst hQ => YX hst.1 hst.2 (Array.getElem?_eq_getElem hi) fun h' hit' hs' => hQ _ h' s.toks (Array.getElem?_eq_getElem hi) ⟨hit', hst.2.at fun o e => (hs'.2 _ hne).trans e⟩ hs'
 done := fun s Q E hst hE => XU hh hst.1 hst.2 (by simp) hE
theorem We {X : Cx} {pins : List (Addr × Obj)} {σ : L2.St} {H : Hp} {s : Shared} {h' : Heap} {t' : Nat} {ch : List Addr} {a : Addr} {o : HO} (I : Inv X pins σ H s) (hf : ∀ b ∈ ch, zbQ X pins H b)
 (k : ∀ b o, b ∉ ch → s.heap.get? b = some o → h'.get? b = some o) (th : ∀ b ∈ ch, ∃ o, h'.get? b = some o) (ha : s.heap.objs.size ≤ a) (new : Zv X.prog X.w (upd H a o) h' a o) :
 Inv X pins σ (upd H a o) { s with heap := h', toks := t' } := by
 have hna : H a = none := I.hok.fresh ha
 have same : yc H (upd H a o) := yc.new hna o
 refine I.step (g' := s.gens) (d' := s.drawn) (ch := ch) (fun b hb => ⟨(hf b hb).2.2.2.1, (hf b hb).2.1, (hf b hb).2.2.2.2.1, (hf b hb).2.2.2.2.2⟩) (fun b u _ _ hc e _ => k b u hc e) (fun b u _ _ hc e _ => ⟨u.slots, k b u hc e⟩)
  (fun b u hc e n => by rw [ye (Nat.ne_of_lt (Nat.lt_of_lt_of_le (Heap.lt_size e) ha))]; exact n) (fun b u hc e => ⟨u, k b u hc e⟩) (fun b xs e => same _ _ e) (fun b u v e => same _ _ e) (fun b ps e => ⟨#[], by rw [same _ _ e]; simp⟩) (fun m hm => ?_) (fun b u e => ?_) I.bare
 ·obtain ⟨ob, es, ep, ho, r⟩ := hm
  exact ⟨ob, es, ep, k _ ob (fun z => (hf _ z).2.1 rfl) ho, r⟩
 ·by_cases hb : b = a
  ·subst hb; rw [yH] at e; cases e; exact new
  ·rw [ye hb] at e
   refine (I.hok b u e).stay (fun c v hc q => k c v ?_ q) (fun _ q => same _ _ q) fun _ _ q => same _ _ q
   intro z
   rcases hc with q | q
   ·rw [q] at z; rw [(hf b z).1] at e; cases e
   ·rw [(hf c z).1] at q; cases q
def ItE (b : Bool) (K : PySem.W.Frag) (a : Addr) : It :=
 ⟨fun i H => ∃ xs x, SqB b K H a xs ∧ xs[i]? = some x, fun i H v H' => ∃ p x, (∀ xs, SqB b K H a xs → xs[i]? = some x) ∧ H p = none ∧ v = .ref p ∧ H' = upd H p (.tup [.int i, x]), fun i H => ∃ xs, SqB b K H a xs ∧ xs.length ≤ i⟩
theorem zaw : (2 : Nat) ≤ sizeLine := by decide
theorem zdk {P : Program} {w : World} {K : PySem.W.Frag} {elts : List Expr} {k : Nat} {pos : Pos} (b : Bool) (a e it : Addr) (hae : a ≠ it) (hei : e ≠ it) (hea : e ≠ a) :
 Turn P w K (.Tuple elts k pos) (ItE b K a) [e, it] e (fun i h => (∃ old, IsEnum h e it i old) ∧ ItB b h it a i) where
 mem := by simp
 obj := fun i h st c hc => by
  rcases List.mem_cons.mp hc with rfl | hc
  ·obtain ⟨old, z⟩ := st.1
   exact ⟨_, z, fun v q => by cases q⟩
  ·obtain rfl : c = it := by simpa using hc
   exact st.2.obj
 keep := fun i h h' st kk => by
  obtain ⟨⟨old, z⟩, y⟩ := st
  exact ⟨⟨old, kk e (by simp) _ z⟩, y.at fun o q => kk it (by simp) o q⟩
 item := by
  intro X hP hw hK hc i pins s σ H E I hf st hg
  subst hP hw hK
  obtain ⟨⟨old, he⟩, hit⟩ := st
  obtain ⟨xs, x, hq, hx⟩ := hg
  obtain ⟨its, rv, p, hz⟩ := seB I hq
  obtain ⟨u, hu, ru⟩ := rv.get hx
  have hh := I.ok.hd hc
  have hi : i < its.toArray.size := by have := (List.getElem?_eq_some_iff.mp hu).1; simpa using this
  refine wpAny_pyNext_enum_itemD (drawsB (A := X.A.in1) hh b it a hae its.toArray) he ⟨hit, p⟩ hi hei (by simp only [List.mem_cons, List.not_mem_nil, or_false, not_or]; exact ⟨hei, hea⟩) fun x' h' tk hP ho hst hT hsz hk => ?_
  have ex : x' = u := by
   have hP' : its[i]? = some x' := by simpa using hP
   rw [hu] at hP'
   exact (Option.some.inj hP').symm
  subst ex
  refine ⟨_, rfl, wpAny_letOwnedTupleGo_enum ho fun h'' he'' hs'' => ?_⟩
  have helt : e < s.heap.objs.size := Heap.lt_size he
  have hilt : it < s.heap.objs.size := by obtain ⟨o, z, _⟩ := hit.obj; exact Heap.lt_size z
  have hT'' : h''.get? s.heap.objs.size = some { cls := .type "tuple", data := .seq #[.int i tk, x'] } := (hs''.2 _ (Nat.ne_of_gt helt)).trans hT
  refine ⟨.ref s.heap.objs.size, upd H s.heap.objs.size (.tup [.int i, x]), ?_, rfl, ⟨_, x, fun ys hy => by rw [zbr I hy hq]; exact hx, I.fresh, rfl, rfl⟩, ⟨⟨x', by simpa using he''⟩, hst.1.at fun o q => (hs''.2 _ hei.symm).trans q⟩, fun c hc => ?_⟩
  ·refine We (s := s) (t' := tk + 1) (ch := [e, it]) I hf (fun c o hcn q => (hs''.2 c (fun z => hcn (by simp [z]))).trans (hk c o (fun z => hcn (by simp [z])) (fun z => hcn (by simp [z])) q)) (fun c hc => ?_) (Nat.le_refl _) ⟨zaw, [.int i tk, x'], .cons ⟨tk, rfl⟩ (.cons ru .nil), ⟨_, hT'', rfl, _, rfl⟩⟩
   rcases List.mem_cons.mp hc with rfl | hc
   ·exact ⟨_, he''⟩
   ·obtain rfl : c = it := by simpa using hc
    obtain ⟨o, z, _⟩ := hst.1.obj
    exact ⟨o, (hs''.2 _ hei.symm).trans z⟩
  ·have hlt : c < s.heap.objs.size := by
    rcases List.mem_cons.mp hc with rfl | hc
    ·exact helt
    ·obtain rfl : c = it := by simpa using hc
     exact hilt
   rw [ye (Nat.ne_of_lt hlt)]
   exact (hf c hc).1
 done := by
  intro X hP hw hK hc i pins s σ H E I hf st hg
  subst hP hw hK
  obtain ⟨⟨old, he⟩, hit⟩ := st
  obtain ⟨xs, hq, hx⟩ := hg
  obtain ⟨its, rv, p, hz⟩ := seB I hq
  have hh := I.ok.hd hc
  have hl := rv.length
  obtain ⟨f0, f1, f2, f3, f4, f5⟩ := hf it (by simp)
  have hT : s.TypeIs (.ref e) "enumerate" := ⟨_, he, rfl⟩
  unfold pyNext
  refine wpAny_bind (wpAny_attempt (wpAny_callSpecial?_slot (name := Str.ofString "__next__") hT F.slot_enumerate_next (wpAny_call_entry F.slot_enumerate_next hT F.entry_enumerate_next ?_ (F.args_enumerate_next_1 _))))
  show wpAny _ _ (field (.ref e) 2 >>= _) _ _ _
  refine wpAny_bind (wpAny_field he rfl (x := .ref it) rfl ?_)
  refine wpAny_bind (XU (A := X.A.in1) hh hit p (by simp; omega) fun h' y he' hx' => ?_)
  obtain ⟨o, ho, hcl⟩ := hx'
  refine wpAny_bind (wpAny_isInstance (T := "StopIteration") (b := true) ⟨o, ho, hcl⟩ isSubtype_stop ?_)
  exact wpAny_pure ⟨rfl, I.turned (t' := s.toks) (fun c o hb e => he' c o hb e) f0 f1 f3 f4 f5⟩
 self := fun _ _ _ _ _ st h => by
  obtain ⟨⟨old, he⟩, _⟩ := st
  exact wpAny_pyIter_enum he h
theorem za1 (l : Addr) (items : Array Value) (n : Nat) (dct : Option Addr) (sl : Array (Option Value)) :
 Meets (Builtin.«enumerate.__new__» ⟨[.type "enumerate", .ref l], []⟩) (fun _ R s => s.heap.get? l = some { cls := .type "tuple", dict := dct, data := .seq items n, slots := sl } ∧
  R (.ok (.ret (.ref (s.heap.push { cls := .type "tuple_iterator", data := .fields #[.ref l, .int 0 0] }).objs.size)))
    { s with heap := (s.heap.push { cls := .type "tuple_iterator", data := .fields #[.ref l, .int 0 0] }).push { cls := .type "enumerate", data := .fields #[.none, .bool false, .ref s.heap.objs.size, rawInt 0, .none, .none] } }) :=
 .of_wp fun prog w A R s h => by
  obtain ⟨hp, g, d, tk, os⟩ := s; obtain ⟨hl, h⟩ := h
  have hsub := sub_enumerate
  have hL : Heap.IsTuple (Shared.heap ⟨hp, g, d, tk, os⟩) l items := ⟨_, hl, rfl, n, rfl⟩
  wp_walk using wpAny_loadPart' hl
  refine wpAny_stack_any fun st => wpAny_pure ?_
  split
  ·rename_i c _ _ _ _ _
   cases (c == Value.type "enumerate")
   ·wp_walk using wpAny_loadPart' hl, wpAny_pyIter_tuple hL
    exact ⟨_, rfl, h⟩
   ·wp_walk using wpAny_loadPart' hl, wpAny_pyIter_tuple hL
    exact ⟨_, rfl, h⟩
  ·wp_walk using wpAny_loadPart' hl, wpAny_pyIter_tuple hL
   exact ⟨_, rfl, h⟩
theorem zc7 {prog : Program} {w : World} {A : Around} {E : Value → Shared → Prop} {s : Shared} {b : Bool} {l : Addr} {items : Array Value} {Q : Value → Shared → Prop} (hL : SeB b s.heap l items)
 (h : ∀ h', IsEnum h' (s.heap.objs.size + 1) s.heap.objs.size 0 .none → ItB b h' s.heap.objs.size l 0 → h'.objs.size = s.heap.objs.size + 2 →
  (∀ b o, s.heap.get? b = some o → h'.get? b = some o) → Q (.ref (s.heap.objs.size + 1)) { s with heap := h' }) :
 wpAny (model prog w) A (call (.type "enumerate") [.ref l]) Q E s := by
 cases b with
 | true => exact call_enumerate_list hL h
 | false =>
   obtain ⟨⟨c, dct, dt, sl⟩, hl, hc, n, hd⟩ := hL
   replace hc : c = .type "tuple" := hc
   replace hd : dt = .seq items n := hd
   subst hc hd
   refine callType_new F.called_enumerate (by decide) (F.typeCall_enumerate_1 _) (F.newCall_enumerate_1 _) (fun obj => F.args_object_init_2 obj _) F.entry_enumerate_new
    (za1 l items n dct sl) ⟨hl, ?_⟩
   have hz : (s.heap.push { cls := .type "tuple_iterator", data := .fields #[.ref l, .int 0 0] }).objs.size = s.heap.objs.size + 1 := Heap.size_push ..
   show _ ∧ _
   rw [hz]
   have he : IsEnum ((s.heap.push { cls := .type "tuple_iterator", data := .fields #[.ref l, .int 0 0] }).push
    { cls := .type "enumerate", data := .fields #[.none, .bool false, .ref s.heap.objs.size, rawInt 0, .none, .none] }) (s.heap.objs.size + 1) s.heap.objs.size 0 .none := by
    have := Heap.get?_push_size (s.heap.push { cls := .type "tuple_iterator", data := .fields #[.ref l, .int 0 0] })
     (o := { cls := .type "enumerate", data := .fields #[.none, .bool false, .ref s.heap.objs.size, rawInt 0, .none, .none] }) rfl
    rw [hz] at this; exact this
   refine ⟨⟨_, he, rfl⟩, h _ he ⟨_, Heap.get?_push_of_some _ (Heap.get?_push_size _ rfl), rfl, rfl⟩ (by rw [Heap.size_push, hz]) fun b o x => Heap.get?_push_of_some _ (Heap.get?_push_of_some _ x)⟩
section
variable {X : Cx}
def iEnum (b : Bool) (K : PySem.W.Frag) (ta : TA) : TI := fun σ H R => ta σ H fun vs H1 => ∃ a, vs = [.ref a] ∧ (∃ xs, SqB b K H1 a xs) ∧ R (ItE b K a) H1
theorem zd3 (b : Bool) {elts : List Expr} {k : Nat} {tpos : Pos} {a : Expr} {ta : TA} {p pos : Pos} (hg : Gl X "enumerate") (hm : X.mg "enumerate" = none) (ha : PA X [a] ta) (hs : starEach [a] X.env = [(false, eval a X.env)] := by rfl) :
 PI X (.Tuple elts k tpos) (.Call (.Name "enumerate" p) [a] [] pos) (iEnum b X.K ta) := by
 intro pins s σ H R I h
 refine Call_ (XW I hg hm za9 (PyProof.Rows.callWith_type1 (thn (ha pos pins s σ H _ I h) fun us s1 ⟨vs, H1, I1, r1, q1⟩ => ?_) hs rfl))
 obtain ⟨l, e, ⟨xs, hq⟩, q⟩ := q1
 subst e
 obtain ⟨u, rfl, ru⟩ := VT r1
 cases (show u = Value.ref l from ru)
 obtain ⟨its, rv, p1, hz⟩ := seB I1 hq
 refine zc7 p1 fun h' he hit hsz hk => wpAny_pyIter_enum he ?_
 have I2 : Inv X pins σ H1 { s1 with heap := h' } := I1.kept (t' := s1.toks) hk
 have hl : l < s1.heap.objs.size := by obtain ⟨o, z⟩ := p1.obj; exact Heap.lt_size z
 refine ⟨s1.heap.objs.size + 1, [s1.heap.objs.size + 1, s1.heap.objs.size], _, _, H1, rfl, I2, zdk b l _ _ (Nat.ne_of_lt hl) (Nat.succ_ne_self _) (Nat.ne_of_gt (Nat.lt_succ_of_lt hl)), ⟨⟨_, he⟩, hit⟩, fun c hc => ?_, q⟩
 rcases List.mem_cons.mp hc with rfl | hc
 ·exact I1.fpOk (Nat.le_succ _) (I1.hok.fresh (Nat.le_succ _))
 ·obtain rfl : c = s1.heap.objs.size := by simpa using hc
  exact I1.fpOk (Nat.le_refl _) (I1.hok.fresh (Nat.le_refl _))
end
theorem ItB.extBut {b : Bool} {h h' : Heap} {it a c : Addr} {i : Nat} (x : ItB b h it a i) (hs : Heap.ExtBut c h h') (hne : it ≠ c) : ItB b h' it a i := x.at fun o e => hs _ o hne e
theorem SeB.extBut {b : Bool} {h h' : Heap} {a c : Addr} {items : Array Value} (x : SeB b h a items) (hs : Heap.ExtBut c h h') (hne : a ≠ c) : SeB b h' a items := x.at fun o e => hs _ o hne e
section
variable {prog : Program} {w : World} {A : Around} {E : Value → Shared → Prop} {s : Shared}
open PySem
theorem zdc {c1 c2 : Bool} {z TI TO i1 i2 l1 l2 : Addr} {k1 k2 : Nat} {xs ys : Array Value} {x y a b : Value} {Q : Value → Shared → Prop} (D : ZipApart z TI TO i1 i2 l1 l2)
 (hz : IsZip s.heap z TI TO .none) (hTI : IsPair s.heap TI (.ref i1) (.ref i2)) (hTO : IsPair s.heap TO a b)
 (h1 : ItB c1 s.heap i1 l1 k1) (h2 : ItB c2 s.heap i2 l2 k2) (hl1 : SeB c1 s.heap l1 xs) (hl2 : SeB c2 s.heap l2 ys) (hx : xs[k1]? = some x) (hy : ys[k2]? = some y)
 (hQ : ∀ h', IsZip h' z TI TO (rawInt s.heap.objs.size) → IsPair h' TO x y → ItB c1 h' i1 l1 (k1 + 1) → ItB c2 h' i2 l2 (k2 + 1) → IsPair h' s.heap.objs.size x y → h'.objs.size = s.heap.objs.size + 1 →
  (∀ c o, c ≠ z → c ≠ TO → c ≠ i1 → c ≠ i2 → s.heap.get? c = some o → h'.get? c = some o) → Q (.ref s.heap.objs.size) { s with heap := h' }) :
 wpAny (model prog w) A (Builtin.«zip.__next__» ⟨[.ref z], []⟩) (fun fin s' => ∃ v, fin = .done (.ret v) ∧ Q v s') E s := by
 show wpAny _ _ (field (.ref z) 2 >>= _) _ _ _
 refine wpAny_bind (wpAny_field hz rfl (x := .bool false) rfl ?_)
 show wpAny _ _ (field (.ref z) 3 >>= _) _ _ _
 refine wpAny_bind (wpAny_field hz rfl (x := .ref TI) rfl ?_)
 refine wpAny_bind (wpAny_seqItems hTI rfl ?_)
 show wpAny _ _ (Builtin.SmallTypes.ownedTupleIsFree (.ref z) >>= _) _ _ _
 refine wpAny_bind ?_
 unfold Builtin.SmallTypes.ownedTupleIsFree
 refine wpAny_bind (wpAny_field hz rfl (x := .none) rfl (wpAny_pure ?_))
 simp only [if_true]
 refine wpAny_bind (wpAny_rule ?_)
 refine wpAny_bind (wpAny_field hz rfl (x := .ref TO) rfl ?_)
 refine wpAny_bind (wpAny_setField_rec hz (by simp) fun h₁ hz₁ hs₁ => ?_)
 replace hz₁ : IsZip h₁ z TI TO .ellipsis := hz₁
 refine wpAny_bind ?_
 simp only [List.zipIdx_cons, List.zipIdx_nil, List.forIn_cons, List.forIn_nil]
 refine wpAny_bind (wpAny_bind (wpAny_onRaise ?_))
 show wpAny _ _ (Builtin.SmallTypes.nextOf (.ref i1) >>= _) _ _ _
 refine wpAny_bind (YX (h1.extBut hs₁.extBut D.i1z) (hl1.extBut hs₁.extBut D.l1z) hx fun h₂ h1₂ hs₂ => wpAny_pure ?_)
 have hTO₂ : IsPair h₂ TO a b := hs₂.extBut _ _ D.TOi1 (hs₁.extBut _ _ D.TOz hTO)
 refine wpAny_bind (wpAny_seqItems hTO₂ rfl ?_)
 refine wpAny_bind (wpAny_updateSeq_pair hTO₂ fun h₃ hTO₃ hs₃ => ?_)
 replace hTO₃ : IsPair h₃ TO x b := hTO₃
 refine wpAny_bind (wpAny_letGo (wpAny_pure ?_))
 refine wpAny_bind (wpAny_bind (wpAny_onRaise ?_))
 show wpAny _ _ (Builtin.SmallTypes.nextOf (.ref i2) >>= _) _ _ _
 refine wpAny_bind (YX (((h2.extBut hs₁.extBut D.i2z).extBut hs₂.extBut D.i12.symm).extBut hs₃.extBut D.TOi2.symm)
  (((hl2.extBut hs₁.extBut D.l2z).extBut hs₂.extBut D.l2i1).extBut hs₃.extBut D.l2TO) hy fun h₄ h2₄ hs₄ => wpAny_pure ?_)
 have hTO₄ : IsPair h₄ TO x b := hs₄.extBut _ _ D.TOi2 hTO₃
 refine wpAny_bind (wpAny_seqItems hTO₄ rfl ?_)
 refine wpAny_bind (wpAny_updateSeq_pair hTO₄ fun h₅ hTO₅ hs₅ => ?_)
 replace hTO₅ : IsPair h₅ TO x y := hTO₅
 refine wpAny_bind (wpAny_letGo (wpAny_pure (wpAny_pure ?_)))
 refine wpAny_bind (wpAny_seqItems hTO₅ rfl ?_)
 refine wpAny_bind (wpAny_newTuple ?_)
 have hsz : h₅.objs.size = s.heap.objs.size := by rw [hs₅.1, hs₄.1, hs₃.1, hs₂.1, hs₁.1]
 have hz₅ : IsZip h₅ z TI TO .ellipsis := hs₅.extBut _ _ D.TOz.symm (hs₄.extBut _ _ D.i2z.symm (hs₃.extBut _ _ D.TOz.symm (hs₂.extBut _ _ D.i1z.symm hz₁)))
 have hk₅ : ∀ c o, c ≠ z → c ≠ TO → c ≠ i1 → c ≠ i2 → s.heap.get? c = some o → h₅.get? c = some o := fun c o c1 c2 c3 c4 e =>
  hs₅.extBut _ _ c2 (hs₄.extBut _ _ c4 (hs₃.extBut _ _ c2 (hs₂.extBut _ _ c3 (hs₁.extBut _ _ c1 e))))
 have h1₅ : ItB c1 h₅ i1 l1 (k1 + 1) := ((h1₂.extBut hs₃.extBut D.TOi1.symm).extBut hs₄.extBut D.i12).extBut hs₅.extBut D.TOi1.symm
 have h2₅ : ItB c2 h₅ i2 l2 (k2 + 1) := h2₄.extBut hs₅.extBut D.TOi2.symm
 have hzlt : z < h₅.objs.size := Heap.lt_size hz₅
 have hTOlt : TO < h₅.objs.size := Heap.lt_size hTO₅
 have hi1lt : i1 < h₅.objs.size := by obtain ⟨_, e, _⟩ := h1₅.obj; exact Heap.lt_size e
 have hi2lt : i2 < h₅.objs.size := by obtain ⟨_, e, _⟩ := h2₅.obj; exact Heap.lt_size e
 show wpAny _ _ (Builtin.SmallTypes.ownedTupleHandOut (.ref z) (.ref h₅.objs.size) >>= _) _ _ _
 refine wpAny_bind ?_
 unfold Builtin.SmallTypes.ownedTupleHandOut
 have hz₆ : IsZip (h₅.push { cls := .type "tuple", data := .seq #[x, y] }) z TI TO .ellipsis := Heap.get?_push_of_some _ hz₅
 refine wpAny_bind (wpAny_setField_rec hz₆ (by simp) fun h₇ hz₇ hs₇ => ?_)
 replace hz₇ : IsZip h₇ z TI TO (rawInt h₅.objs.size) := hz₇
 refine wpAny_setField_rec hz₇ (by simp) fun h₈ hz₈ hs₈ => ?_
 replace hz₈ : IsZip h₈ z TI TO (rawInt h₅.objs.size) := hz₈
 have up : ∀ c o, c ≠ z → h₅.get? c = some o → h₈.get? c = some o := fun c o c1 e => hs₈.extBut _ _ c1 (hs₇.extBut _ _ c1 (Heap.get?_push_of_some _ e))
 have hT₈ : IsPair h₈ h₅.objs.size x y := hs₈.extBut _ _ (Nat.ne_of_gt hzlt) (hs₇.extBut _ _ (Nat.ne_of_gt hzlt) (Heap.get?_push_size _ rfl))
 have hz8 : h₈.objs.size = h₅.objs.size + 1 := by rw [hs₈.1, hs₇.1, Heap.size_push]
 rw [hsz] at hz₈ hT₈ hz8
 refine wpAny_pure ⟨_, rfl, ?_⟩
 show Q (.ref h₅.objs.size) _
 rw [hsz]
 exact hQ h₈ hz₈ (up _ _ D.TOz hTO₅) (h1₅.at fun o e => up _ o D.i1z e) (h2₅.at fun o e => up _ o D.i2z e) hT₈ hz8 fun c o c1 c2 c3 c4 e => up c o c1 (hk₅ c o c1 c2 c3 c4 e)
theorem ze2 {c1 c2 : Bool} {z TI TO i1 i2 l1 l2 : Addr} {k1 k2 : Nat} {xs ys : Array Value} {a b : Value} {Q : Fin → Shared → Prop} (hh : A.handled = none) (D : ZipApart z TI TO i1 i2 l1 l2)
 (hz : IsZip s.heap z TI TO .none) (hTI : IsPair s.heap TI (.ref i1) (.ref i2)) (hTO : IsPair s.heap TO a b)
 (h1 : ItB c1 s.heap i1 l1 k1) (h2 : ItB c2 s.heap i2 l2 k2) (hl1 : SeB c1 s.heap l1 xs) (hl2 : SeB c2 s.heap l2 ys) (hend : xs[k1]? = none ∨ ys[k2]? = none)
 (hE : ∀ h' e, (∀ c o, c ≠ z → c ≠ TO → c ≠ i1 → c ≠ i2 → s.heap.get? c = some o → h'.get? c = some o) → (∃ o, h'.get? e = some o ∧ o.cls = .type "StopIteration") → E (.ref e) { s with heap := h' }) :
 wpAny (model prog w) A (Builtin.«zip.__next__» ⟨[.ref z], []⟩) Q E s := by
 show wpAny _ _ (field (.ref z) 2 >>= _) _ _ _
 refine wpAny_bind (wpAny_field hz rfl (x := .bool false) rfl ?_)
 show wpAny _ _ (field (.ref z) 3 >>= _) _ _ _
 refine wpAny_bind (wpAny_field hz rfl (x := .ref TI) rfl ?_)
 refine wpAny_bind (wpAny_seqItems hTI rfl ?_)
 show wpAny _ _ (Builtin.SmallTypes.ownedTupleIsFree (.ref z) >>= _) _ _ _
 refine wpAny_bind ?_
 unfold Builtin.SmallTypes.ownedTupleIsFree
 refine wpAny_bind (wpAny_field hz rfl (x := .none) rfl (wpAny_pure ?_))
 simp only [if_true]
 refine wpAny_bind (wpAny_rule ?_)
 refine wpAny_bind (wpAny_field hz rfl (x := .ref TO) rfl ?_)
 refine wpAny_bind (wpAny_setField_rec hz (by simp) fun h₁ hz₁ hs₁ => ?_)
 replace hz₁ : IsZip h₁ z TI TO .ellipsis := hz₁
 refine wpAny_bind ?_
 simp only [List.zipIdx_cons, List.zipIdx_nil, List.forIn_cons, List.forIn_nil]
 refine wpAny_bind (wpAny_bind (wpAny_onRaise ?_))
 show wpAny _ _ (Builtin.SmallTypes.nextOf (.ref i1) >>= _) _ _ _
 cases hx : xs[k1]? with
 | none =>
   refine wpAny_bind (XU hh (h1.extBut hs₁.extBut D.i1z) (hl1.extBut hs₁.extBut D.l1z) hx fun h₂ e hs₂ he => ?_)
   obtain ⟨oe, hoe, hce⟩ := he
   have hz₂ : IsZip h₂ z TI TO .ellipsis := hs₂ _ _ D.i1z.symm hz₁
   have hez : e ≠ z := fun x => by subst x; rw [hz₂] at hoe; cases hoe; simp at hce
   refine wpAny_setField_rec hz₂ (by simp) fun h₃ _ hs₃ => hE h₃ e (fun c o c1 _ c3 _ x => hs₃.extBut _ _ c1 (hs₂ _ _ c3 (hs₁.extBut _ _ c1 x))) ⟨oe, hs₃.extBut _ _ hez hoe, hce⟩
 | some x =>
   have hy : ys[k2]? = none := by rcases hend with h | h; rw [hx] at h; cases h; exact h
   refine wpAny_bind (YX (h1.extBut hs₁.extBut D.i1z) (hl1.extBut hs₁.extBut D.l1z) hx fun h₂ h1₂ hs₂ => wpAny_pure ?_)
   have hTO₂ : IsPair h₂ TO a b := hs₂.extBut _ _ D.TOi1 (hs₁.extBut _ _ D.TOz hTO)
   refine wpAny_bind (wpAny_seqItems hTO₂ rfl ?_)
   refine wpAny_bind (wpAny_updateSeq_pair hTO₂ fun h₃ hTO₃ hs₃ => ?_)
   refine wpAny_bind (wpAny_letGo (wpAny_pure ?_))
   refine wpAny_bind (wpAny_bind (wpAny_onRaise ?_))
   show wpAny _ _ (Builtin.SmallTypes.nextOf (.ref i2) >>= _) _ _ _
   refine wpAny_bind (XU hh (((h2.extBut hs₁.extBut D.i2z).extBut hs₂.extBut D.i12.symm).extBut hs₃.extBut D.TOi2.symm)
    (((hl2.extBut hs₁.extBut D.l2z).extBut hs₂.extBut D.l2i1).extBut hs₃.extBut D.l2TO) hy fun h₄ e hs₄ he => ?_)
   obtain ⟨oe, hoe, hce⟩ := he
   have hz₄ : IsZip h₄ z TI TO .ellipsis := hs₄ _ _ D.i2z.symm (hs₃.extBut _ _ D.TOz.symm (hs₂.extBut _ _ D.i1z.symm hz₁))
   have hez : e ≠ z := fun x => by subst x; rw [hz₄] at hoe; cases hoe; simp at hce
   refine wpAny_setField_rec hz₄ (by simp) fun h₅ _ hs₅ => hE h₅ e (fun c o c1 c2 c3 c4 x => hs₅.extBut _ _ c1 (hs₄ _ _ c4 (hs₃.extBut _ _ c2 (hs₂.extBut _ _ c3 (hs₁.extBut _ _ c1 x))))) ⟨oe, hs₅.extBut _ _ hez hoe, hce⟩
end
def ItZ (c1 c2 : Bool) (K : PySem.W.Frag) (a1 a2 : Addr) : It :=
 ⟨fun i H => ∃ xs ys x y, SqB c1 K H a1 xs ∧ SqB c2 K H a2 ys ∧ xs[i]? = some x ∧ ys[i]? = some y,
  fun i H v H' => ∃ p x y, (∀ xs, SqB c1 K H a1 xs → xs[i]? = some x) ∧ (∀ ys, SqB c2 K H a2 ys → ys[i]? = some y) ∧ H p = none ∧ v = .ref p ∧ H' = upd H p (.tup [x, y]),
  fun i H => ∃ xs ys, SqB c1 K H a1 xs ∧ SqB c2 K H a2 ys ∧ (xs.length ≤ i ∨ ys.length ≤ i)⟩
theorem ze5 {P : Program} {w : World} {K : PySem.W.Frag} {elts : List Expr} {k : Nat} {pos : Pos} (c1 c2 : Bool) (z TI TO i1 i2 l1 l2 : Addr) (D : ZipApart z TI TO i1 i2 l1 l2) :
 Turn P w K (.Tuple elts k pos) (ItZ c1 c2 K l1 l2) [z, TI, TO, i1, i2] z (fun i h => IsZip h z TI TO .none ∧ IsPair h TI (.ref i1) (.ref i2) ∧ (∃ a b, IsPair h TO a b) ∧ ItB c1 h i1 l1 i ∧ ItB c2 h i2 l2 i) where
 mem := by simp
 obj := fun i h st c hc => by
  obtain ⟨hz, hTI, ⟨a, b, hTO⟩, h1, h2⟩ := st
  simp only [List.mem_cons, List.not_mem_nil, or_false] at hc
  rcases hc with rfl | rfl | rfl | rfl | rfl
  ·exact ⟨_, hz, fun v q => by cases q⟩
  ·exact ⟨_, hTI, fun v q => by cases q⟩
  ·exact ⟨_, hTO, fun v q => by cases q⟩
  ·exact h1.obj
  ·exact h2.obj
 keep := fun i h h' st kk => by
  obtain ⟨hz, hTI, ⟨a, b, hTO⟩, h1, h2⟩ := st
  exact ⟨kk z (by simp) _ hz, kk TI (by simp) _ hTI, ⟨a, b, kk TO (by simp) _ hTO⟩, h1.at fun o e => kk i1 (by simp) o e, h2.at fun o e => kk i2 (by simp) o e⟩
 item := by
  intro X hP hw hK hc i pins s σ H E I hf st hg
  subst hP hw hK
  obtain ⟨hz, hTI, ⟨a, b, hTO⟩, h1, h2⟩ := st
  obtain ⟨xs, ys, x, y, hq1, hq2, hx, hy⟩ := hg
  obtain ⟨its1, rv1, p1, _⟩ := seB I hq1
  obtain ⟨its2, rv2, p2, _⟩ := seB I hq2
  obtain ⟨u1, hu1, ru1⟩ := rv1.get hx
  obtain ⟨u2, hu2, ru2⟩ := rv2.get hy
  have hT : s.TypeIs (.ref z) "zip" := ⟨_, hz, rfl⟩
  unfold pyNext
  refine wpAny_bind (wpAny_attempt (wpAny_callSpecial?_slot (name := Str.ofString "__next__") hT F.slot_zip_next (wpAny_call_entry F.slot_zip_next hT F.entry_zip_next
   (zdc D hz hTI hTO h1 h2 p1 p2 (x := u1) (y := u2) (by simpa using hu1) (by simpa using hu2) fun h' a1 a2 a3 a4 a5 a6 hk => wpAny_pure ?_) (F.args_zip_next_1 _))))
  refine ⟨_, rfl, wpAny_letOwnedTupleGo_zip a1 fun h'' hz'' hs'' => ?_⟩
  have lt : ∀ {c o}, s.heap.get? c = some o → c < s.heap.objs.size := fun e => Heap.lt_size e
  have i1lt : i1 < s.heap.objs.size := by obtain ⟨_, e, _⟩ := h1.obj; exact lt e
  have i2lt : i2 < s.heap.objs.size := by obtain ⟨_, e, _⟩ := h2.obj; exact lt e
  have hTI' : IsPair h' TI (.ref i1) (.ref i2) := hk _ _ D.TIz D.TITO D.TIi1 D.TIi2 hTI
  have up : ∀ c o, c ≠ z → h'.get? c = some o → h''.get? c = some o := fun c o hc e => (hs''.2 c hc).trans e
  have hT'' : h''.get? s.heap.objs.size = some { cls := .type "tuple", data := .seq #[u1, u2] } := up _ _ (Nat.ne_of_gt (lt hz)) a5
  have st'' : IsZip h'' z TI TO .none ∧ IsPair h'' TI (.ref i1) (.ref i2) ∧ (∃ a b, IsPair h'' TO a b) ∧ ItB c1 h'' i1 l1 (i + 1) ∧ ItB c2 h'' i2 l2 (i + 1) :=
   ⟨hz'', up _ _ D.TIz hTI', ⟨u1, u2, up _ _ D.TOz a2⟩, a3.at fun o e => up _ o D.i1z e, a4.at fun o e => up _ o D.i2z e⟩
  refine ⟨.ref s.heap.objs.size, upd H s.heap.objs.size (.tup [x, y]), ?_, rfl, ⟨_, x, y, fun zs hy => by rw [zbr I hy hq1]; exact hx, fun zs hy' => by rw [zbr I hy' hq2]; exact hy, I.fresh, rfl, rfl⟩, st'', fun c hc => ?_⟩
  ·refine We (s := s) (t' := s.toks) (ch := [z, TI, TO, i1, i2]) I hf (fun c o hcn q => ?_) (fun c hc => ?_) (Nat.le_refl _) ⟨zaw, [u1, u2], .cons ru1 (.cons ru2 .nil), ⟨_, hT'', rfl, _, rfl⟩⟩
   ·have n1 : c ≠ z := fun e => hcn (by simp [e])
    exact up c o n1 (hk c o n1 (fun e => hcn (by simp [e])) (fun e => hcn (by simp [e])) (fun e => hcn (by simp [e])) q)
   ·obtain ⟨z1, z2, ⟨_, _, z3⟩, z4, z5⟩ := st''
    simp only [List.mem_cons, List.not_mem_nil, or_false] at hc
    rcases hc with rfl | rfl | rfl | rfl | rfl
    ·exact ⟨_, z1⟩
    ·exact ⟨_, z2⟩
    ·exact ⟨_, z3⟩
    ·obtain ⟨o, e, _⟩ := z4.obj; exact ⟨o, e⟩
    ·obtain ⟨o, e, _⟩ := z5.obj; exact ⟨o, e⟩
  ·have hlt : c < s.heap.objs.size := by
    simp only [List.mem_cons, List.not_mem_nil, or_false] at hc
    rcases hc with rfl | rfl | rfl | rfl | rfl
    ·exact lt hz
    ·exact lt hTI
    ·exact lt hTO
    ·exact i1lt
    ·exact i2lt
   rw [ye (Nat.ne_of_lt hlt)]
   exact (hf c hc).1
 done := by
  intro X hP hw hK hc i pins s σ H E I hf st hg
  subst hP hw hK
  obtain ⟨hz, hTI, ⟨a, b, hTO⟩, h1, h2⟩ := st
  obtain ⟨xs, ys, hq1, hq2, hend⟩ := hg
  obtain ⟨its1, rv1, p1, _⟩ := seB I hq1
  obtain ⟨its2, rv2, p2, _⟩ := seB I hq2
  have e1 := rv1.length
  have e2 := rv2.length
  have hh := I.ok.hd hc
  have hT : s.TypeIs (.ref z) "zip" := ⟨_, hz, rfl⟩
  unfold pyNext
  refine wpAny_bind (wpAny_attempt (wpAny_callSpecial?_slot (name := Str.ofString "__next__") hT F.slot_zip_next (wpAny_call_entry F.slot_zip_next hT F.entry_zip_next
   (ze2 (A := X.A.in1) hh D hz hTI hTO h1 h2 p1 p2 (by simp only [List.getElem?_toArray]; rcases hend with q | q; exact .inl (List.getElem?_eq_none (by omega)); exact .inr (List.getElem?_eq_none (by omega))) fun h' e hk he => ?_) (F.args_zip_next_1 _))))
  obtain ⟨o, ho, hcl⟩ := he
  refine wpAny_bind (wpAny_isInstance (T := "StopIteration") (b := true) ⟨o, ho, hcl⟩ isSubtype_stop ?_)
  refine wpAny_pure ⟨rfl, ?_⟩
  refine I.step (g' := s.gens) (d' := s.drawn) (t' := s.toks) (H' := H) (ch := [z, TO, i1, i2]) (fun b hb => ?_) (fun b u _ _ hcn e _ => hk b u (fun q => hcn (by simp [q])) (fun q => hcn (by simp [q])) (fun q => hcn (by simp [q])) (fun q => hcn (by simp [q])) e)
   (fun b u _ _ hcn e _ => ⟨u.slots, hk b u (fun q => hcn (by simp [q])) (fun q => hcn (by simp [q])) (fun q => hcn (by simp [q])) (fun q => hcn (by simp [q])) e⟩) (fun _ _ _ _ n => n)
   (fun b u hcn e => ⟨u, hk b u (fun q => hcn (by simp [q])) (fun q => hcn (by simp [q])) (fun q => hcn (by simp [q])) (fun q => hcn (by simp [q])) e⟩) (fun _ _ e => e) (fun _ _ _ e => e) (fun b ps e => ⟨#[], by rw [e]; simp⟩) (fun m hm => ?_) (fun b u e => ?_) I.bare
  ·have hb' : b ∈ [z, TI, TO, i1, i2] := by
    simp only [List.mem_cons, List.not_mem_nil, or_false] at hb ⊢
    rcases hb with q | q | q | q <;> simp [q]
   exact ⟨(hf b hb').2.2.2.1, (hf b hb').2.1, (hf b hb').2.2.2.2.1, (hf b hb').2.2.2.2.2⟩
  ·obtain ⟨ob, es, ep, ho, r⟩ := hm
   exact ⟨ob, es, ep, hk _ ob (fun q => (hf z (by simp)).2.1 q.symm) (fun q => (hf TO (by simp)).2.1 q.symm) (fun q => (hf i1 (by simp)).2.1 q.symm) (fun q => (hf i2 (by simp)).2.1 q.symm) ho, r⟩
  ·refine (I.hok b u e).stay (fun c v hcc q => ?_) (fun _ q => q) fun _ _ q => q
   have nf : ∀ d ∈ [z, TI, TO, i1, i2], c ≠ d := fun d hd z => by
    subst z
    rcases hcc with q | q
    ·rw [← q, (hf _ hd).1] at e; cases e
    ·rw [(hf _ hd).1] at q; cases q
   exact hk c v (nf z (by simp)) (nf TO (by simp)) (nf i1 (by simp)) (nf i2 (by simp)) q
 self := fun _ _ _ _ _ st h => wpAny_pyIter_zip st.1 h
def zfW (b : Bool) (l : Addr) : Obj := { cls := .type (match b with | true => "list_iterator" | false => "tuple_iterator"), data := .fields #[.ref l, .int 0 0] }
abbrev zB1 (c1 : Bool) (h : Heap) (l1 : Addr) : Heap := h.push (zfW c1 l1)
abbrev zB2 (c1 c2 : Bool) (h : Heap) (l1 l2 : Addr) : Heap := (zB1 c1 h l1).push (zfW c2 l2)
abbrev zB3 (c1 c2 : Bool) (h : Heap) (l1 l2 : Addr) : Heap := (zB2 c1 c2 h l1 l2).push { cls := .type "tuple", data := .seq #[.ref h.objs.size, .ref (zB1 c1 h l1).objs.size] }
abbrev zB4 (c1 c2 : Bool) (h : Heap) (l1 l2 : Addr) : Heap := (zB3 c1 c2 h l1 l2).push { cls := .type "tuple", data := .seq #[.none, .none] }
abbrev zB5 (c1 c2 : Bool) (h : Heap) (l1 l2 : Addr) : Heap := (zB4 c1 c2 h l1 l2).push { cls := .type "zip", data := .fields #[.none, .bool false, .bool false, .ref (zB2 c1 c2 h l1 l2).objs.size, .ref (zB3 c1 c2 h l1 l2).objs.size] }
theorem SeB.push {b : Bool} {h : Heap} {a : Addr} {items : Array Value} (x : SeB b h a items) (o : Obj) : SeB b (h.push o) a items := x.at fun _ e => Heap.get?_push_of_some _ e
theorem zcU (c1 c2 : Bool) (l1 l2 : Addr) (xs ys : Array Value) :
 Meets (Builtin.«zip.__new__» ⟨[.type "zip", .ref l1, .ref l2], []⟩) (fun _ R s => SeB c1 s.heap l1 xs ∧ SeB c2 s.heap l2 ys ∧
  R (.ok (.ret (.ref (zB4 c1 c2 s.heap l1 l2).objs.size))) { s with heap := zB5 c1 c2 s.heap l1 l2 }) :=
 .of_wp fun prog w A R s h => by
  obtain ⟨hp, g, d, tk, os⟩ := s; obtain ⟨hl1, hl2, h⟩ := h
  have hsub := sub_zip
  cases c1 with
  | true =>
    have hL1 : Heap.IsList (Shared.heap ⟨hp, g, d, tk, os⟩) l1 xs := hl1
    cases c2 with
    | true =>
      have hL2 : Heap.IsList (Shared.heap ⟨hp.push { cls := .type "list_iterator", data := .fields #[.ref l1, .int 0 0] }, g, d, tk, os⟩) l2 ys := SeB.push (b := true) hl2 _
      wp_walk using wpAny_pyIter_list hL1, wpAny_pyIter_list hL2
      exact ⟨_, rfl, h⟩
    | false =>
      have hL2 : Heap.IsTuple (Shared.heap ⟨hp.push { cls := .type "list_iterator", data := .fields #[.ref l1, .int 0 0] }, g, d, tk, os⟩) l2 ys := SeB.push (b := false) hl2 _
      wp_walk using wpAny_pyIter_list hL1, wpAny_pyIter_tuple hL2
      exact ⟨_, rfl, h⟩
  | false =>
    have hL1 : Heap.IsTuple (Shared.heap ⟨hp, g, d, tk, os⟩) l1 xs := hl1
    cases c2 with
    | true =>
      have hL2 : Heap.IsList (Shared.heap ⟨hp.push { cls := .type "tuple_iterator", data := .fields #[.ref l1, .int 0 0] }, g, d, tk, os⟩) l2 ys := SeB.push (b := true) hl2 _
      wp_walk using wpAny_pyIter_tuple hL1, wpAny_pyIter_list hL2
      exact ⟨_, rfl, h⟩
    | false =>
      have hL2 : Heap.IsTuple (Shared.heap ⟨hp.push { cls := .type "tuple_iterator", data := .fields #[.ref l1, .int 0 0] }, g, d, tk, os⟩) l2 ys := SeB.push (b := false) hl2 _
      wp_walk using wpAny_pyIter_tuple hL1, wpAny_pyIter_tuple hL2
      exact ⟨_, rfl, h⟩
theorem zck {b : Bool} {h : Heap} {it l : Addr} (e : h.get? it = some (zfW b l)) : ItB b h it l 0 := by
 cases b with
 | true => exact ⟨_, e, rfl, rfl⟩
 | false => exact ⟨_, e, rfl, rfl⟩
theorem Uw (b : Bool) (l : Addr) : (zfW b l).isFreed = false := by cases b <;> rfl
theorem zeP {prog : Program} {w : World} {A : Around} {E : Value → Shared → Prop} {s : Shared} {c1 c2 : Bool} {l1 l2 : Addr} {xs ys : Array Value} {Q : Value → Shared → Prop} (hl1 : SeB c1 s.heap l1 xs) (hl2 : SeB c2 s.heap l2 ys)
 (h : ∀ h', IsZip h' (s.heap.objs.size + 4) (s.heap.objs.size + 2) (s.heap.objs.size + 3) .none → IsPair h' (s.heap.objs.size + 2) (.ref s.heap.objs.size) (.ref (s.heap.objs.size + 1)) →
  IsPair h' (s.heap.objs.size + 3) .none .none → ItB c1 h' s.heap.objs.size l1 0 → ItB c2 h' (s.heap.objs.size + 1) l2 0 →
  (∀ c o, s.heap.get? c = some o → h'.get? c = some o) → Q (.ref (s.heap.objs.size + 4)) { s with heap := h' }) :
 wpAny (model prog w) A (call (.type "zip") [.ref l1, .ref l2]) Q E s := by
 refine callType_new F.called_zip (by decide) (F.typeCall_zip_2 _ _) (F.newCall_zip_2 _ _) (fun obj => F.args_object_init_3 obj _ _) F.entry_zip_new
  (zcU c1 c2 l1 l2 xs ys) ⟨hl1, hl2, ?_⟩
 have z1 : (zB1 c1 s.heap l1).objs.size = s.heap.objs.size + 1 := Heap.size_push ..
 have z2 : (zB2 c1 c2 s.heap l1 l2).objs.size = s.heap.objs.size + 2 := by rw [Heap.size_push, z1]
 have z3 : (zB3 c1 c2 s.heap l1 l2).objs.size = s.heap.objs.size + 3 := by rw [Heap.size_push, z2]
 have z4 : (zB4 c1 c2 s.heap l1 l2).objs.size = s.heap.objs.size + 4 := by rw [Heap.size_push, z3]
 have g5 : (zB5 c1 c2 s.heap l1 l2).get? (zB4 c1 c2 s.heap l1 l2).objs.size = some _ := Heap.get?_push_size _ rfl
 have g4 : (zB5 c1 c2 s.heap l1 l2).get? (zB3 c1 c2 s.heap l1 l2).objs.size = some _ := Heap.get?_push_of_some _ (Heap.get?_push_size _ rfl)
 have g3 : (zB5 c1 c2 s.heap l1 l2).get? (zB2 c1 c2 s.heap l1 l2).objs.size = some _ := Heap.get?_push_of_some _ (Heap.get?_push_of_some _ (Heap.get?_push_size _ rfl))
 have g2 : (zB5 c1 c2 s.heap l1 l2).get? (zB1 c1 s.heap l1).objs.size = some _ := Heap.get?_push_of_some _ (Heap.get?_push_of_some _ (Heap.get?_push_of_some _ (Heap.get?_push_size _ (Uw c2 l2))))
 have g1 : (zB5 c1 c2 s.heap l1 l2).get? s.heap.objs.size = some _ := Heap.get?_push_of_some _ (Heap.get?_push_of_some _ (Heap.get?_push_of_some _ (Heap.get?_push_of_some _ (Heap.get?_push_size _ (Uw c1 l1)))))
 show _ ∧ _
 rw [z2, z3, z4] at g5
 rw [z1, z2] at g3
 rw [z3] at g4
 rw [z1] at g2
 rw [z4]
 exact ⟨⟨_, g5, rfl⟩, h _ g5 g3 g4 (zck g1) (zck g2) fun c o x => Heap.get?_push_of_some _ (Heap.get?_push_of_some _ (Heap.get?_push_of_some _ (Heap.get?_push_of_some _ (Heap.get?_push_of_some _ x))))⟩
section
variable {X : Cx}
def iZip (c1 c2 : Bool) (K : PySem.W.Frag) (ta : TA) : TI := fun σ H R => ta σ H fun vs H1 => ∃ a1 a2, vs = [.ref a1, .ref a2] ∧ (∃ xs, SqB c1 K H1 a1 xs) ∧ (∃ ys, SqB c2 K H1 a2 ys) ∧ R (ItZ c1 c2 K a1 a2) H1
theorem WL (c1 c2 : Bool) {elts : List Expr} {k : Nat} {tpos : Pos} {a b : Expr} {ta : TA} {p pos : Pos} (hg : Gl X "zip") (hm : X.mg "zip" = none) (ha : PA X [a, b] ta) (hs : starEach [a, b] X.env = [(false, eval a X.env), (false, eval b X.env)] := by rfl) (hs2 : starEach [b] X.env = [(false, eval b X.env)] := by rfl) :
 PI X (.Tuple elts k tpos) (.Call (.Name "zip" p) [a, b] [] pos) (iZip c1 c2 X.K ta) := by
 intro pins s σ H R I h
 refine Call_ (XW I hg hm bt_zip (PyProof.Rows.callWith_type1 (thn (ha pos pins s σ H _ I h) fun us s1 ⟨vs, H1, I1, r1, q1⟩ => ?_) (by rw [hs, hs2]) (by rw [hs2]; rfl)))
 obtain ⟨l1, l2, e, ⟨xs, hq1⟩, ⟨ys, hq2⟩, q⟩ := q1
 subst e
 obtain ⟨u1, u2, rfl, ru1, ru2⟩ := ze4 r1
 cases (show u1 = Value.ref l1 from ru1)
 cases (show u2 = Value.ref l2 from ru2)
 obtain ⟨its1, rv1, p1, _⟩ := seB I1 hq1
 obtain ⟨its2, rv2, p2, _⟩ := seB I1 hq2
 have lt1 : l1 < s1.heap.objs.size := by obtain ⟨o, z⟩ := p1.obj; exact Heap.lt_size z
 have lt2 : l2 < s1.heap.objs.size := by obtain ⟨o, z⟩ := p2.obj; exact Heap.lt_size z
 refine zeP p1 p2 fun h' a1 a2 a3 a4 a5 hk => wpAny_pyIter_zip a1 ?_
 have I2 : Inv X pins σ H1 { s1 with heap := h' } := I1.kept (t' := s1.toks) hk
 refine ⟨s1.heap.objs.size + 4, [s1.heap.objs.size + 4, s1.heap.objs.size + 2, s1.heap.objs.size + 3, s1.heap.objs.size, s1.heap.objs.size + 1], _, _, H1, rfl, I2, ze5 c1 c2 _ _ _ _ _ l1 l2 (zipApart_new lt1 lt2), ⟨a1, a2, ⟨_, _, a3⟩, a4, a5⟩, fun c hc => ?_, q⟩
 have hle : s1.heap.objs.size ≤ c := by
  simp only [List.mem_cons, List.not_mem_nil, or_false] at hc
  rcases hc with z | z | z | z | z <;> rw [z] <;> first | exact Nat.le_add_right _ _ | exact Nat.le_refl _
 exact I1.fpOk hle (I1.hok.fresh hle)
end
end S
namespace S
open PySem PySem.Spec PyProof.Rows L2
theorem zgH {α : Type} {xs : List α} {k : Int} {v : α} (h0 : 0 ≤ k) (h : xs[k.toNat]? = some v) : atI xs k = some v := by
 have ek : k = ((k.toNat : Nat) : Int) := by omega
 rw [ek]
 exact Yk h
end S
namespace S
open PySem PySem.Spec PyProof.Rows L2
abbrev zm := Rat × List Rat
section
variable {H H' : Hp} {qs : List Rat} {c : zm} {cs : List zm} {v : V} {vs : List V} {l : Addr} {xs : List V} {o : HO}
end
def xN (qs : List Rat) : PyData := .tuple (qs.map frD)
def zW (c : zm) : PyData := .tuple [frD c.1, xN c.2]
def Xc (cs : List zm) : PyData := .list (cs.map zW)
theorem zcl {H : Hp} {α : Type} {R : α → V → Prop} {f : α → PyData} (hR : ∀ a v, R a v → Is H (f a) v) : ∀ {xs : List α} {vs : List V}, xs.length = vs.length → (∀ (i : Nat) (x : α) (v : V), xs[i]? = some x → vs[i]? = some v → R x v) → zM H (xs.map f) vs
 | [], [], _, _ => by rw [List.map_nil, zM]
 | [], _ :: _, h, _ => by simp at h
 | _ :: _, [], h, _ => by simp at h
 | x :: xs, v :: vs, hl, h => by
   rw [List.map_cons, zM]
   exact ⟨v, vs, rfl, hR x v (h 0 x v rfl rfl), zcl hR (by simpa using hl) fun i a b ha hb => h (i + 1) a b (by simpa using ha) (by simpa using hb)⟩
theorem zes {α : Type} {f : α → PyData} (h : ∀ a, (f a).canLay0 = true) : ∀ xs : List α, PyData.canLayAll0 (xs.map f) = true
 | [] => rfl
 | x :: xs => by rw [List.map_cons, PyData.canLayAll0, h x, zes h xs]; rfl
theorem zeG {α : Type} {f : α → PyData} {n : Nat} (h : ∀ a, (f a).depth ≤ n) : ∀ xs : List α, PyData.depthAll (xs.map f) ≤ n
 | [] => by rw [List.map_nil, PyData.depthAll]; exact Nat.zero_le _
 | x :: xs => by rw [List.map_cons, PyData.depthAll]; exact Nat.max_le.mpr ⟨h x, zeG h xs⟩
def yM (c0 c1 c2 : zm) : Prop := ∀ (i : Nat) (a b c : Rat), c0.2[i]? = some a → c1.2[i]? = some b → c2.2[i]? = some c → (b - a) * (c2.1 - c0.1) = (c - a) * (c1.1 - c0.1)
theorem zaf (p q : Rat) : Rat.divInt (q.num * p.den - p.num * q.den) (p.den * q.den) = q - p := by
 rw [Rat.sub_def', Int.mul_comm (p.den : Int), ← Int.natCast_mul, Rat.divInt_ofNat]
theorem zeK {rn rd nn nd wn wd fn fd : Int} (h1 : rd ≠ 0) (h2 : nd ≠ 0) (h3 : wd ≠ 0) (h4 : fd ≠ 0) :
 Rat.divInt rn rd * Rat.divInt fn fd = Rat.divInt wn wd * Rat.divInt nn nd ↔ rn * nd * wd * fn = wn * fd * rd * nn := by
 rw [Rat.divInt_mul_divInt, Rat.divInt_mul_divInt, Rat.divInt_eq_divInt_iff (Int.mul_ne_zero h1 h4) (Int.mul_ne_zero h3 h2)]
 have e1 : rn * fn * (wd * nd) = rn * nd * wd * fn := by grind
 have e2 : wn * nn * (rd * fd) = wn * fd * rd * nn := by grind
 rw [e1, e2]
end S
namespace S
open PySem PySem.Spec PyProof.Rows L2
abbrev yR := List (Addr × List PyData)
abbrev Dat := List (PyData × V)
def ZW (G : Hp) (ds : Dat) : Prop := ∀ p ∈ ds, Is G p.1 p.2
def Has (ds : Dat) (x : PyData) (v : V) : Prop := ∀ G, ZW G ds → Is G x v
def yy (ds : Dat) (xs : List PyData) (vs : List V) : Prop := ∀ G, ZW G ds → zM G xs vs
def zia (B G0 H : Hp) (cs : yR) (ds : Dat) (G : Hp) : Prop :=
 yc G0 G ∧ yc G H ∧ yc B H ∧ (∀ p, B p ≠ none → G p = G0 p) ∧ (∀ c ∈ cs, B c.1 = none ∧ G c.1 = none ∧ ∃ vs, H c.1 = some (.lst vs) ∧ zM G c.2 vs) ∧ (cs.map (·.1)).Nodup ∧ ZW G ds
def Sta (B G0 H : Hp) (cs : yR) (ds : Dat) : Prop := ∃ G, zia B G0 H cs ds G
structure Grow (G H G' H' : Hp) : Prop where
 h : yc H H'
 g : yc G G'
 sub : yc G' H'
 old : ∀ p, H p ≠ none → G' p = G p
theorem ZW.mono {G G' : Hp} {ds : Dat} (h : ZW G ds) (e : yc G G') : ZW G' ds := fun p hp => Is.mono e _ _ (h p hp)
theorem ZW.cons {G : Hp} {ds : Dat} {x : PyData} {v : V} (h : ZW G ds) (g : Is G x v) : ZW G ((x, v) :: ds) := fun p hp => by
 rcases List.mem_cons.mp hp with rfl | hp
 ·exact g
 ·exact h p hp
theorem Has.int {ds : Dat} {i : Int} : Has ds (.int i) (.int i) := fun _ _ => by rw [Is]
theorem Has.str {ds : Dat} {i : Str} : Has ds (.str i) (.str i) := fun _ _ => by rw [Is]
theorem Has.mem {ds : Dat} {x : PyData} {v : V} (h : (x, v) ∈ ds) : Has ds x v := fun _ a => a _ h
theorem Has.weak {ds ds' : Dat} {x : PyData} {v : V} (h : Has ds x v) (k : ∀ p ∈ ds, Has ds' p.1 p.2) : Has ds' x v := fun G a => h G fun p hp => k p hp G a
theorem Has.tail {ds : Dat} {x : PyData} {v : V} {p : PyData × V} (h : Has ds x v) : Has (p :: ds) x v := h.weak fun q hq => .mem (List.mem_cons_of_mem _ hq)
theorem yy.nil {ds : Dat} : yy ds [] [] := fun _ _ => by rw [zM]
theorem yy.cons {ds : Dat} {x : PyData} {v : V} {xs : List PyData} {vs : List V} (h : Has ds x v) (g : yy ds xs vs) : yy ds (x :: xs) (v :: vs) := fun G a => by
 rw [zM]; exact ⟨v, vs, rfl, h G a, g G a⟩
theorem zM.len {H : Hp} : ∀ {xs : List PyData} {vs : List V}, zM H xs vs → xs.length = vs.length
 | [], vs, h => by rw [zM] at h; subst h; rfl
 | x :: xs, vs, h => by
   rw [zM] at h
   obtain ⟨v, r, rfl, _, g⟩ := h
   rw [List.length_cons, List.length_cons, zM.len g]
theorem zM.at {H : Hp} : ∀ {xs : List PyData} {vs : List V} {i : Nat} {x : PyData}, zM H xs vs → xs[i]? = some x → ∃ v, vs[i]? = some v ∧ Is H x v
 | [], _, _, _, _, e => by simp at e
 | y :: xs, vs, i, x, h, e => by
   rw [zM] at h
   obtain ⟨v, r, rfl, h1, g⟩ := h
   cases i with
   | zero => simp at e; subst e; exact ⟨v, rfl, h1⟩
   | succ i => simpa using zM.at g (by simpa using e)
theorem zM.app {H : Hp} : ∀ {xs ys : List PyData} {vs ws : List V}, zM H xs vs → zM H ys ws → zM H (xs ++ ys) (vs ++ ws)
 | [], ys, vs, ws, h, g => by rw [zM] at h; subst h; exact g
 | x :: xs, ys, vs, ws, h, g => by
   rw [zM] at h
   obtain ⟨v, r, rfl, h1, h2⟩ := h
   rw [List.cons_append, List.cons_append, zM]
   exact ⟨v, _, rfl, h1, zM.app h2 g⟩
theorem Zl {H : Hp} {xs : List PyData} {vs : List V} : zM H xs vs ↔ xs.length = vs.length ∧ ∀ (i : Nat) (x : PyData) (v : V), xs[i]? = some x → vs[i]? = some v → Is H x v := by
 constructor
 ·intro h
  refine ⟨h.len, fun i x v hx hv => ?_⟩
  obtain ⟨w, hw, g⟩ := h.at hx
  rw [hv] at hw; cases hw; exact g
 ·rintro ⟨h1, h2⟩
  have := zcl (R := fun (a : PyData) v => Is H a v) (f := id) (fun _ _ z => z) h1 h2
  simpa using this
theorem zM.take {H : Hp} {xs : List PyData} {vs : List V} (h : zM H xs vs) (n : Nat) : zM H (xs.take n) (vs.take n) := by
 rw [Zl] at h ⊢
 refine ⟨by rw [List.length_take, List.length_take, h.1], fun i x v hx hv => ?_⟩
 rw [List.getElem?_take] at hx hv
 split at hx
 ·rename_i c; rw [if_pos c] at hv; exact h.2 i x v hx hv
 ·cases hx
theorem zM.drop {H : Hp} {xs : List PyData} {vs : List V} (h : zM H xs vs) (n : Nat) : zM H (xs.drop n) (vs.drop n) := by
 rw [Zl] at h ⊢
 refine ⟨by rw [List.length_drop, List.length_drop, h.1], fun i x v hx hv => ?_⟩
 rw [List.getElem?_drop] at hx hv
 exact h.2 _ x v hx hv
section
variable {B G0 H H' : Hp} {cs cs' : yR} {ds ds' : Dat} {x y : PyData} {v w : V} {xs ys : List PyData} {vs : List V} {D : Addr} {p : Addr}
theorem Sta.enter {G : Hp} (e : yc G H) (h : ZW G ds) : Sta H G H [] ds :=
 ⟨G, yc.refl _, e, yc.refl _, fun _ _ => rfl, fun c hc => absurd hc (List.not_mem_nil), List.nodup_nil, h⟩
theorem Sta.base (S : Sta B G0 H cs ds) : yc B H := let ⟨_, _, _, b, _⟩ := S; b
theorem Sta.push (S : Sta B G0 H cs ds) (h : Has ds x v) : Sta B G0 H cs ((x, v) :: ds) :=
 let ⟨G, a, b, c, d, e, f, g⟩ := S; ⟨G, a, b, c, d, e, f, g.cons (h G g)⟩
theorem Sta.weak (S : Sta B G0 H cs ds) (hc : cs'.Sublist cs) (hd : ∀ p ∈ ds', Has ds p.1 p.2) : Sta B G0 H cs' ds' :=
 let ⟨G, a, b, c, d, e, f, g⟩ := S; ⟨G, a, b, c, d, fun q hq => e q (hc.subset hq), f.sublist (hc.map _), fun p hp => hd p hp G g⟩
theorem Sta.dat (S : Sta B G0 H cs ds) (hd : ∀ p ∈ ds', Has ds p.1 p.2) : Sta B G0 H cs ds' := S.weak (List.Sublist.refl _) hd
theorem Sta.drop1 {q : PyData × V} (S : Sta B G0 H cs (q :: ds)) : Sta B G0 H cs ds := S.dat fun p hp => .mem (List.mem_cons_of_mem _ hp)
theorem Sta.dropC {q : Addr × List PyData} (S : Sta B G0 H (q :: cs) ds) : Sta B G0 H cs ds := S.weak (List.sublist_cons_self _ _) fun p hp => .mem hp
theorem Sta.same (S : Sta B G0 H cs ds) (h : yc H H') : Sta B G0 H' cs ds :=
 let ⟨G, a, b, c, d, e, f, g⟩ := S; ⟨G, a, b.trans h, c.trans h, d, fun q hq => let ⟨x, y, vs, z, u⟩ := e q hq; ⟨x, y, vs, h _ _ z, u⟩, f, g⟩
theorem zia.grow {G G' : Hp} (S : zia B G0 H cs ds G) (h : Grow G H G' H') : zia B G0 H' cs ds G' := by
 obtain ⟨a, b, c, d, e, f, g⟩ := S
 refine ⟨a.trans h.g, h.sub, c.trans h.h, fun p hp => ?_, fun q hq => ?_, f, g.mono h.g⟩
 ·rw [h.old p fun z => ?_, d p hp]
  cases hb : B p with
  | none => exact hp hb
  | some o => rw [c _ _ hb] at z; cases z
 ·obtain ⟨x, y, vs, z, u⟩ := e q hq
  exact ⟨x, by rw [h.old q.1 (by rw [z]; simp)]; exact y, vs, h.h _ _ z, zM.mono h.g _ _ u⟩
theorem Sta.leave {G : Hp} (S : Sta H G H' cs ds) : ∃ G', Grow G H G' H' ∧ ZW G' ds :=
 let ⟨G', a, b, c, d, _, _, g⟩ := S; ⟨G', ⟨c, a, b, d⟩, g⟩
theorem Sta.newT (S : Sta B G0 H cs ds) (hp : H p = none) (h : yy ds xs vs) : Sta B G0 (upd H p (.tup vs)) cs ((.tuple xs, .ref p) :: ds) := by
 obtain ⟨G, a, b, c, d, e, f, g⟩ := S
 have hG : G p = none := b.free hp
 have eG := yc.new hG (.tup vs)
 refine ⟨upd G p (.tup vs), a.trans eG, fun q o hq => ?_, c.trans (yc.new hp _), fun q hq => ?_, fun q hq => ?_, f, (g.mono eG).cons ?_⟩
 ·by_cases hqp : q = p
  ·subst hqp; rw [yH] at hq ⊢; exact hq
  ·rw [ye hqp] at hq ⊢; exact b _ _ hq
 ·have hqp : q ≠ p := fun z => by subst z; exact hq (c.free hp)
  rw [ye hqp]; exact d q hq
 ·obtain ⟨x, y, ws, z, u⟩ := e q hq
  have hqp : q.1 ≠ p := yf z hp
  exact ⟨x, by rw [ye hqp]; exact y, ws, by rw [ye hqp]; exact z, zM.mono eG _ _ u⟩
 ·rw [Is]
  exact ⟨p, vs, rfl, yH, zM.mono eG _ _ (h G g)⟩
theorem Sta.newL (S : Sta B G0 H cs ds) (hp : H p = none) (h : yy ds xs vs) : Sta B G0 (upd H p (.lst vs)) ((p, xs) :: cs) ds := by
 obtain ⟨G, a, b, c, d, e, f, g⟩ := S
 have hG : G p = none := b.free hp
 refine ⟨G, a, b.trans (yc.new hp _), c.trans (yc.new hp _), d, fun q hq => ?_, ?_, g⟩
 ·rcases List.mem_cons.mp hq with rfl | hq
  ·exact ⟨c.free hp, hG, vs, yH, h G g⟩
  ·obtain ⟨x, y, ws, z, u⟩ := e q hq
   have hqp : q.1 ≠ p := yf z hp
   exact ⟨x, y, ws, by rw [ye hqp]; exact z, u⟩
 ·rw [List.map_cons, List.nodup_cons]
  refine ⟨fun z => ?_, f⟩
  obtain ⟨q, hq, hqp⟩ := List.mem_map.mp z
  obtain ⟨_, _, ws, z, _⟩ := e q hq
  rw [hqp, hp] at z; cases z
theorem Sta.freeze (S : Sta B G0 H ((D, xs) :: cs) ds) : Sta B G0 H cs ((.list xs, .ref D) :: ds) := by
 obtain ⟨G, a, b, c, d, e, f, g⟩ := S
 obtain ⟨x, y, vs, z, u⟩ := e _ (List.mem_cons_self ..)
 have eG := yc.new y (.lst vs)
 rw [List.map_cons, List.nodup_cons] at f
 refine ⟨upd G D (.lst vs), a.trans eG, fun q o hq => ?_, c, fun q hq => ?_, fun q hq => ?_, f.2, (g.mono eG).cons ?_⟩
 ·by_cases hqp : q = D
  ·subst hqp; rw [yH] at hq; rw [← hq]; exact z
  ·rw [ye hqp] at hq; exact b _ _ hq
 ·have hqp : q ≠ D := fun z => by subst z; exact hq x
  rw [ye hqp]; exact d q hq
 ·obtain ⟨x', y', ws, z', u'⟩ := e q (List.mem_cons_of_mem _ hq)
  have hqp : q.1 ≠ D := fun z => f.1 (List.mem_map.mpr ⟨q, hq, z⟩)
  exact ⟨x', by rw [ye hqp]; exact y', ws, z', zM.mono eG _ _ u'⟩
 ·rw [Is]
  exact ⟨D, vs, rfl, yH, zM.mono eG _ _ u⟩
theorem Sta.cell (S : Sta B G0 H cs ds) (h : (D, xs) ∈ cs) : ∃ vs, H D = some (.lst vs) ∧ xs.length = vs.length ∧ ∀ (i : Nat) (x : PyData), xs[i]? = some x → ∃ v, vs[i]? = some v ∧ Sta B G0 H cs ((x, v) :: ds) := by
 obtain ⟨G, a, b, c, d, e, f, g⟩ := S
 obtain ⟨_, _, vs, z, u⟩ := e _ h
 refine ⟨vs, z, u.len, fun i x hx => ?_⟩
 obtain ⟨v, hv, k⟩ := u.at hx
 exact ⟨v, hv, G, a, b, c, d, e, f, g.cons k⟩
theorem Sta.put (S : Sta B G0 H ((D, xs) :: cs) ds) : ∃ vs, H D = some (.lst vs) ∧ xs.length = vs.length ∧ ∀ ys ws, (∀ G, ZW G ds → zM G xs vs → zM G ys ws) → Sta B G0 (upd H D (.lst ws)) ((D, ys) :: cs) ds := by
 obtain ⟨G, a, b, c, d, e, f, g⟩ := S
 obtain ⟨x, y, vs, z, u⟩ := e _ (List.mem_cons_self ..)
 refine ⟨vs, z, u.len, fun ys ws h => ?_⟩
 have key : ∀ {A : Hp}, yc A H → A D = none → yc A (upd H D (.lst ws)) := fun {A} s n q o hq => by
  rw [ye (yf hq n)]; exact s _ _ hq
 have f' := f
 rw [List.map_cons, List.nodup_cons] at f'
 refine ⟨G, a, key b y, key c x, d, fun q hq => ?_, f, g⟩
 rcases List.mem_cons.mp hq with rfl | hq
 ·exact ⟨x, y, ws, yH, h G g u⟩
 ·obtain ⟨x', y', ws', z', u'⟩ := e q (List.mem_cons_of_mem _ hq)
  have hqp : q.1 ≠ D := fun z => f'.1 (List.mem_map.mpr ⟨q, hq, z⟩)
  exact ⟨x', y', ws', by rw [ye hqp]; exact z', u'⟩
theorem Sta.tup (S : Sta B G0 H cs ds) (h : Has ds (.tuple xs) v) : ∃ p vs, v = .ref p ∧ H p = some (.tup vs) ∧ xs.length = vs.length ∧ ∀ (i : Nat) (x : PyData), xs[i]? = some x → ∃ w, vs[i]? = some w ∧ Sta B G0 H cs ((x, w) :: ds) := by
 obtain ⟨G, a, b, c, d, e, f, g⟩ := S
 have q := h G g
 rw [Is] at q
 obtain ⟨p, vs, hv, hp, u⟩ := q
 refine ⟨p, vs, hv, b _ _ hp, u.len, fun i x hx => ?_⟩
 obtain ⟨v, hv, k⟩ := u.at hx
 exact ⟨v, hv, G, a, b, c, d, e, f, g.cons k⟩
theorem Sta.lst (S : Sta B G0 H cs ds) (h : Has ds (.list xs) v) : ∃ p vs, v = .ref p ∧ H p = some (.lst vs) ∧ xs.length = vs.length ∧ ∀ (i : Nat) (x : PyData), xs[i]? = some x → ∃ w, vs[i]? = some w ∧ Sta B G0 H cs ((x, w) :: ds) := by
 obtain ⟨G, a, b, c, d, e, f, g⟩ := S
 have q := h G g
 rw [Is] at q
 obtain ⟨p, vs, hv, hp, u⟩ := q
 refine ⟨p, vs, hv, b _ _ hp, u.len, fun i x hx => ?_⟩
 obtain ⟨v, hv, k⟩ := u.at hx
 exact ⟨v, hv, G, a, b, c, d, e, f, g.cons k⟩
theorem Sta.tupAll (S : Sta B G0 H cs ds) (h : Has ds (.tuple xs) v) : ∃ p vs, v = .ref p ∧ H p = some (.tup vs) ∧ xs.length = vs.length ∧ Sta B G0 H cs (xs.zip vs ++ ds) ∧ ∀ G, ZW G (xs.zip vs ++ ds) → zM G xs vs := by
 obtain ⟨G, a, b, c, d, e, f, g⟩ := S
 have q := h G g
 rw [Is] at q
 obtain ⟨p, vs, hv, hp, u⟩ := q
 refine ⟨p, vs, hv, b _ _ hp, u.len, ⟨G, a, b, c, d, e, f, fun q hq => ?_⟩, fun G' hG => ?_⟩
 ·rcases List.mem_append.mp hq with hq | hq
  ·obtain ⟨i, hi⟩ := List.mem_iff_getElem?.mp hq
   rw [List.getElem?_zip_eq_some] at hi
   exact (Zl.mp u).2 i _ _ hi.1 hi.2
  ·exact g q hq
 ·refine Zl.mpr ⟨u.len, fun i x v hx hv => ?_⟩
  exact hG (x, v) (List.mem_append_left _ (List.mem_iff_getElem?.mpr ⟨i, List.getElem?_zip_eq_some.mpr ⟨hx, hv⟩⟩))
theorem Sta.lstAll (S : Sta B G0 H cs ds) (h : Has ds (.list xs) v) : ∃ p vs, v = .ref p ∧ H p = some (.lst vs) ∧ xs.length = vs.length ∧ Sta B G0 H cs (xs.zip vs ++ ds) ∧ ∀ G, ZW G (xs.zip vs ++ ds) → zM G xs vs := by
 obtain ⟨G, a, b, c, d, e, f, g⟩ := S
 have q := h G g
 rw [Is] at q
 obtain ⟨p, vs, hv, hp, u⟩ := q
 refine ⟨p, vs, hv, b _ _ hp, u.len, ⟨G, a, b, c, d, e, f, fun q hq => ?_⟩, fun G' hG => ?_⟩
 ·rcases List.mem_append.mp hq with hq | hq
  ·obtain ⟨i, hi⟩ := List.mem_iff_getElem?.mp hq
   rw [List.getElem?_zip_eq_some] at hi
   exact (Zl.mp u).2 i _ _ hi.1 hi.2
  ·exact g q hq
 ·refine Zl.mpr ⟨u.len, fun i x v hx hv => ?_⟩
  exact hG (x, v) (List.mem_append_left _ (List.mem_iff_getElem?.mpr ⟨i, List.getElem?_zip_eq_some.mpr ⟨hx, hv⟩⟩))
theorem Sta.cellAll (S : Sta B G0 H cs ds) (h : (D, xs) ∈ cs) : ∃ vs, H D = some (.lst vs) ∧ xs.length = vs.length ∧ Sta B G0 H cs (xs.zip vs ++ ds) ∧ ∀ G, ZW G (xs.zip vs ++ ds) → zM G xs vs := by
 obtain ⟨G, a, b, c, d, e, f, g⟩ := S
 obtain ⟨_, _, vs, z, u⟩ := e _ h
 refine ⟨vs, z, u.len, ⟨G, a, b, c, d, e, f, fun q hq => ?_⟩, fun G' hG => ?_⟩
 ·rcases List.mem_append.mp hq with hq | hq
  ·obtain ⟨i, hi⟩ := List.mem_iff_getElem?.mp hq
   rw [List.getElem?_zip_eq_some] at hi
   exact (Zl.mp u).2 i _ _ hi.1 hi.2
  ·exact g q hq
 ·refine Zl.mpr ⟨u.len, fun i x v hx hv => ?_⟩
  exact hG (x, v) (List.mem_append_left _ (List.mem_iff_getElem?.mpr ⟨i, List.getElem?_zip_eq_some.mpr ⟨hx, hv⟩⟩))
theorem Sta.hp (S : Sta B G0 H cs ds) (h : Has ds x v) : Is H x v := by
 obtain ⟨G, a, b, c, d, e, f, g⟩ := S
 exact Is.mono b _ _ (h G g)
theorem Sta.hpC (S : Sta B G0 H cs ds) (h : (D, xs) ∈ cs) : Is H (.list xs) (.ref D) := by
 obtain ⟨G, a, b, c, d, e, f, g⟩ := S
 obtain ⟨_, _, vs, z, u⟩ := e _ h
 rw [Is]; exact ⟨D, vs, rfl, z, zM.mono b _ _ u⟩
end
def mkD (D : Ends) (u : L2.St → Hp → Prop) : Ends := { D with nx := u }
def mkL (D : Ends) (u : L2.St → Hp → Prop) : Ends := { D with nx := u, ct := u, bk := D.nx }
def endD (Q : VK) : Ends := { nx := fun _ H' => Q .non H', rt := Q }
section
variable {B G0 H : Hp} {cs : yR} {ds : Dat} {D : Ends} {σ : L2.St} {Q : VK} {x y : PyData} {v w : V} {xs : List PyData} {vs : List V} {K : PySem.W.Frag} {X : Cx}
theorem rd_seq {t u : TS} (h : t (mkD D (u D)) σ H) : tSeq t u D σ H := h
theorem rd_asg {te : TE} {g : TG} (h : te σ H fun x H1 => g x σ H1 D.nx) : tAsg te g D σ H := h
theorem zX {i : Nat} {N : L2.St → Hp → Prop} (h : N (σ.set i (some v)) H) : zey i v σ H N := h
theorem zu {t : TS} (h : t (endD Q) σ H) : t { nx := fun _ H' => Q .non H', rt := Q } σ H := h
theorem rd_nx {u : L2.St → Hp → Prop} (h : u σ H) : Ends.nx (mkD D u) σ H := h
theorem rd_rt {u : L2.St → Hp → Prop} (h : Ends.rt D v H) : Ends.rt (mkD D u) v H := h
theorem rd_rt0 (h : Q v H) : Ends.rt (endD Q) v H := h
theorem rd_nxL {u : L2.St → Hp → Prop} (h : u σ H) : Ends.nx (mkL D u) σ H := h
theorem rd_rtL {u : L2.St → Hp → Prop} (h : Ends.rt D v H) : Ends.rt (mkL D u) v H := h
theorem zg3 (h : D.nx σ H) : tNext D σ H := h
theorem zgm {te : TE} (h : te σ H D.rt) : tRet te D σ H := h
theorem zhp {te : TE} (h : te σ H fun _ H1 => D.nx σ H1) : tDrop te D σ H := h
theorem rd_if {c : TT} {t u : TS} (h : c σ H fun b H1 => if b = true then t D σ H1 else u D σ H1) : tIfS c t u D σ H := h
theorem rd_var {i : Nat} (e : σ[i]? = some (some v)) (h : Q v H) : tVar i σ H Q := ⟨v, e, h⟩
theorem rd_c (h : Q v H) : tC v σ H Q := h
theorem rd_op {r : R2} {ta tb : TE} (h : ta σ H fun x H1 => tb σ H1 fun y H2 => r x y H2 Q) : tOp r ta tb σ H Q := h
theorem rd_un {r : V → Hp → VK → Prop} {ta : TE} (h : ta σ H fun x H1 => r x H1 Q) : tUn r ta σ H Q := h
theorem rd_rI0 {g : Int → Int → V} {i j : Int} (h : Q (g i j) H) : rI0 g (.int i) (.int j) H Q := ⟨i, j, rfl, rfl, h⟩
theorem zg4 {i j : Int} (c : IntMulOk i j) (h : Q (.int (i * j)) H) : rI IntMulOk (fun i j => .int (i * j)) (.int i) (.int j) H Q := ⟨i, j, rfl, rfl, c, h⟩
theorem zg6 {i j : Int} (c : 0 < j) (h : Q (.int (i % j)) H) : rI (fun _ j => 0 < j) (fun i j => .int (i % j)) (.int i) (.int j) H Q := ⟨i, j, rfl, rfl, c, h⟩
theorem zg5 {i j : Int} (c : j ≠ 0) (h : Q (.int (i.fmod j)) H) : rI (fun _ j => j ≠ 0) (fun i j => .int (i.fmod j)) (.int i) (.int j) H Q := ⟨i, j, rfl, rfl, c, h⟩
theorem zfr {i j : Int} (c : CDiv i j) (h : Q (.int (i / j)) H) : rI CDiv (fun i j => .int (i / j)) (.int i) (.int j) H Q := ⟨i, j, rfl, rfl, c, h⟩
theorem zfs {i j : Int} (c : CDv i j) (h : Q (.int (i.fdiv j)) H) : rI CDv (fun i j => .int (i.fdiv j)) (.int i) (.int j) H Q := ⟨i, j, rfl, rfl, c, h⟩
theorem rd_pow {i j : Int} (c : CPow i j) (h : Q (.int (i ^ j.toNat)) H) : rI CPow (fun i j => .int (i ^ j.toNat)) (.int i) (.int j) H Q := ⟨i, j, rfl, rfl, c, h⟩
theorem rd_rU {g : Int → V} {i : Int} (h : Q (g i) H) : rU g (.int i) H Q := ⟨i, rfl, h⟩
theorem zgX {t : TE} {R : Bool → Hp → Prop} (h : t σ H fun x H' => ∃ k, x = .bl k ∧ R k H') : tTest t σ H R := h
theorem rd_tB {t : TE} {R : Bool → Hp → Prop} (h : t σ H fun x H' => ∃ k, x = .bl k ∧ R k H') : tB t σ H R := h
theorem zhm {k : Bool} {R : Bool → Prop} (h : R k) : ∃ k', V.bl k = .bl k' ∧ R k' := ⟨k, rfl, h⟩
theorem rd_not {t : TT} {R : Bool → Hp → Prop} (h : t σ H fun c H1 => R (!c) H1) : tNot t σ H R := h
theorem rd_and {t u : TT} {R : Bool → Hp → Prop} (h : t σ H fun c H1 => if c = true then u σ H1 R else R false H1) : tAnd t u σ H R := h
theorem rd_or {t u : TT} {R : Bool → Hp → Prop} (h : t σ H fun c H1 => if c = true then R true H1 else u σ H1 R) : tOr t u σ H R := h
theorem zhv {ta tb : TE} (h : ta σ H fun x H1 => ∃ c, x = .bl c ∧ if c = true then tb σ H1 Q else Q (.bl false) H1) : tAndV ta tb σ H Q := h
theorem zg2 {ta : TE} (h : ta σ H fun x H1 => ∃ c, x = .bl c ∧ Q (.bl (!c)) H1) : tNotV ta σ H Q := h
theorem rd_nil {R : List V → Hp → Prop} (h : R [] H) : tNil σ H R := h
theorem zhr {ta : TE} {tr : TA} {R : List V → Hp → Prop} (h : ta σ H fun x H1 => tr σ H1 fun xs H2 => R (x :: xs) H2) : tCons ta tr σ H R := h
theorem zhu {sp : Sp} {E : XK} {t : TA} (h : t σ H fun vs H1 => sp vs H1 Q E) : zdm sp [] E t σ H Q := by
 unfold zdm
 simpa only [List.append_nil] using h
theorem rd_cb {r : List V → Hp → VK → Prop} {t : TA} (h : t σ H fun vs H1 => r vs H1 Q) : tCB r t σ H Q := h
theorem rd_par {i j : Nat} {ta : TA} (h : ta σ H fun vs H1 => ∃ v w, vs = [v, w] ∧ D.nx ((σ.set i (some v)).set j (some w)) H1) : tPar i j ta D σ H := h
theorem rd_is2 {R : V → V → Prop} (h : R v w) : ∃ v' w', [v, w] = [v', w'] ∧ R v' w' := ⟨v, w, rfl, h⟩
def rEqA : R2 := fun x y H Q => rEq x y H Q ∨ rEqD x y H Q
def rNeA : R2 := fun x y H Q => rNe x y H Q ∨ rNeD x y H Q
theorem yd (hu : X.A.units + 64 < cLine) : OpR X (compareOp .Eq) rEqA := op_eq.or (op_eqD hu)
theorem VD (hu : X.A.units + 64 < cLine) : OpR X (compareOp .NotEq) rNeA := op_ne.or (op_neD hu)
theorem Wa {a b : Prop} [Decidable a] [Decidable b] (h : a ↔ b) : decide a = decide b := by
 by_cases ha : a
 ·rw [decide_eq_true ha, decide_eq_true (h.mp ha)]
 ·rw [decide_eq_false ha, decide_eq_false (fun z => ha (h.mpr z))]
theorem rd_eqI {i j : Int} (h : Q (.bl (decide (i = j))) H) : rEqA (.int i) (.int j) H Q := .inl ⟨rfl, by
 rw [Wa (show V.int i = V.int j ↔ i = j from ⟨V.int.inj, congrArg _⟩)]; exact h⟩
theorem rd_neI {i j : Int} (h : Q (.bl (!decide (i = j))) H) : rNeA (.int i) (.int j) H Q := .inl ⟨rfl, by
 rw [Wa (show V.int i = V.int j ↔ i = j from ⟨V.int.inj, congrArg _⟩)]; exact h⟩
theorem rd_eqD (h1 : Is H x v) (h2 : Is H y w) (s1 : SeqAt.shaped x = true) (s2 : SeqAt.shaped y = true) (h : Q (.bl (PyData.eqv x y)) H) : rEqA v w H Q := .inr ⟨x, y, h1, h2, s1, s2, h⟩
def kTup (Q : VK) (xs : List V) (H : Hp) : Prop := xs.length ≤ sizeLine ∧ ∀ p, H p = none → Q (.ref p) (upd H p (.tup xs))
def kLst (Q : VK) (xs : List V) (H : Hp) : Prop := xs.length ≤ sizeLine ∧ ∀ p, H p = none → Q (.ref p) (upd H p (.lst xs))
theorem rd_tup {t : TA} (h : t σ H (kTup Q)) : tTup t σ H Q := h
theorem rd_lst {t : TA} (h : t σ H (kLst Q)) : tLst t σ H Q := h
theorem zhe (S : Sta B G0 H cs ds) (h : yy ds xs vs) (hl : vs.length ≤ 1000) (k : ∀ p H', yc H H' → Sta B G0 H' cs ((.tuple xs, .ref p) :: ds) → Q (.ref p) H') : kTup Q vs H :=
 ⟨Nat.le_of_lt (Yq hl), fun p hp => k p _ (yc.new hp _) (S.newT hp h)⟩
theorem zhg (S : Sta B G0 H cs ds) (h : yy ds xs vs) (hl : vs.length ≤ 1000) (k : ∀ p H', yc H H' → Sta B G0 H' ((p, xs) :: cs) ds → Q (.ref p) H') : kLst Q vs H :=
 ⟨Nat.le_of_lt (Yq hl), fun p hp => k p _ (yc.new hp _) (S.newL hp h)⟩
theorem zeW {α β : Type} {xs : List α} {ys : List β} {i : Int} {x : α} (hl : xs.length = ys.length) (h : atI xs i = some x) : ∃ j : Nat, xs[j]? = some x ∧ ∀ y, ys[j]? = some y → atI ys i = some y := by
 unfold atI at h ⊢
 rw [← hl]
 cases e : ixN xs.length i with
 | none => rw [e] at h; cases h
 | some j => rw [e] at h; exact ⟨j, h, fun y hy => hy⟩
theorem zaR {i : Int} (S : Sta B G0 H cs ds) (hx : Has ds (.tuple xs) v) (hi : atI xs i = some x) (k : ∀ w, Sta B G0 H cs ((x, w) :: ds) → Q w H) : rIx K v (.int i) H Q := by
 obtain ⟨p, vs, rfl, hp, hl, z⟩ := S.tup hx
 obtain ⟨j, hj, hy⟩ := zeW hl hi
 obtain ⟨w, hw, S'⟩ := z j x hj
 exact .inr (.inl ⟨p, vs, i, w, rfl, rfl, SqT.of hp, hy _ hw, k w S'⟩)
theorem Sta.top {n : PyData} (S : Sta B G0 H cs ((n, v) :: ds)) : Is H n v := S.hp (.mem (List.mem_cons_self ..))
theorem zhk {i n : Int} (S : Sta B G0 H cs ds) (hx : Has ds (.tuple xs) v) (hi : atI xs i = some (.int n)) (k : Q (.int n) H) : rIx K v (.int i) H Q :=
 zaR S hx hi fun w S' => by have := S'.top; rw [Is] at this; subst this; exact k
theorem Xi {i : Int} (S : Sta B G0 H cs ds) (hx : Has ds (.list xs) v) (hi : atI xs i = some x) (k : ∀ w, Sta B G0 H cs ((x, w) :: ds) → Q w H) : rIx K v (.int i) H Q := by
 obtain ⟨p, vs, rfl, hp, hl, z⟩ := S.lst hx
 obtain ⟨j, hj, hy⟩ := zeW hl hi
 obtain ⟨w, hw, S'⟩ := z j x hj
 exact .inl ⟨p, vs, i, w, rfl, rfl, SqL.of hp, hy _ hw, k w S'⟩
theorem Yc {i n : Int} (S : Sta B G0 H cs ds) (hx : Has ds (.list xs) v) (hi : atI xs i = some (.int n)) (k : Q (.int n) H) : rIx K v (.int i) H Q :=
 Xi S hx hi fun w S' => by have := S'.top; rw [Is] at this; subst this; exact k
theorem zb9 {i : Int} {L : Addr} (S : Sta B G0 H cs ds) (hx : (L, xs) ∈ cs) (hi : atI xs i = some x) (k : ∀ w, Sta B G0 H cs ((x, w) :: ds) → Q w H) : rIx K (.ref L) (.int i) H Q := by
 obtain ⟨vs, hp, hl, z⟩ := S.cell hx
 obtain ⟨j, hj, hy⟩ := zeW hl hi
 obtain ⟨w, hw, S'⟩ := z j x hj
 exact .inl ⟨L, vs, i, w, rfl, rfl, SqL.of hp, hy _ hw, k w S'⟩
theorem zhl {i n : Int} {L : Addr} (S : Sta B G0 H cs ds) (hx : (L, xs) ∈ cs) (hi : atI xs i = some (.int n)) (k : Q (.int n) H) : rIx K (.ref L) (.int i) H Q :=
 zb9 S hx hi fun w S' => by have := S'.top; rw [Is] at this; subst this; exact k
theorem rd_ixS {i : Int} {a : Addr} {ns : List Int} (hS : SqL K H a (ns.map V.int)) (h0 : 0 ≤ i) (h1 : i < (ns.length : Int)) (k : Q (.int (ns.getD i.toNat 0)) H) : rIx K (.ref a) (.int i) H Q :=
 .inl ⟨a, _, i, _, rfl, rfl, hS, zga h0 h1, k⟩
def rLen (K : PySem.W.Frag) : List V → Hp → VK → Prop := fun xs H Q => ∃ p ys, xs = [.ref p] ∧ (SqL K H p ys ∨ SqT K H p ys) ∧ Q (.int ys.length) H
theorem xu : YG X (.builtin "len") (rLen X.K) := za8
theorem zha (S : Sta B G0 H cs ds) (hx : Has ds (.tuple xs) v) (k : Q (.int xs.length) H) : rLen K [v] H Q := by
 obtain ⟨p, vs, rfl, hp, hl, _⟩ := S.tup hx
 exact ⟨p, vs, rfl, .inr (SqT.of hp), by rw [← hl]; exact k⟩
theorem zhc (S : Sta B G0 H cs ds) (hx : Has ds (.list xs) v) (k : Q (.int xs.length) H) : rLen K [v] H Q := by
 obtain ⟨p, vs, rfl, hp, hl, _⟩ := S.lst hx
 exact ⟨p, vs, rfl, .inl (SqL.of hp), by rw [← hl]; exact k⟩
theorem zhb {a : Addr} {ns : List Int} (hS : SqL K H a (ns.map V.int)) (k : Q (.int ns.length) H) : rLen K [.ref a] H Q :=
 ⟨a, _, rfl, .inl hS, by rw [List.length_map]; exact k⟩
def rAbs : List V → Hp → VK → Prop := fun xs H Q => ∃ i, xs = [.int i] ∧ Q (.int (if i < 0 then -i else i)) H
theorem VQ : YG X (.builtin "abs") rAbs := zf7
theorem rd_abs {i : Int} (k : Q (.int (i.natAbs : Int)) H) : rAbs [.int i] H Q := ⟨i, rfl, by
 rw [show (if i < 0 then -i else i) = (i.natAbs : Int) by split <;> omega]; exact k⟩
def rMin : List V → Hp → VK → Prop := fun xs H Q => ∃ i j, xs = [.int i, .int j] ∧ Q (.int (if j < i then j else i)) H
theorem za6 (hc : X.calm = true) : YG X (.builtin "min") rMin := zeR hc
theorem rd_min {i j : Int} (k : Q (.int (min i j)) H) : rMin [.int i, .int j] H Q := ⟨i, j, rfl, by
 rw [show (if j < i then j else i) = min i j by split <;> omega]; exact k⟩
def zdX (K : PySem.W.Frag) : List V → Hp → VK → Prop := fun xs H Q => ∃ p ys, xs = [.ref p] ∧ (SqL K H p ys ∨ SqT K H p ys) ∧ ∀ l, H l = none → Q (.ref l) (upd H l (.lst ys))
theorem zc6 : YG X (.type "list") (zdX X.K) := za7
def zca (K : PySem.W.Frag) : List V → Hp → VK → Prop := fun xs H Q => ∃ p ys, xs = [.ref p] ∧ ((SqL K H p ys ∧ ∀ l, H l = none → Q (.ref l) (upd H l (.tup ys))) ∨ (SqT K H p ys ∧ Q (.ref p) H))
theorem ZG : YG X (.type "tuple") (zca X.K) := zai
theorem zfo (S : Sta B G0 H cs ds) (hx : Has ds (.list xs) v) (k : ∀ l H', yc H H' → Sta B G0 H' ((l, xs) :: cs) ds → Q (.ref l) H') : zdX K [v] H Q := by
 obtain ⟨p, vs, rfl, hp, hl, S', hA⟩ := S.lstAll hx
 exact ⟨p, vs, rfl, .inl (SqL.of hp), fun l hl => k l _ (yc.new hl _) ((S'.newL hl hA).dat fun q hq => .mem (List.mem_append_right _ hq))⟩
theorem zdH {L : Addr} (S : Sta B G0 H cs ds) (hx : (L, xs) ∈ cs) (k : ∀ l H', yc H H' → Sta B G0 H' cs ((.tuple xs, .ref l) :: ds) → Q (.ref l) H') : zca K [.ref L] H Q := by
 obtain ⟨vs, hp, hl, S', hA⟩ := S.cellAll hx
 exact ⟨L, vs, rfl, .inl ⟨SqL.of hp, fun l hl => k l _ (yc.new hl _) ((S'.newT hl hA).dat fun q hq => .mem (by
  rcases List.mem_cons.mp hq with rfl | hq
  ·exact List.mem_cons_self ..
  ·exact List.mem_cons_of_mem _ (List.mem_append_right _ hq)))⟩⟩
def kBM (K : PySem.W.Frag) (T : String) (r : V → List V → Hp → VK → Prop) (t : TA) (σ : L2.St) (Q : VK) : VK := fun x H1 => tyV K T x H1 ∧ t σ H1 fun xs H2 => r x xs H2 Q
theorem rd_bm {T : String} {r : V → List V → Hp → VK → Prop} {to : TE} {t : TA} (h : to σ H (kBM K T r t σ Q)) : tBM K T r to t σ H Q := h
theorem rd_kBM {L : Addr} {r : V → List V → Hp → VK → Prop} {t : TA} (S : Sta B G0 H cs ds) (hx : (L, xs) ∈ cs) (h : t σ H fun ys H2 => r (.ref L) ys H2 Q) : kBM K "list" r t σ Q (.ref L) H := by
 obtain ⟨vs, hp, hl, _⟩ := S.cell hx
 exact ⟨.inl ⟨rfl, _, SqL.of hp⟩, h⟩
theorem XQ {L : Addr} (S : Sta B G0 H ((L, xs) :: cs) ds) (hy : Has ds y w) (hz : xs.length ≤ 1000) (k : ∀ H', Sta B G0 H' ((L, xs ++ [y]) :: cs) ds → Q .non H') : zdY (.ref L) [w] H Q := by
 obtain ⟨vs, hp, hl, put⟩ := S.put
 exact ⟨L, vs, w, rfl, rfl, hp, Yq (by omega), k _ (put _ _ fun G a u => u.app (by rw [zM]; exact ⟨w, [], rfl, hy G a, by rw [zM]⟩))⟩
def cutD (xs : List PyData) (lo hi : Option Int) : List PyData := (xs.drop (HT.sIx xs.length 0 lo)).take (HT.sIx xs.length xs.length hi - HT.sIx xs.length 0 lo)
theorem rd_slL {lo hi : Option Int} (S : Sta B G0 H cs ds) (hx : Has ds (.list xs) v) (k : ∀ l H', yc H H' → Sta B G0 H' ((l, cutD xs lo hi) :: cs) ds → Q (.ref l) H') : rSlL K v lo hi H Q := by
 obtain ⟨p, vs, rfl, hp, hl, S', hA⟩ := S.lstAll hx
 refine ⟨p, vs, rfl, SqL.of hp, fun l hn => k l _ (yc.new hn _) ((S'.newL hn fun G a => ?_).dat fun q hq => .mem (List.mem_append_right _ hq))⟩
 unfold cutD zh5
 rw [hl]
 exact ((hA G a).drop _).take _
end
theorem zfN {a b m n : Int} (h : (0 < m ∧ m < 2 ^ 64) ∧ (0 < n ∧ n < 2 ^ 64)) : IntMulOk (a % m) (b % n) := by
 have h1 := Int.emod_nonneg a (show m ≠ 0 by omega)
 have h2 := Int.emod_lt_of_pos a h.1.1
 have h3 := Int.emod_nonneg b (show n ≠ 0 by omega)
 have h4 := Int.emod_lt_of_pos b h.2.1
 have e : (2 : Nat) ^ 64 = 18446744073709551616 := by decide
 have e' : (2 : Int) ^ 64 = 18446744073709551616 := by decide
 rw [e'] at h
 exact Sz.mulOk (m := 64) (n := 64) (by unfold Sz; rw [e]; omega) (by unfold Sz; rw [e]; omega) (by decide)
theorem iteNT {A B : Prop} (h : B) : if (!true) = true then A else B := h
section
variable {B G0 H : Hp} {cs : yR} {ds : Dat} {Q : VK} {v : V} {xs zs : List PyData} {K : PySem.W.Frag} {X : Cx} {L M : Addr}
def zhy : R2 := fun x y H Q => rI0 (fun i j => .int (i + j)) x y H Q ∨ rCat x y H Q
theorem yx : OpR X (binaryOp .Add) zhy := op_add.or op_cat
theorem zhw {i j : Int} (h : Q (.int (i + j)) H) : zhy (.int i) (.int j) H Q := .inl ⟨i, j, rfl, rfl, h⟩
def Vw (B G0 H : Hp) (cs : yR) (ds : Dat) (L : Addr) (xs : List PyData) : Prop := ∃ vs, H L = some (.lst vs) ∧ ∀ G, zia B G0 H cs ds G → zM G xs vs
theorem Sta.vwL (S : Sta B G0 H cs ds) (h : Has ds (.list xs) (.ref L)) : Vw B G0 H cs ds L xs := by
 obtain ⟨G, S⟩ := S
 have q := h G S.2.2.2.2.2.2
 rw [Is] at q
 obtain ⟨p, vs, e, hp, u⟩ := q
 cases e
 have hp' := S.2.1 _ _ hp
 refine ⟨vs, hp', fun G' S' => ?_⟩
 have q := h G' S'.2.2.2.2.2.2
 rw [Is] at q
 obtain ⟨p, vs', e, hp2, u'⟩ := q
 cases e
 have := S'.2.1 _ _ hp2
 rw [hp'] at this; cases this
 exact u'
theorem Sta.vwC (S : Sta B G0 H cs ds) (h : (L, xs) ∈ cs) : Vw B G0 H cs ds L xs := by
 obtain ⟨G, S⟩ := S
 obtain ⟨_, _, vs, z, u⟩ := S.2.2.2.2.1 _ h
 refine ⟨vs, z, fun G' S' => ?_⟩
 obtain ⟨_, _, vs', z', u'⟩ := S'.2.2.2.2.1 _ h
 rw [z] at z'; cases z'
 exact u'
theorem Vv (S : Sta B G0 H cs ds) (v1 : Vw B G0 H cs ds L xs) (v2 : Vw B G0 H cs ds M zs) (hz : xs.length + zs.length ≤ 1000)
 (k : ∀ p H', yc H H' → Sta B G0 H' ((p, xs ++ zs) :: cs) ds → Q (.ref p) H') : zhy (.ref L) (.ref M) H Q := by
 obtain ⟨us, h1, u1⟩ := v1
 obtain ⟨ws, h2, u2⟩ := v2
 obtain ⟨G, S'⟩ := id S
 refine .inr ⟨L, M, us, ws, rfl, rfl, h1, h2, Nat.le_of_lt (Yq (by rw [← (u1 G S').len, ← (u2 G S').len]; exact hz)), fun p hp => k p _ (yc.new hp _) ?_⟩
 obtain ⟨a, b, c, d, e, f, g⟩ := id S'
 have hG : G p = none := b.free hp
 refine ⟨G, a, b.trans (yc.new hp _), c.trans (yc.new hp _), d, fun q hq => ?_, ?_, g⟩
 ·rcases List.mem_cons.mp hq with rfl | hq
  ·exact ⟨c.free hp, hG, _, yH, (u1 G S').app (u2 G S')⟩
  ·obtain ⟨x, y, ws, z, u⟩ := e q hq
   have hqp : q.1 ≠ p := yf z hp
   exact ⟨x, y, ws, by rw [ye hqp]; exact z, u⟩
 ·rw [List.map_cons, List.nodup_cons]
  refine ⟨fun z => ?_, f⟩
  obtain ⟨q, hq, hqp⟩ := List.mem_map.mp z
  obtain ⟨_, _, ws, z, _⟩ := e q hq
  rw [hqp, hp] at z; cases z
def rSum (K : PySem.W.Frag) : List V → Hp → VK → Prop := fun xs H Q => ∃ (p : Addr) (ns : List Int), xs = [.ref p] ∧ SqL K H p (ns.map V.int) ∧ Q (.int ns.sum) H
theorem xQ (hc : X.calm = true) : YG X (.builtin "sum") (rSum X.K) := by
 intro pins s σ H xs us Q I r h
 obtain ⟨p, ns, rfl, hq, q⟩ := h
 obtain ⟨u, rfl, rx⟩ := VT r
 cases rx
 obtain ⟨its, rv, pl, _⟩ := I.list hq
 have hi := YY rv
 obtain ⟨ys, e⟩ := hi.allInts.items
 have hl : s.heap.IsList p (intItems ys) := e ▸ pl.isList
 have en : ys.toList.map (·.1) = ns := by rw [← nums_intItems, ← e]; exact hi.numsOf
 refine sum_intListG (I.ok.hd hc) hl fun h' tk t' hk => ?_
 refine ⟨.int ns.sum, H, I.kept (t' := tk) hk, ⟨t', ?_⟩, q⟩
 rw [preSum_eq, en, List.take_of_length_le (by rw [← en]; simp)]
theorem xf {G : Hp} : ∀ {ns : List Int} {vs : List V}, zM G (ns.map PyData.int) vs → vs = ns.map V.int
 | [], vs, h => by rw [List.map_nil, zM] at h; exact h
 | n :: ns, vs, h => by
   rw [List.map_cons, zM] at h
   obtain ⟨v, r, rfl, h1, h2⟩ := h
   rw [Is] at h1
   subst h1
   rw [xf h2, List.map_cons]
theorem zgZ {ns : List Int} (S : Sta B G0 H cs ds) (h : (L, ns.map PyData.int) ∈ cs) (k : Q (.int ns.sum) H) : rSum K [.ref L] H Q := by
 obtain ⟨vs, hp, u⟩ := S.vwC h
 obtain ⟨G, S'⟩ := id S
 rw [xf (u G S')] at hp
 exact ⟨L, ns, rfl, SqL.of hp, k⟩
theorem zgY {ns : List Int} (S : Sta B G0 H cs ds) (h : Has ds (.list (ns.map PyData.int)) v) (k : Q (.int ns.sum) H) : rSum K [v] H Q := by
 obtain ⟨p, vs, rfl, _⟩ := S.lst h
 obtain ⟨vs, hp, u⟩ := S.vwL h
 obtain ⟨G, S'⟩ := id S
 rw [xf (u G S')] at hp
 exact ⟨_, ns, rfl, SqL.of hp, k⟩
end
end S
namespace S
open PySem PySem.Spec PyProof.Rows L2
def Ro (B G0 : Hp) (L : Addr) (xs : List PyData) : Prop := G0 L = none ∧ ∃ vs, B L = some (.lst vs) ∧ zM G0 xs vs
def Src (B G0 : Hp) (b : Bool) (K : PySem.W.Frag) (a : Addr) (xs : List PyData) (P : yR → Dat → Prop) : Prop := ∀ {H : Hp} {cs : yR} {ds : Dat}, Sta B G0 H cs ds → P cs ds →
 ∃ vs, SqB b K H a vs ∧ xs.length = vs.length ∧ ∀ (i : Nat) (x : PyData), xs[i]? = some x → ∃ v, vs[i]? = some v ∧ Sta B G0 H cs ((x, v) :: ds)
structure Wk (B G0 : Hp) (J : It) (xs : List PyData) (P : yR → Dat → Prop) : Prop where
 go : ∀ {H : Hp} {cs : yR} {ds : Dat} {i : Nat}, Sta B G0 H cs ds → P cs ds → i < xs.length → J.go i H
 stop : ∀ {H : Hp} {cs : yR} {ds : Dat} {i : Nat}, Sta B G0 H cs ds → P cs ds → xs.length ≤ i → J.stop i H
 yld : ∀ {H H' : Hp} {cs : yR} {ds : Dat} {i : Nat} {x : PyData} {v : V}, Sta B G0 H cs ds → P cs ds → xs[i]? = some x → J.yld i H v H' → yc H H' ∧ Sta B G0 H' cs ((x, v) :: ds)
section
variable {B G0 H : Hp} {cs : yR} {ds : Dat} {K : PySem.W.Frag} {a : Addr} {xs ys : List PyData} {P P' : yR → Dat → Prop} {b c : Bool} {v : V}
theorem Xu : Src B G0 true K a xs (fun _ ds => Has ds (.list xs) (.ref a)) := fun S h => by
 obtain ⟨p, vs, e, hp, hl, z⟩ := S.lst h
 cases e
 exact ⟨vs, SqL.of hp, hl, z⟩
theorem UB : Src B G0 false K a xs (fun _ ds => Has ds (.tuple xs) (.ref a)) := fun S h => by
 obtain ⟨p, vs, e, hp, hl, z⟩ := S.tup h
 cases e
 exact ⟨vs, SqT.of hp, hl, z⟩
theorem zfa : Src B G0 true K a xs (fun cs _ => (a, xs) ∈ cs) := fun S h => by
 obtain ⟨vs, hp, hl, z⟩ := S.cell h
 exact ⟨vs, SqL.of hp, hl, z⟩
theorem zdd (s : Src B G0 true K a xs P) : Wk B G0 (Itl K a) xs P where
 go := fun {H cs ds i} S h hi => by
  obtain ⟨vs, q, hl, _⟩ := s S h
  exact ⟨vs, vs[i]'(by omega), q, List.getElem?_eq_getElem _⟩
 stop := fun {H cs ds i} S h hi => by
  obtain ⟨vs, q, hl, _⟩ := s S h
  exact ⟨vs, q, by omega⟩
 yld := fun {H H' cs ds i x v} S h hx y => by
  obtain ⟨e, y⟩ := y
  subst e
  obtain ⟨vs, q, hl, z⟩ := s S h
  obtain ⟨w, hw, S'⟩ := z i x hx
  have := y vs q
  rw [hw] at this; cases this
  exact ⟨yc.refl _, S'⟩
theorem wk_tup (s : Src B G0 false K a xs P) : Wk B G0 (Itt K a) xs P where
 go := fun {H cs ds i} S h hi => by
  obtain ⟨vs, q, hl, _⟩ := s S h
  exact ⟨vs, vs[i]'(by omega), q, List.getElem?_eq_getElem _⟩
 stop := fun {H cs ds i} S h hi => by
  obtain ⟨vs, q, hl, _⟩ := s S h
  exact ⟨vs, q, by omega⟩
 yld := fun {H H' cs ds i x v} S h hx y => by
  obtain ⟨e, y⟩ := y
  subst e
  obtain ⟨vs, q, hl, z⟩ := s S h
  obtain ⟨w, hw, S'⟩ := z i x hx
  have := y vs q
  rw [hw] at this; cases this
  exact ⟨yc.refl _, S'⟩
def Up (lo : Int) (n : Nat) : List PyData := (List.range n).map fun i => .int (lo + (i : Nat))
theorem YV (lo : Int) (n : Nat) : (Up lo n).length = n := by unfold Up; rw [List.length_map, List.length_range]
theorem zaT {lo : Int} {n i : Nat} {x : PyData} (h : (Up lo n)[i]? = some x) : i < n ∧ x = .int (lo + (i : Nat)) := by
 have hi : i < n := by have := (List.getElem?_eq_some_iff.mp h).1; rwa [YV] at this
 unfold Up at h
 rw [List.getElem?_map, List.getElem?_range hi] at h
 exact ⟨hi, (Option.some.inj h).symm⟩
theorem ze3 {lo : Int} {n : Nat} : Wk B G0 (Itr lo n) (Up lo n) (fun _ _ => True) where
 go := fun {H cs ds i} S h hi => by rw [YV] at hi; exact hi
 stop := fun {H cs ds i} S h hi => by rw [YV] at hi; exact hi
 yld := fun {H H' cs ds i x v} S h hx y => by
  obtain ⟨e, y⟩ := y
  obtain ⟨_, rfl⟩ := zaT hx
  subst e y
  exact ⟨yc.refl _, S.push Has.int⟩
def zbJ (xs : List PyData) : List PyData := xs.mapIdx fun i x => .tuple [.int (i : Nat), x]
theorem YD (xs : List PyData) : (zbJ xs).length = xs.length := by unfold zbJ; rw [List.length_mapIdx]
theorem zag {xs : List PyData} {i : Nat} {y : PyData} (h : (zbJ xs)[i]? = some y) : ∃ x, xs[i]? = some x ∧ y = .tuple [.int (i : Nat), x] := by
 unfold zbJ at h
 rw [List.getElem?_mapIdx] at h
 cases e : xs[i]? with
 | none => rw [e] at h; cases h
 | some x => rw [e] at h; exact ⟨x, rfl, (Option.some.inj h).symm⟩
theorem zde (s : Src B G0 b K a xs P) : Wk B G0 (ItE b K a) (zbJ xs) P where
 go := fun {H cs ds i} S h hi => by
  rw [YD] at hi
  obtain ⟨vs, q, hl, _⟩ := s S h
  exact ⟨vs, vs[i]'(by omega), q, List.getElem?_eq_getElem _⟩
 stop := fun {H cs ds i} S h hi => by
  rw [YD] at hi
  obtain ⟨vs, q, hl, _⟩ := s S h
  exact ⟨vs, q, by omega⟩
 yld := fun {H H' cs ds i x v} S h hx y => by
  obtain ⟨x0, hx0, rfl⟩ := zag hx
  obtain ⟨p, u, hu, hp, rfl, rfl⟩ := y
  obtain ⟨vs, q, hl, z⟩ := s S h
  obtain ⟨w, hw, S'⟩ := z i x0 hx0
  have := hu vs q
  rw [hw] at this; cases this
  refine ⟨yc.new hp _, (S'.newT hp (xs := [.int (i : Nat), x0]) (vs := [.int (i : Nat), u]) (.cons Has.int (.cons (.mem (List.mem_cons_self ..)) .nil))).dat fun r hr => .mem ?_⟩
  rcases List.mem_cons.mp hr with rfl | hr
  ·exact List.mem_cons_self ..
  ·exact List.mem_cons_of_mem _ (List.mem_cons_of_mem _ hr)
def zgI (xs ys : List PyData) : List PyData := List.zipWith (fun x y => .tuple [x, y]) xs ys
theorem xq (xs ys : List PyData) : (zgI xs ys).length = min xs.length ys.length := by unfold zgI; rw [List.length_zipWith]
theorem ZY {xs ys : List PyData} {i : Nat} {z : PyData} (h : (zgI xs ys)[i]? = some z) : ∃ x y, xs[i]? = some x ∧ ys[i]? = some y ∧ z = .tuple [x, y] := by
 unfold zgI at h
 rw [List.getElem?_zipWith] at h
 cases e : xs[i]? with
 | none => rw [e] at h; cases h
 | some x =>
   cases e2 : ys[i]? with
   | none => rw [e, e2] at h; cases h
   | some y => rw [e, e2] at h; exact ⟨x, y, rfl, rfl, (Option.some.inj h).symm⟩
theorem zgc {a2 : Addr} (s : Src B G0 b K a xs P) (s2 : Src B G0 c K a2 ys P') : Wk B G0 (ItZ b c K a a2) (zgI xs ys) (fun cs ds => P cs ds ∧ (∀ x v, P' cs ds → P' cs ((x, v) :: ds)) ∧ P' cs ds) where
 go := fun {H cs ds i} S h hi => by
  rw [xq] at hi
  obtain ⟨vs, q, hl, _⟩ := s S h.1
  obtain ⟨ws, q2, hl2, _⟩ := s2 S h.2.2
  exact ⟨vs, ws, vs[i]'(by omega), ws[i]'(by omega), q, q2, List.getElem?_eq_getElem _, List.getElem?_eq_getElem _⟩
 stop := fun {H cs ds i} S h hi => by
  rw [xq] at hi
  obtain ⟨vs, q, hl, _⟩ := s S h.1
  obtain ⟨ws, q2, hl2, _⟩ := s2 S h.2.2
  exact ⟨vs, ws, q, q2, by omega⟩
 yld := fun {H H' cs ds i x v} S h hx y => by
  obtain ⟨x0, y0, hx0, hy0, rfl⟩ := ZY hx
  obtain ⟨p, u, u2, hu, hu2, hp, rfl, rfl⟩ := y
  obtain ⟨vs, q, hl, z⟩ := s S h.1
  obtain ⟨w, hw, S'⟩ := z i x0 hx0
  obtain ⟨ws, q2, hl2, z2⟩ := s2 S' (h.2.1 _ _ h.2.2)
  obtain ⟨w2, hw2, S''⟩ := z2 i y0 hy0
  have := hu vs q
  rw [hw] at this; cases this
  have := hu2 ws q2
  rw [hw2] at this; cases this
  refine ⟨yc.new hp _, (S''.newT hp (xs := [x0, y0]) (vs := [u, u2]) (.cons (.mem (List.mem_cons_of_mem _ (List.mem_cons_self ..))) (.cons (.mem (List.mem_cons_self ..)) .nil))).dat fun r hr => .mem ?_⟩
  rcases List.mem_cons.mp hr with rfl | hr
  ·exact List.mem_cons_self ..
  ·exact List.mem_cons_of_mem _ (List.mem_cons_of_mem _ (List.mem_cons_of_mem _ hr))
def kIL (K : PySem.W.Frag) (R : It → Hp → Prop) : VK := fun x H1 => ∃ a, x = .ref a ∧ (∃ xs, SqL K H1 a xs) ∧ R (Itl K a) H1
def kIT (K : PySem.W.Frag) (R : It → Hp → Prop) : VK := fun x H1 => ∃ a, x = .ref a ∧ (∃ xs, SqT K H1 a xs) ∧ R (Itt K a) H1
def kR1 (R : It → Hp → Prop) : List V → Hp → Prop := fun vs H1 => ∃ j : Int, vs = [.int j] ∧ -(2 ^ 62) ≤ j ∧ j < 2 ^ 62 ∧ R (Itr 0 j.toNat) H1
def kEn (b : Bool) (K : PySem.W.Frag) (R : It → Hp → Prop) : List V → Hp → Prop := fun vs H1 => ∃ a, vs = [.ref a] ∧ (∃ xs, SqB b K H1 a xs) ∧ R (ItE b K a) H1
def kZi (b c : Bool) (K : PySem.W.Frag) (R : It → Hp → Prop) : List V → Hp → Prop := fun vs H1 => ∃ a1 a2, vs = [.ref a1, .ref a2] ∧ (∃ xs, SqB b K H1 a1 xs) ∧ (∃ ys, SqB c K H1 a2 ys) ∧ R (ItZ b c K a1 a2) H1
section
variable {σ : L2.St} {R : It → Hp → Prop} {tl : TE} {ta : TA}
theorem zfq (h : tl σ H (kIL K R)) : iList K tl σ H R := h
theorem zhn (h : tl σ H (kIT K R)) : iTup K tl σ H R := h
theorem rd_iR1 (h : ta σ H (kR1 R)) : iRng1 ta σ H R := h
theorem rd_iEn (h : ta σ H (kEn b K R)) : iEnum b K ta σ H R := h
theorem rd_iZi (h : ta σ H (kZi b c K R)) : iZip b c K ta σ H R := h
theorem rd_kR1 {j : Int} (B G0 : Hp) (h1 : -1000 ≤ j) (h2 : j ≤ 1000000) (k : ∀ J, Wk B G0 J (Up 0 j.toNat) (fun _ _ => True) → R J H) : kR1 R [.int j] H := ⟨j, rfl, by omega, by omega, k _ ze3⟩
end
def kGT (K : PySem.W.Frag) (n : Nat) (t : TGs) (σ : L2.St) (N : L2.St → Hp → Prop) : VK := fun v H => ∃ a xs, v = .ref a ∧ SqT K H a xs ∧ xs.length = n ∧ t xs σ H N
theorem Zn {n : Nat} {t : TGs} {σ : L2.St} {N : L2.St → Hp → Prop} (h : kGT K n t σ N v H) : gTup K n t v σ H N := h
theorem rd_kGT {n : Nat} {t : TGs} {σ : L2.St} {N : L2.St → Hp → Prop} (S : Sta B G0 H cs ds) (h : Has ds (.tuple xs) v) (hn : xs.length = n) (k : ∀ vs, xs.length = vs.length → Sta B G0 H cs (xs.zip vs ++ ds) → t vs σ H N) : kGT K n t σ N v H := by
 obtain ⟨p, vs, rfl, hp, hl, S', _⟩ := S.tupAll h
 exact ⟨p, vs, rfl, SqT.of hp, by omega, k vs hl S'⟩
theorem Zm {t : TGs} {σ : L2.St} {N : L2.St → Hp → Prop} {x y : PyData} (S : Sta B G0 H cs ds) (h : Has ds (.tuple [x, y]) v) (k : ∀ w1 w2, Sta B G0 H cs ((x, w1) :: (y, w2) :: ds) → t [w1, w2] σ H N) : kGT K 2 t σ N v H := by
 refine rd_kGT S h rfl fun vs hl S' => ?_
 match vs, hl with
 | [w1, w2], _ => exact k w1 w2 S'
theorem xi {t : TG} {u : TGs} {σ : L2.St} {N : L2.St → Hp → Prop} {vs : List V} (h : t v σ H fun σ' H' => u vs σ' H' N) : gCons t u (v :: vs) σ H N := ⟨v, vs, rfl, h⟩
theorem Yv {σ : L2.St} {N : L2.St → Hp → Prop} (h : N σ H) : gNil [] σ H N := ⟨rfl, h⟩
def kFor (g : TG) (tb : TS) (D : Ends) (σ : L2.St) : It → Hp → Prop := fun J H1 => ∃ W : Nat → Nat → L2.St → Hp → Prop, (∃ m, W 0 m σ H1) ∧ ∀ i m σ H, W i m σ H →
 (J.stop i H ∧ D.nx σ H) ∨ (J.go i H ∧ ∃ N : L2.St → Hp → Prop, (∀ σ' H', N σ' H' → ∃ m', m' < m ∧ W (i + 1) m' σ' H') ∧ ∀ x H', J.yld i H x H' → g x σ H' fun σ2 H2 => tb { D with nx := N, ct := N, bk := D.nx } σ2 H2)
theorem rd_for {wi : TI} {g : TG} {tb : TS} {D : Ends} {σ : L2.St} (h : wi σ H (kFor g tb D σ)) : tFor wi g tb D σ H := h
def AtP (B G0 : Hp) (Pv : L2.St → yR → Dat → Prop) : L2.St → Hp → Prop := fun σ H => ∃ cs ds, Sta B G0 H cs ds ∧ Pv σ cs ds
theorem zbu {Pv : L2.St → yR → Dat → Prop} {σ : L2.St} (S : Sta B G0 H cs ds) (h : Pv σ cs ds) : AtP B G0 Pv σ H := ⟨cs, ds, S, h⟩
theorem VN {J : It} {g : TG} {tb : TS} {D : Ends} {σ : L2.St} (w : Wk B G0 J xs P) (Pv : Nat → L2.St → yR → Dat → Prop) (S : Sta B G0 H cs ds) (h0 : Pv 0 σ cs ds) (hP : ∀ i σ cs ds, Pv i σ cs ds → P cs ds)
 (hs : ∀ (i : Nat) (x : PyData) (v : V) (σ : L2.St) (H : Hp) (cs : yR) (ds : Dat), xs[i]? = some x → Pv i σ cs ds → Sta B G0 H cs ((x, v) :: ds) → g v σ H fun σ2 H2 => tb (mkL D (AtP B G0 (Pv (i + 1)))) σ2 H2)
 (hd : ∀ (σ : L2.St) (H : Hp) (cs : yR) (ds : Dat), Pv xs.length σ cs ds → Sta B G0 H cs ds → D.nx σ H) : kFor g tb D σ J H := by
 refine ⟨fun i m σ H => m = xs.length - i ∧ i ≤ xs.length ∧ AtP B G0 (Pv i) σ H, ⟨xs.length, by simp, Nat.zero_le _, cs, ds, S, h0⟩, ?_⟩
 rintro i m σ H ⟨rfl, hi, cs, ds, S, p⟩
 by_cases hlt : i < xs.length
 ·refine .inr ⟨w.go S (hP _ _ _ _ p) hlt, AtP B G0 (Pv (i + 1)), fun σ' H' p' => ⟨xs.length - (i + 1), by omega, rfl, hlt, p'⟩, fun x H' y => ?_⟩
  exact hs i _ x σ H' cs ds (List.getElem?_eq_getElem hlt) p (w.yld S (hP _ _ _ _ p) (List.getElem?_eq_getElem hlt) y).2
 ·have e : i = xs.length := by omega
  subst e
  exact .inl ⟨w.stop S (hP _ _ _ _ p) (Nat.le_refl _), hd σ H cs ds p S⟩
def kWh (W : Nat → L2.St → Hp → Prop) (tb : TS) (D : Ends) (m : Nat) (σ : L2.St) : Bool → Hp → Prop := fun b H1 => if b = true then ∃ N : L2.St → Hp → Prop, (∀ σ' H', N σ' H' → ∃ m', m' < m ∧ W m' σ' H') ∧ tb { D with nx := N, ct := N, bk := D.nx } σ H1 else D.nx σ H1
theorem zgU {tb : TS} {D : Ends} {m : Nat} {σ : L2.St} {b : Bool} {W : Nat → L2.St → Hp → Prop} (h1 : b = true → tb (mkL D (fun σ' H' => ∃ m', m' < m ∧ W m' σ' H')) σ H)
 (h2 : b = false → D.nx σ H) : kWh W tb D m σ b H := by
 cases b with
 | true => exact ⟨_, fun σ' H' q => q, h1 rfl⟩
 | false => exact h2 rfl
theorem zbi {c : TT} {tb : TS} {D : Ends} {σ : L2.St} (W : Nat → L2.St → Hp → Prop) (m : Nat) (h0 : W m σ H) (hs : ∀ (m : Nat) (σ : L2.St) (H : Hp), W m σ H → c σ H (kWh W tb D m σ)) : zge c tb D σ H := ⟨W, ⟨m, h0⟩, hs⟩
def zhU (n : Nat) (fr : List Nat) (g : Blk TG) (tt : Blk TT) (te : Blk TE) (σ : L2.St) (Q : VK) : It → Hp → Prop := fun J H1 => ∀ D, H1 D = none → ∀ C ex s0 H0,
 ∃ W : Nat → Nat → List V → Hp → Prop, (∃ m, W 0 m [] (upd H1 D (.lst []))) ∧ ∀ i m ys H2, W i m ys H2 → H2 D = some (.lst ys) ∧
   ((J.stop i H2 ∧ Q (.ref D) H2) ∨ (J.go i H2 ∧ ∀ x H3, J.yld i H2 x H3 → g C ex s0 H0 x (List.replicate n none ++ frσ σ fr) H3 fun σ4 H4 => σ4.drop n = frσ σ fr ∧ tt C ex s0 H0 σ4 H4 fun b H5 =>
     if b = true then te C ex s0 H0 σ4 H5 fun y H6 => H6 D = some (.lst ys) ∧ ys.length < sizeLine ∧ ∃ m', m' < m ∧ W (i + 1) m' (ys ++ [y]) (upd H6 D (.lst (ys ++ [y])))
     else ∃ m', m' < m ∧ W (i + 1) m' ys H5))
theorem zhs {n : Nat} {fr : List Nat} {wi : TI} {g : Blk TG} {tt : Blk TT} {te : Blk TE} {σ : L2.St} {Q : VK} (h : wi σ H (zhU n fr g tt te σ Q)) : ze7 n fr wi g tt te σ H Q := h
structure Turn1 (B G0 : Hp) (cs : yR) (B' G' : Hp) : Prop where
 b : yc B B'
 ro : ∀ c ∈ cs, Ro B' G' c.1 c.2
 old : ∀ {L : Addr} {xs : List PyData}, Ro B G0 L xs → Ro B' G' L xs
theorem zeL {J : It} {n : Nat} {fr : List Nat} {g : Blk TG} {tt : Blk TT} {te : Blk TE} {σ : L2.St} {Q : VK} (w : Wk B G0 J xs P) (f : Nat → Option PyData) (S : Sta B G0 H cs ds) (hPm : ∀ D ys, P ((D, ys) :: cs) ds) (hn : xs.length ≤ 1000)
 (hs : ∀ (i : Nat) (x : PyData) (v : V) (B' G' : Hp) (Kd : VK) (Kn : Hp → Prop), xs[i]? = some x → Turn1 B G0 cs B' G' → Sta B' G' B' [] ((x, v) :: ds) →
  (∀ {z : PyData} {y : V} {H6 : Hp} {cs' : yR} {ds' : Dat}, f i = some z → Sta B' G' H6 cs' ds' → Has ds' z y → Kd y H6) → (∀ {H5 : Hp} {cs' : yR} {ds' : Dat}, f i = none → Sta B' G' H5 cs' ds' → Kn H5) →
  ∀ C ex s0 H0, g C ex s0 H0 v (List.replicate n none ++ frσ σ fr) B' fun σ4 H4 => σ4.drop n = frσ σ fr ∧ tt C ex s0 H0 σ4 H4 fun b H5 => if b = true then te C ex s0 H0 σ4 H5 Kd else Kn H5)
 (k : ∀ D H', yc H H' → Sta B G0 H' ((D, (List.range xs.length).filterMap f) :: cs) ds → Q (.ref D) H') : zhU n fr g tt te σ Q J H := by
 intro D hD C ex s0 H0
 have len : ∀ i, ((List.range i).filterMap f).length ≤ i := fun i => Nat.le_trans (List.length_filterMap_le _ _) (by rw [List.length_range]; exact Nat.le_refl _)
 refine ⟨fun i m ys H2 => m = xs.length - i ∧ i ≤ xs.length ∧ H2 D = some (.lst ys) ∧ yc H H2 ∧ Sta B G0 H2 ((D, (List.range i).filterMap f) :: cs) ds, ⟨xs.length, by simp, Nat.zero_le _, yH, yc.new hD _, S.newL hD .nil⟩, ?_⟩
 rintro i m ys H2 ⟨rfl, hi, hDl, hS, S2⟩
 refine ⟨hDl, ?_⟩
 by_cases hlt : i < xs.length
 ·refine .inr ⟨w.go S2 (hPm _ _) hlt, fun v H3 y => ?_⟩
  obtain ⟨e3, G3, S3⟩ := w.yld S2 (hPm _ _) (List.getElem?_eq_getElem hlt) y
  obtain ⟨a, b, c, d, e, f', g'⟩ := id S3
  have h3D : H3 D = some (.lst ys) := e3 _ _ hDl
  have t1 : Turn1 B G0 cs H3 G3 := by
   refine ⟨c, fun q hq => ?_, fun {L zs} ⟨r1, vs, r2, r3⟩ => ?_⟩
   ·obtain ⟨_, y', vs, z', u'⟩ := e q (List.mem_cons_of_mem _ hq)
    exact ⟨y', vs, z', u'⟩
   ·exact ⟨by rw [d L (by rw [r2]; simp)]; exact r1, vs, c _ _ r2, zM.mono a _ _ r3⟩
  have up : ∀ {H6 : Hp} {cs' : yR} {ds' : Dat} {o : HO}, yc H H3 → H D = none → yc H H6 → yc H (upd H6 D o) := fun {H6 cs' ds' o} _ hn h q u hq => by
   rw [ye (yf hq hn)]; exact h _ _ hq
  refine hs i _ v H3 G3 _ _ (List.getElem?_eq_getElem hlt) t1 (Sta.enter b g') ?_ ?_ C ex s0 H0
  ·intro z y6 H6 cs' ds' fz S6 hz
   obtain ⟨G6, gr, al⟩ := S6.leave
   have h6D : H6 D = some (.lst ys) := gr.h _ _ h3D
   have S6' : zia B G0 H6 ((D, (List.range i).filterMap f) :: cs) ((xs[i], v) :: ds) G6 := S3.grow gr
   have S7 : Sta B G0 H6 ((D, (List.range i).filterMap f) :: cs) ((z, y6) :: ds) := by
    obtain ⟨a', b', c', d', e', f'', g''⟩ := S6'
    exact ⟨G6, a', b', c', d', e', f'', ZW.cons (fun p hp => g'' p (List.mem_cons_of_mem _ hp)) (hz G6 al)⟩
   obtain ⟨vs, hv, hl, put⟩ := S7.put
   rw [h6D] at hv
   cases hv
   refine ⟨h6D, Yq (by have := len i; omega), xs.length - (i + 1), by omega, rfl, hlt, yH, up (cs' := cs') (ds' := ds') (hS.trans e3) hD ((hS.trans e3).trans gr.h), ?_⟩
   have er : (List.range (i + 1)).filterMap f = (List.range i).filterMap f ++ [z] := by
    rw [List.range_succ, List.filterMap_append]; simp [fz]
   rw [er]
   exact (put _ _ fun G a u => u.app (by rw [zM]; exact ⟨y6, [], rfl, a _ (List.mem_cons_self ..), by rw [zM]⟩)).drop1
  ·intro H5 cs' ds' fz S5
   obtain ⟨G5, gr, al⟩ := S5.leave
   have S5' : Sta B G0 H5 ((D, (List.range i).filterMap f) :: cs) ((xs[i], v) :: ds) := ⟨G5, S3.grow gr⟩
   have er : (List.range (i + 1)).filterMap f = (List.range i).filterMap f := by
    rw [List.range_succ, List.filterMap_append]; simp [fz]
   exact ⟨xs.length - (i + 1), by omega, rfl, hlt, gr.h _ _ h3D, (hS.trans e3).trans gr.h, by rw [er]; exact S5'.drop1⟩
 ·have e : i = xs.length := by omega
  subst e
  exact .inl ⟨w.stop S2 (hPm _ _) (Nat.le_refl _), k D H2 hS S2⟩
theorem zhZ {α β : Type} (g : α → β) (l : List α) : l.filterMap (fun i => some (g i)) = l.map g := by
 induction l with
 | nil => rfl
 | cons a l ih => simp [ih]
theorem ya {J : It} {n : Nat} {fr : List Nat} {g : Blk TG} {tt : Blk TT} {te : Blk TE} {σ : L2.St} {Q : VK} (w : Wk B G0 J xs P) (f : Nat → PyData) (hy : (List.range xs.length).map f = ys) (S : Sta B G0 H cs ds) (hPm : ∀ D ys, P ((D, ys) :: cs) ds) (hn : xs.length ≤ 1000)
 (hs : ∀ (i : Nat) (x : PyData) (v : V) (B' G' : Hp) (Kd : VK) (Kn : Hp → Prop), xs[i]? = some x → Turn1 B G0 cs B' G' → Sta B' G' B' [] ((x, v) :: ds) →
  (∀ {y : V} {H6 : Hp} {cs' : yR} {ds' : Dat}, Sta B' G' H6 cs' ds' → Has ds' (f i) y → Kd y H6) →
  ∀ C ex s0 H0, g C ex s0 H0 v (List.replicate n none ++ frσ σ fr) B' fun σ4 H4 => σ4.drop n = frσ σ fr ∧ tt C ex s0 H0 σ4 H4 fun b H5 => if b = true then te C ex s0 H0 σ4 H5 Kd else Kn H5)
 (k : ∀ D H', yc H H' → Sta B G0 H' ((D, ys) :: cs) ds → Q (.ref D) H') : zhU n fr g tt te σ Q J H := by
 refine zeL w (fun i => some (f i)) S hPm hn (fun i x v B' G' Kd Kn hx t1 S' hd _ => hs i x v B' G' Kd Kn hx t1 S' fun {y H6 cs' ds'} a b => hd rfl a b) fun D H' e S' => k D H' e ?_
 rw [zhZ, hy] at S'
 exact S'
theorem xp {R : It → Hp → Prop} (S : Sta B G0 H cs ds) (h : Has ds (.list xs) v) (k : ∀ J, Wk B G0 J xs (fun _ ds => Has ds (.list xs) v) → R J H) : kIL K R v H := by
 obtain ⟨p, vs, rfl, hp, _⟩ := S.lst h
 exact ⟨p, rfl, ⟨_, SqL.of hp⟩, k _ (zdd Xu)⟩
theorem zbt {R : It → Hp → Prop} (S : Sta B G0 H cs ds) (h : Has ds (.tuple xs) v) (k : ∀ J, Wk B G0 J xs (fun _ ds => Has ds (.tuple xs) v) → R J H) : kIT K R v H := by
 obtain ⟨p, vs, rfl, hp, _⟩ := S.tup h
 exact ⟨p, rfl, ⟨_, SqT.of hp⟩, k _ (wk_tup UB)⟩
theorem zdN {R : It → Hp → Prop} {L : Addr} (S : Sta B G0 H cs ds) (h : (L, xs) ∈ cs) (k : ∀ J, Wk B G0 J xs (fun cs _ => (L, xs) ∈ cs) → R J H) : kIL K R (.ref L) H := by
 obtain ⟨vs, hp, _⟩ := S.cell h
 exact ⟨L, rfl, ⟨_, SqL.of hp⟩, k _ (zdd zfa)⟩
theorem zhh {R : It → Hp → Prop} (S : Sta B G0 H cs ds) (h : Has ds (.tuple xs) v) (k : ∀ J, Wk B G0 J (zbJ xs) (fun _ ds => Has ds (.tuple xs) v) → R J H) : kEn false K R [v] H := by
 obtain ⟨p, vs, rfl, hp, _⟩ := S.tup h
 exact ⟨p, rfl, ⟨_, SqT.of hp⟩, k _ (zde UB)⟩
theorem zhi {R : It → Hp → Prop} (S : Sta B G0 H cs ds) (h : Has ds (.list xs) v) (k : ∀ J, Wk B G0 J (zbJ xs) (fun _ ds => Has ds (.list xs) v) → R J H) : kEn true K R [v] H := by
 obtain ⟨p, vs, rfl, hp, _⟩ := S.lst h
 exact ⟨p, rfl, ⟨_, SqL.of hp⟩, k _ (zde Xu)⟩
theorem UU {R : It → Hp → Prop} {w : V} (S : Sta B G0 H cs ds) (h : Has ds (.tuple xs) v) (h2 : Has ds (.tuple ys) w) (k : ∀ J, Wk B G0 J (zgI xs ys) (fun cs ds => Has ds (.tuple xs) v ∧ (∀ x u, Has ds (.tuple ys) w → Has ((x, u) :: ds) (.tuple ys) w) ∧ Has ds (.tuple ys) w) → R J H) : kZi false false K R [v, w] H := by
 obtain ⟨p, vs, rfl, hp, _⟩ := S.tup h
 obtain ⟨q, ws, rfl, hq, _⟩ := S.tup h2
 exact ⟨p, q, rfl, ⟨_, SqT.of hp⟩, ⟨_, SqT.of hq⟩, k _ (zgc UB UB)⟩
theorem Sta.refL (S : Sta B G0 H cs ds) (h : Has ds (.list xs) v) : ∃ a, v = .ref a := let ⟨p, _, e, _⟩ := S.lst h; ⟨p, e⟩
section
variable {α : Type}
def spT (enc : α → List PyData) (dom : α → Prop) (res : α → PyData) : Sp := fun vs H Q _ => ∃ (G : Hp) (a : α), yc G H ∧ zM G (enc a) vs ∧ dom a ∧ ∀ v H' G', Grow G H G' H' → Is G' (res a) v → Q v H'
def spL (enc : α → List PyData) (dom : α → Prop) (res : α → List PyData) : Sp := fun vs H Q _ => ∃ (G : Hp) (a : α), yc G H ∧ zM G (enc a) vs ∧ dom a ∧ ∀ p H' G' us, Grow G H G' H' → H p = none → G' p = none → H' p = some (.lst us) → zM G' (res a) us → Q (.ref p) H'
def spB (enc : α → List PyData) (dom : α → Prop) (res : α → V) : Sp := fun vs H Q _ => ∃ (a : α), zM H (enc a) vs ∧ dom a ∧ ∀ H', yc H H' → Q (res a) H'
variable {enc : α → List PyData} {dom : α → Prop} {res : α → PyData} {resL : α → List PyData} {resB : α → V} {Q : VK} {E : XK} {vs : List V}
theorem ZQ (a : α) (S : Sta B G0 H cs ds) (hx : yy ds (enc a) vs) (hd : dom a) (k : ∀ v H', yc H H' → Sta B G0 H' cs ((res a, v) :: ds) → Q v H') : spT enc dom res vs H Q E := by
 obtain ⟨G, S⟩ := S
 refine ⟨G, a, S.2.1, hx G S.2.2.2.2.2.2, hd, fun v H' G' gr hv => k v H' gr.h ?_⟩
 obtain ⟨a', b', c', d', e', f', g'⟩ := S.grow gr
 exact ⟨G', a', b', c', d', e', f', g'.cons hv⟩
theorem Xh (a : α) (S : Sta B G0 H cs ds) (hx : yy ds (enc a) vs) (hd : dom a) (k : ∀ p H', yc H H' → Sta B G0 H' ((p, resL a) :: cs) ds → Q (.ref p) H') : spL enc dom resL vs H Q E := by
 obtain ⟨G, S⟩ := S
 refine ⟨G, a, S.2.1, hx G S.2.2.2.2.2.2, hd, fun p H' G' us gr hp hg hu hv => k p H' gr.h ?_⟩
 have hc := S.2.2.1.free hp
 obtain ⟨_, _, _, _, e0, _, _⟩ := id S
 obtain ⟨a', b', c', d', e', f', g'⟩ := S.grow gr
 refine ⟨G', a', b', c', d', fun q hq => ?_, ?_, g'⟩
 ·rcases List.mem_cons.mp hq with rfl | hq
  ·exact ⟨hc, hg, us, hu, hv⟩
  ·exact e' q hq
 ·rw [List.map_cons, List.nodup_cons]
  refine ⟨fun z => ?_, f'⟩
  obtain ⟨q, hq, hqp⟩ := List.mem_map.mp z
  obtain ⟨_, _, ws, z, _⟩ := e0 q hq
  rw [hqp, hp] at z; cases z
theorem Vu (a : α) (hx : zM H (enc a) vs) (hd : dom a) (k : ∀ H', yc H H' → Q (resB a) H') : spB enc dom resB vs H Q E := ⟨a, hx, hd, k⟩
theorem Sta.hpAll (S : Sta B G0 H cs ds) {xs : List PyData} (h : yy ds xs vs) : zM H xs vs := by
 obtain ⟨G, a, b, c, d, e, f, g⟩ := S
 exact zM.mono b _ _ (h G g)
theorem Zr {G H' : Hp} {r : PyData} {v : V} (S : Sta H G H' cs ds) (k : ∀ v H' G', Grow G H G' H' → Is G' r v → Q v H') (h : Has ds r v) : Q v H' :=
 let ⟨G', gr, al⟩ := S.leave; k v H' G' gr (h G' al)
theorem ZL {G H' : Hp} {r : List PyData} {p : Addr} (S : Sta H G H' ((p, r) :: cs) ds) (k : ∀ p H' G' us, Grow G H G' H' → H p = none → G' p = none → H' p = some (.lst us) → zM G' r us → Q (.ref p) H') : Q (.ref p) H' := by
 obtain ⟨G', a, b, c, d, e, f, g⟩ := S
 obtain ⟨x, y, us, z, u⟩ := e _ (List.mem_cons_self ..)
 exact k p H' G' us ⟨c, a, b, d⟩ x y z u
theorem ret_B {G H' : Hp} {r : V} (S : Sta H G H' cs ds) (k : ∀ H', yc H H' → Q r H') : Q r H' := k H' S.base
theorem Ym {G : Hp} {x : PyData} {vs : List V} (h : zM G [x] vs) : ∃ v, vs = [v] ∧ ZW G [(x, v)] := by
 simp only [zM] at h
 obtain ⟨v, _, rfl, h1, rfl⟩ := h
 exact ⟨v, rfl, fun p hp => by simp at hp; subst hp; exact h1⟩
theorem Zq {G : Hp} {x y : PyData} {vs : List V} (h : zM G [x, y] vs) : ∃ v w, vs = [v, w] ∧ ZW G [(x, v), (y, w)] := by
 simp only [zM] at h
 obtain ⟨v, _, rfl, h1, w, _, rfl, h2, rfl⟩ := h
 exact ⟨v, w, rfl, fun p hp => by simp at hp; rcases hp with rfl | rfl <;> assumption⟩
theorem XY {G : Hp} {x y z : PyData} {vs : List V} (h : zM G [x, y, z] vs) : ∃ v w u, vs = [v, w, u] ∧ ZW G [(x, v), (y, w), (z, u)] := by
 simp only [zM] at h
 obtain ⟨v, _, rfl, h1, w, _, rfl, h2, u, _, rfl, h3, rfl⟩ := h
 exact ⟨v, w, u, rfl, fun p hp => by simp at hp; rcases hp with rfl | rfl | rfl <;> assumption⟩
theorem Is.int_of {G : Hp} {i : Int} {v : V} (h : Is G (.int i) v) : v = .int i := by rw [Is] at h; exact h
end
end
end S
namespace S
open PySem PySem.Spec PyProof.Rows L2
theorem zcT {M : Model} {A : Around} {E : Value → Shared → Prop} {s : Shared} {scope : Scope} {globals : Addr} {closure : List (Str × Addr)} {qual y : Str} {func : Option Addr} {code : Value} {env : Env} {builtins : Addr} {Q : Env → Shared → Prop}
 (one : ∀ n acc, cellsFrom n scope.names acc = (y, n) :: acc) (push : ∀ h, pushCells h scope.names = h.push { cls := .type "cell", data := .cell none })
 (hQ : Q (newEnv scope s.heap.objs.size globals ((y, s.heap.objs.size + 1) :: closure) qual func code (some env) builtins) { s with heap := (s.heap.push { cls := .type "dict", data := .dict #[] }).push { cls := .type "cell", data := .cell none } }) :
 wpAny M A (newFunctionEnv scope globals closure [] qual func code (some env) builtins) Q E s := by
 simp only [newFunctionEnv, Option.isSome_some, if_true]
 refine wpAny_bind (wpAny_alloc ?_)
 refine wpAny_bind (wpAny_layCells _ (fun name kind cells => by cases hkc : kind == NameKind.cell <;> simp [hkc]) _ _ _ _ ?_)
 rw [one, push, show ({ s with heap := s.heap.push { cls := .type "dict", data := .dict #[] } } : Shared).heap.objs.size = s.heap.objs.size + 1 from Heap.size_push ..]
 refine wpAny_bind ?_
 rw [List.forIn_nil]
 exact wpAny_pure (wpAny_pure hQ)
def ZM (X : Cx) (N : List Str) (scope : Scope) (y : Str) (C : Addr) (ex : List Addr) (s : Shared) (H : Hp) : Cx where
 prog := X.prog
 w := X.w
 K := X.K
 mg := X.mg
 base := X.base
 A := X.A
 N := N
 s₀ := s
 H₀ := H
 env := compEnvC scope ((y, C + 1) :: yO X.env.cells scope.names []) C X.env
 outer := X.stack
 stack := X.stack
 ex := ex
 fn := fun x => x == y
 calm := X.calm
 pn := []
 xe := fun _ _ => False
structure CompOk1 (X : Cx) (N : List Str) (n : Nat) (fr : List Nat) (scope : Scope) (y : Str) : Prop where
 kind : scope.kind = .function
 nd : N.Nodup
 names : (N.drop n) = fr.map (fun j => (X.N[j]?).getD ("" : Str))
 own : n ≤ N.length
 inx : (fr.all fun j => decide (j < X.N.length)) = true
 free : ((N.drop n).all fun x => decide (scope.names.lookup x = some .free)) = true
 one : ∀ n acc, cellsFrom n scope.names acc = (y, n) :: acc
 push : ∀ h, pushCells h scope.names = h.push { cls := .type "cell", data := .cell none }
 oth : (scope.names.all fun z => decide (z.2 = .cell → z.1 = y)) = true
 yfree : (scope.names.all fun z => decide (z.2 = .free → z.1 ≠ y)) = true
 loc : (scope.names.all fun y => decide (y.2 = .local → scope.names.lookup y.1 = some .local)) = true
 seen : (scope.names.all fun y => decide (y.2 = .free → (X.env.kindOf y.1 = some .cell ∨ X.env.kindOf y.1 = some .free))) = true
theorem Xg {scope : Scope} {env : Env} {x y : Str} {k : NameKind} (h : (relabel scope env).names.lookup x = some k) (hk : k = .cell ∨ k = .free) (hc : (scope.names.all fun z => decide (z.2 = .cell → z.1 = y)) = true) : x = y ∨ (x, NameKind.free) ∈ scope.names := by
 unfold relabel at h
 dsimp only at h
 have key : ∀ names : List (Str × NameKind), (names.all fun z => decide (z.2 = .cell → z.1 = y)) = true →
  (names.map fun (n, k) => if (k == NameKind.free && env.scope.kind == .function && env.kindOf n == some .cell) = true then (n, NameKind.cell) else (n, k)).lookup x = some k → x = y ∨ (x, NameKind.free) ∈ names := by
  intro names
  induction names with
  | nil => intro _ h; simp at h
  | cons z r ih =>
    intro ha h
    obtain ⟨n, j⟩ := z
    rw [List.all_cons, Bool.and_eq_true] at ha
    rw [List.map_cons] at h
    have e1 : ∀ (b : Bool) (k1 : NameKind), ((if b = true then (n, NameKind.cell) else (n, k1)) : Str × NameKind) = (n, if b = true then NameKind.cell else k1) := by intro b k1; cases b <;> rfl
    dsimp only at h
    rw [e1, List.lookup_cons] at h
    cases hx : x == n with
    | false =>
      rw [hx] at h
      exact (ih ha.2 h).imp id (List.mem_cons_of_mem _)
    | true =>
      rw [hx] at h
      have e : x = n := by simpa using hx
      subst e
      have h' := Option.some.inj h
      have hj : j = .cell → x = y := of_decide_eq_true ha.1
      cases hb : (j == NameKind.free && env.scope.kind == .function && env.kindOf x == some .cell) with
      | true =>
        rw [Bool.and_eq_true, Bool.and_eq_true] at hb
        have : j = .free := by simpa using hb.1.1
        subst this
        exact .inr (List.mem_cons_self ..)
      | false =>
        rw [hb] at h'
        simp only [Bool.false_eq_true, if_false] at h'
        subst h'
        rcases hk with z | z
        ·exact .inl (hj z)
        ·subst z; exact .inr (List.mem_cons_self ..)
 exact key _ hc h
section
variable {X : Cx} {N : List Str} {n : Nat} {fr : List Nat} {scope : Scope} {pins : List (Addr × Obj)} {σ : L2.St} {H : Hp} {s : Shared} {y : Str}
theorem CompOk1.cells (O : CompOk1 X N n fr scope y) (I : Inv X pins σ H s) : ∀ y ∈ scope.names, y.2 = .free → ∃ c, X.env.cells.lookup y.1 = some c := fun y hy hf => I.ok.has y.1 (of_decide_eq_true (List.all_eq_true.mp O.seen y hy) hf)
theorem Vb {y x : Str} {a : Addr} {l : List (Str × Addr)} : ((y, a) :: l).lookup x = if x = y then some a else l.lookup x := by
 rw [List.lookup_cons]
 cases h : x == y with
 | true => rw [if_pos (by simpa using h)]
 | false => rw [if_neg (by simpa using h)]
theorem zbL {fp : List Addr} {h' : Heap} {tk : Nat} {m : Str → Option Value} (O : CompOk1 X N n fr scope y) (I : Inv X pins σ H s) (hf : ∀ b ∈ fp, zbQ X pins H b) (hfl : ∀ b ∈ fp, b < s.heap.objs.size)
 (hns : h'.Ns s.heap.objs.size m) (hcl1 : h'.IsCell (s.heap.objs.size + 1) none) (keep : ∀ b o, s.heap.get? b = some o → h'.get? b = some o) :
 Inv (ZM X N scope y s.heap.objs.size fp s H) [] (List.replicate n none ++ frσ σ fr) H { s with heap := h', toks := tk } := by
 have hcl := O.cells I
 have lk : ∀ x c, (yO X.env.cells scope.names []).lookup x = some c → X.env.cells.lookup x = some c := fun x c h => Yi hcl (fun c h => by simp at h) h
 have cne : ∀ x c, (yO X.env.cells scope.names []).lookup x = some c → ∃ v, s.heap.IsCell c v := fun x c h => I.cell x c (lk x c h)
 have clt : ∀ x c, (yO X.env.cells scope.names []).lookup x = some c → c < s.heap.objs.size := fun x c h => by
  obtain ⟨v, o, ho, _⟩ := cne x c h
  exact Heap.lt_size ho
 have cases1 : ∀ x c, ((y, s.heap.objs.size + 1) :: yO X.env.cells scope.names []).lookup x = some c → (x = y ∧ c = s.heap.objs.size + 1) ∨ (yO X.env.cells scope.names []).lookup x = some c := fun x c h => by
  rw [Vb] at h
  by_cases e : x = y
  ·rw [if_pos e] at h; exact .inl ⟨e, (Option.some.inj h).symm⟩
  ·rw [if_neg e] at h; exact .inr h
 have injY : ∀ x x' c, ((y, s.heap.objs.size + 1) :: yO X.env.cells scope.names []).lookup x = some c → ((y, s.heap.objs.size + 1) :: yO X.env.cells scope.names []).lookup x' = some c → x = x' := fun x x' c h1 h2 => by
  rcases cases1 x c h1 with ⟨a, b⟩ | a
  ·rcases cases1 x' c h2 with ⟨a', _⟩ | a'
   ·rw [a, a']
   ·have := clt x' c a'
    rw [b] at this
    exact absurd (Nat.lt_trans (Nat.lt_succ_self _) this) (Nat.lt_irrefl _)
  ·rcases cases1 x' c h2 with ⟨_, b⟩ | a'
   ·have := clt x c a
    rw [b] at this
    exact absurd (Nat.lt_trans (Nat.lt_succ_self _) this) (Nat.lt_irrefl _)
   ·exact I.ok.inj x x' c (lk x c a) (lk x' c a')
 have cabY : ∀ x c, (x == y) = true → ((y, s.heap.objs.size + 1) :: yO X.env.cells scope.names []).lookup x = some c → s.heap.objs.size ≤ c := fun x c hx h => by
  rcases cases1 x c h with ⟨_, b⟩ | a
  ·rw [b]; exact Nat.le_succ _
  ·rw [Vb, if_pos (by simpa using hx)] at h
   cases h
   exact Nat.le_succ _
 refine ⟨⟨I.mod, O.kind, I.ok.glob, I.ok.blt, Nat.le_refl _, injY, fun x hx => ?_, cabY, I.ok.hd, I.ok.frames, .inl rfl, fun b hb => ⟨Nat.ne_of_lt (hfl b hb), fun x c h => by
  rcases cases1 x c h with ⟨_, z⟩ | z
  ·rw [z]; exact fun e => absurd (hfl b hb) (by rw [← e]; exact Nat.not_lt.mpr (Nat.le_succ _))
  ·exact (hf b hb).2.2.2.2.1 x c (lk x c z)⟩, I.bs, Nat.le_trans I.ok.bsz I.sz, fun b o e hb => ?_, fun b hb z => ?_, I.stack, I.stkFree⟩,
  rfl, I.bare, Un.kept keep, ⟨m, hns, fun i x v h1 h2 h3 => ?_⟩, fun x c h => ?_, I.hok.fresh (Nat.le_refl _), fun x c h => by
   rcases cases1 x c h with ⟨_, z⟩ | z
   ·rw [z]; exact I.hok.fresh (Nat.le_succ _)
   ·exact I.freeC x c (lk x c z), fun p hp => absurd hp (by simp [ZM]), I.hok.kept keep, ?_⟩
 ·have hx' : x = y ∨ (x, NameKind.free) ∈ scope.names := by
   rcases hx with hx | hx
   ·exact Xg hx (.inl rfl) O.oth
   ·exact Xg hx (.inr rfl) O.oth
  show ∃ c, ((y, s.heap.objs.size + 1) :: yO X.env.cells scope.names []).lookup x = some c
  rw [Vb]
  by_cases e : x = y
  ·exact ⟨_, if_pos e⟩
  ·rw [if_neg e]
   exact Option.isSome_iff_exists.mp (ZV (.inl (hx'.resolve_left e)))
 ·rcases (hf b hb).2.2.2.1 with z | z
  ·exact I.ok.noex b o e z
  ·exact absurd (Nat.lt_of_lt_of_le (Heap.lt_size (I.ok.bs b o e).1) z) (Nat.lt_irrefl _)
 ·rcases List.mem_cons.mp (I.stkSub b z) with q | q
  ·exact (hf b hb).2.1 q
  ·exact (hf b hb).2.2.1 q
 ·by_cases hi : i < n
  ·rw [List.getElem?_append_left (by simpa using hi), List.getElem?_replicate, if_pos hi] at h2
   cases h2
  ·have h1' : (N.drop n)[i - n]? = some x := by rw [List.getElem?_drop, show n + (i - n) = i by omega]; exact h1
   rw [List.getElem?_append_right (by simpa using hi), List.length_replicate] at h2
   unfold frσ at h2
   rw [List.getElem?_map] at h2
   rw [O.names, List.getElem?_map] at h1'
   cases ej : fr[i - n]? with
   | none => rw [ej] at h2; cases h2
   | some j =>
     rw [ej] at h2 h1'
     have hjl : j < X.N.length := of_decide_eq_true (List.all_eq_true.mp O.inx j (List.mem_of_getElem? ej))
     have hx : X.N[j]? = some x := by
      have e := Option.some.inj h1'
      dsimp only at e
      rw [List.getElem?_eq_getElem hjl] at e ⊢
      exact congrArg some e
     have hv : σ[j]? = some (some v) := by
      have e := Option.some.inj h2
      dsimp only at e
      cases es : σ[j]? with
      | none => rw [es] at e; cases e
      | some o => rw [es] at e; rw [show o = some v from e]
     have hfl' : scope.names.lookup x = some .free := by
      refine of_decide_eq_true (List.all_eq_true.mp O.free x ?_)
      exact List.mem_of_getElem? (i := i - n) (by rw [List.getElem?_drop, show n + (i - n) = i by omega]; exact h1)
     have hfx : (x, NameKind.free) ∈ scope.names := PySem.mem_of_lookup hfl'
     have hkX := of_decide_eq_true (List.all_eq_true.mp O.seen _ hfx) rfl
     obtain ⟨mX, hnX, hlX⟩ := I.loc
     obtain ⟨u, ru, lu⟩ := hlX j x v hx hv (hkX.elim (fun z => .inr (.inl z)) fun z => .inr (.inr z))
     refine ⟨u, ru, .inr ⟨?_, ?_⟩⟩
     ·exact WI hfl'
     ·obtain ⟨c, hc⟩ := Option.isSome_iff_exists.mp (ZV (cells := X.env.cells) (acc := []) (.inl hfx))
      refine ⟨c, (by
       show ((y, s.heap.objs.size + 1) :: yO X.env.cells scope.names []).lookup x = some c
       rw [Vb, if_neg (of_decide_eq_true (List.all_eq_true.mp O.yfree _ hfx) rfl)]
       exact hc), ?_⟩
      rcases lu with ⟨k, _⟩ | ⟨_, c', hc', z⟩
      ·rcases hkX with q | q
       ·rw [show X.env.kindOf x = _ from k] at q; cases q
       ·rw [show X.env.kindOf x = _ from k] at q; cases q
      ·have := lk x c hc
       rw [hc'] at this
       cases this
       obtain ⟨o, ho, hd⟩ := z
       exact ⟨o, keep _ _ ho, hd⟩
 ·rcases cases1 x c h with ⟨_, z⟩ | z
  ·rw [z]; exact ⟨_, hcl1⟩
  ·obtain ⟨v, o, ho, hd⟩ := cne x c z
   exact ⟨v, o, keep _ _ ho, hd⟩
 ·rw [List.length_append, List.length_replicate]
  unfold frσ
  have e := congrArg List.length O.names
  rw [List.length_drop, List.length_map] at e
  have := O.own
  show _ = N.length
  rw [List.length_map]
  omega
end
section
variable {X : Cx} {N : List Str} {n : Nat} {fr : List Nat} {scope : Scope} {y : Str}
theorem zeM {tg iter elt : Expr} {ifs : List Expr} {pos : Pos} {g : Blk TG} {tt : Blk TT} {te : Blk TE} {pins : List (Addr × Obj)} {σ : L2.St} {H2 : Hp} {s2 : Shared} {it : Addr} {fp : List Addr} {tn : Nat → Heap → Prop} {J : It} {Q : VK}
 {RR : Value → Addr → Result → Shared → Prop} {E : Value → Shared → Prop}
 (hc : X.calm = true) (O : CompOk1 X N n fr scope y)
 (hg : ∀ C ex s H, PG (ZM X N scope y C ex s H) tg (g C ex s H)) (ht : ∀ C ex s H, PIf (ZM X N scope y C ex s H) ifs (tt C ex s H)) (he : ∀ C ex s H, PE (ZM X N scope y C ex s H) elt (te C ex s H))
 (I2 : Inv X pins σ H2 s2) (T : Turn X.prog X.w X.K tg J fp it tn) (st2 : tn 0 s2.heap) (f2 : ∀ b ∈ fp, zbQ X pins H2 b)
 (hW : ∀ D, H2 D = none → ∀ C ex s0 H0, ∃ W : Nat → Nat → List V → Hp → Prop, (∃ m, W 0 m [] (upd H2 D (.lst []))) ∧ ∀ i m ys H2, W i m ys H2 → H2 D = some (.lst ys) ∧
  ((J.stop i H2 ∧ Q (.ref D) H2) ∨ (J.go i H2 ∧ ∀ x H3, J.yld i H2 x H3 → g C ex s0 H0 x (List.replicate n none ++ frσ σ fr) H3 fun σ4 H4 => σ4.drop n = frσ σ fr ∧ tt C ex s0 H0 σ4 H4 fun b H5 =>
    if b = true then te C ex s0 H0 σ4 H5 fun y H6 => H6 D = some (.lst ys) ∧ ys.length < sizeLine ∧ ∃ m', m' < m ∧ W (i + 1) m' (ys ++ [y]) (upd H6 D (.lst (ys ++ [y])))
    else ∃ m', m' < m ∧ W (i + 1) m' ys H5)))
 (hR : ∀ (D C : Addr) (H' : Hp) (s' : Shared), Q (.ref D) H' → (∃ m, s'.heap.Ns C m) → Side X pins H' C → Inv X pins σ H' s' → RR (.ref D) C (.ok .next) s') :
 wpAny (model X.prog X.w) X.A (newList []) (fun acc s₃ => wpAny (model X.prog X.w) X.A (newFunctionEnv scope X.env.globals (yO X.env.cells scope.names []) [] X.env.qual none .none (some X.env)) (fun cenv s₄ =>
  codeAny (model X.prog X.w) X.A (.compStart (.ListComp elt [⟨tg, iter, ifs, 0⟩] scope pos) 0 (.ref it) acc { cenv with scope := relabel scope X.env }) (RR acc cenv.locals) s₄) E s₃) E s2 := by
 refine wpAny_newObj_type (zcT O.one O.push ?_)
 have hDn : H2 s2.heap.objs.size = none := I2.fresh
 have I3 : Inv X pins σ (upd H2 s2.heap.objs.size (.lst [])) { s2 with heap := s2.heap.push { cls := .type "list", data := .seq ([] : List Value).toArray }, toks := s2.toks } := I2.lnew (its := []) .nil (Nat.zero_le _)
 generalize hD : s2.heap.objs.size = D at *
 dsimp only
 generalize hs3 : s2.heap.push { cls := .type "list", dict := none, data := .seq ([] : List Value).toArray } = hp3 at *
 have k23 : ∀ b o, s2.heap.get? b = some o → hp3.get? b = some o := fun b o e => by rw [← hs3]; exact Heap.get?_push_of_some _ e
 have sz3 : hp3.objs.size = D + 1 := by rw [← hs3, Heap.size_push, hD]
 have hns₁ : ((hp3.push { cls := .type "dict", dict := none, data := .dict #[], slots := #[] }).push { cls := .type "cell", dict := none, data := .cell none, slots := #[] }).Ns hp3.objs.size (fun _ => none) := (Heap.Ns.new hp3 (.type "dict")).keeps fun b o e => Heap.get?_push_of_some _ e
 have hcl₁ : ((hp3.push { cls := .type "dict", dict := none, data := .dict #[], slots := #[] }).push { cls := .type "cell", dict := none, data := .cell none, slots := #[] }).IsCell (hp3.objs.size + 1) none := ⟨_, by
  have := Heap.get?_push_size (hp3.push { cls := .type "dict", dict := none, data := .dict #[], slots := #[] }) (o := { cls := .type "cell", dict := none, data := .cell none, slots := #[] }) rfl
  rw [Heap.size_push] at this
  exact this, rfl⟩
 have keep : ∀ b o, hp3.get? b = some o → ((hp3.push { cls := .type "dict", dict := none, data := .dict #[], slots := #[] }).push { cls := .type "cell", dict := none, data := .cell none, slots := #[] }).get? b = some o := fun b o e => Heap.get?_push_of_some _ (Heap.get?_push_of_some _ e)
 generalize (hp3.push { cls := .type "dict", dict := none, data := .dict #[], slots := #[] }).push { cls := .type "cell", dict := none, data := .cell none, slots := #[] } = h₁ at *
 have flt : ∀ b ∈ fp, b < D := fun b hb => by
  obtain ⟨o, ho, _⟩ := T.obj _ _ st2 b hb
  rw [← hD]
  exact Heap.lt_size ho
 have f3 : ∀ b ∈ fp, zbQ X pins (upd H2 D (.lst [])) b := fun b hb => ⟨by rw [ye (Nat.ne_of_lt (flt b hb))]; exact (f2 b hb).1, (f2 b hb).2⟩
 have IY := zbL (tk := s2.toks) O I3 f3 (fun b hb => by show b < hp3.objs.size; rw [sz3]; exact Nat.lt_succ_of_lt (flt b hb)) hns₁ hcl₁ keep
 obtain ⟨W, ⟨m0, w0⟩, turn⟩ := hW _ hDn hp3.objs.size fp { s2 with heap := hp3, toks := s2.toks } (upd H2 D (.lst []))
 have st4 : tn 0 h₁ := T.keep _ _ _ st2 fun b hb o e => keep b o (k23 b o e)
 generalize hY : ZM X N scope y hp3.objs.size fp { s2 with heap := hp3, toks := s2.toks } (upd H2 D (.lst [])) = Y at *
 have eEnv : Y.env = compEnvC scope ((y, hp3.objs.size + 1) :: yO X.env.cells scope.names []) hp3.objs.size X.env := by rw [← hY]; rfl
 have hgY := hg hp3.objs.size fp { s2 with heap := hp3, toks := s2.toks } (upd H2 D (.lst []))
 have htY := ht hp3.objs.size fp { s2 with heap := hp3, toks := s2.toks } (upd H2 D (.lst []))
 have heY := he hp3.objs.size fp { s2 with heap := hp3, toks := s2.toks } (upd H2 D (.lst []))
 rw [hY] at hgY htY heY
 have eP : Y.prog = X.prog := by rw [← hY]; rfl
 have eW : Y.w = X.w := by rw [← hY]; rfl
 have eK : Y.K = X.K := by rw [← hY]; rfl
 have eA : Y.A = X.A := by rw [← hY]; rfl
 have eC : Y.calm = true := by rw [← hY]; exact hc
 have eX : Y.xe = fun _ _ => False := by rw [← hY]; rfl
 have fY : ∀ {H' : Hp}, (∀ b ∈ fp, H' b = none) → ∀ b ∈ fp, zbQ Y [] H' b := fun {H'} hn b hb => by
  have h1 := IY.ok.exf b (by rw [← hY]; exact hb)
  refine ⟨hn b hb, h1.1, IY.ok.exfs b (by rw [← hY]; exact hb), .inl (by rw [← hY]; exact hb), h1.2, fun p hp => absurd hp (by rw [← hY]; simp [ZM])⟩
 have loop : codeAny (model X.prog X.w) X.A (.compLoop (.ListComp elt [⟨tg, iter, ifs, 0⟩] scope pos) 0 (.ref it) (.ref D) (compEnvC scope ((y, hp3.objs.size + 1) :: yO X.env.cells scope.names []) hp3.objs.size X.env))
  (RR (.ref D) hp3.objs.size) { s2 with heap := h₁, toks := s2.toks } := by
  refine codeAny_loop rfl (fun k s' => ∃ i ys H', Inv Y [] (List.replicate n none ++ frσ σ fr) H' s' ∧ tn i s'.heap ∧ (∀ b ∈ fp, H' b = none) ∧ W i k ys H') (fun k s5 hI => ?_) m0 ⟨0, [], _, IY, st4, fun b hb => (f3 b hb).1, w0⟩
  obtain ⟨i, ys, H5, I5, st5, fr5, w5⟩ := hI
  show wpAny _ X.A ((compTurn (.ListComp elt [⟨tg, iter, ifs, 0⟩] scope pos) 0 (.ref it) (.ref D) _).onRaise (fun x => do noteFrame x _; theTreesLotGoes x)) _ _ s5
  refine wpAny_noted ?_
  rw [compTurn_list, ← eEnv]
  refine wpAny_bind (wpAny_standAt (wpAny_bind ?_))
  obtain ⟨hDl, step⟩ := turn i k ys H5 w5
  rcases step with ⟨stop, qn⟩ | ⟨go, step⟩
  ·have d := T.done Y eP eW eK eC i [] s5 _ H5 (fun _ _ => False) I5 (fY fr5) st5 stop
   rw [eA] at d
   refine yL (thn d fun r s6 ⟨hr, I6⟩ => ?_)
   subst hr
   refine wpAny_pure ?_
   have hC : H5 hp3.objs.size = none := by have := I6.free; rw [eEnv] at this; exact this
   have hns6 : ∃ m, s6.heap.Ns hp3.objs.size m := by
    have := I6.loc
    rw [eEnv] at this
    obtain ⟨m, hm, _⟩ := this
    exact ⟨m, hm⟩
   have sd : Side X pins H5 hp3.objs.size := ⟨hC, Nat.ne_of_gt I3.lt, I3.sz, fun x c e => Nat.ne_of_lt (let ⟨v, o, ho, _⟩ := I3.cell x c e; Heap.lt_size ho), fun p hp => Nat.ne_of_lt (Heap.lt_size (I3.pin p hp).1)⟩
   refine hR D hp3.objs.size H5 s6 qn hns6 sd ?_
   have un := I6.base
   have e0 : Y.s₀.heap = hp3 := by rw [← hY]; rfl
   have eH0 : Y.H₀ = upd H2 D (.lst []) := by rw [← hY]; rfl
   have eF : Y.fs = frs X.stack := by rw [← hY]; rfl
   have eEx : Y.ex = fp := by rw [← hY]; rfl
   rw [e0, eH0, eF, eEx] at un
   have hok' : HOk X.prog X.w H5 s6.heap := by have := I6.hok; rw [eP, eW] at this; exact this
   have os6 : s6.os = s2.os := I6.os.trans (by rw [← hY]; rfl)
   exact I3.call' (s' := s6) (ch := fp) os6 un hok' I6.bare fun b hb => ⟨(f2 b hb).2.2.2.1, (f2 b hb).2.1, (f2 b hb).2.2.2.2.1, (f2 b hb).2.2.2.2.2⟩
  ·have d := T.item Y eP eW eK eC i [] s5 _ H5 (fun _ _ => False) I5 (fY fr5) st5 go
   rw [eA] at d
   refine yL (thn d fun r s6 ⟨u, hr, h6⟩ => ?_)
   subst hr
   refine wpAny_bind (yL (thn h6 fun _ s7 ⟨x, H7, I7, r7, y7, st7, fr7⟩ => ?_))
   have I7' := I7.pinned (fY fr7) (T.obj _ _ st7)
   have g7 := hgY _ s7 _ H7 x u _ I7' r7 (step x H7 y7)
   rw [eA, eP, eW, eX] at g7
   refine wpAny_bind (yL (thn g7 fun _ s8 ⟨σ8, H8, I8, ed, q8⟩ => ?_))
   have t8 := htY _ s8 σ8 H8 _ I8 q8
   rw [eA, eP, eW, eX] at t8
   refine wpAny_bind (yL (thn t8 fun b s9 ⟨H9, I9, q9⟩ => ?_))
   have back : ∀ {s' : Shared} {H' : Hp} {ys' : List V} {m' : Nat}, Inv Y ([] ++ Ur fp s7.heap) σ8 H' s' → m' < k → W (i + 1) m' ys' H' → ∃ m, m < k ∧ ∃ i ys H', Inv Y [] (List.replicate n none ++ frσ σ fr) H' s' ∧ tn i s'.heap ∧ (∀ b ∈ fp, H' b = none) ∧ W i m ys H' := fun {s' H' ys' m'} I' hm w' => by
    refine ⟨m', hm, i + 1, ys', H', ?_, T.keep _ _ _ st7 fun b hb o e => (I'.pin (b, o) (List.mem_append_right _ (List.mem_append_right _ (ZA hb e)))).1, fun b hb => ?_, w'⟩
    ·refine (Inv.unpinned I').weak ?_ fun j v hj => ?_
     ·exact IY.len.trans I'.len.symm
     ·by_cases hjn : j < n
      ·rw [List.getElem?_append_left (by simpa using hjn), List.getElem?_replicate, if_pos hjn] at hj
       cases hj
      ·rw [List.getElem?_append_right (by simpa using hjn), List.length_replicate, ← ed, List.getElem?_drop, show n + (j - n) = j by omega] at hj
       exact hj
    ·obtain ⟨o, e, d⟩ := T.obj _ _ st7 b hb
     exact (I'.pin (b, o) (List.mem_append_right _ (List.mem_append_right _ (ZA hb e)))).2.1
   cases b with
   | false =>
     obtain ⟨m', hm, w9⟩ := q9
     exact wpAny_pure ⟨rfl, back I9 hm w9⟩
   | true =>
     have e9 := heY _ s9 σ8 H9 _ I9 q9
     rw [eA, eP, eW, eX] at e9
     refine wpAny_bind (wpAny_bind (yL (thn e9 fun v s10 ⟨y, H10, I10, r10, hD10, hz, m', hm, w10⟩ => ?_)))
     have a10 := VE _ s10 σ8 H10 (.ref D) [y] (.ref D) [v] (fun _ H' => H' = upd H10 D (.lst (ys ++ [y]))) I10 rfl (.cons r10 .nil) ⟨D, ys, y, rfl, rfl, hD10, hz, rfl⟩
     rw [eA, eP, eW, eX] at a10
     refine wpAny_bind (yL (thn a10 fun _ s11 ⟨_, H11, I11, _, e11⟩ => ?_))
     subst e11
     exact wpAny_pure (wpAny_pure ⟨rfl, back I11 hm w10⟩)
 exact codeAny_compStart_list loop (T.self _ _ _ _ _ st4 loop)
theorem zfz {tg iter elt : Expr} {ifs : List Expr} {pos : Pos} {wi : TI} {g : Blk TG} {tt : Blk TT} {te : Blk TE}
 (hc : X.calm = true) (O : CompOk1 X N n fr scope y) (hi : PI X tg iter wi)
 (hg : ∀ C ex s H, PG (ZM X N scope y C ex s H) tg (g C ex s H)) (ht : ∀ C ex s H, PIf (ZM X N scope y C ex s H) ifs (tt C ex s H)) (he : ∀ C ex s H, PE (ZM X N scope y C ex s H) elt (te C ex s H))
 (hs : ∀ x, foldedSetIterable iter X.env x = pure x := by intro _; rfl) :
 PE X (.ListComp elt [⟨tg, iter, ifs, 0⟩] scope pos) (ze7 n fr wi g tt te) := by
 intro pins s σ H Q I h
 rw [eval_ListComp]
 refine wpAny_comprehension_free (use := none) rfl hs (Yh (O.cells I)) O.kind (fun y hy => of_decide_eq_true (List.all_eq_true.mp O.loc y hy)) (thn (hi pins s σ H _ I h) fun v s1 h1 => thn h1 fun itv s2 h2 => ?_)
 obtain ⟨it, fp, tn, J, H2, e, I2, T, st2, f2, hW⟩ := h2
 subst e
 refine zeM (RR := fun acc C => compPost (model X.prog X.w) X.A X.xe none (EP X pins σ Q) acc C) hc O hg ht he I2 T st2 f2 hW ?_
 intro D C H' s' q ⟨m, hm⟩ sd inv
 exact ⟨m, hm, fun h' hs' => ⟨.ref D, H', inv.turned (t' := s'.toks) (it := C) (fun b o hb e => hs'.extBut b o hb e) sd.nt sd.nl (.inr sd.ab) sd.nc sd.np, rfl, q⟩⟩
end
end S
namespace S
def par (c t : List Int) : Prop := c.map (· * t.sum) = t.map (· * c.sum)
instance (c t : List Int) : Decidable (par c t) := inferInstanceAs (Decidable (_ = _))
open Classical in
noncomputable def yw (a : Rat × List Rat) : List (Rat × List Rat) → List (Rat × List Rat)
 | [] => []
 | [b] => [b]
 | b :: c :: r => if yM a b c then yw b (c :: r) else b :: yw b (c :: r)
open Classical in
noncomputable def ZE (cs : List zm) (i : Nat) : Bool := decide (i = 0 ∨ i + 1 = cs.length ∨ ¬ ∀ (a b c : zm), cs[i - 1]? = some a → cs[i]? = some b → cs[i + 1]? = some c → yM a b c)
open Classical in
theorem ZT {cs : List zm} {i : Nat} (h : i = 0 ∨ i + 1 = cs.length ∨ ¬ ∀ (a b c : zm), cs[i - 1]? = some a → cs[i]? = some b → cs[i + 1]? = some c → yM a b c) : ZE cs i = true := by
 unfold ZE; exact decide_eq_true h
open Classical in
theorem Uv {cs : List zm} {i : Nat} (h : ¬ (i = 0 ∨ i + 1 = cs.length ∨ ¬ ∀ (a b c : zm), cs[i - 1]? = some a → cs[i]? = some b → cs[i + 1]? = some c → yM a b c)) : ZE cs i = false := by
 unfold ZE; exact decide_eq_false h
noncomputable def xc : List zm → List zm
 | [] => []
 | c :: r => c :: yw c r
theorem zcj : ∀ (r pre : List zm) (a : zm), (List.range' (pre.length + 1) r.length).filterMap (fun j => if ZE (pre ++ a :: r) j then (pre ++ a :: r)[j]? else none) = yw a r
 | [], pre, a => by simp [yw]
 | [b], pre, a => by
   have hk : ZE (pre ++ [a, b]) (pre.length + 1) = true := ZT (.inr (.inl (by simp)))
   simp [yw, hk]
 | b :: c :: r, pre, a => by
   have ih := zcj (c :: r) (pre ++ [a]) b
   rw [List.length_append, List.length_singleton, List.append_assoc, List.singleton_append] at ih
   rw [List.length_cons, List.range'_succ, List.filterMap_cons, yw]
   have g0 : (pre ++ a :: b :: c :: r)[pre.length + 1 - 1]? = some a := by
    rw [Nat.add_sub_cancel, List.getElem?_append_right (Nat.le_refl _), Nat.sub_self]; rfl
   have g1 : (pre ++ a :: b :: c :: r)[pre.length + 1]? = some b := by
    rw [List.getElem?_append_right (by omega), show pre.length + 1 - pre.length = 1 by omega]; rfl
   have g2 : (pre ++ a :: b :: c :: r)[pre.length + 1 + 1]? = some c := by
    rw [List.getElem?_append_right (by omega), show pre.length + 1 + 1 - pre.length = 2 by omega]; rfl
   by_cases hs : yM a b c
   ·have hk : ZE (pre ++ a :: b :: c :: r) (pre.length + 1) = false := by
     refine Uv ?_
     rintro (q | q | q)
     ·omega
     ·simp at q; omega
     ·refine q fun x y z hx hy hz => ?_
      rw [g0] at hx; rw [g1] at hy; rw [g2] at hz
      cases hx; cases hy; cases hz
      exact hs
    rw [hk, if_pos hs]
    simpa using ih
   ·have hk : ZE (pre ++ a :: b :: c :: r) (pre.length + 1) = true := ZT (.inr (.inr fun q => hs (q a b c g0 g1 g2)))
    rw [hk, if_neg hs, if_pos rfl, g1]
    dsimp only
    rw [ih]
theorem zcX {β : Type} (cs : List zm) (g : zm → β) : (List.range cs.length).filterMap (fun j => if ZE cs j then (cs[j]?).map g else none) = (xc cs).map g := by
 have e : (List.range cs.length).filterMap (fun j => if ZE cs j then (cs[j]?).map g else none) = ((List.range cs.length).filterMap (fun j => if ZE cs j then cs[j]? else none)).map g := by
  rw [List.map_filterMap]
  congr 1
  funext j
  split <;> rfl
 rw [e]
 congr 1
 cases cs with
 | nil => rfl
 | cons c r =>
   rw [List.length_cons, List.range_eq_range', List.range'_succ, List.filterMap_cons]
   have hk : ZE (c :: r) 0 = true := ZT (.inl rfl)
   rw [hk, if_pos rfl]
   have := zcj r [] c
   simp only [List.length_nil, List.nil_append, Nat.zero_add] at this
   simp only [List.getElem?_cons_zero, Nat.zero_add]
   rw [this, xc]
end S
namespace S
open PySem PySem.Spec PyProof.Rows L2
section
variable {α : Type} {enc : α → List PyData} {dom : α → Prop} {res : α → V} {B G0 H : Hp} {cs : yR} {ds : Dat} {Q : VK} {E : XK} {vs : List V} {v w : V}
def spP (enc : α → List PyData) (dom : α → Prop) (res : α → V) : Sp := fun vs H Q _ => ∃ (a : α), zM H (enc a) vs ∧ dom a ∧ Q (res a) H
theorem rd_spP (a : α) (S : Sta B G0 H cs ds) (hx : yy ds (enc a) vs) (hd : dom a) (k : Q (res a) H) : spP enc dom res vs H Q E := ⟨a, S.hpAll hx, hd, k⟩
theorem SzQ.of_div {n : Nat} {q : Rat} {a b : Int} (e : q = Rat.divInt a b) (ha : Sz n a) (hb : Sz n b) (h0 : b ≠ 0) : SzQ n q := by rw [e]; exact SzQ.divInt ha hb h0
theorem xo (p q : Rat) : (p.den : Int) * (q.den : Int) ≠ 0 := Int.ne_of_gt (Int.mul_pos (den_pos p) (den_pos q))
theorem zeY (p q : Rat) : Rat.divInt (p.num * (q.den : Int) + q.num * (p.den : Int)) ((p.den : Int) * (q.den : Int)) = p + q := by
 rw [Rat.add_def', ← Int.natCast_mul, Rat.divInt_ofNat]
theorem zdo (p q : Rat) : Rat.divInt (p.num * (q.den : Int) - q.num * (p.den : Int)) ((p.den : Int) * (q.den : Int)) = p - q := by
 rw [Rat.sub_def', ← Int.natCast_mul, Rat.divInt_ofNat]
theorem zem (p q : Rat) : Rat.divInt (p.num * q.num) ((p.den : Int) * (q.den : Int)) = p * q := by
 rw [Rat.mul_def', ← Int.natCast_mul, Rat.divInt_ofNat]
theorem zgu {q : Rat} (h : q ≠ 0) : q.num ≠ 0 := fun z => h (Rat.num_eq_zero.mp z)
theorem zeF (p q : Rat) (h : q ≠ 0) : Rat.divInt (p.num * (q.den : Int)) ((p.den : Int) * q.num) = p / q := by
 rw [← Rat.divInt_mul_divInt, Rat.num_divInt_den, Rat.div_def, Rat.inv_def]
section
variable {m n : Nat} {p q : Rat}
theorem SzQ.add (hp : SzQ m p) (hq : SzQ n q) : SzQ (m + n + 1) (p + q) :=
 SzQ.of_div (zeY p q).symm (((hp.1.mul hq.2).add ((hq.1.mul hp.2).mono (Nat.le_of_eq (Nat.add_comm n m))))) ((hp.2.mul hq.2).mono (Nat.le_succ _)) (xo p q)
theorem SzQ.sub (hp : SzQ m p) (hq : SzQ n q) : SzQ (m + n + 1) (p - q) :=
 SzQ.of_div (zdo p q).symm (((hp.1.mul hq.2).sub ((hq.1.mul hp.2).mono (Nat.le_of_eq (Nat.add_comm n m))))) ((hp.2.mul hq.2).mono (Nat.le_succ _)) (xo p q)
theorem SzQ.mul (hp : SzQ m p) (hq : SzQ n q) : SzQ (m + n) (p * q) :=
 SzQ.of_div (zem p q).symm (hp.1.mul hq.1) (hp.2.mul hq.2) (xo p q)
theorem SzQ.div (hp : SzQ m p) (hq : SzQ n q) : SzQ (m + n) (p / q) := by
 by_cases h : q = 0
 ·subst h
  rw [Rat.div_def, Rat.inv_zero, Rat.mul_zero]
  have hm : 1 ≤ m := by
   cases m with
   | zero =>
     have h1 : (p.den : Int).natAbs < 2 ^ 0 := hp.2
     have h2 := den_pos p
     simp at h1
     omega
   | succ m => omega
  exact ⟨zbT (n := m + n) (by omega) (show (-2 : Int) < 0 by decide) (show (0 : Int) < 2 by decide), zbT (n := m + n) (by omega) (show (-2 : Int) < 1 by decide) (show (1 : Int) < 2 by decide)⟩
 ·exact SzQ.of_div (zeF p q h).symm (hp.1.mul hq.2) (hp.2.mul hq.1) (Int.mul_ne_zero (Int.ne_of_gt (den_pos p)) (zgu h))
end
def YH : Sp := spT (α := Int × Int) (fun a => [.int a.1, .int a.2]) (fun a => a.2 ≠ 0 ∧ Sz 8999 a.2) (fun a => frD (Rat.divInt a.1 a.2))
theorem XL {i j : Int} (S : Sta B G0 H cs ds) (h0 : j ≠ 0) (hz : Sz 8999 j) (k : ∀ r H', yc H H' → Sta B G0 H' cs ((frD (Rat.divInt i j), r) :: ds) → Q r H') : YH [.int i, .int j] H Q E :=
 ZQ (i, j) S (.cons Has.int (.cons Has.int .nil)) ⟨h0, hz⟩ k
def spQ2 (dom : Rat → Rat → Prop) (g : Rat → Rat → Rat) : Sp := spT (α := Rat × Rat) (fun a => [frD a.1, frD a.2]) (fun a => (∃ m n, SzQ m a.1 ∧ SzQ n a.2 ∧ m + n ≤ 8999) ∧ dom a.1 a.2) (fun a => frD (g a.1 a.2))
theorem zaP {dm : Rat → Rat → Prop} {g : Rat → Rat → Rat} {p q : Rat} {m n : Nat} (S : Sta B G0 H cs ds) (h1 : Has ds (frD p) v) (h2 : Has ds (frD q) w) (s1 : SzQ m p) (s2 : SzQ n q) (hmn : m + n ≤ 8999) (hd : dm p q)
 (k : ∀ r H', yc H H' → Sta B G0 H' cs ((frD (g p q), r) :: ds) → Q r H') : spQ2 dm g [v, w] H Q E :=
 ZQ (p, q) S (.cons h1 (.cons h2 .nil)) ⟨⟨m, n, s1, s2, hmn⟩, hd⟩ k
abbrev domT : Rat → Rat → Prop := fun _ _ => True
abbrev zb0 : Sp := spQ2 domT fun p q => p + q
abbrev Wo : Sp := spQ2 domT fun p q => p - q
abbrev zbl : Sp := spQ2 domT fun p q => p * q
abbrev zgl : Sp := spQ2 (fun _ q => q ≠ 0) fun p q => p / q
def UL : Sp := spP (α := Rat × Rat) (fun a => [frD a.1, frD a.2]) (fun a => ∃ m n, SzQ m a.1 ∧ SzQ n a.2 ∧ m + n ≤ 100000000) (fun a => .bl (decide (a.1 < a.2)))
theorem zaS {p q : Rat} {m n : Nat} (S : Sta B G0 H cs ds) (h1 : Has ds (frD p) v) (h2 : Has ds (frD q) w) (s1 : SzQ m p) (s2 : SzQ n q) (hmn : m + n ≤ 100000000) (k : Q (.bl (decide (p < q))) H) : UL [v, w] H Q E :=
 rd_spP (p, q) S (.cons h1 (.cons h2 .nil)) ⟨m, n, s1, s2, hmn⟩ k
def VP (ns : List Int) (k : Int) : Int := if k < (ns.length : Int) then ns.getD k.toNat 0 else 0
def zb1 (K : PySem.W.Frag) : Sp := fun vs H Q _ => ∃ (a : Addr) (ns : List Int) (k : Int), vs = [.ref a, .int k] ∧ SqL K H a (ns.map V.int) ∧ 0 ≤ k ∧ Q (.int (VP ns k)) H
theorem zht {K : PySem.W.Frag} {a : Addr} {ns : List Int} {k : Int} (hS : SqL K H a (ns.map V.int)) (h0 : 0 ≤ k) (h : Q (.int (VP ns k)) H) : zb1 K [.ref a, .int k] H Q E := ⟨a, ns, k, rfl, hS, h0, h⟩
def zay : Sp := fun vs H Q _ => ∃ a b : Int, vs = [.int a, .int b] ∧ 0 ≤ b ∧ Q (.int (Int.gcd a b : Nat)) H
theorem zhq {a b : Int} (h0 : 0 ≤ b) (h : Q (.int (Int.gcd a b : Nat)) H) : zay [.int a, .int b] H Q E := ⟨a, b, rfl, h0, h⟩
def UH : Sp := spT (α := Int × Int) (fun a => [.int a.1, .int a.2]) (fun a => 0 < a.2 ∧ Sz 8999 a.2) (fun a => frD (Rat.divInt a.1 a.2))
theorem XM {i j : Int} (S : Sta B G0 H cs ds) (h0 : 0 < j) (hz : Sz 8999 j) (k : ∀ r H', yc H H' → Sta B G0 H' cs ((frD (Rat.divInt i j), r) :: ds) → Q r H') : UH [.int i, .int j] H Q E :=
 ZQ (i, j) S (.cons Has.int (.cons Has.int .nil)) ⟨h0, hz⟩ k
def mixV (c p : Int) : Int := (((c % 2147483629 * 16807 + 69621 * p + 11) % 2147483629) * ((c % 2147483629 * 16807 + 69621 * p + 11) % 2147483629) + 48271 * p + 7) % 2147483629 * 69621 % 2147483587
def zgN : Sp := fun vs H Q _ => ∃ c p : Int, vs = [.int c, .int p] ∧ Q (.int (mixV c p)) H
theorem rd_mix {c p : Int} (h : Q (.int (mixV c p)) H) : zgN [.int c, .int p] H Q E := ⟨c, p, rfl, h⟩
def ZX (r : List Int) : PyData := .list (r.map PyData.int)
theorem Sta.put_call {G G' H' : Hp} {p : Addr} {us : List V} {xs : List PyData} (S : zia B G0 H cs ds G) (gr : Grow G H G' H') (hp : H p = none) (hg : G' p = none) (hu : H' p = some (.lst us)) (hv : zM G' xs us) : Sta B G0 H' ((p, xs) :: cs) ds := by
 have hc := S.2.2.1.free hp
 obtain ⟨_, _, _, _, e0, _, _⟩ := id S
 obtain ⟨a', b', c', d', e', f', g'⟩ := S.grow gr
 refine ⟨G', a', b', c', d', fun q hq => ?_, ?_, g'⟩
 ·rcases List.mem_cons.mp hq with rfl | hq
  ·exact ⟨hc, hg, us, hu, hv⟩
  ·exact e' q hq
 ·rw [List.map_cons, List.nodup_cons]
  refine ⟨fun z => ?_, f'⟩
  obtain ⟨q, hq, hqp⟩ := List.mem_map.mp z
  obtain ⟨_, _, ws, z, _⟩ := e0 q hq
  rw [hqp, hp] at z; cases z
theorem zgW {σ : L2.St} {R : Bool → Hp → Prop} (h : R true H) : tTrue σ H R := h
def ZB (m : Nat) : List Int := List.replicate m 0
theorem Xs (m : Nat) : (ZB m).length = m := List.length_replicate
theorem Uy {β : Type} [DecidableEq β] {f : β → PyData} (hf : ∀ a b, PyData.eqv (f a) (f b) = decide (a = b)) : ∀ xs ys : List β, PyData.eqvAll (xs.map f) (ys.map f) = decide (xs = ys)
 | [], [] => by rw [List.map_nil, PyData.eqvAll]; rfl
 | [], _ :: _ => by rw [List.map_nil, List.map_cons, PyData.eqvAll, decide_eq_false (by simp)]
 | _ :: _, [] => by rw [List.map_nil, List.map_cons, PyData.eqvAll, decide_eq_false (by simp)]
 | x :: xs, y :: ys => by
   rw [List.map_cons, List.map_cons, PyData.eqvAll, hf, Uy hf xs ys, ← Bool.decide_and]
   exact Wa (by simp)
theorem zh2 (a b : Int) : PyData.eqv (.int a) (.int b) = decide (a = b) := by rw [PyData.eqv]; rfl
theorem zh1 (a b : List Int) : PyData.eqv (ZX a) (ZX b) = decide (a = b) := by unfold ZX; rw [PyData.eqv]; exact Uy zh2 a b
theorem zhS (a : Int) : (PyData.int a).canLay0 = true := by rw [PyData.canLay0]
theorem zh4 (a : Int) : (PyData.int a).depth ≤ 1 := by rw [PyData.depth]; exact Nat.zero_le _
theorem zhR (a : List Int) : (ZX a).canLay0 = true := by unfold ZX; rw [PyData.canLay0]; exact zes zhS a
theorem zh3 (a : List Int) : (ZX a).depth ≤ 2 := by unfold ZX; rw [PyData.depth]; exact Nat.succ_le_succ (zeG zh4 a)
theorem zdy {d : PyData} {n : Nat} (h : d.canLay0 = true) (g : d.depth ≤ n) (l : n ≤ 64) : SeqAt.shaped d = true := by
 unfold SeqAt.shaped
 rw [h, decide_eq_true (Nat.le_trans g l)]; rfl
theorem Ug (a : List Int) : SeqAt.shaped (ZX a) = true := zdy (zhR a) (zh3 a) (by decide)
def tyD : PyData → String
 | .none => "NoneType"
 | .bool _ => "bool"
 | .int _ => "int"
 | .str _ => "str"
 | .list _ => "list"
 | .tuple _ => "tuple"
 | .dict _ => "dict"
def noIns : PyData → Bool
 | .dict _ => false
 | _ => true
theorem Is.ty {K : PySem.W.Frag} {d : PyData} (h : Is H d v) (nd : noIns d = true) : TyOf K H v (.type (tyD d)) := by
 cases d with
 | none => rw [Is] at h; subst h; exact .non
 | bool b => rw [Is] at h; subst h; exact .bl b
 | int b => rw [Is] at h; subst h; exact .int b
 | str b => rw [Is] at h; subst h; exact .str b
 | list xs => rw [Is] at h; obtain ⟨p, vs, rfl, e, _⟩ := h; exact .lst e
 | tuple xs => rw [Is] at h; obtain ⟨p, vs, rfl, e, _⟩ := h; exact .tup e
 | dict _ => cases nd
theorem zgo {K : PySem.W.Frag} {d : PyData} {T : String} {b : Bool} (h : Is H d v) (e : PySem.W.kitOne K (.type (tyD d)) (.type T) = some b) (k : Q (.bl b) H) (nd : noIns d = true) : rIsi K [v, .ty T] H Q := ⟨v, T, _, b, rfl, h.ty nd, e, k⟩
section
variable {K : PySem.W.Frag}
theorem zgy : PySem.W.kitOne K (.type "tuple") (.type "tuple") = some true := by rfl
theorem zgA : PySem.W.kitOne K (.type "int") (.type "bool") = some false := by rfl
theorem zgz : PySem.W.kitOne K (.type "int") (.type "int") = some true := by rfl
end
theorem yu {α β : Type} {f : α → β} {l : List α} {i : Nat} {x : β} (h : (l.map f)[i]? = some x) : ∃ n, l[i]? = some n ∧ x = f n := by
 rw [List.getElem?_map] at h
 cases e : l[i]? with
 | none => rw [e] at h; cases h
 | some n => rw [e] at h; exact ⟨n, rfl, (Option.some.inj h).symm⟩
theorem zO {α β : Type} (g : α → β) (d : α) : ∀ l : List α, (List.range l.length).map (fun i => g (l.getD i d)) = l.map g := by
 intro l
 apply List.ext_getElem?
 intro i
 rw [List.getElem?_map, List.getElem?_map]
 by_cases h : i < l.length
 ·rw [List.getElem?_range h, List.getElem?_eq_getElem h]
  simp [h]
 ·rw [List.getElem?_eq_none (by simpa using Nat.le_of_not_lt h), List.getElem?_eq_none (by omega)]; rfl
theorem yp {α : Type} {l : List α} {i : Nat} {n d : α} (h : l[i]? = some n) : l.getD i d = n := by rw [List.getD_eq_getElem?_getD, h]; rfl
theorem Sta.int1 {n : Int} (S : Sta B G0 H cs ((.int n, v) :: ds)) : v = .int n := S.top.int_of
theorem zcv {α : Type} {xs : List α} {x : α} (h : xs.getLast? = some x) : atI xs (-1) = some x := by
 obtain ⟨ys, rfl⟩ : ∃ ys, xs = ys ++ [x] := by
  have hne : xs ≠ [] := by intro e; subst e; simp at h
  refine ⟨xs.dropLast, ?_⟩
  rw [List.getLast?_eq_some_getLast hne] at h
  rw [← Option.some.inj h, List.dropLast_concat_getLast]
 exact zf9 ys x
theorem Dats.nil : ∀ p ∈ ([] : Dat), Has ds p.1 p.2 := fun p hp => absurd hp List.not_mem_nil
theorem Dats.cons {x : PyData} {r : Dat} (h : Has ds x v) (g : ∀ p ∈ r, Has ds p.1 p.2) : ∀ p ∈ (x, v) :: r, Has ds p.1 p.2 := fun p hp => by
 rcases List.mem_cons.mp hp with rfl | hp
 ·exact h
 ·exact g p hp
theorem ze9 (c : Int) : ∀ l : List Int, (l.map (c * ·)).sum = c * l.sum
 | [] => by simp
 | x :: l => by rw [List.map_cons, List.sum_cons, List.sum_cons, ze9 c l]; grind
def zie (p q : Rat) : PyData := .tuple [.int (q.num * (p.den : Int) - p.num * (q.den : Int)), .int ((p.den : Int) * (q.den : Int))]
def zgO : Sp := spT (α := Rat × Rat) (fun a => [frD a.1, frD a.2]) (fun a => SzQ 2000 a.1 ∧ SzQ 2000 a.2) (fun a => zie a.1 a.2)
theorem rd_gap {p q : Rat} (S : Sta B G0 H cs ds) (h1 : Has ds (frD p) v) (h2 : Has ds (frD q) w) (s1 : SzQ 2000 p) (s2 : SzQ 2000 q) (k : ∀ r H', yc H H' → Sta B G0 H' cs ((zie p q, r) :: ds) → Q r H') : zgO [v, w] H Q E :=
 ZQ (p, q) S (.cons h1 (.cons h2 .nil)) ⟨s1, s2⟩ k
def SzC (n : Nat) (c : zm) : Prop := SzQ n c.1 ∧ ∀ q ∈ c.2, SzQ n q
theorem zcn {p q : Rat} (hp : SzQ 2000 p) (hq : SzQ 2000 q) : Sz 4001 (q.num * (p.den : Int) - p.num * (q.den : Int)) ∧ Sz 4001 ((p.den : Int) * (q.den : Int)) :=
 ⟨(hq.1.mul hp.2).sub (hp.1.mul hq.2), (hp.2.mul hq.2).mono (by decide)⟩
open Classical in
noncomputable def zgM : Sp := spB (α := zm × zm × zm) (fun a => [zW a.1, zW a.2.1, zW a.2.2]) (fun a => SzC 2000 a.1 ∧ SzC 2000 a.2.1 ∧ SzC 2000 a.2.2 ∧ a.2.1.2.length = a.1.2.length ∧ a.2.2.2.length = a.1.2.length ∧ a.1.2.length ≤ 1000) (fun a => .bl (decide (yM a.1 a.2.1 a.2.2)))
open Classical in
theorem rd_str {a b c : zm} {u : V} (S : Sta B G0 H cs ds) (h1 : Has ds (zW a) v) (h2 : Has ds (zW b) w) (h3 : Has ds (zW c) u) (sa : SzC 2000 a) (sb : SzC 2000 b) (sc : SzC 2000 c) (l1 : b.2.length = a.2.length) (l2 : c.2.length = a.2.length) (l3 : a.2.length ≤ 1000)
 (k : ∀ H', Sta B G0 H' cs ds → Q (.bl (decide (yM a b c))) H') : zgM [v, w, u] H Q E :=
 Vu (a, b, c) (S.hpAll (.cons h1 (.cons h2 (.cons h3 .nil)))) ⟨sa, sb, sc, l1, l2, l3⟩ fun H' e => k H' (S.same e)
structure PathOk (m : Nat) (cs : List zm) : Prop where
 sz : ∀ c ∈ cs, SzC 2000 c
 len : ∀ c ∈ cs, c.2.length = m
 m : m ≤ 1000
 few : cs.length ≤ 900
noncomputable def Vh : Sp := spL (α := List zm) (fun a => [Xc a]) (fun a => ∃ m, PathOk m a) (fun a => (xc a).map zW)
theorem zcG {a : List zm} {m : Nat} (S : Sta B G0 H cs ds) (h : Has ds (Xc a) v) (ok : PathOk m a) (k : ∀ p H', yc H H' → Sta B G0 H' ((p, (xc a).map zW) :: cs) ds → Q (.ref p) H') : Vh [v] H Q E :=
 Xh a S (.cons h .nil) ⟨m, ok⟩ k
def kPart (R : Option Int → Hp → Prop) : VK := fun x H1 => ∃ i, x = .int i ∧ R (some i) H1
section
variable {σ : L2.St} {R : Option Int → Hp → Prop} {K : PySem.W.Frag}
theorem rd_sl {r : V → Option Int → Option Int → Hp → VK → Prop} {te : TE} {tl th : TO} (h : te σ H fun x H1 => tl σ H1 fun l H2 => th σ H2 fun u H3 => r x l u H3 Q) : tSl r te tl th σ H Q := h
theorem zdK (h : R none H) : zdl σ H R := h
theorem zg1 {t : TE} (h : t σ H (kPart R)) : tPart t σ H R := h
theorem zfp {i : Int} (h : R (some i) H) : kPart R (.int i) H := ⟨i, rfl, h⟩
def zig (ns : List Int) (lo hi : Option Int) : List Int := (ns.drop (HT.sIx ns.length 0 lo)).take (HT.sIx ns.length ns.length hi - HT.sIx ns.length 0 lo)
theorem Zt {G : Hp} : ∀ ns : List Int, zM G (ns.map PyData.int) (ns.map V.int)
 | [] => by rw [List.map_nil, List.map_nil, zM]
 | n :: ns => by rw [List.map_cons, List.map_cons, zM]; exact ⟨_, _, rfl, by rw [Is], Zt ns⟩
theorem rd_slS {a : Addr} {ns : List Int} {lo hi : Option Int} (S : Sta B G0 H cs ds) (hS : SqL K H a (ns.map V.int)) (k : ∀ l H', yc H H' → Sta B G0 H' ((l, (zig ns lo hi).map PyData.int) :: cs) ds → Q (.ref l) H') : rSlL K (.ref a) lo hi H Q := by
 refine ⟨a, _, rfl, hS, fun l hl => k l _ (yc.new hl _) ?_⟩
 have e : zh5 (ns.map V.int) lo hi = (zig ns lo hi).map V.int := by
  unfold zh5 zig
  rw [List.length_map, ← List.map_drop, ← List.map_take]
 rw [e]
 exact S.newL hl fun G _ => Zt _
end
end
end S
namespace S
open PySem PySem.Spec PyProof.Rows L2
inductive Rl where
 | shares | evenly | losses | halves
 | other (r : Rl) | ranks (r : Rl) | groups (a b : Rl) | upto (t b : Int) (x y : Rl)
def itS (i : Int) : Str := Str.ofString (toString i)
def Rl.shape : Rl → PyData
 | .shares => .tuple [.str "shares"]
 | .evenly => .tuple [.str "evenly"]
 | .losses => .tuple [.str "losses"]
 | .halves => .tuple [.str "halves"]
 | .other r => .tuple [.str "other", r.shape]
 | .ranks r => .tuple [.str "ranks", r.shape]
 | .groups a b => .tuple [.str "groups", a.shape, b.shape]
 | .upto t b x y => .tuple [.str "upto", .tuple [.int t, .int b], x.shape, y.shape]
def Rl.text : Rl → Str
 | .shares => "shares"
 | .evenly => "evenly"
 | .losses => "losses"
 | .halves => "halves"
 | .other r => ("other(" : Str) ++ r.text ++ (")" : Str)
 | .ranks r => ("ranks(" : Str) ++ r.text ++ (")" : Str)
 | .groups a b => ("groups(" : Str) ++ a.text ++ (", " : Str) ++ b.text ++ (")" : Str)
 | .upto t b x y => ("upto(" : Str) ++ itS t ++ ("/" : Str) ++ itS b ++ (", " : Str) ++ x.text ++ (", " : Str) ++ y.text ++ (")" : Str)
def Rl.size : Rl → Nat
 | .other r => r.size + 1
 | .ranks r => r.size + 1
 | .groups a b => a.size + b.size + 1
 | .upto _ _ x y => x.size + y.size + 1
 | _ => 1
def Rl.deep : Rl → Nat
 | .other r => r.deep + 1
 | .ranks r => r.deep + 1
 | .groups a b => max a.deep b.deep + 1
 | .upto _ _ x y => max x.deep y.deep + 1
 | _ => 1
def Uz (t b : Int) : Prop := (Sz 210 t ∧ Sz 210 b) ∧ 0 < t ∧ t < b ∧ Int.gcd t b = 1
structure RAd where
 (sh ev lo ha ot ra gr up : Addr)
def RAd.cls (A : RAd) : Rl → Addr
 | .shares => A.sh
 | .evenly => A.ev
 | .losses => A.lo
 | .halves => A.ha
 | .other _ => A.ot
 | .ranks _ => A.ra
 | .groups _ _ => A.gr
 | .upto _ _ _ _ => A.up
def zeZ (C : Addr) (form : PyData) : PyData := .dict [(.int ((C : Nat) : Int), form)]
def Rl.ins (A : RAd) (r : Rl) : PyData := zeZ (A.cls r) r.shape
structure ROk (K : PySem.W.Frag) (fS fT Ru C : Addr) : Prop where
 cl : Cls K C
 na : WN K C "form"
 ms : Meth K C "shape" fS
 mt : Meth K C "text" fT
 ha : PySem.W.findIn K (.ref C) "__class__" = some (some (.builtin "object.__class__"))
 hn : PySem.W.specialIn K (.builtin "object.__class__") "__get__" = some (some (.builtin "getset_descriptor.__get__"))
 htk : PySem.W.takesIn K (.builtin "object.__class__") = some true
 hm : PySem.W.mroIn K C (.type "object") = some true
 kit : PySem.W.kitOne K (.ref C) (.ref Ru) = some true
section
variable {B G0 H : Hp} {cs : yR} {ds : Dat} {Q : VK} {E : XK} {v w u : V} {K : PySem.W.Frag} {α : Type} {C : Addr} {x : PyData} {vs : List V}
theorem is_ins {G : Hp} (h : Is G (zeZ C x) v) : ∃ p dx w, v = .ref p ∧ G p = some (.ins C dx [("form", w)]) ∧ Is G x w := by
 unfold zeZ at h
 rw [Is, ze1] at h
 obtain ⟨p, C', dx, w, e, h1, h2, h3⟩ := h
 have : C = C' := Int.ofNat.inj (PyData.int.inj e)
 subst this
 exact ⟨p, dx, w, h1, h2, h3⟩
theorem Sta.ins (S : Sta B G0 H cs ds) (h : Has ds (zeZ C x) v) : ∃ p dx w, v = .ref p ∧ H p = some (.ins C dx [("form", w)]) ∧ Sta B G0 H cs ((x, w) :: ds) := by
 obtain ⟨G, a, b, c, d, e, f, g⟩ := S
 obtain ⟨p, dx, w, h1, h2, h3⟩ := is_ins (h G g)
 exact ⟨p, dx, w, h1, b _ _ h2, G, a, b, c, d, e, f, g.cons h3⟩
def kFld (K : PySem.W.Frag) (f : Str) (Q : VK) : VK := fun x H1 => ∃ a C dx fs v, x = .ref a ∧ H1 a = some (.ins C dx fs) ∧ Cls K C ∧ WN K C f ∧ fs.lookup f = some v ∧ Q v H1
theorem zgp {ta : TE} {f : Str} {σ : L2.St} (h : ta σ H (kFld K f Q)) : tFld K ta f σ H Q := h
theorem zdO {fS fT Ru : Addr} (S : Sta B G0 H cs ds) (h : Has ds (zeZ C x) v) (ok : ROk K fS fT Ru C) (k : ∀ w, Sta B G0 H cs ((x, w) :: ds) → Q w H) : kFld K "form" Q v H := by
 obtain ⟨p, dx, w, rfl, hp, S'⟩ := S.ins h
 exact ⟨p, C, dx, _, w, rfl, hp, ok.cl, ok.na, rfl, k w S'⟩
def kMA (K : PySem.W.Frag) (m : Str) (f : Addr) (sp : Sp) (E : XK) (Q : VK) : VK := fun x H1 => ∃ a C dx fs, x = .ref a ∧ H1 a = some (.ins C dx fs) ∧ Cls K C ∧ Meth K C m f ∧ fs.lookup m = none ∧ sp [x] H1 Q E
theorem zfn {m : Str} {f : Addr} {sp : Sp} {ta : TE} {σ : L2.St} (h : ta σ H (kMA K m f sp E Q)) : zgh K m f sp E ta σ H Q := h
theorem zdM {fS fT Ru : Addr} {sp : Sp} (S : Sta B G0 H cs ds) (h : Has ds (zeZ C x) v) (ok : ROk K fS fT Ru C) (k : sp [v] H Q E) : kMA K "shape" fS sp E Q v H := by
 obtain ⟨p, dx, w, rfl, hp, S'⟩ := S.ins h
 exact ⟨p, C, dx, _, rfl, hp, ok.cl, ok.ms, rfl, k⟩
theorem rd_isC {fS fT Ru : Addr} (S : Sta B G0 H cs ds) (h : Has ds (zeZ C x) v) (ok : ROk K fS fT Ru C) (k : Q (.bl true) H) : rIsC K [v, .ref Ru] H Q := by
 obtain ⟨p, dx, w, rfl, hp, S'⟩ := S.ins h
 exact ⟨_, Ru, _, true, rfl, .ins hp ok.cl ok.ha ok.hn ok.htk ok.hm, ok.kit, k⟩
def xF (C : Addr) (enc : α → List PyData) (form : α → PyData) : Sp := fun vs H Q _ => ∃ (G : Hp) (a : α) (x dx : Addr) (us : List V), vs = .ref x :: us ∧ yc G H ∧ G x = none ∧ H x = some (.ins C dx []) ∧ zM G (enc a) us ∧
 ∀ H' G' w, (∀ p o, p ≠ x → H p = some o → H' p = some o) → yc G G' → yc G' H' → (∀ p, H p ≠ none → G' p = G p) → H' x = some (.ins C dx [("form", w)]) → Is G' (form a) w → Q .non H'
def kMake (C : Addr) (sp : Sp) (E : XK) (Q : VK) (vs : List V) (H1 : Hp) : Prop := ∀ x dx, H1 x = none → H1 dx = none → dx ≠ x → sp (.ref x :: (vs ++ [])) (upd (upd H1 dx (.own x)) x (.ins C dx [])) (fun v H2 => v = .non ∧ Q (.ref x) H2) E
theorem zg9 {sp : Sp} {t : TA} {σ : L2.St} (h : t σ H (kMake C sp E Q)) : zgK C sp [] E t σ H Q := h
theorem YT {enc : α → List PyData} {form : α → PyData} (a : α) (S : Sta B G0 H cs ds) (hx : yy ds (enc a) vs) (k : ∀ x H', yc H H' → Sta B G0 H' cs ((zeZ C (form a), .ref x) :: ds) → Q (.ref x) H') : kMake C (xF C enc form) E Q vs H := by
 intro x dx hx0 hd0 hne
 obtain ⟨G, s1, s2, s3, s4, s5, s6, s7⟩ := S
 have gx : G x = none := s2.free hx0
 have gd : G dx = none := s2.free hd0
 have old : ∀ p o, H p = some o → upd (upd H dx (.own x)) x (.ins C dx []) p = some o := fun p o hp => by
  rw [ye (yf hp hx0), ye (yf hp hd0)]; exact hp
 refine ⟨G, a, x, dx, vs, by rw [List.append_nil], fun p o hp => old p o (s2 p o hp), gx, yH, hx G s7, fun H' G' w h1 h2 h3 h4 h5 h6 => ⟨rfl, ?_⟩⟩
 have keep : ∀ p o, H p = some o → H' p = some o := fun p o hp => h1 p o (yf hp hx0) (old p o hp)
 have gx' : G' x = none := by rw [h4 x (by rw [yH]; simp)]; exact gx
 have eG := yc.new gx' (.ins C dx [("form", w)])
 refine k x H' keep ⟨upd G' x (.ins C dx [("form", w)]), (s1.trans h2).trans eG, fun p o hp => ?_, fun p o hp => keep p o (s3 p o hp), fun p hp => ?_, fun c hc => ?_, s6, (s7.mono (h2.trans eG)).cons ?_⟩
 ·by_cases hpx : p = x
  ·subst hpx; rw [yH] at hp; rw [← hp]; exact h5
  ·rw [ye hpx] at hp; exact h3 p o hp
 ·cases hb : B p with
  | none => exact absurd hb hp
  | some o =>
    have hH := s3 p o hb
    rw [ye (yf hH hx0), h4 p (by rw [old p o hH]; simp), s4 p hp]
 ·obtain ⟨z1, z2, us, z3, z4⟩ := s5 c hc
  have hcx := yf z3 hx0
  exact ⟨z1, by rw [ye hcx, h4 c.1 (by rw [old _ _ z3]; simp)]; exact z2, us, keep _ _ z3, zM.mono (h2.trans eG) _ _ z4⟩
 ·unfold zeZ
  rw [Is, ze1]
  exact ⟨x, C, dx, w, rfl, rfl, yH, Is.mono eG _ _ h6⟩
def Yp (K : PySem.W.Frag) (fS fT Ru : Addr) : Sp := fun vs H Q E => ∃ C, ROk K fS fT Ru C ∧ xF C (α := PyData) (fun d => [d]) (fun d => d) vs H Q E
theorem YS {fS fT Ru y dx : Addr} {G H1 : Hp} {d : PyData} (S : Sta H G H1 [] ds) (gx : G y = none) (hx : H y = some (.ins C dx [])) (ok : ROk K fS fT Ru C) (hd : Has ds d v)
 (k : ∀ H' G' w, (∀ p o, p ≠ y → H p = some o → H' p = some o) → yc G G' → yc G' H' → (∀ p, H p ≠ none → G' p = G p) → H' y = some (.ins C dx [("form", w)]) → Is G' d w → Q .non H') : Yp K fS fT Ru [.ref y, v] H1 Q E := by
 obtain ⟨G1, a1, b1, c1, d1, _, _, g1⟩ := S
 refine ⟨C, ok, G1, d, y, dx, [v], rfl, b1, by rw [d1 y (by rw [hx]; simp)]; exact gx, c1 _ _ hx, (yy.cons hd yy.nil) G1 g1, fun H' G' w h1 h2 h3 h4 h5 h6 => k H' G' w (fun p o hp ho => h1 p o hp (c1 p o ho)) (a1.trans h2) h3 (fun p hp => ?_) h5 h6⟩
 rw [h4 p ?_, d1 p hp]
 cases hb : H p with
 | none => exact absurd hb hp
 | some o => rw [c1 p o hb]; simp
theorem rd_eqS {i j : Str} (h : Q (.bl (decide (i = j))) H) : rEqA (.str i) (.str j) H Q := .inl ⟨rfl, by
 rw [Wa (show V.str i = V.str j ↔ i = j from ⟨V.str.inj, congrArg _⟩)]; exact h⟩
theorem zhj {i : Int} {n : Str} {xs : List PyData} (S : Sta B G0 H cs ds) (hx : Has ds (.tuple xs) v) (hi : atI xs i = some (.str n)) (k : Q (.str n) H) : rIx K v (.int i) H Q :=
 zaR S hx hi fun w S' => by have := S'.top; rw [Is] at this; subst this; exact k
def UC (A : RAd) : Sp := spT (α := Rl) (fun r => [r.ins A]) (fun _ => True) (fun r => r.shape)
theorem UT {A : RAd} {r : Rl} (S : Sta B G0 H cs ds) (h : Has ds (r.ins A) v) (k : ∀ w H', yc H H' → Sta B G0 H' cs ((r.shape, w) :: ds) → Q w H') : UC A [v] H Q E := ZQ (α := Rl) r S (yy.cons h yy.nil) trivial k
theorem zhX {G : Hp} {x y z t : PyData} {vs : List V} (h : zM G [x, y, z, t] vs) : ∃ v w u r, vs = [v, w, u, r] ∧ ZW G [(x, v), (y, w), (z, u), (t, r)] := by
 simp only [zM] at h
 obtain ⟨v, _, rfl, h1, w, _, rfl, h2, u, _, rfl, h3, r, _, rfl, h4, rfl⟩ := h
 exact ⟨v, w, u, r, rfl, fun p hp => by simp at hp; rcases hp with rfl | rfl | rfl | rfl <;> assumption⟩
end
def WT (P : Program) (w : World) (K : PySem.W.Frag) (mg : Str → Option Value) (base : Heap) (x : Str) (C : Addr) (ps : List Str) (sp : Sp) : Prop := ∃ f fd, Mk K C f ∧ FnOk P w K mg base CX0 2 f fd ps sp ∧ xU K fd ps [] ∧ mg x = some (.ref C)
end S
namespace S
open PySem PySem.Spec PyProof.Rows L2
def zgb (K : PySem.W.Frag) (a : Addr) (n : Nat) : It :=
 ⟨fun i H => i < n ∧ ∃ xs x, SqL K H a xs ∧ xs[n - 1 - i]? = some x, fun i H x H' => H' = H ∧ ∀ xs, SqL K H a xs → xs[n - 1 - i]? = some x, fun i _ => n ≤ i⟩
theorem ze6 {P : Program} {w : World} {K : PySem.W.Frag} {tg : Expr} (a it : Addr) (n : Nat) : Turn P w K tg (zgb K a n) [it] it (fun i h => i ≤ n ∧ h.IsRevIter it a ((n : Int) - 1 - (i : Nat))) where
 mem := by simp
 obj := fun i h st b hb => by
  have e : b = it := by simpa using hb
  subst e
  obtain ⟨_, o, e, c, d⟩ := st
  exact ⟨o, e, fun v z => by rw [d] at z; cases z⟩
 keep := fun i h h' st k => ⟨st.1, st.2.at fun o e => k it (by simp) o e⟩
 item := by
  intro X hP hw hK hc i pins s σ H E I hf st hg
  subst hP hw hK
  obtain ⟨hi, xs, x, hq, hx⟩ := hg
  obtain ⟨its, rv, p, hz⟩ := I.list hq
  obtain ⟨u, hu, ru⟩ := rv.get hx
  obtain ⟨f0, f1, f2, f3, f4, f5⟩ := hf it (by simp)
  have ek : (n : Int) - 1 - (i : Nat) = ((n - 1 - i : Nat) : Int) := by omega
  have st2 := st.2
  rw [ek] at st2
  refine wpAny_pyNext_rev_item st2 p.isList (x := u) (by simpa using hu) fun h' st' sb => ?_
  have I1 : Inv X pins σ H { s with heap := h' } := I.turned (t' := s.toks) (fun b o hb e => (sb.2 b hb).trans e) f0 f1 f3 f4 f5
  obtain ⟨o, e, c, d⟩ := id st'
  exact ⟨u, rfl, zf0 (s := { s with heap := h' }) e c d (by decide) ⟨x, H, I1, ru, ⟨rfl, fun ys hy => by rw [I.list_inj hy hq]; exact hx⟩, ⟨by omega, by
   rw [show (n : Int) - 1 - ((i + 1 : Nat) : Int) = ((n - 1 - i : Nat) : Int) - 1 by omega]; exact st'⟩, fun b hb => (hf b hb).1⟩⟩
 done := by
  intro X hP hw hK hc i pins s σ H E I hf st hg
  subst hP hw hK
  obtain ⟨f0, f1, f2, f3, f4, f5⟩ := hf it (by simp)
  have hg' : n ≤ i := hg
  have st2 := st.2
  rw [show (n : Int) - 1 - (i : Nat) = -1 by have := st.1; omega] at st2
  exact wpAny_pyNext_rev_end (I.ok.hd hc) st2 fun h' eb => ⟨rfl, I.turned (t' := s.toks) (fun b o hb e => eb b o hb e) f0 f1 f3 f4 f5⟩
 self := fun _ _ _ _ _ st h => wpAny_pyIter_revIter st.2 h
def iRev (K : PySem.W.Frag) (ta : TA) : TI := fun σ H R => ta σ H fun vs H1 => ∃ a xs, vs = [.ref a] ∧ SqL K H1 a xs ∧ R (zgb K a xs.length) H1
section
variable {X : Cx}
theorem pi_rev {tg a : Expr} {ta : TA} {p pos : Pos} (hg : Gl X "reversed") (hm : X.mg "reversed" = none) (ha : PA X [a] ta) (hs : starEach [a] X.env = [(false, eval a X.env)] := by rfl) :
 PI X tg (.Call (.Name "reversed" p) [a] [] pos) (iRev X.K ta) := by
 intro pins s σ H R I h
 refine Call_ (XW I hg hm zbN (PyProof.Rows.callWith_type1 (thn (ha pos pins s σ H _ I h) fun us s1 ⟨vs, H1, I1, r1, q1⟩ => ?_) hs rfl))
 obtain ⟨l, xs, e, hq, q⟩ := q1
 subst e
 obtain ⟨u, rfl, ru⟩ := VT r1
 cases (show u = Value.ref l from ru)
 obtain ⟨its, rv, p1, hz⟩ := I1.list hq
 have hl := rv.length
 refine call_reversed_list p1.isList ?_
 have hit : Heap.IsRevIter (s1.heap.push (revObj l ((its.toArray.size : Int) - 1))) s1.heap.objs.size l ((xs.length : Int) - 1 - ((0 : Nat) : Int)) := ⟨_, Heap.get?_push_size _ rfl, rfl, by
  show Data.fields #[.ref l, rawInt ((its.toArray.size : Int) - 1)] = _
  rw [List.size_toArray, ← hl]; simp⟩
 refine wpAny_pyIter_revIter (s := { s1 with heap := s1.heap.push (revObj l ((its.toArray.size : Int) - 1)) }) hit ?_
 have I2 : Inv X pins σ H1 { s1 with heap := s1.heap.push (revObj l ((its.toArray.size : Int) - 1)) } := I1.kept (t' := s1.toks) fun b o e => Heap.get?_push_of_some _ e
 refine ⟨s1.heap.objs.size, [s1.heap.objs.size], _, _, H1, rfl, I2, ze6 l _ xs.length, ⟨Nat.zero_le _, hit⟩, fun b hb => ?_, q⟩
 have e : b = s1.heap.objs.size := by simpa using hb
 subst e
 exact I1.fpOk (Nat.le_refl _) (I1.hok.fresh (Nat.le_refl _))
end
def kRv (K : PySem.W.Frag) (R : It → Hp → Prop) : List V → Hp → Prop := fun vs H1 => ∃ a xs, vs = [.ref a] ∧ SqL K H1 a xs ∧ R (zgb K a xs.length) H1
section
variable {B G0 H : Hp} {cs : yR} {ds : Dat} {K : PySem.W.Frag} {a : Addr} {xs ys : List PyData} {P : yR → Dat → Prop} {v : V} {σ : L2.St} {R : It → Hp → Prop} {ta : TA}
theorem rd_iRv (h : ta σ H (kRv K R)) : iRev K ta σ H R := h
theorem wk_rev (s : Src B G0 true K a xs P) : Wk B G0 (zgb K a xs.length) xs.reverse P where
 go := fun {H cs ds i} S h hi => by
  rw [List.length_reverse] at hi
  obtain ⟨vs, q, hl, _⟩ := s S h
  exact ⟨hi, vs, vs[xs.length - 1 - i]'(by omega), q, List.getElem?_eq_getElem _⟩
 stop := fun {H cs ds i} S h hi => by rw [List.length_reverse] at hi; exact hi
 yld := fun {H H' cs ds i x v} S h hx y => by
  obtain ⟨e, y⟩ := y
  subst e
  obtain ⟨vs, q, hl, z⟩ := s S h
  have hi : i < xs.length := by have := (List.getElem?_eq_some_iff.mp hx).1; rwa [List.length_reverse] at this
  rw [List.getElem?_reverse hi] at hx
  obtain ⟨w, hw, S'⟩ := z _ x hx
  have := y vs q
  rw [hw] at this; cases this
  exact ⟨yc.refl _, S'⟩
theorem zhf (S : Sta B G0 H cs ds) (h : Has ds (.list xs) v) (k : ∀ J, Wk B G0 J xs.reverse (fun _ ds => Has ds (.list xs) v) → R J H) : kRv K R [v] H := by
 obtain ⟨p, vs, rfl, hp, hl, _⟩ := S.lst h
 refine ⟨p, vs, rfl, SqL.of hp, ?_⟩
 rw [← hl]
 exact k _ (wk_rev Xu)
end
end S
namespace S
open PySem PySem.Spec PyProof.Rows L2
def Xn (l c : zm) : zm := (l.1 - c.1, List.zipWith (· - ·) l.2 c.2)
def XS (l c : zm) : zm := (l.1 + c.1, List.zipWith (· + ·) l.2 c.2)
def lastC (a : List zm) : zm := a.getLast?.getD (0, [])
def yF (a : List zm) : List zm := a.reverse.map (Xn (lastC a))
def zI (p : Rat) (a : List zm) : List zm := a.map fun c => (c.1 * p, c.2.map (· * p))
def yN (a b : List zm) : List zm := b.tail.map (XS (lastC a))
section
variable {B G0 H : Hp} {cs : yR} {ds : Dat} {Q : VK} {E : XK} {v w : V}
def zax (g : Rat → Rat → Rat) : Sp := spT (α := List Rat × List Rat) (fun a => [xN a.1, xN a.2]) (fun a => (∀ q ∈ a.1, SzQ 4000 q) ∧ (∀ q ∈ a.2, SzQ 4000 q) ∧ a.1.length ≤ 1000) (fun a => xN (List.zipWith g a.1 a.2))
theorem zdQ {g : Rat → Rat → Rat} {p q : List Rat} (S : Sta B G0 H cs ds) (h1 : Has ds (xN p) v) (h2 : Has ds (xN q) w) (s1 : ∀ x ∈ p, SzQ 4000 x) (s2 : ∀ x ∈ q, SzQ 4000 x) (hl : p.length ≤ 1000)
 (k : ∀ r H', yc H H' → Sta B G0 H' cs ((xN (List.zipWith g p q), r) :: ds) → Q r H') : zax g [v, w] H Q E :=
 ZQ (p, q) S (.cons h1 (.cons h2 .nil)) ⟨s1, s2, hl⟩ k
structure PathIn (a : List zm) : Prop where
 ne : a ≠ []
 sz : ∀ c ∈ a, SzC 4000 c
 len : ∀ c ∈ a, c.2.length ≤ 1000
 few : a.length ≤ 450
theorem PathIn.last {a : List zm} (h : PathIn a) : a.getLast? = some (lastC a) ∧ lastC a ∈ a := by
 obtain ⟨l, hl⟩ : ∃ l, a.getLast? = some l := ⟨_, List.getLast?_eq_some_getLast h.ne⟩
 have e : lastC a = l := by unfold lastC; rw [hl]; rfl
 rw [e]
 exact ⟨hl, List.mem_of_getLast? hl⟩
theorem SzC.mono {m n : Nat} {c : zm} (h : SzC m c) (l : m ≤ n) : SzC n c := ⟨h.1.mono l, fun q hq => (h.2 q hq).mono l⟩
def WX : Sp := spL (α := List zm) (fun a => [Xc a]) PathIn (fun a => (yF a).map zW)
theorem zaN {a : List zm} (S : Sta B G0 H cs ds) (h : Has ds (Xc a) v) (ok : PathIn a) (k : ∀ p H', yc H H' → Sta B G0 H' ((p, (yF a).map zW) :: cs) ds → Q (.ref p) H') : WX [v] H Q E :=
 Xh a S (.cons h .nil) ok k
def UD : Sp := spL (α := List zm × Rat) (fun a => [Xc a.1, frD a.2]) (fun a => PathIn a.1 ∧ SzQ 4000 a.2) (fun a => (zI a.2 a.1).map zW)
theorem zaO {a : List zm} {p : Rat} (S : Sta B G0 H cs ds) (h : Has ds (Xc a) v) (h2 : Has ds (frD p) w) (ok : PathIn a) (sp : SzQ 4000 p) (k : ∀ q H', yc H H' → Sta B G0 H' ((q, (zI p a).map zW) :: cs) ds → Q (.ref q) H') : UD [v, w] H Q E :=
 Xh (a, p) S (.cons h (.cons h2 .nil)) ⟨ok, sp⟩ k
noncomputable def UK : Sp := spL (α := List zm × List zm) (fun a => [Xc a.1, Xc a.2]) (fun a => PathIn a.1 ∧ PathIn a.2 ∧ ∃ m, PathOk m (a.1 ++ yN a.1 a.2)) (fun a => (xc (a.1 ++ yN a.1 a.2)).map zW)
theorem zdS {a b : List zm} {m : Nat} (S : Sta B G0 H cs ds) (h : Has ds (Xc a) v) (h2 : Has ds (Xc b) w) (ok : PathIn a) (ok2 : PathIn b) (ok3 : PathOk m (a ++ yN a b))
 (k : ∀ p H', yc H H' → Sta B G0 H' ((p, (xc (a ++ yN a b)).map zW) :: cs) ds → Q (.ref p) H') : UK [v, w] H Q E :=
 Xh (a, b) S (.cons h (.cons h2 .nil)) ⟨ok, ok2, m, ok3⟩ k
end
end S
namespace S
open PySem PySem.Spec PyProof.Rows L2
def ZK (t x y : Rat) : Rat := x + t * (y - x)
def WE (c d : zm) (E : Rat) : List Rat := List.zipWith (ZK ((E - c.1) / (d.1 - c.1))) c.2 d.2
def zA : List zm → Rat → List Rat
 | [], _ => []
 | [c], _ => c.2
 | c :: d :: r, E => if E < d.1 then WE c d E else zA (d :: r) E
def xr (a : List zm) : Prop := a.Pairwise fun c d => c.1 < d.1
theorem Zk {E : Rat} : ∀ {a : List zm} {i : Nat} {c : zm}, xr a → a[i]? = some c → c.1 ≤ E → (i + 1 = a.length ∨ ∃ d, a[i + 1]? = some d ∧ E < d.1) → zA a E = match a[i + 1]? with | none => c.2 | some d => WE c d E
 | [], i, c, _, h, _, _ => by simp at h
 | [b], i, c, _, h, _, _ => by
   cases i with
   | zero => cases h; rfl
   | succ i => simp at h
 | b :: d :: r, i, c, hr, h, hc, hE => by
   cases i with
   | zero =>
     cases h
     rcases hE with hE | ⟨d', hd', hE⟩
     ·simp at hE
     ·cases hd'
      rw [zA, if_pos hE]
      rfl
   | succ i =>
     have hr' : xr (d :: r) := (List.pairwise_cons.mp hr).2
     have h' : (d :: r)[i]? = some c := by simpa using h
     have hd : d.1 ≤ c.1 := by
      cases i with
      | zero => cases h'; exact Rat.le_refl
      | succ i => exact Rat.le_of_lt ((List.pairwise_cons.mp hr').1 c (List.mem_of_getElem? (by simpa using h')))
     have hnd : ¬ E < d.1 := Rat.not_lt.mpr (Rat.le_trans hd hc)
     rw [zA, if_neg hnd]
     have := Zk (a := d :: r) (i := i) (c := c) hr' h' hc (by
      rcases hE with hE | ⟨d', hd', hE⟩
      ·left; simpa using hE
      ·right; exact ⟨d', by simpa using hd', hE⟩)
     rw [this]
     simp
theorem zen (x y : Rat) : ZK 0 x y = x := by unfold ZK; grind
theorem zfP (x y : Rat) : ZK 1 x y = y := by unfold ZK; grind
theorem zan {f : Rat → Rat → Rat} (hf : ∀ x y, f x y = x) : ∀ {l r : List Rat}, l.length = r.length → List.zipWith f l r = l
 | [], [], _ => rfl
 | x :: l, y :: r, h => by rw [List.zipWith_cons_cons, hf, zan hf (by simpa using h)]
 | [], _ :: _, h => by simp at h
 | _ :: _, [], h => by simp at h
theorem Ud {f : Rat → Rat → Rat} (hf : ∀ x y, f x y = y) : ∀ {l r : List Rat}, l.length = r.length → List.zipWith f l r = r
 | [], [], _ => rfl
 | x :: l, y :: r, h => by rw [List.zipWith_cons_cons, hf, Ud hf (by simpa using h)]
 | [], _ :: _, h => by simp at h
 | _ :: _, [], h => by simp at h
theorem WD {c d : zm} (h : c.2.length = d.2.length) : WE c d c.1 = c.2 := by
 unfold WE
 have : (c.1 - c.1) / (d.1 - c.1) = 0 := by rw [Rat.sub_self, Rat.div_def, Rat.zero_mul]
 rw [this]
 exact zan zen h
theorem zf8 {c d : zm} (h : c.2.length = d.2.length) (hlt : c.1 < d.1) : WE c d d.1 = d.2 := by
 unfold WE
 have hne : d.1 - c.1 ≠ 0 := fun z => by
  have : d.1 = c.1 := by grind
  rw [this] at hlt
  exact Rat.lt_irrefl hlt
 have : (d.1 - c.1) / (d.1 - c.1) = 1 := by rw [Rat.div_def]; exact Rat.mul_inv_cancel _ hne
 rw [this]
 exact Ud zfP h
section
variable {B G0 H : Hp} {cs : yR} {ds : Dat} {Q : VK} {E : XK} {v w u : V}
def zdr : Sp := fun vs H Q _ => ∃ (qs : List Rat) (e : Rat) (n : Nat), zM H [.list (qs.map frD), frD e] vs ∧ (0 < qs.length ∧ qs.length ≤ 1000000 ∧ (∀ q ∈ qs, SzQ n q) ∧ SzQ n e ∧ n ≤ 40000000 ∧ ∀ q, qs[0]? = some q → q ≤ e) ∧
 ∀ (i : Nat) (q : Rat), qs[i]? = some q → q ≤ e → (i + 1 = qs.length ∨ ∃ r, qs[i + 1]? = some r ∧ e < r) → Q (.int (i : Nat)) H
theorem zhd {qs : List Rat} {e : Rat} {n : Nat} (S : Sta B G0 H cs ds) (h1 : Is H (.list (qs.map frD)) v) (h2 : Is H (frD e) w) (hd : 0 < qs.length ∧ qs.length ≤ 1000000 ∧ (∀ q ∈ qs, SzQ n q) ∧ SzQ n e ∧ n ≤ 40000000 ∧ ∀ q, qs[0]? = some q → q ≤ e)
 (k : ∀ (i : Nat) (q : Rat), qs[i]? = some q → q ≤ e → (i + 1 = qs.length ∨ ∃ r, qs[i + 1]? = some r ∧ e < r) → Q (.int (i : Nat)) H) : zdr [v, w] H Q E :=
 ⟨qs, e, n, by simp only [zM]; exact ⟨_, _, rfl, h1, _, _, rfl, h2, rfl⟩, hd, k⟩
def Vi : Sp := spT (α := Rat × Rat × Rat) (fun a => [frD a.1, frD a.2.1, frD a.2.2]) (fun a => (∃ m n, SzQ n a.1 ∧ SzQ n a.2.1 ∧ SzQ m a.2.2 ∧ m + 3 * n + 2 ≤ 8999) ∧ a.2.1 ≠ a.1) (fun a => frD ((a.2.2 - a.1) / (a.2.1 - a.1)))
theorem zcH {s e x : Rat} {m n : Nat} (S : Sta B G0 H cs ds) (h1 : Has ds (frD s) v) (h2 : Has ds (frD e) w) (h3 : Has ds (frD x) u) (z1 : SzQ n s) (z2 : SzQ n e) (z3 : SzQ m x) (hz : m + 3 * n + 2 ≤ 8999) (hne : e ≠ s)
 (k : ∀ r H', yc H H' → Sta B G0 H' cs ((frD ((x - s) / (e - s)), r) :: ds) → Q r H') : Vi [v, w, u] H Q E :=
 ZQ (s, e, x) S (.cons h1 (.cons h2 (.cons h3 .nil))) ⟨⟨m, n, z1, z2, z3, hz⟩, hne⟩ k
def UM : Sp := spT (α := Rat × Rat × Rat) (fun a => [frD a.1, frD a.2.1, frD a.2.2]) (fun a => ∃ m n, SzQ n a.1 ∧ SzQ n a.2.1 ∧ SzQ m a.2.2 ∧ m + 3 * n + 2 ≤ 8999) (fun a => frD (ZK a.2.2 a.1 a.2.1))
theorem zdT {s e t : Rat} {m n : Nat} (S : Sta B G0 H cs ds) (h1 : Has ds (frD s) v) (h2 : Has ds (frD e) w) (h3 : Has ds (frD t) u) (z1 : SzQ n s) (z2 : SzQ n e) (z3 : SzQ m t) (hz : m + 3 * n + 2 ≤ 8999)
 (k : ∀ r H', yc H H' → Sta B G0 H' cs ((frD (ZK t s e), r) :: ds) → Q r H') : UM [v, w, u] H Q E :=
 ZQ (s, e, t) S (.cons h1 (.cons h2 (.cons h3 .nil))) ⟨m, n, z1, z2, z3, hz⟩ k
def Vm : Sp := spT (α := zm × zm × Rat) (fun a => [zW a.1, zW a.2.1, frD a.2.2]) (fun a => (∃ m n, SzC n a.1 ∧ SzC n a.2.1 ∧ SzQ m a.2.2 ∧ m + 6 * n + 4 ≤ 8999) ∧ a.1.1 < a.2.1.1 ∧ a.1.2.length ≤ 1000) (fun a => xN (WE a.1 a.2.1 a.2.2))
theorem zcJ {c d : zm} {e : Rat} {m n : Nat} (S : Sta B G0 H cs ds) (h1 : Has ds (zW c) v) (h2 : Has ds (zW d) w) (h3 : Has ds (frD e) u) (z1 : SzC n c) (z2 : SzC n d) (z3 : SzQ m e) (hz : m + 6 * n + 4 ≤ 8999) (hlt : c.1 < d.1) (hl : c.2.length ≤ 1000)
 (k : ∀ r H', yc H H' → Sta B G0 H' cs ((xN (WE c d e), r) :: ds) → Q r H') : Vm [v, w, u] H Q E :=
 ZQ (c, d, e) S (.cons h1 (.cons h2 (.cons h3 .nil))) ⟨⟨m, n, z1, z2, z3, hz⟩, hlt, hl⟩ k
structure PathR (n : Nat) (a : List zm) : Prop where
 ne : a ≠ []
 sz : ∀ c ∈ a, SzC n c
 len : ∀ c ∈ a, c.2.length ≤ 1000
 few : a.length ≤ 900
 rise : xr a
 zero : ∀ c, a[0]? = some c → c.1 = 0
def Vj : Sp := spT (α := List zm × Rat) (fun a => [Xc a.1, frD a.2]) (fun a => ∃ m n, PathR n a.1 ∧ SzQ m a.2 ∧ m + 6 * n + 4 ≤ 8999 ∧ 0 ≤ a.2) (fun a => xN (zA a.1 a.2))
theorem zcI {a : List zm} {e : Rat} {m n : Nat} (S : Sta B G0 H cs ds) (h1 : Has ds (Xc a) v) (h2 : Has ds (frD e) w) (ok : PathR n a) (z : SzQ m e) (hz : m + 6 * n + 4 ≤ 8999) (h0 : 0 ≤ e)
 (k : ∀ r H', yc H H' → Sta B G0 H' cs ((xN (zA a e), r) :: ds) → Q r H') : Vj [v, w] H Q E :=
 ZQ (a, e) S (.cons h1 (.cons h2 .nil)) ⟨m, n, ok, z, hz, h0⟩ k
end
end S
namespace S
open PySem PySem.Spec PyProof.Rows L2
theorem xM {a b : Rat} (h : a * b = 0) (hb : b ≠ 0) : a = 0 := by
 have h1 := Rat.mul_inv_cancel b hb
 have : a = a * b * b⁻¹ := by rw [Rat.mul_assoc, h1, Rat.mul_one]
 rw [this, h, Rat.zero_mul]
theorem WG {a b : Rat} (h : a < b) : b - a ≠ 0 := fun z => by
 have : b = a := by grind
 rw [this] at h
 exact Rat.lt_irrefl h
theorem XV {s e x y E : Rat} (h : s < e) : (ZK ((E - s) / (e - s)) x y - x) * (e - s) = (E - s) * (y - x) := by
 have h1 := Rat.mul_inv_cancel _ (WG h)
 unfold ZK
 rw [Rat.div_def]
 generalize (e - s)⁻¹ = i at *
 grind
theorem zaj {c d : zm} {E : Rat} {i : Nat} {z : Rat} (h : (WE c d E)[i]? = some z) : ∃ x y, c.2[i]? = some x ∧ d.2[i]? = some y ∧ z = ZK ((E - c.1) / (d.1 - c.1)) x y := by
 unfold WE at h
 rw [List.getElem?_zipWith] at h
 cases hx : c.2[i]? with
 | none => rw [hx] at h; cases h
 | some x =>
   cases hy : d.2[i]? with
   | none => rw [hx, hy] at h; cases h
   | some y => rw [hx, hy] at h; exact ⟨x, y, rfl, rfl, (Option.some.inj h).symm⟩
theorem xt {c d : zm} {r : List zm} {E : Rat} (h : d.1 ≤ E) : zA (c :: d :: r) E = zA (d :: r) E := by
 rw [zA, if_neg (Rat.not_lt.mpr h)]
theorem Wz (c d : zm) (r : List zm) : lastC (c :: d :: r) = lastC (d :: r) := by unfold lastC; rw [List.getLast?_cons_cons]
theorem Us {m : Nat} {E : Rat} : ∀ {c : zm} {r : List zm}, (∀ x ∈ c :: r, x.2.length = m) → (zA (c :: r) E).length = m
 | c, [], h => h c (List.mem_cons_self ..)
 | c, d :: r, h => by
   rw [zA]
   split
   ·unfold WE
    rw [List.length_zipWith, h c (List.mem_cons_self ..), h d (List.mem_cons_of_mem _ (List.mem_cons_self ..)), Nat.min_self]
   ·exact Us fun x hx => h x (List.mem_cons_of_mem _ hx)
end S
namespace S
open PySem PySem.Spec PyProof.Rows L2
theorem WJ {a b c : Rat} (h : a < b) (g : b < c) : a < c := by grind
def zic (l : List Rat) : Prop := l.Pairwise (· < ·)
section
variable {B G0 H : Hp} {cs : yR} {ds : Dat} {Q : VK} {E : XK} {v w u : V}
def Yw (a : List zm) : List Rat := a.map fun c => c.1
end
end S
namespace S
open PySem PySem.Spec PyProof.Rows L2
theorem zao (m : Nat) : (ZB m).sum = 0 := by
 unfold ZB
 induction m with
 | zero => rfl
 | succ m ih => rw [List.replicate_succ, List.sum_cons, ih]; rfl
theorem zbv {a : List zm} (h : xr a) : zic (Yw a) := by
 unfold zic Yw
 rw [List.pairwise_map]
 exact h
section
variable {B G0 H : Hp} {cs : yR} {ds : Dat} {Q : VK} {E : XK} {v w u : V}
def zbk : Sp := fun vs H Q _ => ∃ n : Int, vs = [.int n] ∧ Q (.bl true) H
theorem zfi {n : Int} (k : Q (.bl true) H) : zbk [.int n] H Q E := ⟨n, rfl, k⟩
def zds : Sp := spB (α := Rat) (fun a => [frD a]) (fun _ => True) (fun _ => .bl true)
theorem zho {q : Rat} (S : Sta B G0 H cs ds) (h : Has ds (frD q) v) (k : ∀ H', Sta B G0 H' cs ds → Q (.bl true) H') : zds [v] H Q E :=
 Vu q (S.hpAll (.cons h .nil)) trivial fun H' e => k H' (S.same e)
end
end S
namespace S
open PySem PySem.Spec PyProof.Rows L2
def yl : List Rat → Rat
 | [] => 0
 | x :: r => x + yl r
theorem Ue (m : Nat) : yl (List.replicate m 0) = 0 := by
 induction m with
 | zero => rfl
 | succ m ih => rw [List.replicate_succ, yl, ih]; grind
theorem zbW (t : Rat) : ∀ x y : List Rat, x.length = y.length → yl (List.zipWith (ZK t) x y) = ZK t (yl x) (yl y)
 | [], [], _ => by rw [List.zipWith_nil_left, yl]; unfold ZK; grind
 | a :: x, b :: y, h => by
   rw [List.zipWith_cons_cons, yl, yl, yl, zbW t x y (by simpa using h)]
   unfold ZK; grind
 | [], _ :: _, h => by simp at h
 | _ :: _, [], h => by simp at h
end S
namespace S
open PySem PySem.Spec PyProof.Rows L2
def linV (x y z : List Rat) (a b : Rat) : Prop := ∀ (i : Nat) (p q r : Rat), x[i]? = some p → y[i]? = some q → z[i]? = some r → (r - p) * b = (q - p) * a
end S
namespace S
open PySem PySem.Spec PyProof.Rows L2
section
variable {P : List zm} {Qs : List (List zm)}
theorem zgT {M : List Rat} (hM : zic M) {j : Nat} {u v : Rat} (hu : M[j]? = some u) (hv : M[j + 1]? = some v) : u < v := by
 obtain ⟨lu, eu⟩ := List.getElem?_eq_some_iff.mp hu
 obtain ⟨lv, ev⟩ := List.getElem?_eq_some_iff.mp hv
 have := List.pairwise_iff_getElem.mp hM j (j + 1) lu lv (by omega)
 rw [eu, ev] at this
 exact this
end
end S
namespace S
open PySem PySem.Spec PyProof.Rows PyProof L2
section
variable {X : Cx}
end
section
variable {B G0 H : Hp} {cs : yR} {ds : Dat} {Q : VK} {v w : V} {xs zs : List PyData} {K : PySem.W.Frag} {L M : Addr}
end
end S
namespace S
open PySem PySem.Spec PyProof.Rows L2
theorem zbH {E : Rat} : ∀ {M : List Rat} {z : Rat}, M[0]? = some z → z ≤ E → ∃ (i : Nat) (q : Rat), M[i]? = some q ∧ q ≤ E ∧ (i + 1 = M.length ∨ ∃ r, M[i + 1]? = some r ∧ E < r)
 | [], z, h, _ => by simp at h
 | [a], z, h, hz => by
   cases h
   exact ⟨0, a, rfl, hz, .inl rfl⟩
 | a :: b :: M, z, h, hz => by
   cases h
   by_cases hb : b ≤ E
   ·obtain ⟨i, q, h1, h2, h3⟩ := zbH (M := b :: M) (z := b) rfl hb
    refine ⟨i + 1, q, by simpa using h1, h2, ?_⟩
    rcases h3 with h3 | ⟨r, h3, h4⟩
    ·left; simp only [List.length_cons] at h3 ⊢; omega
    ·right; exact ⟨r, by simpa using h3, h4⟩
   ·exact ⟨0, a, rfl, hz, .inr ⟨b, rfl, Rat.not_le.mp hb⟩⟩
theorem VR {c d : zm} {E : Rat} {w : List Rat} (hlt : c.1 < d.1) (l1 : c.2.length = d.2.length) (l2 : c.2.length = w.length) (h : linV c.2 d.2 w (E - c.1) (d.1 - c.1)) : WE c d E = w := by
 apply List.ext_getElem?
 intro i
 by_cases hi : i < c.2.length
 ·have e1 := List.getElem?_eq_getElem hi
  have e2 := List.getElem?_eq_getElem (l := d.2) (i := i) (by omega)
  have e3 := List.getElem?_eq_getElem (l := w) (i := i) (by omega)
  have := h i _ _ _ e1 e2 e3
  unfold WE
  rw [List.getElem?_zipWith, e1, e2, e3]
  show some (ZK _ _ _) = _
  have l := XV (x := c.2[i]) (y := d.2[i]) (E := E) hlt
  have k := xM (a := ZK ((E - c.1) / (d.1 - c.1)) c.2[i] d.2[i] - w[i]) (b := d.1 - c.1) (by grind) (WG hlt)
  have : ZK ((E - c.1) / (d.1 - c.1)) c.2[i] d.2[i] = w[i] := by grind
  rw [this]
 ·unfold WE
  rw [List.getElem?_eq_none (by rw [List.length_zipWith]; omega), List.getElem?_eq_none (by omega)]
section
variable {P : List zm} {Qs : List (List zm)}
theorem SzQ.mix {m n : Nat} {t x y : Rat} (ht : SzQ m t) (hx : SzQ n x) (hy : SzQ n y) : SzQ (m + 3 * n + 2) (ZK t x y) := by
 unfold ZK
 exact (hx.add (ht.mul (hy.sub hx))).mono (by omega)
theorem SzQ.port {m n : Nat} {L x y : Rat} (hL : SzQ m L) (hx : SzQ n x) (hy : SzQ n y) : SzQ (m + 3 * n + 2) ((L - x) / (y - x)) := ((hL.sub hx).div (hy.sub hx)).mono (by omega)
theorem zaV {m n : Nat} {e : Rat} (he : SzQ m e) : ∀ {a : List zm}, (∀ c ∈ a, SzC n c) → ∀ x ∈ zA a e, SzQ (m + 6 * n + 4) x
 | [], _, x, hx => by simp [zA] at hx
 | [c], h, x, hx => ((h c (List.mem_cons_self ..)).2 x hx).mono (by omega)
 | c :: d :: r, h, x, hx => by
   rw [zA] at hx
   split at hx
   ·obtain ⟨i, hi⟩ := List.mem_iff_getElem?.mp hx
    obtain ⟨p, q, hp, hq, rfl⟩ := zaj hi
    have hc := h c (List.mem_cons_self ..)
    have hd := h d (List.mem_cons_of_mem _ (List.mem_cons_self ..))
    exact (SzQ.mix (SzQ.port he hc.1 hd.1) (hc.2 p (List.mem_of_getElem? hp)) (hd.2 q (List.mem_of_getElem? hq))).mono (by omega)
   ·exact zaV he (fun c hc => h c (List.mem_cons_of_mem _ hc)) x hx
end
end S
namespace S
open PySem PySem.Spec PyProof.Rows L2
section
variable {C F G D : List zm} {c x y : zm} {m : Nat}
end
end S
namespace S
open PySem
def Ris (xs : Array Nat) : Prop := xs.toList.Pairwise (· < ·)
theorem Ris.lt {xs : Array Nat} (h : Ris xs) {i k a b : Nat} (hik : i < k) (ha : xs[i]? = some a) (hb : xs[k]? = some b) : a < b := by
 have ha' : xs.toList[i]? = some a := by simpa using ha
 have hb' : xs.toList[k]? = some b := by simpa using hb
 obtain ⟨la, ea⟩ := List.getElem?_eq_some_iff.mp ha'
 obtain ⟨lb, eb⟩ := List.getElem?_eq_some_iff.mp hb'
 have := List.pairwise_iff_getElem.mp h i k la lb hik
 rw [ea, eb] at this
 exact this
theorem zak {xs : Array Nat} {j : Nat} (h : Ris xs) : ∀ (fuel lo hi : Nat), hi - lo ≤ fuel → lo ≤ hi → hi ≤ xs.size → (∀ k a, k < lo → xs[k]? = some a → a < j) → (∀ k a, hi ≤ k → xs[k]? = some a → j ≤ a) →
 SetTable.below.go xs j fuel lo hi ≤ xs.size ∧ (∀ k a, k < SetTable.below.go xs j fuel lo hi → xs[k]? = some a → a < j) ∧ (∀ k a, SetTable.below.go xs j fuel lo hi ≤ k → xs[k]? = some a → j ≤ a)
 | 0, lo, hi, hf, hl, hs, h1, h2 => by
   rw [SetTable.below.go]
   have e : lo = hi := by omega
   subst e
   exact ⟨hs, h1, h2⟩
 | fuel + 1, lo, hi, hf, hl, hs, h1, h2 => by
   rw [SetTable.below.go]
   by_cases c : lo < hi
   ·rw [if_pos c]
    dsimp only
    have hm : (lo + hi) / 2 < xs.size := by omega
    have em : xs[(lo + hi) / 2]? = some xs[(lo + hi) / 2] := by simp [hm]
    have eg : xs.getD ((lo + hi) / 2) j = xs[(lo + hi) / 2] := by simp [Array.getD, hm]
    rw [eg]
    by_cases c2 : xs[(lo + hi) / 2] < j
    ·rw [if_pos c2]
     refine zak h fuel _ hi (by omega) (by omega) hs (fun k a hk ha => ?_) h2
     by_cases ek : k = (lo + hi) / 2
     ·subst ek; rw [em] at ha; cases ha; exact c2
     ·have := h.lt (show k < (lo + hi) / 2 by omega) ha em; omega
    ·rw [if_neg c2]
     refine zak h fuel lo _ (by omega) (by omega) (by omega) h1 fun k a hk ha => ?_
     by_cases ek : k = (lo + hi) / 2
     ·subst ek; rw [em] at ha; cases ha; omega
     ·have := h.lt (show (lo + hi) / 2 < k by omega) em ha; omega
   ·rw [if_neg c]
    have e : lo = hi := by omega
    subst e
    exact ⟨hs, h1, h2⟩
theorem Xb {xs : Array Nat} (h : Ris xs) (j : Nat) : SetTable.below xs j ≤ xs.size ∧ (∀ k a, k < SetTable.below xs j → xs[k]? = some a → a < j) ∧ (∀ k a, SetTable.below xs j ≤ k → xs[k]? = some a → j ≤ a) :=
 zak h _ 0 xs.size (by omega) (Nat.zero_le _) (Nat.le_refl _) (fun k a hk => absurd hk (Nat.not_lt_zero _)) fun k a hk ha => by
  have : k < xs.size := by
   have := Array.getElem?_eq_some_iff.mp ha
   exact this.1
  omega
theorem zcY {xs : Array Nat} (h : Ris xs) {j : Nat} (hj : ∀ a ∈ xs.toList, a ≠ j) : Ris (SetTable.insertAt xs (SetTable.below xs j) j) := by
 obtain ⟨b1, b2, b3⟩ := Xb h j
 unfold Ris
 rw [SetTable.toList_insertAt]
 have hlo : ∀ a ∈ xs.toList.take (SetTable.below xs j), a < j := fun a ha => by
  obtain ⟨i, hi⟩ := List.mem_iff_getElem?.mp ha
  rw [List.getElem?_take] at hi
  split at hi
  ·rename_i hlt
   exact b2 i a hlt (by simpa using hi)
  ·cases hi
 have hhi : ∀ a ∈ xs.toList.drop (SetTable.below xs j), j < a := fun a ha => by
  obtain ⟨i, hi⟩ := List.mem_iff_getElem?.mp ha
  rw [List.getElem?_drop] at hi
  have := b3 _ a (Nat.le_add_right _ i) (by simpa using hi)
  have ne := hj a (List.mem_of_mem_drop ha)
  omega
 have h' := h
 unfold Ris at h'
 rw [← List.take_append_drop (SetTable.below xs j) xs.toList] at h'
 obtain ⟨p1, p2, p3⟩ := List.pairwise_append.mp h'
 refine List.pairwise_append.mpr ⟨p1, List.pairwise_cons.mpr ⟨hhi, p2⟩, fun a ha b hb => ?_⟩
 rcases List.mem_cons.mp hb with rfl | hb
 ·exact hlo a ha
 ·exact p3 a ha b hb
theorem zdu {t : SetTable} (h : Ris t.place) {j : Nat} (hs : ∀ i, t.slot j ≠ .live i) : ∀ a ∈ t.place.toList, a ≠ j := fun a ha e => by
 subst e
 obtain ⟨i, hi⟩ := List.mem_iff_getElem?.mp ha
 have hi' : t.place[i]? = some a := by simpa using hi
 obtain ⟨b1, b2, b3⟩ := Xb h a
 have e : SetTable.below t.place a = i := by
  rcases Nat.lt_trichotomy (SetTable.below t.place a) i with c | c | c
  ·have hk : t.place[SetTable.below t.place a]? = some (t.place[SetTable.below t.place a]'(by have := (Array.getElem?_eq_some_iff.mp hi').1; omega)) := by simp
   have h1 := h.lt c hk hi'
   have h2 := b3 _ _ (Nat.le_refl _) hk
   omega
  ·exact c
  ·have := b2 i a c hi'; omega
 refine hs i ?_
 unfold SetTable.slot
 dsimp only
 rw [e, hi']
 simp
theorem Wv {t : SetTable} {hashAt : Nat → Int} {h : Int} : ∀ {fuel : Nat} {p : SetTable.Probe} {j : Nat} {d : Option Nat}, (∀ x, p.dummy = some x → ∀ i, t.slot x ≠ .live i) → SetTable.probe.go t hashAt h fuel p = some (.empty j d) → (∀ i, t.slot j ≠ .live i) ∧ ∀ x, d = some x → ∀ i, t.slot x ≠ .live i
 | 0, p, j, d, _, e => by rw [SetTable.probe.go] at e; cases e
 | fuel + 1, p, j, d, hd, e => by
   rw [SetTable.probe.go] at e
   cases hs : t.slot p.j with
   | empty =>
     rw [hs] at e
     cases e
     exact ⟨fun i z => (by rw [hs] at z; cases z), hd⟩
   | dummy =>
     rw [hs] at e
     refine Wv (fuel := fuel) (fun x hx => ?_) e
     have : x = p.j := by
      unfold SetTable.advance at hx
      dsimp only at hx
      split at hx <;> (cases hx; rfl)
     subst this
     intro i z
     rw [hs] at z; cases z
   | live i =>
     rw [hs] at e
     dsimp only at e
     split at e
     ·cases e
     ·refine Wv (fuel := fuel) (fun x hx => hd x ?_) e
      unfold SetTable.advance at hx
      dsimp only at hx
      split at hx <;> exact hx
theorem zez {t : SetTable} {h : Int} {j : Nat} {b : Bool} (e : t.freeSlot h = some (j, b)) : ∀ i, t.slot j ≠ .live i := by
 unfold SetTable.freeSlot SetTable.probe at e
 split at e
 ·rename_i j' dm hp
  have := Wv (fun x hx => by unfold SetTable.probeStart at hx; cases hx) hp
  cases dm with
  | none => cases e; exact this.1
  | some d => cases e; exact this.2 d rfl
 ·cases e
def zbP (b : Bool) (t : SetTable) : Prop := Ris t.place ∧ t.led = b
theorem zdU (n : Nat) : Ris (Array.range n) := by
 unfold Ris
 rw [Array.toList_range]
 exact List.pairwise_lt_range
theorem ZJ {b : Bool} {t : SetTable} (h : t.led = b) (n : Nat) : zbP b (t.standIn n) := ⟨zdU n, h⟩
theorem zbB {b : Bool} {t : SetTable} (hg : zbP b t) (es : Array (Int × Value)) (h : Int) (x : Value) : zbP b (layNew t es h x).2.1 := by
 unfold layNew
 split
 ·rename_i slot wd hf
  dsimp only
  unfold SetTable.orStandIn
  split
  ·exact ⟨zcY hg.1 (zdu hg.1 (zez hf)), hg.2⟩
  ·exact ZJ hg.2 _
 ·exact ZJ hg.2 _
theorem zfR {mask : Nat} {owner : Array (Option Nat)} : (((List.range (mask + 1)).filterMap fun j => (owner.getD j none).map (j, ·)).map (·.1)).Pairwise (· < ·) := by
 rw [List.pairwise_map, List.pairwise_filterMap]
 refine List.pairwise_lt_range.imp fun {i k} hik a ha b hb => ?_
 obtain ⟨_, _, rfl⟩ := Option.map_eq_some_iff.mp ha
 obtain ⟨_, _, rfl⟩ := Option.map_eq_some_iff.mp hb
 exact hik
theorem US {b : Bool} {t : SetTable} (hg : zbP b t) (es : Array (Int × Value)) (wanted : Nat) : zbP b (relayAll t es wanted).2.1 := by
 unfold relayAll
 split
 ·rename_i t' order hr
  dsimp only
  split
  ·unfold SetTable.relaid SetTable.laid at hr
   obtain ⟨owner, _, hr⟩ := Option.bind_eq_some_iff.mp hr
   cases hr
   refine ⟨?_, hg.2⟩
   show (List.toArray _).toList.Pairwise _
   exact zfR
  ·exact ZJ hg.2 _
 ·exact ZJ hg.2 _
def Wg : Value → Int
 | .int n _ => n
 | _ => 0
def Uc (prog : Program) (w : World) (h : Heap) (a : Addr) (b : Bool) (ns : List Int) : Prop :=
 ∃ (o : Obj) (es : Array (Int × Value)) (ep : Nat) (t : SetTable), (h.get? a = some o ∧ o.ExactSet ∧ o.data = .set es ep t) ∧ ElemsOf (intKind prog w) es.toList ∧ (t.fits es.size = true ∧ zbP b t) ∧ ns = es.toList.map (fun e => Wg e.2) ∧ ns.Nodup
section
variable {prog : Program} {w : World} {A : Around} {E : Value → Shared → Prop} {s : Shared}
theorem zgd {v : Value} {k : Int} (h : (intKind prog w).is k v = true) : Wg v = k := by
 obtain ⟨t, ht⟩ := Value.isInt_shape h
 rw [ht]; rfl
theorem Uc.kept {h h' : Heap} {a : Addr} {b : Bool} {ns : List Int} (T : Uc prog w h a b ns) (k : ∀ o, h.get? a = some o → h'.get? a = some o) : Uc prog w h' a b ns := by
 obtain ⟨o, es, ep, t, ⟨gets, ex, data⟩, rest⟩ := T
 exact ⟨o, es, ep, t, ⟨k o gets, ex, data⟩, rest⟩
theorem zgj {h : Heap} {a : Addr} {o : Obj} {es es1 : Array (Int × Value)} {ep : Nat} {t t1 : SetTable} (gets : h.get? a = some o) (data : o.data = .set es ep t) : (h.update a (Obj.putSet es1 t1)).get? a = some { o with data := .set es1 (ep + 1) t1 } := by
 have z := Heap.get?_update_self (Obj.putSet es1 t1) gets (by rw [putSet_of es1 t1 data]; rfl)
 rwa [putSet_of es1 t1 data] at z
theorem add_T {a : Addr} {b : Bool} {ns : List Int} {k : Int} {tk : Tok} {Q : Bool → Shared → Prop} (T : Uc prog w s.heap a b ns) (few : ns.length < 1000)
 (h : ∀ (r : Bool) (h' : Heap) (ns' : List Int), Heap.SameBut a s.heap h' → Uc prog w h' a b ns' → (∀ x, x ∈ ns' ↔ x ∈ ns ∨ x = k) → ns'.length ≤ ns.length + 1 → Q r { s with heap := h' }) :
 wpAny (model prog w) A (setAddHashed a (.int k tk) ((intKind prog w).hash k)) Q E s := by
 obtain ⟨o, es, ep, t, ⟨gets, ex, data⟩, elems, ⟨fit, good⟩, rfl, nd⟩ := T
 have sz : es.size = (es.toList.map fun e => Wg e.2).length := by simp
 have e4 : scanBound = 4096 := rfl
 have bound : es.size < scanBound := by omega
 have isk := intKind_is prog w k tk
 unfold setAddHashed setAddHashedIn
 refine wpAny_holding (wpAny_bind (wpAny_setState_of gets data fit ?_))
 dsimp only
 rw [byScan_of (knd := intKind prog w) (x := .int k tk) rfl bound elems, if_pos rfl]
 unfold setAddByScan
 refine wpAny_bind (wpAny_bind (wpAny_rule (wpAny_bind (wpAny_setScan_of isk gets data fit elems ?_))))
 cases found : List.findIdx? (fun e => (intKind prog w).is k e.2) es.toList with
 | some j =>
   dsimp only
   obtain ⟨hj, pj, _⟩ := List.findIdx?_eq_some_iff_getElem.mp found
   have mem : k ∈ es.toList.map fun e => Wg e.2 := List.mem_map.mpr ⟨es.toList[j], List.getElem_mem hj, zgd pj⟩
   refine wpAny_pure (wpAny_pure ?_)
   exact h false s.heap _ (Heap.SameBut.refl a s.heap) ⟨o, es, ep, t, ⟨gets, ex, data⟩, elems, ⟨fit, good⟩, rfl, nd⟩ (fun x => ⟨.inl, fun z => z.elim id fun e => e ▸ mem⟩) (Nat.le_succ _)
 | none =>
   dsimp only
   have new : k ∉ es.toList.map fun e => Wg e.2 := fun z => by
    obtain ⟨e, he, hv⟩ := List.mem_map.mp z
    obtain ⟨⟨k', hk', _⟩, _⟩ := elems e he
    have ek : k' = k := (zgd hk').symm.trans hv
    subst ek
    have := List.findIdx?_eq_none_iff.mp found e he
    rw [hk'] at this; cases this
   have perm := layNew_perm t es ((intKind prog w).hash k) (.int k tk)
   have fits := layNew_fits t es ((intKind prog w).hash k) (.int k tk)
   have good1 := zbB good es ((intKind prog w).hash k) (.int k tk)
   generalize layNew t es ((intKind prog w).hash k) (.int k tk) = L at perm fits good1 ⊢
   obtain ⟨es1, t1, wasDummy, gave⟩ := L
   dsimp only at perm fits good1 ⊢
   rw [Array.toList_push] at perm
   have elems1 : ElemsOf (intKind prog w) es1.toList := (elems.push isk rfl).perm perm
   have pm : (es1.toList.map fun e => Wg e.2).Perm ((es.toList.map fun e => Wg e.2) ++ [k]) := by
    have := perm.map fun e => Wg e.2
    rwa [List.map_append] at this
   have nd1 : (es1.toList.map fun e => Wg e.2).Nodup := by
    refine (pm.nodup_iff).mpr (List.nodup_append.mpr ⟨nd, by simp, fun x hx y hy => ?_⟩)
    rw [List.mem_singleton.mp hy]
    exact fun e => new (e ▸ hx)
   have len1 := pm.length_eq
   rw [List.length_append, List.length_singleton] at len1
   have sz1 : es1.size = (es1.toList.map fun e => Wg e.2).length := by simp
   have bound1 : es1.size < scanBound := by omega
   have mem1 : ∀ x, x ∈ (es1.toList.map fun e => Wg e.2) ↔ x ∈ (es.toList.map fun e => Wg e.2) ∨ x = k := fun x => by
    rw [pm.mem_iff, List.mem_append, List.mem_singleton]
   have g1 := zgj (es1 := es1) (t1 := t1) gets data
   have sb1 := Heap.SameBut.update s.heap a (Obj.putSet es1 t1)
   have perm2 := relayAll_perm t1 es1 (SetTable.grown es1.size)
   have fits2 := relayAll_fits t1 es1 (SetTable.grown es1.size)
   have good2 := US good1 es1 (SetTable.grown es1.size)
   have tail : ∀ {g : Bool → Sem Unit} {R : Option Bool → Shared → Prop}, (∀ (b : Bool) (s₁ : Shared) (Q' : Unit → Shared → Prop), Q' () s₁ → wpAny (model prog w) A (g b) Q' E s₁) →
    (∀ (h' : Heap) (ns' : List Int), Heap.SameBut a s.heap h' → Uc prog w h' a b ns' → (∀ x, x ∈ ns' ↔ x ∈ (es.toList.map fun e => Wg e.2) ∨ x = k) → ns'.length ≤ (es.toList.map fun e => Wg e.2).length + 1 → R (some true) { s with heap := h' }) →
    wpAny (model prog w) A (do
     storeSet a es1 t1
     if (!wasDummy && t1.tooFull) = true then do
         g (relayAll t1 es1 (SetTable.grown es1.size)).2.2
         storeSet a (relayAll t1 es1 (SetTable.grown es1.size)).1 (relayAll t1 es1 (SetTable.grown es1.size)).2.1
         pure (some true)
      else pure (some true)) R E s := fun {g R} hg hR => by
    refine wpAny_bind (wpAny_storeSet_of gets data ?_ (fits_of_scanBound bound1))
    split
    ·generalize relayAll t1 es1 (SetTable.grown es1.size) = L2 at perm2 fits2 good2 ⊢
     obtain ⟨es2, t2, gave2⟩ := L2
     dsimp only at perm2 fits2 good2 ⊢
     have p2 : (es2.toList.map fun e => Wg e.2).Perm (es1.toList.map fun e => Wg e.2) := perm2.map _
     have sz2 : es2.size = es1.size := by rw [← Array.length_toList, perm2.length_eq, Array.length_toList]
     have bound2 : es2.size < scanBound := by omega
     refine wpAny_bind (hg _ _ _ (wpAny_bind (wpAny_storeSet_of g1 rfl (wpAny_pure ?_) (fits_of_scanBound bound2))))
     refine hR _ _ (sb1.trans (Heap.SameBut.update _ a _)) ⟨_, es2, _, t2, ⟨zgj g1 rfl, ex, rfl⟩, elems1.perm perm2, ⟨fits2, good2⟩, rfl, p2.nodup_iff.mpr nd1⟩ (fun x => by rw [p2.mem_iff]; exact mem1 x) (by rw [p2.length_eq, len1]; exact Nat.le_refl _)
    ·exact wpAny_pure (hR _ _ sb1 ⟨_, es1, _, t1, ⟨g1, ex, rfl⟩, elems1, ⟨fits, good1⟩, rfl, nd1⟩ mem1 (by rw [len1]; exact Nat.le_refl _))
   have fin : ∀ (h' : Heap) (ns' : List Int), Heap.SameBut a s.heap h' → Uc prog w h' a b ns' → (∀ x, x ∈ ns' ↔ x ∈ (es.toList.map fun e => Wg e.2) ∨ x = k) → ns'.length ≤ (es.toList.map fun e => Wg e.2).length + 1 → Q true { s with heap := h' } := h true
   have pass : ∀ (c : Bool) (s₁ : Shared) (Q' : Unit → Shared → Prop), Q' () s₁ → wpAny (model prog w) A (match c with | true => rule "set.scan.the-table-gave-way" | false => pure ()) Q' E s₁ := fun c s₁ Q' q => by
    cases c
    ·exact wpAny_pure q
    ·exact wpAny_rule q
   refine wpAny_bind (pass _ _ _ ?_)
   have hv : hashByValue 8 (.int k tk) = pure true := rfl
   split
   ·refine wpAny_bind ?_
    rw [hv]
    refine wpAny_pure ?_
    exact tail (fun c s₁ Q' q => pass c s₁ Q' q) fun h' ns' x1 x2 x3 x4 => wpAny_pure (fin h' ns' x1 x2 x3 x4)
   ·refine wpAny_bind (wpAny_pure ?_)
    exact tail (fun c s₁ Q' q => pass c s₁ Q' q) fun h' ns' x1 x2 x3 x4 => wpAny_pure (fin h' ns' x1 x2 x3 x4)
def zdb (w : World) : Bool := !(w.params.followText "set-order")
def Yn (w : World) : Obj := { cls := .type "set", dict := none, data := .set #[] 0 (.fresh 0 0 (zdb w)) }
theorem zhO (x : Value) {R : Value → Shared → Prop} (k : R (.ref s.heap.objs.size) { s with heap := s.heap.push (Yn w) }) :
 codeAny (model prog w) A (.call (.builtin "set.__new__") ⟨[.type "set", x], []⟩) (wants R E) s := by
 refine codeAny_of_tree (show wpAny _ A.in1 (do checkBuiltinCall "set.__new__" ⟨[.type "set", x], []⟩; again (.builtin "set.__new__" ⟨[.type "set", x], []⟩)) _ _ s from ?_)
 refine wpAny_bind (wpAny_of_eq (F.newCall_set_1 x) (wpAny_pure ⟨plainId_quiet F.plain_set_new _, codeAny_builtin F.entry_set_new (by
  rw [Around.under_plainId F.plain_set_new _]
  unfold Builtin.«set.__new__» Builtin.Frozenset.newClass
  have sub := sub_set_self
  obtain ⟨hp, g, d, tk, os⟩ := s
  dsimp only
  wp_walk
  refine wpAny_askSetting (wpAny_pure ?_)
  dsimp only
  simp only [newObj]
  exact wpAny_bind (wpAny_alloc (wpAny_pure (wpAny_pure k))))⟩))
theorem Uc.fresh {h : Heap} {a : Addr} (gets : h.get? a = some (Yn w)) : Uc prog w h a (zdb w) [] :=
 ⟨_, #[], 0, _, ⟨gets, ⟨rfl, rfl, rfl⟩, rfl⟩, fun e he => by simp at he, ⟨rfl, by unfold Ris SetTable.fresh; exact List.Pairwise.nil, rfl⟩, rfl, List.nodup_nil⟩
theorem upd_T {I : Addr} {fp wr : List Addr} {G : Array GenState → Array GenState → Prop} {n : Nat} {P : Nat → Value → Prop} {St : Nat → Shared → Prop} {R : Result → Shared → Prop} {b : Bool}
 (W : WalksS prog w A.in1 I fp wr G n P St) (a : Addr) (out : a ∉ fp) (ns : List Int) (val : ∀ i v, P i v → ∃ k t, ns[i]? = some k ∧ v = .int k t) (few : n < 900) :
 ∀ (m i : Nat) (s : Shared) (T : List Int), n - i = m → i ≤ n → St i s → Uc prog w s.heap a b T → (∀ x, x ∈ T ↔ x ∈ ns.take i) → T.length ≤ i →
   (∀ s' T', Moved (a :: wr) G s s' → Uc prog w s'.heap a b T' → (∀ x, x ∈ T' ↔ x ∈ ns.take n) → T'.length ≤ n → R (.ok (.ret .none)) s') →
   codeAny (model prog w) A (.builtin "set.update.loop" ⟨[.ref a, .ref I], []⟩) R s := by
 have outW : a ∉ wr := fun z => out (W.sub _ z)
 have more : ∀ c ∈ wr, c ∈ a :: wr := fun c hc => List.mem_cons_of_mem _ hc
 intro m
 induction m with
 | zero =>
   intro i s T hm hi st hT hx hl hR
   have e : i = n := by omega
   subst e
   refine codeAny_builtin PyProof.Rows.F.entry_set_update_loop ?_
   rw [Around.under_plainId PyProof.Rows.F.plain_set_update_loop _]
   show wpAny _ A.in1 (pyNext (.ref I) >>= _) _ _ s
   exact wpAny_bind (W.done s _ _ st fun s' mv => wpAny_pure (hR s' T (mv.mono more) (hT.kept fun o => mv.heap a o outW) hx hl))
 | succ m ih =>
   intro i s T hm hi st hT hx hl hR
   have lt : i < n := by omega
   refine codeAny_builtin PyProof.Rows.F.entry_set_update_loop ?_
   rw [Around.under_plainId PyProof.Rows.F.plain_set_update_loop _]
   show wpAny _ A.in1 (pyNext (.ref I) >>= _) _ _ s
   refine wpAny_bind (W.item i s _ _ lt st fun v s' hP st' mv => ?_)
   obtain ⟨k, tk, hk, rfl⟩ := val i v hP
   show wpAny _ A.in1 (holding [Value.int k tk] (setAdd a (.int k tk)) >>= _) _ _ s'
   refine wpAny_bind (wpAny_holding ?_)
   unfold setAdd
   refine wpAny_holding (wpAny_bind ((intKind prog w).pyHash (k := k) (intKind_is _ _ _ _) ?_))
   refine add_T (b := b) (ns := T) (s := { s' with toks := s'.toks + 1 }) (hT.kept fun o => mv.heap a o outW) (by omega) fun r h' T' sb hT' hx' hl' => ?_
   refine wpAny_pure ⟨plainId_quiet PyProof.Rows.F.plain_set_update_loop _, ih (i + 1) _ T' (by omega) lt (W.frame _ s' _ _ st' (Nat.le_succ _) fun c hc o e => ?_) hT' (fun x => ?_) (by omega) fun s'' T'' mv'' hT'' hx'' hl'' => ?_⟩
   ·rw [sb.2 c (fun z : c = a => out (by rw [← z]; exact hc))]; exact e
   ·rw [hx' x, hx x, List.take_add_one, hk]
    simp
   ·refine hR s'' T'' (Moved.trans W.gtrans ((mv.mono more).then_heap (Nat.le_succ _) fun c o hc e => ?_) mv'') hT'' hx'' hl''
    rw [sb.2 c (fun z : c = a => hc (by rw [z]; exact List.mem_cons_self))]; exact e
set_option maxHeartbeats 8000000 in
theorem zc5 {l : Addr} {items : Array Value} {ns : List Int} {Q : Value → Shared → Prop} (quiet : A.handled = none) (hl : s.heap.IsList l items) (hi : PyProof.Rows.IntsAre items.toList ns) (few : items.size < 900)
 (k : ∀ (h' : Heap) (tk : Nat) (T : List Int), Uc prog w h' s.heap.objs.size (zdb w) T → (∀ x, x ∈ T ↔ x ∈ ns) → T.length ≤ ns.length → (∀ b o, b < s.heap.objs.size → s.heap.get? b = some o → h'.get? b = some o) → Q (.ref s.heap.objs.size) { s with heap := h', toks := tk }) :
 wpAny (model prog w) A (call (.type "set") [.ref l]) Q E s := by
 have lenN : items.size = ns.length := by have := hi.length; simpa using this
 obtain ⟨c1, tl1, mro1⟩ := F.called_set.mro
 have made1 := F.called_set.made
 have sub1 := F.called_set.sub
 refine wpAny_call (codeAny_of_tree (show wpAny _ _ (callAny (.type "set") _) _ _ _ from ?_))
 refine wpAny_pure ⟨Code.quiet_builtin _ (by decide +kernel), codeAny_builtin F.entry_type_call ?_⟩
 rw [Around.under_plain (weight_type_call_type "set" [.ref l] []) rfl]
 have nt1 := F.called_set.notType
 have cc1 := F.called_set.canCreate
 have ct1 := F.typeCall_set_1 (.ref l)
 repeat any_goals (first | wp_step | assumption)
 refine codeAny_mono (zhO (.ref l) (E := E) (R := fun obj s₁ => obj = .ref s.heap.objs.size ∧ s₁ = { s with heap := s.heap.push (Yn w) }) ⟨rfl, rfl⟩) fun r s₁ hr => ?_
 cases r with
 | error e => exact hr
 | ok fl =>
   cases fl with
   | ret obj =>
     obtain ⟨rfl, rfl⟩ := hr
     have gets : (s.heap.push (Yn w)).get? s.heap.objs.size = some (Yn w) := Heap.get?_push_size _ rfl
     have ty : Shared.TypeIs { s with heap := s.heap.push (Yn w) } (.ref s.heap.objs.size) "set" := ⟨_, gets, rfl⟩
     have lk1 := F.called_set.init.lookup
     have bd1 := F.called_set.init.bind (.ref s.heap.objs.size)
     repeat any_goals (first | wp_step | assumption)
     refine codeAny_mono (codeAny_call_builtin (R := wants (fun r s₂ => r = .none ∧ ∃ h' tk T, s₂ = { s with heap := h', toks := tk } ∧ Uc prog w h' s.heap.objs.size (zdb w) T ∧ (∀ x, x ∈ T ↔ x ∈ ns) ∧ T.length ≤ ns.length ∧
      (∀ b o, b < s.heap.objs.size → s.heap.get? b = some o → h'.get? b = some o)) E) F.called_set.init.plain F.entry_set_init (check_set_init_1 ty ?_)) fun r₂ s₂ hr₂ => ?_
     ·obtain ⟨ol, gol, clsl, nl, datl⟩ := hl
      obtain ⟨ocls, odict, odata, oslots⟩ := ol
      simp only at clsl datl
      subst clsl; subst datl
      have gol1 : (s.heap.push (Yn w)).get? l = some { cls := .type "list", dict := odict, data := .seq items nl, slots := oslots } := Heap.get?_push_of_some _ gol
      have sls := F.sub_list_set
      have slf := F.sub_list_frozenset
      have nd1 : (Value.type "list" == Value.type "dict") = false := by decide
      have il1 : (s.heap.push (Yn w)).IsList l items := ⟨_, gol1, rfl, nl, rfl⟩
      have fr1 := gets
      unfold Yn at fr1 gol1
      unfold Builtin.«set.__init__» noKeywords Builtin.Frozenset.updateFrom
      generalize hPI : pyIter = PI
      wp_walk
      subst hPI
      refine wpAny_pyIter_list il1 (wpAny_bind (wpAny_runValue ?_))
      have lts : l < s.heap.objs.size := Heap.lt_size gol
      have q3 : A.in1.in1.in1.handled = none := by simp [quiet]
      have szp : (s.heap.push (Yn w)).objs.size = s.heap.objs.size + 1 := Heap.size_push ..
      have neI : l ≠ (s.heap.push (Yn w)).objs.size := by rw [szp]; exact Nat.ne_of_lt (Nat.lt_succ_of_lt lts)
      have out : s.heap.objs.size ∉ [(s.heap.push (Yn w)).objs.size, l] := by
       rw [szp]
       intro z
       rcases List.mem_cons.mp z with z | z
       ·exact absurd z (Nat.ne_of_lt (Nat.lt_succ_self _))
       ·exact absurd (List.mem_singleton.mp z) (Nat.ne_of_gt lts)
      refine upd_T (b := zdb w) ((Walks.list q3 _ l neI items).toS) s.heap.objs.size out ns (fun i v hv => ?_) few (items.size - 0) 0 _ [] (by omega) (Nat.zero_le _) ⟨⟨_, Heap.get?_push_size _ rfl, rfl, rfl⟩, il1.push _⟩ (Uc.fresh (Heap.get?_push_of_some _ gets)) (fun x => by simp) (Nat.zero_le _) fun s' T' mv hT' hx' hl' => ?_
      ·have hv' : items.toList[i]? = some v := by rw [Array.getElem?_toList]; exact hv
       obtain ⟨t, ht⟩ := PyProof.Rows.IntsAre.int_at hi i v hv'
       have lt : i < ns.length := by
        have := (List.getElem?_eq_some_iff.mp hv').1
        rw [Array.length_toList] at this
        omega
       refine ⟨ns.getD i 0, t, ?_, ht⟩
       rw [List.getD_eq_getElem?_getD, List.getElem?_eq_getElem lt]; rfl
      ·obtain ⟨h', g', d', tk', os'⟩ := s'
       have eg : g' = s.gens := mv.gens
       have ed : d' = s.drawn := mv.drawn
       have eo : os' = s.os := mv.os
       subst eg; subst ed; subst eo
       show wpAny _ _ _ _ _ _
       refine wpAny_pure (show wpAny _ _ (ret Value.none) _ _ _ from wpAny_pure ⟨rfl, h', tk', T', rfl, hT', fun x => ?_, by omega, fun b o hb e => ?_⟩)
       ·rw [hx' x, List.take_of_length_le (by omega)]
       ·refine mv.heap b o (fun z => ?_) (Heap.get?_push_of_some _ (Heap.get?_push_of_some _ e))
        rcases List.mem_cons.mp z with z | z
        ·exact absurd z (Nat.ne_of_lt hb)
        ·rw [List.mem_singleton.mp z, szp] at hb
         exact absurd hb (Nat.not_lt.mpr (Nat.le_succ _))
     ·cases r₂ with
      | error e => exact hr₂
      | ok fl₂ =>
        cases fl₂ with
        | ret r =>
          obtain ⟨rfl, h', tk, T, rfl, hT, hx, hlT, keep⟩ := hr₂
          repeat any_goals (first | wp_step | assumption)
          exact k _ _ T hT hx hlT keep
        | _ => exact hr₂.elim
   | _ => exact hr.elim
end
end S
namespace S
open PySem
theorem zd6 : Manifest.owners.lookup (String.ofList ['r', 'o', 't', 'a', 'r', 'e', 't', 'i', '_', 't', 'e', 's'].reverse) = some Manifest.sig_set_iterator := by kernel_rfl
theorem Zu (x : Value) : argsOk "set_iterator.__next__" ⟨[x], []⟩ := by
 unfold argsOk
 rw [signature?_of (id := "set_iterator.__next__") (n := ['_', '_', 't', 'x', 'e', 'n', '_', '_']) (o := ['r', 'o', 't', 'a', 'r', 'e', 't', 'i', '_', 't', 'e', 's']) (by kernel_rfl) zd6]
 kernel_rfl
theorem yi : Slot "set_iterator" "__next__" "set_iterator.__next__" := .of (owner := "set_iterator") (n := "__next__") (by rw [typeLookup_type, builtinLookup_eq_fast]; kernel_rfl) (by decide +kernel) (by decide +kernel) (by decide +kernel) (by first | exact .inl (by decide +kernel) | exact .inr (by decide +kernel)) (by rw [isSubtype_type]; kernel_rfl)
theorem Zi : entryFor table "set_iterator.__next__" = some Builtin.«set_iterator.__next__» := entryFor_of_tree (by kernel_rfl)
theorem Xw : Slot "set_iterator" "__iter__" "set_iterator.__iter__" := .of (owner := "set_iterator") (n := "__iter__") (by rw [typeLookup_type, builtinLookup_eq_fast]; kernel_rfl) (by decide +kernel) (by decide +kernel) (by decide +kernel) (by first | exact .inl (by decide +kernel) | exact .inr (by decide +kernel)) (by rw [isSubtype_type]; kernel_rfl)
theorem zal (x : Value) : argsOk "set_iterator.__iter__" ⟨[x], []⟩ := by
 unfold argsOk
 rw [signature?_of (id := "set_iterator.__iter__") (n := ['_', '_', 'r', 'e', 't', 'i', '_', '_']) (o := ['r', 'o', 't', 'a', 'r', 'e', 't', 'i', '_', 't', 'e', 's']) (by kernel_rfl) zd6]
 kernel_rfl
theorem Ua : entryFor table "set_iterator.__iter__" = some Builtin.«dict_keyiterator.__iter__» := entryFor_alias (id' := "dict_keyiterator.__iter__") (by kernel_rfl) rfl (by decide +kernel) (by kernel_rfl)
theorem Ub : entryFor table "set.__iter__" = some Builtin.«frozenset.__iter__» := entryFor_alias (id' := "frozenset.__iter__") (by kernel_rfl) rfl (by decide +kernel) (by kernel_rfl)
theorem WC {α : Type} : ∀ {xs : List α} {i : Nat} (h : i < xs.length), (xs[i] :: xs.eraseIdx i).Perm xs
 | [], i, h => by simp at h
 | x :: xs, 0, h => List.Perm.refl _
 | x :: xs, i + 1, h => by
   have ih := WC (xs := xs) (i := i) (by simpa using h)
   exact (List.Perm.swap _ _ _).trans (ih.cons x)
section
variable {prog : Program} {w : World} {A : Around} {E : Value → Shared → Prop} {s : Shared}
theorem zc3 {src : Source} {n : Nat} {Q : Nat → Shared → Prop} (hn : n ≠ 0) (k : ∀ i d, i < n → Q i { s with drawn := d }) : wpAny (model prog w) A (choose src n) Q E s := fun Γ p hΓ => by
 show Sem.wp _ _ (Sem.choose src n _) _ _ _ _
 rw [Sem.wp_choose]
 exact ⟨hn, k _ _ (Nat.mod_lt _ (by omega))⟩
theorem zgE {α : Type} : ∀ (n : Nat) (xs : List α) (s : Shared) (Q : List α → Shared → Prop), xs.length = n → (∀ d ys, ys.Perm xs → Q ys { s with drawn := d }) → wpAny (model prog w) A (drawOrder n xs) Q E s
 | 0, [], s, Q, _, k => by rw [drawOrder]; exact wpAny_pure (k s.drawn [] (List.Perm.refl _))
 | n + 1, x :: xs, s, Q, hl, k => by
   rw [drawOrder]
   ·refine wpAny_bind (zc3 (by simp) fun i d hi => ?_)
    have e : (x :: xs)[i]? = some (x :: xs)[i] := List.getElem?_eq_getElem hi
    rw [e]
    dsimp only
    refine wpAny_bind (zgE n _ _ _ (by rw [List.length_eraseIdx, if_pos hi, hl]; rfl) fun d2 ys hp => wpAny_pure (k d2 _ ?_))
    have hc := List.Perm.cons (x :: xs)[i] hp
    refine hc.trans ?_
    exact WC hi
   ·intro z; cases z
 | 0, _ :: _, s, Q, h, _ => by simp at h
 | _ + 1, [], s, Q, h, _ => by simp at h
structure SetD (prog : Program) (w : World) (oS : Obj) (es : Array (Int × Value)) (ep : Nat) (t : SetTable) : Prop where
 ex : oS.ExactSet
 data : oS.data = .set es ep t
 elems : ElemsOf (intKind prog w) es.toList
 fit : t.fits es.size = true
 good : zbP (zdb w) t
theorem zc9 {xs : Array Nat} (h : Ris xs) : SetTable.below xs 0 = 0 := by
 obtain ⟨b1, b2, b3⟩ := Xb h 0
 rcases Nat.eq_zero_or_pos (SetTable.below xs 0) with z | z
 ·exact z
 ·have : xs[0]? = some (xs[0]'(by omega)) := by simp
  exact absurd (b2 0 _ z this) (Nat.not_lt_zero _)
theorem zda {xs : Array Nat} (h : Ris xs) {i j : Nat} (hj : xs[i]? = some j) : SetTable.below xs (j + 1) = i + 1 := by
 obtain ⟨b1, b2, b3⟩ := Xb h (j + 1)
 have li : i < xs.size := (Array.getElem?_eq_some_iff.mp hj).1
 rcases Nat.lt_trichotomy (SetTable.below xs (j + 1)) (i + 1) with z | z | z
 ·have := b3 i j (by omega) hj; omega
 ·exact z
 ·have l2 : i + 1 < xs.size := by omega
  have h2 : xs[i + 1]? = some xs[i + 1] := by simp [l2]
  have := b2 (i + 1) _ z h2
  have := h.lt (Nat.lt_succ_self i) hj h2
  omega
def byT (w : World) : Bool := w.params.followText "set-order"
def zam (w : World) (a : Addr) (ep : Nat) (es : Array (Int × Value)) : Array (Int × Value) := if byT w = true then pickOrder (w.params.setOrder a ep) es else es
def stT (w : World) (t : SetTable) (i slot : Nat) : Prop := byT w = true ∨ SetTable.below t.place slot = i
theorem zaU {α : Type} (f : Nat → Nat) : ∀ (n k : Nat) (left : List α) (out : Array α), left.length = n → (pickOrder.go f n k left out).toList.Perm (out.toList ++ left)
 | 0, k, [], out, _ => by rw [pickOrder.go]; simp
 | 0, k, _ :: _, out, h => by simp at h
 | n + 1, k, [], out, h => by simp at h
 | n + 1, k, x :: left, out, h => by
   rw [pickOrder.go]
   have hi : f k % (x :: left).length < (x :: left).length := Nat.mod_lt _ (by simp)
   rw [List.getElem?_eq_getElem hi]
   dsimp only
   have ih := zaU f n (k + 1) ((x :: left).eraseIdx (f k % (x :: left).length)) (out.push (x :: left)[f k % (x :: left).length]) (by rw [List.length_eraseIdx, if_pos hi, h]; rfl)
   refine ih.trans ?_
   rw [Array.toList_push, List.append_assoc]
   exact (WC hi).append_left _
theorem XT (w : World) (a : Addr) (ep : Nat) (es : Array (Int × Value)) : (zam w a ep es).toList.Perm es.toList := by
 unfold zam
 split
 ·unfold pickOrder
  have := zaU (w.params.setOrder a ep) es.size 0 es.toList #[] (by simp)
  simpa using this
 ·exact List.Perm.refl _
section
variable {a : Addr} {oS : Obj} {es : Array (Int × Value)} {ep : Nat} {t : SetTable} {slot i : Nat}
theorem zbM {Q : Bool → Shared → Prop} (k : Q (byT w) s) : wpAny (model prog w) A setsByText Q E s := by
 unfold setsByText
 exact wpAny_bind (wpAny_askSetting (wpAny_pure k))
theorem zdg {Q : Array (Int × Value) → Shared → Prop} (gets : s.heap.get? a = some oS) (D : SetD prog w oS es ep t) (hb : byT w = true) (k : Q (pickOrder (w.params.setOrder a ep) es) s) : wpAny (model prog w) A (setWalk a) Q E s := by
 unfold setWalk
 refine wpAny_bind (wpAny_setState_of gets D.data D.fit ?_)
 dsimp only
 refine wpAny_bind (zbM ?_)
 rw [hb, if_pos rfl]
 exact wpAny_bind (wpAny_askSetting (wpAny_pure k))
theorem zgv {Q : Option (Value × Nat) → Shared → Prop} (gets : s.heap.get? a = some oS) (D : SetD prog w oS es ep t) (pl : byT w = true ∨ (t.plain = true ∨ es.size ≤ 1)) (st : stT w t i slot)
 (k1 : ∀ e slot', (zam w a ep es)[i]? = some e → stT w t (i + 1) slot' → Q (some (e.2, slot')) s) (k2 : es.size ≤ i → Q none s) : wpAny (model prog w) A (setNext a slot i ep) Q E s := by
 have osz : (zam w a ep es).size = es.size := by
  have := (XT w a ep es).length_eq
  simpa using this
 unfold setNext
 refine wpAny_bind (wpAny_setState_of gets D.data D.fit ?_)
 dsimp only
 refine wpAny_bind (zbM ?_)
 cases hb : byT w with
 | true =>
   rw [if_pos rfl, if_neg (by simp)]
   refine wpAny_bind (zdg gets D hb (wpAny_pure ?_))
   have eo : zam w a ep es = pickOrder (w.params.setOrder a ep) es := by unfold zam; rw [if_pos hb]
   rw [← eo]
   by_cases c : i < (zam w a ep es).size
   ·have e : (zam w a ep es)[i]? = some (zam w a ep es)[i] := by simp [c]
    rw [e]
    exact k1 _ slot e (.inl hb)
   ·rw [Array.getElem?_eq_none (by omega)]
    exact k2 (by omega)
 | false =>
   have st' : SetTable.below t.place slot = i := st.resolve_left (by rw [hb]; exact Bool.false_ne_true)
   have pl' := pl.resolve_left (by rw [hb]; exact Bool.false_ne_true)
   rw [if_neg Bool.false_ne_true]
   split
   ·rename_i z
    exfalso
    have z' : (!t.plain && decide (es.size > 1)) = true := z
    rw [Bool.and_eq_true, decide_eq_true_eq] at z'
    rcases pl' with p | p
    ·rw [p] at z'; exact Bool.false_ne_true z'.1
    ·omega
   have led : t.led = true := by
    have := D.good.2
    unfold zdb at this
    rw [this, show w.params.followText "set-order" = false from hb]; rfl
   refine wpAny_bind (show wpAny _ _ (if (!t.led && !es.isEmpty) = true then unsupported "set:maker-not-led" else pure ()) _ _ s from ?_)
   rw [led, if_neg (by simp)]
   refine wpAny_pure (wpAny_pure ?_)
   rw [st']
   have eo : zam w a ep es = es := by unfold zam; rw [if_neg (by rw [hb]; exact Bool.false_ne_true)]
   have psz : t.place.size = es.size := by
    have := D.fit
    unfold SetTable.fits at this
    rw [Bool.and_eq_true] at this
    simpa using this.1
   by_cases c : i < es.size
   ·have e : es[i]? = some es[i] := by simp [c]
    have ep' : t.place[i]? = some (t.place[i]'(by omega)) := by simp
    rw [e, ep']
    exact k1 es[i] _ (by rw [eo]; exact e) (.inr (zda D.good.1 ep'))
   ·rw [Array.getElem?_eq_none (show es.size ≤ i by omega)]
    exact k2 (by omega)
end
end
end S
namespace S
open PySem
section
variable {prog : Program} {w : World} {A : Around} {E : Value → Shared → Prop} {s : Shared} {a I : Addr} {oS : Obj} {es : Array (Int × Value)} {ep : Nat} {t : SetTable} {slot i : Nat}
def ItF (h : Heap) (I : Addr) (vs : Array Value) : Prop := ∃ o, h.get? I = some o ∧ o.cls = .type "set_iterator" ∧ o.data = .fields vs
theorem ItF.ty {vs : Array Value} (x : ItF s.heap I vs) : s.TypeIs (.ref I) "set_iterator" := let ⟨_, e, c, _⟩ := x; ⟨_, e, c⟩
theorem ItF.set {h : Heap} {vs : Array Value} (x : ItF h I vs) (j : Nat) (v : Value) : ItF (h.update I (Obj.mapFields (·.setIfInBounds j v))) I (vs.setIfInBounds j v) := by
 obtain ⟨o, e, c, d⟩ := x
 exact ⟨_, Heap.get?_update_self _ e (Obj.isFreed_of_fields (Obj.data_mapFields d _)), (Obj.cls_mapFields ..).trans c, Obj.data_mapFields d _⟩
theorem zfd {Q : Option Value → Shared → Prop} (x : ItF s.heap I #[.int slot 0, .int i 0, .ref a, .int es.size 0, .int ep 0]) (ne : a ≠ I) (gets : s.heap.get? a = some oS) (D : SetD prog w oS es ep t) (pl : byT w = true ∨ (t.plain = true ∨ es.size ≤ 1)) (st : stT w t i slot) (hi : i < es.size)
 (k1 : ∀ e slot' h', (zam w a ep es)[i]? = some e → stT w t (i + 1) slot' → ItF h' I #[.int slot' 0, .int (i + 1 : Nat) 0, .ref a, .int es.size 0, .int ep 0] → Heap.SameBut I s.heap h' → Q (some e.2) { s with heap := h' }) : wpAny (model prog w) A (pyNext (.ref I)) Q E s := by
 have x' := x
 obtain ⟨o, go, gc, gd⟩ := x'
 unfold pyNext
 refine wpAny_bind (wpAny_attempt (wpAny_callSpecial?_slot (name := Str.ofString "__next__") x.ty yi (wpAny_call_entry yi x.ty Zi ?_ (Zu _))))
 unfold Builtin.«set_iterator.__next__»
 refine wpAny_bind (wpAny_pure ?_)
 refine wpAny_bind (wpAny_fieldsOf go gd ?_)
 dsimp only
 refine wpAny_bind (wpAny_setEntries_of gets D.data D.fit ?_)
 rw [if_neg (by simp)]
 refine wpAny_bind (zgv (slot := slot) (i := i) gets D pl st (fun e slot' he hst => ?_) (fun z => absurd hi (by omega)))
 dsimp only
 refine wpAny_bind (wpAny_setField go gd (by simp) ?_)
 have x1 := x.set 0 (rawInt (slot' : Nat))
 have x2 := x1.set 1 (rawInt ((i : Int) + 1))
 obtain ⟨o1, go1, gc1, gd1⟩ := x1
 refine wpAny_bind (wpAny_setField go1 gd1 (by simp) ?_)
 refine wpAny_pure ⟨_, rfl, wpAny_pure (k1 e slot' _ he hst ?_ ((Heap.SameBut.update ..).trans (Heap.SameBut.update ..)))⟩
 simpa [rawInt] using x2
theorem zgk {j : Nat} {x : Value} {h1 : Heap} {Q : Option Value → Shared → Prop} (quiet : A.handled = none) (k : ∀ h', (∀ b o, h1.get? b = some o → h'.get? b = some o) → Q none { s with heap := h' }) :
 wpAny (model prog w) A.in1 (newExc (.type "StopIteration") [] >>= fun e => (raiseNew e : Sem Fin)) (fun fin s' => ∃ v, fin = Fin.done (Flow.ret v) ∧ wpAny (model prog w) A (pure (some v)) Q E s')
  (fun e s' => wpAny (model prog w) A (isInstance e (Value.type "StopIteration") >>= fun b => if b = true then pure none else throw e) Q E s') { s with heap := h1 } := by
 refine wpAny_bind ?_
 simp only [newExc, newTuple]
 refine wpAny_bind (wpAny_newObj_type (wpAny_bind (m := firstArgMember _ _) (wpAny_of_eq (a := Value.none) (by first | rfl | (simp only [firstArgMember]; rfl)) (wpAny_newObj_type ?_ (by size_fits)))) (by size_fits))
 simp only [raiseNew]
 refine wpAny_bind (wpAny_handled ?_)
 rw [show A.in1.handled = none from quiet]
 refine' wpAny_bind (wpAny_pure (wpAny_throw ?told))
 case told =>
  refine' wpAny_bind (wpAny_isInstance (T := "StopIteration") (b := true) ⟨_, Heap.get?_push_size _ rfl, rfl⟩ isSubtype_stop ?yes)
  case yes => exact wpAny_pure (k _ fun b o e => Heap.get?_push_of_some _ (Heap.get?_push_of_some _ e))
theorem zfe {Q : Option Value → Shared → Prop} (quiet : A.handled = none) (x : ItF s.heap I #[.int slot 0, .int i 0, .ref a, .int es.size 0, .int ep 0]) (gets : s.heap.get? a = some oS) (D : SetD prog w oS es ep t) (pl : byT w = true ∨ (t.plain = true ∨ es.size ≤ 1)) (st : stT w t i slot) (hi : es.size ≤ i)
 (k : ∀ h', (∀ b o, b ≠ I → s.heap.get? b = some o → h'.get? b = some o) → Q none { s with heap := h' }) : wpAny (model prog w) A (pyNext (.ref I)) Q E s := by
 have osz : (zam w a ep es).size = es.size := by
  have := (XT w a ep es).length_eq
  simpa using this
 have x' := x
 obtain ⟨o, go, gc, gd⟩ := x'
 unfold pyNext
 refine wpAny_bind (wpAny_attempt (wpAny_callSpecial?_slot (name := Str.ofString "__next__") x.ty yi (wpAny_call_entry yi x.ty Zi ?_ (Zu _))))
 unfold Builtin.«set_iterator.__next__»
 refine wpAny_bind (wpAny_pure (wpAny_bind (wpAny_fieldsOf go gd ?_)))
 dsimp only
 refine wpAny_bind (wpAny_setEntries_of gets D.data D.fit ?_)
 rw [if_neg (by simp)]
 refine wpAny_bind (zgv (slot := slot) (i := i) gets D pl st (fun e slot' he hst => ?_) (fun _ => ?_))
 ·have := (Array.getElem?_eq_some_iff.mp he).1
  exact absurd this (by have z : (zam w a ep es).size = es.size := osz
                        show ¬ i < (zam w a ep es).size
                        omega)
 dsimp only
 refine wpAny_bind (wpAny_setField go gd (by simp) ?_)
 exact zgk (j := 0) (x := .none) quiet fun h' keep => k h' fun b o hb e => keep b o ((Heap.SameBut.update s.heap I _).extBut b o hb e)
theorem zb2 {vs : Array Value} {Q : Value → Shared → Prop} (x : ItF s.heap I vs) (k : Q (.ref I) s) : wpAny (model prog w) A (pyIter (.ref I)) Q E s := by
 refine wpAny_pyIter_slot x.ty Xw (wpAny_call_entry Xw x.ty Ua (show wpAny _ _ (ret (.ref I)) _ _ s from ?_) (zal _))
 exact wpAny_pure ⟨_, rfl, "set_iterator", _, x.ty, yi.lookup, k⟩
theorem zdw {tp : Addr} {pls : List Nat} {oT : Obj} {nT p : Nat} {e : Int × Value} {Q : Option Value → Shared → Prop} (x : ItF s.heap I #[.ref tp, .int i 0, .ref a, .int es.size 0, .int ep 0]) (gt : s.heap.get? tp = some oT) (gtd : oT.data = .seq (pls.map fun (p : Nat) => rawInt p).toArray nT)
 (gets : s.heap.get? a = some oS) (D : SetD prog w oS es ep t) (hp : pls[i]? = some p) (he : es[p]? = some e)
 (k1 : ∀ h', ItF h' I #[.ref tp, .int (i + 1 : Nat) 0, .ref a, .int es.size 0, .int ep 0] → Heap.SameBut I s.heap h' → Q (some e.2) { s with heap := h' }) : wpAny (model prog w) A (pyNext (.ref I)) Q E s := by
 have x' := x
 obtain ⟨o, go, gc, gd⟩ := x'
 unfold pyNext
 refine wpAny_bind (wpAny_attempt (wpAny_callSpecial?_slot (name := Str.ofString "__next__") x.ty yi (wpAny_call_entry yi x.ty Zi ?_ (Zu _))))
 unfold Builtin.«set_iterator.__next__»
 refine wpAny_bind (wpAny_pure (wpAny_bind (wpAny_fieldsOf go gd ?_)))
 dsimp only
 refine wpAny_bind (wpAny_setEntries_of gets D.data D.fit ?_)
 rw [if_neg (by simp)]
 refine wpAny_bind (show wpAny _ _ (load tp >>= _) _ _ s from wpAny_bind (wpAny_load gt ?_))
 rw [gtd]
 refine wpAny_pure ?_
 dsimp only
 have ei : (pls.map fun (p : Nat) => rawInt p).toArray[(i : Int).toNat]? = some (rawInt p) := by
  rw [Int.toNat_natCast, List.getElem?_toArray, List.getElem?_map, hp]; rfl
 rw [ei]
 show wpAny _ _ (setNextDrawn a (p : Int).toNat (ep : Int).toNat >>= _) _ _ s
 refine wpAny_bind ?_
 unfold setNextDrawn
 refine wpAny_bind (wpAny_setState_of gets D.data D.fit ?_)
 dsimp only
 rw [Int.toNat_natCast, Int.toNat_natCast, if_neg (by simp), he]
 refine wpAny_bind (wpAny_pure (wpAny_pure ?_))
 refine wpAny_bind (wpAny_setField go gd (by simp) ?_)
 have x2 := x.set 1 (rawInt ((i : Int) + 1))
 refine wpAny_pure ⟨_, rfl, wpAny_pure (k1 _ ?_ (Heap.SameBut.update ..))⟩
 simpa [rawInt] using x2
theorem zdx {tp : Addr} {pls : List Nat} {oT : Obj} {nT : Nat} {Q : Option Value → Shared → Prop} (quiet : A.handled = none) (x : ItF s.heap I #[.ref tp, .int i 0, .ref a, .int es.size 0, .int ep 0]) (gt : s.heap.get? tp = some oT) (gtd : oT.data = .seq (pls.map fun (p : Nat) => rawInt p).toArray nT)
 (gets : s.heap.get? a = some oS) (D : SetD prog w oS es ep t) (hp : pls.length ≤ i)
 (k : ∀ h', (∀ b o, b ≠ I → s.heap.get? b = some o → h'.get? b = some o) → Q none { s with heap := h' }) : wpAny (model prog w) A (pyNext (.ref I)) Q E s := by
 have x' := x
 obtain ⟨o, go, gc, gd⟩ := x'
 unfold pyNext
 refine wpAny_bind (wpAny_attempt (wpAny_callSpecial?_slot (name := Str.ofString "__next__") x.ty yi (wpAny_call_entry yi x.ty Zi ?_ (Zu _))))
 unfold Builtin.«set_iterator.__next__»
 refine wpAny_bind (wpAny_pure (wpAny_bind (wpAny_fieldsOf go gd ?_)))
 dsimp only
 refine wpAny_bind (wpAny_setEntries_of gets D.data D.fit ?_)
 rw [if_neg (by simp)]
 refine wpAny_bind (show wpAny _ _ (load tp >>= _) _ _ s from wpAny_bind (wpAny_load gt ?_))
 rw [gtd]
 refine wpAny_pure ?_
 dsimp only
 have ei : (pls.map fun (p : Nat) => rawInt p).toArray[(i : Int).toNat]? = none := by
  rw [Int.toNat_natCast, List.getElem?_toArray, List.getElem?_map, List.getElem?_eq_none hp]; rfl
 rw [ei]
 dsimp only
 refine wpAny_bind (wpAny_setField go gd (by simp) ?_)
 have x1 := x.set 0 (rawInt 0)
 obtain ⟨o1, go1, gc1, gd1⟩ := x1
 refine wpAny_bind (wpAny_setField go1 gd1 (by simp) ?_)
 exact zgk (j := 0) (x := .none) quiet fun h' keep => k h' fun b o hb e => keep b o (((Heap.SameBut.update s.heap I _).trans (Heap.SameBut.update _ I _)).extBut b o hb e)
end
end S
namespace S
open PySem
section
variable {prog : Program} {w : World} {A : Around} {E : Value → Shared → Prop} {s : Shared} {a I : Addr} {oS : Obj} {es : Array (Int × Value)} {ep : Nat} {t : SetTable} {slot i : Nat}
theorem ItF.at {h h' : Heap} {vs : Array Value} (x : ItF h I vs) (k : ∀ o, h.get? I = some o → h'.get? I = some o) : ItF h' I vs := let ⟨o, e, r⟩ := x; ⟨o, k o e, r⟩
theorem zdf (quiet : A.handled = none) (ne : a ≠ I) (D : SetD prog w oS es ep t) (pl : byT w = true ∨ (t.plain = true ∨ es.size ≤ 1)) :
 Walks prog w A I [I, a] [I] es.size (fun i v => ∃ e, (zam w a ep es)[i]? = some e ∧ v = e.2) (fun i h => (∃ slot, stT w t i slot ∧ ItF h I #[.int (slot : Nat) 0, .int (i : Nat) 0, .ref a, .int es.size 0, .int ep 0]) ∧ h.get? a = some oS) where
 sub := fun b hb => by rw [List.mem_singleton.mp hb]; exact List.mem_cons_self
 frame := fun i h h' st keep => ⟨let ⟨sl, h1, h2⟩ := st.1; ⟨sl, h1, h2.at fun o e => keep I List.mem_cons_self o e⟩, keep a (by simp) _ st.2⟩
 item := fun i s Q E hi st k => by
  obtain ⟨⟨sl, h1, h2⟩, h3⟩ := st
  refine zfd h2 ne h3 D pl h1 hi fun e slot' h' he hst x sb => ?_
  exact k e.2 h' s.toks ⟨e, he, rfl⟩ ⟨⟨slot', hst, x⟩, sb.extBut a _ ne h3⟩ fun b o hb e => sb.extBut b o (fun z => hb (by rw [z]; exact List.mem_singleton.mpr rfl)) e
 done := fun s Q E st k => by
  obtain ⟨⟨sl, h1, h2⟩, h3⟩ := st
  exact zfe quiet h2 h3 D pl h1 (Nat.le_refl _) fun h' keep => k h' s.toks fun b o hb e => keep b o (fun z => hb (by rw [z]; exact List.mem_singleton.mpr rfl)) e
 self := fun i s Q E st k => let ⟨sl, h1, h2⟩ := st.1; zb2 h2 k
theorem zbj {tp : Addr} {pls : List Nat} {oT : Obj} {nT : Nat} (quiet : A.handled = none) (ne : a ≠ I) (ne2 : tp ≠ I) (D : SetD prog w oS es ep t) (gtd : oT.data = .seq (pls.map fun (p : Nat) => rawInt p).toArray nT) (hp : ∀ p ∈ pls, p < es.size) :
 Walks prog w A I [I, a, tp] [I] pls.length (fun i v => ∃ p e, pls[i]? = some p ∧ es[p]? = some e ∧ v = e.2) (fun i h => ItF h I #[.ref tp, .int (i : Nat) 0, .ref a, .int es.size 0, .int ep 0] ∧ h.get? a = some oS ∧ h.get? tp = some oT) where
 sub := fun b hb => by rw [List.mem_singleton.mp hb]; exact List.mem_cons_self
 frame := fun i h h' st keep => ⟨st.1.at fun o e => keep I List.mem_cons_self o e, keep a (by simp) _ st.2.1, keep tp (by simp) _ st.2.2⟩
 item := fun i s Q E hi st k => by
  have e1 := List.getElem?_eq_getElem hi
  have lt := hp _ (List.getElem_mem hi)
  have e2 : es[pls[i]]? = some es[pls[i]] := by simp [lt]
  refine zdw st.1 st.2.2 gtd st.2.1 D e1 e2 fun h' x sb => ?_
  exact k _ h' s.toks ⟨_, _, e1, e2, rfl⟩ ⟨x, sb.extBut a _ ne st.2.1, sb.extBut tp _ ne2 st.2.2⟩ fun b o hb e => sb.extBut b o (fun z => hb (by rw [z]; exact List.mem_singleton.mpr rfl)) e
 done := fun s Q E st k => zdx quiet st.1 st.2.2 gtd st.2.1 D (Nat.le_refl _) fun h' keep => k h' s.toks fun b o hb e => keep b o (fun z => hb (by rw [z]; exact List.mem_singleton.mpr rfl)) e
 self := fun i s Q E st k => zb2 st.1 k
def WalkOk (prog : Program) (w : World) (h : Heap) (I a : Addr) (lo : Nat) (ns : List Int) : Prop :=
 ∃ (fp : List Addr) (n : Nat) (P : Nat → Value → Prop) (St : Nat → Heap → Prop) (os : List Int), St 0 h ∧ I ∈ fp ∧ (∀ b ∈ fp, b < h.objs.size ∧ (b = a ∨ lo ≤ b)) ∧ n = os.length ∧ os.Perm ns ∧ (∀ i v, P i v → ∃ tk k, os[i]? = some k ∧ v = .int k tk) ∧ ∀ A' : Around, A'.handled = none → Walks prog w A' I fp [I] n P St
theorem zcr (D : SetD prog w oS es ep t) {e : Int × Value} (he : e ∈ es.toList) : ∃ tk, e.2 = .int (Wg e.2) tk := by
 obtain ⟨⟨k, hk, _⟩, _⟩ := D.elems e he
 obtain ⟨tk, h⟩ := Value.isInt_shape hk
 exact ⟨tk, by rw [h]; rfl⟩
theorem zdV {α β : Type} (g : α → β) (d : α) (l : List α) : (List.range l.length).map (fun i => g (l.getD i d)) = l.map g := by
 apply List.ext_getElem
 ·simp
 ·intro i h1 h2
  simp at h1
  simp [h1]
theorem iter_T {ns : List Int} {Q : Value → Shared → Prop} (T : Uc prog w s.heap a (zdb w) ns) (few : ns.length < 1000)
 (k : ∀ (h' : Heap) (d) (I : Addr), (∀ b o, s.heap.get? b = some o → h'.get? b = some o) → s.heap.objs.size ≤ I → I < h'.objs.size → h'.objs.size ≤ s.heap.objs.size + 2 → WalkOk prog w h' I a s.heap.objs.size ns → Q (.ref I) { s with heap := h', drawn := d }) :
 wpAny (model prog w) A (pyIter (.ref a)) Q E s := by
 obtain ⟨o, es, ep, t, ⟨gets, ex, data⟩, elems, ⟨fit, good⟩, rfl, nd⟩ := T
 have D : SetD prog w o es ep t := ⟨ex, data, elems, fit, good⟩
 have ty : s.TypeIs (.ref a) "set" := ⟨_, gets, ex.1⟩
 have la : a < s.heap.objs.size := Heap.lt_size gets
 refine wpAny_pyIter_slot ty F.slot_set_iter (wpAny_call_entry F.slot_set_iter ty Ub ?_ (F.args_set_iter_1 _))
 unfold Builtin.«frozenset.__iter__» Builtin.Frozenset.slot0 Builtin.Frozenset.sizeOf
 refine wpAny_bind (wpAny_bind (wpAny_pure (show wpAny _ _ (pure a) _ _ s from wpAny_pure ?_)))
 refine wpAny_bind (wpAny_bind (wpAny_setEntries_of gets data fit (wpAny_pure ?_)))
 unfold setDrawn
 refine wpAny_bind (wpAny_bind (wpAny_setState_of gets data fit ?_))
 dsimp only
 refine wpAny_bind (zbM (wpAny_pure ?_))
 have vals : ∀ l : List (Int × Value), l.Perm es.toList → (l.map fun e => Wg e.2).Perm (es.toList.map fun e => Wg e.2) := fun l p => p.map _
 have szn : es.size < 1000 := by simpa using few
 split
 ·refine wpAny_bind (zgE es.size (List.range es.size) _ _ List.length_range fun d ys hp => ?_)
  have ly : ys.length = es.size := by rw [hp.length_eq, List.length_range]
  simp only [newTuple]
  refine wpAny_bind (wpAny_newObj_type ?_ (by
   show (List.map _ ys).toArray.size ≤ sizeLine
   rw [sizeLine_eq, List.size_toArray, List.length_map]; omega))
  dsimp only
  have g1 : (s.heap.push { cls := .type "tuple", data := .seq (ys.map fun (p : Nat) => rawInt p).toArray }).get? a = some o := Heap.get?_push_of_some _ gets
  have gt : (s.heap.push { cls := .type "tuple", data := .seq (ys.map fun (p : Nat) => rawInt p).toArray }).get? s.heap.objs.size = some { cls := .type "tuple", data := .seq (ys.map fun (p : Nat) => rawInt p).toArray } := Heap.get?_push_size _ rfl
  have sz1 : (s.heap.push { cls := .type "tuple", data := .seq (ys.map fun (p : Nat) => rawInt p).toArray }).objs.size = s.heap.objs.size + 1 := Heap.size_push ..
  generalize hh1 : s.heap.push { cls := .type "tuple", data := .seq (ys.map fun (p : Nat) => rawInt p).toArray } = h1 at g1 gt sz1 ⊢
  have k1 : ∀ b o, s.heap.get? b = some o → h1.get? b = some o := fun b o e => by rw [← hh1]; exact Heap.get?_push_of_some _ e
  refine wpAny_bind (wpAny_setEpoch_of (s := { s with heap := h1, drawn := d }) g1 data fit ?_)
  simp only [newFields]
  refine wpAny_bind (wpAny_newObj_type (wpAny_pure ⟨_, rfl, "set_iterator", _, ⟨_, Heap.get?_push_size _ rfl, rfl⟩, yi.lookup, ?_⟩))
  refine k _ d _ (fun b o e => Heap.get?_push_of_some _ (k1 b o e)) (by show _ ≤ h1.objs.size; rw [sz1]; exact Nat.le_succ _) (by rw [Heap.size_push]; exact Nat.lt_succ_self _) (by rw [Heap.size_push, sz1]; exact Nat.le_refl _) ?_
  have nea : a ≠ h1.objs.size := by rw [sz1]; exact Nat.ne_of_lt (Nat.lt_succ_of_lt la)
  have net : s.heap.objs.size ≠ h1.objs.size := by rw [sz1]; exact Nat.ne_of_lt (Nat.lt_succ_self _)
  have hpl : ∀ p ∈ ys, p < es.size := fun p hp' => by
   have := hp.mem_iff.mp hp'
   exact List.mem_range.mp this
  refine ⟨[h1.objs.size, a, s.heap.objs.size], ys.length, _, _, ys.map fun p => Wg (es.toList.getD p (0, .none)).2, ⟨⟨_, Heap.get?_push_size _ rfl, rfl, rfl⟩, Heap.get?_push_of_some _ g1, Heap.get?_push_of_some _ gt⟩, List.mem_cons_self, fun b hb => ?_, (List.length_map ..).symm, ?_, fun i v hv => ?_, fun A' q => zbj q nea net D rfl hpl⟩
  ·rw [Heap.size_push]
   rcases List.mem_cons.mp hb with z | hb
   ·rw [z]; exact ⟨Nat.lt_succ_self _, .inr (by rw [sz1]; exact Nat.le_succ _)⟩
   rcases List.mem_cons.mp hb with z | hb
   ·rw [z, sz1]; exact ⟨Nat.lt_succ_of_lt (Nat.lt_succ_of_lt la), .inl rfl⟩
   ·rw [List.mem_singleton.mp hb, sz1]; exact ⟨Nat.lt_succ_of_lt (Nat.lt_succ_self _), .inr (Nat.le_refl _)⟩
  ·have p1 := hp.map fun p => Wg (es.toList.getD p (0, .none)).2
   have e := zdV (fun e : Int × Value => Wg e.2) (0, .none) es.toList
   rw [Array.length_toList] at e
   rw [e] at p1
   exact p1
  ·obtain ⟨p, e, h1', h2', rfl⟩ := hv
   have me : e ∈ es.toList := List.mem_of_getElem? (i := p) (by simpa using h2')
   obtain ⟨tk, ht⟩ := zcr D me
   refine ⟨tk, Wg e.2, ?_, ht⟩
   have eg : es.toList.getD p (0, .none) = e := by rw [List.getD_eq_getElem?_getD, Array.getElem?_toList, h2']; rfl
   rw [List.getElem?_map, h1']
   show some (Wg (es.toList.getD p (0, .none)).2) = _
   rw [eg]
 ·rename_i z
  have pl : byT w = true ∨ (t.plain = true ∨ es.size ≤ 1) := by
   have z' : ¬ (!byT w && (!t.plain && decide (es.size > 1))) = true := z
   cases h1 : byT w with
   | true => exact .inl rfl
   | false =>
     cases h2 : t.plain with
     | true => exact .inr (.inl rfl)
     | false =>
       right; right
       rw [h1, h2] at z'
       simp at z'
       exact z'
  refine wpAny_bind (wpAny_pure (wpAny_bind (wpAny_setEpoch_of gets data fit ?_)))
  simp only [newFields]
  refine wpAny_bind (wpAny_newObj_type (wpAny_pure ⟨_, rfl, "set_iterator", _, ⟨_, Heap.get?_push_size _ rfl, rfl⟩, yi.lookup, ?_⟩))
  refine k _ s.drawn _ (fun b o e => Heap.get?_push_of_some _ e) (Nat.le_refl _) (by rw [Heap.size_push]; exact Nat.lt_succ_self _) (by rw [Heap.size_push]; exact Nat.le_succ _) ?_
  have osz : (zam w a ep es).size = es.size := by
   have := (XT w a ep es).length_eq
   simpa using this
  refine ⟨[s.heap.objs.size, a], es.size, _, _, (zam w a ep es).toList.map fun e => Wg e.2, ⟨⟨0, Or.inr (zc9 good.1), _, Heap.get?_push_size _ rfl, rfl, rfl⟩, Heap.get?_push_of_some _ gets⟩, List.mem_cons_self, fun b hb => ?_, by rw [List.length_map, Array.length_toList, osz], vals _ (XT w a ep es), fun i v hv => ?_, fun A' q => zdf q (Nat.ne_of_lt la) D pl⟩
  ·rw [Heap.size_push]
   rcases List.mem_cons.mp hb with z | hb
   ·rw [z]; exact ⟨Nat.lt_succ_self _, .inr (Nat.le_refl _)⟩
   ·rw [List.mem_singleton.mp hb]; exact ⟨Nat.lt_succ_of_lt la, .inl rfl⟩
  ·obtain ⟨e, he, rfl⟩ := hv
   have me : e ∈ es.toList := (XT w a ep es).mem_iff.mp (List.mem_of_getElem? (i := i) (by simpa using he))
   obtain ⟨tk, ht⟩ := zcr D me
   refine ⟨tk, Wg e.2, ?_, ht⟩
   rw [List.getElem?_map, Array.getElem?_toList, he]; rfl
end
end S
namespace S
open PySem
section
variable {prog : Program} {w : World} {A : Around} {E : Value → Shared → Prop} {s : Shared} {a I : Addr}
theorem hint_T {ns : List Int} {Q : Bool → Shared → Prop} (ty : s.TypeIs (.ref a) "set") (k : Q false s) : wpAny (model prog w) A (Builtin.List.listLengthHint (.ref a)) Q E s := by
 unfold Builtin.List.listLengthHint
 refine wpAny_bind (wpAny_specialOf ty F.slot_set_len.lookup ?_)
 dsimp only
 rw [show splitId "set.__len__" = some ("set", "__len__") by decide +kernel]
 dsimp only
 refine wpAny_bind (wpAny_isInstance ty sub_set_self ?_)
 rw [if_neg (by simp), if_pos (by decide +kernel)]
 exact wpAny_bind (wpAny_typeOf ty (wpAny_pure k))
theorem zev : ∀ {vs : List Value} {os : List Int}, vs.length = os.length → (∀ (j : Nat) (v : Value), vs[j]? = some v → ∃ tk k, os[j]? = some k ∧ v = Value.int k tk) → PyProof.Rows.IntsAre vs os
 | [], [], _, _ => .nil
 | v :: vs, k :: os, hl, h => by
   obtain ⟨tk, k', h1, rfl⟩ := h 0 v rfl
   cases h1
   exact .cons k tk (zev (by simpa using hl) fun j v hv => by
    obtain ⟨tk, k, h1, h2⟩ := h (j + 1) v (by simpa using hv)
    exact ⟨tk, k, by simpa using h1, h2⟩)
 | [], _ :: _, h, _ => by simp at h
 | _ :: _, [], h, _ => by simp at h
theorem zeN {ns : List Int} {Q : List Value → Shared → Prop} (quiet : A.handled = none) (T : Uc prog w s.heap a (zdb w) ns) (few : ns.length < 1000)
 (k : ∀ (h' : Heap) (d) (tk : Nat) (vs : List Value) (os : List Int), (∀ b o, s.heap.get? b = some o → h'.get? b = some o) → s.heap.objs.size < h'.objs.size → PyProof.Rows.IntsAre vs os → os.Perm ns → Q vs { s with heap := h', drawn := d, toks := tk }) : wpAny (model prog w) A (collect (.ref a)) Q E s := by
 have la : a < s.heap.objs.size := let ⟨_, _, _, _, ⟨g, _⟩, _⟩ := T; Heap.lt_size g
 unfold collect
 refine wpAny_bind (wpAny_runValue (codeAny_builtin PySem.F.entry_proto_collect ?_))
 rw [Around.under_plainId PySem.F.plain_proto_collect _]
 show wpAny _ A.in1 (newList [] >>= fun l => again (.builtin "list.__iadd__" ⟨[l, .ref a], []⟩)) _ _ s
 refine wpAny_bind (wpAny_newObj_type (wpAny_pure ⟨plainId_quiet PySem.F.plain_list_iadd _, codeAny_builtin PySem.F.entry_list_iadd ?_⟩))
 rw [Around.under_plainId PySem.F.plain_list_iadd _]
 show wpAny _ A.in1 (Builtin.List.listExtendWith (.ref s.heap.objs.size) (.ref a) (.ref s.heap.objs.size)) _ _ _
 unfold Builtin.List.listExtendWith
 generalize hh1 : s.heap.push { cls := .type "list", data := .seq ([] : List Value).toArray } = h1
 have g1 : h1.get? s.heap.objs.size = some { cls := .type "list", data := .seq ([] : List Value).toArray } := by rw [← hh1]; exact Heap.get?_push_size _ rfl
 have sz1 : h1.objs.size = s.heap.objs.size + 1 := by rw [← hh1]; exact Heap.size_push ..
 have k1 : ∀ b o, s.heap.get? b = some o → h1.get? b = some o := fun b o e => by rw [← hh1]; exact Heap.get?_push_of_some _ e
 have T1 : Uc prog w h1 a (zdb w) ns := T.kept fun o e => k1 a o e
 have ty1 : Shared.TypeIs { s with heap := h1 } (.ref a) "set" := let ⟨_, _, _, _, ⟨g, x, _⟩, _⟩ := T1; ⟨_, g, x.1⟩
 have ne : s.heap.objs.size ≠ a := Nat.ne_of_gt la
 refine wpAny_bind (wpAny_typeOf (s := { s with heap := h1 }) ty1 ?_)
 have c1 : Builtin.List.listSameRef (.ref s.heap.objs.size) (.ref a) = false := by unfold Builtin.List.listSameRef; simpa using ne
 rw [c1, show (Value.type "set" == Value.type "list") = false by decide, show (Value.type "set" == Value.type "tuple") = false by decide, if_neg (by simp)]
 refine wpAny_bind (iter_T (s := { s with heap := h1 }) T1 few fun h2 d I k2 lI hI sz2 W => ?_)
 dsimp only at k2 lI sz2
 have T2 : Uc prog w h2 a (zdb w) ns := T1.kept fun o e => k2 a o e
 have ty2 : Shared.TypeIs { s with heap := h2, drawn := d } (.ref a) "set" := let ⟨_, _, _, _, ⟨g, x, _⟩, _⟩ := T2; ⟨_, g, x.1⟩
 refine wpAny_bind (wpAny_holding (hint_T (ns := ns) (s := { s with heap := h2, drawn := d }) ty2 ?_))
 rw [if_pos (by decide +kernel)]
 refine wpAny_bind (wpAny_rule ?_)
 have g2 := k2 _ _ g1
 have g3 := Heap.get?_update_self (Obj.mapSeq (·.push Value.none)) g2 rfl
 have g4 := Heap.get?_update_self (Obj.mapSeq (·.pop)) g3 rfl
 refine wpAny_bind (show wpAny _ A.in1 (updateSeq s.heap.objs.size (·.push .none) >>= fun _ => updateSeq s.heap.objs.size (·.pop)) _ _ _ from wpAny_bind (wpAny_updateSeq g2 rfl (wpAny_updateSeq g3 rfl ?_)))
 obtain ⟨fp, n, P, St, os, st0, mI, bfp, hn, perm, val, Wk⟩ := W
 have out : s.heap.objs.size ∉ fp := fun z => by
  rcases (bfp _ z).2 with e | e
  ·exact ne e
  ·dsimp only at e
   rw [sz1] at e
   exact absurd e (Nat.not_le.mpr (Nat.lt_succ_self _))
 have nsz : n ≤ sizeLine := by
  have := perm.length_eq
  rw [sizeLine_eq]; omega
 have oth : ∀ b o, b ≠ s.heap.objs.size → h2.get? b = some o → ((h2.update s.heap.objs.size (Obj.mapSeq (·.push Value.none))).update s.heap.objs.size (Obj.mapSeq (·.pop))).get? b = some o :=
  fun b o hb e => (Heap.get?_update_other _ _ (Ne.symm hb)).trans ((Heap.get?_update_other _ _ (Ne.symm hb)).trans e)
 have WS := (Wk A.in1 (by simp [quiet])).toS
 refine wpAny_pure ⟨plainId_quiet PySem.F.plain_extend_loop _, codeAny_extend_loopS WS nsz _ out _ n 0 _ _ _ rfl (Nat.zero_le _) ((Wk A.in1 (by simp [quiet])).frame 0 h2 _ st0 fun b hb o e => oth b o (fun z => out (z ▸ hb)) e) g4 (ItemsOf.nil P) fun s' acc c mv gS items => ?_⟩
 refine (show wpAny _ A (load s.heap.objs.size >>= _) _ _ s' from wpAny_bind (wpAny_load gS (wpAny_pure ?_)))
 obtain ⟨h', g', d', tk', os'⟩ := s'
 have eg : g' = s.gens := mv.gens
 have ed : d' = d := mv.drawn
 have eo : os' = s.os := mv.os
 subst eg; subst ed; subst eo
 refine k h' d' tk' acc.toList os (fun b o e => ?_) (Heap.lt_size gS) (zev ?_ fun j v hv => ?_) perm
 ·have hb : b < s.heap.objs.size := Heap.lt_size e
  refine mv.heap b o (fun z => ?_) (oth b o (Nat.ne_of_lt hb) (k2 b o (k1 b o e)))
  rcases List.mem_cons.mp z with z | z
  ·exact absurd hb (by rw [z]; exact Nat.lt_irrefl _)
  ·rw [List.mem_singleton.mp z] at hb
   rw [sz1] at lI
   exact absurd hb (Nat.not_lt.mpr (Nat.le_trans (Nat.le_succ _) lI))
 ·rw [Array.length_toList, items.1, hn]
 ·obtain ⟨tk, kk, h1', h2'⟩ := val j v (items.2 j v (by simpa using hv))
  exact ⟨tk, kk, h1', h2'⟩
theorem zfc {ns : List Int} {Q : Value → Shared → Prop} (quiet : A.handled = none) (T : Uc prog w s.heap a (zdb w) ns) (few : ns.length < 64)
 (k : ∀ (h' : Heap) (d) (tk : Nat) (L : Addr) (out : Array Value) (os : List Int) (e : Nat), (∀ b o, s.heap.get? b = some o → h'.get? b = some o) → s.heap.objs.size ≤ L → h'.get? L = some (PyProof.Rows.seqObj "list" out e) → PyProof.Rows.IntsAre out.toList os → os.Perm ns → os.Pairwise (· ≤ ·) → Q (.ref L) { s with heap := h', drawn := d, toks := tk }) :
 wpAny (model prog w) A (call (.builtin "sorted") [.ref a]) Q E s := by
 refine Calls.call_function_entry PyProof.Rows.kind_sorted PyProof.Rows.plain_sorted PyProof.Rows.entry_sorted (PyProof.Rows.args_sorted1 _) ?_
 unfold Builtin.«sorted»
 refine wpAny_bind (m := checkCount "sorted" 1 1 _) (wpAny_pure (wpAny_bind (zeN (by simp [quiet]) T (by omega) fun h1 d tk vs os keep lt isI perm => wpAny_bind (wpAny_newList ?_ (by rw [sizeLine_eq, isI.length, perm.length_eq]; omega)))))
 have gL : (h1.push (PyProof.Rows.seqObj "list" vs.toArray 0)).get? h1.objs.size = some (PyProof.Rows.seqObj "list" vs.toArray 0) := Heap.get?_push_size _ rfl
 have lv : vs.length < 64 := by
  have e1 := isI.length
  have e2 := perm.length_eq
  omega
 show wpAny _ _ _ _ _ { s with heap := h1.push (PyProof.Rows.seqObj "list" vs.toArray 0), drawn := d, toks := tk }
 refine wpAny_bind (wpAny_holding (wpAny_call_entry PyProof.Rows.slot_list_sort ⟨_, gL, rfl⟩ PyProof.Rows.entry_list_sort (PyProof.Rows.list_sort_tree (s := { s with heap := h1.push (PyProof.Rows.seqObj "list" vs.toArray 0), drawn := d, toks := tk }) gL isI lv fun out os' a1 a2 a3 => ⟨_, rfl, ?_⟩) (PyProof.Rows.args_list_sort _)))
 obtain ⟨e, he⟩ := PyProof.Rows.sortedHeap_at (out := out) gL
 refine wpAny_pure ⟨_, rfl, k _ d tk _ out os' e (fun b o g => ?_) (Nat.le_of_lt lt) he a1 (a2.trans perm) a3⟩
 have lb : b < h1.objs.size := Heap.lt_size (keep b o g)
 rw [PyProof.Rows.sortedHeap_old (Nat.ne_of_lt lb) (by rw [Heap.size_push]; exact Nat.lt_succ_of_lt lb)]
 exact Heap.get?_push_of_some _ (keep b o g)
end
end S
namespace S
open PySem PySem.Spec PyProof.Rows L2
theorem Uc.nodup {prog : Program} {w : World} {h : Heap} {a : Addr} {b : Bool} {ns : List Int} (T : Uc prog w h a b ns) : ns.Nodup := let ⟨_, _, _, _, _, _, _, _, nd⟩ := T; nd
theorem bt_set : bootBuiltins "set" = some (.type "set") := by decide +kernel
theorem zc8 : bootBuiltins "sorted" = some (.builtin "sorted") := by decide +kernel
theorem le_lt : ∀ {l : List Int}, l.Pairwise (· ≤ ·) → l.Nodup → l.Pairwise (· < ·)
 | [], _, _ => List.Pairwise.nil
 | x :: l, h, nd => by
   obtain ⟨h1, h2⟩ := List.pairwise_cons.mp h
   obtain ⟨n1, n2⟩ := List.nodup_cons.mp nd
   refine List.pairwise_cons.mpr ⟨fun y hy => ?_, le_lt h2 n2⟩
   have := h1 y hy
   have : x ≠ y := fun e => n1 (e ▸ hy)
   omega
section
variable {X : Cx}
theorem Inv.redrawn {pins : List (Addr × Obj)} {σ : L2.St} {H : Hp} {s : Shared} {d : Drawn} (I : Inv X pins σ H s) : Inv X pins σ H { s with drawn := d } := ⟨I.ok, I.os, I.bare, I.base, I.loc, I.cell, I.free, I.freeC, I.pin, I.hok, I.len⟩
def zdW (K : PySem.W.Frag) : V → Hp → VK → Prop := fun x H1 Q => ∃ (p : Addr) (ns : List Int), x = .ref p ∧ SqL K H1 p (ns.map V.int) ∧ ns.length < 60 ∧ ∀ (os : List Int) (l : Addr), os.Pairwise (· < ·) → (∀ k, k ∈ os ↔ k ∈ ns) → H1 l = none → Q (.ref l) (upd H1 l (.lst (os.map V.int)))
def zgf (K : PySem.W.Frag) (te : TE) : TE := fun σ H Q => te σ H fun x H1 => zdW K x H1 Q
theorem WF : ∀ {ns : List Int} {us : List Value}, IntsAre us ns → xA (ns.map V.int) us
 | [], _, .nil => .nil
 | n :: ns, _, .cons _ t r => .cons ⟨t, rfl⟩ (WF r)
theorem zfy {e : Expr} {te : TE} {p1 p2 q1 q2 : Pos} (hc : X.calm = true) (g1 : Gl X "sorted") (m1 : X.mg "sorted" = none) (g2 : Gl X "set") (m2 : X.mg "set" = none) (he : PE X e te)
 (st1 : starEach [.Call (.Name "set" p2) [e] [] q2] X.env = [(false, eval (.Call (.Name "set" p2) [e] [] q2) X.env)] := by rfl) (st2 : starEach [e] X.env = [(false, eval e X.env)] := by rfl) :
 PE X (.Call (.Name "sorted" p1) [.Call (.Name "set" p2) [e] [] q2] [] q1) (zgf X.K te) := by
 intro pins s σ H Q I h
 refine wpAny_Call_Name_kw (XW I g1 m1 zc8 ?_ (by decide) (by decide))
 refine PyProof.Rows.callWith_builtin1 ?_ st1 (by rfl)
 rw [st1]
 show wpAny _ _ (spliced ((false, eval (.Call (.Name "set" p2) [e] [] q2) X.env) :: backTo q1 (starEach [] X.env))) _ _ s
 refine Calls.spliced_cons ?_
 refine wpAny_Call_Name_kw (XW I g2 m2 bt_set ?_ (by decide) (by decide))
 refine PyProof.Rows.callWith_type1 (thn ((zd he zh st2) q2 pins s σ H (fun vs H1 => match vs with | [x] => zdW X.K x H1 Q | _ => False) I h) fun us s1 ⟨vs, H1, I1, r1, r2⟩ => ?_) st2 (by rfl)
 match vs, r1, r2 with
 | [x], r1, r2 =>
   obtain ⟨p, ns, rfl, hq, few, k⟩ := r2
   obtain ⟨u, rfl, rx⟩ := VT r1
   cases rx
   obtain ⟨its, rv, pl, _⟩ := I1.list hq
   have hi := YY rv
   have hl := hi.length
   have quiet := I1.ok.hd hc
   refine zc5 quiet pl.isList (by simpa using hi) (by simpa using (by omega : its.length < 900)) fun h2 tk2 T hT hx hlT keep2 => ?_
   refine Calls.spliced_nil ?_
   have kp2 : ∀ b o, s1.heap.get? b = some o → h2.get? b = some o := fun b o e => keep2 b o (Heap.lt_size e) e
   have I2 : Inv X pins σ H1 { s1 with heap := h2, toks := tk2 } := I1.kept (t' := tk2) kp2
   refine zfc (s := { s1 with heap := h2, toks := tk2 }) quiet hT (by omega) fun h3 d tk3 L out os e keep3 le gL isO perm sorted => ?_
   have I3 := Inv.redrawn (d := d) I2
   have nd : os.Nodup := perm.nodup_iff.mpr hT.nodup
   have lo := isO.length
   have po := perm.length_eq
   have I4 : Inv X pins σ (upd H1 L (.lst (os.map V.int))) { s1 with heap := h3, drawn := d, toks := tk3 } := I3.laid (t' := tk3) keep3 le (show Zv X.prog X.w _ _ _ (.lst (os.map V.int)) from ⟨?_, out.toList, e, WF isO, ?_⟩)
   ·exact ⟨.ref L, _, I4, rfl, k os L (le_lt sorted nd) (fun x => by rw [perm.mem_iff]; exact hx x) (I2.hok.fresh le)⟩
   ·rw [List.length_map, sizeLine_eq]; omega
   ·simpa using gL
end
end S
namespace S
open PySem PySem.Spec PyProof.Rows L2
section
variable {X : Cx}
def rMinT (K : PySem.W.Frag) : List V → Hp → VK → Prop := fun xs H Q => ∃ (p : Addr) (ns : List Int), xs = [.ref p] ∧ SqT K H p (ns.map V.int) ∧ 0 < ns.length ∧ ∀ m, m ∈ ns → (∀ x ∈ ns, m ≤ x) → Q (.int m) H
def rMaxL (K : PySem.W.Frag) : List V → Hp → VK → Prop := fun xs H Q => ∃ (p : Addr) (ns : List Int), xs = [.ref p] ∧ SqL K H p (ns.map V.int) ∧ 0 < ns.length ∧ ∀ m, m ∈ ns → (∀ x ∈ ns, x ≤ m) → Q (.int m) H
theorem Vc {its : List Value} {ns : List Int} (hi : IntsAre its ns) : ∀ (i : Nat) (v : Value), its.toArray[i]? = some v → ∃ t, v = .int ((fun i => ns.getD i 0) i) t := fun i v hv => PyProof.Rows.IntsAre.int_at hi i v (by simpa using hv)
theorem zeQ (hc : X.calm = true) : YG X (.builtin "min") (rMinT X.K) := by
 intro pins s σ H xs us Q I r h
 obtain ⟨p, ns, rfl, hq, hne, q⟩ := h
 obtain ⟨u, rfl, rx⟩ := VT r
 cases rx
 obtain ⟨its, rv, ht, hz⟩ := I.tuple hq
 have hi := YY rv
 have hl := hi.length
 have below : p ≠ s.heap.objs.size := let ⟨_, e, _⟩ := ht; Nat.ne_of_lt (Heap.lt_size e)
 refine call_min_walk (wpAny_pyIter_tuple ht ⟨_, _, _, _, _, _, _, rfl, Walks.tuple (A := X.A.in1) (I.ok.hd hc) _ p below its.toArray, ⟨⟨_, Heap.get?_push_size _ rfl, rfl, rfl⟩, ht.push _⟩, fun b hb => ?_, by simpa using (by omega : 0 < its.length), CmpOf.ints_lt (fun i => ns.getD i 0) (Vc hi), fun v h' tk hP hk => ?_⟩)
 ·rw [Heap.size_push]
  rcases List.mem_cons.mp hb with z | z
  ·rw [z]; exact Nat.lt_succ_self _
  ·rw [List.mem_singleton.mp z]
   obtain ⟨_, e, _⟩ := ht
   exact Nat.lt_succ_of_lt (Heap.lt_size e)
 ·obtain ⟨t, rfl⟩ := Vc hi _ v hP
  obtain ⟨h1, h2⟩ := argBest_lt (fun i => ns.getD i 0) (its.toArray.size - 1)
  have szn : its.toArray.size = ns.length := by simpa using hl
  rw [szn] at h1 h2
  rw [szn]
  refine ⟨.int _, H, I.kept (t' := tk) fun b o e => hk b o (fun z => ?_) (Heap.get?_push_of_some _ e), ⟨t, rfl⟩, q _ ?_ fun x hx => ?_⟩
  ·rw [List.mem_singleton.mp z] at e
   exact absurd (Heap.lt_size e) (Nat.lt_irrefl _)
  ·dsimp only
   rw [List.getD_eq_getElem?_getD, List.getElem?_eq_getElem (by omega)]
   exact List.getElem_mem _
  ·obtain ⟨j, hj, rfl⟩ := List.getElem_of_mem hx
   have := h2 j (by omega)
   rwa [show ns.getD j 0 = ns[j] by rw [List.getD_eq_getElem?_getD, List.getElem?_eq_getElem hj]; rfl] at this
theorem zeS (hc : X.calm = true) : YG X (.builtin "max") (rMaxL X.K) := by
 intro pins s σ H xs us Q I r h
 obtain ⟨p, ns, rfl, hq, hne, q⟩ := h
 obtain ⟨u, rfl, rx⟩ := VT r
 cases rx
 obtain ⟨its, rv, pl, hz⟩ := I.list hq
 have ht := pl.isList
 have hi := YY rv
 have hl := hi.length
 have below : p ≠ s.heap.objs.size := let ⟨_, e, _⟩ := ht; Nat.ne_of_lt (Heap.lt_size e)
 refine call_max_walk (wpAny_pyIter_list ht ⟨_, _, _, _, _, _, _, rfl, Walks.list (A := X.A.in1) (I.ok.hd hc) _ p below its.toArray, ⟨⟨_, Heap.get?_push_size _ rfl, rfl, rfl⟩, ht.push _⟩, fun b hb => ?_, by simpa using (by omega : 0 < its.length), CmpOf.ints_gt (fun i => ns.getD i 0) (Vc hi), fun v h' tk hP hk => ?_⟩)
 ·rw [Heap.size_push]
  rcases List.mem_cons.mp hb with z | z
  ·rw [z]; exact Nat.lt_succ_self _
  ·rw [List.mem_singleton.mp z]
   obtain ⟨_, e, _⟩ := ht
   exact Nat.lt_succ_of_lt (Heap.lt_size e)
 ·obtain ⟨t, rfl⟩ := Vc hi _ v hP
  obtain ⟨h1, h2⟩ := argBest_gt (fun i => ns.getD i 0) (its.toArray.size - 1)
  have szn : its.toArray.size = ns.length := by simpa using hl
  rw [szn] at h1 h2
  rw [szn]
  refine ⟨.int _, H, I.kept (t' := tk) fun b o e => hk b o (fun z => ?_) (Heap.get?_push_of_some _ e), ⟨t, rfl⟩, q _ ?_ fun x hx => ?_⟩
  ·rw [List.mem_singleton.mp z] at e
   exact absurd (Heap.lt_size e) (Nat.lt_irrefl _)
  ·dsimp only
   rw [List.getD_eq_getElem?_getD, List.getElem?_eq_getElem (by omega)]
   exact List.getElem_mem _
  ·obtain ⟨j, hj, rfl⟩ := List.getElem_of_mem hx
   have := h2 j (by omega)
   rwa [show ns.getD j 0 = ns[j] by rw [List.getD_eq_getElem?_getD, List.getElem?_eq_getElem hj]; rfl] at this
end
end S
namespace S
open PySem PySem.Spec PyProof.Rows L2
theorem zat {m : Nat} {k a b c : zm} (hab : a.1 < b.1) (lk : k.2.length = m) (la : a.2.length = m) (h1 : yM k a b) (h2 : yM a b c) : yM k b c := fun i K B C hK hB hC => by
 have hi : i < m := by rw [← lk]; exact (List.getElem?_eq_some_iff.mp hK).1
 have hA := List.getElem?_eq_getElem (l := a.2) (i := i) (by omega)
 have e1 := h1 i K _ B hK hA hB
 have e2 := h2 i _ B C hA hB hC
 generalize a.2[i] = A at *
 have e3 : (B - K) * (b.1 - a.1) = (B - A) * (b.1 - k.1) := by grind
 have e4 : (C - K) * (b.1 - a.1) = (B - A) * (c.1 - k.1) := by grind
 have e5 : ((B - K) * (c.1 - k.1) - (C - K) * (b.1 - k.1)) * (b.1 - a.1) = 0 := by
  have : ((B - K) * (c.1 - k.1) - (C - K) * (b.1 - k.1)) * (b.1 - a.1) = ((B - K) * (b.1 - a.1)) * (c.1 - k.1) - ((C - K) * (b.1 - a.1)) * (b.1 - k.1) := by grind
  rw [this, e3, e4]; grind
 have := xM e5 (WG hab)
 grind
theorem zcu {m : Nat} {c d : zm} {e : Rat} (lc : c.2.length = m) (ld : d.2.length = m) : (WE c d e).length = m := by
 unfold WE; rw [List.length_zipWith, lc, ld]; exact Nat.min_self _
theorem zby {m : Nat} {a b c : zm} {r : List zm} {e : Rat} (hab : a.1 < b.1) (hbc : b.1 < c.1) (la : a.2.length = m) (lb : b.2.length = m) (lc : c.2.length = m) (st : yM a b c) (hae : a.1 ≤ e) : zA (a :: b :: c :: r) e = zA (a :: c :: r) e := by
 have hac := WJ hab hbc
 by_cases h1 : e < b.1
 ·rw [zA, if_pos h1, zA, if_pos (WJ h1 hbc)]
  refine (VR hac (by rw [la, lc]) (by rw [la, zcu la lb]) fun i p q z hp hq hz => ?_).symm
  obtain ⟨p', b', hp', hb', ez⟩ := zaj hz
  rw [hp] at hp'; cases hp'
  have l1 := XV (x := p) (y := b') (E := e) hab
  rw [← ez] at l1
  have s := st i p b' q hp hb' hq
  have : ((z - p) * (c.1 - a.1) - (q - p) * (e - a.1)) * (b.1 - a.1) = 0 := by
   have : ((z - p) * (c.1 - a.1) - (q - p) * (e - a.1)) * (b.1 - a.1) = ((z - p) * (b.1 - a.1)) * (c.1 - a.1) - ((q - p) * (b.1 - a.1)) * (e - a.1) := by grind
   rw [this, l1, ← s]; grind
  have := xM this (WG hab)
  grind
 ·rw [xt (Rat.not_lt.mp h1)]
  by_cases h2 : e < c.1
  ·rw [zA, if_pos h2, zA, if_pos h2]
   refine (VR hac (by rw [la, lc]) (by rw [la, zcu lb lc]) fun i p q z hp hq hz => ?_).symm
   obtain ⟨b', q', hb', hq', ez⟩ := zaj hz
   rw [hq] at hq'; cases hq'
   have l1 := XV (x := b') (y := q) (E := e) hbc
   rw [← ez] at l1
   have s := st i p b' q hp hb' hq
   have s1 : (b' - p) * (c.1 - b.1) = (q - b') * (b.1 - a.1) := by grind
   have : ((z - p) * (c.1 - a.1) - (q - p) * (e - a.1)) * (c.1 - b.1) = 0 := by
    have k1 : (z - p) * (c.1 - b.1) = (e - b.1) * (q - b') + (b' - p) * (c.1 - b.1) := by grind
    have k2 : ((z - p) * (c.1 - a.1) - (q - p) * (e - a.1)) * (c.1 - b.1) = ((z - p) * (c.1 - b.1)) * (c.1 - a.1) - (q - p) * (e - a.1) * (c.1 - b.1) := by grind
    rw [k2, k1, s1]
    grind
   have := xM this (WG hbc)
   grind
  ·rw [xt (Rat.not_lt.mp h2), xt (Rat.not_lt.mp h2)]
theorem WA {m : Nat} {e : Rat} : ∀ (r : List zm) (k a b : zm), xr (k :: b :: r) → (∀ x ∈ k :: b :: r, x.2.length = m) → k.1 ≤ e → (a = k ∨ (k.1 < a.1 ∧ a.1 < b.1 ∧ a.2.length = m ∧ yM k a b)) →
 zA (k :: yw a (b :: r)) e = zA (k :: b :: r) e
 | [], k, a, b, _, _, _, _ => by rw [yw]
 | c :: r, k, a, b, hr, hl, hk, ha => by
   obtain ⟨h1, h2⟩ := List.pairwise_cons.mp hr
   obtain ⟨h3, h4⟩ := List.pairwise_cons.mp h2
   have hkb := h1 b (List.mem_cons_self ..)
   have hbc := h3 c (List.mem_cons_self ..)
   have lk := hl k (List.mem_cons_self ..)
   have lb := hl b (List.mem_cons_of_mem _ (List.mem_cons_self ..))
   have lc := hl c (List.mem_cons_of_mem _ (List.mem_cons_of_mem _ (List.mem_cons_self ..)))
   rw [yw]
   split
   ·rename_i st
    have st' : yM k b c := by
     rcases ha with rfl | ⟨_, hab, la, s0⟩
     ·exact st
     ·exact zat hab lk la s0 st
    have rk : xr (k :: c :: r) := List.pairwise_cons.mpr ⟨fun x hx => h1 x (List.mem_cons_of_mem _ hx), h4⟩
    rw [WA r k b c rk (fun x hx => hl x (by
     rcases List.mem_cons.mp hx with rfl | hx
     ·exact List.mem_cons_self ..
     ·exact List.mem_cons_of_mem _ (List.mem_cons_of_mem _ hx))) hk (.inr ⟨hkb, hbc, lb, st'⟩), zby hkb hbc lk lb lc st' hk]
   ·by_cases h5 : e < b.1
    ·rw [zA, if_pos h5, zA, if_pos h5]
    ·rw [xt (Rat.not_lt.mp h5), xt (Rat.not_lt.mp h5)]
     exact WA r b b c h2 (fun x hx => hl x (List.mem_cons_of_mem _ hx)) (Rat.not_lt.mp h5) (.inl rfl)
theorem zac {m : Nat} {e : Rat} {c : zm} {r : List zm} (hr : xr (c :: r)) (hl : ∀ x ∈ c :: r, x.2.length = m) (hc : c.1 ≤ e) : zA (xc (c :: r)) e = zA (c :: r) e := by
 rw [xc]
 cases r with
 | nil => rw [yw]
 | cons b r => exact WA r c c b hr hl hc (.inl rfl)
theorem YA {e : Rat} {M : List zm} : ∀ {c : zm} {r : List zm}, c.1 ≤ e → e < (lastC (c :: r)).1 → zA (c :: r ++ M) e = zA (c :: r) e
 | c, [], hc, he => absurd he (Rat.not_lt.mpr hc)
 | c, d :: r, hc, he => by
   rw [List.cons_append, List.cons_append, zA, zA]
   by_cases h : e < d.1
   ·rw [if_pos h, if_pos h]
   ·rw [if_neg h, if_neg h]
    rw [Wz] at he
    exact YA (c := d) (r := r) (Rat.not_lt.mp h) he
theorem Zo {e : Rat} {M : List zm} : ∀ {c : zm} {r : List zm}, xr (c :: r) → (lastC (c :: r)).1 ≤ e → zA (c :: r ++ M) e = zA (lastC (c :: r) :: M) e
 | c, [], _, _ => rfl
 | c, d :: r, hr, he => by
   have h2 := (List.pairwise_cons.mp hr).2
   rw [Wz] at he ⊢
   have hd : d.1 ≤ e := by
    refine Rat.le_trans ?_ he
    have m : lastC (d :: r) ∈ d :: r := by
     unfold lastC
     rw [List.getLast?_eq_some_getLast (by simp)]
     exact List.getLast_mem _
    rcases List.mem_cons.mp m with z | z
    ·rw [z]; exact Rat.le_refl
    ·exact Rat.le_of_lt ((List.pairwise_cons.mp h2).1 _ z)
   rw [List.cons_append, List.cons_append, xt hd]
   exact Zo h2 he
theorem zeV {m : Nat} {c q d : zm} {e : Rat} (lc : c.2.length = m) (lq : q.2.length = m) (ld : d.2.length = m) : WE (XS c q) (XS c d) e = List.zipWith (· + ·) c.2 (WE q d (e - c.1)) := by
 have et : (e - (XS c q).1) / ((XS c d).1 - (XS c q).1) = (e - c.1 - q.1) / (d.1 - q.1) := by
  show (e - (c.1 + q.1)) / ((c.1 + d.1) - (c.1 + q.1)) = _
  rw [show e - (c.1 + q.1) = e - c.1 - q.1 by grind, show c.1 + d.1 - (c.1 + q.1) = d.1 - q.1 by grind]
 unfold WE
 rw [et]
 generalize (e - c.1 - q.1) / (d.1 - q.1) = t
 show List.zipWith (ZK t) (List.zipWith (· + ·) c.2 q.2) (List.zipWith (· + ·) c.2 d.2) = _
 apply List.ext_getElem
 ·simp only [List.length_zipWith]; omega
 ·intro i h1 h2
  simp only [List.getElem_zipWith]
  unfold ZK
  grind
theorem Vz {m : Nat} {c : zm} {e : Rat} (lc : c.2.length = m) : ∀ {q : zm} {r : List zm}, (∀ x ∈ q :: r, x.2.length = m) → zA ((q :: r).map (XS c)) e = List.zipWith (· + ·) c.2 (zA (q :: r) (e - c.1))
 | q, [], _ => rfl
 | q, d :: r, h => by
   rw [List.map_cons, List.map_cons, zA, zA]
   have hd : e < (XS c d).1 ↔ e - c.1 < d.1 := by
    show e < c.1 + d.1 ↔ _
    constructor <;> intro h <;> grind
   by_cases h1 : e - c.1 < d.1
   ·rw [if_pos h1, if_pos (hd.mpr h1)]
    exact zeV lc (h q (List.mem_cons_self ..)) (h d (List.mem_cons_of_mem _ (List.mem_cons_self ..)))
   ·rw [if_neg h1, if_neg fun z => h1 (hd.mp z)]
    have := Vz (e := e) lc (q := d) (r := r) fun x hx => h x (List.mem_cons_of_mem _ hx)
    rw [List.map_cons] at this
    exact this
theorem zeE {a b p : Rat} (hp : 0 < p) : a < b * p ↔ a / p < b := by
 have hne : p ≠ 0 := fun z => by rw [z] at hp; exact Rat.lt_irrefl hp
 have hc : a = a / p * p := by rw [Rat.div_def, Rat.mul_assoc, Rat.inv_mul_cancel _ hne, Rat.mul_one]
 constructor
 ·intro h
  refine Rat.not_le.mp fun hle => ?_
  have := Rat.mul_le_mul_of_nonneg_right hle (Rat.le_of_lt hp)
  rw [← hc] at this
  exact Rat.not_lt.mpr this h
 ·intro h
  have := Rat.mul_lt_mul_of_pos_right h hp
  rwa [← hc] at this
theorem Yz {p e : Rat} (hp : 0 < p) : ∀ {a : List zm}, zA (zI p a) e = (zA a (e / p)).map (· * p)
 | [] => rfl
 | [c] => rfl
 | c :: d :: r => by
   have ih := Yz (e := e) hp (a := d :: r)
   unfold zI at *
   rw [List.map_cons, List.map_cons, zA, zA]
   by_cases h : e / p < d.1
   ·rw [if_pos h, if_pos ((zeE hp).mpr h)]
    have hne : p ≠ 0 := fun z => by rw [z] at hp; exact Rat.lt_irrefl hp
    have et : (e - c.1 * p) / (d.1 * p - c.1 * p) = (e / p - c.1) / (d.1 - c.1) := by
     have i1 := Rat.mul_inv_cancel p hne
     have k1 : e - c.1 * p = (e / p - c.1) * p := by
      rw [Rat.div_def]; generalize p⁻¹ = j at *; grind
     have k2 : d.1 * p - c.1 * p = (d.1 - c.1) * p := by grind
     rw [k1, k2]
     by_cases z : d.1 - c.1 = 0
     ·rw [z, Rat.zero_mul, Rat.div_def, Rat.inv_zero, Rat.mul_zero, Rat.div_def, Rat.inv_zero, Rat.mul_zero]
     ·have z2 : (d.1 - c.1) * p ≠ 0 := fun h => z (xM h hne)
      have i2 := Rat.mul_inv_cancel _ z
      have i3 := Rat.mul_inv_cancel _ z2
      rw [Rat.div_def, Rat.div_def ((e / p - c.1))]
      generalize (d.1 - c.1)⁻¹ = j at *
      generalize ((d.1 - c.1) * p)⁻¹ = l at *
      generalize e / p - c.1 = u at *
      generalize d.1 - c.1 = v at *
      have : u * p * l = u * p * l * (v * j) := by rw [i2, Rat.mul_one]
      rw [this]
      have : u * p * l * (v * j) = u * j * (v * p * l) := by grind
      rw [this, i3, Rat.mul_one]
    unfold WE
    dsimp only
    rw [et]
    generalize (e / p - c.1) / (d.1 - c.1) = t
    apply List.ext_getElem
    ·simp
    ·intro i h1 h2
     simp only [List.getElem_zipWith, List.getElem_map]
     unfold ZK
     grind
   ·rw [if_neg h, if_neg fun z => h ((zeE hp).mp z)]
    rw [List.map_cons] at ih
    exact ih
def mn (a l : Rat) : Rat := if a ≤ l then a else l
theorem zgw (a l : Int) : ((min a l : Int) : Rat) = mn (a : Rat) (l : Rat) := by
 unfold mn
 by_cases h : a ≤ l
 ·rw [if_pos (Rat.intCast_le_intCast.mpr h), Int.min_eq_left h]
 ·rw [if_neg fun z => h (Rat.intCast_le_intCast.mp z), Int.min_eq_right (by omega)]
theorem mix_range {t x y lo hi : Rat} (t0 : 0 ≤ t) (t1 : t ≤ 1) (hx : lo ≤ x ∧ x ≤ hi) (hy : lo ≤ y ∧ y ≤ hi) : lo ≤ ZK t x y ∧ ZK t x y ≤ hi := by
 have a1 := Rat.mul_nonneg t0 (show 0 ≤ y - lo by grind)
 have a2 := Rat.mul_nonneg (show 0 ≤ 1 - t by grind) (show 0 ≤ x - lo by grind)
 have a3 := Rat.mul_nonneg t0 (show 0 ≤ hi - y by grind)
 have a4 := Rat.mul_nonneg (show 0 ≤ 1 - t by grind) (show 0 ≤ hi - x by grind)
 unfold ZK
 constructor <;> grind
theorem mn_mix {a x y t : Rat} (t0 : 0 ≤ t) (t1 : t ≤ 1) (h : (a ≤ x ∧ a ≤ y) ∨ (x ≤ a ∧ y ≤ a)) : ZK t (mn a x) (mn a y) = mn a (ZK t x y) := by
 rcases h with ⟨h1, h2⟩ | ⟨h1, h2⟩
 ·have e1 : mn a x = a := by unfold mn; rw [if_pos h1]
  have e2 : mn a y = a := by unfold mn; rw [if_pos h2]
  have r : a ≤ ZK t x y := by
   have a1 := Rat.mul_nonneg t0 (show 0 ≤ y - a by grind)
   have a2 := Rat.mul_nonneg (show 0 ≤ 1 - t by grind) (show 0 ≤ x - a by grind)
   unfold ZK; grind
  have e3 : mn a (ZK t x y) = a := by unfold mn; rw [if_pos r]
  rw [e1, e2, e3]; unfold ZK; grind
 ·have m : ∀ z, z ≤ a → mn a z = z := fun z hz => by
   unfold mn
   split
   ·exact Rat.le_antisymm (by assumption) hz
   ·rfl
  have r : ZK t x y ≤ a := by
   have a1 := Rat.mul_nonneg t0 (show 0 ≤ a - y by grind)
   have a2 := Rat.mul_nonneg (show 0 ≤ 1 - t by grind) (show 0 ≤ a - x by grind)
   unfold ZK; grind
  rw [m x h1, m y h2, m _ r]
theorem zcK {s d e : Rat} (h : s < d) (h1 : s ≤ e) (h2 : e < d) : 0 ≤ (e - s) / (d - s) ∧ (e - s) / (d - s) ≤ 1 := by
 have hp : 0 < d - s := by grind
 have hi := Rat.mul_inv_cancel _ (WG h)
 have ip : 0 < (d - s)⁻¹ := Rat.inv_pos.mpr hp
 rw [Rat.div_def]
 have a1 := Rat.mul_nonneg (show 0 ≤ e - s by grind) (Rat.le_of_lt ip)
 have a2 := Rat.mul_nonneg (show 0 ≤ d - e by grind) (Rat.le_of_lt ip)
 generalize (d - s)⁻¹ = j at *
 constructor
 ·exact a1
 ·grind
theorem zdz {as ls : List Int} {G : Rat → Rat → Rat} {C : Int → zm} (hC : ∀ l, (C l).2 = as.map fun (a : Int) => G (a : Rat) (l : Rat)) (rise : xr (ls.map C)) (nn : ∀ l ∈ ls, 0 ≤ l)
 (mix : ∀ (i : Nat) (l l' : Int), ls[i]? = some l → ls[i + 1]? = some l' → ∀ a ∈ as, ∀ t : Rat, 0 ≤ t → t ≤ 1 → ZK t (G (a : Rat) (l : Rat)) (G (a : Rat) (l' : Rat)) = G (a : Rat) (ZK t (l : Rat) (l' : Rat)))
 {e : Rat} {l0 : Int} (h0 : ls[0]? = some l0) (he : (C l0).1 ≤ e) : ∃ z : Rat, 0 ≤ z ∧ zA (ls.map C) e = as.map fun (a : Int) => G (a : Rat) z := by
 obtain ⟨i, q, hq, hqe, nx⟩ := zbH (M := Yw (ls.map C)) (z := (C l0).1) (by unfold Yw; rw [List.map_map, List.getElem?_map, h0]; rfl) he
 unfold Yw at hq nx
 obtain ⟨c, hc, rfl⟩ := yu hq
 obtain ⟨l, hl, rfl⟩ := yu hc
 have l0' : (0 : Rat) ≤ (l : Rat) := by exact_mod_cast Rat.intCast_nonneg.mpr (nn l (List.mem_of_getElem? hl))
 have key := Zk (E := e) rise hc hqe (by
  rcases nx with h | ⟨r, hr, h⟩
  ·left; simpa using h
  ·obtain ⟨d, hd, rfl⟩ := yu hr
   exact .inr ⟨d, hd, h⟩)
 rcases nx with h | ⟨r, hr, h⟩
 ·rw [List.getElem?_eq_none (by simp only [List.length_map] at h ⊢; omega)] at key
  refine ⟨l, l0', ?_⟩
  rw [key]
  exact hC l
 ·obtain ⟨d, hd, rfl⟩ := yu hr
  obtain ⟨l', hl', rfl⟩ := yu hd
  rw [hd] at key
  have l1' : (0 : Rat) ≤ (l' : Rat) := by exact_mod_cast Rat.intCast_nonneg.mpr (nn l' (List.mem_of_getElem? hl'))
  have hlt : (C l).1 < (C l').1 := by
   have := zgT (M := Yw (ls.map C)) (zbv rise) (j := i) (by unfold Yw; rw [List.getElem?_map, hc]; rfl) (by unfold Yw; rw [List.getElem?_map, hd]; rfl)
   exact this
  obtain ⟨t0, t1⟩ := zcK hlt hqe h
  refine ⟨ZK ((e - (C l).1) / ((C l').1 - (C l).1)) l l', ?_, ?_⟩
  ·have a1 := Rat.mul_nonneg t0 l1'
   have a2 := Rat.mul_nonneg (show 0 ≤ 1 - (e - (C l).1) / ((C l').1 - (C l).1) by grind) l0'
   unfold ZK; grind
  ·rw [key]
   show WE (C l) (C l') e = _
   unfold WE
   generalize (e - (C l).1) / ((C l').1 - (C l).1) = t at *
   rw [hC, hC]
   apply List.ext_getElem
   ·simp
   ·intro j h1 h2
    simp only [List.getElem_zipWith, List.getElem_map]
    exact mix i l l' hl hl' _ (List.getElem_mem _) t t0 t1
theorem Vy {m : Nat} {e : Rat} : ∀ {c : zm} {r : List zm}, xr (c :: r) → (∀ x ∈ c :: r, x.2.length = m ∧ yl x.2 = x.1) → c.1 ≤ e → e ≤ (lastC (c :: r)).1 → yl (zA (c :: r) e) = e
 | c, [], _, h, hc, hl => by
   have e1 : e = c.1 := Rat.le_antisymm hl hc
   rw [e1]
   exact (h c (List.mem_cons_self ..)).2
 | c, d :: r, hr, h, hc, hl => by
   have hcd := (List.pairwise_cons.mp hr).1 d (List.mem_cons_self ..)
   have hc' := h c (List.mem_cons_self ..)
   have hd' := h d (List.mem_cons_of_mem _ (List.mem_cons_self ..))
   by_cases hd : d.1 ≤ e
   ·rw [xt hd]
    exact Vy (List.pairwise_cons.mp hr).2 (fun x hx => h x (List.mem_cons_of_mem _ hx)) hd (by rw [← Wz c]; exact hl)
   ·have hud : e < d.1 := Rat.not_le.mp hd
    rw [zA, if_pos hud]
    unfold WE
    rw [zbW _ _ _ (by rw [hc'.1, hd'.1]), hc'.2, hd'.2]
    have l1 := XV (x := c.1) (y := d.1) (E := e) hcd
    have := xM (a := ZK ((e - c.1) / (d.1 - c.1)) c.1 d.1 - e) (b := d.1 - c.1) (by grind) (WG hcd)
    grind
theorem VA {c : zm} {r : List zm} {e : Rat} (hr : xr (c :: r)) (he : (lastC (c :: r)).1 ≤ e) : zA (c :: r) e = (lastC (c :: r)).2 := by
 have := Zo (M := []) hr he
 rw [List.append_nil] at this
 rw [this]; rfl
def zZ (h : List Int) : zm := ((h.sum : Int), h.map fun (x : Int) => (x : Rat))
theorem Xt : ∀ h : List Int, yl (h.map fun (x : Int) => (x : Rat)) = ((h.sum : Int) : Rat)
 | [] => rfl
 | x :: h => by rw [List.map_cons, yl, Xt h, List.sum_cons, Rat.intCast_add]
theorem Wl {f g : Int → Int} : ∀ {as : List Int}, (∀ a ∈ as, f a ≤ g a) → (as.map f).sum ≤ (as.map g).sum
 | [], _ => Int.le_refl _
 | a :: as, h => by
   have ih := Wl fun x hx => h x (List.mem_cons_of_mem _ hx)
   have := h a (List.mem_cons_self ..)
   rw [List.map_cons, List.map_cons, List.sum_cons, List.sum_cons]; omega
theorem Wj {f g : Int → Int} : ∀ {as : List Int} {b : Int}, (∀ a ∈ as, f a ≤ g a) → b ∈ as → f b < g b → (as.map f).sum < (as.map g).sum
 | [], b, _, hb, _ => by simp at hb
 | a :: as, b, h, hb, hlt => by
   rw [List.map_cons, List.map_cons, List.sum_cons, List.sum_cons]
   have ha := h a (List.mem_cons_self ..)
   rcases List.mem_cons.mp hb with rfl | hb
   ·have := Wl fun x hx => h x (List.mem_cons_of_mem _ hx)
    omega
   ·have := Wj (fun x hx => h x (List.mem_cons_of_mem _ hx)) hb hlt
    omega
structure LvOk (as ls : List Int) : Prop where
 rise : ls.Pairwise (· < ·)
 mem : ∀ k, k ∈ ls ↔ k = 0 ∨ k ∈ as
 nn : ∀ a ∈ as, 0 ≤ a
def Wx (as : List Int) (l : Int) : List Int := as.map fun a => min a l
def XX (as : List Int) (l : Int) : List Int := as.map fun a => a - min a l
def evP (as ls : List Int) : List zm := ls.map fun l => zZ (Wx as l)
def loP (as ls : List Int) : List zm := ls.reverse.map fun l => zZ (XX as l)
section
variable {as ls : List Int}
theorem LvOk.nnL (h : LvOk as ls) : ∀ l ∈ ls, 0 ≤ l := fun l hl => by
 rcases (h.mem l).mp hl with rfl | z
 ·exact Int.le_refl _
 ·exact h.nn l z
theorem LvOk.zero (h : LvOk as ls) : ls[0]? = some 0 := by
 have m0 : (0 : Int) ∈ ls := (h.mem 0).mpr (.inl rfl)
 cases ls with
 | nil => simp at m0
 | cons a l =>
   have ha := h.nnL a (List.mem_cons_self ..)
   rcases List.mem_cons.mp m0 with e | e
   ·rw [e]; rfl
   ·have := (List.pairwise_cons.mp h.rise).1 0 e
    omega
theorem LvOk.gap (h : LvOk as ls) {i : Nat} {l l' a : Int} (hl : ls[i]? = some l) (hl' : ls[i + 1]? = some l') (ha : a ∈ as) : a ≤ l ∨ l' ≤ a := by
 have m := (h.mem a).mpr (.inr ha)
 obtain ⟨j, hj, ej⟩ := List.getElem_of_mem m
 obtain ⟨li, ei⟩ := List.getElem?_eq_some_iff.mp hl
 obtain ⟨li', ei'⟩ := List.getElem?_eq_some_iff.mp hl'
 have P := List.pairwise_iff_getElem.mp h.rise
 rcases Nat.lt_or_ge j (i + 1) with c | c
 ·left
  by_cases e : j = i
  ·subst e; rw [← ej, ← ei]; exact Int.le_refl _
  ·have := P j i hj li (by omega)
   rw [ej, ei] at this; omega
 ·right
  by_cases e : j = i + 1
  ·subst e; rw [← ej, ← ei']; exact Int.le_refl _
  ·have := P (i + 1) j li' hj (by omega)
   rw [ej, ei'] at this; omega
theorem LvOk.sumlt (h : LvOk as ls) {l l' : Int} (hl : l ∈ ls) (hl' : l' ∈ ls) (lt : l < l') : (Wx as l).sum < (Wx as l').sum := by
 have m : l' ∈ as := ((h.mem l').mp hl').resolve_left (by have := h.nnL l hl; omega)
 exact Wj (fun a _ => by omega) m (by omega)
theorem zci : ∀ (as : List Int) (l : Int), (XX as l).sum = as.sum - (Wx as l).sum
 | [], _ => rfl
 | a :: as, l => by
   have := zci as l
   unfold XX Wx at *
   rw [List.map_cons, List.map_cons, List.sum_cons, List.sum_cons, List.sum_cons, this]; omega
theorem LvOk.riseE (h : LvOk as ls) : xr (evP as ls) := by
 unfold xr evP
 rw [List.pairwise_map]
 exact h.rise.imp_of_mem fun {a b} ha hb lt => Rat.intCast_lt_intCast.mpr (h.sumlt ha hb lt)
theorem LvOk.top (h : LvOk as ls) : ∃ t, ls.getLast? = some t ∧ ∀ a ∈ as, a ≤ t := by
 have ne : ls ≠ [] := fun e => by have := h.zero; rw [e] at this; simp at this
 refine ⟨_, List.getLast?_eq_some_getLast ne, fun a ha => ?_⟩
 have m := (h.mem a).mpr (.inr ha)
 rw [← List.dropLast_concat_getLast ne] at m
 have R := h.rise
 rw [← List.dropLast_concat_getLast ne] at R
 rcases List.mem_append.mp m with z | z
 ·exact Int.le_of_lt ((List.pairwise_append.mp R).2.2 a z _ (by simp))
 ·rw [List.mem_singleton.mp z]; exact Int.le_refl _
theorem zhP {t : Int} (h : ∀ a ∈ as, a ≤ t) : Wx as t = as := by
 unfold Wx
 conv => rhs; rw [← List.map_id as]
 exact List.map_congr_left fun a ha => by show min a t = a; have := h a ha; omega
theorem zcf (h : ∀ a ∈ as, 0 ≤ a) : Wx as 0 = ZB as.length := by
 unfold Wx ZB
 rw [← List.map_const']
 exact List.map_congr_left fun a ha => by have := h a ha; omega
theorem LvOk.evenly (h : LvOk as ls) {e : Rat} (h0 : 0 ≤ e) : ∃ z : Rat, 0 ≤ z ∧ zA (evP as ls) e = as.map fun (a : Int) => mn (a : Rat) z := by
 refine zdz (G := mn) (C := fun l => zZ (Wx as l)) (fun l => ?_) h.riseE h.nnL (fun i l l' hl hl' a ha t t0 t1 => mn_mix t0 t1 ?_) h.zero ?_
 ·unfold zZ Wx
  rw [List.map_map]
  exact List.map_congr_left fun a _ => zgw a l
 ·obtain ⟨li, ei⟩ := List.getElem?_eq_some_iff.mp hl
  obtain ⟨li', ei'⟩ := List.getElem?_eq_some_iff.mp hl'
  have lt := List.pairwise_iff_getElem.mp h.rise i (i + 1) li li' (by omega)
  rw [ei, ei'] at lt
  rcases h.gap hl hl' ha with z | z
  ·exact .inl ⟨Rat.intCast_le_intCast.mpr z, Rat.intCast_le_intCast.mpr (by omega)⟩
  ·exact .inr ⟨Rat.intCast_le_intCast.mpr (by omega), Rat.intCast_le_intCast.mpr z⟩
 ·show ((Wx as 0).sum : Rat) ≤ e
  rw [zcf h.nn, zao]
  exact h0
end
end S
namespace S
open PySem PySem.Spec PyProof.Rows L2
section
variable {as ls : List Int}
theorem zeB (h : LvOk as ls) : ∃ r, evP as ls = zZ (ZB as.length) :: r := by
 have z := h.zero
 cases ls with
 | nil => simp at z
 | cons a l =>
   have : a = 0 := by simpa using z
   subst this
   exact ⟨_, by unfold evP; rw [List.map_cons, zcf h.nn]⟩
theorem zcq (h : LvOk as ls) : lastC (evP as ls) = zZ as := by
 obtain ⟨t, ht, top⟩ := h.top
 unfold lastC evP
 rw [List.getLast?_map, ht]
 show zZ (Wx as t) = _
 rw [zhP top]
theorem zcw : ∀ (as : List Int) (l : Int), Xn (zZ as) (zZ (Wx as l)) = zZ (XX as l) := fun as l => by
 unfold Xn zZ
 refine Prod.ext ?_ ?_
 ·show ((as.sum : Int) : Rat) - ((Wx as l).sum : Int) = ((XX as l).sum : Int)
  rw [zci, Rat.intCast_sub]
 ·show List.zipWith (· - ·) (as.map fun (x : Int) => (x : Rat)) ((Wx as l).map fun (x : Int) => (x : Rat)) = (XX as l).map fun (x : Int) => (x : Rat)
  unfold Wx XX
  apply List.ext_getElem
  ·simp
  ·intro i h1 h2
   simp only [List.getElem_zipWith, List.getElem_map]
   rw [Rat.intCast_sub]
theorem zar (h : LvOk as ls) : yF (evP as ls) = loP as ls := by
 unfold yF
 rw [zcq h]
 unfold evP loP
 rw [← List.map_reverse, List.map_map]
 exact List.map_congr_left fun l _ => zcw as l
theorem loP_ne (h : LvOk as ls) : ∃ r, loP as ls = zZ (ZB as.length) :: r := by
 obtain ⟨t, ht, top⟩ := h.top
 have ne : ls ≠ [] := fun e => by rw [e] at ht; simp at ht
 obtain ⟨ini, ei⟩ := List.getLast?_eq_some_iff.mp ht
 refine ⟨ini.reverse.map fun l => zZ (XX as l), ?_⟩
 unfold loP
 rw [ei, List.reverse_append, List.reverse_singleton, List.singleton_append, List.map_cons]
 congr 2
 unfold XX ZB
 rw [← List.map_const']
 exact List.map_congr_left fun a ha => by have := top a ha; omega
theorem ZZ (h : List Int) : (zZ h).2.length = h.length ∧ yl (zZ h).2 = (zZ h).1 := ⟨List.length_map _, Xt h⟩
theorem zcp (as ls : List Int) : ∀ c ∈ evP as ls, c.2.length = as.length ∧ yl c.2 = c.1 := fun c hc => by
 obtain ⟨l, _, rfl⟩ := List.mem_map.mp hc
 have := ZZ (Wx as l)
 rwa [show (Wx as l).length = as.length by unfold Wx; rw [List.length_map]] at this
theorem zer (as ls : List Int) : ∀ c ∈ loP as ls, c.2.length = as.length ∧ yl c.2 = c.1 := fun c hc => by
 obtain ⟨l, _, rfl⟩ := List.mem_map.mp hc
 have := ZZ (XX as l)
 rwa [show (XX as l).length = as.length by unfold XX; rw [List.length_map]] at this
theorem Xd (m : Nat) : zZ (ZB m) = (0, List.replicate m 0) := by
 unfold zZ
 rw [zao]
 unfold ZB
 rw [List.map_replicate]
 rfl
theorem zbV {P : List zm} {m : Nat} {e : Rat} (r : List zm) (hP : P = (0, List.replicate m 0) :: r) (rise : xr P) (ok : ∀ c ∈ P, c.2.length = m ∧ yl c.2 = c.1) (h0 : 0 ≤ e) : yl (zA P e) = mn e (lastC P).1 := by
 subst hP
 unfold mn
 split
 ·exact Vy rise ok h0 (by assumption)
 ·rename_i z
  have hl := Rat.not_le.mp z
  rw [VA rise (Rat.le_of_lt hl)]
  have m : lastC ((0, List.replicate m 0) :: r) ∈ ((0 : Rat), List.replicate m (0 : Rat)) :: r := by
   unfold lastC
   rw [List.getLast?_eq_some_getLast (by simp)]
   exact List.getLast_mem _
  exact (ok _ m).2
def hfA (as ls : List Int) : List zm := zI (1 / 2) (evP as ls)
def hfB (as ls : List Int) : List zm := zI (1 / 2) (loP as ls)
theorem zfZ : (0 : Rat) < 1 / 2 := by decide +kernel
theorem zbs {a : List zm} {p : Rat} (hp : 0 < p) (h : xr a) : xr (zI p a) := by
 unfold xr zI
 rw [List.pairwise_map]
 exact h.imp fun {x y} lt => Rat.mul_lt_mul_of_pos_right lt hp
theorem hf_len (as ls : List Int) : ∀ x ∈ hfA as ls ++ yN (hfA as ls) (hfB as ls), lastC (hfA as ls) ∈ hfA as ls → x.2.length = as.length := fun x hx hm => by
 have lA : ∀ x ∈ hfA as ls, x.2.length = as.length := fun x hx => by
  obtain ⟨c, hc, rfl⟩ := List.mem_map.mp hx
  rw [List.length_map]; exact (zcp as ls c hc).1
 rcases List.mem_append.mp hx with z | z
 ·exact lA x z
 ·obtain ⟨d, hd, rfl⟩ := List.mem_map.mp z
  have ld : d.2.length = as.length := by
   have := List.mem_of_mem_tail hd
   obtain ⟨c, hc, rfl⟩ := List.mem_map.mp this
   rw [List.length_map]; exact (zer as ls c hc).1
  show (List.zipWith _ _ _).length = _
  rw [List.length_zipWith, lA _ hm, ld]; exact Nat.min_self _
theorem zbC (h : LvOk as ls) : lastC (hfA as ls) ∈ hfA as ls := by
 obtain ⟨r, er⟩ := zeB h
 have ne : hfA as ls ≠ [] := by unfold hfA zI; rw [er]; simp
 unfold lastC
 rw [List.getLast?_eq_some_getLast ne]
 exact List.getLast_mem _
def hvP (as ls : List Int) : List zm := hfA as ls ++ yN (hfA as ls) (hfB as ls)
theorem yS (p : Rat) : ∀ l : List Rat, yl (l.map (· * p)) = yl l * p
 | [] => by rw [List.map_nil, yl, Rat.zero_mul]
 | x :: l => by rw [List.map_cons, yl, yl, yS p l]; grind
theorem WU : ∀ {x y : List Rat}, x.length = y.length → yl (List.zipWith (· + ·) x y) = yl x + yl y
 | [], [], _ => by rw [List.zipWith_nil_left, yl]; grind
 | a :: x, b :: y, h => by rw [List.zipWith_cons_cons, yl, yl, yl, WU (by simpa using h)]; grind
 | [], _ :: _, h => by simp at h
 | _ :: _, [], h => by simp at h
theorem zgD (as ls : List Int) : ∀ c ∈ hfA as ls, c.2.length = as.length ∧ yl c.2 = c.1 := fun c hc => by
 obtain ⟨d, hd, rfl⟩ := List.mem_map.mp hc
 have := zcp as ls d hd
 exact ⟨by rw [List.length_map]; exact this.1, by rw [yS, this.2]⟩
theorem hfB_ok (as ls : List Int) : ∀ c ∈ hfB as ls, c.2.length = as.length ∧ yl c.2 = c.1 := fun c hc => by
 obtain ⟨d, hd, rfl⟩ := List.mem_map.mp hc
 have := zer as ls d hd
 exact ⟨by rw [List.length_map]; exact this.1, by rw [yS, this.2]⟩
theorem hv_ok (h : LvOk as ls) : ∀ c ∈ hvP as ls, c.2.length = as.length ∧ yl c.2 = c.1 := fun c hc => by
 refine ⟨hf_len as ls c hc (zbC h), ?_⟩
 rcases List.mem_append.mp hc with z | z
 ·exact (zgD as ls c z).2
 ·obtain ⟨d, hd, rfl⟩ := List.mem_map.mp z
  have a := zgD as ls _ (zbC h)
  have b := hfB_ok as ls d (List.mem_of_mem_tail hd)
  show yl (List.zipWith (· + ·) _ _) = _ + _
  rw [WU (by rw [a.1, b.1]), a.2, b.2]
def shP (as : List Int) : List zm := if as.sum = 0 then [zZ (ZB as.length)] else [zZ (ZB as.length), zZ as]
theorem UA : ∀ n : Nat, (List.replicate n (0 : Int)).sum = 0
 | 0 => rfl
 | n + 1 => by rw [List.replicate_succ, List.sum_cons, UA n]; rfl
theorem zgi {as : List Int} (h : ∀ a ∈ as, 0 ≤ a) : 0 ≤ as.sum := by
 have := Wl (f := fun _ => 0) (g := id) (as := as) fun a ha => h a ha
 rw [List.map_id, List.map_const', UA] at this
 simpa using this
theorem zbU {as : List Int} (h : ∀ a ∈ as, 0 ≤ a) (z : as.sum = 0) : ∀ a ∈ as, a = 0 := fun a ha => by
 rcases Int.lt_or_eq_of_le (h a ha) with lt | e
 ·have := Wj (f := fun _ => 0) (g := id) (as := as) (fun a ha => h a ha) ha lt
  rw [List.map_id, List.map_const', UA, z] at this
  simp at this
 ·exact e.symm
theorem zff {as : List Int} (nn : ∀ a ∈ as, 0 ≤ a) {e : Rat} (h0 : 0 ≤ e) : ∃ z : Rat, (0 ≤ z ∧ z ≤ 1) ∧ zA (shP as) e = (as.map fun (a : Int) => (a : Rat) * z) ∧ yl (zA (shP as) e) = mn e ((as.sum : Int) : Rat) := by
 have s0 := zgi nn
 unfold shP
 by_cases c : as.sum = 0
 ·have az := zbU nn c
  rw [if_pos c, c]
  have k : zA [zZ (ZB as.length)] e = as.map fun (a : Int) => (a : Rat) * 0 := by
   rw [Xd]
   show List.replicate as.length (0 : Rat) = _
   rw [← List.map_const']
   exact List.map_congr_left fun a ha => by rw [Rat.mul_zero]
  refine ⟨0, ⟨Rat.le_refl, by decide +kernel⟩, k, ?_⟩
  rw [Xd]
  show yl (List.replicate as.length 0) = _
  rw [Ue]
  unfold mn
  split
  ·exact Rat.le_antisymm h0 (by assumption)
  ·rfl
 ·rw [if_neg c]
  have sp : (0 : Rat) < ((as.sum : Int) : Rat) := by exact_mod_cast Rat.intCast_lt_intCast.mpr (show 0 < as.sum by omega)
  have rise : xr [zZ (ZB as.length), zZ as] := by
   refine List.pairwise_cons.mpr ⟨fun d hd => ?_, List.pairwise_singleton _ _⟩
   rw [List.mem_singleton.mp hd, Xd]
   exact sp
  have ok : ∀ x ∈ [zZ (ZB as.length), zZ as], x.2.length = as.length ∧ yl x.2 = x.1 := fun x hx => by
   rcases List.mem_cons.mp hx with rfl | hx
   ·have := ZZ (ZB as.length); rwa [Xs] at this
   ·rw [List.mem_singleton.mp hx]; exact ZZ as
  have sm := zbV (P := [zZ (ZB as.length), zZ as]) [zZ as] (by rw [Xd]) rise ok h0
  have eT : (lastC [zZ (ZB as.length), zZ as]).1 = ((as.sum : Int) : Rat) := rfl
  rw [eT] at sm
  by_cases c2 : e < ((as.sum : Int) : Rat)
  ·have hi := Rat.mul_inv_cancel _ (show ((as.sum : Int) : Rat) ≠ 0 from fun z => by rw [z] at sp; exact Rat.lt_irrefl sp)
   have ip : 0 < (((as.sum : Int) : Rat))⁻¹ := Rat.inv_pos.mpr sp
   refine ⟨e * (((as.sum : Int) : Rat))⁻¹, ⟨Rat.mul_nonneg h0 (Rat.le_of_lt ip), ?_⟩, ?_, sm⟩
   ·have := Rat.mul_nonneg (show 0 ≤ ((as.sum : Int) : Rat) - e by grind) (Rat.le_of_lt ip)
    generalize (((as.sum : Int) : Rat))⁻¹ = j at *
    grind
   ·rw [zA, if_pos (show e < (zZ as).1 from c2), Xd]
    unfold WE
    have et : (e - (0 : Rat)) / ((zZ as).1 - (0 : Rat)) = e * (((as.sum : Int) : Rat))⁻¹ := by
     show (e - 0) / (((as.sum : Int) : Rat) - 0) = _
     rw [show e - 0 = e by grind, show ((as.sum : Int) : Rat) - 0 = ((as.sum : Int) : Rat) by grind, Rat.div_def]
    dsimp only
    rw [et]
    unfold zZ
    apply List.ext_getElem
    ·simp
    ·intro i h1 h2
     simp only [List.getElem_zipWith, List.getElem_map, List.getElem_replicate]
     unfold ZK
     grind
  ·refine ⟨1, ⟨by decide +kernel, Rat.le_refl⟩, ?_, sm⟩
   rw [xt (show (zZ as).1 ≤ e from Rat.not_lt.mp c2)]
   show (as.map fun (x : Int) => (x : Rat)) = _
   exact List.map_congr_left fun a _ => by rw [Rat.mul_one]
end
end S
namespace S
open PySem PySem.Spec PyProof.Rows L2
def InB (am tk : List Int) : Prop := tk.length = am.length ∧ ∀ (i : Nat) (a p : Int), am[i]? = some a → tk[i]? = some p → 0 ≤ p ∧ p ≤ a
def zbf (am tk : List Int) : Prop := tk.length = am.length ∧ ∀ (i : Nat) (a p : Int), am[i]? = some a → tk[i]? = some p → 0 ≤ p ∧ p ≤ a ∧ (p < a → ∀ q ∈ tk, q ≤ p)
def xD (am tk : List Int) : List Int := List.zipWith (· - ·) am tk
section
variable {as tk : List Int} {B : Int} {f : Rat → Rat} {z : Rat}
theorem Xq {a b : Int} (h : (a : Rat) ≤ (b : Rat)) : a ≤ b := Rat.intCast_le_intCast.mp h
theorem zeO {a b : Int} (h : a < b) : (a : Rat) < (b : Rat) := Rat.intCast_lt_intCast.mpr h
theorem zah {a : Int} (h : 0 ≤ a) : (0 : Rat) ≤ (a : Rat) := by have := Rat.intCast_le_intCast.mpr h; exact this
theorem Xa {a : Int} (h : 0 < a) : (0 : Rat) < (a : Rat) := by have := Rat.intCast_lt_intCast.mpr h; exact this
theorem Zs {x y b : Rat} (h : x ≤ y) (hb : 0 ≤ b) : x * b ≤ y * b := by
 have := Rat.mul_nonneg (show 0 ≤ y - x by grind) hb
 grind
theorem YB {am tk : List Int} (h : tk.length = am.length) : (xD am tk).length = am.length := by
 unfold xD; rw [List.length_zipWith, h, Nat.min_self]
theorem mn_nn {a z : Rat} (a0 : 0 ≤ a) (z0 : 0 ≤ z) : 0 ≤ mn a z ∧ mn a z ≤ a := by
 unfold mn
 split <;> grind
noncomputable def zh0 (as ls : List Int) : Nat → List zm
 | 0 => shP as
 | 1 => evP as ls
 | 2 => loP as ls
 | _ => xc (hvP as ls)
theorem zfO {e t b : Rat} (hb : 0 < b) : mn e t * b = mn (e * b) (t * b) := by
 unfold mn
 by_cases c : e ≤ t
 ·rw [if_pos c, if_pos (Zs c (Rat.le_of_lt hb))]
 ·rw [if_neg c, if_neg]
  intro h
  have lt := Rat.not_le.mp c
  have := Rat.mul_pos (show 0 < e - t by grind) hb
  grind
end
end S
namespace S
open PySem PySem.Spec PyProof.Rows L2
structure Bl3 (mg : Str → Option Value) : Prop where
 sorted : mg "sorted" = none
 set : mg "set" = none
section
variable {X : Cx} {e o : Expr} {es : List Expr} {ta : TE} {t : TA}
def zgg (K : PySem.W.Frag) (m : Str) (f : Addr) (sp : Sp) (E : XK) (ta : TE) (t : TA) : TE := fun σ H Q => ta σ H fun x H1 => ∃ a C dx fs, x = .ref a ∧ H1 a = some (.ins C dx fs) ∧ Cls K C ∧ Meth K C m f ∧ fs.lookup m = none ∧ t σ H1 fun vs H2 => sp (x :: vs) H2 Q E
theorem zcc {CX : CXT} {k : Nat} {f : Addr} {fd : FuncData} {ps : List Str} {sp : Sp} {E : XK} {m : Str} {apos pos : Pos} {pl : Sem Bool} (he : PE X o ta) (F : FnOk X.prog X.w X.K X.mg X.base CX k f fd ps sp) (hr : Room k X.A) (hb : xU X.K fd ps []) (hx : Xk CX X E) (ha : PA X (e :: es) t)
 (hst : starEach (e :: es) X.env = (false, eval e X.env) :: starEach es X.env := by rfl) (hpl : (backTo pos (starEach es X.env)).any (·.1) = false := by rfl)
 (ht : eval (.Call (.Attribute o m apos) (e :: es) [] pos) X.env = (do
  let ov ← eval o X.env
  standAt apos.atName
  let (f, first) ← holding [ov] (getMethod ov m pl)
  callWith pos f first (backTo pos (starEach (e :: es) X.env)) (backToKw pos (keywordEach [] X.env))) := by rfl) :
 PE X (.Call (.Attribute o m apos) (e :: es) [] pos) (zgg X.K m f sp E ta t) := by
 intro pins s σ H Q I h
 refine PySem.W.methodCall_KW (pl := pl) (thn (he pins s σ H _ I h) fun u s1 ⟨x, H1, I1, rx, a, C, dx, fs, ex, ea, c, hm, l, q⟩ => ?_) ht
 subst ex
 obtain rfl : u = Value.ref a := rx
 refine Ux I1 ea c hm l ?_
 refine PySem.W.callWith_K (first := [.ref a]) (h₀ := X.base) I.ok.mod.kin hm.kp (thn (ha pos pins s1 σ H1 _ I1 q) fun us s2 ⟨vs, H2, I2, r, q2⟩ => ⟨I2.kIn, ?_⟩) hst hpl
 exact zb4 (us := .ref a :: us) (vs := .ref a :: vs) F hr hb .nil hx I2 (.cons rfl r) (by rw [List.append_nil]; exact q2)
end
section
variable {B G0 H : Hp} {cs : yR} {ds : Dat} {Q : VK} {E : XK} {v w u : V} {K : PySem.W.Frag} {C L : Addr} {x : PyData} {σ : L2.St}
def kMB (K : PySem.W.Frag) (m : Str) (f : Addr) (sp : Sp) (E : XK) (t : TA) (σ : L2.St) (Q : VK) : VK := fun x H1 => ∃ a C dx fs, x = .ref a ∧ H1 a = some (.ins C dx fs) ∧ Cls K C ∧ Meth K C m f ∧ fs.lookup m = none ∧ t σ H1 fun vs H2 => sp (x :: vs) H2 Q E
theorem zb8 {m : Str} {f : Addr} {sp : Sp} {ta : TE} {t : TA} (h : ta σ H (kMB K m f sp E t σ Q)) : zgg K m f sp E ta t σ H Q := h
theorem zgn {m : Str} {f : Addr} {sp : Sp} {t : TA} (S : Sta B G0 H cs ds) (h : Has ds (zeZ C x) v) (cl : Cls K C) (me : Meth K C m f) (hm : (m == ("form" : Str)) = false) (k : t σ H fun vs H2 => sp (v :: vs) H2 Q E) : kMB K m f sp E t σ Q v H := by
 obtain ⟨p, dx, w, rfl, hp, S'⟩ := S.ins h
 exact ⟨p, C, dx, _, rfl, hp, cl, me, by rw [List.lookup_cons, hm]; rfl, k⟩
def zgB (K : PySem.W.Frag) (Q : VK) : VK := fun x H1 => zdW K x H1 Q
theorem zfj {te : TE} (h : te σ H (zgB K Q)) : zgf K te σ H Q := h
theorem zdL {ns : List Int} (S : Sta B G0 H cs ds) (h : (L, ns.map PyData.int) ∈ cs) (few : ns.length < 60) (k : ∀ (os : List Int) (l : Addr) (H' : Hp), os.Pairwise (· < ·) → (∀ z, z ∈ os ↔ z ∈ ns) → yc H H' → Sta B G0 H' ((l, os.map PyData.int) :: cs) ds → Q (.ref l) H') : zgB K Q (.ref L) H := by
 obtain ⟨vs, hp, u⟩ := S.vwC h
 obtain ⟨G, S'⟩ := id S
 rw [xf (u G S')] at hp
 exact ⟨L, ns, rfl, SqL.of hp, few, fun os l h1 h2 hl => k os l _ h1 h2 (yc.new hl _) (S.newL hl fun G _ => Zt os)⟩
theorem zg7 {ns : List Int} (S : Sta B G0 H cs ds) (h : Has ds (.tuple (ns.map PyData.int)) v) (hn : 0 < ns.length) (k : ∀ m, m ∈ ns → (∀ x ∈ ns, m ≤ x) → Q (.int m) H) : rMinT K [v] H Q := by
 obtain ⟨p, vs, rfl, hp, hl, S', al⟩ := S.tupAll h
 obtain ⟨G, S2⟩ := id S'
 rw [xf (al G S2.2.2.2.2.2.2)] at hp
 exact ⟨p, ns, rfl, SqT.of hp, hn, k⟩
theorem zg8 {ns : List Int} (S : Sta B G0 H cs ds) (h : (L, ns.map PyData.int) ∈ cs) (hn : 0 < ns.length) (k : ∀ m, m ∈ ns → (∀ x ∈ ns, x ≤ m) → Q (.int m) H) : rMaxL K [.ref L] H Q := by
 obtain ⟨vs, hp, u⟩ := S.vwC h
 obtain ⟨G, S'⟩ := id S
 rw [xf (u G S')] at hp
 exact ⟨L, ns, rfl, SqL.of hp, hn, k⟩
theorem zdF {α : Type} (a : α) : ∀ n : Nat, (List.replicate n [a]).flatten = List.replicate n a
 | 0 => rfl
 | n + 1 => by rw [List.replicate_succ, List.flatten_cons, zdF a n]; rfl
theorem zg0 {i : Int} {n : Nat} (S : Sta B G0 H cs ds) (h : (L, [PyData.int i]) ∈ cs) (hn : n ≤ 1000) (k : ∀ l H', yc H H' → Sta B G0 H' ((l, (List.replicate n i).map PyData.int) :: cs) ds → Q (.ref l) H') : rRep (.ref L) (.int (n : Int)) H Q := by
 obtain ⟨vs, hp, u⟩ := S.vwC h
 obtain ⟨G, S'⟩ := id S
 have e := xf (ns := [i]) (u G S')
 subst e
 refine ⟨L, (n : Int), _, rfl, rfl, hp, by omega, by omega, ?_, fun p hp' => ?_⟩
 ·show 1 * n ≤ sizeLine
  have : 1000 ≤ sizeLine := by decide
  omega
 ·rw [Int.toNat_natCast]
  show Q (.ref p) (upd H p (.lst (List.replicate n [V.int i]).flatten))
  rw [zdF]
  refine k p _ (yc.new hp' _) ?_
  have := S.newL (vs := (List.replicate n i).map V.int) hp' fun G _ => Zt (List.replicate n i)
  rw [List.map_replicate] at this
  rw [List.map_replicate] at this ⊢
  exact this
end
abbrev Cl := Int × Int × Int
def yn (c : Cl) : PyData := .tuple [.int c.1, .int c.2.1, .int c.2.2]
def yg (l : List Cl) : PyData := .list (l.map yn)
def amV (l : List Cl) : List Int := l.map fun c => c.1
structure ClOk (n : Nat) (l : List Cl) : Prop where
 pos : 0 < l.length
 few : l.length ≤ 8
 nn : ∀ c ∈ l, 0 ≤ c.1 ∧ 0 ≤ c.2.1 ∧ 0 ≤ c.2.2
 sz : ∀ c ∈ l, Sz n c.1
theorem yk (l : List Cl) : (amV l).length = l.length := List.length_map _
theorem zbA : ∀ as : List Int, ∃ ls : List Int, ls.Pairwise (· < ·) ∧ ∀ k, k ∈ ls ↔ k ∈ as
 | [] => ⟨[], List.Pairwise.nil, fun _ => Iff.rfl⟩
 | a :: as => by
   obtain ⟨ls, h1, h2⟩ := zbA as
   refine ⟨ls.filter (· < a) ++ a :: ls.filter (a < ·), ?_, fun k => ?_⟩
   ·refine List.pairwise_append.mpr ⟨h1.filter _, List.pairwise_cons.mpr ⟨fun y hy => ?_, h1.filter _⟩, fun x hx y hy => ?_⟩
    ·simpa using (List.mem_filter.mp hy).2
    ·have hxa : x < a := by simpa using (List.mem_filter.mp hx).2
     rcases List.mem_cons.mp hy with rfl | hy
     ·exact hxa
     ·have : a < y := by simpa using (List.mem_filter.mp hy).2
      omega
   ·rw [List.mem_append, List.mem_cons, List.mem_filter, List.mem_filter, List.mem_cons, h2]
    simp only [decide_eq_true_eq]
    constructor
    ·rintro (⟨h, _⟩ | h | ⟨h, _⟩)
     ·exact .inr h
     ·exact .inl h
     ·exact .inr h
    ·rintro (h | h)
     ·exact .inr (.inl h)
     ·rcases Int.lt_trichotomy k a with c | c | c
      ·exact .inl ⟨h, c⟩
      ·exact .inr (.inl c)
      ·exact .inr (.inr ⟨h, c⟩)
theorem zaz : ∀ {x y : List Int}, x.Pairwise (· < ·) → y.Pairwise (· < ·) → (∀ k, k ∈ x ↔ k ∈ y) → x = y
 | [], [], _, _, _ => rfl
 | [], b :: y, _, _, h => absurd ((h b).mpr (List.mem_cons_self ..)) List.not_mem_nil
 | a :: x, [], _, _, h => absurd ((h a).mp (List.mem_cons_self ..)) List.not_mem_nil
 | a :: x, b :: y, h1, h2, h => by
   obtain ⟨a1, a2⟩ := List.pairwise_cons.mp h1
   obtain ⟨b1, b2⟩ := List.pairwise_cons.mp h2
   have e : a = b := by
    rcases List.mem_cons.mp ((h a).mp (List.mem_cons_self ..)) with e | e
    ·exact e
    ·rcases List.mem_cons.mp ((h b).mpr (List.mem_cons_self ..)) with e' | e'
     ·exact e'.symm
     ·have := b1 a e
      have := a1 b e'
      omega
   subst e
   rw [zaz a2 b2 fun k => ?_]
   have hk := h k
   rw [List.mem_cons, List.mem_cons] at hk
   constructor
   ·intro m
    rcases hk.mp (.inr m) with e | e
    ·subst e; exact absurd (a1 k m) (Int.lt_irrefl _)
    ·exact e
   ·intro m
    rcases hk.mpr (.inr m) with e | e
    ·subst e; exact absurd (b1 k m) (Int.lt_irrefl _)
    ·exact e
noncomputable def lvV (as : List Int) : List Int := (zbA (0 :: as)).choose
theorem za2 {as : List Int} (nn : ∀ a ∈ as, 0 ≤ a) : LvOk as (lvV as) :=
 ⟨(zbA (0 :: as)).choose_spec.1, fun k => by rw [lvV, (zbA (0 :: as)).choose_spec.2 k, List.mem_cons], nn⟩
theorem lvV_eq {as os : List Int} (h1 : os.Pairwise (· < ·)) (h2 : ∀ z, z ∈ os ↔ z ∈ 0 :: as) : os = lvV as :=
 zaz h1 (zbA (0 :: as)).choose_spec.1 fun k => by rw [h2, lvV, (zbA (0 :: as)).choose_spec.2 k]
theorem zgx : ∀ {ls as : List Int}, ls.Nodup → (∀ k ∈ ls, k ∈ as) → ls.length ≤ as.length
 | [], _, _, _ => Nat.zero_le _
 | a :: ls, as, nd, h => by
   obtain ⟨n1, n2⟩ := List.nodup_cons.mp nd
   have := zgx (ls := ls) (as := as.erase a) n2 fun k hk => (List.mem_erase_of_ne (fun (e : k = a) => n1 (e ▸ hk))).mpr (h k (List.mem_cons_of_mem _ hk))
   have hl := List.length_erase_of_mem (h a (List.mem_cons_self ..))
   have := List.length_pos_of_mem (h a (List.mem_cons_self ..))
   rw [List.length_cons]; omega
theorem LvOk.few {as ls : List Int} (h : LvOk as ls) : ls.length ≤ as.length + 1 := by
 have := zgx (ls := ls) (as := 0 :: as) (h.rise.imp fun {a b} (hab : a < b) => by omega) fun k hk => by rw [List.mem_cons]; exact (h.mem k).mp hk
 simpa using this
theorem Vf {n : Nat} {x y : Int} (h0 : 0 ≤ x) (h : x ≤ y) (z : Sz n y) : Sz n x := by unfold Sz at *; omega
theorem Vg {b : Int} (hb : 0 ≤ b) : ∀ {l : List Int}, (∀ x ∈ l, 0 ≤ x ∧ x ≤ b) → 0 ≤ l.sum ∧ l.sum ≤ l.length * b
 | [], _ => by simp
 | x :: l, h => by
   have h1 := h x (List.mem_cons_self ..)
   have h2 := Vg hb (l := l) fun y hy => h y (List.mem_cons_of_mem _ hy)
   rw [List.sum_cons, List.length_cons]
   have e : (((l.length + 1 : Nat) : Int)) * b = l.length * b + b := by rw [Int.natCast_add, Int.add_mul]; omega
   omega
def Wf (l : List Int) : Prop := l.length ≤ 8 ∧ ∀ x ∈ l, 0 ≤ x ∧ Sz 160 x
theorem Wf.sum {l : List Int} (h : Wf l) : 0 ≤ l.sum ∧ Sz 170 l.sum := by
 have h1 := Vg (b := 2 ^ 160) (by decide) (l := l) fun x hx => ⟨(h.2 x hx).1, by
  have := (h.2 x hx).2
  unfold Sz at this
  have := (h.2 x hx).1
  omega⟩
 refine ⟨h1.1, ?_⟩
 have l8 := h.1
 have : (l.length : Int) * 2 ^ 160 ≤ 8 * 2 ^ 160 := Int.mul_le_mul_of_nonneg_right (by omega) (by decide)
 unfold Sz
 have e : (8 : Int) * 2 ^ 160 < 2 ^ 170 := by decide +kernel
 omega
theorem zbR {l : List Int} (h : Wf l) : SzC 170 (zZ l) := by
 refine ⟨⟨h.sum.2, by show Sz 170 1; unfold Sz; decide⟩, fun q hq => ?_⟩
 obtain ⟨x, hx, rfl⟩ := List.mem_map.mp hq
 exact ⟨Sz.mono (h.2 x hx).2 (by decide), by show Sz 170 1; unfold Sz; decide⟩
theorem ClOk.am {l : List Cl} (h : ClOk 160 l) : Wf (amV l) := by
 refine ⟨by rw [yk]; exact h.few, fun x hx => ?_⟩
 obtain ⟨c, hc, rfl⟩ := List.mem_map.mp hx
 exact ⟨(h.nn c hc).1, h.sz c hc⟩
theorem Wf.min {as : List Int} {l : Int} (h : Wf as) (hl : 0 ≤ l) : Wf (Wx as l) ∧ Wf (XX as l) := by
 refine ⟨⟨by unfold Wx; rw [List.length_map]; exact h.1, fun x hx => ?_⟩, ⟨by unfold XX; rw [List.length_map]; exact h.1, fun x hx => ?_⟩⟩
 ·obtain ⟨a, ha, rfl⟩ := List.mem_map.mp hx
  have := h.2 a ha
  exact ⟨by omega, Vf (by omega) (by omega) this.2⟩
 ·obtain ⟨a, ha, rfl⟩ := List.mem_map.mp hx
  have := h.2 a ha
  exact ⟨by omega, Vf (by omega) (by omega) this.2⟩
section
variable {as ls : List Int}
theorem LvOk.szE (h : LvOk as ls) (i : Wf as) : ∀ c ∈ evP as ls, SzC 170 c := fun c hc => by
 obtain ⟨l, hl, rfl⟩ := List.mem_map.mp hc
 exact zbR (i.min (h.nnL l hl)).1
theorem LvOk.szL (h : LvOk as ls) (i : Wf as) : ∀ c ∈ loP as ls, SzC 170 c := fun c hc => by
 obtain ⟨l, hl, rfl⟩ := List.mem_map.mp hc
 exact zbR (i.min (h.nnL l (List.mem_reverse.mp hl))).2
theorem LvOk.inE (h : LvOk as ls) (i : Wf as) : PathIn (evP as ls) := by
 obtain ⟨r, er⟩ := zeB h
 have f := h.few
 have i1 := i.1
 exact ⟨by rw [er]; simp, fun c hc => (h.szE i c hc).mono (by decide), fun c hc => by rw [(zcp as ls c hc).1]; omega, by unfold evP; rw [List.length_map]; omega⟩
theorem LvOk.inL (h : LvOk as ls) (i : Wf as) : PathIn (loP as ls) := by
 obtain ⟨r, er⟩ := loP_ne h
 have f := h.few
 have i1 := i.1
 exact ⟨by rw [er]; simp, fun c hc => (h.szL i c hc).mono (by decide), fun c hc => by rw [(zer as ls c hc).1]; omega, by unfold loP; rw [List.length_map, List.length_reverse]; omega⟩
theorem zbD : SzQ 2 ((1 : Rat) / 2) := by unfold SzQ Sz; decide +kernel
theorem Vn {a : List zm} (h : ∀ c ∈ a, SzC 170 c) : ∀ c ∈ zI (1 / 2) a, SzC 172 c := fun c hc => by
 obtain ⟨d, hd, rfl⟩ := List.mem_map.mp hc
 have := h d hd
 refine ⟨(this.1.mul zbD).mono (by decide), fun q hq => ?_⟩
 obtain ⟨x, hx, rfl⟩ := List.mem_map.mp hq
 exact ((this.2 x hx).mul zbD).mono (by decide)
theorem zaB {a : List zm} (ok : PathIn a) (h : ∀ c ∈ a, SzC 170 c) : PathIn (zI (1 / 2) a) := by
 refine ⟨fun e => ok.ne (List.map_eq_nil_iff.mp e), fun c hc => (Vn h c hc).mono (by decide), fun c hc => ?_, by unfold zI; rw [List.length_map]; exact ok.few⟩
 obtain ⟨d, hd, rfl⟩ := List.mem_map.mp hc
 rw [List.length_map]
 exact ok.len d hd
theorem LvOk.szH (h : LvOk as ls) (i : Wf as) : ∀ c ∈ hvP as ls, SzC 400 c := fun c hc => by
 have sA := Vn (h.szE i)
 have sB := Vn (h.szL i)
 rcases List.mem_append.mp hc with z | z
 ·exact (sA c z).mono (by decide)
 ·obtain ⟨d, hd, rfl⟩ := List.mem_map.mp z
  have x := sA _ (zbC h)
  have y := sB d (List.mem_of_mem_tail hd)
  refine ⟨(x.1.add y.1).mono (by decide), fun q hq => ?_⟩
  obtain ⟨j, hj, e⟩ := List.getElem_of_mem hq
  have hj' := hj
  simp only [XS, List.length_zipWith] at hj'
  have e2 : q = (lastC (hfA as ls)).2[j]'(by omega) + d.2[j]'(by omega) := by
   rw [← e]
   simp only [XS, List.getElem_zipWith]
  rw [e2]
  exact ((x.2 _ (List.getElem_mem _)).add (y.2 _ (List.getElem_mem _))).mono (by decide)
theorem LvOk.okH (h : LvOk as ls) (i : Wf as) : PathOk as.length (hvP as ls) := by
 have f := h.few
 have i1 := i.1
 refine ⟨fun c hc => (h.szH i c hc).mono (by decide), fun c hc => (hv_ok h c hc).1, by omega, ?_⟩
 unfold hvP hfA hfB yN zI evP loP
 simp only [List.length_append, List.length_map, List.length_tail, List.length_reverse]
 omega
end
end S
namespace S
open PySem PySem.Spec PyProof.Rows L2
theorem YC : ∀ (a : zm) (r : List zm), (yw a r).Sublist r
 | a, [] => by rw [yw]; exact List.Sublist.refl _
 | a, [b] => by rw [yw]; exact List.Sublist.refl _
 | a, b :: c :: r => by
   rw [yw]
   split
   ·exact List.Sublist.cons _ (YC b (c :: r))
   ·exact List.Sublist.cons₂ _ (YC b (c :: r))
theorem Ye : ∀ r : List zm, (xc r).Sublist r
 | [] => List.Sublist.refl _
 | c :: r => List.Sublist.cons₂ _ (YC c r)
section
variable {as ls : List Int}
end
theorem iteSY {a b : Str} {X Y : Prop} (hc : a = b) (h : X) : if decide (a = b) = true then X else Y := Yo (fun _ => h) fun n => absurd hc n
theorem iteSN {a b : Str} {X Y : Prop} (hc : ¬ a = b) (h : Y) : if decide (a = b) = true then X else Y := Yo (fun y => absurd y hc) fun _ => h
section
variable {B G0 H : Hp} {cs : yR} {ds : Dat} {Q : VK} {E : XK} {v w u : V} {K : PySem.W.Frag}
def xk : Nat → Rl
 | 0 => .shares
 | 1 => .evenly
 | 2 => .losses
 | _ => .halves
def zbq : Sp := spB (α := List Cl) (fun l => [yg l]) (ClOk 160) (fun _ => .non)
theorem zfu {l : List Cl} (S : Sta B G0 H cs ds) (h : Has ds (yg l) v) (ok : ClOk 160 l) (k : ∀ H', yc H H' → Sta B G0 H' cs ds → Q .non H') : zbq [v] H Q E := Vu l (S.hpAll (.cons h .nil)) ok fun H' e => k H' e (S.same e)
def spWC : Sp := spT (α := List Int) (fun l => [.list (l.map PyData.int)]) (fun l => l.length ≤ 8) (fun l => zW (zZ l))
theorem zgV {l : List Int} (S : Sta B G0 H cs ds) (h : Has ds (.list (l.map PyData.int)) v) (ok : l.length ≤ 8) (k : ∀ w H', yc H H' → Sta B G0 H' cs ((zW (zZ l), w) :: ds) → Q w H') : spWC [v] H Q E := ZQ l S (.cons h .nil) ok k
def Vk : Sp := spL (α := Nat) (fun n => [.int (n : Int)]) (fun n => n ≤ 8) (fun n => [zZ (ZB n)].map zW)
theorem Uo {n : Nat} (S : Sta B G0 H cs ds) (ok : n ≤ 8) (k : ∀ p H', yc H H' → Sta B G0 H' ((p, [zZ (ZB n)].map zW) :: cs) ds → Q (.ref p) H') : Vk [.int (n : Int)] H Q E := Xh n S (.cons Has.int .nil) ok k
noncomputable def flV (k : Nat) (l : List Cl) : List zm := zh0 (amV l) (lvV (amV l)) k
noncomputable def WH (k : Nat) : Sp := spL (α := List Cl) (fun l => [yg l]) (ClOk 160) (fun l => (flV k l).map zW)
theorem Wu {n : Nat} {l : List Cl} (S : Sta B G0 H cs ds) (h : Has ds (yg l) v) (ok : ClOk 160 l) (k : ∀ p H', yc H H' → Sta B G0 H' ((p, (flV n l).map zW) :: cs) ds → Q (.ref p) H') : WH n [v] H Q E := Xh l S (.cons h .nil) ok k
theorem ClOk.lv {l : List Cl} (h : ClOk 160 l) : LvOk (amV l) (lvV (amV l)) := za2 fun a ha => (h.am.2 a ha).1
noncomputable def Xm (p : Rat) (a b : List zm) : List zm := xc (zI p a ++ yN (zI p a) (zI (1 - p) b))
structure UpOk (p : Rat) (a b : List zm) : Prop where
 sz : SzQ 1000 p
 pa : PathIn a
 pb : PathIn b
 sa : PathIn (zI p a)
 sb : PathIn (zI (1 - p) b)
 m : ∃ m, PathOk m (zI p a ++ yN (zI p a) (zI (1 - p) b))
noncomputable def zdq : Sp := spL (α := Rat × List zm × List zm) (fun a => [frD a.1, Xc a.2.1, Xc a.2.2]) (fun a => UpOk a.1 a.2.1 a.2.2) (fun a => (Xm a.1 a.2.1 a.2.2).map zW)
theorem zdG {p : Rat} {a b : List zm} (S : Sta B G0 H cs ds) (h1 : Has ds (frD p) u) (h2 : Has ds (Xc a) v) (h3 : Has ds (Xc b) w) (ok : UpOk p a b) (k : ∀ q H', yc H H' → Sta B G0 H' ((q, (Xm p a b).map zW) :: cs) ds → Q (.ref q) H') : zdq [u, v, w] H Q E := Xh (p, a, b) S (.cons h1 (.cons h2 (.cons h3 .nil))) ok k
theorem up_ok {l : List Cl} (h : ClOk 160 l) : UpOk (1 / 2) (flV 1 l) (flV 2 l) := by
 have L := h.lv
 have e : (1 : Rat) - 1 / 2 = 1 / 2 := by decide +kernel
 refine ⟨zbD.mono (by decide), L.inE h.am, L.inL h.am, zaB (L.inE h.am) (L.szE h.am), ?_, (amV l).length, ?_⟩
 ·rw [e]; exact zaB (L.inL h.am) (L.szL h.am)
 ·rw [e]; exact L.okH h.am
theorem zdh (l : List Cl) : Xm (1 / 2) (flV 1 l) (flV 2 l) = flV 3 l := by
 have e : (1 : Rat) - 1 / 2 = 1 / 2 := by decide +kernel
 unfold Xm
 rw [e]
 rfl
end
end S
namespace S
open PySem PySem.Spec PyProof.Rows L2
def InS (n : Nat) (l : List Int) : Prop := l.length ≤ 8 ∧ ∀ x ∈ l, 0 ≤ x ∧ Sz n x
theorem InS.sum {n : Nat} {l : List Int} (h : InS n l) : 0 ≤ l.sum ∧ Sz (n + 4) l.sum := by
 have p : (0 : Int) < 2 ^ n := Int.pow_pos (by decide)
 have h1 := Vg (b := 2 ^ n) (Int.le_of_lt p) (l := l) fun x hx => ⟨(h.2 x hx).1, by
  have z := (h.2 x hx).2
  have z0 := (h.2 x hx).1
  unfold Sz at z
  have : (x.natAbs : Int) < ((2 ^ n : Nat) : Int) := Int.ofNat_lt.mpr z
  rw [Int.natCast_pow] at this
  have e : ((2 : Nat) : Int) = 2 := rfl
  rw [e] at this
  omega⟩
 refine ⟨h1.1, ?_⟩
 have l8 := h.1
 have le : (l.length : Int) * 2 ^ n ≤ 8 * 2 ^ n := Int.mul_le_mul_of_nonneg_right (by omega) (Int.le_of_lt p)
 unfold Sz
 have e : (2 : Nat) ^ (n + 4) = 2 ^ n * 16 := by rw [Nat.pow_add]
 rw [e]
 have e2 : ((2 ^ n : Nat) : Int) = 2 ^ n := by rw [Int.natCast_pow]; rfl
 omega
theorem InB.inS {n : Nat} {am tk : List Int} (h : InB am tk) (l : am.length ≤ 8) (z : ∀ x ∈ am, Sz n x) : InS n tk ∧ InS n am := by
 refine ⟨⟨by rw [h.1]; exact l, fun x hx => ?_⟩, ⟨l, fun x hx => ?_⟩⟩
 ·obtain ⟨i, hi, rfl⟩ := List.getElem_of_mem hx
  have hi' : i < am.length := by rw [← h.1]; exact hi
  have b := h.2 i _ _ (List.getElem?_eq_getElem hi') (List.getElem?_eq_getElem hi)
  exact ⟨b.1, Vf b.1 b.2 (z _ (List.getElem_mem _))⟩
 ·obtain ⟨i, hi, rfl⟩ := List.getElem_of_mem hx
  have hi' : i < tk.length := by rw [h.1]; exact hi
  have b := h.2 i _ _ (List.getElem?_eq_getElem hi) (List.getElem?_eq_getElem hi')
  exact ⟨by omega, z _ (List.getElem_mem _)⟩
def zab (n : Int) : List Int := if n % 5 = 0 then [7, 10, 2] else if n % 5 = 1 then [10 ^ 40 + 5, 9, 30] else if n % 5 = 2 then [2024, 10 ^ 20, 100] else [0, 1, 2]
theorem zet (n i : Int) : ∃ x, 0 ≤ x ∧ atI ((zab n).map PyData.int) (i % 3) = some (.int x) := by
 have hi : i % 3 = 0 ∨ i % 3 = 1 ∨ i % 3 = 2 := by omega
 unfold zab
 split
 ·rcases hi with h | h | h <;> rw [h] <;> exact ⟨_, by decide, rfl⟩
 ·split
  ·rcases hi with h | h | h <;> rw [h] <;> exact ⟨_, by decide, rfl⟩
  ·split
   ·rcases hi with h | h | h <;> rw [h] <;> exact ⟨_, by decide, rfl⟩
   ·rcases hi with h | h | h <;> rw [h] <;> exact ⟨_, by decide, rfl⟩
section
variable {B G0 H : Hp} {cs : yR} {ds : Dat} {Q : VK} {E : XK} {v w u : V} {K : PySem.W.Frag} {xs ys : List PyData} {R : It → Hp → Prop}
theorem XN (S : Sta B G0 H cs ds) (h : Has ds (.list xs) v) (h2 : Has ds (.list ys) w) (k : ∀ J, Wk B G0 J (zgI xs ys) (fun cs ds => Has ds (.list xs) v ∧ (∀ x u, Has ds (.list ys) w → Has ((x, u) :: ds) (.list ys) w) ∧ Has ds (.list ys) w) → R J H) : kZi true true K R [v, w] H := by
 obtain ⟨p, vs, rfl, hp, _⟩ := S.lst h
 obtain ⟨q, ws, rfl, hq, _⟩ := S.lst h2
 exact ⟨p, q, rfl, ⟨_, SqL.of hp⟩, ⟨_, SqL.of hq⟩, k _ (zgc Xu Xu)⟩
def UI : Sp := spL (α := Int) (fun n => [.int n]) (fun _ => True) (fun n => (zab n).map PyData.int)
theorem zaQ {n : Int} (S : Sta B G0 H cs ds) (k : ∀ p H', yc H H' → Sta B G0 H' ((p, (zab n).map PyData.int) :: cs) ds → Q (.ref p) H') : UI [.int n] H Q E := Xh n S (.cons Has.int .nil) trivial k
def UJ (K : PySem.W.Frag) : Sp := fun vs H Q _ => ∃ (G : Hp) (a : Addr) (ns : List Int) (at' many size : Int), vs = [.ref a, .int at', .int many, .int size] ∧ yc G H ∧ SqL K H a (ns.map V.int) ∧ (0 ≤ at' ∧ 1 ≤ many ∧ many ≤ 8 ∧ 10 ≤ size ∧ size ≤ 10 ^ 46) ∧
 ∀ (l : List Cl) (p : Addr) (H' G' : Hp) (us : List V), l.length = many.toNat → ClOk 160 l → Grow G H G' H' → H p = none → G' p = none → H' p = some (.lst us) → zM G' (l.map yn) us → Q (.ref p) H'
theorem zdR {a : Addr} {ns : List Int} {at' many size : Int} (S : Sta B G0 H cs ds) (hS : SqL K H a (ns.map V.int)) (hb : 0 ≤ at' ∧ 1 ≤ many ∧ many ≤ 8 ∧ 10 ≤ size ∧ size ≤ 10 ^ 46)
 (k : ∀ (l : List Cl) (p : Addr) (H' : Hp), l.length = many.toNat → ClOk 160 l → yc H H' → Sta B G0 H' ((p, l.map yn) :: cs) ds → Q (.ref p) H') : UJ K [.ref a, .int at', .int many, .int size] H Q E := by
 obtain ⟨G, S⟩ := S
 exact ⟨G, a, ns, at', many, size, rfl, S.2.1, hS, hb, fun l p H' G' us h1 h2 gr hp hg hu hv => k l p H' h1 h2 gr.h (Sta.put_call S gr hp hg hu hv)⟩
def zdt : Sp := spB (α := List Int × List Int) (fun a => [ZX a.1, ZX a.2]) (fun a => a.1.length ≤ 8 ∧ zbf a.1 a.2) (fun _ => .bl true)
theorem zdP {am tk : List Int} (S : Sta B G0 H cs ds) (h1 : Has ds (ZX am) v) (h2 : Has ds (ZX tk) w) (l : am.length ≤ 8) (ok : zbf am tk) (k : ∀ H', yc H H' → Sta B G0 H' cs ds → Q (.bl true) H') : zdt [v, w] H Q E := Vu (am, tk) (S.hpAll (.cons h1 (.cons h2 .nil))) ⟨l, ok⟩ fun H' e => k H' e (S.same e)
def zbm : Sp := fun vs H Q _ => ∃ (G : Hp) (wh c : Int), vs = [.int wh, .int c] ∧ yc G H ∧ (0 ≤ wh ∧ Sz 180 wh) ∧ ∀ v H' G' (e : Rat), Grow G H G' H' → Is G' (frD e) v → 0 ≤ e ∧ SzQ 300 e → Q v H'
theorem zfk {wh c : Int} (S : Sta B G0 H cs ds) (hb : 0 ≤ wh ∧ Sz 180 wh) (k : ∀ v H' (e : Rat), 0 ≤ e ∧ SzQ 300 e → yc H H' → Sta B G0 H' cs ((frD e, v) :: ds) → Q v H') : zbm [.int wh, .int c] H Q E := by
 obtain ⟨G, S⟩ := S
 refine ⟨G, wh, c, rfl, S.2.1, hb, fun v H' G' e gr hv good => k v H' e good gr.h ?_⟩
 obtain ⟨a', b', c', d', e', f', g'⟩ := S.grow gr
 exact ⟨G', a', b', c', d', e', f', g'.cons hv⟩
theorem zaM {G H' : Hp} {e : Rat} (S : Sta H G H' cs ds) (k : ∀ v H' G' (e : Rat), Grow G H G' H' → Is G' (frD e) v → 0 ≤ e ∧ SzQ 300 e → Q v H') (h : Has ds (frD e) v) (hg : 0 ≤ e ∧ SzQ 300 e) : Q v H' :=
 let ⟨G', gr, al⟩ := S.leave; k v H' G' e gr (h G' al) hg
end
theorem zfS {b d : Int} (hb : 0 < b) (hd : 0 < d) : 0 < b.fdiv (Int.gcd b d : Nat) * d ∧ b ∣ b.fdiv (Int.gcd b d : Nat) * d ∧ d ∣ b.fdiv (Int.gcd b d : Nat) * d := by
 have gp : 0 < Int.gcd b d := Int.gcd_pos_of_ne_zero_left d (by omega)
 have g0 : (0 : Int) < ((Int.gcd b d : Nat) : Int) := by omega
 rw [Int.fdiv_eq_ediv_of_nonneg _ (Int.le_of_lt g0)]
 obtain ⟨x, hx⟩ := Int.gcd_dvd_left b d
 obtain ⟨y, hy⟩ := Int.gcd_dvd_right b d
 have ex : b / ((Int.gcd b d : Nat) : Int) = x := by
  conv => lhs; arg 1; rw [hx]
  exact Int.mul_ediv_cancel_left x (by omega)
 rw [ex]
 have x0 : 0 < x := by
  rcases Int.lt_or_le 0 x with h | h
  ·exact h
  ·have := Int.mul_nonpos_of_nonneg_of_nonpos (Int.le_of_lt g0) h
   omega
 refine ⟨Int.mul_pos x0 hd, ⟨y, ?_⟩, ⟨x, Int.mul_comm ..⟩⟩
 conv => rhs; rw [hx, Int.mul_comm ((Int.gcd b d : Nat) : Int) x, Int.mul_assoc, ← hy]
theorem zas {p : Rat} {B : Int} (hB : 0 < B) (hd : (p.den : Int) ∣ B) : ((p.num * B.fdiv (p.den : Int) : Int) : Rat) = p * (B : Rat) := by
 rw [Int.fdiv_eq_ediv_of_nonneg _ (Int.natCast_nonneg _)]
 obtain ⟨x, rfl⟩ := hd
 have d0 : (p.den : Int) ≠ 0 := by have := p.den_pos; omega
 rw [Int.mul_ediv_cancel_left _ d0, Rat.intCast_mul, Rat.intCast_mul, ← Rat.mul_assoc]
 congr 1
 have h1 : p = Rat.divInt p.num (p.den : Int) := (Rat.num_divInt_den p).symm
 have h3 : ∀ z : Int, (z : Rat) = Rat.divInt z 1 := fun z => by rw [← Rat.num_divInt_den (z : Rat)]; rfl
 have h2 := h3 (p.den : Int)
 conv => rhs; arg 1; rw [h1]
 rw [h2, Rat.divInt_mul_divInt, h3, Int.mul_one]
 exact ((Rat.divInt_eq_divInt_iff d0 (by decide)).mpr (by rw [Int.mul_one])).symm
noncomputable def tkV (B : Int) (v : List Rat) : List Int := v.map fun p => p.num * B.fdiv (p.den : Int)
end S
namespace S
open PySem PySem.Spec PyProof.Rows L2
theorem zaW {m : Nat} {P : List zm} {j : Nat} {c d : zm} {e : Rat} (hr : xr P) (hl : ∀ x ∈ P, x.2.length = m) (hc : P[j]? = some c) (hd : P[j + 1]? = some d) (h1 : c.1 ≤ e) (h2 : e ≤ d.1) : zA P e = WE c d e := by
 by_cases lt : e < d.1
 ·have := Zk (E := e) hr hc h1 (.inr ⟨d, hd, lt⟩)
  rw [hd] at this
  exact this
 ·have e1 : e = d.1 := Rat.le_antisymm h2 (Rat.not_lt.mp lt)
  subst e1
  have lc := hl c (List.mem_of_getElem? hc)
  have ld := hl d (List.mem_of_getElem? hd)
  have hcd : c.1 < d.1 := by
   have := List.pairwise_iff_getElem.mp hr j (j + 1) (List.getElem?_eq_some_iff.mp hc).1 (List.getElem?_eq_some_iff.mp hd).1 (by omega)
   rw [(List.getElem?_eq_some_iff.mp hc).2, (List.getElem?_eq_some_iff.mp hd).2] at this
   exact this
  rw [zf8 (by rw [lc, ld]) hcd]
  cases hn : P[j + 1 + 1]? with
  | none =>
    have := Zk (E := d.1) hr hd Rat.le_refl (.inl (by
     have h1 := (List.getElem?_eq_some_iff.mp hd).1
     have h2 := List.getElem?_eq_none_iff.mp hn
     omega))
    rw [hn] at this
    exact this
  | some f =>
    have hdf : d.1 < f.1 := by
     have := List.pairwise_iff_getElem.mp hr (j + 1) (j + 1 + 1) (List.getElem?_eq_some_iff.mp hd).1 (List.getElem?_eq_some_iff.mp hn).1 (by omega)
     rw [(List.getElem?_eq_some_iff.mp hd).2, (List.getElem?_eq_some_iff.mp hn).2] at this
     exact this
    have := Zk (E := d.1) hr hd Rat.le_refl (.inr ⟨f, hn, hdf⟩)
    rw [hn] at this
    rw [this]
    exact WD (by rw [ld, hl f (List.mem_of_getElem? hn)])
def zcA (x y : List Rat) : List Rat := List.zipWith (· - ·) x y
def Wh (p : Rat) (x : List Rat) : List Rat := x.map (· * p)
theorem zbY {x y : List Rat} (h : y.length = x.length) : (zcA x y).length = x.length := by unfold zcA; rw [List.length_zipWith, h, Nat.min_self]
theorem zbZ {x y : List Rat} {i : Nat} {a b : Rat} (h1 : x[i]? = some a) (h2 : y[i]? = some b) : (zcA x y)[i]? = some (a - b) := by
 unfold zcA; rw [List.getElem?_zipWith, h1, h2]
theorem zdp {x y : List Rat} (h : y.length = x.length) : zcA x (zcA x y) = y := by
 apply List.ext_getElem?
 intro i
 by_cases hi : i < x.length
 ·have e1 := List.getElem?_eq_getElem hi
  have e2 := List.getElem?_eq_getElem (l := y) (i := i) (by omega)
  rw [zbZ e1 (zbZ e1 e2), e2]
  congr 1
  grind
 ·rw [List.getElem?_eq_none (by rw [zbY (by rw [zbY h])]; omega), List.getElem?_eq_none (by omega)]
structure Std (m : Nat) (T : Rat) (as : List Rat) (P : List zm) : Prop where
 rise : xr P
 ok : ∀ c ∈ P, c.2.length = m ∧ yl c.2 = c.1
 head : P[0]? = some (0, List.replicate m 0)
 last : P.getLast? = some (T, as)
section
variable {m : Nat} {T : Rat} {as : List Rat} {P : List zm} {e : Rat}
theorem Std.lastC (h : Std m T as P) : lastC P = (T, as) := by unfold S.lastC; rw [h.last]; rfl
theorem Std.ne (h : Std m T as P) : P ≠ [] := fun z => by have := h.head; rw [z] at this; cases this
theorem Std.cons (h : Std m T as P) : ∃ r, P = (0, List.replicate m 0) :: r := by
 cases P with
 | nil => exact absurd rfl h.ne
 | cons c r => have := h.head; cases this; exact ⟨r, rfl⟩
theorem Std.lenA (h : Std m T as P) : as.length = m := (h.ok _ (List.mem_of_getLast? h.last)).1
theorem Std.T0 (h : Std m T as P) : 0 ≤ T := by
 obtain ⟨r, rfl⟩ := h.cons
 have hl := h.last
 cases r with
 | nil => cases hl; exact Rat.le_refl
 | cons d r =>
   have : (T, as) ∈ d :: r := by
    rw [List.getLast?_cons_cons] at hl
    exact List.mem_of_getLast? hl
   exact Rat.le_of_lt ((List.pairwise_cons.mp h.rise).1 _ this)
theorem Std.sum (h : Std m T as P) (h0 : 0 ≤ e) : yl (zA P e) = mn e T := by
 obtain ⟨r, er⟩ := h.cons
 have := zbV r er h.rise h.ok h0
 rw [h.lastC] at this
 exact this
theorem Std.len (h : Std m T as P) : (zA P e).length = m := by
 obtain ⟨r, er⟩ := h.cons
 have := h.ok
 rw [er] at this ⊢
 exact Us fun x hx => (this x hx).1
theorem Std.past (h : Std m T as P) (he : T ≤ e) : zA P e = as := by
 obtain ⟨r, er⟩ := h.cons
 have l := h.lastC
 have rr := h.rise
 rw [er] at l rr ⊢
 rw [VA rr (by rw [l]; exact he), l]
theorem Std.turned (h : Std m T as P) (h0 : 0 ≤ e) (h1 : e ≤ T) : zA (yF P) e = zcA as (zA P (T - e)) := by
 have hl := h.lastC
 have lens : ∀ x ∈ P, x.2.length = m := fun x hx => (h.ok x hx).1
 have rise : xr (yF P) := by
  unfold yF xr
  rw [List.pairwise_map, List.pairwise_reverse]
  exact h.rise.imp fun {c d} hcd => by
   show (S.lastC P).1 - d.1 < (S.lastC P).1 - c.1
   grind
 have lensT : ∀ x ∈ yF P, x.2.length = m := fun x hx => by
  obtain ⟨c, hc, rfl⟩ := List.mem_map.mp hx
  show (List.zipWith _ (S.lastC P).2 c.2).length = m
  rw [List.length_zipWith, hl, lens c (List.mem_reverse.mp hc), h.lenA, Nat.min_self]
 have lp : 0 < P.length := List.length_pos_iff.mpr h.ne
 obtain ⟨j, q, hj, hqe, hnx⟩ := zbH (E := T - e) (M := P.map fun c => c.1) (z := 0) (by rw [List.getElem?_map, h.head]; rfl) (by grind)
 rw [List.length_map] at hnx
 obtain ⟨c, hc, rfl⟩ := yu hj
 have jl : j < P.length := (List.getElem?_eq_some_iff.mp hc).1
 have tget : ∀ (k : Nat) (x : zm), P[k]? = some x → (yF P)[P.length - 1 - k]? = some (Xn (T, as) x) := fun k x hx => by
  have kl : k < P.length := (List.getElem?_eq_some_iff.mp hx).1
  unfold yF
  rw [List.getElem?_map, List.getElem?_reverse (by omega), show P.length - 1 - (P.length - 1 - k) = k by omega, hx, hl]
  rfl
 by_cases lastj : j + 1 = P.length
 ·
  have ec : c = (T, as) := by
   have := h.last
   rw [List.getLast?_eq_getElem?, show P.length - 1 = j by omega, hc] at this
   exact Option.some.inj this
  have e0 : e = 0 := by
   rw [ec] at hqe
   have : T ≤ T - e := hqe
   exact Rat.le_antisymm (by grind) h0
  subst e0
  rw [show T - (0 : Rat) = T by grind, h.past Rat.le_refl]
  have ht := tget j c hc
  rw [show P.length - 1 - j = 0 by omega, ec] at ht
  have hz : Xn (T, as) (T, as) = (0, List.replicate m 0) := by
   unfold Xn
   rw [show T - T = (0 : Rat) by grind]
   congr 1
   apply List.ext_getElem
   ·rw [List.length_zipWith, h.lenA, List.length_replicate, Nat.min_self]
   ·intro i _ _
    rw [List.getElem_zipWith, List.getElem_replicate]
    grind
  have e2 : zcA as as = List.replicate m 0 := (congrArg Prod.snd hz)
  rw [e2]
  rw [hz] at ht
  cases hT : yF P with
  | nil => rw [hT] at ht; cases ht
  | cons x r =>
    rw [hT] at ht rise lensT
    cases ht
    cases r with
    | nil => rfl
    | cons d r =>
      have lt := (List.pairwise_cons.mp rise).1 d (List.mem_cons_self ..)
      rw [zA, if_pos lt]
      have := WD (c := ((0 : Rat), List.replicate m (0 : Rat))) (d := d) (by rw [List.length_replicate, lensT d (List.mem_cons_of_mem _ (List.mem_cons_self ..))])
      exact this
 ·rcases hnx with z | ⟨r, hr, hlt⟩
  ·exact absurd z lastj
  obtain ⟨d, hd, rfl⟩ := yu hr
  have lc := lens c (List.mem_of_getElem? hc)
  have ld := lens d (List.mem_of_getElem? hd)
  have hcd : c.1 < d.1 := by grind
  rw [zaW h.rise lens hc hd hqe (Rat.le_of_lt hlt)]
  have t1 := tget (j + 1) d hd
  have t2 := tget j c hc
  have dl : j + 1 < P.length := (List.getElem?_eq_some_iff.mp hd).1
  rw [show P.length - 1 - j = P.length - 1 - (j + 1) + 1 by omega] at t2
  rw [zaW rise lensT t1 t2 (by show T - d.1 ≤ e; grind) (by show e ≤ T - c.1; grind)]
  unfold WE zcA
  apply List.ext_getElem?
  intro i
  by_cases hi : i < m
  ·have ia : i < as.length := by rw [h.lenA]; exact hi
   have ic : i < c.2.length := by omega
   have id' : i < d.2.length := by omega
   have a1 := List.getElem?_eq_getElem ia
   have c1 := List.getElem?_eq_getElem ic
   have d1 := List.getElem?_eq_getElem id'
   unfold Xn
   dsimp only
   rw [List.getElem?_zipWith, List.getElem?_zipWith, List.getElem?_zipWith, List.getElem?_zipWith, List.getElem?_zipWith, a1, c1, d1]
   congr 1
   generalize as[i] = A
   generalize c.2[i] = C
   generalize d.2[i] = D
   unfold ZK
   have hi2 := Rat.mul_inv_cancel _ (WG hcd)
   rw [Rat.div_def, Rat.div_def, show T - c.1 - (T - d.1) = d.1 - c.1 by grind]
   generalize (d.1 - c.1)⁻¹ = v at *
   grind
  ·rw [List.getElem?_eq_none, List.getElem?_eq_none]
   ·simp only [List.length_zipWith, h.lenA, lc, ld]; omega
   ·simp only [Xn, List.length_zipWith, h.lenA, lc, ld]; omega
end
end S
namespace S
open PySem PySem.Spec PyProof.Rows L2
structure Row where
 am : Rat
 rank : Int
 group : Int
 part : Rat
def zbX (L : List Row) : Rat := yl (L.map (·.am))
def zdn (L : List Row) : Rat := yl (L.map (·.part))
def Row.flip (x : Row) : Row := { x with part := x.am - x.part }
def Row.first (p : Rat) (x : Row) : Row := { x with am := x.am * p }
def Row.rest (p : Rat) (x : Row) : Row := { x with am := x.am * (1 - p), part := x.part - x.am * p }
def Row.scale (c : Rat) (x : Row) : Row := { x with am := x.am * c, part := x.part * c }
def InQ (L : List Row) : Prop := ∀ x ∈ L, 0 ≤ x.part ∧ x.part ≤ x.am
def zib (L : List Row) : Prop := ∀ x ∈ L, x.part * zbX L = x.am * zdn L
def zbe (L : List Row) : Prop := InQ L ∧ ∀ x ∈ L, x.part < x.am → ∀ y ∈ L, y.part ≤ x.part
noncomputable def zae (L : List Row) : List Int := (zbA (L.map (·.group))).choose
def minR : List Int → Int
 | [] => 0
 | [a] => a
 | a :: l => min a (minR l)
noncomputable def ze8 (L : List Row) : List Row := (zae L).map fun g =>
 ⟨zbX (L.filter (·.group = g)), minR ((L.filter (·.group = g)).map (·.rank)), g, zdn (L.filter (·.group = g))⟩
def VS (p : Rat) (X Y : List Row → Prop) (L : List Row) : Prop := if zdn L ≤ zbX L * p then X (L.map (Row.first p)) else Y (L.map (Row.rest p))
noncomputable def xS : Rl → List Row → Prop
 | .shares, L => InQ L ∧ zib L
 | .evenly, L => InQ L ∧ zbe L
 | .losses, L => InQ L ∧ zbe (L.map Row.flip)
 | .halves, L => InQ L ∧ VS (1 / 2) (fun L => InQ L ∧ zbe L) (fun L => InQ L ∧ zbe (L.map Row.flip)) L
 | .other r, L => InQ L ∧ xS r (L.map Row.flip)
 | .ranks r, L => InQ L ∧ (∀ k, xS r (L.filter (·.rank = k))) ∧ ∀ x ∈ L, ∀ y ∈ L, x.rank < y.rank → 0 < y.part → x.part = x.am
 | .groups a b, L => InQ L ∧ (∀ g, xS b (L.filter (·.group = g))) ∧ xS a (ze8 L)
 | .upto t b x y, L => InQ L ∧ VS (Rat.divInt t b) (xS x) (xS y) L
theorem xS.inQ : ∀ {r : Rl} {L : List Row}, xS r L → InQ L
 | .shares, _, h => h.1
 | .evenly, _, h => h.1
 | .losses, _, h => h.1
 | .halves, _, h => h.1
 | .other _, _, h => h.1
 | .ranks _, _, h => h.1
 | .groups _ _, _, h => h.1
 | .upto _ _ _ _, _, h => h.1
section
variable {c : Rat} {L : List Row}
theorem Wn : zbX (L.map (Row.scale c)) = zbX L * c := by
 unfold zbX
 rw [← yS, List.map_map, List.map_map]; rfl
theorem Wm : zdn (L.map (Row.scale c)) = zdn L * c := by
 unfold zdn
 rw [← yS, List.map_map, List.map_map]; rfl
theorem Uu {x y : Rat} (hc : 0 < c) : x * c ≤ y * c ↔ x ≤ y := by
 constructor
 ·intro h
  by_cases z : x ≤ y
  ·exact z
  ·have := Rat.mul_pos (show 0 < x - y by grind) hc
   grind
 ·intro h
  exact Zs h (Rat.le_of_lt hc)
theorem InQ.scale (hc : 0 < c) (h : InQ L) : InQ (L.map (Row.scale c)) := fun x hx => by
 obtain ⟨y, hy, rfl⟩ := List.mem_map.mp hx
 have := h y hy
 exact ⟨Rat.mul_nonneg this.1 (Rat.le_of_lt hc), Zs this.2 (Rat.le_of_lt hc)⟩
theorem zbe.scale (hc : 0 < c) (h : zbe L) : zbe (L.map (Row.scale c)) := by
 refine ⟨h.1.scale hc, fun x hx lt y hy => ?_⟩
 obtain ⟨x', hx', rfl⟩ := List.mem_map.mp hx
 obtain ⟨y', hy', rfl⟩ := List.mem_map.mp hy
 have lt' : x'.part < x'.am := by
  rcases Rat.not_le.mp (fun z => absurd ((Uu (c := c) hc).mpr z) (Rat.not_le.mpr lt)) with z
  exact z
 exact Zs (h.2 x' hx' lt' y' hy') (Rat.le_of_lt hc)
theorem WB : (L.map (Row.scale c)).map Row.flip = (L.map Row.flip).map (Row.scale c) := by
 rw [List.map_map, List.map_map]
 refine List.map_congr_left fun x _ => ?_
 simp only [Function.comp, Row.flip, Row.scale]
 congr 1
 grind
theorem zbG {p : Rat} : (L.map (Row.scale c)).map (Row.first p) = (L.map (Row.first p)).map (Row.scale c) := by
 rw [List.map_map, List.map_map]
 refine List.map_congr_left fun x _ => ?_
 simp only [Function.comp, Row.first, Row.scale]
 congr 1
 grind
theorem zcF {p : Rat} : (L.map (Row.scale c)).map (Row.rest p) = (L.map (Row.rest p)).map (Row.scale c) := by
 rw [List.map_map, List.map_map]
 refine List.map_congr_left fun x _ => ?_
 simp only [Function.comp, Row.rest, Row.scale]
 congr 1 <;> grind
theorem VS.scale {p : Rat} {X Y : List Row → Prop} (hc : 0 < c) (hX : ∀ L, X L → X (L.map (Row.scale c))) (hY : ∀ L, Y L → Y (L.map (Row.scale c))) (h : VS p X Y L) : VS p X Y (L.map (Row.scale c)) := by
 unfold VS at h ⊢
 rw [Wm, Wn, show zbX L * c * p = zbX L * p * c by grind]
 by_cases z : zdn L ≤ zbX L * p
 ·rw [if_pos z] at h
  rw [if_pos ((Uu hc).mpr z), zbG]
  exact hX _ h
 ·rw [if_neg z] at h
  rw [if_neg (fun w => z ((Uu hc).mp w)), zcF]
  exact hY _ h
theorem zbI {k : Int} : (L.map (Row.scale c)).filter (·.rank = k) = (L.filter (·.rank = k)).map (Row.scale c) := by
 rw [List.filter_map]; rfl
theorem WM {k : Int} : (L.map (Row.scale c)).filter (·.group = k) = (L.filter (·.group = k)).map (Row.scale c) := by
 rw [List.filter_map]; rfl
theorem zcz : ze8 (L.map (Row.scale c)) = (ze8 L).map (Row.scale c) := by
 have e : zae (L.map (Row.scale c)) = zae L := by
  unfold zae
  congr 2
  rw [List.map_map]; rfl
 unfold ze8
 rw [e, List.map_map]
 refine List.map_congr_left fun g _ => ?_
 simp only [Function.comp, WM, Wn, Wm, Row.scale]
 congr 2
 rw [List.map_map]; rfl
theorem xS.scale (hc : 0 < c) : ∀ {r : Rl} {L : List Row}, xS r L → xS r (L.map (Row.scale c))
 | .shares, L, h => ⟨h.1.scale hc, fun x hx => by
  obtain ⟨y, hy, rfl⟩ := List.mem_map.mp hx
  have := h.2 y hy
  rw [Wn, Wm]
  show y.part * c * (zbX L * c) = y.am * c * (zdn L * c)
  grind⟩
 | .evenly, L, h => ⟨h.1.scale hc, h.2.scale hc⟩
 | .losses, L, h => ⟨h.1.scale hc, by rw [WB]; exact h.2.scale hc⟩
 | .halves, L, h => ⟨h.1.scale hc, VS.scale hc (fun L z => ⟨z.1.scale hc, z.2.scale hc⟩) (fun L z => ⟨z.1.scale hc, by rw [WB]; exact z.2.scale hc⟩) h.2⟩
 | .other r, L, h => ⟨h.1.scale hc, by rw [WB]; exact xS.scale hc h.2⟩
 | .ranks r, L, h => ⟨h.1.scale hc, fun k => by rw [zbI]; exact xS.scale hc (h.2.1 k), fun x hx y hy lt pos => by
  obtain ⟨x', hx', rfl⟩ := List.mem_map.mp hx
  obtain ⟨y', hy', rfl⟩ := List.mem_map.mp hy
  have py : 0 < y'.part := by
   rcases Rat.not_le.mp (fun z : y'.part ≤ 0 => absurd (by have := (Uu (c := c) (y := 0) hc).mpr z; rwa [Rat.zero_mul] at this) (Rat.not_le.mpr pos)) with z
   exact z
  show x'.part * c = x'.am * c
  rw [h.2.2 x' hx' y' hy' lt py]⟩
 | .groups a b, L, h => ⟨h.1.scale hc, fun g => by rw [WM]; exact xS.scale hc (h.2.1 g), by rw [zcz]; exact xS.scale hc h.2.2⟩
 | .upto t b x y, L, h => ⟨h.1.scale hc, VS.scale hc (fun L z => xS.scale hc z) (fun L z => xS.scale hc z) h.2⟩
end
end S
namespace S
open PySem PySem.Spec PyProof.Rows L2
def ZI (c : Cl) (p : Rat) : Row := ⟨(c.1 : Rat), c.2.1, c.2.2, p⟩
def zU (l : List Cl) (v : List Rat) : List Row := List.zipWith ZI l v
def amQ (l : List Cl) : List Rat := l.map fun c => (c.1 : Rat)
section
variable {l : List Cl} {v : List Rat}
theorem WY {x : Row} (h : x ∈ zU l v) : ∃ (i : Nat) (c : Cl) (p : Rat), l[i]? = some c ∧ v[i]? = some p ∧ x = ZI c p := by
 obtain ⟨i, hi, e⟩ := List.getElem_of_mem h
 have hi' := hi
 unfold zU at hi'
 rw [List.length_zipWith] at hi'
 refine ⟨i, l[i]'(by omega), v[i]'(by omega), List.getElem?_eq_getElem _, List.getElem?_eq_getElem _, ?_⟩
 rw [← e]
 exact List.getElem_zipWith (f := ZI) (l := l) (l' := v) (h := hi)
theorem Xo {i : Nat} {c : Cl} {p : Rat} (hc : l[i]? = some c) (hp : v[i]? = some p) : ZI c p ∈ zU l v := by
 apply List.mem_of_getElem? (i := i)
 unfold zU
 rw [List.getElem?_zipWith, hc, hp]
theorem XH : ∀ {l : List Cl} {v : List Rat}, v.length = l.length → zbX (zU l v) = yl (amQ l)
 | [], [], _ => rfl
 | [], _ :: _, h => by simp at h
 | _ :: _, [], h => by simp at h
 | c :: l, p :: v, h => by
   have := XH (l := l) (v := v) (by simpa using h)
   unfold zbX at this ⊢
   show yl ((c.1 : Rat) :: (zU l v).map (·.am)) = yl ((c.1 : Rat) :: amQ l)
   rw [yl, yl, this]
theorem Yu : ∀ {l : List Cl} {v : List Rat}, v.length = l.length → zdn (zU l v) = yl v
 | [], [], _ => rfl
 | [], _ :: _, h => by simp at h
 | _ :: _, [], h => by simp at h
 | c :: l, p :: v, h => by
   have := Yu (l := l) (v := v) (by simpa using h)
   unfold zdn at this ⊢
   show yl (p :: (zU l v).map (·.part)) = yl (p :: v)
   rw [yl, yl, this]
theorem XI : ∀ {l : List Cl} {v : List Rat}, (zU l v).map Row.flip = zU l (zcA (amQ l) v)
 | [], _ => rfl
 | _ :: _, [] => rfl
 | c :: l, p :: v => by
   show _ :: (zU l v).map Row.flip = _ :: zU l (zcA (amQ l) v)
   rw [XI]; rfl
theorem Um (p : Rat) : ∀ {l : List Cl} {v : List Rat}, (zU l (Wh p v)).map (Row.first p) = (zU l v).map (Row.scale p)
 | [], _ => rfl
 | _ :: _, [] => rfl
 | c :: l, q :: v => by
   show _ :: (zU l (Wh p v)).map (Row.first p) = _ :: (zU l v).map (Row.scale p)
   rw [Um]; rfl
def Wt (p : Rat) (as v : List Rat) : List Rat := List.zipWith (fun a x => a * p + x * (1 - p)) as v
theorem zaK (p : Rat) : ∀ {l : List Cl} {v : List Rat}, (zU l (Wt p (amQ l) v)).map (Row.rest p) = (zU l v).map (Row.scale (1 - p))
 | [], _ => rfl
 | _ :: _, [] => rfl
 | c :: l, q :: v => by
   show Row.rest p (ZI c ((c.1 : Rat) * p + q * (1 - p))) :: (zU l (Wt p (amQ l) v)).map (Row.rest p) = Row.scale (1 - p) (ZI c q) :: (zU l v).map (Row.scale (1 - p))
   rw [zaK]
   congr 1
   simp only [Row.rest, Row.scale, ZI]
   congr 1
   grind
theorem Xr (l : List Cl) : (amQ l).length = l.length := List.length_map _
end
structure Good (r : Rl) (l : List Cl) (P : List zm) : Prop where
 std : Std l.length (yl (amQ l)) (amQ l) P
 fit : ∀ e : Rat, 0 ≤ e → xS r (zU l (zA P e))
section
variable {r x y : Rl} {l : List Cl} {P P' : List zm}
theorem Std.clip {m : Nat} {T : Rat} {as : List Rat} (h : Std m T as P) {e : Rat} : zA P e = zA P (mn e T) := by
 unfold mn
 split
 ·rfl
 ·rename_i c
  rw [h.past (Rat.le_of_lt (Rat.not_le.mp c)), h.past Rat.le_refl]
theorem zco {m : Nat} {T : Rat} {as : List Rat} (h : Std m T as P) : Std m T as (yF P) := by
 have hl := h.lastC
 have lA := h.lenA
 obtain ⟨r, er⟩ := h.cons
 have tz : Xn (T, as) (T, as) = (0, List.replicate m 0) := by
  unfold Xn
  rw [show T - T = (0 : Rat) by grind]
  congr 1
  apply List.ext_getElem
  ·rw [List.length_zipWith, lA, List.length_replicate, Nat.min_self]
  ·intro i _ _
   rw [List.getElem_zipWith, List.getElem_replicate]
   grind
 have t0 : Xn (T, as) (0, List.replicate m 0) = (T, as) := by
  unfold Xn
  dsimp only
  rw [show T - (0 : Rat) = T by grind]
  congr 1
  apply List.ext_getElem
  ·rw [List.length_zipWith, lA, List.length_replicate, Nat.min_self]
  ·intro i _ _
   rw [List.getElem_zipWith, List.getElem_replicate]
   grind
 have sub : ∀ {x y : List Rat}, x.length = y.length → yl (List.zipWith (· - ·) x y) = yl x - yl y := by
  intro x
  induction x with
  | nil => intro y h; cases y with
    | nil => rw [List.zipWith_nil_left, yl]; grind
    | cons _ _ => simp at h
  | cons a x ih => intro y h; cases y with
    | nil => simp at h
    | cons b y => rw [List.zipWith_cons_cons, yl, yl, yl, ih (by simpa using h)]; grind
 have sT : yl as = T := (h.ok _ (List.mem_of_getLast? h.last)).2
 refine ⟨?_, fun c hc => ?_, ?_, ?_⟩
 ·unfold yF xr
  rw [List.pairwise_map, List.pairwise_reverse]
  exact h.rise.imp fun {c d} hcd => by
   show (S.lastC P).1 - d.1 < (S.lastC P).1 - c.1
   grind
 ·obtain ⟨d, hd, rfl⟩ := List.mem_map.mp hc
  have ok := h.ok d (List.mem_reverse.mp hd)
  rw [hl]
  refine ⟨?_, ?_⟩
  ·show (List.zipWith _ as d.2).length = m
   rw [List.length_zipWith, lA, ok.1, Nat.min_self]
  ·show yl (List.zipWith _ as d.2) = T - d.1
   rw [sub (by rw [lA, ok.1]), sT, ok.2]
 ·unfold yF
  rw [List.getElem?_map, ← List.head?_eq_getElem?, List.head?_reverse, h.last, hl, ← tz]
  rfl
 ·unfold yF
  rw [List.getLast?_map, List.getLast?_reverse, hl, List.head?_eq_getElem?, h.head]
  show some (Xn (T, as) (0, List.replicate m 0)) = _
  rw [t0]
theorem Good.other (h : Good r l P) : Good (.other r) l (yF P) := by
 have st := h.std
 refine ⟨zco st, fun e h0 => ?_⟩
 have st' := zco st
 rw [st'.clip]
 have m0 : 0 ≤ mn e (yl (amQ l)) := by
  have := st.T0
  unfold mn
  split <;> grind
 have m1 : mn e (yl (amQ l)) ≤ yl (amQ l) := by unfold mn; split <;> grind
 rw [st.turned m0 m1]
 have f := h.fit (yl (amQ l) - mn e (yl (amQ l))) (by grind)
 have ln := st.len (e := yl (amQ l) - mn e (yl (amQ l)))
 generalize zA P (yl (amQ l) - mn e (yl (amQ l))) = w at *
 refine ⟨?_, by rw [XI, zdp (by rw [Xr]; exact ln)]; exact f⟩
 intro x hx
 rw [← XI] at hx
 obtain ⟨z, hz, rfl⟩ := List.mem_map.mp hx
 have := f.inQ z hz
 show 0 ≤ z.am - z.part ∧ z.am - z.part ≤ z.am
 grind
theorem Xx {m : Nat} {T : Rat} {as : List Rat} {p : Rat} (hp : 0 < p) (h : Std m T as P) : Std m (T * p) (Wh p as) (zI p P) := by
 refine ⟨zbs hp h.rise, fun c hc => ?_, ?_, ?_⟩
 ·obtain ⟨d, hd, rfl⟩ := List.mem_map.mp hc
  have := h.ok d hd
  exact ⟨by rw [List.length_map]; exact this.1, by rw [yS, this.2]⟩
 ·unfold zI
  rw [List.getElem?_map, h.head]
  show some ((0 : Rat) * p, (List.replicate m (0 : Rat)).map (· * p)) = _
  rw [Rat.zero_mul, List.map_replicate, Rat.zero_mul]
 ·unfold zI
  rw [List.getLast?_map, h.last]
  rfl
theorem zeX {m : Nat} {T T' : Rat} {as as' : List Rat} (h : Std m T as P) (h' : Std m T' as' P') : Std m (T + T') (List.zipWith (· + ·) as as') (P ++ yN P P') := by
 have hl := h.lastC
 obtain ⟨r', er'⟩ := h'.cons
 have lA := h.lenA
 have mem : (T, as) ∈ P := List.mem_of_getLast? h.last
 have sT := (h.ok _ mem).2
 refine ⟨?_, fun c hc => ?_, ?_, ?_⟩
 ·refine List.pairwise_append.mpr ⟨h.rise, ?_, fun c hc d hd => ?_⟩
  ·unfold yN
   rw [List.pairwise_map]
   refine List.Pairwise.imp (fun {a b} hab => ?_) (List.Pairwise.sublist (List.tail_sublist P') h'.rise)
   show (S.lastC P).1 + a.1 < (S.lastC P).1 + b.1
   grind
  ·obtain ⟨d', hd', rfl⟩ := List.mem_map.mp hd
   have c1 : c.1 ≤ T := by
    obtain ⟨i, hi, rfl⟩ := List.getElem_of_mem hc
    have hlast := h.last
    rw [List.getLast?_eq_getElem?] at hlast
    obtain ⟨hi2, e2⟩ := List.getElem?_eq_some_iff.mp hlast
    by_cases z : i = P.length - 1
    ·subst z; rw [e2]; exact Rat.le_refl
    ·have := List.pairwise_iff_getElem.mp h.rise i (P.length - 1) hi hi2 (by omega)
     rw [e2] at this
     exact Rat.le_of_lt this
   have d1 : 0 < d'.1 := by
    have rr := h'.rise
    rw [er'] at rr hd'
    exact (List.pairwise_cons.mp rr).1 d' hd'
   show c.1 < (S.lastC P).1 + d'.1
   rw [hl]
   show c.1 < T + d'.1
   grind
 ·rcases List.mem_append.mp hc with z | z
  ·exact h.ok c z
  ·obtain ⟨d, hd, rfl⟩ := List.mem_map.mp z
   have ok := h'.ok d (List.mem_of_mem_tail hd)
   rw [hl]
   refine ⟨?_, ?_⟩
   ·show (List.zipWith _ as d.2).length = m
    rw [List.length_zipWith, lA, ok.1, Nat.min_self]
   ·show yl (List.zipWith (· + ·) as d.2) = T + d.1
    rw [WU (by rw [lA, ok.1]), ok.2]
    rw [show yl as = T from sT]
 ·rw [List.getElem?_append_left (List.length_pos_iff.mpr h.ne), h.head]
 ·unfold yN
  have hz : List.zipWith (· + ·) as (List.replicate m (0 : Rat)) = as := by
   apply List.ext_getElem
   ·rw [List.length_zipWith, lA, List.length_replicate, Nat.min_self]
   ·intro i _ _
    rw [List.getElem_zipWith, List.getElem_replicate]
    grind
  cases r' with
  | nil =>
    have hl' := h'.last
    rw [er'] at hl' ⊢
    cases hl'
    rw [List.tail_cons, List.map_nil, List.append_nil, h.last, hz, Rat.add_zero]
  | cons d t =>
    have hl' := h'.last
    rw [er', List.getLast?_cons_cons] at hl'
    rw [er', List.tail_cons, List.getLast?_append, List.getLast?_map, hl', hl]
    rfl
theorem zfU {m : Nat} {T : Rat} {as : List Rat} (h : Std m T as P) : Std m T as (xc P) ∧ ∀ e : Rat, 0 ≤ e → zA (xc P) e = zA P e := by
 obtain ⟨r, er⟩ := h.cons
 have sub := Ye P
 have kl : (xc P).getLast? = P.getLast? := by
  rw [er]
  show ((0, List.replicate m 0) :: yw (0, List.replicate m 0) r).getLast? = ((0, List.replicate m 0) :: r).getLast?
  have : ∀ (r : List zm) (a : zm), (yw a r).getLast? = r.getLast? := by
   intro r
   induction r with
   | nil => intro a; rw [yw]
   | cons b r ih =>
     intro a
     cases r with
     | nil => rw [yw]
     | cons c r =>
       rw [yw]
       split
       ·rw [ih b, List.getLast?_cons_cons]
       ·rw [List.getLast?_cons, ih b, List.getLast?_cons_cons, List.getLast?_cons]; rfl
  rw [List.getLast?_cons, this, ← List.getLast?_cons]
 refine ⟨⟨List.Pairwise.sublist sub h.rise, fun c hc => h.ok c (sub.subset hc), by rw [er]; rfl, by rw [kl]; exact h.last⟩, fun e h0 => ?_⟩
 have rr := h.rise
 have ok := h.ok
 rw [er] at rr ok ⊢
 exact zac rr (fun x hx => (ok x hx).1) h0
theorem Good.upto {p : Rat} {t b : Int} (ep : p = Rat.divInt t b) (p0 : 0 < p) (p1 : p < 1) (nn : ∀ c ∈ l, 0 ≤ c.1) (hx : Good x l P) (hy : Good y l P') : Good (.upto t b x y) l (Xm p P P') := by
 have q0 : 0 < 1 - p := by grind
 have s1 := Xx p0 hx.std
 have s2 := Xx q0 hy.std
 have s3 := zeX s1 s2
 have eT : yl (amQ l) * p + yl (amQ l) * (1 - p) = yl (amQ l) := by grind
 have eA : List.zipWith (· + ·) (Wh p (amQ l)) (Wh (1 - p) (amQ l)) = amQ l := by
  unfold Wh
  apply List.ext_getElem
  ·simp
  ·intro i _ _
   simp only [List.getElem_zipWith, List.getElem_map]
   grind
 rw [eT, eA] at s3
 obtain ⟨k1, k2⟩ := zfU s3
 refine ⟨k1, fun e h0 => ?_⟩
 unfold Xm
 rw [k2 e h0]
 have lenE : ∀ e : Rat, (zA P e).length = l.length := fun e => hx.std.len
 have lenE' : ∀ e : Rat, (zA P' e).length = l.length := fun e => hy.std.len
 have T0 := hx.std.T0
 have amn : ∀ (i : Nat) (c : Cl), l[i]? = some c → (0 : Rat) ≤ (c.1 : Rat) := fun i c hc => zah (nn c (List.mem_of_getElem? hc))
 have sA : ∀ v : List Rat, v.length = l.length → zbX (zU l v) = yl (amQ l) := fun v hv => XH hv
 obtain ⟨r1, er1⟩ := s1.cons
 obtain ⟨r2, er2⟩ := s2.cons
 have l1 := s1.lastC
 have low : ∀ w : List Rat, w.length = l.length → xS x (zU l w) → yl w ≤ yl (amQ l) → xS (.upto t b x y) (zU l (Wh p w)) := fun w hw fw hs => by
  have lw : (Wh p w).length = l.length := by unfold Wh; rw [List.length_map]; exact hw
  refine ⟨fun z hz => ?_, ?_⟩
  ·obtain ⟨i, c, q, hc, hq, rfl⟩ := WY hz
   unfold Wh at hq
   rw [List.getElem?_map] at hq
   cases e1 : w[i]? with
   | none => rw [e1] at hq; cases hq
   | some q' =>
     rw [e1] at hq
     cases hq
     have := fw.inQ _ (Xo hc e1)
     have a0 := amn i c hc
     have t1 : 0 ≤ q' ∧ q' ≤ (c.1 : Rat) := this
     show 0 ≤ q' * p ∧ q' * p ≤ (c.1 : Rat)
     refine ⟨Rat.mul_nonneg t1.1 (Rat.le_of_lt p0), ?_⟩
     have u1 := Zs t1.2 (Rat.le_of_lt p0)
     have u2 := Rat.mul_nonneg a0 (Rat.le_of_lt q0)
     grind
  ·rw [← ep]
   unfold VS
   rw [sA _ lw, Yu lw]
   have : yl (Wh p w) = yl w * p := yS p w
   rw [this, if_pos ((Uu p0).mpr hs), Um]
   exact xS.scale p0 fw
 have high : ∀ w : List Rat, w.length = l.length → xS y (zU l w) → 0 < yl w → xS (.upto t b x y) (zU l (Wt p (amQ l) w)) := fun w hw fw hs => by
  have lw : (Wt p (amQ l) w).length = l.length := by unfold Wt; rw [List.length_zipWith, Xr, hw, Nat.min_self]
  have es : yl (Wt p (amQ l) w) = yl (amQ l) * p + yl w * (1 - p) := by
   have e1 : Wt p (amQ l) w = List.zipWith (· + ·) (Wh p (amQ l)) (Wh (1 - p) w) := by
    unfold Wt Wh
    rw [List.zipWith_map]
   rw [e1, WU (by unfold Wh; rw [List.length_map, List.length_map, Xr, hw])]
   show yl ((amQ l).map (· * p)) + yl (w.map (· * (1 - p))) = _
   rw [yS, yS]
  refine ⟨fun z hz => ?_, ?_⟩
  ·obtain ⟨i, c, q, hc, hq, rfl⟩ := WY hz
   unfold Wt at hq
   rw [List.getElem?_zipWith] at hq
   have ea : (amQ l)[i]? = some (c.1 : Rat) := by unfold amQ; rw [List.getElem?_map, hc]; rfl
   rw [ea] at hq
   cases e1 : w[i]? with
   | none => rw [e1] at hq; cases hq
   | some q' =>
     rw [e1] at hq
     cases hq
     have := fw.inQ _ (Xo hc e1)
     have a0 := amn i c hc
     have t1 : 0 ≤ q' ∧ q' ≤ (c.1 : Rat) := this
     show 0 ≤ (c.1 : Rat) * p + q' * (1 - p) ∧ (c.1 : Rat) * p + q' * (1 - p) ≤ (c.1 : Rat)
     have u0 := Rat.mul_nonneg a0 (Rat.le_of_lt p0)
     have u1 := Zs t1.2 (Rat.le_of_lt q0)
     have u2 := Rat.mul_nonneg t1.1 (Rat.le_of_lt q0)
     grind
  ·rw [← ep]
   unfold VS
   rw [sA _ lw, Yu lw, es]
   have pos := Rat.mul_pos hs q0
   rw [if_neg (by grind), zaK]
   exact xS.scale q0 fw
 by_cases c : e < yl (amQ l) * p
 ·have k : zA (zI p P ++ yN (zI p P) (zI (1 - p) P')) e = Wh p (zA P (e / p)) := by
   have lt : e < (S.lastC (zI p P)).1 := by rw [l1]; exact c
   have ev : zA (zI p P ++ yN (zI p P) (zI (1 - p) P')) e = zA (zI p P) e := by
    generalize hM : yN (zI p P) (zI (1 - p) P') = M
    rw [er1] at lt ⊢
    exact YA h0 lt
   rw [ev, Yz p0]
   rfl
  rw [k]
  have e0 : 0 ≤ e / p := by rw [Rat.div_def]; exact Rat.mul_nonneg h0 (Rat.le_of_lt (Rat.inv_pos.mpr p0))
  refine low _ (lenE _) (hx.fit _ e0) ?_
  rw [hx.std.sum e0]
  unfold mn
  split <;> grind
 ·have ge : yl (amQ l) * p ≤ e := Rat.not_lt.mp c
  have k : zA (zI p P ++ yN (zI p P) (zI (1 - p) P')) e = Wt p (amQ l) (zA P' ((e - yl (amQ l) * p) / (1 - p))) := by
   have le : (S.lastC (zI p P)).1 ≤ e := by rw [l1]; exact ge
   have rr := s1.rise
   have ev : zA (zI p P ++ yN (zI p P) (zI (1 - p) P')) e = zA (S.lastC (zI p P) :: yN (zI p P) (zI (1 - p) P')) e := by
    generalize hM : yN (zI p P) (zI (1 - p) P') = M
    rw [er1] at le rr ⊢
    exact Zo rr le
   rw [ev, l1]
   have em : ((yl (amQ l) * p, Wh p (amQ l)) : zm) :: yN (zI p P) (zI (1 - p) P') = (zI (1 - p) P').map (XS (yl (amQ l) * p, Wh p (amQ l))) := by
    unfold yN
    rw [l1]
    conv => rhs; rw [er2]
    rw [List.map_cons]
    congr 1
    ·unfold XS
     dsimp only
     rw [Rat.add_zero]
     congr 1
     apply List.ext_getElem
     ·rw [List.length_zipWith, List.length_replicate]; unfold Wh; rw [List.length_map, Xr, Nat.min_self]
     ·intro i _ _
      rw [List.getElem_zipWith, List.getElem_replicate]
      grind
    ·rw [er2]; rfl
   rw [em]
   have lens : ∀ z ∈ zI (1 - p) P', z.2.length = l.length := fun z hz => (s2.ok z hz).1
   have pp := Vz (m := l.length) (c := (yl (amQ l) * p, Wh p (amQ l))) (e := e) (by unfold Wh; rw [List.length_map, Xr]) (q := (0, List.replicate l.length 0)) (r := r2) (by rw [← er2]; exact lens)
   rw [← er2] at pp
   rw [pp, Yz q0]
   unfold Wt Wh
   rw [List.zipWith_map]
  rw [k]
  have d0 : 0 ≤ (e - yl (amQ l) * p) / (1 - p) := by rw [Rat.div_def]; exact Rat.mul_nonneg (by grind) (Rat.le_of_lt (Rat.inv_pos.mpr q0))
  have fw := hy.fit _ d0
  have sw := hy.std.sum d0
  have lw := lenE' ((e - yl (amQ l) * p) / (1 - p))
  generalize zA P' ((e - yl (amQ l) * p) / (1 - p)) = w at *
  by_cases pos : 0 < yl w
  ·exact high w lw fw pos
  ·
   have w0 : ∀ q ∈ w, q = 0 := by
    have nnw : ∀ q ∈ w, 0 ≤ q := fun q hq => by
     obtain ⟨i, hi, rfl⟩ := List.getElem_of_mem hq
     have := fw.inQ _ (Xo (List.getElem?_eq_getElem (l := l) (i := i) (by omega)) (List.getElem?_eq_getElem hi))
     exact this.1
    have : ∀ {w : List Rat}, (∀ q ∈ w, 0 ≤ q) → 0 ≤ yl w ∧ (yl w ≤ 0 → ∀ q ∈ w, q = 0) := by
     intro w
     induction w with
     | nil => intro _; exact ⟨by rw [yl]; exact Rat.le_refl, fun _ q hq => absurd hq List.not_mem_nil⟩
     | cons a w ih =>
       intro h
       have ha := h a (List.mem_cons_self ..)
       obtain ⟨i1, i2⟩ := ih fun q hq => h q (List.mem_cons_of_mem _ hq)
       rw [yl]
       refine ⟨by grind, fun hs q hq => ?_⟩
       rcases List.mem_cons.mp hq with rfl | hq
       ·exact Rat.le_antisymm (by grind) ha
       ·exact i2 (by grind) q hq
    exact (this nnw).2 (Rat.not_lt.mp pos)
   have ew : Wt p (amQ l) w = Wh p (amQ l) := by
    unfold Wt Wh
    apply List.ext_getElem
    ·rw [List.length_zipWith, List.length_map, Xr, lw, Nat.min_self]
    ·intro i h1 h2
     rw [List.getElem_zipWith, List.getElem_map, w0 _ (List.getElem_mem _)]
     grind
   rw [ew]
   have full := hx.fit _ hx.std.T0
   rw [hx.std.past Rat.le_refl] at full
   exact low _ (Xr l) full Rat.le_refl
end
end S
namespace S
open PySem PySem.Spec PyProof.Rows L2
theorem Wc (l : List Cl) : amQ l = (amV l).map fun (a : Int) => (a : Rat) := by unfold amQ amV; rw [List.map_map]; rfl
theorem WV (l : List Cl) : yl (amQ l) = (((amV l).sum : Int) : Rat) := by rw [Wc, Xt]
theorem zap (l : List Cl) : zZ (amV l) = (yl (amQ l), amQ l) := by rw [WV, Wc]; rfl
theorem zhT {P : List zm} {c : zm} (ne : P ≠ []) (h : lastC P = c) : P.getLast? = some c := by
 rw [← h]; unfold lastC; rw [List.getLast?_eq_some_getLast ne]; rfl
section
variable {l : List Cl} {ls : List Int}
theorem Yf (h : LvOk (amV l) ls) : Good .evenly l (evP (amV l) ls) := by
 obtain ⟨r, er⟩ := zeB h
 refine ⟨⟨h.riseE, fun c hc => by rw [← yk]; exact zcp _ _ c hc, by rw [er, Xd, yk]; rfl, zhT (by rw [er]; simp) (by rw [zcq h, zap])⟩, fun e h0 => ?_⟩
 obtain ⟨z, z0, hz⟩ := h.evenly h0
 rw [hz]
 have row : ∀ x ∈ zU l ((amV l).map fun (a : Int) => mn (a : Rat) z), 0 ≤ x.am ∧ x.part = mn x.am z := fun x hx => by
  obtain ⟨i, c, p, hc, hp, rfl⟩ := WY hx
  unfold amV at hp
  rw [List.map_map, List.getElem?_map, hc] at hp
  cases hp
  exact ⟨zah (h.nn _ (List.mem_map.mpr ⟨c, List.mem_of_getElem? hc, rfl⟩)), rfl⟩
 have inq : InQ (zU l ((amV l).map fun (a : Int) => mn (a : Rat) z)) := fun x hx => by
  obtain ⟨a0, e⟩ := row x hx
  rw [e]
  exact mn_nn a0 z0
 refine ⟨inq, inq, fun x hx lt y hy => ?_⟩
 obtain ⟨a0, ex⟩ := row x hx
 obtain ⟨b0, ey⟩ := row y hy
 rw [ex] at lt ⊢
 rw [ey]
 unfold mn at lt ⊢
 split at lt
 ·exact absurd lt Rat.lt_irrefl
 ·rename_i c
  rw [if_neg c]
  split <;> grind
theorem VM (h : LvOk (amV l) ls) : Good .losses l (loP (amV l) ls) := by
 have g := (Yf h).other
 rw [zar h] at g
 exact ⟨g.std, fun e h0 => ⟨(g.fit e h0).1, (g.fit e h0).2.2⟩⟩
theorem zbE (nn : ∀ a ∈ amV l, 0 ≤ a) : Good .shares l (shP (amV l)) := by
 have s0 := zgi nn
 have std : Std l.length (yl (amQ l)) (amQ l) (shP (amV l)) := by
  have az : (amV l).sum = 0 → amQ l = List.replicate l.length 0 := fun c => by
   have := zbU nn c
   rw [Wc, ← yk, ← List.map_const']
   exact List.map_congr_left fun a ha => by rw [this a ha]; rfl
  unfold shP
  by_cases c : (amV l).sum = 0
  ·rw [if_pos c]
   refine ⟨List.pairwise_singleton _ _, fun x hx => ?_, by rw [Xd, yk]; rfl, ?_⟩
   ·rw [List.mem_singleton.mp hx]
    have := ZZ (ZB (amV l).length)
    rw [Xs, yk] at this
    rw [yk]
    exact this
   ·show some _ = some _
    rw [Xd, yk, az c, Ue]
    rfl
  ·rw [if_neg c]
   refine ⟨?_, fun x hx => ?_, by rw [Xd, yk]; rfl, ?_⟩
   ·refine List.pairwise_cons.mpr ⟨fun d hd => ?_, List.pairwise_singleton _ _⟩
    rw [List.mem_singleton.mp hd, Xd]
    exact Xa (show 0 < (amV l).sum by omega)
   ·rcases List.mem_cons.mp hx with rfl | hx
    ·have := ZZ (ZB (amV l).length)
     rw [Xs, yk] at this
     rw [yk]
     exact this
    ·rw [List.mem_singleton.mp hx, ← yk]
     exact ZZ _
   ·show some _ = some _
    rw [zap]
    rfl
 refine ⟨std, fun e h0 => ?_⟩
 have ln := std.len (e := e)
 obtain ⟨z, ⟨z0, z1⟩, hz, _⟩ := zff nn h0
 have sP := Yu (l := l) ln
 have sA := XH (l := l) ln
 have es : yl (zA (shP (amV l)) e) = yl (amQ l) * z := by
  rw [hz, Wc, ← yS, List.map_map]; rfl
 rw [es] at sP
 rw [hz] at sP sA ⊢
 have row : ∀ x ∈ zU l ((amV l).map fun (a : Int) => (a : Rat) * z), 0 ≤ x.am ∧ x.part = x.am * z := fun x hx => by
  obtain ⟨i, c, p, hc, hp, rfl⟩ := WY hx
  unfold amV at hp
  rw [List.map_map, List.getElem?_map, hc] at hp
  cases hp
  exact ⟨zah (nn _ (List.mem_map.mpr ⟨c, List.mem_of_getElem? hc, rfl⟩)), rfl⟩
 refine ⟨fun x hx => ?_, fun x hx => ?_⟩
 ·obtain ⟨a0, e⟩ := row x hx
  rw [e]
  refine ⟨Rat.mul_nonneg a0 z0, ?_⟩
  have := Rat.mul_nonneg a0 (show 0 ≤ 1 - z by grind)
  grind
 ·rw [sA, sP, (row x hx).2]
  grind
theorem zbF (h : LvOk (amV l) ls) : Good .halves l (xc (hvP (amV l) ls)) := by
 have e2 : Rat.divInt 1 2 = (1 : Rat) / 2 := by decide +kernel
 have g := Good.upto (p := 1 / 2) (t := 1) (b := 2) e2.symm zfZ (by decide +kernel) (fun c hc => h.nn _ (List.mem_map.mpr ⟨c, hc, rfl⟩)) (Yf h) (VM h)
 have eu : Xm (1 / 2) (evP (amV l) ls) (loP (amV l) ls) = xc (hvP (amV l) ls) := by
  unfold Xm
  rw [show (1 : Rat) - 1 / 2 = 1 / 2 by decide +kernel]
  rfl
 rw [eu] at g
 refine ⟨g.std, fun e h0 => ?_⟩
 have f := g.fit e h0
 refine ⟨f.1, ?_⟩
 have f2 := f.2
 rw [e2] at f2
 exact f2
end
noncomputable def yI : Rl → List Cl → List zm
 | .shares, l => shP (amV l)
 | .evenly, l => evP (amV l) (lvV (amV l))
 | .losses, l => loP (amV l) (lvV (amV l))
 | .halves, l => xc (hvP (amV l) (lvV (amV l)))
 | .other r, l => yF (yI r l)
 | .upto t b x y, l => Xm (Rat.divInt t b) (yI x l) (yI y l)
 | _, _ => []
def Wd : Rl → Prop
 | .other r => Wd r
 | .upto t b x y => Uz t b ∧ Wd x ∧ Wd y
 | .ranks _ => False
 | .groups _ _ => False
 | _ => True
theorem yt {t b : Int} (b0 : b ≠ 0) : Rat.divInt t b * (b : Rat) = (t : Rat) := by
 have h3 : ∀ z : Int, (z : Rat) = Rat.divInt z 1 := fun z => by rw [← Rat.num_divInt_den (z : Rat)]; rfl
 rw [h3 b, h3 t, Rat.divInt_mul_divInt, Int.mul_one]
 exact (Rat.divInt_eq_divInt_iff b0 (by decide)).mpr (by rw [Int.mul_one])
theorem zbw {t b : Int} (h : Uz t b) : 0 < Rat.divInt t b ∧ Rat.divInt t b < 1 := by
 obtain ⟨_, t0, tb, _⟩ := h
 have b0 : (0 : Rat) < (b : Rat) := Xa (by omega)
 have e := yt (t := t) (b := b) (by omega)
 have t0' := Xa t0
 have tb' := zeO tb
 generalize Rat.divInt t b = q at *
 constructor
 ·by_cases z : 0 < q
  ·exact z
  ·have := Zs (Rat.not_lt.mp z) (Rat.le_of_lt b0)
   grind
 ·by_cases z : q < 1
  ·exact z
  ·have := Zs (Rat.not_lt.mp z) (Rat.le_of_lt b0)
   grind
theorem xO {l : List Cl} (nn : ∀ a ∈ amV l, 0 ≤ a) : ∀ {r : Rl}, Wd r → Good r l (yI r l)
 | .shares, _ => zbE nn
 | .evenly, _ => Yf (za2 nn)
 | .losses, _ => VM (za2 nn)
 | .halves, _ => zbF (za2 nn)
 | .other r, h => (xO nn (r := r) h).other
 | .upto t b x y, h => Good.upto rfl (zbw h.1).1 (zbw h.1).2 (fun c hc => nn _ (List.mem_map.mpr ⟨c, hc, rfl⟩)) (xO nn h.2.1) (xO nn h.2.2)
 | .ranks _, h => h.elim
 | .groups _ _, h => h.elim
end S
namespace S
open PySem PySem.Spec PyProof.Rows L2
def Zp (D : Int) (x : Rat) : Prop := ∃ k : Int, x * (D : Rat) = (k : Rat)
def DenC (D : Int) (c : zm) : Prop := Zp D c.1 ∧ ∀ x ∈ c.2, Zp D x
def Xl (D : Int) (P : List zm) : Prop := ∀ c ∈ P, DenC D c
section
variable {D D' : Int} {x y : Rat} {P P' : List zm}
theorem Zp.mul (h : Zp D x) (n : Int) : Zp (D * n) x := by
 obtain ⟨k, hk⟩ := h
 exact ⟨k * n, by rw [Rat.intCast_mul, Rat.intCast_mul, ← Rat.mul_assoc, hk]⟩
theorem Zp.mulL (h : Zp D x) (n : Int) : Zp (n * D) x := by rw [Int.mul_comm]; exact h.mul n
theorem Zp.add (h : Zp D x) (g : Zp D y) : Zp D (x + y) := by
 obtain ⟨k, hk⟩ := h
 obtain ⟨j, hj⟩ := g
 exact ⟨k + j, by rw [Rat.intCast_add, ← hk, ← hj]; grind⟩
theorem Zp.sub (h : Zp D x) (g : Zp D y) : Zp D (x - y) := by
 obtain ⟨k, hk⟩ := h
 obtain ⟨j, hj⟩ := g
 exact ⟨k - j, by rw [Rat.intCast_sub, ← hk, ← hj]; grind⟩
theorem Zp.port {t b : Int} (b0 : b ≠ 0) (h : Zp D x) : Zp (b * D) (x * Rat.divInt t b) := by
 obtain ⟨k, hk⟩ := h
 refine ⟨k * t, ?_⟩
 have e := yt (t := t) b0
 rw [Rat.intCast_mul, Rat.intCast_mul, ← hk, ← e]
 grind
theorem Zp.int (n : Int) (D : Int) : Zp D (n : Rat) := ⟨n * D, by rw [Rat.intCast_mul]⟩
theorem Zp.sz {m n : Nat} {T : Rat} (h : Zp D x) (d0 : 0 < D) (zD : Sz m D) (x0 : 0 ≤ x) (xT : x ≤ T) (zT : ∃ k : Int, T = (k : Rat) ∧ Sz n k) : SzQ (n + m) x := by
 obtain ⟨k, hk⟩ := h
 obtain ⟨t, rfl, zt⟩ := zT
 have dp := Xa d0
 have e : x = Rat.divInt k D := by
  have h2 := yt (t := k) (b := D) (by omega)
  have : (x - Rat.divInt k D) * (D : Rat) = 0 := by grind
  rcases Rat.mul_eq_zero.mp this with z | z
  ·grind
  ·rw [z] at dp; exact absurd dp Rat.lt_irrefl
 have k0 : 0 ≤ k := Xq (by rw [← hk]; exact Rat.mul_nonneg x0 (Rat.le_of_lt dp))
 have kT : k ≤ t * D := Xq (by rw [← hk, Rat.intCast_mul]; exact Zs xT (Rat.le_of_lt dp))
 rw [e]
 exact SzQ.divInt (Vf k0 kT (zt.mul zD)) (zD.mono (by omega)) (by omega)
theorem Xl.mul (h : Xl D P) (n : Int) : Xl (D * n) P := fun c hc => ⟨(h c hc).1.mul n, fun x hx => ((h c hc).2 x hx).mul n⟩
theorem Xl.mulL (h : Xl D P) (n : Int) : Xl (n * D) P := fun c hc => ⟨(h c hc).1.mulL n, fun x hx => ((h c hc).2 x hx).mulL n⟩
theorem zbh {f : Rat → Rat → Rat} {u v : List Rat} {z : Rat} (h : z ∈ List.zipWith f u v) : ∃ a ∈ u, ∃ b ∈ v, z = f a b := by
 obtain ⟨i, hi, e⟩ := List.getElem_of_mem h
 have hi' := hi
 rw [List.length_zipWith] at hi'
 rw [List.getElem_zipWith] at e
 exact ⟨_, List.getElem_mem (by omega), _, List.getElem_mem (by omega), e.symm⟩
theorem VI (ne : P ≠ []) : lastC P ∈ P := by
 unfold lastC
 rw [List.getLast?_eq_some_getLast ne]
 exact List.getLast_mem ne
theorem Xl.turned (ne : P ≠ []) (h : Xl D P) : Xl D (yF P) := fun c hc => by
 obtain ⟨d, hd, rfl⟩ := List.mem_map.mp hc
 have hl := h _ (VI ne)
 have hd := h d (List.mem_reverse.mp hd)
 refine ⟨hl.1.sub hd.1, fun x hx => ?_⟩
 obtain ⟨a, ha, b, hb, rfl⟩ := zbh hx
 exact (hl.2 a ha).sub (hd.2 b hb)
theorem Xl.scaled {t b : Int} (b0 : b ≠ 0) (h : Xl D P) : Xl (b * D) (zI (Rat.divInt t b) P) := fun c hc => by
 obtain ⟨d, hd, rfl⟩ := List.mem_map.mp hc
 refine ⟨(h d hd).1.port b0, fun x hx => ?_⟩
 obtain ⟨a, ha, rfl⟩ := List.mem_map.mp hx
 exact ((h d hd).2 a ha).port b0
theorem Xl.app (ne : P ≠ []) (h : Xl D P) (g : Xl D P') : Xl D (P ++ yN P P') := fun c hc => by
 rcases List.mem_append.mp hc with z | z
 ·exact h c z
 ·obtain ⟨d, hd, rfl⟩ := List.mem_map.mp z
  have hl := h _ (VI ne)
  have hd := g d (List.mem_of_mem_tail hd)
  refine ⟨hl.1.add hd.1, fun x hx => ?_⟩
  obtain ⟨a, ha, b, hb, rfl⟩ := zbh hx
  exact (hl.2 a ha).add (hd.2 b hb)
theorem Xl.keep (h : Xl D P) : Xl D (xc P) := fun c hc => h c ((Ye P).subset hc)
theorem zhF {t b : Int} (b0 : b ≠ 0) : 1 - Rat.divInt t b = Rat.divInt (b - t) b := by
 have e1 := yt (t := t) b0
 have e2 := yt (t := b - t) b0
 have bn : ((b : Int) : Rat) ≠ 0 := fun z => b0 (Rat.intCast_inj.mp (by rw [z]; rfl))
 have : (1 - Rat.divInt t b - Rat.divInt (b - t) b) * (b : Rat) = 0 := by
  rw [Rat.intCast_sub] at e2
  grind
 rcases Rat.mul_eq_zero.mp this with z | z
 ·grind
 ·exact absurd z bn
theorem Xl.upto {t b : Int} (b0 : b ≠ 0) (ne : P ≠ []) (h : Xl D P) (g : Xl D' P') : Xl (b * (D * D')) (Xm (Rat.divInt t b) P P') := by
 unfold Xm
 refine Xl.keep (Xl.app (fun z => ne (List.map_eq_nil_iff.mp z)) ?_ ?_)
 ·exact Xl.scaled b0 (h.mul D')
 ·rw [zhF b0]
  exact Xl.scaled b0 (g.mulL D)
theorem ZF (h : List Int) : DenC 1 (zZ h) := ⟨Zp.int _ _, fun x hx => by
 obtain ⟨a, _, rfl⟩ := List.mem_map.mp hx
 exact Zp.int _ _⟩
def Vd : Rl → Int
 | .halves => 2
 | .other r => Vd r
 | .upto _ b x y => b * (Vd x * Vd y)
 | _ => 1
theorem XZ {l : List Cl} (nn : ∀ a ∈ amV l, 0 ≤ a) : ∀ {r : Rl}, Wd r → Xl (Vd r) (yI r l)
 | .shares, _ => fun c hc => by
   simp only [yI, shP] at hc
   split at hc
   ·rw [List.mem_singleton.mp hc]; exact ZF _
   ·rcases List.mem_cons.mp hc with rfl | hc
    ·exact ZF _
    ·rw [List.mem_singleton.mp hc]; exact ZF _
 | .evenly, _ => fun c hc => by
   obtain ⟨z, _, rfl⟩ := List.mem_map.mp hc
   exact ZF _
 | .losses, _ => fun c hc => by
   obtain ⟨z, _, rfl⟩ := List.mem_map.mp hc
   exact ZF _
 | .halves, _ => by
   have ge : Xl 1 (evP (amV l) (lvV (amV l))) := fun c hc => by
    obtain ⟨z, _, rfl⟩ := List.mem_map.mp hc
    exact ZF _
   have gl : Xl 1 (loP (amV l) (lvV (amV l))) := fun c hc => by
    obtain ⟨z, _, rfl⟩ := List.mem_map.mp hc
    exact ZF _
   have := Xl.upto (t := 1) (b := 2) (by decide) (Yf (za2 nn)).std.ne ge gl
   have e2 : Rat.divInt 1 2 = (1 : Rat) / 2 := by decide +kernel
   have eu : Xm (1 / 2) (evP (amV l) (lvV (amV l))) (loP (amV l) (lvV (amV l))) = xc (hvP (amV l) (lvV (amV l))) := by
    unfold Xm
    rw [show (1 : Rat) - 1 / 2 = 1 / 2 by decide +kernel]
    rfl
   rw [e2, eu] at this
   exact this
 | .other r, h => (XZ nn (r := r) h).turned (xO nn (r := r) h).std.ne
 | .upto t b x y, h => Xl.upto (by have := h.1.2.1; have := h.1.2.2.1; omega) (xO nn h.2.1).std.ne (XZ nn h.2.1) (XZ nn h.2.2)
 | .ranks _, h => h.elim
 | .groups _ _, h => h.elim
end
end S
namespace S
open PySem PySem.Spec PyProof.Rows L2
section
variable {r x y : Rl} {l : List Cl} {P P' : List zm}
theorem Std.at_corner {m : Nat} {T : Rat} {as : List Rat} (h : Std m T as P) {c : zm} (hc : c ∈ P) : zA P c.1 = c.2 := by
 obtain ⟨i, hi, rfl⟩ := List.getElem_of_mem hc
 have e1 := List.getElem?_eq_getElem hi
 cases hn : P[i + 1]? with
 | none =>
   have := Zk (E := P[i].1) h.rise e1 Rat.le_refl (.inl (by have := List.getElem?_eq_none_iff.mp hn; omega))
   rw [hn] at this
   exact this
 | some d =>
   have hd := List.getElem?_eq_some_iff.mp hn
   have lt := List.pairwise_iff_getElem.mp h.rise i (i + 1) hi hd.1 (by omega)
   rw [hd.2] at lt
   have := Zk (E := P[i].1) h.rise e1 Rat.le_refl (.inr ⟨d, hn, lt⟩)
   rw [hn] at this
   rw [this]
   exact WD (by rw [(h.ok _ (List.getElem_mem hi)).1, (h.ok d (List.mem_of_getElem? hn)).1])
theorem Std.range {m : Nat} {T : Rat} {as : List Rat} (h : Std m T as P) {c : zm} (hc : c ∈ P) : 0 ≤ c.1 ∧ c.1 ≤ T := by
 have h0 : 0 ≤ c.1 := by
  obtain ⟨r, er⟩ := h.cons
  have rr := h.rise
  rw [er] at rr hc
  rcases List.mem_cons.mp hc with rfl | hc
  ·exact Rat.le_refl
  ·exact Rat.le_of_lt ((List.pairwise_cons.mp rr).1 c hc)
 refine ⟨h0, ?_⟩
 have s := h.sum h0
 rw [h.at_corner hc, (h.ok c hc).2] at s
 unfold mn at s
 split at s
 ·assumption
 ·rw [s]; exact Rat.le_refl
theorem VB : ∀ {v : List Rat}, (∀ q ∈ v, 0 ≤ q) → 0 ≤ yl v ∧ ∀ q ∈ v, q ≤ yl v
 | [], _ => ⟨by rw [yl]; exact Rat.le_refl, fun q hq => absurd hq List.not_mem_nil⟩
 | a :: v, h => by
   have ha := h a (List.mem_cons_self ..)
   obtain ⟨i1, i2⟩ := VB (v := v) fun q hq => h q (List.mem_cons_of_mem _ hq)
   rw [yl]
   refine ⟨by grind, fun q hq => ?_⟩
   rcases List.mem_cons.mp hq with rfl | hq
   ·grind
   ·have := i2 q hq; grind
theorem Good.parts (h : Good r l P) {e : Rat} (h0 : 0 ≤ e) : ∀ q ∈ zA P e, 0 ≤ q ∧ q ≤ yl (amQ l) := by
 have nn : ∀ q ∈ zA P e, 0 ≤ q := fun q hq => by
  obtain ⟨i, hi, rfl⟩ := List.getElem_of_mem hq
  have ln := h.std.len (e := e)
  exact ((h.fit e h0).inQ _ (Xo (List.getElem?_eq_getElem (l := l) (i := i) (by omega)) (List.getElem?_eq_getElem hi))).1
 obtain ⟨_, le⟩ := VB nn
 have s := h.std.sum h0
 have m1 : mn e (yl (amQ l)) ≤ yl (amQ l) := by unfold mn; split <;> grind
 intro q hq
 have := le q hq
 exact ⟨nn q hq, by grind⟩
theorem zfx {m : Nat} (ok : ClOk 160 l) (h : Wd r) (d0 : 0 < Vd r) (zD : Sz m (Vd r)) : ∀ c ∈ yI r l, SzC (170 + m) c := fun c hc => by
 have nn : ∀ a ∈ amV l, 0 ≤ a := fun a ha => (ok.am.2 a ha).1
 have g := xO nn h
 have dn := XZ nn h c hc
 have rg := g.std.range hc
 have pr := g.parts rg.1
 rw [g.std.at_corner hc] at pr
 have zT : ∃ k : Int, yl (amQ l) = (k : Rat) ∧ Sz 170 k := ⟨_, WV l, ok.am.sum.2⟩
 exact ⟨dn.1.sz d0 zD rg.1 rg.2 zT, fun x hx => (dn.2 x hx).sz d0 zD (pr x hx).1 (pr x hx).2 zT⟩
def zaa : Rl → Nat
 | .shares => 2
 | .evenly => 9
 | .losses => 9
 | .halves => 18
 | .other r => zaa r
 | .upto _ _ x y => zaa x + zaa y
 | _ => 0
theorem ZC (ok : ClOk 160 l) : ∀ {r : Rl}, Wd r → (yI r l).length ≤ zaa r
 | .shares, _ => by
   show (shP (amV l)).length ≤ 2
   unfold shP
   split <;> simp
 | .evenly, _ => by
   have f := ok.lv.few
   have e := ok.few
   rw [yk] at f
   show (evP _ _).length ≤ 9
   unfold evP
   rw [List.length_map]; omega
 | .losses, _ => by
   have f := ok.lv.few
   have e := ok.few
   rw [yk] at f
   show (loP _ _).length ≤ 9
   unfold loP
   rw [List.length_map, List.length_reverse]; omega
 | .halves, _ => by
   have f := ok.lv.few
   have e := ok.few
   rw [yk] at f
   have sub := (Ye (hvP (amV l) (lvV (amV l)))).length_le
   have l2 : (hvP (amV l) (lvV (amV l))).length ≤ 18 := by
    unfold hvP hfA hfB yN zI evP loP
    simp only [List.length_append, List.length_map, List.length_tail, List.length_reverse]
    omega
   show (xc _).length ≤ 18
   omega
 | .other r, h => by
   show (yF _).length ≤ zaa r
   unfold yF
   rw [List.length_map, List.length_reverse]
   exact ZC ok (r := r) h
 | .upto t b x y, h => by
   have h1 := ZC ok h.2.1
   have h2 := ZC ok h.2.2
   show (Xm _ _ _).length ≤ zaa x + zaa y
   unfold Xm
   refine Nat.le_trans (Ye _).length_le ?_
   unfold yN zI
   simp only [List.length_append, List.length_map, List.length_tail]
   omega
 | .ranks _, h => h.elim
 | .groups _ _, h => h.elim
theorem zhB {m : Nat} (ok : ClOk 160 l) (h : Wd r) (d0 : 0 < Vd r) (zD : Sz m (Vd r)) (hl : zaa r ≤ 400) : PathR (170 + m) (yI r l) := by
 have nn : ∀ a ∈ amV l, 0 ≤ a := fun a ha => (ok.am.2 a ha).1
 have g := (xO nn h).std
 have f := ZC ok h
 have e8 := ok.few
 refine ⟨g.ne, zfx ok h d0 zD, fun c hc => by rw [(g.ok c hc).1]; omega, by omega, g.rise, fun c hc => ?_⟩
 rw [g.head] at hc
 cases hc
 rfl
end
end S
namespace S
open PySem PySem.Spec PyProof.Rows L2
def xE (tk : List Int) : List Rat := tk.map fun (p : Int) => (p : Rat)
structure FitG (r : Rl) (l : List Cl) (tk : List Int) : Prop where
 len : tk.length = l.length
 fit : xS r (zU l (xE tk))
def yb (n : Int) (l : List Cl) : List Cl := l.map fun c => (n * c.1, c.2)
def yG (n : Int) (tk : List Int) : List Int := tk.map (n * ·)
section
variable {r x y : Rl} {l : List Cl} {tk : List Int}
theorem za5 (tk : List Int) : (xE tk).length = tk.length := List.length_map _
theorem FitG.row (h : FitG r l tk) {i : Nat} {a p : Int} (ha : (amV l)[i]? = some a) (hp : tk[i]? = some p) : ∃ c : Cl, l[i]? = some c ∧ c.1 = a ∧ ZI c (p : Rat) ∈ zU l (xE tk) := by
 unfold amV at ha
 rw [List.getElem?_map] at ha
 cases e : l[i]? with
 | none => rw [e] at ha; cases ha
 | some c =>
   rw [e] at ha
   cases ha
   exact ⟨c, rfl, rfl, Xo e (by unfold xE; rw [List.getElem?_map, hp]; rfl)⟩
theorem FitG.inB (h : FitG r l tk) : InB (amV l) tk := ⟨by rw [yk]; exact h.len, fun i a p ha hp => by
 obtain ⟨c, _, rfl, hm⟩ := h.row ha hp
 have := h.fit.inQ _ hm
 exact ⟨Xq this.1, Xq this.2⟩⟩
theorem zeA {L : List Row} {l : List Cl} {tk : List Int} (hl : tk.length = l.length) (e : L = zU l (xE tk)) (h : zbe L) : zbf (amV l) tk := by
 refine ⟨by rw [yk]; exact hl, fun i a p ha hp => ?_⟩
 unfold amV at ha
 rw [List.getElem?_map] at ha
 cases e1 : l[i]? with
 | none => rw [e1] at ha; cases ha
 | some c =>
   rw [e1] at ha
   cases ha
   have hm : ZI c (p : Rat) ∈ L := by rw [e]; exact Xo e1 (by unfold xE; rw [List.getElem?_map, hp]; rfl)
   have b := h.1 _ hm
   refine ⟨Xq b.1, Xq b.2, fun lt q hq => ?_⟩
   obtain ⟨j, hj, rfl⟩ := List.getElem_of_mem hq
   have hm2 : ZI (l[j]'(by omega)) ((tk[j] : Int) : Rat) ∈ L := by
    rw [e]
    exact Xo (List.getElem?_eq_getElem _) (by unfold xE; rw [List.getElem?_map, List.getElem?_eq_getElem hj]; rfl)
   exact Xq (h.2 _ hm (zeO lt) _ hm2)
theorem zc4 {am tk : List Int} : xE (xD am tk) = zcA (xE am) (xE tk) := by
 unfold xE xD zcA
 rw [List.map_zipWith, List.zipWith_map]
 congr 1
 funext a b
 rw [Rat.intCast_sub]
theorem zf5 (l : List Cl) : xE (amV l) = amQ l := (Wc l).symm
theorem zaL : zU l (xE (xD (amV l) tk)) = (zU l (xE tk)).map Row.flip := by
 rw [zc4, zf5, XI]
theorem zch (h : tk.length = l.length) : (xD (amV l) tk).length = l.length := by rw [YB (by rw [yk]; exact h), yk]
theorem FitG.evenly (h : FitG .evenly l tk) : zbf (amV l) tk := zeA h.len rfl h.fit.2
theorem FitG.losses (h : FitG .losses l tk) : zbf (amV l) (xD (amV l) tk) := zeA (zch h.len) zaL.symm h.fit.2
theorem FitG.other (h : FitG (.other r) l tk) : FitG r l (xD (amV l) tk) := ⟨zch h.len, by rw [zaL]; exact h.fit.2⟩
theorem Uf (tk : List Int) : yl (xE tk) = ((tk.sum : Int) : Rat) := Xt tk
theorem FitG.sums (h : FitG r l tk) : zbX (zU l (xE tk)) = (((amV l).sum : Int) : Rat) ∧ zdn (zU l (xE tk)) = ((tk.sum : Int) : Rat) :=
 ⟨by rw [XH (by rw [za5]; exact h.len), WV], by rw [Yu (by rw [za5]; exact h.len), Uf]⟩
theorem FitG.shares (h : FitG .shares l tk) : tk.map (· * (amV l).sum) = (amV l).map (· * tk.sum) := by
 have s := h.sums
 have f := h.fit.2
 apply List.ext_getElem
 ·rw [List.length_map, List.length_map, yk, h.len]
 ·intro i h1 h2
  rw [List.length_map] at h1 h2
  obtain ⟨c, _, e, hm⟩ := h.row (List.getElem?_eq_getElem h2) (List.getElem?_eq_getElem h1)
  have := f _ hm
  rw [s.1, s.2] at this
  rw [List.getElem_map, List.getElem_map]
  apply Rat.intCast_inj.mp
  rw [Rat.intCast_mul, Rat.intCast_mul, ← e]
  exact this
theorem FitG.halves (h : FitG .halves l tk) : FitG (.upto 1 2 .evenly .losses) l tk := by
 refine ⟨h.len, h.fit.1, ?_⟩
 have e2 : Rat.divInt 1 2 = (1 : Rat) / 2 := by decide +kernel
 rw [e2]
 exact h.fit.2
theorem xP (n : Int) (l : List Cl) : (yb n l).length = l.length := List.length_map _
theorem ZN (n : Int) (tk : List Int) : (yG n tk).length = tk.length := List.length_map _
theorem YF (n : Int) (l : List Cl) : amV (yb n l) = yG n (amV l) := by
 unfold amV yb yG
 rw [List.map_map, List.map_map]; rfl
theorem Wi (n : Int) : ∀ tk : List Int, (yG n tk).sum = n * tk.sum
 | [] => by show (0 : Int) = n * 0; rw [Int.mul_zero]
 | a :: tk => by
   show (n * a :: yG n tk).sum = _
   rw [List.sum_cons, List.sum_cons, Wi n tk, Int.mul_add]
theorem zcE (B : Int) : ∀ {l : List Cl} {tk : List Int}, zU (yb B l) (xE (yG B tk)) = (zU l (xE tk)).map (Row.scale (B : Rat))
 | [], _ => rfl
 | _ :: _, [] => rfl
 | c :: l, p :: tk => by
   show ZI (B * c.1, c.2) ((B * p : Int) : Rat) :: zU (yb B l) (xE (yG B tk)) = Row.scale (B : Rat) (ZI c (p : Rat)) :: (zU l (xE tk)).map (Row.scale (B : Rat))
   rw [zcE]
   congr 1
   simp only [ZI, Row.scale, Rat.intCast_mul]
   congr 1 <;> grind
theorem zb6 {t b : Int} (b0 : b ≠ 0) : ∀ {l : List Cl} {tk : List Int}, zU (yb t l) (xE (yG b tk)) = ((zU l (xE tk)).map (Row.first (Rat.divInt t b))).map (Row.scale (b : Rat))
 | [], _ => rfl
 | _ :: _, [] => rfl
 | c :: l, p :: tk => by
   show ZI (t * c.1, c.2) ((b * p : Int) : Rat) :: zU (yb t l) (xE (yG b tk)) = Row.scale (b : Rat) (Row.first (Rat.divInt t b) (ZI c (p : Rat))) :: ((zU l (xE tk)).map (Row.first (Rat.divInt t b))).map (Row.scale (b : Rat))
   rw [zb6 b0]
   have e := yt (t := t) b0
   congr 1
   simp only [ZI, Row.scale, Row.first, Rat.intCast_mul]
   congr 1 <;> grind
theorem zb5 {t b : Int} (b0 : b ≠ 0) : ∀ {l : List Cl} {tk : List Int}, zU (yb (b - t) l) (xE (xD (yG b tk) (yG t (amV l)))) = ((zU l (xE tk)).map (Row.rest (Rat.divInt t b))).map (Row.scale (b : Rat))
 | [], [] => rfl
 | [], _ :: _ => rfl
 | _ :: _, [] => rfl
 | c :: l, p :: tk => by
   show ZI ((b - t) * c.1, c.2) ((b * p - t * c.1 : Int) : Rat) :: zU (yb (b - t) l) (xE (xD (yG b tk) (yG t (amV l)))) = Row.scale (b : Rat) (Row.rest (Rat.divInt t b) (ZI c (p : Rat))) :: ((zU l (xE tk)).map (Row.rest (Rat.divInt t b))).map (Row.scale (b : Rat))
   rw [zb5 b0]
   have e := yt (t := t) b0
   congr 1
   simp only [ZI, Row.scale, Row.rest, Rat.intCast_mul, Rat.intCast_sub]
   congr 1 <;> grind
theorem FitG.upto {t b : Int} (b0 : 0 < b) (h : FitG (.upto t b x y) l tk) :
 if (yG b tk).sum ≤ (amV (yb t l)).sum then FitG x (yb t l) (yG b tk) else FitG y (yb (b - t) l) (xD (yG b tk) (amV (yb t l))) := by
 have s := h.sums
 have f := h.fit.2
 have bp := Xa b0
 have bn : b ≠ 0 := by omega
 have e := yt (t := t) bn
 unfold VS at f
 rw [s.1, s.2] at f
 have iff : ((tk.sum : Int) : Rat) ≤ (((amV l).sum : Int) : Rat) * Rat.divInt t b ↔ (yG b tk).sum ≤ (amV (yb t l)).sum := by
  rw [YF, Wi, Wi, ← Uu bp, ← Rat.intCast_le_intCast, Rat.intCast_mul, Rat.intCast_mul, ← e]
  constructor <;> intro z <;> grind
 by_cases c : (yG b tk).sum ≤ (amV (yb t l)).sum
 ·rw [if_pos (iff.mpr c)] at f
  rw [if_pos c]
  exact ⟨by rw [ZN, xP]; exact h.len, by rw [zb6 bn]; exact xS.scale bp f⟩
 ·rw [if_neg (fun z => c (iff.mp z))] at f
  rw [if_neg c]
  refine ⟨?_, by rw [YF, zb5 bn]; exact xS.scale bp f⟩
  rw [YF, xP, YB (by rw [ZN, ZN, yk, h.len]), ZN]
  exact h.len
theorem zcZ {P : List zm} {B : Int} {e : Rat} (g : Good r l P) (hB : 0 < B) (e0 : 0 ≤ e) (de : (e.den : Int) ∣ B) (hd : ∀ p ∈ zA P e, (p.den : Int) ∣ B) :
 (tkV B (zA P e)).sum = min (e.num * B.fdiv (e.den : Int)) (B * (amV l).sum) ∧ FitG r (yb B l) (tkV B (zA P e)) := by
 have bp := Xa hB
 have ln := g.std.len (e := e)
 have ec : xE (tkV B (zA P e)) = Wh (B : Rat) (zA P e) := by
  unfold xE tkV Wh
  rw [List.map_map]
  exact List.map_congr_left fun p hp => zas hB (hd p hp)
 have lt : (tkV B (zA P e)).length = l.length := by unfold tkV; rw [List.length_map]; exact ln
 refine ⟨?_, by rw [xP]; exact lt, ?_⟩
 ·apply Rat.intCast_inj.mp
  rw [← Uf, ec, zgw, zas hB de, Rat.intCast_mul, Rat.mul_comm (B : Rat), ← zfO bp, ← WV]
  have := g.std.sum e0
  rw [← this]
  exact yS _ _
 ·rw [ec]
  have : ∀ {l : List Cl} {v : List Rat}, zU (yb B l) (Wh (B : Rat) v) = (zU l v).map (Row.scale (B : Rat)) := by
   intro l
   induction l with
   | nil => intro v; rfl
   | cons c l ih =>
     intro v
     cases v with
     | nil => rfl
     | cons q v =>
       show ZI (B * c.1, c.2) (q * (B : Rat)) :: zU (yb B l) (Wh (B : Rat) v) = Row.scale (B : Rat) (ZI c q) :: (zU l v).map (Row.scale (B : Rat))
       rw [ih]
       congr 1
       simp only [ZI, Row.scale, Rat.intCast_mul]
       congr 1
       grind
  rw [this]
  exact xS.scale bp (g.fit e e0)
end
end S
namespace S
open PySem PySem.Spec PyProof.Rows L2
theorem YZ : ∀ {r : Rl}, Wd r → 0 < Vd r
 | .shares, _ => by decide
 | .evenly, _ => by decide
 | .losses, _ => by decide
 | .halves, _ => by decide
 | .other r, h => YZ (r := r) h
 | .upto t b x y, h => by
   have h1 := YZ h.2.1
   have h2 := YZ h.2.2
   have := h.1.2.1
   have := h.1.2.2.1
   exact Int.mul_pos (by omega) (Int.mul_pos h1 h2)
 | .ranks _, h => h.elim
 | .groups _ _, h => h.elim
structure PlOk (r : Rl) : Prop where
 plain : Wd r
 dz : Sz 100 (Vd r)
 few : zaa r ≤ 200
section
variable {r x y : Rl} {t b : Int} {l : List Cl}
theorem PlOk.other (h : PlOk (.other r)) : PlOk r := ⟨h.plain, h.dz, h.few⟩
theorem Ut {a b : Int} (ha : 0 < a) (hb : 0 < b) : a ≤ a * b ∧ b ≤ a * b := by
 have h1 := Int.mul_le_mul_of_nonneg_left (show 1 ≤ b by omega) (Int.le_of_lt ha)
 have h2 := Int.mul_le_mul_of_nonneg_right (show 1 ≤ a by omega) (Int.le_of_lt hb)
 rw [Int.mul_one] at h1
 rw [Int.one_mul] at h2
 exact ⟨h1, h2⟩
theorem PlOk.upto (h : PlOk (.upto t b x y)) : PlOk x ∧ PlOk y := by
 have hx := YZ h.plain.2.1
 have hy := YZ h.plain.2.2
 have b0 : 0 < b := by have := h.plain.1.2.1; have := h.plain.1.2.2.1; omega
 have d := h.dz
 have e : Vd (.upto t b x y) = b * (Vd x * Vd y) := rfl
 rw [e] at d
 have m1 := Ut hx hy
 have m2 := Ut b0 (Int.mul_pos hx hy)
 have f := h.few
 have f' : zaa x + zaa y ≤ 200 := f
 exact ⟨⟨h.plain.2.1, Vf (by omega) (by omega) d, by omega⟩, ⟨h.plain.2.2, Vf (by omega) (by omega) d, by omega⟩⟩
theorem PlOk.R (h : PlOk r) (ok : ClOk 160 l) : PathR 270 (yI r l) := zhB ok h.plain (YZ h.plain) h.dz (by have := h.few; omega)
theorem PlOk.good (h : PlOk r) (ok : ClOk 160 l) : Good r l (yI r l) := xO (fun a ha => (ok.am.2 a ha).1) h.plain
theorem PlOk.inn (h : PlOk r) (ok : ClOk 160 l) : PathIn (yI r l) := by
 have R := h.R (l := l) ok
 have f := ZC ok h.plain
 have := h.few
 exact ⟨R.ne, fun c hc => (R.sz c hc).mono (by decide), R.len, by omega⟩
theorem zfw (h : Uz t b) : PyData.tuple [.int t, .int b] = frD (Rat.divInt t b) := by
 have b0 : 0 < b := by have := h.2.1; have := h.2.2.1; omega
 have l := Wy (a := t) b0
 unfold frD
 rw [← l.1, ← l.2, h.2.2.2]
 rw [show (((1 : Nat) : Int)) = 1 from rfl, Int.fdiv_one, Int.fdiv_one]
theorem zhz (h : Uz t b) : SzQ 210 (Rat.divInt t b) := SzQ.divInt h.1.1 h.1.2 (by have := h.2.1; have := h.2.2.1; omega)
theorem Wp {P : List zm} {m n : Nat} {p : Rat} (h : ∀ c ∈ P, SzC n c) (hp : SzQ m p) : ∀ c ∈ zI p P, SzC (n + m) c := fun c hc => by
 obtain ⟨d, hd, rfl⟩ := List.mem_map.mp hc
 have := h d hd
 refine ⟨this.1.mul hp, fun q hq => ?_⟩
 obtain ⟨x, hx, rfl⟩ := List.mem_map.mp hq
 exact (this.2 x hx).mul hp
theorem Uh {P : List zm} {m : Nat} {p : Rat} (ok : PathIn P) (h : ∀ c ∈ P, SzC 270 c) (hp : SzQ m p) (hm : m ≤ 1000) : PathIn (zI p P) := by
 refine ⟨fun e => ok.ne (List.map_eq_nil_iff.mp e), fun c hc => (Wp h hp c hc).mono (by omega), fun c hc => ?_, by unfold zI; rw [List.length_map]; exact ok.few⟩
 obtain ⟨d, hd, rfl⟩ := List.mem_map.mp hc
 rw [List.length_map]
 exact ok.len d hd
theorem PlOk.up (h : PlOk (.upto t b x y)) (ok : ClOk 160 l) : UpOk (Rat.divInt t b) (yI x l) (yI y l) := by
 obtain ⟨hx, hy⟩ := h.upto
 have zp := zhz h.plain.1
 have one : SzQ 1 (1 : Rat) := by unfold SzQ Sz; decide +kernel
 have zq : SzQ 212 (1 - Rat.divInt t b) := (one.sub zp).mono (by decide)
 have px := hx.R (l := l) ok
 have py := hy.R (l := l) ok
 have gx := (hx.good ok).std
 have gy := (hy.good ok).std
 have ix := hx.inn (l := l) ok
 have iy := hy.inn (l := l) ok
 have pi := zbw h.plain.1
 have sx := Wp px.sz zp
 have sy := Wp py.sz zq
 have fx := ZC ok hx.plain
 have fy := ZC ok hy.plain
 have f := h.few
 have f' : zaa x + zaa y ≤ 200 := f
 have e8 := ok.few
 have st := zeX (Xx pi.1 gx) (Xx (show 0 < 1 - Rat.divInt t b by grind) gy)
 refine ⟨zp.mono (by decide), ix, iy, Uh ix px.sz zp (by decide), Uh iy py.sz zq (by decide), l.length, ⟨fun c hc => ?_, fun c hc => (st.ok c hc).1, by omega, ?_⟩⟩
 ·rcases List.mem_append.mp hc with z | z
  ·exact (sx c z).mono (by decide)
  ·obtain ⟨d, hd, rfl⟩ := List.mem_map.mp z
   have a := sx _ (VI (fun e => ix.ne (List.map_eq_nil_iff.mp e)))
   have b := sy d (List.mem_of_mem_tail hd)
   refine ⟨(a.1.add b.1).mono (by decide), fun q hq => ?_⟩
   obtain ⟨u, hu, v, hv, rfl⟩ := zbh hq
   exact ((a.2 u hu).add (b.2 v hv)).mono (by decide)
 ·unfold yN zI
  simp only [List.length_append, List.length_map, List.length_tail]
  omega
end
section
variable {B G0 H : Hp} {cs : yR} {ds : Dat} {Q : VK} {E : XK} {v w u : V} {K : PySem.W.Frag}
noncomputable def Xv (n : Nat) : Sp := spL (α := Rl × List Cl) (fun a => [a.1.shape, yg a.2]) (fun a => (PlOk a.1 ∧ a.1.deep ≤ n) ∧ ClOk 160 a.2) (fun a => (yI a.1 a.2).map zW)
theorem YU {n : Nat} {r : Rl} {l : List Cl} (S : Sta B G0 H cs ds) (h1 : Has ds r.shape v) (h : Has ds (yg l) w) (pl : PlOk r) (hn : r.deep ≤ n) (ok : ClOk 160 l) (k : ∀ p H', yc H H' → Sta B G0 H' ((p, (yI r l).map zW) :: cs) ds → Q (.ref p) H') : Xv n [v, w] H Q E := Xh (r, l) S (.cons h1 (.cons h .nil)) ⟨⟨pl, hn⟩, ok⟩ k
noncomputable def zbo (A : RAd) (n : Nat) : Sp := spL (α := Rl × List Cl) (fun a => [a.1.ins A, yg a.2]) (fun a => (PlOk a.1 ∧ a.1.deep ≤ n) ∧ ClOk 160 a.2) (fun a => (yI a.1 a.2).map zW)
theorem zfm {A : RAd} {n : Nat} {r : Rl} {l : List Cl} (S : Sta B G0 H cs ds) (h1 : Has ds (r.ins A) v) (h : Has ds (yg l) w) (pl : PlOk r) (hn : r.deep ≤ n) (ok : ClOk 160 l) (k : ∀ p H', yc H H' → Sta B G0 H' ((p, (yI r l).map zW) :: cs) ds → Q (.ref p) H') : zbo A n [v, w] H Q E := Xh (r, l) S (.cons h1 (.cons h .nil)) ⟨⟨pl, hn⟩, ok⟩ k
noncomputable def UG (A : RAd) (n : Nat) : Sp := spT (α := Rl × List Cl × Rat) (fun a => [a.1.ins A, yg a.2.1, frD a.2.2]) (fun a => ((PlOk a.1 ∧ a.1.deep ≤ n) ∧ ClOk 160 a.2.1) ∧ SzQ 300 a.2.2 ∧ 0 ≤ a.2.2) (fun a => xN (zA (yI a.1 a.2.1) a.2.2))
theorem zdJ {A : RAd} {n : Nat} {r : Rl} {l : List Cl} {e : Rat} (S : Sta B G0 H cs ds) (h1 : Has ds (r.ins A) v) (h : Has ds (yg l) w) (h3 : Has ds (frD e) u) (pl : PlOk r) (hn : r.deep ≤ n) (ok : ClOk 160 l) (ze : SzQ 300 e) (e0 : 0 ≤ e) (k : ∀ p H', yc H H' → Sta B G0 H' cs ((xN (zA (yI r l) e), p) :: ds) → Q p H') : UG A n [v, w, u] H Q E := ZQ (r, l, e) S (.cons h1 (.cons h (.cons h3 .nil))) ⟨⟨⟨pl, hn⟩, ok⟩, ze, e0⟩ k
end
end S
namespace S
open PySem PySem.Spec PyProof.Rows L2
def VO : Rl → Nat
 | .halves => 3
 | .other r => VO r + 1
 | .upto _ _ x y => max (VO x) (VO y) + 1
 | .ranks r => VO r + 1
 | .groups a b => max (VO a) (VO b) + 1
 | _ => 1
theorem zf4 : ∀ r : Rl, 1 ≤ VO r
 | .shares => Nat.le_refl _
 | .evenly => Nat.le_refl _
 | .losses => Nat.le_refl _
 | .halves => by decide
 | .other r => by simp [VO]
 | .ranks r => by simp [VO]
 | .groups a b => by simp [VO]
 | .upto _ _ x y => by simp [VO]
structure FitN (n : Nat) (r : Rl) (l : List Cl) (tk : List Int) : Prop where
 plain : Wd r
 dep : VO r ≤ n
 hn : n ≤ 20
 few : l.length ≤ 8
 sz : ∀ x ∈ amV l, Sz (40000 - 300 * n) x
 fit : FitG r l tk
section
variable {B G0 H : Hp} {cs : yR} {ds : Dat} {Q : VK} {E : XK} {v w u : V} {K : PySem.W.Frag} {n : Nat} {r x y : Rl} {l : List Cl} {tk : List Int} {t b : Int}
def Vl (n : Nat) : Sp := spB (α := Rl × List Cl × List Int) (fun a => [a.1.shape, yg a.2.1, ZX a.2.2]) (fun a => FitN n a.1 a.2.1 a.2.2) (fun _ => .bl true)
theorem XO (S : Sta B G0 H cs ds) (h1 : Has ds r.shape u) (h2 : Has ds (yg l) v) (h3 : Has ds (ZX tk) w) (ok : FitN n r l tk) (k : ∀ H', yc H H' → Sta B G0 H' cs ds → Q (.bl true) H') : Vl n [u, v, w] H Q E := Vu (r, l, tk) (S.hpAll (.cons h1 (.cons h2 (.cons h3 .nil)))) ok fun H' e => k H' e (S.same e)
def zgL (n : Nat) : Sp := spB (α := (Int × Int) × (Rl × Rl) × List Cl × List Int) (fun a => [(Rl.upto a.1.1 a.1.2 a.2.1.1 a.2.1.2).shape, yg a.2.2.1, ZX a.2.2.2]) (fun a => FitN n (Rl.upto a.1.1 a.1.2 a.2.1.1 a.2.1.2) a.2.2.1 a.2.2.2) (fun _ => .bl true)
theorem rd_upG (S : Sta B G0 H cs ds) (h1 : Has ds (Rl.upto t b x y).shape u) (h2 : Has ds (yg l) v) (h3 : Has ds (ZX tk) w) (ok : FitN n (.upto t b x y) l tk) (k : ∀ H', yc H H' → Sta B G0 H' cs ds → Q (.bl true) H') : zgL n [u, v, w] H Q E := Vu ((t, b), (x, y), l, tk) (S.hpAll (.cons h1 (.cons h2 (.cons h3 .nil)))) ok fun H' e => k H' e (S.same e)
theorem FitN.other (h : FitN (n + 1) (.other r) l tk) : FitN n r l (xD (amV l) tk) :=
 ⟨h.plain, by have := h.dep; simp only [VO] at this; omega, by have := h.hn; omega, h.few, fun x hx => (h.sz x hx).mono (by omega), h.fit.other⟩
theorem port12 : Uz 1 2 := ⟨⟨by unfold Sz; decide, by unfold Sz; decide⟩, by decide, by decide, by decide⟩
theorem FitN.halves (h : FitN (n + 1) .halves l tk) : FitN n (.upto 1 2 .evenly .losses) l tk :=
 ⟨⟨port12, trivial, trivial⟩, by have := h.dep; simp only [VO] at this ⊢; omega, by have := h.hn; omega, h.few, fun x hx => (h.sz x hx).mono (by omega), h.fit.halves⟩
theorem zbS {c : Int} {m : Nat} (hc : Sz 211 c) (h : ∀ x ∈ amV l, Sz m x) : ∀ x ∈ amV (yb c l), Sz (m + 300) x := fun x hx => by
 rw [YF] at hx
 obtain ⟨a, ha, rfl⟩ := List.mem_map.mp hx
 exact (hc.mul (h a ha)).mono (by omega)
theorem FitN.upto (h : FitN (n + 1) (.upto t b x y) l tk) : if (yG b tk).sum ≤ (amV (yb t l)).sum then FitN n x (yb t l) (yG b tk) else FitN n y (yb (b - t) l) (xD (yG b tk) (amV (yb t l))) := by
 have p := h.plain.1
 have b0 : 0 < b := by have := p.2.1; have := p.2.2.1; omega
 have f := h.fit.upto b0
 have d := h.dep
 simp only [VO] at d
 have hn := h.hn
 have e : 40000 - 300 * (n + 1) + 300 = 40000 - 300 * n := by omega
 split
 ·rename_i c
  rw [if_pos c] at f
  exact ⟨h.plain.2.1, by omega, by omega, by rw [xP]; exact h.few, by rw [← e]; exact zbS (p.1.1.mono (by decide)) h.sz, f⟩
 ·rename_i c
  rw [if_neg c] at f
  have zb : Sz 211 (b - t) := p.1.2.sub p.1.1
  exact ⟨h.plain.2.2, by omega, by omega, by rw [xP]; exact h.few, by rw [← e]; exact zbS zb h.sz, f⟩
end
end S
namespace S
open PySem PySem.Spec PyProof.Rows L2
section
variable {B G0 H : Hp} {cs : yR} {ds : Dat} {Q : VK} {E : XK} {v w u : V} {K : PySem.W.Frag} {r : Rl} {l : List Cl} {e : Rat}
noncomputable def UF : Sp := spB (α := Rl × List Cl × Rat) (fun a => [a.1.shape, yg a.2.1, frD a.2.2, xN (zA (yI a.1 a.2.1) a.2.2)]) (fun a => ((PlOk a.1 ∧ VO a.1 ≤ 5) ∧ ClOk 160 a.2.1) ∧ SzQ 300 a.2.2 ∧ 0 ≤ a.2.2) (fun _ => .bl true)
theorem zdI {t : V} (S : Sta B G0 H cs ds) (h1 : Has ds r.shape u) (h2 : Has ds (yg l) v) (h3 : Has ds (frD e) w) (h4 : Has ds (xN (zA (yI r l) e)) t) (pl : PlOk r) (hd : VO r ≤ 5) (ok : ClOk 160 l) (ze : SzQ 300 e) (e0 : 0 ≤ e) (k : ∀ H', yc H H' → Sta B G0 H' cs ds → Q (.bl true) H') : UF [u, v, w, t] H Q E := Vu (r, l, e) (S.hpAll (.cons h1 (.cons h2 (.cons h3 (.cons h4 .nil))))) ⟨⟨⟨pl, hd⟩, ok⟩, ze, e0⟩ fun H' e => k H' e (S.same e)
def UE (A : RAd) (n : Nat) : Sp := spT (α := Rl) (fun r => [r.shape]) (fun r => Wd r ∧ r.deep ≤ n) (fun r => r.ins A)
theorem WZ {A : RAd} {n : Nat} (S : Sta B G0 H cs ds) (h : Has ds r.shape v) (pl : Wd r) (hn : r.deep ≤ n) (k : ∀ p H', yc H H' → Sta B G0 H' cs ((r.ins A, p) :: ds) → Q p H') : UE A n [v] H Q E := ZQ r S (.cons h .nil) ⟨pl, hn⟩ k
end
end S
namespace S
open PySem PySem.Spec PyProof.Rows L2
structure Small (t b : Int) : Prop where
 port : Uz t b
 le : b ≤ 61
theorem Yg (n : Nat) : Wd (xk n) ∧ (1 ≤ Vd (xk n) ∧ Vd (xk n) ≤ 2) ∧ zaa (xk n) ≤ 18 ∧ VO (xk n) ≤ 3 ∧ (xk n).deep = 1 := by
 match n with
 | 0 => exact ⟨trivial, by decide, by decide, by decide, rfl⟩
 | 1 => exact ⟨trivial, by decide, by decide, by decide, rfl⟩
 | 2 => exact ⟨trivial, by decide, by decide, by decide, rfl⟩
 | n + 3 => exact ⟨trivial, ⟨by show (1 : Int) ≤ 2; decide, by show (2 : Int) ≤ 2; decide⟩, by show 18 ≤ 18; decide, by show 3 ≤ 3; decide, rfl⟩
def Dr (r : Rl) : Prop := (PlOk r ∧ VO r ≤ 5) ∧ r.deep ≤ 4
theorem zgF {t b : Int} {m n : Nat} (h : Small t b) : Sz 100 (b * (Vd (xk m) * Vd (xk n))) := by
 obtain ⟨_, ⟨a1, a2⟩, _⟩ := Yg m
 obtain ⟨_, ⟨b1, b2⟩, _⟩ := Yg n
 have b0 : 0 < b := by have := h.port.2.1; have := h.port.2.2.1; omega
 have m1 : Vd (xk m) * Vd (xk n) ≤ 2 * 2 := Int.mul_le_mul a2 b2 (by omega) (by decide)
 have m0 : 0 < Vd (xk m) * Vd (xk n) := Int.mul_pos (by omega) (by omega)
 have m2 : b * (Vd (xk m) * Vd (xk n)) ≤ 61 * (2 * 2) := Int.mul_le_mul h.le m1 (by omega) (by decide)
 have m3 := Int.mul_pos b0 m0
 unfold Sz
 omega
theorem zf3 (m : Nat) : Dr (.other (xk m)) := by
 obtain ⟨a0, ⟨a1, a2⟩, a3, a4, a5⟩ := Yg m
 exact ⟨⟨⟨a0, by show Sz 100 (Vd (xk m)); unfold Sz; omega, by show zaa (xk m) ≤ 200; omega⟩, by simp only [VO]; omega⟩, by simp only [Rl.deep]; omega⟩
theorem zeC {t b : Int} (h : Small t b) (m n : Nat) : Dr (.upto t b (xk m) (xk n)) := by
 obtain ⟨a0, ⟨a1, a2⟩, a3, a4, a5⟩ := Yg m
 obtain ⟨b0, ⟨b1, b2⟩, b3, b4, b5⟩ := Yg n
 exact ⟨⟨⟨⟨h.port, a0, b0⟩, zgF h, by show zaa (xk m) + zaa (xk n) ≤ 200; omega⟩, by simp only [VO]; omega⟩, by simp only [Rl.deep]; omega⟩
theorem zf2 {t b : Int} (h : Small t b) (m n : Nat) : Dr (.upto t b (xk m) (.other (xk n))) := by
 obtain ⟨a0, ⟨a1, a2⟩, a3, a4, a5⟩ := Yg m
 obtain ⟨b0, ⟨b1, b2⟩, b3, b4, b5⟩ := Yg n
 exact ⟨⟨⟨⟨h.port, a0, b0⟩, zgF h, by show zaa (xk m) + zaa (xk n) ≤ 200; omega⟩, by simp only [VO]; omega⟩, by simp only [Rl.deep]; omega⟩
theorem zeD {t b : Int} (h : Small t b) (m n : Nat) : Dr (.other (.upto t b (xk m) (xk n))) := by
 obtain ⟨⟨⟨p1, p2, p3⟩, p4⟩, p5⟩ := zeC h m n
 obtain ⟨_, _, _, a4, a5⟩ := Yg m
 obtain ⟨_, _, _, b4, b5⟩ := Yg n
 exact ⟨⟨⟨p1, p2, p3⟩, by simp only [VO]; omega⟩, by simp only [Rl.deep]; omega⟩
section
variable {B G0 H : Hp} {cs : yR} {ds : Dat} {Q : VK} {E : XK} {v w u : V} {K : PySem.W.Frag}
def zbn : Sp := fun vs H Q _ => ∃ (G : Hp) (c : Int), vs = [.int c] ∧ yc G H ∧ ∀ v H' G' (t b : Int), Grow G H G' H' → Is G' (.tuple [.int t, .int b]) v → Small t b → Q v H'
theorem zfl {c : Int} (S : Sta B G0 H cs ds) (k : ∀ v H' (t b : Int), Small t b → yc H H' → Sta B G0 H' cs ((.tuple [.int t, .int b], v) :: ds) → Q v H') : zbn [.int c] H Q E := by
 obtain ⟨G, S⟩ := S
 refine ⟨G, c, rfl, S.2.1, fun v H' G' t b gr hv good => k v H' t b good gr.h ?_⟩
 obtain ⟨a', b', c', d', e', f', g'⟩ := S.grow gr
 exact ⟨G', a', b', c', d', e', f', g'.cons hv⟩
theorem zdE {G H' : Hp} {t b : Int} (S : Sta H G H' cs ds) (k : ∀ v H' G' (t b : Int), Grow G H G' H' → Is G' (.tuple [.int t, .int b]) v → Small t b → Q v H') (h : Has ds (.tuple [.int t, .int b]) v) (hg : Small t b) : Q v H' :=
 let ⟨G', gr, al⟩ := S.leave; k v H' G' t b gr (h G' al) hg
def zbp : Sp := fun vs H Q _ => ∃ (G : Hp) (c t b : Int), yc G H ∧ zM G [.int c, .tuple [.int t, .int b]] vs ∧ Small t b ∧ ∀ v H' G' (r : Rl), Grow G H G' H' → Is G' r.shape v → Dr r → Q v H'
theorem zft {c t b : Int} (S : Sta B G0 H cs ds) (h : Has ds (.tuple [.int t, .int b]) w) (sm : Small t b) (k : ∀ v H' (r : Rl), Dr r → yc H H' → Sta B G0 H' cs ((r.shape, v) :: ds) → Q v H') : zbp [.int c, w] H Q E := by
 obtain ⟨G, S⟩ := S
 refine ⟨G, c, t, b, S.2.1, (yy.cons Has.int (yy.cons h yy.nil)) G S.2.2.2.2.2.2, sm, fun v H' G' r gr hv good => k v H' r good gr.h ?_⟩
 obtain ⟨a', b', c', d', e', f', g'⟩ := S.grow gr
 exact ⟨G', a', b', c', d', e', f', g'.cons hv⟩
theorem zb7 {G H' : Hp} {r : Rl} (S : Sta H G H' cs ds) (k : ∀ v H' G' (r : Rl), Grow G H G' H' → Is G' r.shape v → Dr r → Q v H') (h : Has ds r.shape v) (hg : Dr r) : Q v H' :=
 let ⟨G', gr, al⟩ := S.leave; k v H' G' r gr (h G' al) hg
end
end S
namespace K
open PySem L2 S
local macro_rules | `(tactic| walk_at "m") => `(tactic| exact .mem (by walk_at "mem"))
local macro_rules | `(tactic| walk_at "l") => `(tactic| first | decide | exact Nat.le_refl _ | omega)
local macro_rules | `(tactic| walk_at "o") => `(tactic| first | exact Or.inl rfl | exact Or.inr rfl)
local macro_rules | `(tactic| walk_at "mem") => `(tactic| first | exact List.Mem.head _ | (refine List.Mem.tail _ ?_; walk_at "mem"))
local macro_rules | `(tactic| walk_at "has") => `(tactic| first | exact Has.int | exact Has.bl | exact Has.non | exact Has.str | exact Has.mem (by walk_at "mem"))
local macro_rules | `(tactic| walk_at "hasall") => `(tactic| first | exact yy.nil | ((refine' yy.cons ?a ?b); (case a => walk_at "has"); (case b => walk_at "hasall")))
local macro_rules | `(tactic| walk_at "sz") => `(tactic| first | assumption | exact SzQ.num (by assumption) | exact SzQ.den (by assumption) | exact Sz.mul (by walk_at "sz") (by walk_at "sz") | exact Sz.add' (by walk_at "sz") (by walk_at "sz") | exact Sz.sub' (by walk_at "sz") (by walk_at "sz") | exact Sz.lit (by decide))
local macro_rules | `(tactic| walk_at "mul") => `(tactic| first | assumption | exact IntMulOk.of_left (by decide) | exact IntMulOk.of_right (by decide) | exact zfN (by decide) | exact Sz.mulOk (by walk_at "sz") (by walk_at "sz") (by decide))
local macro_rules | `(tactic| walk_at "div") => `(tactic| exact ⟨by decide, by decide⟩)
local macro_rules | `(tactic| walk_at "mod") => `(tactic| first | (show (0 : Int) < _; decide) | (show (0 : Int) < _; omega) | decide | assumption)
local macro_rules | `(tactic| walk_at "rd") => `(tactic| first
 | ((with_reducible refine' rd_var ?e ?k); (case e => exact rfl))
 | with_reducible refine' rd_c ?_ | with_reducible refine' rd_op ?_ | with_reducible refine' rd_rI0 ?_ | with_reducible refine' zhw ?_
 | ((with_reducible refine' zhk ?S ?h ?i ?k); (case S => assumption); (case h => walk_at "has"); (case i => exact rfl))
 | ((with_reducible refine' zaR ?S ?h ?i ?k); (case S => assumption); (case h => walk_at "has"); (case i => exact rfl); intro w S)
 | ((with_reducible refine' Yc ?S ?h ?i ?k); (case S => assumption); (case h => walk_at "has"); (case i => exact rfl))
 | ((with_reducible refine' Xi ?S ?h ?i ?k); (case S => assumption); (case h => walk_at "has"); (case i => exact rfl); intro w S)
 | ((with_reducible refine' zg4 ?c ?k); (case c => walk_at "mul"))
 | ((with_reducible refine' zg6 ?c ?k); (case c => first | decide | omega))
 | ((with_reducible refine' zg5 ?c ?k); (case c => first | assumption | omega))
 | ((with_reducible refine' zfr ?c ?k); (case c => exact ⟨by decide, by decide⟩))
 | ((with_reducible refine' zfs ?c ?k); (case c => assumption))
 | ((with_reducible refine' rd_pow ?c ?k); (case c => exact ⟨by decide, by decide, by decide⟩))
 | with_reducible refine' rd_seq ?_ | with_reducible refine' rd_asg ?_ | with_reducible refine' zX ?_ | with_reducible refine' rd_nx ?_ | with_reducible refine' rd_rt ?_ | with_reducible refine' zgm ?_ | with_reducible refine' rd_rt0 ?_ | with_reducible refine' rd_nxL ?_ | with_reducible refine' rd_rtL ?_
 | with_reducible refine' zhr ?_ | with_reducible refine' rd_nil ?_ | with_reducible refine' zhu ?_ | with_reducible refine' rd_cb ?_ | with_reducible refine' rd_tup ?_ | with_reducible refine' rd_lst ?_
 | ((with_reducible refine' zhe ?S ?h ?l ?k); (case S => assumption); (case h => walk_at "hasall"); (case l => exact Nat.le_of_ble_eq_true rfl); intro p H' e S)
 | ((with_reducible refine' zhg ?S ?h ?l ?k); (case S => assumption); (case h => walk_at "hasall"); (case l => exact Nat.le_of_ble_eq_true rfl); intro p H' e S)
 | with_reducible refine' rd_if ?_ | with_reducible refine' zgX ?_ | with_reducible refine' rd_tB ?_ | with_reducible refine' zhm ?_ | with_reducible refine' rd_eqI ?_ | with_reducible refine' rd_neI ?_
 | with_reducible refine' rd_not ?_ | with_reducible refine' rd_and ?_ | with_reducible refine' rd_or ?_ | with_reducible refine' zhv ?_ | with_reducible refine' rd_orV ?_ | with_reducible refine' zg2 ?_ | with_reducible refine' rd_ifE ?_
 | with_reducible refine' rd_un ?_ | with_reducible refine' rd_rU ?_ | with_reducible refine' zhp ?_ | with_reducible refine' zg3 ?_ | with_reducible refine' rd_retN ?_
 | ((with_reducible refine' zha ?S ?h ?k); (case S => assumption); (case h => walk_at "has"))
 | ((with_reducible refine' zhc ?S ?h ?k); (case S => assumption); (case h => walk_at "has"))
 | ((with_reducible refine' rd_lenC ?S ?h ?k); (case S => assumption); (case h => walk_at "mem"))
 | with_reducible refine' rd_abs ?_ | with_reducible refine' rd_min ?_ | with_reducible refine' rd_max ?_
 | with_reducible refine' rd_for ?_ | with_reducible refine' zhs ?_ | with_reducible refine' zfq ?_ | with_reducible refine' zhn ?_ | with_reducible refine' rd_iR1 ?_ | with_reducible refine' rd_iR2 ?_ | with_reducible refine' rd_iEn ?_ | with_reducible refine' rd_iZi ?_
 | with_reducible refine' Zn ?_ | with_reducible refine' xi ?_ | with_reducible refine' Yv ?_
 | ((with_reducible refine' Zm ?S ?h ?k); (case S => assumption); (case h => walk_at "has"); intro w1 w2 S)
 | ((with_reducible refine' rd_kGT3 ?S ?h ?k); (case S => assumption); (case h => walk_at "has"); intro w1 w2 w3 S)
 | with_reducible refine' rd_bm ?_ | with_reducible refine' rd_bm0 ?_
 | ((with_reducible refine' rd_kBM ?S ?h ?k); (case S => assumption); (case h => walk_at "mem"))
 | ((with_reducible refine' rd_kBM0 ?S ?h ?k); (case S => assumption); (case h => walk_at "mem"))
 | ((with_reducible refine' zfo ?S ?h ?k); (case S => assumption); (case h => walk_at "has"); intro p H' e S)
 | ((with_reducible refine' rd_listC ?S ?h ?k); (case S => assumption); (case h => walk_at "mem"); intro p H' e S)
 | ((with_reducible refine' rd_listT ?S ?h ?k); (case S => assumption); (case h => walk_at "has"); intro p H' e S)
 | ((with_reducible refine' rd_tupleL ?S ?h ?k); (case S => assumption); (case h => walk_at "has"); intro p H' e S)
 | ((with_reducible refine' zdH ?S ?h ?k); (case S => assumption); (case h => walk_at "mem"); intro p H' e S)
 | with_reducible refine' rd_par ?_ | with_reducible refine' rd_is2 ?_
 | ((with_reducible refine' rd_aug ?e ?k); (case e => exact rfl)) | with_reducible refine' rd_ipI ?_
 | with_reducible refine' iteT ?_ | with_reducible refine' iteF ?_ | with_reducible refine' iteNF ?_ | with_reducible refine' iteNT ?_
 | with_reducible refine' rd_nx0 ?_ | with_reducible refine' rd_ctL ?_ | with_reducible refine' rd_bkL ?_ | with_reducible refine' rd_ct ?_ | with_reducible refine' rd_bk ?_ | with_reducible refine' rd_eqB ?_ | with_reducible refine' rd_neB ?_)
local macro_rules | `(tactic| walk_at "sub") => `(tactic| first | exact List.Sublist.refl _ | exact List.nil_sublist _ | (refine List.Sublist.cons₂ _ ?_; walk_at "sub") | (refine List.Sublist.cons _ ?_; walk_at "sub"))
local macro_rules | `(tactic| walk_at "dats") => `(tactic| first | exact Dats.nil | ((refine' Dats.cons ?a ?b); (case a => walk_at "has"); (case b => walk_at "dats")))
local macro_rules | `(tactic| walk_at "walk") => `(tactic| repeat walk_at "rd")
local macro_rules | `(tactic| walk_at "szq") => `(tactic| first | assumption | exact SzQ.add (by walk_at "szq") (by walk_at "szq") | exact SzQ.sub (by walk_at "szq") (by walk_at "szq") | exact SzQ.mul (by walk_at "szq") (by walk_at "szq") | exact SzQ.div (by walk_at "szq") (by walk_at "szq"))
local macro_rules | `(tactic| walk_at "dom") => `(tactic| first | exact True.intro | assumption)
local macro_rules | `(tactic| walk_at "rd") => `(tactic| first
 | ((with_reducible refine' zaP ?S ?h1 ?h2 ?s1 ?s2 ?l ?d ?k); (case S => assumption); (case h1 => walk_at "has"); (case h2 => walk_at "has"); (case s1 => walk_at "szq"); (case s2 => walk_at "szq"); (case l => decide); (case d => walk_at "dom"); intro r H' e S)
 | ((with_reducible refine' zaS ?S ?h1 ?h2 ?s1 ?s2 ?l ?k); (case S => assumption); (case h1 => walk_at "has"); (case h2 => walk_at "has"); (case s1 => walk_at "szq"); (case s2 => walk_at "szq"); (case l => decide))
 | ((with_reducible refine' zht ?S ?h ?k); (case S => assumption); (case h => omega))
 | ((with_reducible refine' zhq ?h ?k); (case h => omega))
 | ((with_reducible refine' zgo ?h ?e ?k); (case h => assumption); (case e => first | exact zgy | exact kit_tl | exact kit_lt | exact kit_ll | exact kit_it | exact kit_il | exact zgA | exact zgz))
 | with_reducible refine' rd_sl ?_ | with_reducible refine' zdK ?_ | with_reducible refine' zg1 ?_ | with_reducible refine' zfp ?_
 | with_reducible refine' rd_iRv ?_
 | with_reducible refine' zgW ?_ | with_reducible refine' rd_gsub ?_ | with_reducible refine' rd_mix ?_
 | ((with_reducible refine' zgY ?S ?h ?k); (case S => assumption); (case h => walk_at "has"))
 | ((with_reducible refine' zgZ ?S ?h ?k); (case S => assumption); (case h => walk_at "mem")))
def zfb (K : PySem.W.Frag) : Sp := fun vs H Q _ => ∃ (a : Addr) (ns : List Int), vs = [.ref a] ∧ SqL K H a (ns.map V.int) ∧ ns.length ≤ 63 ∧ Only H ∧ ∀ H', Q (.bl true) H'
theorem zY {P : Program} {w : World} {K : PySem.W.Frag} {mg : Str → Option Value} {base : Heap} {f : Addr} {fd : FuncData} {k : Nat} {x : Str} {st : Stmt} {ps : List Str} {sp : Sp} (F : Fun K x x st f fd) (G : FnOk P w K mg base CX0 k f fd ps sp) (hm : mg x = some (.ref f)) (b : xU K fd ps []) : Cal P w K mg base CX0 k x ps sp := ⟨f, fd, G, hm, F.kp, b⟩
section
variable {P : Program} {w : World} {K : PySem.W.Frag} {mg : Str → Option Value} {base : Heap} {f : Addr} {fd : FuncData}
local macro_rules | `(tactic| walk_at "rd") => `(tactic| first
 | ((with_reducible refine' zhj ?S ?h ?i ?k); (case S => assumption); (case h => walk_at "has"); (case i => exact rfl))
 | ((with_reducible refine' rd_strI ?z ?k); (case z => assumption)) | with_reducible refine' rd_rev ?_
 | ((with_reducible refine' zgo ?h ?e ?k ?nd); (case h => assumption); (case nd => exact rfl); (case e => first | exact zgy | exact kit_tl | exact kit_lt | exact kit_ll | exact kit_it | exact kit_il | exact zgA | exact zgz | exact kit_st | exact kit_sl | exact kit_sb | exact kit_si | exact kit_ss))
 | with_reducible refine' rd_jCons ?_ | with_reducible refine' rd_fmt ?_ | with_reducible refine' zgp ?_ | with_reducible refine' zfn ?_ | with_reducible refine' zg9 ?_ | with_reducible refine' rd_kBMs ?_ | with_reducible refine' rd_addSI ?_ | with_reducible refine' rd_eqS ?_ | with_reducible refine' rd_neS ?_
 | ((with_reducible refine' rd_kJ ?l ?k); (case l => first | assumption | omega | (simp only [str_len]; omega) | (simp only [str_len] at *; omega)))
 | ((with_reducible refine' rd_jNil ?l ?k); (case l => first | assumption | omega | (simp only [str_len]; omega) | (simp only [str_len] at *; omega)))
 | ((with_reducible refine' rd_kFmtS ?l ?k); (case l => first | assumption | omega | (simp only [str_len]; omega) | (simp only [str_len] at *; omega)))
 | ((with_reducible refine' rd_kFmtI ?l ?k); (case l => assumption))
 | ((with_reducible refine' rd_addS ?l ?k); (case l => first | assumption | omega | (simp only [str_len]; omega) | (simp only [str_len] at *; omega))))
def top (i : Nat) : Stmt := PySem.Challenge.pw_shortpurse_k25_round_the_other_way_and_u.main.body.getD i (.Pass ⟨0, 0, 0, 0⟩)
abbrev yv : Stmt := top 20
theorem xh : FnScope ["one", "two", "rest"] ["one", "two"] (zi yv) := ⟨rfl, rfl, rfl, by decide +kernel, rfl, by decide +kernel, by decide +kernel⟩
abbrev YL : Stmt := top 19
theorem Vq : FnScope ["top", "bottom", "divisor"] ["top", "bottom"] (zi YL) := ⟨rfl, rfl, rfl, by decide +kernel, rfl, by decide +kernel, by decide +kernel⟩
def spGcd : Sp := fun vs H Q _ => ∃ a b : Int, vs = [.int a, .int b] ∧ 0 ≤ a ∧ 0 ≤ b ∧ Q (.int (Int.gcd a b : Nat)) H
theorem ok_gcd (F : Fun K "greatest_divisor" "greatest_divisor" yv f fd) : FnOk P w K mg base CX0 1 f fd ["one", "two"] spGcd := by
 refine F.ok xh (fun vs H Q E h => ?_) (fun cdv A outer s H vs Q E hr h => ?_)
 ·obtain ⟨a, b, rfl, _⟩ := h
  rfl
 obtain ⟨a, b, rfl, ha, hb, q⟩ := h
 refine ⟨_, (zj (UV PassesOwn.never (zJ (VD (zH hr)) (pv 1) zg (zN _)) (zj (zV (i := 2) xh.nd rfl (by walk_at "o") (zC Xp (pv 0) (pv 1))) (zj (zV (i := 0) xh.nd rfl (by walk_at "o") (pv 1)) (zk (zV (i := 1) xh.nd rfl (by walk_at "o") (pv 2)))))) (zk (zE (pv 0)))), zu ?_⟩
 refine zbi (fun m σ H2 => ∃ (x y : Int) (v : Option V), σ = [some (.int x), some (.int y), v] ∧ 0 ≤ x ∧ 0 ≤ y ∧ Int.gcd x y = Int.gcd a b ∧ H2 = H ∧ m = y.toNat) _ ⟨a, b, none, rfl, ha, hb, rfl, rfl, rfl⟩ ?_
 rintro m σ H2 ⟨x, y, v, rfl, hx, hy, hg, rfl, rfl⟩
 walk_at "walk"
 refine zgU (fun c => ?_) (fun c => ?_)
 ·have c : y ≠ 0 := by simpa using c
  walk_at "walk"
  have e : x.fmod y = x % y := Int.fmod_eq_emod_of_nonneg x hy
  have l1 := Int.emod_nonneg x c
  have l2 := Int.emod_lt_of_pos x (show 0 < y by omega)
  refine ⟨(x.fmod y).toNat, by rw [e]; omega, y, x.fmod y, _, rfl, hy, by rw [e]; exact l1, ?_, rfl, rfl⟩
  rw [e, zcm, hg]
 ·have c : y = 0 := by simpa using c
  subst c
  walk_at "walk"
  have e : x = ((Int.gcd a b : Nat) : Int) := by rw [← hg, Int.gcd_zero]; omega
  show Q (.int x) H2
  rw [e]
  exact q
theorem zec (B : Bl mg) (C_greatest_divisor : Cal P w K mg base CX0 1 "greatest_divisor" ["one", "two"] spGcd) (F : Fun K "lowest" "lowest" YL f fd) : FnOk P w K mg base CX0 2 f fd ["top", "bottom"] YH := by
 refine F.ok Vq (fun vs H Q E h => ?_) (fun cdv A outer s H vs Q E hr h => ?_)
 ·obtain ⟨G, a, _, h, _⟩ := h
  rw [← h.len]; rfl
 obtain ⟨G, ⟨a, b⟩, eG, hA, ⟨hb, sb⟩, k⟩ := h
 cases (xf (ns := [a, b]) hA)
 have S : Sta H G H [] [] := Sta.enter eG fun p hp => absurd hp List.not_mem_nil
 dsimp only at hb sb k
 refine ⟨_, (zj (zV (i := 2) Vq.nd rfl (by walk_at "o") (zv C_greatest_divisor hr (by walk_at "l") zK rfl (zd (zR VQ rfl B.abs zeU (zd (pv 0) zh)) (zd (zR VQ rfl B.abs zeU (zd (pv 1) zh)) zh)))) (zj (yr (zJ zaX (pv 1) zg (zN _)) (zk (zV (i := 2) Vq.nd rfl (by walk_at "o") (zhD zdi (pv 2)))) zL) (zk (zE (yj (zd (zC Yd (pv 0) (pv 2)) (zd (zC Yd (pv 1) (pv 2)) zh))))))), zu ?_⟩
 walk_at "walk"
 refine ⟨_, _, rfl, by omega, by omega, ?_⟩
 rw [show Int.gcd (a.natAbs : Int) (b.natAbs : Int) = Int.gcd a b by simp; rfl]
 have gp : 0 < Int.gcd a b := Int.gcd_pos_of_ne_zero_right a hb
 have gs : Sz 8999 (Int.gcd a b : Nat) := by
  refine Sz.le sb ?_
  have := Nat.le_of_dvd (by omega) (Int.gcd_dvd_natAbs_right a b)
  omega
 walk_at "walk"
 refine Yo (fun c => ?_) (fun c => ?_)
 ·have hc : CDv a (-((Int.gcd a b : Nat) : Int)) := ⟨by omega, gs.le (by omega)⟩
  walk_at "walk"
  refine Zr (by assumption) k (.mem ?_)
  rw [show frD (Rat.divInt a b) = .tuple [.int (a.fdiv (-((Int.gcd a b : Nat) : Int))), .int (b.fdiv (-((Int.gcd a b : Nat) : Int)))] by unfold frD; rw [← (zep c).1, ← (zep c).2]]
  walk_at "mem"
 ·have hc : CDv a ((Int.gcd a b : Nat) : Int) := ⟨by omega, gs⟩
  walk_at "walk"
  refine Zr (by assumption) k (.mem ?_)
  rw [show frD (Rat.divInt a b) = .tuple [.int (a.fdiv ((Int.gcd a b : Nat) : Int)), .int (b.fdiv ((Int.gcd a b : Nat) : Int))] by unfold frD; rw [← (Wy (show 0 < b by omega)).1, ← (Wy (show 0 < b by omega)).2]]
  walk_at "mem"
abbrev Uk : Stmt := top 14
theorem zgR : FnScope ["one", "two"] ["one", "two"] (zi Uk) := ⟨rfl, rfl, rfl, by decide +kernel, rfl, by decide +kernel, by decide +kernel⟩
theorem zhH (C_lowest : Cal P w K mg base CX0 2 "lowest" ["top", "bottom"] YH) (F : Fun K "plus" "plus" Uk f fd) : FnOk P w K mg base CX0 3 f fd ["one", "two"] zb0 := by
 refine F.ok zgR (fun vs H Q E h => ?_) (fun cdv A outer s H vs Q E hr h => ?_)
 ·obtain ⟨G, a, _, h, _⟩ := h
  rw [← h.len]; rfl
 obtain ⟨G, ⟨p, q⟩, eG, hA, ⟨⟨m, n, hp, hq, hmn⟩, _⟩, k⟩ := h
 obtain ⟨v, w', rfl, al⟩ := Zq hA
 have S : Sta H G H [] _ := Sta.enter eG al
 dsimp only at hp hq k S
 have o1 : IntMulOk p.num (q.den : Int) := hp.1.mulOk hq.2 (by omega)
 have o2 : IntMulOk q.num (p.den : Int) := hq.1.mulOk hp.2 (by omega)
 have o3 : IntMulOk (p.den : Int) (q.den : Int) := hp.2.mulOk hq.2 (by omega)
 have o4 : IntMulOk p.num q.num := hp.1.mulOk hq.1 (by omega)
 refine ⟨_, (zk (zE (zv C_lowest hr (by walk_at "l") zK rfl (zd (zC yx (zC zS (zB zo (pv 0) zg (fun _ _ => rfl)) (zB zo (pv 1) zg (fun _ _ => rfl))) (zC zS (zB zo (pv 1) zg (fun _ _ => rfl)) (zB zo (pv 0) zg (fun _ _ => rfl)))) (zd (zC zS (zB zo (pv 0) zg (fun _ _ => rfl)) (zB zo (pv 1) zg (fun _ _ => rfl))) zh))))), zu ?_⟩
 walk_at "walk"
 refine XL (by assumption) (xo p q) ((hp.2.mul hq.2).mono hmn) fun r H' e S => ?_
 rw [zeY] at S
 exact Zr S k (by walk_at "m")
abbrev Ws : Stmt := top 15
theorem zfh : FnScope ["one", "two"] ["one", "two"] (zi Ws) := ⟨rfl, rfl, rfl, by decide +kernel, rfl, by decide +kernel, by decide +kernel⟩
theorem zfJ (C_lowest : Cal P w K mg base CX0 2 "lowest" ["top", "bottom"] YH) (F : Fun K "minus" "minus" Ws f fd) : FnOk P w K mg base CX0 3 f fd ["one", "two"] Wo := by
 refine F.ok zfh (fun vs H Q E h => ?_) (fun cdv A outer s H vs Q E hr h => ?_)
 ·obtain ⟨G, a, _, h, _⟩ := h
  rw [← h.len]; rfl
 obtain ⟨G, ⟨p, q⟩, eG, hA, ⟨⟨m, n, hp, hq, hmn⟩, _⟩, k⟩ := h
 obtain ⟨v, w', rfl, al⟩ := Zq hA
 have S : Sta H G H [] _ := Sta.enter eG al
 dsimp only at hp hq k S
 have o1 : IntMulOk p.num (q.den : Int) := hp.1.mulOk hq.2 (by omega)
 have o2 : IntMulOk q.num (p.den : Int) := hq.1.mulOk hp.2 (by omega)
 have o3 : IntMulOk (p.den : Int) (q.den : Int) := hp.2.mulOk hq.2 (by omega)
 have o4 : IntMulOk p.num q.num := hp.1.mulOk hq.1 (by omega)
 refine ⟨_, (zk (zE (zv C_lowest hr (by walk_at "l") zK rfl (zd (zC Xj (zC zS (zB zo (pv 0) zg (fun _ _ => rfl)) (zB zo (pv 1) zg (fun _ _ => rfl))) (zC zS (zB zo (pv 1) zg (fun _ _ => rfl)) (zB zo (pv 0) zg (fun _ _ => rfl)))) (zd (zC zS (zB zo (pv 0) zg (fun _ _ => rfl)) (zB zo (pv 1) zg (fun _ _ => rfl))) zh))))), zu ?_⟩
 walk_at "walk"
 refine XL (by assumption) (xo p q) ((hp.2.mul hq.2).mono hmn) fun r H' e S => ?_
 rw [zdo] at S
 exact Zr S k (by walk_at "m")
abbrev Wr : Stmt := top 16
theorem zfg : FnScope ["one", "two"] ["one", "two"] (zi Wr) := ⟨rfl, rfl, rfl, by decide +kernel, rfl, by decide +kernel, by decide +kernel⟩
theorem zfB (C_lowest : Cal P w K mg base CX0 2 "lowest" ["top", "bottom"] YH) (F : Fun K "times" "times" Wr f fd) : FnOk P w K mg base CX0 3 f fd ["one", "two"] zbl := by
 refine F.ok zfg (fun vs H Q E h => ?_) (fun cdv A outer s H vs Q E hr h => ?_)
 ·obtain ⟨G, a, _, h, _⟩ := h
  rw [← h.len]; rfl
 obtain ⟨G, ⟨p, q⟩, eG, hA, ⟨⟨m, n, hp, hq, hmn⟩, _⟩, k⟩ := h
 obtain ⟨v, w', rfl, al⟩ := Zq hA
 have S : Sta H G H [] _ := Sta.enter eG al
 dsimp only at hp hq k S
 have o1 : IntMulOk p.num (q.den : Int) := hp.1.mulOk hq.2 (by omega)
 have o2 : IntMulOk q.num (p.den : Int) := hq.1.mulOk hp.2 (by omega)
 have o3 : IntMulOk (p.den : Int) (q.den : Int) := hp.2.mulOk hq.2 (by omega)
 have o4 : IntMulOk p.num q.num := hp.1.mulOk hq.1 (by omega)
 refine ⟨_, (zk (zE (zv C_lowest hr (by walk_at "l") zK rfl (zd (zC zS (zB zo (pv 0) zg (fun _ _ => rfl)) (zB zo (pv 1) zg (fun _ _ => rfl))) (zd (zC zS (zB zo (pv 0) zg (fun _ _ => rfl)) (zB zo (pv 1) zg (fun _ _ => rfl))) zh))))), zu ?_⟩
 walk_at "walk"
 refine XL (by assumption) (xo p q) ((hp.2.mul hq.2).mono hmn) fun r H' e S => ?_
 rw [zem] at S
 exact Zr S k (by walk_at "m")
abbrev Ul : Stmt := top 17
theorem zgS : FnScope ["one", "two"] ["one", "two"] (zi Ul) := ⟨rfl, rfl, rfl, by decide +kernel, rfl, by decide +kernel, by decide +kernel⟩
theorem zhI (C_lowest : Cal P w K mg base CX0 2 "lowest" ["top", "bottom"] YH) (F : Fun K "over" "over" Ul f fd) : FnOk P w K mg base CX0 3 f fd ["one", "two"] zgl := by
 refine F.ok zgS (fun vs H Q E h => ?_) (fun cdv A outer s H vs Q E hr h => ?_)
 ·obtain ⟨G, a, _, h, _⟩ := h
  rw [← h.len]; rfl
 obtain ⟨G, ⟨p, q⟩, eG, hA, ⟨⟨m, n, hp, hq, hmn⟩, h0⟩, k⟩ := h
 obtain ⟨v, w', rfl, al⟩ := Zq hA
 have S : Sta H G H [] _ := Sta.enter eG al
 dsimp only at hp hq k S h0
 have o1 : IntMulOk p.num (q.den : Int) := hp.1.mulOk hq.2 (by omega)
 have o2 : IntMulOk (p.den : Int) q.num := hp.2.mulOk hq.1 (by omega)
 have h1 := zgu h0
 refine ⟨_, (zj (yr (zJ (yd (zH hr)) (zB zo (pv 1) zg (fun _ _ => rfl)) zg (zN _)) (zk Zh) zL) (zk (zE (zv C_lowest hr (by walk_at "l") zK rfl (zd (zC zS (zB zo (pv 0) zg (fun _ _ => rfl)) (zB zo (pv 1) zg (fun _ _ => rfl))) (zd (zC zS (zB zo (pv 0) zg (fun _ _ => rfl)) (zB zo (pv 1) zg (fun _ _ => rfl))) zh)))))), zu ?_⟩
 walk_at "walk"
 refine Yo (fun c => absurd c h1) (fun _ => ?_)
 walk_at "walk"
 refine XL (by assumption) (Int.mul_ne_zero (Int.ne_of_gt (den_pos p)) h1) ((hp.2.mul hq.1).mono hmn) fun r H' e S => ?_
 rw [zeF p q h0] at S
 exact Zr S k (by walk_at "m")
abbrev YR : Stmt := top 18
theorem zdD : FnScope ["one", "two"] ["one", "two"] (zi YR) := ⟨rfl, rfl, rfl, by decide +kernel, rfl, by decide +kernel, by decide +kernel⟩
theorem zej (F : Fun K "before" "before" YR f fd) : FnOk P w K mg base CX0 1 f fd ["one", "two"] UL := by
 refine F.ok zdD (fun vs H Q E h => ?_) (fun cdv A outer s H vs Q E hr h => ?_)
 ·obtain ⟨a, h, _⟩ := h
  rw [← h.len]; rfl
 obtain ⟨⟨p, q⟩, hA, ⟨m, n, hp, hq, hmn⟩, k⟩ := h
 obtain ⟨v, w', rfl, al⟩ := Zq hA
 have S : Sta H H H [] _ := Sta.enter (yc.refl _) al
 dsimp only at hp hq k S
 have o1 : IntMulOk p.num (q.den : Int) := hp.1.mulOk hq.2 (by omega)
 have o2 : IntMulOk q.num (p.den : Int) := hq.1.mulOk hp.2 (by omega)
 refine ⟨_, (zk (zE (UX zaX (zC zS (zB zo (pv 0) zg (fun _ _ => rfl)) (zB zo (pv 1) zg (fun _ _ => rfl))) (zC zS (zB zo (pv 1) zg (fun _ _ => rfl)) (zB zo (pv 0) zg (fun _ _ => rfl))) (zN _)))), zu ?_⟩
 walk_at "walk"
 rw [show decide (p < q) = decide (p.num * (q.den : Int) < q.num * (p.den : Int)) from decide_eq_decide.mpr (Rat.lt_iff p q)] at k
 exact k
abbrev xm : Stmt := top 35
theorem yU : FnScope ["amounts", "amount", "low", "high", "middle"] ["amounts", "amount"] (zi xm) := ⟨rfl, rfl, rfl, by decide +kernel, rfl, by decide +kernel, by decide +kernel⟩
theorem zhJ (B : Bl mg) (C_before : Cal P w K mg base CX0 1 "before" ["one", "two"] UL) (F : Fun K "last_reached" "last_reached" xm f fd) : FnOk P w K mg base CX0 2 f fd ["amounts", "amount"] zdr := by
 refine F.ok yU (fun vs H Q E h => ?_) (fun cdv A outer s H vs Q E hr h => ?_)
 ·obtain ⟨qs, e, n, h, _⟩ := h
  rw [← h.len]; rfl
 obtain ⟨qs, e, n, hA, ⟨hq0, hq1, zq, ze, hn, hfst⟩, k⟩ := h
 obtain ⟨va, ve, rfl, al⟩ := Zq hA
 have S : Sta H H H [] [(.list (qs.map frD), va), (frD e, ve)] := Sta.enter (yc.refl _) al
 have h2n : n + n ≤ 100000000 := by omega
 refine ⟨_, (zj (zV (i := 2) yU.nd rfl (by walk_at "o") zg) (zj (zV (i := 3) yU.nd rfl (by walk_at "o") (zR xu rfl B.len YE (zd (pv 0) zh))) (zj (UV PassesOwn.never (zJ zcL (zC Xj (pv 3) (pv 2)) zg (zN _)) (zj (zV (i := 4) yU.nd rfl (by walk_at "o") (zC Zf (zC yx (pv 2) (pv 3)) zg)) (zk (yr (XR (zv C_before hr (by walk_at "l") zK rfl (zd (pv 1) (zd (zB zo (pv 0) (pv 4) (fun _ _ => rfl)) zh)))) (zk (zV (i := 3) yU.nd rfl (by walk_at "o") (pv 4))) (zk (zV (i := 2) yU.nd rfl (by walk_at "o") (pv 4))))))) (zk (zE (pv 2)))))), zu ?_⟩
 walk_at "walk"
 refine zbi (fun m σ H2 => ∃ (low high : Nat) (x4 : Option V) (q : Rat), σ = [some va, some ve, some (.int (low : Nat)), some (.int (high : Nat)), x4] ∧ H2 = H ∧ low < high ∧ high ≤ qs.length ∧ qs[low]? = some q ∧ q ≤ e ∧ (high = qs.length ∨ ∃ r, qs[high]? = some r ∧ e < r) ∧ m = high - low) (qs.length - 0) ⟨0, qs.length, none, qs[0], by
  rw [List.length_map]; rfl, rfl, hq0, Nat.le_refl _, List.getElem?_eq_getElem hq0, hfst _ (List.getElem?_eq_getElem hq0), .inl rfl, rfl⟩ ?_
 rintro m σ H2 ⟨low, high, x4, q, rfl, rfl, hlh, hhn, hq, hqe, hhi, rfl⟩
 walk_at "walk"
 refine zgU (fun c => ?_) (fun c => ?_)
 ·have c : 1 < (high : Int) - low := by simpa using c
  have em : ((low : Int) + high) / 2 = (((low + high) / 2 : Nat) : Int) := by omega
  have hm1 : low < (low + high) / 2 := by omega
  have hm2 : (low + high) / 2 < high := by omega
  walk_at "walk"
  rw [em]
  generalize (low + high) / 2 = mid at *
  have hmq : qs[mid]? = some (qs[mid]'(by omega)) := List.getElem?_eq_getElem _
  generalize (qs[mid]'(by omega)) = p at *
  refine Xi (xs := qs.map frD) (x := frD p) S (by walk_at "m") (Yk (by rw [List.getElem?_map, hmq]; rfl)) fun wp S2 => ?_
  have zp := zq p (List.mem_of_getElem? hmq)
  refine zaS (m := n) (n := n) S2 (by walk_at "m") (by walk_at "m") ze zp h2n ?_
  walk_at "walk"
  refine Yo (fun c1 => ?_) (fun c1 => ?_)
  ·walk_at "walk"
   exact ⟨mid - low, by omega, low, mid, _, q, rfl, rfl, hm1, by omega, hq, hqe, .inr ⟨p, hmq, c1⟩, rfl⟩
  ·walk_at "walk"
   exact ⟨high - mid, by omega, mid, high, _, p, rfl, rfl, hm2, hhn, hmq, Rat.not_lt.mp c1, hhi, rfl⟩
 ·have c : ¬ 1 < (high : Int) - low := by simpa using c
  have e1 : high = low + 1 := by omega
  subst e1
  walk_at "walk"
  exact k low q hq hqe hhi
abbrev yz : Stmt := top 31
theorem Xy : FnScope ["start", "end", "amount"] ["start", "end", "amount"] (zi yz) := ⟨rfl, rfl, rfl, by decide +kernel, rfl, by decide +kernel, by decide +kernel⟩
theorem zcN (C_minus : Cal P w K mg base CX0 3 "minus" ["one", "two"] Wo) (C_over : Cal P w K mg base CX0 3 "over" ["one", "two"] zgl) (F : Fun K "portion_reached" "portion_reached" yz f fd) : FnOk P w K mg base CX0 4 f fd ["start", "end", "amount"] Vi := by
 refine F.ok Xy (fun vs H Q E h => ?_) (fun cdv A outer s H vs Q E hr h => ?_)
 ·obtain ⟨G, a, _, h, _⟩ := h
  rw [← h.len]; rfl
 obtain ⟨G, ⟨s', e', x⟩, eG, hA, ⟨⟨m, n, z1, z2, z3, hz⟩, hne⟩, k⟩ := h
 obtain ⟨v1, v2, v3, rfl, al⟩ := XY hA
 have S : Sta H G H [] _ := Sta.enter eG al
 dsimp only at z1 z2 z3 hne k S
 refine ⟨_, (zk (zE (zv C_over hr (by walk_at "l") zK rfl (zd (zv C_minus hr (by walk_at "l") zK rfl (zd (pv 2) (zd (pv 0) zh))) (zd (zv C_minus hr (by walk_at "l") zK rfl (zd (pv 1) (zd (pv 0) zh))) zh))))), zu ?_⟩
 walk_at "walk"
 refine zaP S (by walk_at "m") (by walk_at "m") z3 z1 (by omega) True.intro fun r1 H1 e1 S1 => ?_
 walk_at "walk"
 refine zaP S1 (by walk_at "m") (by walk_at "m") z2 z1 (by omega) True.intro fun r2 H2 e2 S2 => ?_
 walk_at "walk"
 refine zaP S2 (by walk_at "m") (by walk_at "m") (z3.sub z1) (z2.sub z1) (by omega) (fun z => hne (by grind)) fun r3 H3 e3 S3 => ?_
 exact Zr S3 k (by walk_at "m")
abbrev Zc : Stmt := top 32
theorem zaI : FnScope ["start", "end", "portion"] ["start", "end", "portion"] (zi Zc) := ⟨rfl, rfl, rfl, by decide +kernel, rfl, by decide +kernel, by decide +kernel⟩
theorem zek (C_plus : Cal P w K mg base CX0 3 "plus" ["one", "two"] zb0) (C_minus : Cal P w K mg base CX0 3 "minus" ["one", "two"] Wo) (C_times : Cal P w K mg base CX0 3 "times" ["one", "two"] zbl) (F : Fun K "amount_at" "amount_at" Zc f fd) : FnOk P w K mg base CX0 4 f fd ["start", "end", "portion"] UM := by
 refine F.ok zaI (fun vs H Q E h => ?_) (fun cdv A outer s H vs Q E hr h => ?_)
 ·obtain ⟨G, a, _, h, _⟩ := h
  rw [← h.len]; rfl
 obtain ⟨G, ⟨s', e', t⟩, eG, hA, ⟨m, n, z1, z2, z3, hz⟩, k⟩ := h
 obtain ⟨v1, v2, v3, rfl, al⟩ := XY hA
 have S : Sta H G H [] _ := Sta.enter eG al
 dsimp only at z1 z2 z3 k S
 refine ⟨_, (zk (zE (zv C_plus hr (by walk_at "l") zK rfl (zd (pv 0) (zd (zv C_times hr (by walk_at "l") zK rfl (zd (pv 2) (zd (zv C_minus hr (by walk_at "l") zK rfl (zd (pv 1) (zd (pv 0) zh))) zh))) zh))))), zu ?_⟩
 walk_at "walk"
 refine zaP S (by walk_at "m") (by walk_at "m") z2 z1 (by omega) True.intro fun r1 H1 e1 S1 => ?_
 walk_at "walk"
 refine zaP S1 (by walk_at "m") (by walk_at "m") z3 (z2.sub z1) (by omega) True.intro fun r2 H2 e2 S2 => ?_
 walk_at "walk"
 refine zaP S2 (by walk_at "m") (by walk_at "m") z1 (z3.mul (z2.sub z1)) (by omega) True.intro fun r3 H3 e3 S3 => ?_
 exact Zr S3 k (by walk_at "m")
abbrev yV : Stmt := top 30
theorem Yl : FnScope ["start", "end", "purse", "portion"] ["start", "end", "purse"] (zi yV) := ⟨rfl, rfl, rfl, by decide +kernel, rfl, by decide +kernel, by decide +kernel⟩
theorem zcS (B : Bl mg) (C_portion_reached : Cal P w K mg base CX0 4 "portion_reached" ["start", "end", "amount"] Vi) (C_amount_at : Cal P w K mg base CX0 4 "amount_at" ["start", "end", "portion"] UM) (F : Fun K "parts_between" "parts_between" yV f fd) : FnOk P w K mg base CX0 5 f fd ["start", "end", "purse"] Vm := by
 refine F.ok Yl (fun vs H Q E h => ?_) (fun cdv A outer s H vs Q E hr h => ?_)
 ·obtain ⟨G, a, _, h, _⟩ := h
  rw [← h.len]; rfl
 obtain ⟨G, ⟨c, d, e⟩, eG, hA, ⟨⟨m, n, z1, z2, z3, hz⟩, hlt, hl⟩, k⟩ := h
 obtain ⟨v1, v2, v3, rfl, al⟩ := XY hA
 have S : Sta H G H [] _ := Sta.enter eG al
 dsimp only at z1 z2 z3 hlt hl k S
 refine ⟨_, (zj (zV (i := 3) Yl.nd rfl (by walk_at "o") (zv C_portion_reached hr (by walk_at "l") zK rfl (zd (zB zo (pv 0) zg (fun _ _ => rfl)) (zd (zB zo (pv 1) zg (fun _ _ => rfl)) (zd (pv 2) zh))))) (zk (zE (ZS ZG rfl B.tuple Yj (zd (yZ (N := ["one", "two", "portion"]) (n := 2) (fr := [3]) rfl ⟨rfl, by decide +kernel, rfl, by decide, rfl, rfl, rfl, rfl, rfl⟩ (WL false false rfl B.zip (zd (zB zo (pv 0) zg (fun _ _ => rfl)) (zd (zB zo (pv 1) zg (fun _ _ => rfl)) zh))) (fun _ _ _ _ => (Yy rfl (ym (zP (i := 0) (show (["one", "two", "portion"] : List Str).Nodup from by decide +kernel) rfl (by walk_at "o")) (ym (zP (i := 1) (show (["one", "two", "portion"] : List Str).Nodup from by decide +kernel) rfl (by walk_at "o")) ZD)))) (fun _ _ _ _ => yo) (fun _ _ _ _ => (zv C_amount_at hr (by walk_at "l") zK rfl (zd (pv 0) (zd (pv 1) (zd (pv 2) zh)))))) zh))))), zu ?_⟩
 walk_at "walk"
 rename_i w1 S1 w2 S2
 refine zcH S2 (by walk_at "m") (by walk_at "m") (by walk_at "m") z1.1 z2.1 z3 (by omega) (fun z => by rw [z] at hlt; exact Rat.lt_irrefl hlt) fun r3 H3 e3 S3 => ?_
 have zt : SzQ (m + 3 * n + 2) ((e - c.1) / (d.1 - c.1)) := ((z3.sub z1.1).div (z2.1.sub z1.1)).mono (by omega)
 walk_at "walk"
 rename_i w4 S4 w5 S5
 unfold WE at k
 generalize (e - c.1) / (d.1 - c.1) = t at *
 refine UU (xs := c.2.map frD) (ys := d.2.map frD) S5 (by walk_at "m") (by walk_at "m") fun J wk => ?_
 refine ya wk (fun j => frD ((List.zipWith (ZK t) c.2 d.2).getD j 0)) (ys := (List.zipWith (ZK t) c.2 d.2).map frD) ?_ S5 (fun _ _ => ⟨.mem (by walk_at "mem"), fun _ _ h => h.tail, .mem (by walk_at "mem")⟩) (by rw [xq, List.length_map, List.length_map]; omega) (fun j x v B' G' Kd Kn hx t1 S hd C ex s0 H0 => ?_) fun D H1 e1 S1 => ?_
 ·rw [xq, List.length_map, List.length_map, show min c.2.length d.2.length = (List.zipWith (ZK t) c.2 d.2).length by rw [List.length_zipWith]]
  exact zO frD 0 _
 ·obtain ⟨x1, x2, h1, h2, rfl⟩ := ZY hx
  obtain ⟨n1, hn1, rfl⟩ := yu h1
  obtain ⟨n2, hn2, rfl⟩ := yu h2
  refine Zn (Zm S (by walk_at "m") fun w1 w2 S => ?_)
  refine xi (zX (xi (zX (Yv ⟨rfl, ?_⟩))))
  walk_at "walk"
  refine zdT S (by walk_at "m") (by walk_at "m") (by walk_at "m") (z1.2 n1 (List.mem_of_getElem? hn1)) (z2.2 n2 (List.mem_of_getElem? hn2)) zt (by omega) fun r6 H6 e6 S6 => ?_
  refine hd S6 ?_
  rw [yp (n := ZK t n1 n2) (by rw [List.getElem?_zipWith, hn1, hn2])]
  exact .mem (by walk_at "mem")
 walk_at "walk"
 exact Zr (by assumption) k (by walk_at "m")
abbrev Zw : Stmt := top 23
theorem Vp : FnScope ["path", "purse", "place"] ["path", "purse"] (zi Zw) := ⟨rfl, rfl, rfl, by decide +kernel, rfl, by decide +kernel, by decide +kernel⟩
theorem zcO (B : Bl mg) (C_last_reached : Cal P w K mg base CX0 2 "last_reached" ["amounts", "amount"] zdr) (C_parts_between : Cal P w K mg base CX0 5 "parts_between" ["start", "end", "purse"] Vm) (F : Fun K "parts_at" "parts_at" Zw f fd) : FnOk P w K mg base CX0 6 f fd ["path", "purse"] Vj := by
 refine F.ok Vp (fun vs H Q E h => ?_) (fun cdv A outer s H vs Q E hr h => ?_)
 ·obtain ⟨G, a, _, h, _⟩ := h
  rw [← h.len]; rfl
 obtain ⟨G, ⟨a, e⟩, eG, hA, ⟨m, n, ok, ze, hz, h0⟩, k⟩ := h
 obtain ⟨v1, v2, rfl, al⟩ := Zq hA
 have S : Sta H G H [] _ := Sta.enter eG al
 dsimp only at ok ze h0 k S
 have few := ok.few
 have hn0 : ¬ e.num < 0 := by
  have := Rat.num_nonneg.mpr h0
  omega
 have la : 0 < a.length := List.length_pos_iff.mpr ok.ne
 refine ⟨_, (zj (yr (zJ zaX (zB zo (pv 1) zg (fun _ _ => rfl)) zg (zN _)) (zk Zh) zL) (zj (zV (i := 2) Vp.nd rfl (by walk_at "o") (zv C_last_reached hr (by walk_at "l") zK rfl (zd (yZ (N := ["corner"]) (n := 1) (fr := []) rfl ⟨rfl, by decide +kernel, rfl, by decide, rfl, rfl, rfl, rfl, rfl⟩ (yY (pv 0)) (fun _ _ _ _ => (zP (i := 0) (show (["corner"] : List Str).Nodup from by decide +kernel) rfl (by walk_at "o"))) (fun _ _ _ _ => yo) (fun _ _ _ _ => (zB zo (pv 0) zg (fun _ _ => rfl)))) (zd (pv 1) zh)))) (zj (yr (zJ (yd (zH hr)) (pv 2) (zC Xj (zR xu rfl B.len YE (zd (pv 0) zh)) zg) (zN _)) (zk (zE (zB zo (zB zo (pv 0) (pv 2) (fun _ _ => rfl)) zg (fun _ _ => rfl)))) zL) (zk (zE (zv C_parts_between hr (by walk_at "l") zK rfl (zd (zB zo (pv 0) (pv 2) (fun _ _ => rfl)) (zd (zB zo (pv 0) (zC yx (pv 2) zg) (fun _ _ => rfl)) (zd (pv 1) zh))))))))), zu ?_⟩
 walk_at "walk"
 refine Yo (fun c => absurd c hn0) (fun _ => ?_)
 walk_at "walk"
 refine xp (xs := a.map zW) S (by walk_at "m") fun J wk => ?_
 refine ya wk (fun j => frD ((fun c : zm => c.1) (a.getD j (0, [])))) (ys := (a.map fun c => c.1).map frD) (by rw [List.length_map, List.map_map]; exact zO (fun c : zm => frD c.1) (0, []) a) S (fun _ _ => .mem (by walk_at "mem")) (by rw [List.length_map]; omega) (fun j x v B' G' Kd Kn hx t1 S hd C ex s0 H0 => ?_) fun D H1 e1 S1 => ?_
 ·obtain ⟨c, hc, rfl⟩ := yu hx
  refine zX ⟨rfl, ?_⟩
  walk_at "walk"
  refine hd (by assumption) ?_
  rw [yp hc]
  exact .mem (by walk_at "mem")
 walk_at "walk"
 refine zhd (qs := a.map fun c => c.1) (e := e) (n := 9000) S1 (S1.hpC (by walk_at "mem")) (S1.hp (by walk_at "m")) ⟨by rw [List.length_map]; exact la, by rw [List.length_map]; omega, fun q hq => ?_, ze.mono (by omega), by decide, fun q hq => ?_⟩ fun i q hi hqe hnx => ?_
 ·obtain ⟨c, hc, rfl⟩ := List.mem_map.mp hq
  exact (ok.sz c hc).1.mono (by omega)
 ·obtain ⟨c, hc, rfl⟩ := yu hq
  rw [ok.zero c hc]
  exact h0
 obtain ⟨c, hc, rfl⟩ := yu hi
 have hil : i < a.length := (List.getElem?_eq_some_iff.mp hc).1
 have key := Zk (E := e) ok.rise hc hqe (by
  rcases hnx with h | ⟨r, hr', h⟩
  ·left; simpa using h
  ·obtain ⟨d, hd, rfl⟩ := yu hr'
   exact .inr ⟨d, hd, h⟩)
 walk_at "walk"
 refine Yo (fun c1 => ?_) (fun c1 => ?_)
 ·rw [List.length_map] at c1
  rw [List.getElem?_eq_none (show a.length ≤ i + 1 by omega)] at key
  walk_at "walk"
  refine Xi (xs := a.map zW) (x := zW c) S1 (by walk_at "m") (Yk (by rw [List.getElem?_map, hc]; rfl)) fun wc S2 => ?_
  walk_at "walk"
  rw [key] at k
  exact Zr (by assumption) k (by walk_at "m")
 ·rw [List.length_map] at c1
  have hlt : i + 1 < a.length := by omega
  have hd := List.getElem?_eq_getElem hlt
  have hr' := ok.rise
  unfold xr at hr'
  rw [List.pairwise_iff_getElem] at hr'
  have hcd := hr' i (i + 1) hil hlt (by omega)
  rw [List.getElem_eq_iff hil |>.mpr hc] at hcd
  generalize a[i + 1] = d at *
  rw [hd] at key
  walk_at "walk"
  refine Xi (xs := a.map zW) (x := zW c) S1 (by walk_at "m") (Yk (by rw [List.getElem?_map, hc]; rfl)) fun wc S2 => ?_
  walk_at "walk"
  refine Xi (xs := a.map zW) (x := zW d) S2 (by walk_at "m") (by rw [show ((i : Nat) : Int) + 1 = ((i + 1 : Nat) : Int) by omega]; exact Yk (by rw [List.getElem?_map, hd]; rfl)) fun wd S3 => ?_
  walk_at "walk"
  refine zcJ S3 (by walk_at "m") (by walk_at "m") (by walk_at "m") (ok.sz c (List.mem_of_getElem? hc)) (ok.sz d (List.mem_of_getElem? hd)) ze hz hcd (ok.len c (List.mem_of_getElem? hc)) fun r4 H4 e4 S4 => ?_
  rw [key] at k
  exact Zr S4 k (by walk_at "m")
local macro_rules | `(tactic| walk_at "rd") => `(tactic| ((with_reducible refine' rd_gap ?S ?h1 ?h2 ?s1 ?s2 ?k); (case S => assumption); (case h1 => walk_at "has"); (case h2 => walk_at "has"); (case s1 => assumption); (case s2 => assumption); intro r H' e S))
abbrev zcD : Stmt := top 29
theorem sc_gap : FnScope ["one", "two"] ["one", "two"] (zi zcD) := ⟨rfl, rfl, rfl, by decide +kernel, rfl, by decide +kernel, by decide +kernel⟩
abbrev xy : Stmt := top 28
theorem yP : FnScope ["ahead", "corner", "following", "near", "far", "place", "start", "rise", "whole"] ["ahead", "corner", "following"] (zi xy) := ⟨rfl, rfl, rfl, by decide +kernel, rfl, by decide +kernel, by decide +kernel⟩
abbrev ZO : Stmt := top 22
theorem Ui : FnScope ["corners", "last"] ["corners"] (zi ZO) := ⟨rfl, rfl, rfl, by decide +kernel, rfl, by decide +kernel, by decide +kernel⟩
theorem ok_gap (F : Fun K "gap" "gap" zcD f fd) : FnOk P w K mg base CX0 1 f fd ["one", "two"] zgO := by
 refine F.ok sc_gap (fun vs H Q E h => ?_) (fun cdv A outer s H vs Q E hr h => ?_)
 ·obtain ⟨G, a, _, h, _⟩ := h
  rw [← h.len]; rfl
 obtain ⟨G, ⟨p, q⟩, eG, hA, ⟨hp, hq⟩, k⟩ := h
 obtain ⟨v, w', rfl, al⟩ := Zq hA
 have S : Sta H G H [] _ := Sta.enter eG al
 dsimp only at hp hq k S
 have o1 : IntMulOk q.num (p.den : Int) := hq.1.mulOk hp.2 (by decide)
 have o2 : IntMulOk p.num (q.den : Int) := hp.1.mulOk hq.2 (by decide)
 have o3 : IntMulOk (p.den : Int) (q.den : Int) := hp.2.mulOk hq.2 (by decide)
 refine ⟨_, (zk (zE (yj (zd (zC Xj (zC zS (zB zo (pv 1) zg (fun _ _ => rfl)) (zB zo (pv 0) zg (fun _ _ => rfl))) (zC zS (zB zo (pv 0) zg (fun _ _ => rfl)) (zB zo (pv 1) zg (fun _ _ => rfl)))) (zd (zC zS (zB zo (pv 0) zg (fun _ _ => rfl)) (zB zo (pv 1) zg (fun _ _ => rfl))) zh))))), zu ?_⟩
 walk_at "walk"
 exact Zr (by assumption) k (by walk_at "m")
theorem zbz (B : Bl mg) (C_gap : Cal P w K mg base CX0 1 "gap" ["one", "two"] zgO) (F : Fun K "is_straight" "is_straight" xy f fd) : FnOk P w K mg base CX0 2 f fd ["ahead", "corner", "following"] zgM := by
 refine F.ok yP (fun vs H Q E h => ?_) (fun cdv A outer s H vs Q E hr h => ?_)
 ·obtain ⟨a, h, _⟩ := h
  rw [← h.len]; rfl
 obtain ⟨⟨a, b, c⟩, hA, ⟨sa, sb, sc, l1, l2, l3⟩, k⟩ := h
 obtain ⟨va, vb, vc, rfl, al⟩ := XY hA
 have S : Sta H H H [] _ := Sta.enter (yc.refl _) al
 dsimp only at sa sb sc l1 l2 l3 k S
 have za := sa.1
 have zb := sb.1
 have zc := sc.1
 have zn := zcn za zb
 have zf := zcn za zc
 refine ⟨_, (zj (zV (i := 3) yP.nd rfl (by walk_at "o") (zv C_gap hr (by walk_at "l") zK rfl (zd (zB zo (pv 0) zg (fun _ _ => rfl)) (zd (zB zo (pv 1) zg (fun _ _ => rfl)) zh)))) (zj (zV (i := 4) yP.nd rfl (by walk_at "o") (zv C_gap hr (by walk_at "l") zK rfl (zd (zB zo (pv 0) zg (fun _ _ => rfl)) (zd (zB zo (pv 2) zg (fun _ _ => rfl)) zh)))) (zj (Vx PassesOwn.never rfl (zd3 false rfl B.enumerate (zd (zB zo (pv 0) zg (fun _ _ => rfl)) zh)) (Yy rfl (ym (zP (i := 5) yP.nd rfl (by walk_at "o")) (ym (zP (i := 6) yP.nd rfl (by walk_at "o")) ZD))) (zj (zV (i := 7) yP.nd rfl (by walk_at "o") (zv C_gap hr (by walk_at "l") zK rfl (zd (pv 6) (zd (zB zo (zB zo (pv 1) zg (fun _ _ => rfl)) (pv 5) (fun _ _ => rfl)) zh)))) (zj (zV (i := 8) yP.nd rfl (by walk_at "o") (zv C_gap hr (by walk_at "l") zK rfl (zd (pv 6) (zd (zB zo (zB zo (pv 2) zg (fun _ _ => rfl)) (pv 5) (fun _ _ => rfl)) zh)))) (zk (yr (zJ (VD (zH hr)) (zC zS (zC zS (zC zS (zB zo (pv 7) zg (fun _ _ => rfl)) (zB zo (pv 3) zg (fun _ _ => rfl))) (zB zo (pv 8) zg (fun _ _ => rfl))) (zB zo (pv 4) zg (fun _ _ => rfl))) (zC zS (zC zS (zC zS (zB zo (pv 8) zg (fun _ _ => rfl)) (zB zo (pv 4) zg (fun _ _ => rfl))) (zB zo (pv 7) zg (fun _ _ => rfl))) (zB zo (pv 3) zg (fun _ _ => rfl))) (zN _)) (zk (zE WQ)) zL))))) (zk (zE WQ))))), zu ?_⟩
 walk_at "walk"
 rename_i w1 _ w2 _ vn H1 e1 S1 w3 _ w4 _ vf H2 e2 S2 w5 S3
 refine zhh (xs := a.2.map frD) S3 (by walk_at "m") fun J wk => ?_
 have S4 : Sta H H H2 [] [(xN a.2, w5), (zie a.1 b.1, vn), (zie a.1 c.1, vf), (zW a, va), (zW b, vb), (zW c, vc)] := S3.dat (by walk_at "dats")
 refine VN wk (fun i σ cs ds => ∃ (x5 x6 x7 x8 : Option V), σ = [some va, some vb, some vc, some vn, some vf, x5, x6, x7, x8] ∧ cs = [] ∧ ds = [(xN a.2, w5), (zie a.1 b.1, vn), (zie a.1 c.1, vf), (zW a, va), (zW b, vb), (zW c, vc)] ∧
  ∀ (j : Nat) (x y z : Rat), j < i → a.2[j]? = some x → b.2[j]? = some y → c.2[j]? = some z → (y - x) * (c.1 - a.1) = (z - x) * (b.1 - a.1)) S4 ⟨none, none, none, none, rfl, rfl, rfl, fun j x y z hj => absurd hj (Nat.not_lt_zero _)⟩ (fun i σ cs ds h => ?_) ?_ ?_
 ·obtain ⟨_, _, _, _, _, _, rfl, _⟩ := h
  exact .mem (by walk_at "mem")
 ·rintro i x u σ H5 cs ds hx ⟨x5, x6, x7, x8, rfl, rfl, rfl, inv⟩ S5
  obtain ⟨x0, hx0, rfl⟩ := zag hx
  obtain ⟨p, hp, rfl⟩ := yu hx0
  have hi : i < a.2.length := (List.getElem?_eq_some_iff.mp hp).1
  have hqb : b.2[i]? = some (b.2[i]'(by omega)) := List.getElem?_eq_getElem _
  have hqc : c.2[i]? = some (c.2[i]'(by omega)) := List.getElem?_eq_getElem _
  generalize (b.2[i]'(by omega)) = q at *
  generalize (c.2[i]'(by omega)) = r at *
  have zp : SzQ 2000 p := sa.2 p (List.mem_of_getElem? hp)
  have zq : SzQ 2000 q := sb.2 q (List.mem_of_getElem? hqb)
  have zr : SzQ 2000 r := sc.2 r (List.mem_of_getElem? hqc)
  have zx := zcn zp zq
  have zw := zcn zp zr
  have ib : atI (b.2.map frD) ((i : Nat) : Int) = some (frD q) := Yk (by rw [List.getElem?_map, hqb]; rfl)
  have ic : atI (c.2.map frD) ((i : Nat) : Int) = some (frD r) := Yk (by rw [List.getElem?_map, hqc]; rfl)
  refine Zn (Zm S5 (by walk_at "m") fun u1 u2 S6 => ?_)
  cases S6.int1
  walk_at "walk"
  rename_i u3 S7
  refine zaR (xs := b.2.map frD) S7 (by walk_at "m") ib fun u4 S8 => ?_
  walk_at "walk"
  rename_i vr H9 e9 S9 u5 S10
  refine zaR (xs := c.2.map frD) S10 (by walk_at "m") ic fun u6 S11 => ?_
  have m1 := zx.1.mul zn.2
  have m2 := m1.mul zw.2
  have m3 := zw.1.mul zf.2
  have m4 := m3.mul zx.2
  have o1 := zx.1.mulOk zn.2 (by decide)
  have o2 := m1.mulOk zw.2 (by decide)
  have o3 := m2.mulOk zf.1 (by decide)
  have o4 := zw.1.mulOk zf.2 (by decide)
  have o5 := m3.mulOk zx.2 (by decide)
  have o6 := m4.mulOk zn.1 (by decide)
  walk_at "walk"
  have cr := zeK (rn := q.num * (p.den : Int) - p.num * (q.den : Int)) (rd := (p.den : Int) * (q.den : Int)) (nn := b.1.num * (a.1.den : Int) - a.1.num * (b.1.den : Int)) (nd := (a.1.den : Int) * (b.1.den : Int))
   (wn := r.num * (p.den : Int) - p.num * (r.den : Int)) (wd := (p.den : Int) * (r.den : Int)) (fn := c.1.num * (a.1.den : Int) - a.1.num * (c.1.den : Int)) (fd := (a.1.den : Int) * (c.1.den : Int)) (xo _ _) (xo _ _) (xo _ _) (xo _ _)
  rw [zaf, zaf, zaf, zaf] at cr
  refine zgC (fun z => ?_) (fun z => ?_)
  ·walk_at "walk"
   have hst : ¬ yM a b c := fun st => z (cr.mp (st i _ _ _ hp hqb hqc))
   rw [show (@decide (yM a b c) (Classical.propDecidable _)) = false from @decide_eq_false _ (Classical.propDecidable _) hst] at k
   exact ret_B (by assumption) k
  ·walk_at "walk"
   rename_i vw H12 e12 S12
   refine zbu (S12.dat (by walk_at "dats")) ⟨_, _, _, _, rfl, rfl, rfl, fun j x y z' hj hx1 hy1 hz1 => ?_⟩
   by_cases hji : j < i
   ·exact inv j x y z' hji hx1 hy1 hz1
   ·have : j = i := by omega
    subst this
    rw [hp] at hx1; rw [hqb] at hy1; rw [hqc] at hz1
    cases hx1; cases hy1; cases hz1
    exact cr.mpr z
 ·rintro σ H5 cs ds ⟨x5, x6, x7, x8, rfl, rfl, rfl, inv⟩ S5
  walk_at "walk"
  have hst : yM a b c := fun i x y z hx hy hz => inv i x y z (by
   have := (List.getElem?_eq_some_iff.mp hx).1
   rw [YD, List.length_map]; exact this) hx hy hz
  rw [show (@decide (yM a b c) (Classical.propDecidable _)) = true from @decide_eq_true _ (Classical.propDecidable _) hst] at k
  exact ret_B S5 k
theorem zcM (B : Bl mg) (C_is_straight : Cal P w K mg base CX0 2 "is_straight" ["ahead", "corner", "following"] zgM) (F : Fun K "thinned" "thinned" ZO f fd) : FnOk P w K mg base CX0 3 f fd ["corners"] Vh := by
 refine F.ok Ui (fun vs H Q E h => ?_) (fun cdv A outer s H vs Q E hr h => ?_)
 ·obtain ⟨G, a, _, h, _⟩ := h
  rw [← h.len]; rfl
 obtain ⟨G, a, eG, hA, ⟨m, ok⟩, k⟩ := h
 obtain ⟨v0, rfl, al⟩ := Ym hA
 have S : Sta H G H [] _ := Sta.enter eG al
 have few := ok.few
 refine ⟨_, (zj (zV (i := 1) Ui.nd rfl (by walk_at "o") (zC Xj (zR xu rfl B.len YE (zd (pv 0) zh)) zg)) (zk (zE (yZ (N := ["place", "corner", "corners", "last"]) (n := 2) (fr := [0, 1]) rfl ⟨rfl, by decide +kernel, rfl, by decide, rfl, rfl, rfl, rfl, rfl⟩ (zd3 true rfl B.enumerate (zd (pv 0) zh)) (fun _ _ _ _ => (Yy rfl (ym (zP (i := 0) (show (["place", "corner", "corners", "last"] : List Str).Nodup from by decide +kernel) rfl (by walk_at "o")) (ym (zP (i := 1) (show (["place", "corner", "corners", "last"] : List Str).Nodup from by decide +kernel) rfl (by walk_at "o")) ZD)))) (fun _ _ _ _ => (zhC (PW.pt (VV (zJ (yd (zH hr)) (pv 0) zg (zN _)) (VV (zJ (yd (zH hr)) (pv 0) (pv 3) (zN _)) (Uq (WK (XR (zv C_is_straight hr (by walk_at "l") zK rfl (zd (zB zo (pv 2) (zC Xj (pv 0) zg) (fun _ _ => rfl)) (zd (pv 1) (zd (zB zo (pv 2) (zC yx (pv 0) zg) (fun _ _ => rfl)) zh)))))))))))) (fun _ _ _ _ => (pv 1)))))), zu ?_⟩
 walk_at "walk"
 refine zhi (xs := a.map zW) S (by walk_at "m") fun J wk => ?_
 refine zeL wk (fun j => if ZE a j then (a[j]?).map zW else none) S (fun _ _ => .mem (by walk_at "mem")) (by rw [YD, List.length_map]; omega) (fun i x v B' G' Kd Kn hx t1 S hd hn C ex s0 H0 => ?_) fun D H1 e1 S1 => ?_
 ·obtain ⟨x0, hx0, rfl⟩ := zag hx
  obtain ⟨c, hc, rfl⟩ := yu hx0
  have hi : i < a.length := (List.getElem?_eq_some_iff.mp hc).1
  refine Zn (Zm S (by walk_at "m") fun u1 u2 S2 => ?_)
  cases S2.int1
  refine xi (zX (xi (zX (Yv ⟨rfl, ?_⟩))))
  rw [hc] at hd hn
  have yes : ZE a i = true → ∀ {H5 : Hp} {cs' : yR} {ds' : Dat}, Sta B' G' H5 cs' ds' → Has ds' (zW c) u2 → Kd u2 H5 := fun hk {H5 cs' ds'} S5 h5 => hd (by rw [hk]; rfl) S5 h5
  have no : ZE a i = false → ∀ {H5 : Hp} {cs' : yR} {ds' : Dat}, Sta B' G' H5 cs' ds' → Kn H5 := fun hk {H5 cs' ds'} S5 => hn (by rw [hk]; rfl) S5
  walk_at "walk"
  refine Yo (fun c0 => ?_) (fun c0 => ?_)
  ·walk_at "walk"
   exact yes (ZT (.inl (by omega))) S2 (by walk_at "m")
  ·walk_at "walk"
   refine Yo (fun c1 => ?_) (fun c1 => ?_)
   ·walk_at "walk"
    rw [List.length_map] at c1
    exact yes (ZT (.inr (.inl (by omega)))) S2 (by walk_at "m")
   ·rw [List.length_map] at c1
    have h0 : i - 1 < a.length := by omega
    have h2 : i + 1 < a.length := by omega
    have g0 := List.getElem?_eq_getElem h0
    have g2 := List.getElem?_eq_getElem h2
    have y0 := List.getElem_mem h0
    have y2 := List.getElem_mem h2
    generalize a[i - 1] = c0' at *
    generalize a[i + 1] = c2' at *
    have y1 := List.mem_of_getElem? hc
    walk_at "walk"
    refine Xi (xs := a.map zW) (x := zW c0') S2 (by walk_at "m") (zgH (by omega) (by rw [show ((i : Int) - 1).toNat = i - 1 by omega, List.getElem?_map, g0]; rfl)) fun u3 S3 => ?_
    walk_at "walk"
    refine Xi (xs := a.map zW) (x := zW c2') S3 (by walk_at "m") (zgH (by omega) (by rw [show ((i : Int) + 1).toNat = i + 1 by omega, List.getElem?_map, g2]; rfl)) fun u4 S4 => ?_
    walk_at "walk"
    refine rd_str S4 (by walk_at "m") (by walk_at "m") (by walk_at "m") (ok.sz _ y0) (ok.sz _ y1) (ok.sz _ y2) (by rw [ok.len _ y1, ok.len _ y0]) (by rw [ok.len _ y2, ok.len _ y0]) (by rw [ok.len _ y0]; exact ok.m) fun H5 S5 => ?_
    walk_at "walk"
    refine @zgC _ _ _ (_) (fun z => ?_) (fun z => ?_)
    ·walk_at "walk"
     exact yes (ZT (.inr (.inr fun q => z (q _ _ _ g0 hc g2)))) S5 (by walk_at "m")
    ·refine no ?_ S5
     refine Uv ?_
     rintro (q | q | q)
     ·omega
     ·omega
     ·refine q fun x y z' hx hy hz => ?_
      rw [g0] at hx; rw [hc] at hy; rw [g2] at hz
      cases hx; cases hy; cases hz
      exact z
 ·walk_at "walk"
  rw [YD, List.length_map, zcX] at S1
  exact ZL S1 k
abbrev xV : Stmt := top 33
theorem zaE : FnScope ["ones", "twos"] ["ones", "twos"] (zi xV) := ⟨rfl, rfl, rfl, by decide +kernel, rfl, by decide +kernel, by decide +kernel⟩
theorem zaY (B : Bl mg) (C_plus : Cal P w K mg base CX0 3 "plus" ["one", "two"] zb0) (F : Fun K "plus_each" "plus_each" xV f fd) : FnOk P w K mg base CX0 4 f fd ["ones", "twos"] (zax fun p q => p + q) := by
 refine F.ok zaE (fun vs H Q E h => ?_) (fun cdv A outer s H vs Q E hr h => ?_)
 ·obtain ⟨G, a, _, h, _⟩ := h
  rw [← h.len]; rfl
 obtain ⟨G, ⟨p, q⟩, eG, hA, ⟨s1, s2, hl⟩, k⟩ := h
 obtain ⟨v, w', rfl, al⟩ := Zq hA
 have S : Sta H G H [] _ := Sta.enter eG al
 dsimp only at s1 s2 hl k S
 refine ⟨_, (zk (zE (ZS ZG rfl B.tuple Yj (zd (yZ (N := ["one", "two"]) (n := 2) (fr := []) rfl ⟨rfl, by decide +kernel, rfl, by decide, rfl, rfl, rfl, rfl, rfl⟩ (WL false false rfl B.zip (zd (pv 0) (zd (pv 1) zh))) (fun _ _ _ _ => (Yy rfl (ym (zP (i := 0) (show (["one", "two"] : List Str).Nodup from by decide +kernel) rfl (by walk_at "o")) (ym (zP (i := 1) (show (["one", "two"] : List Str).Nodup from by decide +kernel) rfl (by walk_at "o")) ZD)))) (fun _ _ _ _ => yo) (fun _ _ _ _ => (zv C_plus hr (by walk_at "l") zK rfl (zd (pv 0) (zd (pv 1) zh))))) zh)))), zu ?_⟩
 walk_at "walk"
 refine UU (xs := p.map frD) (ys := q.map frD) S (by walk_at "m") (by walk_at "m") fun J wk => ?_
 refine ya wk (fun j => frD ((List.zipWith (fun p q => p + q) p q).getD j 0)) (ys := (List.zipWith (fun p q => p + q) p q).map frD) ?_ S (fun _ _ => ⟨.mem (by walk_at "mem"), fun _ _ h => h.tail, .mem (by walk_at "mem")⟩) (by rw [xq, List.length_map, List.length_map]; omega) (fun j x v B' G' Kd Kn hx t1 S hd C ex s0 H0 => ?_) fun D H1 e1 S1 => ?_
 ·rw [xq, List.length_map, List.length_map, show min p.length q.length = (List.zipWith (fun p q => p + q) p q).length by rw [List.length_zipWith]]
  exact zO frD 0 _
 ·obtain ⟨x1, x2, h1, h2, rfl⟩ := ZY hx
  obtain ⟨n1, hn1, rfl⟩ := yu h1
  obtain ⟨n2, hn2, rfl⟩ := yu h2
  have z1 := s1 n1 (List.mem_of_getElem? hn1)
  have z2 := s2 n2 (List.mem_of_getElem? hn2)
  refine Zn (Zm S (by walk_at "m") fun w1 w2 S => ?_)
  refine xi (zX (xi (zX (Yv ⟨rfl, ?_⟩))))
  walk_at "walk"
  rename_i r H2 e2 S2
  refine hd S2 ?_
  rw [yp (n := n1 + n2) (by rw [List.getElem?_zipWith, hn1, hn2])]
  exact .mem (by walk_at "mem")
 walk_at "walk"
 exact Zr (by assumption) k (by walk_at "m")
abbrev xW : Stmt := top 34
theorem zaF : FnScope ["ones", "twos"] ["ones", "twos"] (zi xW) := ⟨rfl, rfl, rfl, by decide +kernel, rfl, by decide +kernel, by decide +kernel⟩
theorem zaZ (B : Bl mg) (C_minus : Cal P w K mg base CX0 3 "minus" ["one", "two"] Wo) (F : Fun K "less_each" "less_each" xW f fd) : FnOk P w K mg base CX0 4 f fd ["ones", "twos"] (zax fun p q => p - q) := by
 refine F.ok zaF (fun vs H Q E h => ?_) (fun cdv A outer s H vs Q E hr h => ?_)
 ·obtain ⟨G, a, _, h, _⟩ := h
  rw [← h.len]; rfl
 obtain ⟨G, ⟨p, q⟩, eG, hA, ⟨s1, s2, hl⟩, k⟩ := h
 obtain ⟨v, w', rfl, al⟩ := Zq hA
 have S : Sta H G H [] _ := Sta.enter eG al
 dsimp only at s1 s2 hl k S
 refine ⟨_, (zk (zE (ZS ZG rfl B.tuple Yj (zd (yZ (N := ["one", "two"]) (n := 2) (fr := []) rfl ⟨rfl, by decide +kernel, rfl, by decide, rfl, rfl, rfl, rfl, rfl⟩ (WL false false rfl B.zip (zd (pv 0) (zd (pv 1) zh))) (fun _ _ _ _ => (Yy rfl (ym (zP (i := 0) (show (["one", "two"] : List Str).Nodup from by decide +kernel) rfl (by walk_at "o")) (ym (zP (i := 1) (show (["one", "two"] : List Str).Nodup from by decide +kernel) rfl (by walk_at "o")) ZD)))) (fun _ _ _ _ => yo) (fun _ _ _ _ => (zv C_minus hr (by walk_at "l") zK rfl (zd (pv 0) (zd (pv 1) zh))))) zh)))), zu ?_⟩
 walk_at "walk"
 refine UU (xs := p.map frD) (ys := q.map frD) S (by walk_at "m") (by walk_at "m") fun J wk => ?_
 refine ya wk (fun j => frD ((List.zipWith (fun p q => p - q) p q).getD j 0)) (ys := (List.zipWith (fun p q => p - q) p q).map frD) ?_ S (fun _ _ => ⟨.mem (by walk_at "mem"), fun _ _ h => h.tail, .mem (by walk_at "mem")⟩) (by rw [xq, List.length_map, List.length_map]; omega) (fun j x v B' G' Kd Kn hx t1 S hd C ex s0 H0 => ?_) fun D H1 e1 S1 => ?_
 ·rw [xq, List.length_map, List.length_map, show min p.length q.length = (List.zipWith (fun p q => p - q) p q).length by rw [List.length_zipWith]]
  exact zO frD 0 _
 ·obtain ⟨x1, x2, h1, h2, rfl⟩ := ZY hx
  obtain ⟨n1, hn1, rfl⟩ := yu h1
  obtain ⟨n2, hn2, rfl⟩ := yu h2
  have z1 := s1 n1 (List.mem_of_getElem? hn1)
  have z2 := s2 n2 (List.mem_of_getElem? hn2)
  refine Zn (Zm S (by walk_at "m") fun w1 w2 S => ?_)
  refine xi (zX (xi (zX (Yv ⟨rfl, ?_⟩))))
  walk_at "walk"
  rename_i r H2 e2 S2
  refine hd S2 ?_
  rw [yp (n := n1 - n2) (by rw [List.getElem?_zipWith, hn1, hn2])]
  exact .mem (by walk_at "mem")
 walk_at "walk"
 exact Zr (by assumption) k (by walk_at "m")
abbrev YI : Stmt := top 24
theorem zaC : FnScope ["path", "end"] ["path"] (zi YI) := ⟨rfl, rfl, rfl, by decide +kernel, rfl, by decide +kernel, by decide +kernel⟩
theorem zd7 (B : Bl mg) (C_minus : Cal P w K mg base CX0 3 "minus" ["one", "two"] Wo) (C_less_each : Cal P w K mg base CX0 4 "less_each" ["ones", "twos"] (zax fun p q => p - q)) (F : Fun K "turned" "turned" YI f fd) : FnOk P w K mg base CX0 5 f fd ["path"] WX := by
 refine F.ok zaC (fun vs H Q E h => ?_) (fun cdv A outer s H vs Q E hr h => ?_)
 ·obtain ⟨G, a, _, h, _⟩ := h
  rw [← h.len]; rfl
 obtain ⟨G, a, eG, hA, ok, k⟩ := h
 obtain ⟨v0, rfl, al⟩ := Ym hA
 have S : Sta H G H [] _ := Sta.enter eG al
 have few := ok.few
 obtain ⟨hlast, hmem⟩ := ok.last
 have zl := ok.sz _ hmem
 have zl1 := zl.1
 refine ⟨_, (zj (zV (i := 1) zaC.nd rfl (by walk_at "o") (zB zo (pv 0) (zhD zdi zg) (fun _ _ => rfl))) (zk (zE (yZ (N := ["corner", "end"]) (n := 1) (fr := [1]) rfl ⟨rfl, by decide +kernel, rfl, by decide, rfl, rfl, rfl, rfl, rfl⟩ (pi_rev rfl B.reversed (zd (pv 0) zh)) (fun _ _ _ _ => (zP (i := 0) (show (["corner", "end"] : List Str).Nodup from by decide +kernel) rfl (by walk_at "o"))) (fun _ _ _ _ => yo) (fun _ _ _ _ => (yj (zd (zv C_minus hr (by walk_at "l") zK rfl (zd (zB zo (pv 1) zg (fun _ _ => rfl)) (zd (zB zo (pv 0) zg (fun _ _ => rfl)) zh))) (zd (zv C_less_each hr (by walk_at "l") zK rfl (zd (zB zo (pv 1) zg (fun _ _ => rfl)) (zd (zB zo (pv 0) zg (fun _ _ => rfl)) zh))) zh)))))))), zu ?_⟩
 walk_at "walk"
 refine Xi (xs := a.map zW) (x := zW (lastC a)) S (by walk_at "m") (zcv (by rw [List.getLast?_map, hlast]; rfl)) fun ve S1 => ?_
 walk_at "walk"
 refine zhf (xs := a.map zW) S1 (by walk_at "m") fun J wk => ?_
 refine ya wk (fun j => zW (Xn (lastC a) (a.reverse.getD j (0, [])))) (ys := (yF a).map zW) ?_ S1 (fun _ _ => .mem (by walk_at "mem")) (by rw [List.length_reverse, List.length_map]; omega) (fun j x v B' G' Kd Kn hx t1 S hd C ex s0 H0 => ?_) fun D H2 e2 S2 => ?_
 ·unfold yF
  rw [List.map_map, List.length_reverse, List.length_map, ← List.length_reverse]
  exact zO (fun c => zW (Xn (lastC a) c)) (0, []) _
 ·rw [← List.map_reverse] at hx
  obtain ⟨c, hc, rfl⟩ := yu hx
  have cm : c ∈ a := List.mem_reverse.mp (List.mem_of_getElem? hc)
  have zc := ok.sz c cm
  have zc1 := zc.1
  refine zX ⟨rfl, ?_⟩
  walk_at "walk"
  refine zdQ (p := (lastC a).2) (q := c.2) (by assumption) (by walk_at "m") (by walk_at "m") zl.2 zc.2 (ok.len _ hmem) fun r H3 e3 S3 => ?_
  walk_at "walk"
  refine hd (by assumption) ?_
  rw [yp hc]
  exact .mem (by walk_at "mem")
 exact ZL S2 k
abbrev YK : Stmt := top 25
theorem zdB : FnScope ["path", "portion"] ["path", "portion"] (zi YK) := ⟨rfl, rfl, rfl, by decide +kernel, rfl, by decide +kernel, by decide +kernel⟩
theorem zd9 (B : Bl mg) (C_times : Cal P w K mg base CX0 3 "times" ["one", "two"] zbl) (F : Fun K "scaled" "scaled" YK f fd) : FnOk P w K mg base CX0 4 f fd ["path", "portion"] UD := by
 refine F.ok zdB (fun vs H Q E h => ?_) (fun cdv A outer s H vs Q E hr h => ?_)
 ·obtain ⟨G, a, _, h, _⟩ := h
  rw [← h.len]; rfl
 obtain ⟨G, ⟨a, p⟩, eG, hA, ⟨ok, zp⟩, k⟩ := h
 obtain ⟨v0, vp, rfl, al⟩ := Zq hA
 have S : Sta H G H [] _ := Sta.enter eG al
 dsimp only at ok zp k S
 have few := ok.few
 refine ⟨_, (zk (zE (yZ (N := ["corner", "portion"]) (n := 1) (fr := [1]) rfl ⟨rfl, by decide +kernel, rfl, by decide, rfl, rfl, rfl, rfl, rfl⟩ (yY (pv 0)) (fun _ _ _ _ => (zP (i := 0) (show (["corner", "portion"] : List Str).Nodup from by decide +kernel) rfl (by walk_at "o"))) (fun _ _ _ _ => yo) (fun _ _ _ _ => (yj (zd (zv C_times hr (by walk_at "l") zK rfl (zd (zB zo (pv 0) zg (fun _ _ => rfl)) (zd (pv 1) zh))) (zd (ZS ZG rfl B.tuple Yj (zd (yZ (N := ["part", "portion"]) (n := 1) (fr := [1]) rfl ⟨rfl, by decide +kernel, rfl, by decide, rfl, rfl, rfl, rfl, rfl⟩ (zd1 (zB zo (pv 0) zg (fun _ _ => rfl))) (fun _ _ _ _ => (zP (i := 0) (show (["part", "portion"] : List Str).Nodup from by decide +kernel) rfl (by walk_at "o"))) (fun _ _ _ _ => yo) (fun _ _ _ _ => (zv C_times hr (by walk_at "l") zK rfl (zd (pv 0) (zd (pv 1) zh))))) zh)) zh))))))), zu ?_⟩
 walk_at "walk"
 refine xp (xs := a.map zW) S (by walk_at "m") fun J wk => ?_
 refine ya wk (fun j => zW ((fun c : zm => (c.1 * p, c.2.map (· * p))) (a.getD j (0, [])))) (ys := (zI p a).map zW) ?_ S (fun _ _ => .mem (by walk_at "mem")) (by rw [List.length_map]; omega) (fun j x v B' G' Kd Kn hx t1 S hd C ex s0 H0 => ?_) fun D H2 e2 S2 => ?_
 ·unfold zI
  rw [List.map_map, List.length_map]
  exact zO (fun c => zW ((fun c : zm => (c.1 * p, c.2.map (· * p))) c)) (0, []) _
 ·obtain ⟨c, hc, rfl⟩ := yu hx
  have zc := ok.sz c (List.mem_of_getElem? hc)
  have zc1 := zc.1
  have lc := ok.len c (List.mem_of_getElem? hc)
  refine zX ⟨rfl, ?_⟩
  walk_at "walk"
  rename_i w1 S1 r1 H1 e1 S2 w2 S3
  refine zbt (xs := c.2.map frD) S3 (by walk_at "m") fun J2 wk2 => ?_
  refine ya wk2 (fun j => frD (c.2.getD j 0 * p)) (ys := (c.2.map (· * p)).map frD) (by rw [List.length_map, List.map_map]; exact zO (fun x => frD (x * p)) 0 c.2) S3 (fun _ _ => .mem (by walk_at "mem")) (by rw [List.length_map]; exact lc) (fun j x v B' G' Kd2 Kn2 hx2 t2 S hd2 C ex s0 H0 => ?_) fun D2 H4 e4 S4 => ?_
  ·obtain ⟨y, hy, rfl⟩ := yu hx2
   have zy := zc.2 y (List.mem_of_getElem? hy)
   refine zX ⟨rfl, ?_⟩
   walk_at "walk"
   rename_i r5 H5 e5 S5
   refine hd2 S5 ?_
   rw [yp hy]
   exact .mem (by walk_at "mem")
  walk_at "walk"
  refine hd (by assumption) ?_
  rw [yp hc]
  exact .mem (by walk_at "mem")
 exact ZL S2 k
abbrev YQ : Stmt := top 26
theorem Vt : FnScope ["path", "second", "end", "moved"] ["path", "second"] (zi YQ) := ⟨rfl, rfl, rfl, by decide +kernel, rfl, by decide +kernel, by decide +kernel⟩
theorem zei (B : Bl mg) (C_plus : Cal P w K mg base CX0 3 "plus" ["one", "two"] zb0) (C_plus_each : Cal P w K mg base CX0 4 "plus_each" ["ones", "twos"] (zax fun p q => p + q)) (C_thinned : Cal P w K mg base CX0 3 "thinned" ["corners"] Vh) (F : Fun K "behind" "behind" YQ f fd) : FnOk P w K mg base CX0 5 f fd ["path", "second"] UK := by
 refine F.ok Vt (fun vs H Q E h => ?_) (fun cdv A outer s H vs Q E hr h => ?_)
 ·obtain ⟨G, a, _, h, _⟩ := h
  rw [← h.len]; rfl
 obtain ⟨G, ⟨a, b⟩, eG, hA, ⟨ok, ok2, m, ok3⟩, k⟩ := h
 obtain ⟨v0, v1, rfl, al⟩ := Zq hA
 have S : Sta H G H [] _ := Sta.enter eG al
 dsimp only at ok ok2 ok3 k S
 have few := ok.few
 have few2 := ok2.few
 obtain ⟨hlast, hmem⟩ := ok.last
 have zl := ok.sz _ hmem
 have zl1 := zl.1
 refine ⟨_, (zj (zV (i := 2) Vt.nd rfl (by walk_at "o") (zB zo (pv 0) (zhD zdi zg) (fun _ _ => rfl))) (zj (Ze (i := 3) (N := ["corner", "end"]) (n := 1) (fr := [2]) Vt.nd rfl rfl rfl ⟨rfl, by decide +kernel, rfl, by decide, rfl, rfl, rfl, rfl, rfl⟩ (yY (zcb zdv (pv 1) (zbx zg) zhA)) (fun _ _ _ _ => (zP (i := 0) (show (["corner", "end"] : List Str).Nodup from by decide +kernel) rfl (by walk_at "o"))) (fun _ _ _ _ => yo) (fun _ _ _ _ => (yj (zd (zv C_plus hr (by walk_at "l") zK rfl (zd (zB zo (pv 1) zg (fun _ _ => rfl)) (zd (zB zo (pv 0) zg (fun _ _ => rfl)) zh))) (zd (zv C_plus_each hr (by walk_at "l") zK rfl (zd (zB zo (pv 1) zg (fun _ _ => rfl)) (zd (zB zo (pv 0) zg (fun _ _ => rfl)) zh))) zh))))) (zk (zE (zv C_thinned hr (by walk_at "l") zK rfl (zd (zC yx (pv 0) (pv 3)) zh)))))), zu ?_⟩
 walk_at "walk"
 refine Xi (xs := a.map zW) (x := zW (lastC a)) S (by walk_at "m") (zcv (by rw [List.getLast?_map, hlast]; rfl)) fun ve S1 => ?_
 walk_at "walk"
 refine rd_slL (xs := b.map zW) S1 (by walk_at "m") fun l2 H2 e2 S2 => ?_
 have ec : cutD (b.map zW) (some 1) none = b.tail.map zW := by
  unfold cutD
  rw [HT.sIx_none, show (some (1 : Int)) = some ((1 : Nat) : Int) from rfl, HT.sIx_nat, List.length_map]
  have hb : 1 ≤ b.length := List.length_pos_iff.mpr ok2.ne
  rw [Nat.min_eq_left hb, List.take_of_length_le (by rw [List.length_drop, List.length_map]; exact Nat.le_refl _), ← List.map_drop, List.drop_one]
 rw [ec] at S2
 refine zdN (xs := b.tail.map zW) S2 (by walk_at "mem") fun J wk => ?_
 refine ya wk (fun j => zW (XS (lastC a) (b.tail.getD j (0, [])))) (ys := (yN a b).map zW) ?_ S2 (fun _ _ => List.mem_cons_of_mem _ (by walk_at "mem")) (by rw [List.length_map, List.length_tail]; omega) (fun j x v B' G' Kd Kn hx t1 S hd C ex s0 H0 => ?_) fun D H3 e3 S3 => ?_
 ·unfold yN
  rw [List.map_map, List.length_map]
  exact zO (fun c => zW (XS (lastC a) c)) (0, []) _
 ·obtain ⟨c, hc, rfl⟩ := yu hx
  have cm : c ∈ b := List.mem_of_mem_tail (List.mem_of_getElem? hc)
  have zc := ok2.sz c cm
  have zc1 := zc.1
  refine zX ⟨rfl, ?_⟩
  walk_at "walk"
  refine zdQ (p := (lastC a).2) (q := c.2) (by assumption) (by walk_at "m") (by walk_at "m") zl.2 zc.2 (ok.len _ hmem) fun r H3 e3 S3 => ?_
  walk_at "walk"
  refine hd (by assumption) ?_
  rw [yp hc]
  exact .mem (by walk_at "mem")
 walk_at "walk"
 obtain ⟨pa, rfl⟩ := S3.refL (xs := a.map zW) (v := v0) (by walk_at "m")
 refine Vv S3 (S3.vwL (xs := a.map zW) (by walk_at "m")) (S3.vwC (by walk_at "mem")) (by
  rw [List.length_map, List.length_map]
  unfold yN
  rw [List.length_map, List.length_tail]; omega) fun p4 H4 e4 S4 => ?_
 rw [← List.map_append] at S4
 have S5 := S4.freeze
 walk_at "walk"
 refine zcG (a := a ++ yN a b) S5 (by walk_at "m") ok3 fun p6 H6 e6 S6 => ?_
 exact ZL (S6.weak (cs' := [_]) (by walk_at "sub") Dats.nil) k
section
variable {fS fT Ru : Addr} {A : RAd}
abbrev yX : Stmt := Zg (top 52) 0
theorem WP : FnScope ["self", "form"] ["self", "form"] (zi yX) := ⟨rfl, rfl, rfl, by decide +kernel, rfl, by decide +kernel, by decide +kernel⟩
theorem zfE (F : Fun K "__init__" "Rule.__init__" yX f fd) : FnOk P w K mg base CX0 1 f fd ["self", "form"] (Yp K fS fT Ru) := by
 refine F.ok WP (fun vs H Q E h => ?_) (fun cdv A outer s H vs Q E hr h => ?_)
 ·obtain ⟨C, ok, G, d, x, dx, us, rfl, _, _, _, hA, _⟩ := h
  rw [List.length_cons, ← hA.len]; rfl
 obtain ⟨C, ok, G, d, x, dx, us, rfl, eG, gx, hx, hA, k⟩ := h
 obtain ⟨v, rfl, al⟩ := Ym hA
 refine ⟨_, (zk (ps_fld (pv 0) (pv 1) rfl)), zu ?_⟩
 refine ⟨v, rfl, .ref x, rfl, x, C, dx, [], rfl, hx, ok.cl, ok.na, by decide, ?_⟩
 refine k _ G v (fun p o hp ho => by rw [ye hp]; exact ho) (yc.refl _) (fun p o hp => ?_) (fun _ _ => rfl) ?_ (al _ (List.mem_singleton.mpr rfl))
 ·rw [ye (yf hp gx)]; exact eG p o hp
 ·rw [yH]; rfl
abbrev xK : Stmt := Zg (top 52) 1
theorem UP : FnScope ["self"] ["self"] (zi xK) := ⟨rfl, rfl, rfl, by decide +kernel, rfl, by decide +kernel, by decide +kernel⟩
theorem zfC (okA : ∀ r : Rl, ROk K fS fT Ru (A.cls r)) (F : Fun K "shape" "Rule.shape" xK f fd) : FnOk P w K mg base CX0 1 f fd ["self"] (UC A) := by
 refine F.ok UP (fun vs H Q E h => ?_) (fun cdv A' outer s H vs Q E hr h => ?_)
 ·obtain ⟨G, r, _, h, _⟩ := h
  rw [← h.len]; rfl
 obtain ⟨G, r, eG, hA, _, k⟩ := h
 obtain ⟨v, rfl, al⟩ := Ym hA
 have S : Sta H G H [] _ := Sta.enter eG al
 refine ⟨_, (zk (zE (zgs (pv 0) rfl))), zu ?_⟩
 refine zgm (zgp ?_)
 walk_at "walk"
 refine zdO S (by walk_at "m") (okA r) fun w S1 => ?_
 exact Zr S1 k (by walk_at "m")
abbrev yB : Stmt := Zg (top 53) 0
theorem XD : FnScope ["self"] ["self"] (zi yB) := ⟨rfl, rfl, rfl, by decide +kernel, rfl, by decide +kernel, by decide +kernel⟩
theorem VW (g_Rule : mg "Rule" = some (.ref Ru)) (s_Rule : PySem.W.specialIn K (.ref Ru) "__getattribute__" = some (some (.builtin "type.__getattribute__"))) (r_Rule : PySem.W.readsIn K Ru (.type "type") = true) {fI : Addr} {fdI : FuncData} (f_Rule_init : PySem.W.findCls K (.ref Ru) (.type "type") "__init__" = some (.val (.ref fI))) (F_Rule_init : FnOk P w K mg base CX0 1 fI fdI ["self", "form"] (Yp K fS fT Ru)) (k_Rule_init : PySem.W.keepIn K (.ref fI) = true) (b_Rule_init : xU K fdI ["self", "form"] []) (ok : ROk K fS fT Ru (A.cls .shares)) (F : Fun K "__init__" "Shares.__init__" yB f fd) : FnOk P w K mg base CX0 2 f fd ["self"] (xF (A.cls .shares) (α := Unit) (fun _ => []) (fun _ => Rl.shares.shape)) := by
 refine F.ok XD (fun vs H Q E h => ?_) (fun cdv A outer s H vs Q E hr h => ?_)
 ·obtain ⟨G, d, x, dx, us, rfl, _, _, _, hA, _⟩ := h
  rw [List.length_cons, ← hA.len]; rfl
 obtain ⟨G, d, x, dx, us, rfl, eG, gx, hx, hA, k⟩ := h
 rw [zM] at hA
 subst hA
 have S : Sta H G H [] [] := Sta.enter eG fun p hp => absurd hp List.not_mem_nil
 refine ⟨_, (zk (Yx (YW rfl g_Rule s_Rule r_Rule f_Rule_init (F_Rule_init.mono (by walk_at "l")) hr k_Rule_init b_Rule_init zK (zd (pv 0) (zd (yj (zd yh zh)) zh))))), zu ?_⟩
 walk_at "walk"
 refine YS (d := Rl.shares.shape) (by assumption) gx hx ok (by walk_at "m") fun H' G' w h1 h2 h3 h4 h5 h6 => ?_
 exact k H' G' w h1 h2 h3 h4 h5 h6
abbrev yE : Stmt := Zg (top 54) 0
theorem XG : FnScope ["self"] ["self"] (zi yE) := ⟨rfl, rfl, rfl, by decide +kernel, rfl, by decide +kernel, by decide +kernel⟩
theorem VZ (g_Rule : mg "Rule" = some (.ref Ru)) (s_Rule : PySem.W.specialIn K (.ref Ru) "__getattribute__" = some (some (.builtin "type.__getattribute__"))) (r_Rule : PySem.W.readsIn K Ru (.type "type") = true) {fI : Addr} {fdI : FuncData} (f_Rule_init : PySem.W.findCls K (.ref Ru) (.type "type") "__init__" = some (.val (.ref fI))) (F_Rule_init : FnOk P w K mg base CX0 1 fI fdI ["self", "form"] (Yp K fS fT Ru)) (k_Rule_init : PySem.W.keepIn K (.ref fI) = true) (b_Rule_init : xU K fdI ["self", "form"] []) (ok : ROk K fS fT Ru (A.cls .evenly)) (F : Fun K "__init__" "Evenly.__init__" yE f fd) : FnOk P w K mg base CX0 2 f fd ["self"] (xF (A.cls .evenly) (α := Unit) (fun _ => []) (fun _ => Rl.evenly.shape)) := by
 refine F.ok XG (fun vs H Q E h => ?_) (fun cdv A outer s H vs Q E hr h => ?_)
 ·obtain ⟨G, d, x, dx, us, rfl, _, _, _, hA, _⟩ := h
  rw [List.length_cons, ← hA.len]; rfl
 obtain ⟨G, d, x, dx, us, rfl, eG, gx, hx, hA, k⟩ := h
 rw [zM] at hA
 subst hA
 have S : Sta H G H [] [] := Sta.enter eG fun p hp => absurd hp List.not_mem_nil
 refine ⟨_, (zk (Yx (YW rfl g_Rule s_Rule r_Rule f_Rule_init (F_Rule_init.mono (by walk_at "l")) hr k_Rule_init b_Rule_init zK (zd (pv 0) (zd (yj (zd yh zh)) zh))))), zu ?_⟩
 walk_at "walk"
 refine YS (d := Rl.evenly.shape) (by assumption) gx hx ok (by walk_at "m") fun H' G' w h1 h2 h3 h4 h5 h6 => ?_
 exact k H' G' w h1 h2 h3 h4 h5 h6
abbrev yC : Stmt := Zg (top 55) 0
theorem XE : FnScope ["self"] ["self"] (zi yC) := ⟨rfl, rfl, rfl, by decide +kernel, rfl, by decide +kernel, by decide +kernel⟩
theorem VX (g_Rule : mg "Rule" = some (.ref Ru)) (s_Rule : PySem.W.specialIn K (.ref Ru) "__getattribute__" = some (some (.builtin "type.__getattribute__"))) (r_Rule : PySem.W.readsIn K Ru (.type "type") = true) {fI : Addr} {fdI : FuncData} (f_Rule_init : PySem.W.findCls K (.ref Ru) (.type "type") "__init__" = some (.val (.ref fI))) (F_Rule_init : FnOk P w K mg base CX0 1 fI fdI ["self", "form"] (Yp K fS fT Ru)) (k_Rule_init : PySem.W.keepIn K (.ref fI) = true) (b_Rule_init : xU K fdI ["self", "form"] []) (ok : ROk K fS fT Ru (A.cls .losses)) (F : Fun K "__init__" "Losses.__init__" yC f fd) : FnOk P w K mg base CX0 2 f fd ["self"] (xF (A.cls .losses) (α := Unit) (fun _ => []) (fun _ => Rl.losses.shape)) := by
 refine F.ok XE (fun vs H Q E h => ?_) (fun cdv A outer s H vs Q E hr h => ?_)
 ·obtain ⟨G, d, x, dx, us, rfl, _, _, _, hA, _⟩ := h
  rw [List.length_cons, ← hA.len]; rfl
 obtain ⟨G, d, x, dx, us, rfl, eG, gx, hx, hA, k⟩ := h
 rw [zM] at hA
 subst hA
 have S : Sta H G H [] [] := Sta.enter eG fun p hp => absurd hp List.not_mem_nil
 refine ⟨_, (zk (Yx (YW rfl g_Rule s_Rule r_Rule f_Rule_init (F_Rule_init.mono (by walk_at "l")) hr k_Rule_init b_Rule_init zK (zd (pv 0) (zd (yj (zd yh zh)) zh))))), zu ?_⟩
 walk_at "walk"
 refine YS (d := Rl.losses.shape) (by assumption) gx hx ok (by walk_at "m") fun H' G' w h1 h2 h3 h4 h5 h6 => ?_
 exact k H' G' w h1 h2 h3 h4 h5 h6
abbrev yD : Stmt := Zg (top 56) 0
theorem XF : FnScope ["self"] ["self"] (zi yD) := ⟨rfl, rfl, rfl, by decide +kernel, rfl, by decide +kernel, by decide +kernel⟩
theorem VY (g_Rule : mg "Rule" = some (.ref Ru)) (s_Rule : PySem.W.specialIn K (.ref Ru) "__getattribute__" = some (some (.builtin "type.__getattribute__"))) (r_Rule : PySem.W.readsIn K Ru (.type "type") = true) {fI : Addr} {fdI : FuncData} (f_Rule_init : PySem.W.findCls K (.ref Ru) (.type "type") "__init__" = some (.val (.ref fI))) (F_Rule_init : FnOk P w K mg base CX0 1 fI fdI ["self", "form"] (Yp K fS fT Ru)) (k_Rule_init : PySem.W.keepIn K (.ref fI) = true) (b_Rule_init : xU K fdI ["self", "form"] []) (ok : ROk K fS fT Ru (A.cls .halves)) (F : Fun K "__init__" "Halves.__init__" yD f fd) : FnOk P w K mg base CX0 2 f fd ["self"] (xF (A.cls .halves) (α := Unit) (fun _ => []) (fun _ => Rl.halves.shape)) := by
 refine F.ok XF (fun vs H Q E h => ?_) (fun cdv A outer s H vs Q E hr h => ?_)
 ·obtain ⟨G, d, x, dx, us, rfl, _, _, _, hA, _⟩ := h
  rw [List.length_cons, ← hA.len]; rfl
 obtain ⟨G, d, x, dx, us, rfl, eG, gx, hx, hA, k⟩ := h
 rw [zM] at hA
 subst hA
 have S : Sta H G H [] [] := Sta.enter eG fun p hp => absurd hp List.not_mem_nil
 refine ⟨_, (zk (Yx (YW rfl g_Rule s_Rule r_Rule f_Rule_init (F_Rule_init.mono (by walk_at "l")) hr k_Rule_init b_Rule_init zK (zd (pv 0) (zd (yj (zd yh zh)) zh))))), zu ?_⟩
 walk_at "walk"
 refine YS (d := Rl.halves.shape) (by assumption) gx hx ok (by walk_at "m") fun H' G' w h1 h2 h3 h4 h5 h6 => ?_
 exact k H' G' w h1 h2 h3 h4 h5 h6
abbrev yK : Stmt := Zg (top 57) 0
theorem Wq : FnScope ["self", "inner"] ["self", "inner"] (zi yK) := ⟨rfl, rfl, rfl, by decide +kernel, rfl, by decide +kernel, by decide +kernel⟩
theorem UZ (g_Rule : mg "Rule" = some (.ref Ru)) (s_Rule : PySem.W.specialIn K (.ref Ru) "__getattribute__" = some (some (.builtin "type.__getattribute__"))) (r_Rule : PySem.W.readsIn K Ru (.type "type") = true) {fI : Addr} {fdI : FuncData} (f_Rule_init : PySem.W.findCls K (.ref Ru) (.type "type") "__init__" = some (.val (.ref fI))) (F_Rule_init : FnOk P w K mg base CX0 1 fI fdI ["self", "form"] (Yp K fS fT Ru)) (k_Rule_init : PySem.W.keepIn K (.ref fI) = true) (b_Rule_init : xU K fdI ["self", "form"] []) {fdS : FuncData} (F_Rule_shape : FnOk P w K mg base CX0 1 fS fdS ["self"] (UC A)) (b_Rule_shape : xU K fdS ["self"] []) (okA : ∀ r : Rl, ROk K fS fT Ru (A.cls r)) (F : Fun K "__init__" "Other.__init__" yK f fd) : FnOk P w K mg base CX0 2 f fd ["self", "inner"] (xF (A.cls (.other .shares)) (α := Rl) (fun r => [r.ins A]) (fun r => (Rl.other r).shape)) := by
 refine F.ok Wq (fun vs H Q E h => ?_) (fun cdv A' outer s H vs Q E hr h => ?_)
 ·obtain ⟨G, d, x, dx, us, rfl, _, _, _, hA, _⟩ := h
  rw [List.length_cons, ← hA.len]; rfl
 obtain ⟨G, r, x, dx, us, rfl, eG, gx, hx, hA, k⟩ := h
 obtain ⟨v, rfl, al⟩ := Ym hA
 have S : Sta H G H [] _ := Sta.enter eG al
 refine ⟨_, (zk (Yx (YW rfl g_Rule s_Rule r_Rule f_Rule_init (F_Rule_init.mono (by walk_at "l")) hr k_Rule_init b_Rule_init zK (zd (pv 0) (zd (yj (zd yh (zd (UW (pv 1) (F_Rule_shape.mono (by walk_at "l")) hr b_Rule_shape zK) zh))) zh))))), zu ?_⟩
 walk_at "walk"
 refine zdM S (by walk_at "m") (okA r) ?_
 refine UT S (by walk_at "m") fun w1 H1 e1 S1 => ?_
 walk_at "walk"
 refine YS (d := (Rl.other r).shape) (by assumption) gx hx (okA (.other .shares)) (by walk_at "m") fun H' G' w h1 h2 h3 h4 h5 h6 => ?_
 exact k H' G' w h1 h2 h3 h4 h5 h6
abbrev xB : Stmt := Zg (top 58) 0
abbrev xz : Stmt := Zg (top 59) 0
abbrev yW : Stmt := Zg (top 60) 0
theorem WO : FnScope ["self", "portion", "first", "last"] ["self", "portion", "first", "last"] (zi yW) := ⟨rfl, rfl, rfl, by decide +kernel, rfl, by decide +kernel, by decide +kernel⟩
theorem za0 (g_Rule : mg "Rule" = some (.ref Ru)) (s_Rule : PySem.W.specialIn K (.ref Ru) "__getattribute__" = some (some (.builtin "type.__getattribute__"))) (r_Rule : PySem.W.readsIn K Ru (.type "type") = true) {fI : Addr} {fdI : FuncData} (f_Rule_init : PySem.W.findCls K (.ref Ru) (.type "type") "__init__" = some (.val (.ref fI))) (F_Rule_init : FnOk P w K mg base CX0 1 fI fdI ["self", "form"] (Yp K fS fT Ru)) (k_Rule_init : PySem.W.keepIn K (.ref fI) = true) (b_Rule_init : xU K fdI ["self", "form"] []) {fdS : FuncData} (F_Rule_shape : FnOk P w K mg base CX0 1 fS fdS ["self"] (UC A)) (b_Rule_shape : xU K fdS ["self"] []) (okA : ∀ r : Rl, ROk K fS fT Ru (A.cls r)) (F : Fun K "__init__" "Upto.__init__" yW f fd) : FnOk P w K mg base CX0 2 f fd ["self", "portion", "first", "last"] (xF (A.cls (.upto 0 0 .shares .shares)) (α := (Int × Int) × Rl × Rl) (fun r => [.tuple [.int r.1.1, .int r.1.2], r.2.1.ins A, r.2.2.ins A]) (fun r => (Rl.upto r.1.1 r.1.2 r.2.1 r.2.2).shape)) := by
 refine F.ok WO (fun vs H Q E h => ?_) (fun cdv A' outer s H vs Q E hr h => ?_)
 ·obtain ⟨G, d, x, dx, us, rfl, _, _, _, hA, _⟩ := h
  rw [List.length_cons, ← hA.len]; rfl
 obtain ⟨G, ⟨⟨t, b⟩, r, r2⟩, x, dx, us, rfl, eG, gx, hx, hA, k⟩ := h
 obtain ⟨v0, v, v2, rfl, al⟩ := XY hA
 have S : Sta H G H [] _ := Sta.enter eG al
 dsimp only at k S
 refine ⟨_, (zk (Yx (YW rfl g_Rule s_Rule r_Rule f_Rule_init (F_Rule_init.mono (by walk_at "l")) hr k_Rule_init b_Rule_init zK (zd (pv 0) (zd (yj (zd yh (zd (pv 1) (zd (UW (pv 2) (F_Rule_shape.mono (by walk_at "l")) hr b_Rule_shape zK) (zd (UW (pv 3) (F_Rule_shape.mono (by walk_at "l")) hr b_Rule_shape zK) zh))))) zh))))), zu ?_⟩
 walk_at "walk"
 refine zdM S (by walk_at "m") (okA r) ?_
 refine UT S (by walk_at "m") fun w1 H1 e1 S1 => ?_
 walk_at "walk"
 refine zdM S1 (by walk_at "m") (okA r2) ?_
 refine UT S1 (by walk_at "m") fun w2 H2 e2 S2 => ?_
 walk_at "walk"
 refine YS (d := (Rl.upto t b r r2).shape) (by assumption) gx hx (okA (.upto 0 0 .shares .shares)) (by walk_at "m") fun H' G' w h1 h2 h3 h4 h5 h6 => ?_
 exact k H' G' w h1 h2 h3 h4 h5 h6
end
abbrev Yb : Stmt := Zg (top 52) 2
local macro_rules | `(tactic| walk_at "rd") => `(tactic| first
 | ((with_reducible refine' iteSY ?c ?k); (case c => exact rfl))
 | ((with_reducible refine' iteSN ?c ?k); (case c => decide +kernel))
 | with_reducible refine' zfj ?_ | with_reducible refine' zb8 ?_)
section
variable {A : RAd}
abbrev xn : Stmt := top 8
theorem Yt : FnScope ["claims", "claim"] ["claims"] (zi xn) := ⟨rfl, rfl, rfl, by decide +kernel, rfl, by decide +kernel, by decide +kernel⟩
theorem zfM (B : Bl mg) (g_MOST : mg "MOST" = some (.int 8 tM)) (F : Fun K "check_claims" "check_claims" xn f fd) : FnOk P w K mg base CX0 1 f fd ["claims"] zbq := by
 refine F.ok Yt (fun vs H Q E h => ?_) (fun cdv A outer s H vs Q E hr h => ?_)
 ·obtain ⟨l, h, _⟩ := h
  rw [← h.len]; rfl
 obtain ⟨l, hA, ok, k⟩ := h
 obtain ⟨v, rfl, al⟩ := Ym hA
 have S : Sta H H H [] [(yg l, v)] := Sta.enter (yc.refl _) al
 have pos := ok.pos
 have few := ok.few
 refine ⟨_, (zj (yr (PW.pt (VV (zJ (yd (zH hr)) (zR xu rfl B.len YE (zd (pv 0) zh)) zg (zN _)) (Uq (zJ zcL (zR xu rfl B.len YE (zd (pv 0) zh)) (zd5 (v := .int 8) rfl g_MOST ⟨_, rfl⟩) (zN _))))) (zk Zh) zL) (zk (Vx PassesOwn.never rfl (yY (pv 0)) (zP (i := 1) Yt.nd rfl (by walk_at "o")) (zk (yr (zJ zaX (zR (zeQ rfl) rfl B.min zeT (zd (pv 1) zh)) zg (zN _)) (zk Zh) zL))))), zu ?_⟩
 walk_at "walk"
 refine Yo (fun c => absurd c (by rw [List.length_map]; omega)) (fun _ => ?_)
 walk_at "walk"
 refine Yo (fun c => absurd c (by rw [List.length_map]; omega)) (fun _ => ?_)
 walk_at "walk"
 refine xp (xs := l.map yn) S (by walk_at "m") fun J wk => ?_
 refine VN wk (fun i σ cs ds => (∃ x, σ = [some v, x]) ∧ cs = [] ∧ ds = [(yg l, v)]) S ⟨⟨none, rfl⟩, rfl, rfl⟩ (fun i σ cs ds h => ?_) ?_ ?_
 ·obtain ⟨_, rfl, rfl⟩ := h
  exact .mem (by walk_at "mem")
 ·rintro i x u σ H2 cs ds hx ⟨⟨x1, rfl⟩, rfl, rfl⟩ S2
  obtain ⟨c, hc, rfl⟩ := yu hx
  have nn := ok.nn c (List.mem_of_getElem? hc)
  walk_at "walk"
  refine zg7 (ns := [c.1, c.2.1, c.2.2]) S2 (by walk_at "m") (Nat.zero_lt_succ _) fun m hm _ => ?_
  have m0 : ¬ m < 0 := by
   simp only [List.mem_cons, List.not_mem_nil, or_false] at hm
   rcases hm with rfl | rfl | rfl <;> omega
  walk_at "walk"
  refine Yo (fun c => absurd c m0) (fun _ => ?_)
  walk_at "walk"
  exact zbu (S2.dat (by walk_at "dats")) ⟨⟨_, rfl⟩, rfl, rfl⟩
 ·rintro σ H2 cs ds ⟨⟨x1, rfl⟩, rfl, rfl⟩ S2
  exact k _ S2.base
abbrev xl : Stmt := top 48
theorem Vo : FnScope ["parts"] ["parts"] (zi xl) := ⟨rfl, rfl, rfl, by decide +kernel, rfl, by decide +kernel, by decide +kernel⟩
theorem ok_wc (B : Bl mg) (F : Fun K "whole_corner" "whole_corner" xl f fd) : FnOk P w K mg base CX0 1 f fd ["parts"] spWC := by
 refine F.ok Vo (fun vs H Q E h => ?_) (fun cdv A outer s H vs Q E hr h => ?_)
 ·obtain ⟨G, a, _, h, _⟩ := h
  rw [← h.len]; rfl
 obtain ⟨G, l, eG, hA, ok, k⟩ := h
 obtain ⟨v, rfl, al⟩ := Ym hA
 have S : Sta H G H [] _ := Sta.enter eG al
 refine ⟨_, (zk (zE (yj (zd (yj (zd (zR (xQ rfl) rfl B.sum Wb (zd (pv 0) zh)) (zd zg zh))) (zd (ZS ZG rfl B.tuple Yj (zd (yZ (N := ["part"]) (n := 1) (fr := []) rfl ⟨rfl, by decide +kernel, rfl, by decide, rfl, rfl, rfl, rfl, rfl⟩ (yY (pv 0)) (fun _ _ _ _ => (zP (i := 0) (show (["part"] : List Str).Nodup from by decide +kernel) rfl (by walk_at "o"))) (fun _ _ _ _ => yo) (fun _ _ _ _ => (yj (zd (pv 0) (zd zg zh))))) zh)) zh))))), zu ?_⟩
 walk_at "walk"
 rename_i p1 H1 e1 S1
 refine xp (xs := l.map PyData.int) S1 (by walk_at "m") fun J wk => ?_
 refine ya wk (fun j => frD ((l.getD j 0 : Int) : Rat)) (ys := (zZ l).2.map frD) (by unfold zZ; rw [List.length_map, List.map_map]; exact zO (fun x : Int => frD ((x : Int) : Rat)) 0 l) S1 (fun _ _ => .mem (by walk_at "mem")) (by rw [List.length_map]; omega) (fun j x v B' G' Kd Kn hx t1 S hd C ex s0 H0 => ?_) fun D H2 e2 S2 => ?_
 ·obtain ⟨y, hy, rfl⟩ := yu hx
  cases S.int1
  refine zX ⟨rfl, ?_⟩
  walk_at "walk"
  refine hd (by assumption) ?_
  rw [yp hy]
  exact .mem (by walk_at "mem")
 walk_at "walk"
 exact Zr (by assumption) k (by walk_at "m")
abbrev ZP : Stmt := top 47
theorem zcC : FnScope ["count"] ["count"] (zi ZP) := ⟨rfl, rfl, rfl, by decide +kernel, rfl, by decide +kernel, by decide +kernel⟩
theorem zcP (C_whole_corner : Cal P w K mg base CX0 1 "whole_corner" ["parts"] spWC) (F : Fun K "nothing" "nothing" ZP f fd) : FnOk P w K mg base CX0 2 f fd ["count"] Vk := by
 refine F.ok zcC (fun vs H Q E h => ?_) (fun cdv A outer s H vs Q E hr h => ?_)
 ·obtain ⟨G, a, _, h, _⟩ := h
  rw [← h.len]; rfl
 obtain ⟨G, n, eG, hA, ok, k⟩ := h
 cases (xf (ns := [(n : Int)]) hA)
 have S : Sta H G H [] [] := Sta.enter eG fun p hp => absurd hp List.not_mem_nil
 refine ⟨_, (zk (zE (ZR (zd (zv C_whole_corner hr (by walk_at "l") zK rfl (zd (zC op_rep (ZR (zd zg zh)) (pv 0)) zh)) zh)))), zu ?_⟩
 walk_at "walk"
 rename_i p1 H1 e1 S1
 refine zg0 S1 (by walk_at "mem") (by omega) fun l2 H2 e2 S2 => ?_
 have S3 : Sta H G H2 [] [(.list ((ZB n).map PyData.int), .ref l2)] := S2.freeze.weak (by walk_at "sub") (by walk_at "dats")
 refine zgV S3 (by walk_at "m") (by rw [Xs]; exact ok) fun w4 H4 e4 S4 => ?_
 walk_at "walk"
 exact ZL (by assumption) k
abbrev YJ : Stmt := top 41
theorem zaD : FnScope ["claims", "amounts"] ["claims"] (zi YJ) := ⟨rfl, rfl, rfl, by decide +kernel, rfl, by decide +kernel, by decide +kernel⟩
theorem zd8 (B : Bl mg) (C_nothing : Cal P w K mg base CX0 2 "nothing" ["count"] Vk) (C_whole_corner : Cal P w K mg base CX0 1 "whole_corner" ["parts"] spWC) (F : Fun K "shares" "shares" YJ f fd) : FnOk P w K mg base CX0 3 f fd ["claims"] (WH 0) := by
 refine F.ok zaD (fun vs H Q E h => ?_) (fun cdv A outer s H vs Q E hr h => ?_)
 ·obtain ⟨G, a, _, h, _⟩ := h
  rw [← h.len]; rfl
 obtain ⟨G, l, eG, hA, ok, k⟩ := h
 obtain ⟨v, rfl, al⟩ := Ym hA
 have S : Sta H G H [] _ := Sta.enter eG al
 have few := ok.few
 refine ⟨_, (zj (Ze (i := 1) (N := ["claim"]) (n := 1) (fr := []) zaD.nd rfl rfl rfl ⟨rfl, by decide +kernel, rfl, by decide, rfl, rfl, rfl, rfl, rfl⟩ (yY (pv 0)) (fun _ _ _ _ => (zP (i := 0) (show (["claim"] : List Str).Nodup from by decide +kernel) rfl (by walk_at "o"))) (fun _ _ _ _ => yo) (fun _ _ _ _ => (zB zo (pv 0) zg (fun _ _ => rfl)))) (zj (yr (zJ (yd (zH hr)) (zR (xQ rfl) rfl B.sum Wb (zd (pv 1) zh)) zg (zN _)) (zk (zE (zv C_nothing hr (by walk_at "l") zK rfl (zd (zR xu rfl B.len YE (zd (pv 1) zh)) zh)))) zL) (zk (zE (zC yx (zv C_nothing hr (by walk_at "l") zK rfl (zd (zR xu rfl B.len YE (zd (pv 1) zh)) zh)) (ZR (zd (zv C_whole_corner hr (by walk_at "l") zK rfl (zd (pv 1) zh)) zh))))))), zu ?_⟩
 walk_at "walk"
 refine xp (xs := l.map yn) S (by walk_at "m") fun J wk => ?_
 refine ya wk (fun j => .int (l.getD j (0, 0, 0)).1) (ys := (amV l).map PyData.int) (by unfold amV; rw [List.length_map, List.map_map]; exact zO (fun c : Cl => PyData.int c.1) (0, 0, 0) l) S (fun _ _ => .mem (by walk_at "mem")) (by rw [List.length_map]; omega) (fun j x v B' G' Kd Kn hx t1 S hd C ex s0 H0 => ?_) fun D H1 e1 S1 => ?_
 ·obtain ⟨c, hc, rfl⟩ := yu hx
  refine zX ⟨rfl, ?_⟩
  walk_at "walk"
  refine hd (by assumption) ?_
  rw [yp hc]
  exact Has.int
 have S2 : Sta H G H1 [] [(.list ((amV l).map PyData.int), .ref D)] := S1.freeze.weak (by walk_at "sub") (by walk_at "dats")
 clear S1
 have l8 : (amV l).length ≤ 8 := by rw [yk]; omega
 dsimp only at k
 unfold flV at k
 have ek : zh0 (amV l) (lvV (amV l)) 0 = shP (amV l) := rfl
 rw [ek] at k
 generalize amV l = as at *
 unfold shP at k
 walk_at "walk"
 refine Yo (fun c => ?_) (fun c => ?_)
 ·rw [if_pos c] at k
  walk_at "walk"
  rw [List.length_map]
  refine Uo S2 l8 fun p3 H3 e3 S3 => ?_
  exact ZL S3 k
 ·rw [if_neg c] at k
  walk_at "walk"
  rw [List.length_map]
  refine Uo S2 l8 fun p3 H3 e3 S3 => ?_
  walk_at "walk"
  refine zgV S3 (by walk_at "m") l8 fun w4 H4 e4 S4 => ?_
  walk_at "walk"
  rename_i p5 H5 e5 S5
  refine Vv S5 (S5.vwC (by walk_at "mem")) (S5.vwC (by walk_at "mem")) (by show 1 + 1 ≤ 1000; decide) fun p6 H6 e6 S6 => ?_
  exact ZL S6 k
abbrev YN : Stmt := top 42
theorem zaH : FnScope ["claims", "amounts"] ["claims"] (zi YN) := ⟨rfl, rfl, rfl, by decide +kernel, rfl, by decide +kernel, by decide +kernel⟩
theorem zeg (B : Bl mg) (B2 : Bl3 mg) (C_whole_corner : Cal P w K mg base CX0 1 "whole_corner" ["parts"] spWC) (F : Fun K "evenly" "evenly" YN f fd) : FnOk P w K mg base CX0 2 f fd ["claims"] (WH 1) := by
 refine F.ok zaH (fun vs H Q E h => ?_) (fun cdv A outer s H vs Q E hr h => ?_)
 ·obtain ⟨G, a, _, h, _⟩ := h
  rw [← h.len]; rfl
 obtain ⟨G, l, eG, hA, ok, k⟩ := h
 obtain ⟨v, rfl, al⟩ := Ym hA
 have S : Sta H G H [] _ := Sta.enter eG al
 have few := ok.few
 refine ⟨_, (zj (zV (i := 1) zaH.nd rfl (by walk_at "o") (yZ (N := ["claim"]) (n := 1) (fr := []) rfl ⟨rfl, by decide +kernel, rfl, by decide, rfl, rfl, rfl, rfl, rfl⟩ (yY (pv 0)) (fun _ _ _ _ => (zP (i := 0) (show (["claim"] : List Str).Nodup from by decide +kernel) rfl (by walk_at "o"))) (fun _ _ _ _ => yo) (fun _ _ _ _ => (zB zo (pv 0) zg (fun _ _ => rfl))))) (zk (zE (zfz (N := ["level", "amounts"]) (n := 1) (fr := [1]) (y := "level") rfl ⟨rfl, by decide +kernel, rfl, by decide, rfl, rfl, fun _ _ => rfl, fun _ => rfl, rfl, rfl, rfl, rfl⟩ (yY (zfy rfl rfl B2.sorted rfl B2.set (zC yx (ZR (zd zg zh)) (pv 1)))) (fun _ _ _ _ => (zP (i := 0) (show (["level", "amounts"] : List Str).Nodup from by decide +kernel) rfl (by walk_at "o"))) (fun _ _ _ _ => yo) (fun _ _ _ _ => (zv C_whole_corner hr (by walk_at "l") zK rfl (zd (yZ (N := ["amount", "level"]) (n := 1) (fr := [0]) rfl ⟨rfl, by decide +kernel, rfl, by decide, rfl, rfl, rfl, rfl, rfl⟩ (yY (pv 1)) (fun _ _ _ _ => (zP (i := 0) (show (["amount", "level"] : List Str).Nodup from by decide +kernel) rfl (by walk_at "o"))) (fun _ _ _ _ => yo) (fun _ _ _ _ => (zR (za6 rfl) rfl B.min zeT (zd (pv 0) (zd (pv 1) zh))))) zh))))))), zu ?_⟩
 walk_at "walk"
 refine xp (xs := l.map yn) S (by walk_at "m") fun J wk => ?_
 refine ya wk (fun j => .int (l.getD j (0, 0, 0)).1) (ys := (amV l).map PyData.int) (by unfold amV; rw [List.length_map, List.map_map]; exact zO (fun c : Cl => PyData.int c.1) (0, 0, 0) l) S (fun _ _ => .mem (by walk_at "mem")) (by rw [List.length_map]; omega) (fun j x v B' G' Kd Kn hx t1 S hd C ex s0 H0 => ?_) fun D H1 e1 S1 => ?_
 ·obtain ⟨c, hc, rfl⟩ := yu hx
  refine zX ⟨rfl, ?_⟩
  walk_at "walk"
  refine hd (by assumption) ?_
  rw [yp hc]
  exact Has.int
 have S2 : Sta H G H1 [] [(.list ((amV l).map PyData.int), .ref D)] := S1.freeze.weak (by walk_at "sub") (by walk_at "dats")
 clear S1
 have l8 : (amV l).length ≤ 8 := by rw [yk]; omega
 have L := ok.lv
 have Lf := L.few
 dsimp only at k
 unfold flV at k
 have ek : zh0 (amV l) (lvV (amV l)) 1 = evP (amV l) (lvV (amV l)) := rfl
 rw [ek] at k
 generalize amV l = as at *
 walk_at "walk"
 rename_i p3 H3 e3 S3
 refine Vv S3 (S3.vwC (by walk_at "mem")) (S3.vwL (by walk_at "m")) (by rw [List.length_map]; show 1 + _ ≤ 1000; omega) fun p4 H4 e4 S4 => ?_
 rw [show [PyData.int 0] ++ as.map PyData.int = (0 :: as).map PyData.int from rfl] at S4
 refine zdL S4 (by walk_at "mem") (by rw [List.length_cons]; omega) fun os l5 H5 h1 h2 e5 S5 => ?_
 cases lvV_eq h1 h2
 generalize lvV as = ls at *
 refine zdN (xs := ls.map PyData.int) S5 (by walk_at "mem") fun J2 wk2 => ?_
 refine ya wk2 (fun j => zW (zZ (Wx as (ls.getD j 0)))) (ys := (evP as ls).map zW) (by unfold evP; rw [List.length_map, List.map_map]; exact zO (fun z : Int => zW (zZ (Wx as z))) 0 ls) S5 (fun _ _ => List.mem_cons_of_mem _ (by walk_at "mem")) (by rw [List.length_map]; omega) (fun j x v B' G' Kd Kn hx t1 S hd C ex s0 H0 => ?_) fun D6 H6 e6 S6 => ?_
 ·obtain ⟨z, hz, rfl⟩ := yu hx
  cases S.int1
  refine zX ⟨rfl, ?_⟩
  walk_at "walk"
  refine xp (xs := as.map PyData.int) S (by walk_at "m") fun J3 wk3 => ?_
  refine ya wk3 (fun i => .int (min (as.getD i 0) z)) (ys := (Wx as z).map PyData.int) (by unfold Wx; rw [List.length_map, List.map_map]; exact zO (fun a : Int => PyData.int (min a z)) 0 as) S (fun _ _ => .mem (by walk_at "mem")) (by rw [List.length_map]; omega) (fun i x u B3 G3 Kd2 Kn2 hx2 t2 S2 hd2 C2 ex2 s2 H2 => ?_) fun D7 H7 e7 S7 => ?_
  ·obtain ⟨a, ha, rfl⟩ := yu hx2
   cases S2.int1
   refine zX ⟨rfl, ?_⟩
   walk_at "walk"
   refine hd2 S2 ?_
   rw [yp ha]
   exact Has.int
  walk_at "walk"
  refine zgV S7.freeze (by walk_at "m") (by unfold Wx; rw [List.length_map]; exact l8) fun w8 H8 e8 S8 => ?_
  refine hd S8 ?_
  rw [yp hz]
  exact .mem (by walk_at "mem")
 exact ZL S6 k
abbrev YM : Stmt := top 43
theorem zdC : FnScope ["claims"] ["claims"] (zi YM) := ⟨rfl, rfl, rfl, by decide +kernel, rfl, by decide +kernel, by decide +kernel⟩
theorem zed (C_evenly : Cal P w K mg base CX0 2 "evenly" ["claims"] (WH 1)) (C_turned : Cal P w K mg base CX0 5 "turned" ["path"] WX) (F : Fun K "losses" "losses" YM f fd) : FnOk P w K mg base CX0 6 f fd ["claims"] (WH 2) := by
 refine F.ok zdC (fun vs H Q E h => ?_) (fun cdv A outer s H vs Q E hr h => ?_)
 ·obtain ⟨G, a, _, h, _⟩ := h
  rw [← h.len]; rfl
 obtain ⟨G, l, eG, hA, ok, k⟩ := h
 obtain ⟨v, rfl, al⟩ := Ym hA
 have S : Sta H G H [] _ := Sta.enter eG al
 refine ⟨_, (zk (zE (zv C_turned hr (by walk_at "l") zK rfl (zd (zv C_evenly hr (by walk_at "l") zK rfl (zd (pv 0) zh)) zh)))), zu ?_⟩
 walk_at "walk"
 refine Wu S (by walk_at "m") ok fun p1 H1 e1 S1 => ?_
 walk_at "walk"
 refine zaN (a := flV 1 l) S1.freeze (by walk_at "m") (ok.lv.inE ok.am) fun p2 H2 e2 S2 => ?_
 rw [show yF (flV 1 l) = flV 2 l from zar ok.lv] at S2
 exact ZL S2 k
abbrev Uj : Stmt := top 46
theorem zgQ : FnScope ["portion", "first", "last"] ["portion", "first", "last"] (zi Uj) := ⟨rfl, rfl, rfl, by decide +kernel, rfl, by decide +kernel, by decide +kernel⟩
theorem zhG (C_behind : Cal P w K mg base CX0 5 "behind" ["path", "second"] UK) (C_scaled : Cal P w K mg base CX0 4 "scaled" ["path", "portion"] UD) (C_minus : Cal P w K mg base CX0 3 "minus" ["one", "two"] Wo) (F : Fun K "upto" "upto" Uj f fd) : FnOk P w K mg base CX0 6 f fd ["portion", "first", "last"] zdq := by
 refine F.ok zgQ (fun vs H Q E h => ?_) (fun cdv A outer s H vs Q E hr h => ?_)
 ·obtain ⟨G, a, _, h, _⟩ := h
  rw [← h.len]; rfl
 obtain ⟨G, ⟨p, a, b⟩, eG, hA, ok, k⟩ := h
 obtain ⟨v0, v1, v2, rfl, al⟩ := XY hA
 have S : Sta H G H [] _ := Sta.enter eG al
 dsimp only at ok k S
 have zp := ok.sz
 have one : SzQ 1 (1 : Rat) := by unfold SzQ Sz; decide +kernel
 obtain ⟨m, pm⟩ := ok.m
 refine ⟨_, (zk (zE (zv C_behind hr (by walk_at "l") zK rfl (zd (zv C_scaled hr (by walk_at "l") zK rfl (zd (pv 1) (zd (pv 0) zh))) (zd (zv C_scaled hr (by walk_at "l") zK rfl (zd (pv 2) (zd (zv C_minus hr (by walk_at "l") zK rfl (zd (yj (zd zg (zd zg zh))) (zd (pv 0) zh))) zh))) zh))))), zu ?_⟩
 walk_at "walk"
 refine zaO (a := a) (p := p) S (by walk_at "m") (by walk_at "m") ok.pa (zp.mono (by decide)) fun p1 H1 e1 S1 => ?_
 have S2 := S1.freeze
 walk_at "walk"
 rename_i p3 H3 e3 S3
 refine zaP (p := (1 : Rat)) (q := p) S3 (by walk_at "m") (by walk_at "m") one zp (by decide) True.intro fun w4 H4 e4 S4 => ?_
 walk_at "walk"
 refine zaO (a := b) (p := 1 - p) S4 (by walk_at "m") (by walk_at "m") ok.pb ((one.sub zp).mono (by decide)) fun p5 H5 e5 S5 => ?_
 walk_at "walk"
 refine zdS (a := zI p a) (b := zI (1 - p) b) S5.freeze (by walk_at "m") (by walk_at "m") ok.sa ok.sb pm fun p6 H6 e6 S6 => ?_
 exact ZL S6 k
abbrev YO : Stmt := top 40
theorem Vs : FnScope ["shape", "claims", "word"] ["shape", "claims"] (zi YO) := ⟨rfl, rfl, rfl, by decide +kernel, rfl, by decide +kernel, by decide +kernel⟩
abbrev Zd : Stmt := Zg (top 52) 3
theorem zaJ : FnScope ["self", "claims"] ["self", "claims"] (zi Zd) := ⟨rfl, rfl, rfl, by decide +kernel, rfl, by decide +kernel, by decide +kernel⟩
abbrev xL : Stmt := Zg (top 52) 4
theorem UQ : FnScope ["self", "claims", "purse"] ["self", "claims", "purse"] (zi xL) := ⟨rfl, rfl, rfl, by decide +kernel, rfl, by decide +kernel, by decide +kernel⟩
end
section
variable {A : RAd}
theorem zcR (C_shares : Cal P w K mg base CX0 3 "shares" ["claims"] (WH 0)) (C_evenly : Cal P w K mg base CX0 2 "evenly" ["claims"] (WH 1)) (C_losses : Cal P w K mg base CX0 6 "losses" ["claims"] (WH 2)) (C_upto : Cal P w K mg base CX0 6 "upto" ["portion", "first", "last"] zdq) (C_turned : Cal P w K mg base CX0 5 "turned" ["path"] WX) (F : Fun K "course" "course" YO f fd) (hm : mg "course" = some (.ref f)) (b : xU K fd ["shape", "claims"] []) : ∀ n : Nat, FnOk P w K mg base CX0 (n + 7) f fd ["shape", "claims"] (Xv n) := by
 intro n
 induction n with
 | zero =>
   refine F.ok Vs (fun vs H Q E h => ?_) (fun cdv A outer s H vs Q E hr h => ?_)
   ·obtain ⟨G, a, _, h, _⟩ := h
    rw [← h.len]; rfl
   obtain ⟨G, ⟨r, l⟩, _, _, ⟨⟨_, hd⟩, _⟩, _⟩ := h
   exact absurd hd (by cases r <;> simp [Rl.deep])
 | succ n ih =>
   have C_course : Cal P w K mg base CX0 (n + 7) "course" ["shape", "claims"] (Xv n) := zY F ih hm b
   refine F.ok Vs (fun vs H Q E h => ?_) (fun cdv A outer s H vs Q E hr h => ?_)
   ·obtain ⟨G, a, _, h, _⟩ := h
    rw [← h.len]; rfl
   obtain ⟨G, ⟨r, l⟩, eG, hA, ⟨⟨pl, hd⟩, ok⟩, k⟩ := h
   obtain ⟨v0, v1, rfl, al⟩ := Zq hA
   have S : Sta H G H [] _ := Sta.enter eG al
   dsimp only at pl hd ok k S
   refine ⟨_, (zj (zV (i := 2) Vs.nd rfl (by walk_at "o") (zB zo (pv 0) zg (fun _ _ => rfl))) (zj (yr (zJ (yd (zH hr)) (pv 2) yh (zN _)) (zk (zE (zv C_shares hr (by walk_at "l") zK rfl (zd (pv 1) zh)))) zL) (zj (yr (zJ (yd (zH hr)) (pv 2) yh (zN _)) (zk (zE (zv C_evenly hr (by walk_at "l") zK rfl (zd (pv 1) zh)))) zL) (zj (yr (zJ (yd (zH hr)) (pv 2) yh (zN _)) (zk (zE (zv C_losses hr (by walk_at "l") zK rfl (zd (pv 1) zh)))) zL) (zj (yr (zJ (yd (zH hr)) (pv 2) yh (zN _)) (zk (zE (zv C_upto hr (by walk_at "l") zK rfl (zd (yj (zd zg (zd zg zh))) (zd (zv C_evenly hr (by walk_at "l") zK rfl (zd (pv 1) zh)) (zd (zv C_losses hr (by walk_at "l") zK rfl (zd (pv 1) zh)) zh)))))) zL) (zj (yr (zJ (yd (zH hr)) (pv 2) yh (zN _)) (zk (zE (zv C_turned hr (by walk_at "l") zK rfl (zd (zv C_course hr (by walk_at "l") zK rfl (zd (zB zo (pv 0) zg (fun _ _ => rfl)) (zd (pv 1) zh))) zh)))) zL) (zj (yr (zJ (yd (zH hr)) (pv 2) yh (zN _)) (zk Zh) zL) (zj (yr (zJ (yd (zH hr)) (pv 2) yh (zN _)) (zk Zh) zL) (zk (zE (zv C_upto hr (by walk_at "l") zK rfl (zd (zB zo (pv 0) zg (fun _ _ => rfl)) (zd (zv C_course hr (by walk_at "l") zK rfl (zd (zB zo (pv 0) zg (fun _ _ => rfl)) (zd (pv 1) zh))) (zd (zv C_course hr (by walk_at "l") zK rfl (zd (zB zo (pv 0) zg (fun _ _ => rfl)) (zd (pv 1) zh))) zh)))))))))))))), zu ?_⟩
   cases r with
   | shares =>
     simp only [Rl.shape] at S
     walk_at "walk"
     refine Wu (n := 0) S (by walk_at "m") ok fun p1 H1 e1 S1 => ?_
     exact ZL S1 k
   | evenly =>
     simp only [Rl.shape] at S
     walk_at "walk"
     refine Wu (n := 1) S (by walk_at "m") ok fun p1 H1 e1 S1 => ?_
     exact ZL S1 k
   | losses =>
     simp only [Rl.shape] at S
     walk_at "walk"
     refine Wu (n := 2) S (by walk_at "m") ok fun p1 H1 e1 S1 => ?_
     exact ZL S1 k
   | halves =>
     simp only [Rl.shape] at S
     walk_at "walk"
     rename_i p0 H0 e0 S0
     have eh : PyData.tuple [.int 1, .int 2] = frD (1 / 2) := by
      unfold frD
      rw [show ((1 : Rat) / 2).num = 1 by decide +kernel, show ((1 : Rat) / 2).den = 2 by decide +kernel]
      rfl
     rw [eh] at S0
     refine Wu (n := 1) S0 (by walk_at "m") ok fun p1 H1 e1 S1 => ?_
     have S2 := S1.freeze
     walk_at "walk"
     refine Wu (n := 2) S2 (by walk_at "m") ok fun p3 H3 e3 S3 => ?_
     have S4 := S3.freeze
     walk_at "walk"
     refine zdG (p := 1 / 2) (a := flV 1 l) (b := flV 2 l) S4 (by walk_at "m") (by walk_at "m") (by walk_at "m") (up_ok ok) fun p5 H5 e5 S5 => ?_
     rw [zdh] at S5
     exact ZL S5 k
   | other r =>
     simp only [Rl.shape] at S
     walk_at "walk"
     rename_i w1 S1
     refine YU (r := r) S1 (by walk_at "m") (by walk_at "m") pl.other (by simp only [Rl.deep] at hd; omega) ok fun p2 H2 e2 S2 => ?_
     walk_at "walk"
     refine zaN (a := yI r l) S2.freeze (by walk_at "m") (pl.other.inn ok) fun p3 H3 e3 S3 => ?_
     exact ZL S3 k
   | upto t b x y =>
     obtain ⟨px, py⟩ := pl.upto
     have dx : x.deep ≤ n := by simp only [Rl.deep] at hd; omega
     have dy : y.deep ≤ n := by simp only [Rl.deep] at hd; omega
     have hp : PyData.tuple [.int t, .int b] = frD (Rat.divInt t b) := zfw pl.plain.1
     simp only [Rl.shape] at S
     rw [hp] at S
     walk_at "walk"
     rename_i w1 S1 w2 S2
     refine YU (r := x) S2 (by walk_at "m") (by walk_at "m") px dx ok fun p3 H3 e3 S3 => ?_
     have S4 := S3.freeze
     walk_at "walk"
     rename_i w5 S5
     refine YU (r := y) S5 (by walk_at "m") (by walk_at "m") py dy ok fun p6 H6 e6 S6 => ?_
     have S7 := S6.freeze
     walk_at "walk"
     refine zdG (p := Rat.divInt t b) (a := yI x l) (b := yI y l) S7 (by walk_at "m") (by walk_at "m") (by walk_at "m") (pl.up ok) fun p8 H8 e8 S8 => ?_
     exact ZL S8 k
   | ranks r => exact pl.plain.elim
   | groups a b => exact pl.plain.elim
theorem zfH {fS fT Ru : Addr} {n : Nat} (okA : ∀ r : Rl, ROk K fS fT Ru (A.cls r)) (C_check_claims : Cal P w K mg base CX0 1 "check_claims" ["claims"] zbq) (C_course : Cal P w K mg base CX0 (n + 7) "course" ["shape", "claims"] (Xv n)) (F : Fun K "path" "Rule.path" Zd f fd) : FnOk P w K mg base CX0 (n + 8) f fd ["self", "claims"] (zbo A n) := by
 refine F.ok zaJ (fun vs H Q E h => ?_) (fun cdv A' outer s H vs Q E hr h => ?_)
 ·obtain ⟨G, a, _, h, _⟩ := h
  rw [← h.len]; rfl
 obtain ⟨G, ⟨r, l⟩, eG, hA, ⟨⟨pl, hn⟩, ok⟩, k⟩ := h
 obtain ⟨v0, v1, rfl, al⟩ := Zq hA
 have S : Sta H G H [] _ := Sta.enter eG al
 dsimp only at pl hn ok k S
 refine ⟨_, (zj (Yx (zv C_check_claims hr (by walk_at "l") zK rfl (zd (pv 1) zh))) (zk (zE (zv C_course hr (by walk_at "l") zK rfl (zd (zgs (pv 0) rfl) (zd (pv 1) zh)))))), zu ?_⟩
 walk_at "walk"
 refine zfu S (by walk_at "m") ok fun H1 e1 S1 => ?_
 walk_at "walk"
 refine zdO S1 (by walk_at "m") (okA r) fun w2 S2 => ?_
 walk_at "walk"
 refine YU S2 (by walk_at "m") (by walk_at "m") pl hn ok fun p3 H3 e3 S3 => ?_
 exact ZL S3 k
theorem zeb {fS fT Ru fP : Addr} {fdP : FuncData} {n : Nat} (okA : ∀ r : Rl, ROk K fS fT Ru (A.cls r)) (okP : ∀ r : Rl, Meth K (A.cls r) "path" fP) (F_Rule_path : FnOk P w K mg base CX0 (n + 8) fP fdP ["self", "claims"] (zbo A n)) (b_Rule_path : xU K fdP ["self", "claims"] []) (C_parts_at : Cal P w K mg base CX0 6 "parts_at" ["path", "purse"] Vj) (F : Fun K "parts" "Rule.parts" xL f fd) : FnOk P w K mg base CX0 (n + 9) f fd ["self", "claims", "purse"] (UG A n) := by
 refine F.ok UQ (fun vs H Q E h => ?_) (fun cdv A' outer s H vs Q E hr h => ?_)
 ·obtain ⟨G, a, _, h, _⟩ := h
  rw [← h.len]; rfl
 obtain ⟨G, ⟨r, l, e⟩, eG, hA, ⟨⟨⟨pl, hn⟩, ok⟩, ze, e0⟩, k⟩ := h
 obtain ⟨v0, v1, v2, rfl, al⟩ := XY hA
 have S : Sta H G H [] _ := Sta.enter eG al
 dsimp only at pl hn ok ze e0 k S
 refine ⟨_, (zk (zE (zv C_parts_at hr (by walk_at "l") zK rfl (zd (zcc (pv 0) (F_Rule_path.mono (by walk_at "l")) hr b_Rule_path zK (zd (pv 1) zh)) (zd (pv 2) zh))))), zu ?_⟩
 walk_at "walk"
 refine zgn (C := A.cls r) S (by walk_at "m") (okA r).cl (okP r) (by decide +kernel) ?_
 walk_at "walk"
 refine zfm (r := r) S (by walk_at "m") (by walk_at "m") pl hn ok fun p1 H1 e1 S1 => ?_
 walk_at "walk"
 refine zcI (a := yI r l) (e := e) (m := 300) (n := 270) S1.freeze (by walk_at "m") (by walk_at "m") (pl.R ok) ze (by decide) e0 fun w2 H2 e2 S2 => ?_
 exact Zr S2 k (by walk_at "m")
end
abbrev xx : Stmt := top 62
theorem VU : FnScope ["_law_script", "_law_k"] ["_law_script", "_law_k"] (zi xx) := ⟨rfl, rfl, rfl, by decide +kernel, rfl, by decide +kernel, by decide +kernel⟩
theorem zhM (B : Bl mg) (F : Fun K "_law_cell_at" "_law_cell_at" xx f fd) : FnOk P w K mg base CX0 1 f fd ["_law_script", "_law_k"] (zb1 K) := by
 refine F.ok VU (fun vs H Q E h => ?_) (fun cdv A outer s H vs Q E hr h => ?_)
 ·obtain ⟨a, ns, k, rfl, _⟩ := h
  rfl
 obtain ⟨a, ns, k, rfl, hS, h0, q⟩ := h
 refine ⟨_, (zj (yr (zJ zaX (pv 1) (zR xu rfl B.len YE (zd (pv 0) zh)) (zN _)) (zk (zE (zB zo (pv 0) (pv 1) (fun _ _ => rfl)))) zL) (zk (zE zg))), zu ?_⟩
 walk_at "walk"
 refine zhb hS ?_
 walk_at "walk"
 refine Yo (fun c => ?_) (fun c => ?_)
 ·walk_at "walk"
  refine rd_ixS hS h0 c ?_
  unfold VP at q
  rw [if_pos c] at q
  exact q
 ·walk_at "walk"
  unfold VP at q
  rw [if_neg c] at q
  exact q
abbrev Za : Stmt := top 63
theorem Ys : FnScope ["_law_cell", "_law_place", "_law_number"] ["_law_cell", "_law_place"] (zi Za) := ⟨rfl, rfl, rfl, by decide +kernel, rfl, by decide +kernel, by decide +kernel⟩
theorem zfI (F : Fun K "_law_mixed" "_law_mixed" Za f fd) : FnOk P w K mg base CX0 1 f fd ["_law_cell", "_law_place"] zgN := by
 refine F.ok Ys (fun vs H Q E h => ?_) (fun cdv A outer s H vs Q E hr h => ?_)
 ·obtain ⟨c, p, rfl, _⟩ := h
  rfl
 obtain ⟨c, p, rfl, q⟩ := h
 refine ⟨_, (zj (zV (i := 2) Ys.nd rfl (by walk_at "o") (zC xg (zC yx (zC yx (zC zS (zC xg (pv 0) zg) zg) (zC zS zg (pv 1))) zg) zg)) (zj (zV (i := 2) Ys.nd rfl (by walk_at "o") (zC xg (zC yx (zC yx (zC zS (pv 2) (pv 2)) (zC zS zg (pv 1))) zg) zg)) (zk (zE (zC xg (zC zS (pv 2) zg) zg))))), zu ?_⟩
 walk_at "walk"
 exact q
abbrev xw : Stmt := top 64
theorem Xf : FnScope ["_law_one", "_law_two"] ["_law_one", "_law_two"] (zi xw) := ⟨rfl, rfl, rfl, by decide +kernel, rfl, by decide +kernel, by decide +kernel⟩
theorem zcQ (B : Bl mg) (F : Fun K "_law_divisor" "_law_divisor" xw f fd) : FnOk P w K mg base CX0 1 f fd ["_law_one", "_law_two"] zay := by
 refine F.ok Xf (fun vs H Q E h => ?_) (fun cdv A outer s H vs Q E hr h => ?_)
 ·obtain ⟨a, b, rfl, _⟩ := h
  rfl
 obtain ⟨a, b, rfl, hb, q⟩ := h
 refine ⟨_, (zj (UV PassesOwn.never (zJ (VD (zH hr)) (pv 1) zg (zN _)) (zk (ps_par (i := 0) (j := 1) rfl Xf.nd rfl rfl (by decide) rfl rfl (zd (pv 1) (zd (zC Xp (pv 0) (pv 1)) zh)) rfl))) (zk (zE (zR VQ rfl B.abs zeU (zd (pv 0) zh))))), zu ?_⟩
 refine zbi (fun m σ H2 => ∃ (x y : Int), σ = [some (.int x), some (.int y)] ∧ 0 ≤ y ∧ Int.gcd x y = Int.gcd a b ∧ H2 = H ∧ m = y.toNat) _ ⟨a, b, rfl, hb, rfl, rfl, rfl⟩ ?_
 rintro m σ H2 ⟨x, y, rfl, hy, hg, rfl, rfl⟩
 walk_at "walk"
 refine zgU (fun c => ?_) (fun c => ?_)
 ·have c : y ≠ 0 := by simpa using c
  walk_at "walk"
  have e : x.fmod y = x % y := Int.fmod_eq_emod_of_nonneg x hy
  have l1 := Int.emod_nonneg x c
  have l2 := Int.emod_lt_of_pos x (show 0 < y by omega)
  refine ⟨(x.fmod y).toNat, by rw [e]; omega, y, x.fmod y, rfl, by rw [e]; exact l1, ?_, rfl, rfl⟩
  rw [e, zcm, hg]
 ·have c : y = 0 := by simpa using c
  subst c
  walk_at "walk"
  have e : (x.natAbs : Int) = ((Int.gcd a b : Nat) : Int) := by
   rw [← hg, Int.gcd_zero]
  rw [e]
  exact q
abbrev xH : Stmt := top 65
theorem Xz : FnScope ["_law_top", "_law_bottom", "_law_by"] ["_law_top", "_law_bottom"] (zi xH) := ⟨rfl, rfl, rfl, by decide +kernel, rfl, by decide +kernel, by decide +kernel⟩
theorem zee (C_law_divisor : Cal P w K mg base CX0 1 "_law_divisor" ["_law_one", "_law_two"] zay) (F : Fun K "_law_lowest" "_law_lowest" xH f fd) : FnOk P w K mg base CX0 2 f fd ["_law_top", "_law_bottom"] UH := by
 refine F.ok Xz (fun vs H Q E h => ?_) (fun cdv A outer s H vs Q E hr h => ?_)
 ·obtain ⟨G, a, _, h, _⟩ := h
  rw [← h.len]; rfl
 obtain ⟨G, ⟨a, b⟩, eG, hA, ⟨hb, sb⟩, k⟩ := h
 cases (xf (ns := [a, b]) hA)
 have S : Sta H G H [] [] := Sta.enter eG fun p hp => absurd hp List.not_mem_nil
 dsimp only at hb sb k
 have gp : 0 < Int.gcd a b := Int.gcd_pos_of_ne_zero_right a (by omega)
 have hc : CDv a ((Int.gcd a b : Nat) : Int) := ⟨by omega, by
  refine Sz.le sb ?_
  have := Nat.le_of_dvd (by omega) (Int.gcd_dvd_natAbs_right a b)
  omega⟩
 refine ⟨_, (zj (zV (i := 2) Xz.nd rfl (by walk_at "o") (zv C_law_divisor hr (by walk_at "l") zK rfl (zd (pv 0) (zd (pv 1) zh)))) (zk (zE (yj (zd (zC Yd (pv 0) (pv 2)) (zd (zC Yd (pv 1) (pv 2)) zh)))))), zu ?_⟩
 walk_at "walk"
 refine Zr (by assumption) k (.mem ?_)
 rw [show frD (Rat.divInt a b) = .tuple [.int (a.fdiv ((Int.gcd a b : Nat) : Int)), .int (b.fdiv ((Int.gcd a b : Nat) : Int))] by unfold frD; rw [← (Wy hb).1, ← (Wy hb).2]]
 walk_at "mem"
local macro_rules | `(tactic| walk_at "rd") => `(tactic| with_reducible refine' zfi ?_)
abbrev xX : Stmt := top 66
theorem zaG : FnScope ["_law_found"] ["_law_found"] (zi xX) := ⟨rfl, rfl, rfl, by decide +kernel, rfl, by decide +kernel, by decide +kernel⟩
theorem zfA (B : Bl mg) (F : Fun K "_law_whole" "_law_whole" xX f fd) : FnOk P w K mg base CX0 1 f fd ["_law_found"] zbk := by
 refine F.ok zaG (fun vs H Q E h => ?_) (fun cdv A outer s H vs Q E hr h => ?_)
 ·obtain ⟨n, rfl, _⟩ := h
  rfl
 obtain ⟨n, rfl, q⟩ := h
 have S : Sta H H H [] [] := Sta.enter (yc.refl _) fun p hp => absurd hp List.not_mem_nil
 have hi : Is H (.int n) (.int n) := S.hp Has.int
 refine ⟨_, (zk (zE (zgt (zR Ve rfl B.isinstance xR (zd (pv 0) (zd (UY (v := .ty "int") rfl B.int bt_int rfl) zh))) (zgr (pe_not (zR Ve rfl B.isinstance xR (zd (pv 0) (zd (UY (v := .ty "bool") rfl B.bool zh7 rfl) zh)))))))), zu ?_⟩
 walk_at "walk"
 exact q
abbrev yA : Stmt := top 67
theorem XA : FnScope ["_law_found"] ["_law_found"] (zi yA) := ⟨rfl, rfl, rfl, by decide +kernel, rfl, by decide +kernel, by decide +kernel⟩
theorem zhK (B : Bl mg) (C_law_whole : Cal P w K mg base CX0 1 "_law_whole" ["_law_found"] zbk) (C_law_divisor : Cal P w K mg base CX0 1 "_law_divisor" ["_law_one", "_law_two"] zay) (F : Fun K "_law_is_fraction" "_law_is_fraction" yA f fd) : FnOk P w K mg base CX0 2 f fd ["_law_found"] zds := by
 refine F.ok XA (fun vs H Q E h => ?_) (fun cdv A outer s H vs Q E hr h => ?_)
 ·obtain ⟨a, h, _⟩ := h
  rw [← h.len]; rfl
 obtain ⟨a, hA, _, k⟩ := h
 obtain ⟨v, rfl, al⟩ := Ym hA
 have S : Sta H H H [] [(frD a, v)] := Sta.enter (yc.refl _) al
 have hv := S.hp (x := frD a) (v := v) (by walk_at "m")
 refine ⟨_, (zj (yr (PW.pt (VV (WK (XR (zR Ve rfl B.isinstance xR (zd (pv 0) (zd (UY (v := .ty "tuple") rfl B.tuple Yj rfl) zh))))) (VV (zJ (VD (zH hr)) (zR xu rfl B.len YE (zd (pv 0) zh)) zg (zN _)) (VV (WK (XR (zv C_law_whole hr (by walk_at "l") zK rfl (zd (zB zo (pv 0) zg (fun _ _ => rfl)) zh)))) (Uq (WK (XR (zv C_law_whole hr (by walk_at "l") zK rfl (zd (zB zo (pv 0) zg (fun _ _ => rfl)) zh))))))))) (zk (zE WQ)) zL) (zk (zE (zgt (UX zcL (zB zo (pv 0) zg (fun _ _ => rfl)) zg (zN _)) (zgr (UX (yd (zH hr)) (zv C_law_divisor hr (by walk_at "l") zK rfl (zd (zB zo (pv 0) zg (fun _ _ => rfl)) (zd (zB zo (pv 0) zg (fun _ _ => rfl)) zh))) zg (zN _))))))), zu ?_⟩
 walk_at "walk"
 refine zfV rfl ?_
 walk_at "walk"
 refine Yo (fun _ => ?_) (fun c => absurd (by have := a.den_pos; omega) c)
 walk_at "walk"
 have hg : ((a.num.gcd (a.den : Int) : Nat) : Int) = 1 := by
  have := a.reduced
  unfold Nat.Coprime at this
  rw [Int.gcd, Int.natAbs_natCast, this]
  rfl
 rw [decide_eq_true hg]
 exact k H (yc.refl _)
section
variable {A : RAd}
abbrev xI : Stmt := top 68
theorem UO : FnScope ["_law_number"] ["_law_number"] (zi xI) := ⟨rfl, rfl, rfl, by decide +kernel, rfl, by decide +kernel, by decide +kernel⟩
theorem zef (F : Fun K "_law_labels" "_law_labels" xI f fd) : FnOk P w K mg base CX0 1 f fd ["_law_number"] UI := by
 refine F.ok UO (fun vs H Q E h => ?_) (fun cdv A outer s H vs Q E hr h => ?_)
 ·obtain ⟨G, a, _, h, _⟩ := h
  rw [← h.len]; rfl
 obtain ⟨G, n, eG, hA, _, k⟩ := h
 cases (xf (ns := [n]) hA)
 have S : Sta H G H [] [] := Sta.enter eG fun p hp => absurd hp List.not_mem_nil
 dsimp only at k
 unfold zab at k
 refine ⟨_, (zj (yr (zJ (yd (zH hr)) (zC xg (pv 0) zg) zg (zN _)) (zk (zE (ZR (zd zg (zd zg (zd zg zh)))))) zL) (zj (yr (zJ (yd (zH hr)) (zC xg (pv 0) zg) zg (zN _)) (zk (zE (ZR (zd (zC yx (zC VC zg zg) zg) (zd zg (zd zg zh)))))) zL) (zj (yr (zJ (yd (zH hr)) (zC xg (pv 0) zg) zg (zN _)) (zk (zE (ZR (zd zg (zd (zC VC zg zg) (zd zg zh)))))) zL) (zk (zE (ZR (zd zg (zd zg (zd zg zh))))))))), zu ?_⟩
 walk_at "walk"
 refine Yo (fun c => ?_) (fun c => ?_)
 ·rw [if_pos c] at k
  walk_at "walk"
  exact ZL (by assumption) k
 rw [if_neg c] at k
 walk_at "walk"
 refine Yo (fun c => ?_) (fun c => ?_)
 ·rw [if_pos c] at k
  walk_at "walk"
  exact ZL (by assumption) k
 rw [if_neg c] at k
 walk_at "walk"
 refine Yo (fun c => ?_) (fun c => ?_)
 ·rw [if_pos c] at k
  walk_at "walk"
  exact ZL (by assumption) k
 rw [if_neg c] at k
 walk_at "walk"
 exact ZL (by assumption) k
abbrev Zz : Stmt := top 70
theorem Ya : FnScope ["_law_amounts", "_law_parts", "_law_level", "_law_amount", "_law_part"] ["_law_amounts", "_law_parts"] (zi Zz) := ⟨rfl, rfl, rfl, by decide +kernel, rfl, by decide +kernel, by decide +kernel⟩
theorem zhL (B : Bl mg) (F : Fun K "_law_even" "_law_even" Zz f fd) : FnOk P w K mg base CX0 1 f fd ["_law_amounts", "_law_parts"] zdt := by
 refine F.ok Ya (fun vs H Q E h => ?_) (fun cdv A outer s H vs Q E hr h => ?_)
 ·obtain ⟨a, h, _⟩ := h
  rw [← h.len]; rfl
 obtain ⟨⟨am, tk⟩, hA, ⟨l8, ok⟩, k⟩ := h
 obtain ⟨v0, v1, rfl, al⟩ := Zq hA
 have S : Sta H H H [] [(ZX am, v0), (ZX tk, v1)] := Sta.enter (yc.refl _) al
 dsimp only at l8 ok
 have lt := ok.1
 refine ⟨_, (zj (zV (i := 2) Ya.nd rfl (by walk_at "o") (zR (zeS rfl) rfl B.max bt_max (zd (zC yx (ZR (zd zg zh)) (pv 1)) zh))) (zj (Vx PassesOwn.never rfl (WL true true rfl B.zip (zd (pv 0) (zd (pv 1) zh))) (Yy rfl (ym (zP (i := 3) Ya.nd rfl (by walk_at "o")) (ym (zP (i := 4) Ya.nd rfl (by walk_at "o")) ZD))) (zk (yr (PW.pt (VV (zJ zaX (pv 4) zg (zN _)) (VV (zJ zcL (pv 4) (pv 3) (zN _)) (Uq (PW.pt (zgq (zJ zaX (pv 4) (pv 3) (zN _)) (zdZ (zJ (VD (zH hr)) (pv 4) (pv 2) (zN _))))))))) (zk (zE WQ)) zL))) (zk (zE WQ)))), zu ?_⟩
 walk_at "walk"
 rename_i p1 H1 e1 S1
 obtain ⟨a1, rfl⟩ := S1.refL (xs := tk.map PyData.int) (v := v1) (by walk_at "m")
 refine Vv S1 (S1.vwC (by walk_at "mem")) (S1.vwL (by walk_at "m")) (by rw [List.length_map]; show 1 + _ ≤ 1000; omega) fun p2 H2 e2 S2 => ?_
 walk_at "walk"
 refine zg8 (ns := 0 :: tk) S2 (by walk_at "mem") (Nat.zero_lt_succ _) fun m hm top => ?_
 have S3 : Sta H H H2 [] [(ZX am, v0), (ZX tk, .ref a1)] := S2.weak (by walk_at "sub") (by walk_at "dats")
 clear S2 S1
 walk_at "walk"
 refine XN (xs := am.map PyData.int) (ys := tk.map PyData.int) S3 (by walk_at "m") (by walk_at "m") fun J wk => ?_
 refine VN wk (fun i σ cs ds => (∃ x3 x4, σ = [some v0, some (.ref a1), some (.int m), x3, x4]) ∧ cs = [] ∧ ds = [(ZX am, v0), (ZX tk, .ref a1)]) S3 ⟨⟨none, none, rfl⟩, rfl, rfl⟩ (fun i σ cs ds h => ?_) ?_ ?_
 ·obtain ⟨_, rfl, rfl⟩ := h
  exact ⟨.mem (by walk_at "mem"), fun _ _ h => h.tail, .mem (by walk_at "mem")⟩
 ·rintro i x u σ H4 cs ds hx ⟨⟨x3, x4, rfl⟩, rfl, rfl⟩ S4
  obtain ⟨xa, xb, h1, h2, rfl⟩ := ZY hx
  obtain ⟨a, ha, rfl⟩ := yu h1
  obtain ⟨p, hp, rfl⟩ := yu h2
  obtain ⟨b1, b2, b3⟩ := ok.2 i a p ha hp
  refine Zn (Zm S4 (by walk_at "m") fun w1 w2 S5 => ?_)
  cases S5.int1
  cases S5.drop1.int1
  walk_at "walk"
  refine Yo (fun c => absurd c (by omega)) (fun _ => ?_)
  walk_at "walk"
  refine Yo (fun c => absurd c (by omega)) (fun _ => ?_)
  walk_at "walk"
  have fin : ∀ σ', (∃ x3 x4, σ' = [some v0, some (.ref a1), some (.int m), x3, x4]) → AtP H H (fun σ cs ds => (∃ x3 x4, σ = [some v0, some (.ref a1), some (.int m), x3, x4]) ∧ cs = [] ∧ ds = [(ZX am, v0), (ZX tk, .ref a1)]) σ' H4 := fun σ' h => zbu (S5.dat (by walk_at "dats")) ⟨h, rfl, rfl⟩
  refine Yo (fun c => ?_) (fun c => ?_)
  ·have e : p = m := by
    have t1 := top p (List.mem_cons_of_mem _ (List.mem_of_getElem? hp))
    rcases List.mem_cons.mp hm with z | z
    ·omega
    ·have := b3 c m z
     omega
   walk_at "walk"
   refine zfV e ?_
   walk_at "walk"
   exact fin _ ⟨_, _, rfl⟩
  ·walk_at "walk"
   exact fin _ ⟨_, _, rfl⟩
 ·rintro σ H4 cs ds ⟨⟨x3, x4, rfl⟩, rfl, rfl⟩ S4
  walk_at "walk"
  exact k _ S4.base
end
section
variable {A : RAd}
abbrev xJ : Stmt := top 69
theorem yq : FnScope ["_law_script", "_law_at", "_law_many", "_law_size", "_law_labels_here", "_law_ranks", "_law_groups", "_law_claims_here", "_law_k", "_law_cell", "_law_amount"] ["_law_script", "_law_at", "_law_many", "_law_size"] (zi xJ) := ⟨rfl, rfl, rfl, by decide +kernel, rfl, by decide +kernel, by decide +kernel⟩
theorem zeh (B : Bl mg) (C_law_cell_at : Cal P w K mg base CX0 1 "_law_cell_at" ["_law_script", "_law_k"] (zb1 K)) (C_law_mixed : Cal P w K mg base CX0 1 "_law_mixed" ["_law_cell", "_law_place"] zgN) (C_law_labels : Cal P w K mg base CX0 1 "_law_labels" ["_law_number"] UI) (F : Fun K "_law_claims" "_law_claims" xJ f fd) : FnOk P w K mg base CX0 2 f fd ["_law_script", "_law_at", "_law_many", "_law_size"] (UJ K) := by
 refine F.ok yq (fun vs H Q E h => ?_) (fun cdv A outer s H vs Q E hr h => ?_)
 ·obtain ⟨G, a, ns, at', many, size, rfl, _⟩ := h
  rfl
 obtain ⟨G, a, ns, at', many, size, rfl, eG, hS, ⟨ha0, hm1, hm8, hs0, hs1⟩, k⟩ := h
 have S : Sta H G H [] [] := Sta.enter eG fun p hp => absurd hp List.not_mem_nil
 have hz : Sz 160 size := by
  unfold Sz
  have : (10 : Int) ^ 46 < 2 ^ 160 := by decide +kernel
  omega
 have h5 : Sz 160 5 := by unfold Sz; decide
 refine ⟨_, (zj (zV (i := 4) yq.nd rfl (by walk_at "o") (zv C_law_mixed hr (by walk_at "l") zK rfl (zd (zv C_law_cell_at hr (by walk_at "l") zK rfl (zd (pv 0) (zd (pv 1) zh))) (zd zg zh)))) (zj (zV (i := 5) yq.nd rfl (by walk_at "o") (zv C_law_labels hr (by walk_at "l") zK rfl (zd (pv 4) zh))) (zj (zV (i := 6) yq.nd rfl (by walk_at "o") (zv C_law_labels hr (by walk_at "l") zK rfl (zd (zC Zf (pv 4) zg) zh))) (zj (zV (i := 7) yq.nd rfl (by walk_at "o") (ZR zh)) (zj (Vx PassesOwn.never rfl (zd2 rfl B.range (zd (pv 2) zh)) (zP (i := 8) yq.nd rfl (by walk_at "o")) (zj (zV (i := 9) yq.nd rfl (by walk_at "o") (zv C_law_cell_at hr (by walk_at "l") zK rfl (zd (pv 0) (zd (zC yx (pv 1) (pv 8)) zh)))) (zj (zV (i := 10) yq.nd rfl (by walk_at "o") (zC Xp (zC Zf (pv 9) zg) (pv 3))) (zj (yr (zJ (yd (zH hr)) (zC xg (pv 9) zg) zg (zN _)) (zk (zV (i := 10) yq.nd rfl (by walk_at "o") (zC xg (zC Zf (pv 9) zg) zg))) zL) (zj (yr (PW.pt (zgq (zJ (yd (zH hr)) (zC xg (pv 9) zg) zg (zN _)) (zdZ (zJ zcL (pv 8) zg (zN _))))) (zk (zV (i := 10) yq.nd rfl (by walk_at "o") (zB zo (zB zo (pv 7) (zC Xp (zC Zf (pv 9) zg) (pv 8)) (fun _ _ => rfl)) zg (fun _ _ => rfl)))) zL) (zk (Yx (pe_bm PySem.F.plainAttrs_list PySem.F.slot_list_append PySem.F.type_list_append VE (pv 7) (zd (yj (zd (pv 10) (zd (zB zo (pv 5) (zC xg (zv C_law_mixed hr (by walk_at "l") zK rfl (zd (pv 9) (zd zg zh))) zg) (fun _ _ => rfl)) (zd (zB zo (pv 6) (zC xg (zv C_law_mixed hr (by walk_at "l") zK rfl (zd (pv 9) (zd zg zh))) zg) (fun _ _ => rfl)) zh)))) zh))))))))) (zk (zE (pv 7)))))))), zu ?_⟩
 walk_at "walk"
 generalize mixV (VP ns at') 3 = lab at *
 refine zaQ S fun p1 H1 e1 S1 => ?_
 have S1' := S1.freeze
 walk_at "walk"
 refine zaQ S1' fun p2 H2 e2 S2 => ?_
 have S2' := S2.freeze
 walk_at "walk"
 rename_i p3 H3 e3 S3
 refine rd_kR1 H G (by omega) (by omega) fun J wk => ?_
 refine VN wk (fun i σ cs ds => ∃ (l : List Cl) (x8 x9 x10 : Option V), σ = [some (.ref a), some (.int at'), some (.int many), some (.int size), some (.int lab), some (.ref p1), some (.ref p2), some (.ref p3), x8, x9, x10] ∧ cs = [(p3, l.map yn)] ∧ ds = [(ZX (zab (lab / 5)), .ref p2), (ZX (zab lab), .ref p1)] ∧ l.length = i ∧ ∀ c ∈ l, (0 ≤ c.1 ∧ 0 ≤ c.2.1 ∧ 0 ≤ c.2.2) ∧ Sz 160 c.1) S3
  ⟨[], none, none, none, rfl, rfl, rfl, rfl, fun c hc => absurd hc List.not_mem_nil⟩ (fun _ _ _ _ _ => trivial) ?_ ?_
 ·rintro i x v σ H4 cs ds hx ⟨l, x8, x9, x10, rfl, rfl, rfl, hlen, hok⟩ S4
  obtain ⟨hi, rfl⟩ := zaT hx
  cases S4.int1
  have hS4 : SqL K H4 a (ns.map V.int) := S4.base.seq hS
  have S4 := S4.drop1
  walk_at "walk"
  generalize VP ns (at' + (0 + (i : Int))) = c at *
  have fin : ∀ (am : Int) (y8 y9 y10 : Option V) (r g : Int) (H5 : Hp), 0 ≤ am → Sz 160 am → 0 ≤ r → 0 ≤ g → Sta H G H5 [(p3, l.map yn ++ [yn (am, r, g)])] [(ZX (zab (lab / 5)), .ref p2), (ZX (zab lab), .ref p1)] →
   AtP H G (fun σ cs ds => ∃ (l : List Cl) (x8 x9 x10 : Option V), σ = [some (.ref a), some (.int at'), some (.int many), some (.int size), some (.int lab), some (.ref p1), some (.ref p2), some (.ref p3), x8, x9, x10] ∧ cs = [(p3, l.map yn)] ∧ ds = [(ZX (zab (lab / 5)), .ref p2), (ZX (zab lab), .ref p1)] ∧ l.length = i + 1 ∧ ∀ c ∈ l, (0 ≤ c.1 ∧ 0 ≤ c.2.1 ∧ 0 ≤ c.2.2) ∧ Sz 160 c.1) [some (.ref a), some (.int at'), some (.int many), some (.int size), some (.int lab), some (.ref p1), some (.ref p2), some (.ref p3), y8, y9, y10] H5 := by
   intro am y8 y9 y10 r g H5 h0 hz hr hg S5
   refine zbu S5 ⟨l ++ [(am, r, g)], y8, y9, y10, rfl, by rw [List.map_append]; rfl, rfl, by rw [List.length_append, hlen]; rfl, fun c hc => ?_⟩
   rcases List.mem_append.mp hc with z | z
   ·exact hok c z
   ·rw [List.mem_singleton.mp z]
    exact ⟨⟨h0, hr, hg⟩, hz⟩
  have lmem : (l.map yn).length ≤ 1000 := by rw [List.length_map]; omega
  obtain ⟨r, hr0, hr1⟩ := zet lab (mixV c 1)
  obtain ⟨g, hg0, hg1⟩ := zet (lab / 5) (mixV c 2)
  have sz0 : size ≠ 0 := by omega
  have f0 : (c / 9).fmod size = c / 9 % size := Int.fmod_eq_emod_of_nonneg _ (by omega)
  have m1 := Int.emod_nonneg (c / 9) sz0
  have m2 := Int.emod_lt_of_pos (c / 9) (show 0 < size by omega)
  walk_at "walk"
  refine Yo (fun c1 => ?_) (fun c1 => ?_)
  ·walk_at "walk"
   refine Yo (fun c2 => absurd c2 (by omega)) (fun _ => ?_)
   walk_at "walk"
   refine Yc (xs := (zab lab).map PyData.int) S4 (by walk_at "m") hr1 ?_
   walk_at "walk"
   refine Yc (xs := (zab (lab / 5)).map PyData.int) S4 (by walk_at "m") hg1 ?_
   walk_at "walk"
   rename_i q5 H5 e5 S5
   refine XQ (y := yn (c / 9 % 5, r, g)) S5 (by walk_at "m") lmem fun H6 S6 => ?_
   walk_at "walk"
   exact fin (c / 9 % 5) _ _ _ r g H6 (by omega) (by unfold Sz; omega) hr0 hg0 (S6.dat (by walk_at "dats"))
  ·have q0 : 0 ≤ (c / 9).fmod size := by rw [f0]; exact m1
   have qz : Sz 160 ((c / 9).fmod size) := by rw [f0]; exact Vf m1 (Int.le_of_lt m2) hz
   walk_at "walk"
   refine Yo (fun c2 => ?_) (fun _ => ?_)
   ·walk_at "walk"
    refine Yo (fun c3 => ?_) (fun _ => ?_)
    ·have i0 : 0 + (i : Int) ≠ 0 := by omega
     have e1 := Int.fmod_eq_emod_of_nonneg (c / 9) (show 0 ≤ 0 + (i : Int) by omega)
     have n1 := Int.emod_nonneg (c / 9) i0
     have n2 := Int.emod_lt_of_pos (c / 9) (show 0 < 0 + (i : Int) by omega)
     rw [← e1] at n1 n2
     walk_at "walk"
     have hj : ((c / 9).fmod (0 + (i : Int))).toNat < l.length := by omega
     have hc' := List.getElem?_eq_getElem hj
     have hat : atI (l.map yn) ((c / 9).fmod (0 + (i : Int))) = some (yn (l[((c / 9).fmod (0 + (i : Int))).toNat])) := by
      have := Yk (xs := l.map yn) (j := ((c / 9).fmod (0 + (i : Int))).toNat) (v := yn (l[((c / 9).fmod (0 + (i : Int))).toNat])) (by rw [List.getElem?_map, hc']; rfl)
      rwa [Int.toNat_of_nonneg n1] at this
     have okc := hok _ (List.getElem_mem hj)
     generalize l[((c / 9).fmod (0 + (i : Int))).toNat] = c' at *
     refine zb9 (x := yn c') S4 (by walk_at "mem") hat fun w7 S7 => ?_
     walk_at "walk"
     refine Yc (xs := (zab lab).map PyData.int) S7 (by walk_at "m") hr1 ?_
     walk_at "walk"
     refine Yc (xs := (zab (lab / 5)).map PyData.int) S7 (by walk_at "m") hg1 ?_
     walk_at "walk"
     rename_i q5 H5 e5 S5
     refine XQ (y := yn (c'.1, r, g)) S5 (by walk_at "m") lmem fun H6 S6 => ?_
     walk_at "walk"
     exact fin (c'.1) _ _ _ r g H6 okc.1.1 okc.2 hr0 hg0 (S6.dat (by walk_at "dats"))
    ·skip
     walk_at "walk"
     refine Yc (xs := (zab lab).map PyData.int) S4 (by walk_at "m") hr1 ?_
     walk_at "walk"
     refine Yc (xs := (zab (lab / 5)).map PyData.int) S4 (by walk_at "m") hg1 ?_
     walk_at "walk"
     rename_i q5 H5 e5 S5
     refine XQ (y := yn ((c / 9).fmod size, r, g)) S5 (by walk_at "m") lmem fun H6 S6 => ?_
     walk_at "walk"
     exact fin ((c / 9).fmod size) _ _ _ r g H6 q0 qz hr0 hg0 (S6.dat (by walk_at "dats"))
   ·skip
    walk_at "walk"
    refine Yc (xs := (zab lab).map PyData.int) S4 (by walk_at "m") hr1 ?_
    walk_at "walk"
    refine Yc (xs := (zab (lab / 5)).map PyData.int) S4 (by walk_at "m") hg1 ?_
    walk_at "walk"
    rename_i q5 H5 e5 S5
    refine XQ (y := yn ((c / 9).fmod size, r, g)) S5 (by walk_at "m") lmem fun H6 S6 => ?_
    walk_at "walk"
    exact fin ((c / 9).fmod size) _ _ _ r g H6 q0 qz hr0 hg0 (S6.dat (by walk_at "dats"))
 ·rintro σ H4 cs ds ⟨l, x8, x9, x10, rfl, rfl, rfl, hlen, hok⟩ S4
  walk_at "walk"
  rw [YV] at hlen
  obtain ⟨G', a', b', c', d', e', f', g'⟩ := S4
  obtain ⟨z1, z2, us, z3, z4⟩ := e' _ (List.mem_cons_self ..)
  exact k l p3 H4 G' us hlen ⟨by omega, by omega, fun c hc => (hok c hc).1, fun c hc => (hok c hc).2⟩ ⟨c', a', b', d'⟩ z1 z2 z3 z4
abbrev xZ : Stmt := top 77
theorem Yr : FnScope ["_law_whole_here", "_law_cell", "_law_kind", "_law_number"] ["_law_whole_here", "_law_cell"] (zi xZ) := ⟨rfl, rfl, rfl, by decide +kernel, rfl, by decide +kernel, by decide +kernel⟩
theorem zfF (C_law_lowest : Cal P w K mg base CX0 2 "_law_lowest" ["_law_top", "_law_bottom"] UH) (F : Fun K "_law_purse" "_law_purse" xZ f fd) : FnOk P w K mg base CX0 3 f fd ["_law_whole_here", "_law_cell"] zbm := by
 refine F.ok Yr (fun vs H Q E h => ?_) (fun cdv A' outer s H vs Q E hr h => ?_)
 ·obtain ⟨G, wh, c, rfl, _⟩ := h
  rfl
 obtain ⟨G, wh, c, rfl, eG, ⟨w0, wz⟩, k⟩ := h
 have S : Sta H G H [] [] := Sta.enter eG fun p hp => absurd hp List.not_mem_nil
 have good : ∀ (i j : Int), 0 ≤ i → 0 < j → Sz 300 i → Sz 300 j → 0 ≤ Rat.divInt i j ∧ SzQ 300 (Rat.divInt i j) := fun i j h1 h2 z1 z2 => ⟨Rat.divInt_nonneg h1 (by omega), SzQ.divInt z1 z2 (by omega)⟩
 have n3 : wh + 3 ≠ 0 := by omega
 have n5 : 2 * wh + 5 ≠ 0 := by omega
 have b0 : wh < 2 ^ 180 := by unfold Sz at wz; omega
 have p12 : (0 : Int) < 10 ^ Int.toNat 12 := by decide
 refine ⟨_, (zj (zV (i := 2) Yr.nd rfl (by walk_at "o") (zC xg (pv 1) zg)) (zj (zV (i := 3) Yr.nd rfl (by walk_at "o") (zC Zf (pv 1) zg)) (zj (yr (zJ (yd (zH hr)) (pv 2) zg (zN _)) (zk (zE (yj (zd (zC Xp (pv 3) (zC yx (pv 0) zg)) (zd zg zh))))) zL) (zj (yr (zJ (yd (zH hr)) (pv 2) zg (zN _)) (zk (zE (zv C_law_lowest hr (by walk_at "l") zK rfl (zd (pv 0) (zd zg zh))))) zL) (zj (yr (zJ (yd (zH hr)) (pv 2) zg (zN _)) (zk (zE (zv C_law_lowest hr (by walk_at "l") zK rfl (zd (zC Xp (pv 3) (zC yx (zC zS zg (pv 0)) zg)) (zd zg zh))))) zL) (zj (yr (zJ (yd (zH hr)) (pv 2) zg (zN _)) (zk (zE (zv C_law_lowest hr (by walk_at "l") zK rfl (zd (zC zS (pv 0) (zC xg (pv 3) zg)) (zd zg zh))))) zL) (zk (zE (zv C_law_lowest hr (by walk_at "l") zK rfl (zd (zC Xp (pv 3) (zC zS (zC yx (pv 0) zg) (zC VC zg zg))) (zd (zC VC zg zg) zh))))))))))), zu ?_⟩
 walk_at "walk"
 refine Yo (fun _ => ?_) (fun _ => ?_)
 ·walk_at "walk"
  rename_i p1 H1 e1 S1
  have e := Int.fmod_eq_emod_of_nonneg (c / 5) (show 0 ≤ wh + 3 by omega)
  have m1 := Int.emod_nonneg (c / 5) n3
  have m2 := Int.emod_lt_of_pos (c / 5) (show 0 < wh + 3 by omega)
  rw [← e] at m1 m2
  have hq : PyData.tuple [.int ((c / 5).fmod (wh + 3)), .int 1] = frD (((c / 5).fmod (wh + 3) : Int) : Rat) := rfl
  rw [hq] at S1
  exact zaM S1 k (by walk_at "m") ⟨zah m1, by show Sz 300 ((c / 5).fmod (wh + 3)); unfold Sz; omega, by show Sz 300 1; unfold Sz; decide⟩
 walk_at "walk"
 refine Yo (fun _ => ?_) (fun _ => ?_)
 ·walk_at "walk"
  refine XM S (by decide) (by unfold Sz; decide +kernel) fun r H1 e1 S1 => ?_
  exact zaM S1 k (by walk_at "m") (good _ _ w0 (by decide) (wz.mono (by decide)) (by unfold Sz; decide))
 walk_at "walk"
 refine Yo (fun _ => ?_) (fun _ => ?_)
 ·walk_at "walk"
  have e := Int.fmod_eq_emod_of_nonneg (c / 5) (show 0 ≤ 2 * wh + 5 by omega)
  have m1 := Int.emod_nonneg (c / 5) n5
  have m2 := Int.emod_lt_of_pos (c / 5) (show 0 < 2 * wh + 5 by omega)
  rw [← e] at m1 m2
  refine XM S (by decide) (by unfold Sz; decide +kernel) fun r H1 e1 S1 => ?_
  exact zaM S1 k (by walk_at "m") (good _ _ m1 (by decide) (by unfold Sz; omega) (by unfold Sz; decide))
 walk_at "walk"
 refine Yo (fun _ => ?_) (fun _ => ?_)
 ·have o : IntMulOk wh (c / 5 % 1009) := wz.mulOk (n := 10) (by unfold Sz; omega) (by decide)
  walk_at "walk"
  refine XM S (by decide) (by unfold Sz; decide +kernel) fun r H1 e1 S1 => ?_
  exact zaM S1 k (by walk_at "m") (good _ _ (Int.mul_nonneg w0 (by omega)) (by decide) ((wz.mul (n := 10) (by unfold Sz; omega)).mono (by decide)) (by unfold Sz; decide))
 have z1 : Sz 181 (wh + 1) := by unfold Sz; omega
 have z2 : Sz 60 ((10 : Int) ^ Int.toNat 12) := by unfold Sz; decide
 have o2 : IntMulOk (wh + 1) (10 ^ Int.toNat 12) := z1.mulOk z2 (by decide)
 have zz := z1.mul z2
 have pp : 0 < (wh + 1) * (10 : Int) ^ Int.toNat 12 := Int.mul_pos (by omega) p12
 have nz : (wh + 1) * (10 : Int) ^ Int.toNat 12 ≠ 0 := by omega
 have e := Int.fmod_eq_emod_of_nonneg (c / 5) (show 0 ≤ (wh + 1) * (10 : Int) ^ Int.toNat 12 by omega)
 have m1 := Int.emod_nonneg (c / 5) nz
 have m2 := Int.emod_lt_of_pos (c / 5) pp
 rw [← e] at m1 m2
 walk_at "walk"
 refine XM S p12 (z2.mono (by decide)) fun r H1 e1 S1 => ?_
 exact zaM S1 k (by walk_at "m") (good _ _ m1 p12 ((Vf m1 (Int.le_of_lt m2) zz).mono (by decide)) (z2.mono (by decide)))
end
abbrev Zy : Stmt := top 71
theorem xC : FnScope ["_law_shape", "_law_claims_here", "_law_parts", "_law_amounts", "_law_whole_here", "_law_purse_here", "_law_amount", "_law_part"] ["_law_shape", "_law_claims_here", "_law_parts"] (zi Zy) := ⟨rfl, rfl, rfl, by decide +kernel, rfl, by decide +kernel, by decide +kernel⟩
abbrev yQ : Stmt := top 72
theorem yT : FnScope ["_law_shape", "_law_claims_here", "_law_parts", "_law_top", "_law_bottom", "_law_many", "_law_here", "_law_there"] ["_law_shape", "_law_claims_here", "_law_parts"] (zi yQ) := ⟨rfl, rfl, rfl, by decide +kernel, rfl, by decide +kernel, by decide +kernel⟩
theorem ok_upG {n : Nat} (B : Bl mg) (C_law_fits : Cal P w K mg base CX0 (2 * n + 2) "_law_fits" ["_law_shape", "_law_claims_here", "_law_parts"] (Vl n)) (F : Fun K "_law_upto_fit" "_law_upto_fit" yQ f fd) : FnOk P w K mg base CX0 (2 * n + 3) f fd ["_law_shape", "_law_claims_here", "_law_parts"] (zgL (n + 1)) := by
 refine F.ok yT (fun vs H Q E h => ?_) (fun cdv A outer s H vs Q E hr h => ?_)
 ·obtain ⟨a, h, _⟩ := h
  rw [← h.len]; rfl
 obtain ⟨⟨⟨t, b⟩, ⟨x, y⟩, l, tk⟩, hA, ok, k⟩ := h
 obtain ⟨v0, v1, v2, rfl, al⟩ := XY hA
 dsimp only at ok al
 have S : Sta H H H [] [((Rl.upto t b x y).shape, v0), (yg l, v1), (ZX tk, v2)] := Sta.enter (yc.refl _) al
 have few := ok.few
 have inb := ok.fit.inB
 have l8 : (amV l).length ≤ 8 := by rw [yk]; exact few
 have step := ok.upto
 obtain ⟨it, ia⟩ := inb.inS l8 ok.sz
 have po := ok.plain.1.1
 have lt := ok.fit.len
 have la : ∀ {i : Nat} {c : Cl}, l[i]? = some c → c.1 ∈ amV l := fun hc => List.mem_map.mpr ⟨_, List.mem_of_getElem? hc, rfl⟩
 refine ⟨_, (zj (ps_asg (zB zo (pv 0) zg (fun _ _ => rfl)) (Yy rfl (ym (zP (i := 3) yT.nd rfl (by walk_at "o")) (ym (zP (i := 4) yT.nd rfl (by walk_at "o")) ZD)))) (zj (Ze (i := 5) (N := ["_law_part", "_law_bottom"]) (n := 1) (fr := [4]) yT.nd rfl rfl rfl ⟨rfl, by decide +kernel, rfl, by decide, rfl, rfl, rfl, rfl, rfl⟩ (yY (pv 2)) (fun _ _ _ _ => (zP (i := 0) (show (["_law_part", "_law_bottom"] : List Str).Nodup from by decide +kernel) rfl (by walk_at "o"))) (fun _ _ _ _ => yo) (fun _ _ _ _ => (zC zS (pv 1) (pv 0)))) (zj (Ze (i := 6) (N := ["_law_claim", "_law_top"]) (n := 1) (fr := [3]) yT.nd rfl rfl rfl ⟨rfl, by decide +kernel, rfl, by decide, rfl, rfl, rfl, rfl, rfl⟩ (yY (pv 1)) (fun _ _ _ _ => (zP (i := 0) (show (["_law_claim", "_law_top"] : List Str).Nodup from by decide +kernel) rfl (by walk_at "o"))) (fun _ _ _ _ => yo) (fun _ _ _ _ => (yj (zd (zC zS (pv 1) (zB zo (pv 0) zg (fun _ _ => rfl))) (zd (zB zo (pv 0) zg (fun _ _ => rfl)) (zd (zB zo (pv 0) zg (fun _ _ => rfl)) zh)))))) (zj (yr (zJ op_le (zR (xQ rfl) rfl B.sum Wb (zd (pv 5) zh)) (zR (xQ rfl) rfl B.sum Wb (zd (yZ (N := ["_law_claim"]) (n := 1) (fr := []) rfl ⟨rfl, by decide +kernel, rfl, by decide, rfl, rfl, rfl, rfl, rfl⟩ (yY (pv 6)) (fun _ _ _ _ => (zP (i := 0) (show (["_law_claim"] : List Str).Nodup from by decide +kernel) rfl (by walk_at "o"))) (fun _ _ _ _ => yo) (fun _ _ _ _ => (zB zo (pv 0) zg (fun _ _ => rfl)))) zh)) (zN _)) (zk (zE (zv C_law_fits hr (by walk_at "l") zK rfl (zd (zB zo (pv 0) zg (fun _ _ => rfl)) (zd (pv 6) (zd (pv 5) zh)))))) zL) (zj (Ze (i := 7) (N := ["_law_claim", "_law_top", "_law_bottom"]) (n := 1) (fr := [3, 4]) yT.nd rfl rfl rfl ⟨rfl, by decide +kernel, rfl, by decide, rfl, rfl, rfl, rfl, rfl⟩ (yY (pv 1)) (fun _ _ _ _ => (zP (i := 0) (show (["_law_claim", "_law_top", "_law_bottom"] : List Str).Nodup from by decide +kernel) rfl (by walk_at "o"))) (fun _ _ _ _ => yo) (fun _ _ _ _ => (yj (zd (zC zS (zC Xj (pv 2) (pv 1)) (zB zo (pv 0) zg (fun _ _ => rfl))) (zd (zB zo (pv 0) zg (fun _ _ => rfl)) (zd (zB zo (pv 0) zg (fun _ _ => rfl)) zh)))))) (zk (zE (zv C_law_fits hr (by walk_at "l") zK rfl (zd (zB zo (pv 0) zg (fun _ _ => rfl)) (zd (pv 7) (zd (yZ (N := ["_law_part", "_law_claim"]) (n := 2) (fr := []) rfl ⟨rfl, by decide +kernel, rfl, by decide, rfl, rfl, rfl, rfl, rfl⟩ (WL true true rfl B.zip (zd (pv 5) (zd (pv 6) zh))) (fun _ _ _ _ => (Yy rfl (ym (zP (i := 0) (show (["_law_part", "_law_claim"] : List Str).Nodup from by decide +kernel) rfl (by walk_at "o")) (ym (zP (i := 1) (show (["_law_part", "_law_claim"] : List Str).Nodup from by decide +kernel) rfl (by walk_at "o")) ZD)))) (fun _ _ _ _ => yo) (fun _ _ _ _ => (zC Xj (pv 0) (zB zo (pv 1) zg (fun _ _ => rfl))))) zh))))))))))), zu ?_⟩
 simp only [Rl.shape] at S
 walk_at "walk"
 rename_i w1 S1
 refine Zn (Zm S1 (by walk_at "m") fun w2 w3 S2 => ?_)
 cases S2.int1
 cases S2.drop1.int1
 walk_at "walk"
 refine xp (xs := tk.map PyData.int) S2 (by walk_at "m") fun J wk => ?_
 refine ya wk (fun j => .int (b * tk.getD j 0)) (ys := (yG b tk).map PyData.int) (by unfold yG; rw [List.length_map, List.map_map]; exact zO (fun x : Int => PyData.int (b * x)) 0 tk) S2 (fun _ _ => .mem (by walk_at "mem")) (by rw [List.length_map, inb.1]; omega) (fun j x v B' G' Kd Kn hx t1 S hd C ex s0 H0 => ?_) fun D3 H3 e3 S3 => ?_
 ·obtain ⟨y, hy, rfl⟩ := yu hx
  cases S.int1
  have o : IntMulOk b y := po.2.mulOk (it.2 y (List.mem_of_getElem? hy)).2 (by omega)
  refine zX ⟨rfl, ?_⟩
  walk_at "walk"
  refine hd S ?_
  rw [yp hy]
  exact Has.int
 have S4 := S3.freeze
 walk_at "walk"
 refine xp (xs := l.map yn) S4 (by walk_at "m") fun J wk => ?_
 refine ya wk (fun j => yn ((fun c : Cl => ((t * c.1, c.2) : Cl)) (l.getD j (0, 0, 0)))) (ys := (yb t l).map yn) (by
  unfold yb; rw [List.map_map, List.length_map]; exact zO (fun c : Cl => yn ((t * c.1, c.2) : Cl)) (0, 0, 0) l) S4 (fun _ _ => .mem (by walk_at "mem")) (by rw [List.length_map]; omega) (fun j x v B' G' Kd Kn hx t1 S hd C ex s0 H0 => ?_) fun D5 H5 e5 S5 => ?_
 ·obtain ⟨c, hc, rfl⟩ := yu hx
  have o : IntMulOk t c.1 := po.1.mulOk (ok.sz _ (la hc)) (by omega)
  refine zX ⟨rfl, ?_⟩
  walk_at "walk"
  refine hd (by assumption) ?_
  rw [yp hc]
  exact .mem (by walk_at "mem")
 have S6 := S5.freeze
 have tl := xP t l
 walk_at "walk"
 refine xp (xs := (yb t l).map yn) S6 (by walk_at "m") fun J wk => ?_
 refine ya wk (fun j => .int ((yb t l).getD j (0, 0, 0)).1) (ys := (amV (yb t l)).map PyData.int) (by unfold amV; rw [List.length_map, List.map_map]; exact zO (fun c : Cl => PyData.int c.1) (0, 0, 0) (yb t l)) S6 (fun _ _ => .mem (by walk_at "mem")) (by rw [List.length_map]; omega) (fun j x v B' G' Kd Kn hx t1 S hd C ex s0 H0 => ?_) fun D7 H7 e7 S7 => ?_
 ·obtain ⟨c, hc, rfl⟩ := yu hx
  refine zX ⟨rfl, ?_⟩
  walk_at "walk"
  refine hd (by assumption) ?_
  rw [yp hc]
  exact Has.int
 walk_at "walk"
 refine Yo (fun c => ?_) (fun c => ?_)
 ·rw [if_pos c] at step
  walk_at "walk"
  rename_i w8 S8
  refine XO (r := x) (l := yb t l) (tk := yG b tk) S8 (by walk_at "m") (by walk_at "m") (by walk_at "m") step fun H9 e9 S9 => ?_
  exact k _ S9.base
 ·rw [if_neg c] at step
  have S8 := S7.freeze
  have zs : Sz 211 (b - t) := po.2.sub po.1
  walk_at "walk"
  refine xp (xs := l.map yn) S8 (by walk_at "m") fun J wk => ?_
  refine ya wk (fun j => yn ((fun c : Cl => (((b - t) * c.1, c.2) : Cl)) (l.getD j (0, 0, 0)))) (ys := (yb (b - t) l).map yn) (by
   unfold yb; rw [List.map_map, List.length_map]; exact zO (fun c : Cl => yn (((b - t) * c.1, c.2) : Cl)) (0, 0, 0) l) S8 (fun _ _ => .mem (by walk_at "mem")) (by rw [List.length_map]; omega) (fun j x v B' G' Kd Kn hx t1 S hd C ex s0 H0 => ?_) fun D9 H9 e9 S9 => ?_
  ·obtain ⟨c, hc, rfl⟩ := yu hx
   have o : IntMulOk (b - t) c.1 := zs.mulOk (ok.sz _ (la hc)) (by omega)
   refine zX ⟨rfl, ?_⟩
   walk_at "walk"
   refine hd (by assumption) ?_
   rw [yp hc]
   exact .mem (by walk_at "mem")
  have S10 := S9.freeze
  walk_at "walk"
  rename_i w11 S11
  have ld : (yG b tk).length = (amV (yb t l)).length := by rw [ZN, yk, xP]; exact lt
  have ll : (xD (yG b tk) (amV (yb t l))).length = (amV (yb t l)).length := by rw [YB ld.symm, ld]
  have l9 : (amV (yb t l)).length ≤ 8 := by rw [yk, xP]; exact few
  refine XN (xs := (yG b tk).map PyData.int) (ys := (yb t l).map yn) S11 (by walk_at "m") (by walk_at "m") fun J3 wk3 => ?_
  refine ya wk3 (fun j => .int ((xD (yG b tk) (amV (yb t l))).getD j 0)) (ys := (xD (yG b tk) (amV (yb t l))).map PyData.int) ?_ S11 (fun _ _ => ⟨.mem (by walk_at "mem"), fun _ _ h => h.tail, .mem (by walk_at "mem")⟩) ?_ (fun j x v B' G' Kd Kn hx t1 S hd C ex s0 H0 => ?_) fun D12 H12 e12 S12 => ?_
  ·rw [xq, List.length_map, List.length_map, ld, yk, Nat.min_self, ← yk, ← ll]
   exact zO (fun x => PyData.int x) 0 _
  ·rw [xq, List.length_map, List.length_map]; omega
  ·obtain ⟨x1, x2, h1, h2, rfl⟩ := ZY hx
   obtain ⟨n1, hn1, rfl⟩ := yu h1
   obtain ⟨c2, hc2, rfl⟩ := yu h2
   refine Zn (Zm S (by walk_at "m") fun w1 w2 S => ?_)
   cases S.int1
   refine xi (zX (xi (zX (Yv ⟨rfl, ?_⟩))))
   walk_at "walk"
   refine hd (by assumption) ?_
   rw [yp (show (xD (yG b tk) (amV (yb t l)))[j]? = some (n1 - c2.1) by unfold xD amV; rw [List.getElem?_zipWith, hn1, List.getElem?_map, hc2]; rfl)]
   exact Has.int
  walk_at "walk"
  refine XO (r := y) (l := yb (b - t) l) (tk := xD (yG b tk) (amV (yb t l))) S12.freeze (by walk_at "m") (by walk_at "m") (by walk_at "m") step fun H13 e13 S13 => ?_
  exact k _ S13.base
theorem zfK (B : Bl mg) (C_law_even : Cal P w K mg base CX0 1 "_law_even" ["_law_amounts", "_law_parts"] zdt) {fu : Addr} {fdu : FuncData} (Fu : Fun K "_law_upto_fit" "_law_upto_fit" yQ fu fdu) (hmu : mg "_law_upto_fit" = some (.ref fu)) (bu : xU K fdu ["_law_shape", "_law_claims_here", "_law_parts"] []) (F : Fun K "_law_fits" "_law_fits" Zy f fd) (hm : mg "_law_fits" = some (.ref f)) (bf : xU K fd ["_law_shape", "_law_claims_here", "_law_parts"] []) : ∀ n : Nat, FnOk P w K mg base CX0 (2 * n + 2) f fd ["_law_shape", "_law_claims_here", "_law_parts"] (Vl n) := by
 intro n
 induction n with
 | zero =>
   refine F.ok xC (fun vs H Q E h => ?_) (fun cdv A outer s H vs Q E hr h => ?_)
   ·obtain ⟨a, h, _⟩ := h
    rw [← h.len]; rfl
   obtain ⟨⟨r, l, tk⟩, _, ok, _⟩ := h
   dsimp only at ok
   exact absurd ok.dep (by have := zf4 r; omega)
 | succ n ih =>
   have C_law_fits : Cal P w K mg base CX0 (2 * n + 2) "_law_fits" ["_law_shape", "_law_claims_here", "_law_parts"] (Vl n) := zY F ih hm bf
   have C_law_upto_fit : Cal P w K mg base CX0 (2 * n + 3) "_law_upto_fit" ["_law_shape", "_law_claims_here", "_law_parts"] (zgL (n + 1)) := zY Fu (ok_upG B C_law_fits Fu) hmu bu
   refine F.ok xC (fun vs H Q E h => ?_) (fun cdv A outer s H vs Q E hr h => ?_)
   ·obtain ⟨a, h, _⟩ := h
    rw [← h.len]; rfl
   obtain ⟨⟨r, l, tk⟩, hA, ok, k⟩ := h
   obtain ⟨v0, v1, v2, rfl, al⟩ := XY hA
   dsimp only at ok al
   have S : Sta H H H [] [(r.shape, v0), (yg l, v1), (ZX tk, v2)] := Sta.enter (yc.refl _) al
   have few := ok.few
   have hn20 := ok.hn
   refine ⟨_, (zj (Ze (i := 3) (N := ["_law_claim"]) (n := 1) (fr := []) xC.nd rfl rfl rfl ⟨rfl, by decide +kernel, rfl, by decide, rfl, rfl, rfl, rfl, rfl⟩ (yY (pv 1)) (fun _ _ _ _ => (zP (i := 0) (show (["_law_claim"] : List Str).Nodup from by decide +kernel) rfl (by walk_at "o"))) (fun _ _ _ _ => yo) (fun _ _ _ _ => (zB zo (pv 0) zg (fun _ _ => rfl)))) (zj (zV (i := 4) xC.nd rfl (by walk_at "o") (zR (xQ rfl) rfl B.sum Wb (zd (pv 3) zh))) (zj (zV (i := 5) xC.nd rfl (by walk_at "o") (zR (xQ rfl) rfl B.sum Wb (zd (pv 2) zh))) (zj (Vx PassesOwn.never rfl (WL true true rfl B.zip (zd (pv 3) (zd (pv 2) zh))) (Yy rfl (ym (zP (i := 6) xC.nd rfl (by walk_at "o")) (ym (zP (i := 7) xC.nd rfl (by walk_at "o")) ZD))) (zk (yr (PW.pt (VV (zJ zaX (pv 7) zg (zN _)) (Uq (zJ zcL (pv 7) (pv 6) (zN _))))) (zk (zE WQ)) zL))) (zj (yr (zJ (yd (zH hr)) (zB zo (pv 0) zg (fun _ _ => rfl)) yh (zN _)) (zk (zE (UX (yd (zH hr)) (yZ (N := ["_law_part", "_law_whole_here"]) (n := 1) (fr := [4]) rfl ⟨rfl, by decide +kernel, rfl, by decide, rfl, rfl, rfl, rfl, rfl⟩ (yY (pv 2)) (fun _ _ _ _ => (zP (i := 0) (show (["_law_part", "_law_whole_here"] : List Str).Nodup from by decide +kernel) rfl (by walk_at "o"))) (fun _ _ _ _ => yo) (fun _ _ _ _ => (zC zS (pv 0) (pv 1)))) (yZ (N := ["_law_amount", "_law_purse_here"]) (n := 1) (fr := [5]) rfl ⟨rfl, by decide +kernel, rfl, by decide, rfl, rfl, rfl, rfl, rfl⟩ (yY (pv 3)) (fun _ _ _ _ => (zP (i := 0) (show (["_law_amount", "_law_purse_here"] : List Str).Nodup from by decide +kernel) rfl (by walk_at "o"))) (fun _ _ _ _ => yo) (fun _ _ _ _ => (zC zS (pv 0) (pv 1)))) (zN _)))) zL) (zj (yr (zJ (yd (zH hr)) (zB zo (pv 0) zg (fun _ _ => rfl)) yh (zN _)) (zk (zE (zv C_law_even hr (by walk_at "l") zK rfl (zd (pv 3) (zd (pv 2) zh))))) zL) (zj (yr (zJ (yd (zH hr)) (zB zo (pv 0) zg (fun _ _ => rfl)) yh (zN _)) (zk (zE (zv C_law_even hr (by walk_at "l") zK rfl (zd (pv 3) (zd (yZ (N := ["_law_amount", "_law_part"]) (n := 2) (fr := []) rfl ⟨rfl, by decide +kernel, rfl, by decide, rfl, rfl, rfl, rfl, rfl⟩ (WL true true rfl B.zip (zd (pv 3) (zd (pv 2) zh))) (fun _ _ _ _ => (Yy rfl (ym (zP (i := 0) (show (["_law_amount", "_law_part"] : List Str).Nodup from by decide +kernel) rfl (by walk_at "o")) (ym (zP (i := 1) (show (["_law_amount", "_law_part"] : List Str).Nodup from by decide +kernel) rfl (by walk_at "o")) ZD)))) (fun _ _ _ _ => yo) (fun _ _ _ _ => (zC Xj (pv 0) (pv 1)))) zh))))) zL) (zj (yr (zJ (yd (zH hr)) (zB zo (pv 0) zg (fun _ _ => rfl)) yh (zN _)) (zk (zE (zv C_law_fits hr (by walk_at "l") zK rfl (zd (yj (zd yh (zd (yj (zd zg (zd zg zh))) (zd (yj (zd yh zh)) (zd (yj (zd yh zh)) zh))))) (zd (pv 1) (zd (pv 2) zh)))))) zL) (zj (yr (zJ (yd (zH hr)) (zB zo (pv 0) zg (fun _ _ => rfl)) yh (zN _)) (zk (zE (zv C_law_fits hr (by walk_at "l") zK rfl (zd (zB zo (pv 0) zg (fun _ _ => rfl)) (zd (pv 1) (zd (yZ (N := ["_law_amount", "_law_part"]) (n := 2) (fr := []) rfl ⟨rfl, by decide +kernel, rfl, by decide, rfl, rfl, rfl, rfl, rfl⟩ (WL true true rfl B.zip (zd (pv 3) (zd (pv 2) zh))) (fun _ _ _ _ => (Yy rfl (ym (zP (i := 0) (show (["_law_amount", "_law_part"] : List Str).Nodup from by decide +kernel) rfl (by walk_at "o")) (ym (zP (i := 1) (show (["_law_amount", "_law_part"] : List Str).Nodup from by decide +kernel) rfl (by walk_at "o")) ZD)))) (fun _ _ _ _ => yo) (fun _ _ _ _ => (zC Xj (pv 0) (pv 1)))) zh)))))) zL) (zj (yr (zJ (yd (zH hr)) (zB zo (pv 0) zg (fun _ _ => rfl)) yh (zN _)) (zk Zh) zL) (zj (yr (zJ (yd (zH hr)) (zB zo (pv 0) zg (fun _ _ => rfl)) yh (zN _)) (zk Zh) zL) (zk (zE (zv C_law_upto_fit hr (by walk_at "l") zK rfl (zd (pv 0) (zd (pv 1) (zd (pv 2) zh))))))))))))))))), zu ?_⟩
   walk_at "walk"
   refine xp (xs := l.map yn) S (by walk_at "m") fun J wk => ?_
   refine ya wk (fun j => .int (l.getD j (0, 0, 0)).1) (ys := (amV l).map PyData.int) (by unfold amV; rw [List.length_map, List.map_map]; exact zO (fun c : Cl => PyData.int c.1) (0, 0, 0) l) S (fun _ _ => .mem (by walk_at "mem")) (by rw [List.length_map]; omega) (fun j x v B' G' Kd Kn hx t1 S hd C ex s0 H0 => ?_) fun D H1 e1 S1 => ?_
   ·obtain ⟨c, hc, rfl⟩ := yu hx
    refine zX ⟨rfl, ?_⟩
    walk_at "walk"
    refine hd (by assumption) ?_
    rw [yp hc]
    exact Has.int
   have S2 : Sta H H H1 [] [(ZX (amV l), .ref D), (r.shape, v0), (yg l, v1), (ZX tk, v2)] := S1.freeze
   clear S1
   have l8 : (amV l).length ≤ 8 := by rw [yk]; exact few
   have hsz := ok.sz
   have inb := ok.fit.inB
   walk_at "walk"
   refine XN (xs := (amV l).map PyData.int) (ys := tk.map PyData.int) S2 (by walk_at "m") (by walk_at "m") fun J2 wk2 => ?_
   refine VN wk2 (fun i σ cs ds => (∃ x6 x7, σ = [some v0, some v1, some v2, some (.ref D), some (.int (amV l).sum), some (.int tk.sum), x6, x7]) ∧ cs = [] ∧ ds = [(ZX (amV l), .ref D), (r.shape, v0), (yg l, v1), (ZX tk, v2)]) S2 ⟨⟨none, none, rfl⟩, rfl, rfl⟩ (fun i σ cs ds h => ?_) ?_ ?_
   ·obtain ⟨_, rfl, rfl⟩ := h
    exact ⟨.mem (by walk_at "mem"), fun _ _ h => h.tail, .mem (by walk_at "mem")⟩
   ·rintro i x u σ H2 cs ds hx ⟨⟨x6, x7, rfl⟩, rfl, rfl⟩ S3
    obtain ⟨xa, xb, h1, h2, rfl⟩ := ZY hx
    obtain ⟨a, ha, rfl⟩ := yu h1
    obtain ⟨p, hp, rfl⟩ := yu h2
    have b := inb.2 i a p ha hp
    refine Zn (Zm S3 (by walk_at "m") fun w1 w2 S4 => ?_)
    cases S4.int1
    cases S4.drop1.int1
    walk_at "walk"
    refine Yo (fun c => absurd c (by omega)) (fun _ => ?_)
    walk_at "walk"
    refine Yo (fun c => absurd c (by omega)) (fun _ => ?_)
    walk_at "walk"
    exact zbu (S4.dat (by walk_at "dats")) ⟨⟨_, _, rfl⟩, rfl, rfl⟩
   rintro σ H2 cs ds ⟨⟨x6, x7, rfl⟩, rfl, rfl⟩ S3
   clear S2 wk wk2
   cases r with
   | shares =>
     simp only [Rl.shape] at S3
     obtain ⟨it, ia⟩ := inb.inS l8 hsz
     have st := it.sum.2
     have sa := ia.sum.2
     walk_at "walk"
     refine xp (xs := tk.map PyData.int) S3 (by walk_at "m") fun J3 wk3 => ?_
     refine ya wk3 (fun j => .int (tk.getD j 0 * (amV l).sum)) (ys := (tk.map (· * (amV l).sum)).map PyData.int) (by rw [List.length_map, List.map_map]; exact zO (fun x : Int => PyData.int (x * (amV l).sum)) 0 tk) S3 (fun _ _ => .mem (by walk_at "mem")) (by rw [List.length_map, inb.1]; omega) (fun j x v B' G' Kd Kn hx t1 S hd C ex s0 H0 => ?_) fun D4 H4 e4 S4 => ?_
     ·obtain ⟨y, hy, rfl⟩ := yu hx
      cases S.int1
      have o : IntMulOk y (amV l).sum := (it.2 y (List.mem_of_getElem? hy)).2.mulOk sa (by omega)
      refine zX ⟨rfl, ?_⟩
      walk_at "walk"
      refine hd S ?_
      rw [yp hy]
      exact Has.int
     walk_at "walk"
     refine xp (xs := (amV l).map PyData.int) S4 (by walk_at "m") fun J5 wk5 => ?_
     refine ya wk5 (fun j => .int ((amV l).getD j 0 * tk.sum)) (ys := ((amV l).map (· * tk.sum)).map PyData.int) (by rw [List.length_map, List.map_map]; exact zO (fun x : Int => PyData.int (x * tk.sum)) 0 (amV l)) S4 (fun _ _ => .mem (by walk_at "mem")) (by rw [List.length_map]; omega) (fun j x v B' G' Kd Kn hx t1 S hd C ex s0 H0 => ?_) fun D6 H6 e6 S6 => ?_
     ·obtain ⟨y, hy, rfl⟩ := yu hx
      cases S.int1
      have o : IntMulOk y tk.sum := (ia.2 y (List.mem_of_getElem? hy)).2.mulOk st (by omega)
      refine zX ⟨rfl, ?_⟩
      walk_at "walk"
      refine hd S ?_
      rw [yp hy]
      exact Has.int
     refine rd_eqD (x := ZX (tk.map (· * (amV l).sum))) (y := ZX ((amV l).map (· * tk.sum))) (S6.hpC (by walk_at "mem")) (S6.hpC (by walk_at "mem")) (Ug _) (Ug _) ?_
     rw [zh1, decide_eq_true (show tk.map (· * (amV l).sum) = (amV l).map (· * tk.sum) from ok.fit.shares)]
     exact k _ S6.base
   | evenly =>
     simp only [Rl.shape] at S3
     walk_at "walk"
     refine zdP S3 (by walk_at "m") (by walk_at "m") l8 ok.fit.evenly fun H4 e4 S4 => ?_
     exact k _ S4.base
   | losses =>
     simp only [Rl.shape] at S3
     walk_at "walk"
     refine XN (xs := (amV l).map PyData.int) (ys := tk.map PyData.int) S3 (by walk_at "m") (by walk_at "m") fun J3 wk3 => ?_
     have ll : (xD (amV l) tk).length = (amV l).length := YB inb.1
     refine ya wk3 (fun j => .int ((xD (amV l) tk).getD j 0)) (ys := (xD (amV l) tk).map PyData.int) ?_ S3 (fun _ _ => ⟨.mem (by walk_at "mem"), fun _ _ h => h.tail, .mem (by walk_at "mem")⟩) ?_ (fun j x v B' G' Kd Kn hx t1 S hd C ex s0 H0 => ?_) fun D4 H4 e4 S4 => ?_
     ·rw [xq, List.length_map, List.length_map, inb.1, Nat.min_self, ← ll]
      exact zO (fun x => PyData.int x) 0 _
     ·rw [xq, List.length_map, List.length_map]; omega
     ·obtain ⟨x1, x2, h1, h2, rfl⟩ := ZY hx
      obtain ⟨n1, hn1, rfl⟩ := yu h1
      obtain ⟨n2, hn2, rfl⟩ := yu h2
      refine Zn (Zm S (by walk_at "m") fun w1 w2 S => ?_)
      cases S.int1
      cases S.drop1.int1
      refine xi (zX (xi (zX (Yv ⟨rfl, ?_⟩))))
      walk_at "walk"
      refine hd S ?_
      rw [yp (show (xD (amV l) tk)[j]? = some (n1 - n2) by unfold xD; rw [List.getElem?_zipWith, hn1, hn2])]
      exact Has.int
     walk_at "walk"
     refine zdP (am := amV l) (tk := xD (amV l) tk) S4.freeze (by walk_at "m") (by walk_at "m") l8 ok.fit.losses fun H5 e5 S5 => ?_
     exact k _ S5.base
   | halves =>
     simp only [Rl.shape] at S3
     walk_at "walk"
     rename_i p4 H4 e4 S4
     refine XO (r := .upto 1 2 .evenly .losses) (l := l) (tk := tk) S4 (by walk_at "m") (by walk_at "m") (by walk_at "m") ok.halves fun H5 e5 S5 => ?_
     exact k _ S5.base
   | other r =>
     simp only [Rl.shape] at S3
     walk_at "walk"
     rename_i w4 S4'
     have S3 := S4'
     refine XN (xs := (amV l).map PyData.int) (ys := tk.map PyData.int) S3 (by walk_at "m") (by walk_at "m") fun J3 wk3 => ?_
     have ll : (xD (amV l) tk).length = (amV l).length := YB inb.1
     refine ya wk3 (fun j => .int ((xD (amV l) tk).getD j 0)) (ys := (xD (amV l) tk).map PyData.int) ?_ S3 (fun _ _ => ⟨.mem (by walk_at "mem"), fun _ _ h => h.tail, .mem (by walk_at "mem")⟩) ?_ (fun j x v B' G' Kd Kn hx t1 S hd C ex s0 H0 => ?_) fun D4 H4 e4 S4 => ?_
     ·rw [xq, List.length_map, List.length_map, inb.1, Nat.min_self, ← ll]
      exact zO (fun x => PyData.int x) 0 _
     ·rw [xq, List.length_map, List.length_map]; omega
     ·obtain ⟨x1, x2, h1, h2, rfl⟩ := ZY hx
      obtain ⟨n1, hn1, rfl⟩ := yu h1
      obtain ⟨n2, hn2, rfl⟩ := yu h2
      refine Zn (Zm S (by walk_at "m") fun w1 w2 S => ?_)
      cases S.int1
      cases S.drop1.int1
      refine xi (zX (xi (zX (Yv ⟨rfl, ?_⟩))))
      walk_at "walk"
      refine hd S ?_
      rw [yp (show (xD (amV l) tk)[j]? = some (n1 - n2) by unfold xD; rw [List.getElem?_zipWith, hn1, hn2])]
      exact Has.int
     walk_at "walk"
     refine XO (r := r) (l := l) (tk := xD (amV l) tk) S4.freeze (by walk_at "m") (by walk_at "m") (by walk_at "m") ok.other fun H5 e5 S5 => ?_
     exact k _ S5.base
   | upto t b x y =>
     have S4 := S3
     simp only [Rl.shape] at S3
     walk_at "walk"
     refine rd_upG (t := t) (b := b) (x := x) (y := y) (l := l) (tk := tk) S4 (by walk_at "m") (by walk_at "m") (by walk_at "m") ok fun H5 e5 S5 => ?_
     exact k _ S5.base
   | ranks r => exact ok.plain.elim
   | groups a b => exact ok.plain.elim
abbrev xY : Stmt := top 75
theorem xG : FnScope ["_law_shape", "_law_claims_here", "_law_purse_here", "_law_parts", "_law_by", "_law_part", "_law_told", "_law_due"] ["_law_shape", "_law_claims_here", "_law_purse_here", "_law_parts"] (zi xY) := ⟨rfl, rfl, rfl, by decide +kernel, rfl, by decide +kernel, by decide +kernel⟩
theorem zea (B : Bl mg) (C_law_is_fraction : Cal P w K mg base CX0 2 "_law_is_fraction" ["_law_found"] zds) (C_law_divisor : Cal P w K mg base CX0 1 "_law_divisor" ["_law_one", "_law_two"] zay) (C_law_fits : Cal P w K mg base CX0 12 "_law_fits" ["_law_shape", "_law_claims_here", "_law_parts"] (Vl 5)) (F : Fun K "_law_right" "_law_right" xY f fd) : FnOk P w K mg base CX0 13 f fd ["_law_shape", "_law_claims_here", "_law_purse_here", "_law_parts"] UF := by
 refine F.ok xG (fun vs H Q E h => ?_) (fun cdv A outer s H vs Q E hr h => ?_)
 ·obtain ⟨a, h, _⟩ := h
  rw [← h.len]; rfl
 obtain ⟨⟨r, l, e⟩, hA, ⟨⟨⟨pl, hdp⟩, ok⟩, ze, e0⟩, k⟩ := h
 obtain ⟨v0, v1, v2, v3, rfl, al⟩ := zhX hA
 dsimp only at pl hdp ok ze e0 al
 have S : Sta H H H [] [(r.shape, v0), (yg l, v1), (frD e, v2), (xN (zA (yI r l) e), v3)] := Sta.enter (yc.refl _) al
 have g := pl.good (l := l) ok
 have hsz : ∀ p ∈ zA (yI r l) e, SzQ 1924 p := zaV ze (pl.R (l := l) ok).sz
 have hlen : (zA (yI r l) e).length = l.length := g.std.len
 have key := fun B (hB : 0 < B) de hd => zcZ (B := B) (e := e) g hB e0 de hd
 have few := ok.few
 generalize zA (yI r l) e = ps at *
 have hv := S.hp (x := xN ps) (v := v3) (by walk_at "m")
 refine ⟨_, (zj (yr (PW.pt (VV (WK (XR (zR Ve rfl B.isinstance xR (zd (pv 3) (zd (UY (v := .ty "tuple") rfl B.tuple Yj rfl) zh))))) (Uq (zJ (VD (zH hr)) (zR xu rfl B.len YE (zd (pv 3) zh)) (zR xu rfl B.len YE (zd (pv 1) zh)) (zN _))))) (zk (zE WQ)) zL) (zj (zV (i := 4) xG.nd rfl (by walk_at "o") (zB zo (pv 2) zg (fun _ _ => rfl))) (zj (Vx PassesOwn.never rfl (zd1 (pv 3)) (zP (i := 5) xG.nd rfl (by walk_at "o")) (zj (yr (WK (XR (zv C_law_is_fraction hr (by walk_at "l") zK rfl (zd (pv 5) zh)))) (zk (zE WQ)) zL) (zk (zV (i := 4) xG.nd rfl (by walk_at "o") (zC zS (zC Yd (pv 4) (zv C_law_divisor hr (by walk_at "l") zK rfl (zd (pv 4) (zd (zB zo (pv 5) zg (fun _ _ => rfl)) zh)))) (zB zo (pv 5) zg (fun _ _ => rfl))))))) (zj (Ze (i := 6) (N := ["_law_part", "_law_by"]) (n := 1) (fr := [4]) xG.nd rfl rfl rfl ⟨rfl, by decide +kernel, rfl, by decide, rfl, rfl, rfl, rfl, rfl⟩ (zd1 (pv 3)) (fun _ _ _ _ => (zP (i := 0) (show (["_law_part", "_law_by"] : List Str).Nodup from by decide +kernel) rfl (by walk_at "o"))) (fun _ _ _ _ => yo) (fun _ _ _ _ => (zC zS (zB zo (pv 0) zg (fun _ _ => rfl)) (zC Yd (pv 1) (zB zo (pv 0) zg (fun _ _ => rfl)))))) (zj (zV (i := 7) xG.nd rfl (by walk_at "o") (zR (za6 rfl) rfl B.min zeT (zd (zC zS (zB zo (pv 2) zg (fun _ _ => rfl)) (zC Yd (pv 4) (zB zo (pv 2) zg (fun _ _ => rfl)))) (zd (zC zS (pv 4) (zR (xQ rfl) rfl B.sum Wb (zd (yZ (N := ["_law_claim"]) (n := 1) (fr := []) rfl ⟨rfl, by decide +kernel, rfl, by decide, rfl, rfl, rfl, rfl, rfl⟩ (yY (pv 1)) (fun _ _ _ _ => (zP (i := 0) (show (["_law_claim"] : List Str).Nodup from by decide +kernel) rfl (by walk_at "o"))) (fun _ _ _ _ => yo) (fun _ _ _ _ => (zB zo (pv 0) zg (fun _ _ => rfl)))) zh))) zh)))) (zj (yr (zJ (VD (zH hr)) (zR (xQ rfl) rfl B.sum Wb (zd (pv 6) zh)) (pv 7) (zN _)) (zk (zE WQ)) zL) (zk (zE (zv C_law_fits hr (by walk_at "l") zK rfl (zd (pv 0) (zd (yZ (N := ["_law_claim", "_law_by"]) (n := 1) (fr := [4]) rfl ⟨rfl, by decide +kernel, rfl, by decide, rfl, rfl, rfl, rfl, rfl⟩ (yY (pv 1)) (fun _ _ _ _ => (zP (i := 0) (show (["_law_claim", "_law_by"] : List Str).Nodup from by decide +kernel) rfl (by walk_at "o"))) (fun _ _ _ _ => yo) (fun _ _ _ _ => (yj (zd (zC zS (pv 1) (zB zo (pv 0) zg (fun _ _ => rfl))) (zd (zB zo (pv 0) zg (fun _ _ => rfl)) (zd (zB zo (pv 0) zg (fun _ _ => rfl)) zh)))))) (zd (pv 6) zh)))))))))))), zu ?_⟩
 walk_at "walk"
 refine zfV (by rw [List.length_map, List.length_map, hlen]) ?_
 walk_at "walk"
 refine zbt (xs := ps.map frD) S (by walk_at "m") fun J wk => ?_
 refine VN wk (fun i σ cs ds => ∃ (b : Int) (x5 x6 x7 : Option V), σ = [some v0, some v1, some v2, some v3, some (.int b), x5, x6, x7] ∧ cs = [] ∧ ds = [(r.shape, v0), (yg l, v1), (frD e, v2), (xN ps, v3)] ∧ 0 < b ∧ Sz (300 + i * 1924) b ∧ (e.den : Int) ∣ b ∧ ∀ j p, j < i → ps[j]? = some p → (p.den : Int) ∣ b) S
  ⟨(e.den : Int), none, none, none, rfl, rfl, rfl, den_pos e, ze.2.mono (by omega), ⟨1, by rw [Int.mul_one]⟩, fun j p hj => absurd hj (Nat.not_lt_zero _)⟩ (fun i σ cs ds h => ?_) ?_ ?_
 ·obtain ⟨_, _, _, _, _, _, rfl, _⟩ := h
  exact .mem (by walk_at "mem")
 ·rintro i x u σ H2 cs ds hx ⟨b, x5, x6, x7, rfl, rfl, rfl, b0, zb, de, hd⟩ S2
  obtain ⟨p, hp, rfl⟩ := yu hx
  have zp := hsz p (List.mem_of_getElem? hp)
  have pd := den_pos p
  have st := zfS b0 pd
  walk_at "walk"
  refine zho S2 (by walk_at "m") fun H3 S3 => ?_
  have gp : 0 < Int.gcd b (p.den : Int) := Int.gcd_pos_of_ne_zero_right b (by omega)
  have hc : CDv b ((Int.gcd b (p.den : Int) : Nat) : Int) := ⟨by omega, by
   refine (Sz.le zp.2 ?_).mono (by decide)
   have := Nat.le_of_dvd (by omega) (Int.gcd_dvd_natAbs_right b (p.den : Int))
   omega⟩
  have qn : 0 ≤ b.fdiv ((Int.gcd b (p.den : Int) : Nat) : Int) := by
   rw [Int.fdiv_eq_ediv_of_nonneg _ (by omega)]
   exact Int.ediv_nonneg (by omega) (by omega)
  have ql : b.fdiv ((Int.gcd b (p.den : Int) : Nat) : Int) ≤ b := by
   rw [Int.fdiv_eq_ediv_of_nonneg _ (by omega)]
   exact Int.ediv_le_self _ (by omega)
  have zq := Vf qn ql zb
  have hi : i < ps.length := (List.getElem?_eq_some_iff.mp hp).1
  have o : IntMulOk (b.fdiv ((Int.gcd b (p.den : Int) : Nat) : Int)) (p.den : Int) := zq.mulOk zp.2 (by omega)
  walk_at "walk"
  refine zbu ((by assumption : Sta H H H3 [] _).dat (by walk_at "dats")) ⟨_, _, _, _, rfl, rfl, rfl, st.1, (zq.mul zp.2).mono (by omega), Int.dvd_trans de st.2.1, fun j q hj hq => ?_⟩
  by_cases hji : j < i
  ·exact Int.dvd_trans (hd j q hji hq) st.2.1
  ·have : j = i := by omega
   subst this
   rw [hp] at hq
   cases hq
   exact st.2.2
 rintro σ H2 cs ds ⟨b, x5, x6, x7, rfl, rfl, rfl, b0, zb, de, hd⟩ S2
 rw [List.length_map, hlen] at zb
 have zb : Sz 28000 b := zb.mono (by omega)
 have hdv : ∀ p ∈ ps, (p.den : Int) ∣ b := fun p hp => by
  obtain ⟨j, hj, rfl⟩ := List.getElem_of_mem hp
  exact hd j _ (by rw [List.length_map]; exact hj) (List.getElem?_eq_getElem hj)
 obtain ⟨ks, kf⟩ := key b b0 de hdv
 have dq : ∀ d : Int, 0 < d → 0 ≤ b.fdiv d ∧ b.fdiv d ≤ b := fun d hd0 => by
  rw [Int.fdiv_eq_ediv_of_nonneg _ (by omega)]
  exact ⟨Int.ediv_nonneg (by omega) (by omega), Int.ediv_le_self _ (by omega)⟩
 walk_at "walk"
 refine zbt (xs := ps.map frD) S2 (by walk_at "m") fun J3 wk3 => ?_
 refine ya wk3 (fun j => .int ((tkV b ps).getD j 0)) (ys := (tkV b ps).map PyData.int) (by rw [List.length_map, show ps.length = (tkV b ps).length by unfold tkV; rw [List.length_map]]; exact zO (fun x => PyData.int x) 0 _) S2 (fun _ _ => .mem (by walk_at "mem")) (by rw [List.length_map]; omega) (fun j x v B' G' Kd Kn hx t1 S hd C ex s0 H0 => ?_) fun D4 H4 e4 S4 => ?_
 ·obtain ⟨p, hp, rfl⟩ := yu hx
  have zp := hsz p (List.mem_of_getElem? hp)
  have pd := den_pos p
  have hc : CDv b (p.den : Int) := ⟨by omega, zp.2.mono (by decide)⟩
  have o : IntMulOk p.num (b.fdiv (p.den : Int)) := zp.1.mulOk (Vf (dq _ pd).1 (dq _ pd).2 zb) (by decide)
  refine zX ⟨rfl, ?_⟩
  walk_at "walk"
  refine hd (by assumption) ?_
  rw [yp (show (tkV b ps)[j]? = some (p.num * b.fdiv (p.den : Int)) by unfold tkV; rw [List.getElem?_map, hp]; rfl)]
  exact Has.int
 have S5 := S4.freeze
 have ed := den_pos e
 have hce : CDv b (e.den : Int) := ⟨by omega, ze.2.mono (by decide)⟩
 have o1 : IntMulOk e.num (b.fdiv (e.den : Int)) := ze.1.mulOk (Vf (dq _ ed).1 (dq _ ed).2 zb) (by decide)
 have o2 : IntMulOk b (amV l).sum := zb.mulOk ok.am.sum.2 (by decide)
 walk_at "walk"
 refine xp (xs := l.map yn) (by assumption) (by walk_at "m") fun J6 wk6 => ?_
 refine ya wk6 (fun j => .int (l.getD j (0, 0, 0)).1) (ys := (amV l).map PyData.int) (by unfold amV; rw [List.length_map, List.map_map]; exact zO (fun c : Cl => PyData.int c.1) (0, 0, 0) l) (by assumption) (fun _ _ => .mem (by walk_at "mem")) (by rw [List.length_map]; omega) (fun j x v B' G' Kd Kn hx t1 S hd C ex s0 H0 => ?_) fun D6 H6 e6 S6 => ?_
 ·obtain ⟨c, hc, rfl⟩ := yu hx
  refine zX ⟨rfl, ?_⟩
  walk_at "walk"
  refine hd (by assumption) ?_
  rw [yp hc]
  exact Has.int
 walk_at "walk"
 refine zfV ks ?_
 have S7 := S6.freeze
 walk_at "walk"
 refine xp (xs := l.map yn) S7 (by walk_at "m") fun J8 wk8 => ?_
 refine ya wk8 (fun j => yn ((fun c : Cl => ((b * c.1, c.2) : Cl)) (l.getD j (0, 0, 0)))) (ys := (yb b l).map yn) (by
  unfold yb; rw [List.map_map, List.length_map]; exact zO (fun c : Cl => yn ((b * c.1, c.2) : Cl)) (0, 0, 0) l) S7 (fun _ _ => .mem (by walk_at "mem")) (by rw [List.length_map]; omega) (fun j x v B' G' Kd Kn hx t1 S hd C ex s0 H0 => ?_) fun D8 H8 e8 S8 => ?_
 ·obtain ⟨c, hc, rfl⟩ := yu hx
  have o : IntMulOk b c.1 := zb.mulOk (ok.sz c (List.mem_of_getElem? hc)) (by decide)
  refine zX ⟨rfl, ?_⟩
  walk_at "walk"
  refine hd (by assumption) ?_
  rw [yp hc]
  exact .mem (by walk_at "mem")
 walk_at "walk"
 refine XO (r := r) (l := yb b l) (tk := tkV b ps) S8.freeze (by walk_at "m") (by walk_at "m") (by walk_at "m") (by exact ⟨pl.plain, hdp, by decide, by rw [xP]; exact few, fun x hx => by rw [YF] at hx; obtain ⟨a, ha, rfl⟩ := List.mem_map.mp hx; exact (zb.mul (ok.am.2 a ha).2).mono (by decide), kf⟩) fun H9 e9 S9 => ?_
 exact k _ S9.base
abbrev Zx : Stmt := top 76
theorem Vr : FnScope ["_law_shape"] ["_law_shape"] (zi Zx) := ⟨rfl, rfl, rfl, by decide +kernel, rfl, by decide +kernel, by decide +kernel⟩
section
variable {A : RAd}
theorem zfD (mShares : WT P w K mg base "Shares" (A.cls .shares) ["self"] (xF (A.cls .shares) (α := Unit) (fun _ => []) (fun _ => Rl.shares.shape))) (mEvenly : WT P w K mg base "Evenly" (A.cls .evenly) ["self"] (xF (A.cls .evenly) (α := Unit) (fun _ => []) (fun _ => Rl.evenly.shape))) (mLosses : WT P w K mg base "Losses" (A.cls .losses) ["self"] (xF (A.cls .losses) (α := Unit) (fun _ => []) (fun _ => Rl.losses.shape))) (mHalves : WT P w K mg base "Halves" (A.cls .halves) ["self"] (xF (A.cls .halves) (α := Unit) (fun _ => []) (fun _ => Rl.halves.shape))) (mOther : WT P w K mg base "Other" (A.cls (.other .shares)) ["self", "inner"] (xF (A.cls (.other .shares)) (α := Rl) (fun r => [r.ins A]) (fun r => (Rl.other r).shape))) (mUpto : WT P w K mg base "Upto" (A.cls (.upto 0 0 .shares .shares)) ["self", "portion", "first", "last"] (xF (A.cls (.upto 0 0 .shares .shares)) (α := (Int × Int) × Rl × Rl) (fun r => [.tuple [.int r.1.1, .int r.1.2], r.2.1.ins A, r.2.2.ins A]) (fun r => (Rl.upto r.1.1 r.1.2 r.2.1 r.2.2).shape))) (F : Fun K "_law_rule" "_law_rule" Zx f fd) (hm : mg "_law_rule" = some (.ref f)) (b : xU K fd ["_law_shape"] []) : ∀ n : Nat, FnOk P w K mg base CX0 (n + 4) f fd ["_law_shape"] (UE A n) := by
 obtain ⟨f_Shares, fd_Shares, MK_Shares, F_Shares__init, b_Shares__init, g_Shares⟩ := mShares
 obtain ⟨f_Evenly, fd_Evenly, MK_Evenly, F_Evenly__init, b_Evenly__init, g_Evenly⟩ := mEvenly
 obtain ⟨f_Losses, fd_Losses, MK_Losses, F_Losses__init, b_Losses__init, g_Losses⟩ := mLosses
 obtain ⟨f_Halves, fd_Halves, MK_Halves, F_Halves__init, b_Halves__init, g_Halves⟩ := mHalves
 obtain ⟨f_Other, fd_Other, MK_Other, F_Other__init, b_Other__init, g_Other⟩ := mOther
 obtain ⟨f_Upto, fd_Upto, MK_Upto, F_Upto__init, b_Upto__init, g_Upto⟩ := mUpto
 intro n
 induction n with
 | zero =>
   refine F.ok Vr (fun vs H Q E h => ?_) (fun cdv A' outer s H vs Q E hr h => ?_)
   ·obtain ⟨G, a, _, h, _⟩ := h
    rw [← h.len]; rfl
   obtain ⟨G, r, _, _, ⟨_, hd⟩, _⟩ := h
   exact absurd hd (by cases r <;> simp [Rl.deep])
 | succ n ih =>
   have C_law_rule : Cal P w K mg base CX0 (n + 4) "_law_rule" ["_law_shape"] (UE A n) := zY F ih hm b
   refine F.ok Vr (fun vs H Q E h => ?_) (fun cdv A' outer s H vs Q E hr h => ?_)
   ·obtain ⟨G, a, _, h, _⟩ := h
    rw [← h.len]; rfl
   obtain ⟨G, r, eG, hA, ⟨pl, hd⟩, k⟩ := h
   obtain ⟨v, rfl, al⟩ := Ym hA
   have S : Sta H G H [] [(r.shape, v)] := Sta.enter eG al
   refine ⟨_, (zj (yr (zJ (yd (zH hr)) (zB zo (pv 0) zg (fun _ _ => rfl)) yh (zN _)) (zk (zE (Va MK_Shares (F_Shares__init.mono (by walk_at "l")) hr rfl g_Shares b_Shares__init .nil zK))) zL) (zj (yr (zJ (yd (zH hr)) (zB zo (pv 0) zg (fun _ _ => rfl)) yh (zN _)) (zk (zE (Va MK_Evenly (F_Evenly__init.mono (by walk_at "l")) hr rfl g_Evenly b_Evenly__init .nil zK))) zL) (zj (yr (zJ (yd (zH hr)) (zB zo (pv 0) zg (fun _ _ => rfl)) yh (zN _)) (zk (zE (Va MK_Losses (F_Losses__init.mono (by walk_at "l")) hr rfl g_Losses b_Losses__init .nil zK))) zL) (zj (yr (zJ (yd (zH hr)) (zB zo (pv 0) zg (fun _ _ => rfl)) yh (zN _)) (zk (zE (Va MK_Halves (F_Halves__init.mono (by walk_at "l")) hr rfl g_Halves b_Halves__init .nil zK))) zL) (zj (yr (zJ (yd (zH hr)) (zB zo (pv 0) zg (fun _ _ => rfl)) yh (zN _)) (zk (zE (zd4 MK_Other (F_Other__init.mono (by walk_at "l")) hr rfl g_Other b_Other__init .nil zK (zd (zv C_law_rule hr (by walk_at "l") zK rfl (zd (zB zo (pv 0) zg (fun _ _ => rfl)) zh)) zh)))) zL) (zj (yr (zJ (yd (zH hr)) (zB zo (pv 0) zg (fun _ _ => rfl)) yh (zN _)) (zk Zh) zL) (zj (yr (zJ (yd (zH hr)) (zB zo (pv 0) zg (fun _ _ => rfl)) yh (zN _)) (zk Zh) zL) (zk (zE (zd4 MK_Upto (F_Upto__init.mono (by walk_at "l")) hr rfl g_Upto b_Upto__init .nil zK (zd (zB zo (pv 0) zg (fun _ _ => rfl)) (zd (zv C_law_rule hr (by walk_at "l") zK rfl (zd (zB zo (pv 0) zg (fun _ _ => rfl)) zh)) (zd (zv C_law_rule hr (by walk_at "l") zK rfl (zd (zB zo (pv 0) zg (fun _ _ => rfl)) zh)) zh))))))))))))), zu ?_⟩
   cases r with
   | shares =>
     simp only [Rl.shape] at S
     walk_at "walk"
     refine YT () S yy.nil fun x1 H1 e1 S1 => ?_
     exact Zr S1 k (by walk_at "m")
   | evenly =>
     simp only [Rl.shape] at S
     walk_at "walk"
     refine YT () S yy.nil fun x1 H1 e1 S1 => ?_
     exact Zr S1 k (by walk_at "m")
   | losses =>
     simp only [Rl.shape] at S
     walk_at "walk"
     refine YT () S yy.nil fun x1 H1 e1 S1 => ?_
     exact Zr S1 k (by walk_at "m")
   | halves =>
     simp only [Rl.shape] at S
     walk_at "walk"
     refine YT () S yy.nil fun x1 H1 e1 S1 => ?_
     exact Zr S1 k (by walk_at "m")
   | other r =>
     simp only [Rl.shape] at S
     walk_at "walk"
     rename_i w1 S1
     refine WZ (r := r) S1 (by walk_at "m") pl (by simp only [Rl.deep] at hd; omega) fun w2 H2 e2 S2 => ?_
     walk_at "walk"
     refine YT r S2 (yy.cons (by walk_at "m") yy.nil) fun x1 H3 e3 S3 => ?_
     exact Zr S3 k (by walk_at "m")
   | upto t b x y =>
     have dx : x.deep ≤ n := by simp only [Rl.deep] at hd; omega
     have dy : y.deep ≤ n := by simp only [Rl.deep] at hd; omega
     simp only [Rl.shape] at S
     walk_at "walk"
     rename_i w1 S1 w2 S2
     refine WZ (r := x) S2 (by walk_at "m") pl.2.1 dx fun w3 H3 e3 S3 => ?_
     walk_at "walk"
     rename_i w4 S4
     refine WZ (r := y) S4 (by walk_at "m") pl.2.2 dy fun w5 H5 e5 S5 => ?_
     walk_at "walk"
     refine YT (((t, b), x, y) : (Int × Int) × Rl × Rl) S5 (yy.cons (by walk_at "m") (yy.cons (by walk_at "m") (yy.cons (by walk_at "m") yy.nil))) fun x1 H6 e6 S6 => ?_
     exact Zr S6 k (by walk_at "m")
   | ranks r => exact pl.elim
   | groups a b => exact pl.elim
end
abbrev xv : Stmt := top 78
theorem Xe : FnScope ["_law_cell", "_law_number"] ["_law_cell"] (zi xv) := ⟨rfl, rfl, rfl, by decide +kernel, rfl, by decide +kernel, by decide +kernel⟩
theorem zfG (F : Fun K "_law_portion" "_law_portion" xv f fd) : FnOk P w K mg base CX0 1 f fd ["_law_cell"] zbn := by
 refine F.ok Xe (fun vs H Q E h => ?_) (fun cdv A' outer s H vs Q E hr h => ?_)
 ·obtain ⟨G, c, rfl, _⟩ := h
  rfl
 obtain ⟨G, c, rfl, eG, k⟩ := h
 have S : Sta H G H [] [] := Sta.enter eG fun p hp => absurd hp List.not_mem_nil
 refine ⟨_, (zj (zV (i := 1) Xe.nd rfl (by walk_at "o") (zC xg (pv 0) (zC VC zg zg))) (zj (yr (zJ (yd (zH hr)) (zC xg (pv 1) zg) zg (zN _)) (zk (zE (yj (zd zg (zd (zC yx zg (zC xg (zC Zf (pv 1) zg) zg)) zh))))) zL) (zj (yr (zJ (yd (zH hr)) (zC xg (pv 1) zg) zg (zN _)) (zk (zE (yj (zd (zC yx zg (zC xg (zC Zf (pv 1) zg) zg)) (zd zg zh))))) zL) (zk (zE (yj (zd (zC yx zg (zC xg (zC Zf (pv 1) zg) zg)) (zd (zC yx zg (zC xg (zC Zf (pv 1) zg) zg)) zh)))))))), zu ?_⟩
 walk_at "walk"
 generalize c % 10 ^ Int.toNat 9 = m at *
 have hm : 0 ≤ m / 3 % 60 ∧ m / 3 % 60 < 60 := by omega
 have sm : ∀ t b : Int, 0 < t → t < b → b ≤ 61 → Int.gcd t b = 1 → Small t b := fun t b h1 h2 h3 h4 => ⟨⟨⟨by unfold Sz; omega, by unfold Sz; omega⟩, h1, h2, h4⟩, h3⟩
 refine Yo (fun _ => ?_) (fun _ => ?_)
 ·walk_at "walk"
  exact zdE (by assumption) k (by walk_at "m") (sm _ _ (by decide) (by omega) (by omega) (by rw [Int.gcd_one_left]))
 walk_at "walk"
 refine Yo (fun _ => ?_) (fun _ => ?_)
 ·walk_at "walk"
  refine zdE (by assumption) k (by walk_at "m") (sm _ _ (by omega) (by omega) (by omega) ?_)
  obtain ⟨i, hi, e⟩ : ∃ i : Nat, i < 60 ∧ m / 3 % 60 = (i : Int) := ⟨(m / 3 % 60).toNat, by omega, by omega⟩
  rw [e]
  clear e hm
  revert hi
  revert i
  decide +kernel
 walk_at "walk"
 refine zdE (by assumption) k (by walk_at "m") (sm _ _ (by omega) (by omega) (by omega) ?_)
 obtain ⟨i, hi, e⟩ : ∃ i : Nat, i < 60 ∧ m / 3 % 60 = (i : Int) := ⟨(m / 3 % 60).toNat, by omega, by omega⟩
 rw [e]
 clear e hm
 revert hi
 revert i
 decide +kernel
abbrev Zb : Stmt := top 79
theorem Zj : FnScope ["_law_cell", "_law_portion_here", "_law_flat", "_law_one", "_law_two", "_law_kind"] ["_law_cell", "_law_portion_here"] (zi Zb) := ⟨rfl, rfl, rfl, by decide +kernel, rfl, by decide +kernel, by decide +kernel⟩
theorem zfL (F : Fun K "_law_drawn" "_law_drawn" Zb f fd) : FnOk P w K mg base CX0 1 f fd ["_law_cell", "_law_portion_here"] zbp := by
 refine F.ok Zj (fun vs H Q E h => ?_) (fun cdv A' outer s H vs Q E hr h => ?_)
 ·obtain ⟨G, c, t, b, _, h, _⟩ := h
  rw [← h.len]; rfl
 obtain ⟨G, c, t, b, eG, hA, sm, k⟩ := h
 obtain ⟨v0, v1, rfl, al⟩ := Zq hA
 have S : Sta H G H [] [(.int c, v0), (.tuple [.int t, .int b], v1)] := Sta.enter eG al
 cases S.int1
 refine ⟨_, (zj (zV (i := 2) Zj.nd rfl (by walk_at "o") (ZR (zd (yj (zd yh zh)) (zd (yj (zd yh zh)) (zd (yj (zd yh zh)) (zd (yj (zd yh zh)) zh)))))) (zj (zV (i := 3) Zj.nd rfl (by walk_at "o") (zB zo (pv 2) (zC xg (zC Zf (pv 0) zg) zg) (fun _ _ => rfl))) (zj (zV (i := 4) Zj.nd rfl (by walk_at "o") (zB zo (pv 2) (zC xg (zC Zf (pv 0) zg) zg) (fun _ _ => rfl))) (zj (zV (i := 5) Zj.nd rfl (by walk_at "o") (zC xg (pv 0) zg)) (zj (yr (zJ (yd (zH hr)) (pv 5) zg (zN _)) (zk (zE (yj (zd yh (zd (pv 3) zh))))) zL) (zj (yr (zJ (yd (zH hr)) (pv 5) zg (zN _)) (zk (zE (yj (zd yh (zd (yj (zd yh (zd (pv 1) (zd (pv 3) (zd (pv 4) zh))))) zh))))) zL) (zj (yr (zJ (yd (zH hr)) (pv 5) zg (zN _)) (zk (zE (yj (zd yh (zd (pv 1) (zd (pv 3) (zd (yj (zd yh (zd (pv 4) zh))) zh))))))) zL) (zk (zE (yj (zd yh (zd (pv 1) (zd (pv 3) (zd (pv 4) zh)))))))))))))), zu ?_⟩
 walk_at "walk"
 rename_i q1 G1 i1 T1 q2 G2 i2 T2 q3 G3 i3 T3 q4 G4 i4 T4 q5 G5 i5 T5
 have pick : ∀ i : Int, ∃ n, n < 4 ∧ atI [PyData.tuple [.str "shares"], .tuple [.str "evenly"], .tuple [.str "losses"], .tuple [.str "halves"]] (i % 4) = some (xk n).shape := fun i => by
  rcases (by omega : i % 4 = 0 ∨ i % 4 = 1 ∨ i % 4 = 2 ∨ i % 4 = 3) with h | h | h | h <;> rw [h]
  ·exact ⟨0, by decide, rfl⟩
  ·exact ⟨1, by decide, rfl⟩
  ·exact ⟨2, by decide, rfl⟩
  ·exact ⟨3, by decide, rfl⟩
 obtain ⟨m, _, hm⟩ := pick (c / 4)
 obtain ⟨n, _, hn⟩ := pick (c / 16)
 refine zb9 (x := (xk m).shape) T5 (by walk_at "mem") hm fun w6 T6 => ?_
 walk_at "walk"
 refine zb9 (x := (xk n).shape) T6 (by walk_at "mem") hn fun w7 T7 => ?_
 have S7 : Sta H G G5 [] [((xk n).shape, w7), ((xk m).shape, w6), (.tuple [.int t, .int b], v1)] := T7.weak (by walk_at "sub") (by walk_at "dats")
 clear T1 T2 T3 T4 T5 T6 T7 S
 walk_at "walk"
 refine Yo (fun _ => ?_) (fun _ => ?_)
 ·walk_at "walk"
  exact zb7 (r := .other (xk m)) (by assumption) k (by walk_at "m") (zf3 m)
 walk_at "walk"
 refine Yo (fun _ => ?_) (fun _ => ?_)
 ·walk_at "walk"
  exact zb7 (r := .other (.upto t b (xk m) (xk n))) (by assumption) k (by walk_at "m") (zeD sm m n)
 walk_at "walk"
 refine Yo (fun _ => ?_) (fun _ => ?_)
 ·walk_at "walk"
  exact zb7 (r := .upto t b (xk m) (.other (xk n))) (by assumption) k (by walk_at "m") (zf2 sm m n)
 walk_at "walk"
 exact zb7 (r := .upto t b (xk m) (xk n)) (by assumption) k (by walk_at "m") (zeC sm m n)
local macro_rules | `(tactic| walk_at "rd") => `(tactic| with_reducible refine' zb8 ?_)
section
variable {A : RAd}
abbrev UR : Stmt := top 80
theorem XC : FnScope ["_law_script", "_law_first", "_law_many", "_law_claims_here", "_law_shape", "_law_rule_here", "_law_whole_here", "_law_cell", "_law_purse_here"] ["_law_script"] (zi UR) := ⟨rfl, rfl, rfl, by decide +kernel, rfl, by decide +kernel, by decide +kernel⟩
theorem ok_law {fS fT fQ c_Rule : Addr} {fdQ : FuncData} (B : Bl mg) (okA : ∀ r : Rl, ROk K fS fT c_Rule (A.cls r)) (okP : ∀ r : Rl, Meth K (A.cls r) "parts" fQ) (g_Rule : mg "Rule" = some (.ref c_Rule)) (F_Rule_parts : FnOk P w K mg base CX0 13 fQ fdQ ["self", "claims", "purse"] (UG A 4)) (b_Rule_parts : xU K fdQ ["self", "claims", "purse"] [])
 (C_law_cell_at : Cal P w K mg base CX0 1 "_law_cell_at" ["_law_script", "_law_k"] (zb1 K)) (C_law_claims : Cal P w K mg base CX0 2 "_law_claims" ["_law_script", "_law_at", "_law_many", "_law_size"] (UJ K)) (C_law_portion : Cal P w K mg base CX0 1 "_law_portion" ["_law_cell"] zbn) (C_law_drawn : Cal P w K mg base CX0 1 "_law_drawn" ["_law_cell", "_law_portion_here"] zbp) (C_law_rule : Cal P w K mg base CX0 8 "_law_rule" ["_law_shape"] (UE A 4)) (C_law_purse : Cal P w K mg base CX0 3 "_law_purse" ["_law_whole_here", "_law_cell"] zbm) (C_law_right : Cal P w K mg base CX0 13 "_law_right" ["_law_shape", "_law_claims_here", "_law_purse_here", "_law_parts"] UF) (F : Fun K "law" "law" UR f fd) : FnOk P w K mg base CX0 14 f fd ["_law_script"] (zfb K) := by
 refine F.ok XC (fun vs H Q E h => ?_) (fun cdv A' outer s H vs Q E hr h => ?_)
 ·obtain ⟨a, ns, rfl, _⟩ := h
  rfl
 obtain ⟨a, ns, rfl, hS, hlen, _, q⟩ := h
 have S : Sta H H H [] [] := Sta.enter (yc.refl _) fun p hp => absurd hp List.not_mem_nil
 refine ⟨_, (zj (zV (i := 1) XC.nd rfl (by walk_at "o") (zv C_law_cell_at hr (by walk_at "l") zK rfl (zd (pv 0) (zd zg zh)))) (zj (zV (i := 2) XC.nd rfl (by walk_at "o") (zC yx zg (zC xg (pv 1) zg))) (zj (zV (i := 3) XC.nd rfl (by walk_at "o") (zv C_law_claims hr (by walk_at "l") zK rfl (zd (pv 0) (zd zg (zd (pv 2) (zd (zB zo (ZR (zd zg (zd (zC VC zg zg) (zd (zC VC zg zg) zh)))) (zC xg (zC Zf (pv 1) zg) zg) (fun _ _ => rfl)) zh)))))) (zj (zV (i := 4) XC.nd rfl (by walk_at "o") (zv C_law_drawn hr (by walk_at "l") zK rfl (zd (zv C_law_cell_at hr (by walk_at "l") zK rfl (zd (pv 0) (zd zg zh))) (zd (zv C_law_portion hr (by walk_at "l") zK rfl (zd (zv C_law_cell_at hr (by walk_at "l") zK rfl (zd (pv 0) (zd zg zh))) zh)) zh)))) (zj (zV (i := 5) XC.nd rfl (by walk_at "o") (zv C_law_rule hr (by walk_at "l") zK rfl (zd (pv 4) zh))) (zj (yr (WK (XR (zR zf6 rfl B.isinstance xR (zd (pv 5) (zd (zd5 (v := .ref c_Rule) rfl g_Rule rfl) zh))))) (zk (zE WQ)) zL) (zj (zV (i := 6) XC.nd rfl (by walk_at "o") (zR (xQ rfl) rfl B.sum Wb (zd (yZ (N := ["_law_claim"]) (n := 1) (fr := []) rfl ⟨rfl, by decide +kernel, rfl, by decide, rfl, rfl, rfl, rfl, rfl⟩ (yY (pv 3)) (fun _ _ _ _ => (zP (i := 0) (show (["_law_claim"] : List Str).Nodup from by decide +kernel) rfl (by walk_at "o"))) (fun _ _ _ _ => yo) (fun _ _ _ _ => (zB zo (pv 0) zg (fun _ _ => rfl)))) zh))) (zj (Vx PassesOwn.never rfl (yY (zC yx (ZR (zd zg (zd zg zh))) (zcb zdv (pv 0) (zbx (zC yx zg (pv 2))) (zbx (zC yx zg (pv 2)))))) (zP (i := 7) XC.nd rfl (by walk_at "o")) (zj (zV (i := 8) XC.nd rfl (by walk_at "o") (zv C_law_purse hr (by walk_at "l") zK rfl (zd (pv 6) (zd (pv 7) zh)))) (zk (yr (WK (XR (zv C_law_right hr (by walk_at "l") zK rfl (zd (pv 4) (zd (pv 3) (zd (pv 8) (zd (zcc (pv 5) (F_Rule_parts.mono (by walk_at "l")) hr b_Rule_parts zK (zd (ZS zc6 rfl B.list zh6 (zd (pv 3) zh)) (zd (pv 8) zh))) zh))))))) (zk (zE WQ)) zL)))) (zk (zE WQ)))))))))), zu ?_⟩
 walk_at "walk"
 generalize VP ns 0 = c at *
 rename_i p1 H1 e1 S1
 obtain ⟨size, hat, hs1, hs2⟩ : ∃ n : Int, atI [PyData.int 10, .int (10 ^ Int.toNat 9), .int (10 ^ Int.toNat 40)] (c / 8 % 3) = some (.int n) ∧ 10 ≤ n ∧ n ≤ 10 ^ 46 := by
  rcases (by omega : c / 8 % 3 = 0 ∨ c / 8 % 3 = 1 ∨ c / 8 % 3 = 2) with h | h | h <;> rw [h]
  ·exact ⟨10, rfl, by decide, by decide⟩
  ·exact ⟨10 ^ Int.toNat 9, rfl, by decide, by decide⟩
  ·exact ⟨10 ^ Int.toNat 40, rfl, by decide, by decide⟩
 refine zhl S1 (by walk_at "mem") hat ?_
 have S2 : Sta H H H1 [] [] := S1.dropC
 clear S1
 have hS1 : SqL K H1 a (ns.map V.int) := S2.base.seq hS
 walk_at "walk"
 refine zdR S2 hS1 ⟨by decide, by omega, by omega, hs1, hs2⟩ fun l p3 H3 hl ok e3 S3 => ?_
 have S4 : Sta H H H3 [] [(yg l, .ref p3)] := S3.freeze
 clear S3 S2
 have few := ok.few
 have hS3 : SqL K H3 a (ns.map V.int) := S4.base.seq hS
 walk_at "walk"
 refine zfl S4 fun w5 H5 t b sm e5 S5 => ?_
 walk_at "walk"
 refine zft S5 (by walk_at "m") sm fun w6 H6 r dr e6 S6' => ?_
 have S6 : Sta H H H6 [] [(r.shape, w6), (yg l, .ref p3)] := S6'.dat (by walk_at "dats")
 clear S6' S5 S4
 walk_at "walk"
 refine WZ (A := A) (r := r) S6 (by walk_at "m") dr.1.1.plain dr.2 fun w7 H7 e7 S7 => ?_
 walk_at "walk"
 refine rd_isC (C := A.cls r) S7 (by walk_at "m") (okA r) ?_
 walk_at "walk"
 refine xp (xs := l.map yn) S7 (by walk_at "m") fun J9 wk9 => ?_
 refine ya wk9 (fun j => .int (l.getD j (0, 0, 0)).1) (ys := (amV l).map PyData.int) (by unfold amV; rw [List.length_map, List.map_map]; exact zO (fun c : Cl => PyData.int c.1) (0, 0, 0) l) S7 (fun _ _ => .mem (by walk_at "mem")) (by rw [List.length_map]; omega) (fun j x v B' G' Kd Kn hx t1 S hd C ex s0 H0 => ?_) fun D10 H10 e10 S10 => ?_
 ·obtain ⟨c, hc, rfl⟩ := yu hx
  refine zX ⟨rfl, ?_⟩
  walk_at "walk"
  refine hd (by assumption) ?_
  rw [yp hc]
  exact Has.int
 have sum := ok.am.sum
 walk_at "walk"
 have S11 : Sta H H H10 [] [(r.ins A, w7), (r.shape, w6), (yg l, .ref p3)] := S10.dropC
 clear S10 S7 S6
 generalize (amV l).sum = wh at *
 rename_i p12 H12 e12 S12
 have hS12 : SqL K H12 a (ns.map V.int) := S12.base.seq hS
 refine rd_slS S12 hS12 fun p13 H13 e13 S13 => ?_
 have hcl : (zig ns (some (3 + (1 + c % 8))) (some (23 + (1 + c % 8)))).length ≤ 63 := by unfold zig; rw [List.length_take, List.length_drop]; omega
 generalize zig ns (some (3 + (1 + c % 8))) (some (23 + (1 + c % 8))) = cells at *
 refine Vv S13 (S13.vwC (by walk_at "mem")) (S13.vwC (by walk_at "mem")) (by rw [List.length_map]; show 2 + _ ≤ 1000; omega) fun p14 H14 e14 S14 => ?_
 rw [show [PyData.int 0, .int 1] ++ cells.map PyData.int = (0 :: 1 :: cells).map PyData.int from rfl] at S14
 have S15 : Sta H H H14 [] [(ZX (0 :: 1 :: cells), .ref p14), (r.ins A, w7), (r.shape, w6), (yg l, .ref p3)] := S14.freeze.weak (by walk_at "sub") (by walk_at "dats")
 clear S14 S13 S12
 refine xp (xs := (0 :: 1 :: cells).map PyData.int) S15 (by walk_at "m") fun J wk => ?_
 refine VN wk (fun i σ cs ds => (∃ x7 x8, σ = [some (.ref a), some (.int c), some (.int (1 + c % 8)), some (.ref p3), some w6, some w7, some (.int wh), x7, x8]) ∧ cs = [] ∧ ds = [(ZX (0 :: 1 :: cells), .ref p14), (r.ins A, w7), (r.shape, w6), (yg l, .ref p3)]) S15 ⟨⟨none, none, rfl⟩, rfl, rfl⟩ (fun i σ cs ds h => ?_) ?_ ?_
 ·obtain ⟨_, rfl, rfl⟩ := h
  exact .mem (by walk_at "mem")
 ·rintro i x u σ H16 cs ds hx ⟨⟨x7, x8, rfl⟩, rfl, rfl⟩ S16
  obtain ⟨y, hy, rfl⟩ := yu hx
  cases S16.int1
  walk_at "walk"
  refine zfk S16 ⟨sum.1, sum.2.mono (by decide)⟩ fun w17 H17 e ⟨g0, gz⟩ e17 S17 => ?_
  walk_at "walk"
  refine zgn (C := A.cls r) S17 (by walk_at "m") (okA r).cl (okP r) (by decide +kernel) ?_
  walk_at "walk"
  rename_i q8 H8 e8 S8
  have S8' : Sta H H H8 [] ((yg l, .ref q8) :: _) := S8.freeze
  walk_at "walk"
  refine zdJ (r := r) (l := l) S8' (by walk_at "m") (by walk_at "m") (by walk_at "m") dr.1.1 dr.2 ok gz g0 fun w18 H18 e18 S18 => ?_
  walk_at "walk"
  refine zdI (r := r) (l := l) (e := e) S18 (by walk_at "m") (by walk_at "m") (by walk_at "m") (by walk_at "m") dr.1.1 dr.1.2 ok gz g0 fun H19 e19 S19 => ?_
  walk_at "walk"
  exact zbu (S19.dat (by walk_at "dats")) ⟨⟨_, _, rfl⟩, rfl, rfl⟩
 ·rintro σ H16 cs ds ⟨⟨x7, x8, rfl⟩, rfl, rfl⟩ S16
  walk_at "walk"
  exact q _
end
end
theorem all_mk {l : PySem.W.OpenLaw} {w : World} {K : PySem.W.Frag} {h : Heap} {mg : Str → Option Value} {fa : Addr} (X : K.In h) (G : h.Ns mainGlobals mg) (hfa : mg "law" = some (.ref fa))
 {f1 f2 f3 f4 f5 f6 f7 f8 f9 f10 f11 f12 f13 f14 f15 f16 f17 f18 f19 f20 f21 f22 f23 f24 f25 f26 f27 f28 f29 f30 f31 f32 f33 f34 f35 f36 f37 f38 f39 f40 f41 f42 f43 f44 f45 : Addr} {od1 od2 od3 od4 od5 od6 od7 od8 od9 od10 od11 od12 od13 od14 od15 od16 od17 od18 od19 od20 od21 od22 od23 od24 od25 od26 od27 od28 od29 od30 od31 od32 od33 od34 od35 od36 od37 od38 od39 od40 od41 od42 od43 od44 od45 an1 an2 an3 an4 an5 an6 an7 an8 an9 an10 an11 an12 an13 an14 an15 an16 an17 an18 an19 an20 an21 an22 an23 an24 an25 an26 an27 an28 an29 an30 an31 an32 an33 an34 an35 an36 an37 an38 an39 an40 an41 an42 an43 an44 an45 : Option Addr} {sl1 sl2 sl3 sl4 sl5 sl6 sl7 sl8 sl9 sl10 sl11 sl12 sl13 sl14 sl15 sl16 sl17 sl18 sl19 sl20 sl21 sl22 sl23 sl24 sl25 sl26 sl27 sl28 sl29 sl30 sl31 sl32 sl33 sl34 sl35 sl36 sl37 sl38 sl39 sl40 sl41 sl42 sl43 sl44 sl45 : Array (Option Value)} {oc1 oc2 oc3 oc4 oc5 oc6 oc7 oc8 oc9 oc10 oc11 oc12 oc13 oc14 oc15 oc16 oc17 oc18 oc19 oc20 oc21 oc22 oc23 oc24 oc25 oc26 oc27 oc28 oc29 oc30 oc31 oc32 oc33 oc34 oc35 oc36 oc37 oc38 oc39 oc40 oc41 oc42 oc43 oc44 oc45 kV1 kV2 kV3 kV4 kV5 kV6 kV7 kV8 kV9 kV10 kV11 kV12 kV13 kV14 kV15 kV16 kV17 kV18 kV19 kV20 kV21 kV22 kV23 kV24 kV25 kV26 kV27 kV28 kV29 kV30 kV31 kV32 kV33 kV34 kV35 kV36 kV37 kV38 kV39 kV40 kV41 kV42 kV43 kV44 kV45 dc1 dc2 dc3 dc4 dc5 dc6 dc7 dc8 dc9 dc10 dc11 dc12 dc13 dc14 dc15 dc16 dc17 dc18 dc19 dc20 dc21 dc22 dc23 dc24 dc25 dc26 dc27 dc28 dc29 dc30 dc31 dc32 dc33 dc34 dc35 dc36 dc37 dc38 dc39 dc40 dc41 dc42 dc43 dc44 dc45 pm1 pm2 pm3 pm4 pm5 pm6 pm7 pm8 pm9 pm10 pm11 pm12 pm13 pm14 pm15 pm16 pm17 pm18 pm19 pm20 pm21 pm22 pm23 pm24 pm25 pm26 pm27 pm28 pm29 pm30 pm31 pm32 pm33 pm34 pm35 pm36 pm37 pm38 pm39 pm40 pm41 pm42 pm43 pm44 pm45 cd1 cd2 cd3 cd4 cd5 cd6 cd7 cd8 cd9 cd10 cd11 cd12 cd13 cd14 cd15 cd16 cd17 cd18 cd19 cd20 cd21 cd22 cd23 cd24 cd25 cd26 cd27 cd28 cd29 cd30 cd31 cd32 cd33 cd34 cd35 cd36 cd37 cd38 cd39 cd40 cd41 cd42 cd43 cd44 cd45 ct1 ct2 ct3 ct4 ct5 ct6 ct7 ct8 ct9 ct10 ct11 ct12 ct13 ct14 ct15 ct16 ct17 ct18 ct19 ct20 ct21 ct22 ct23 ct24 ct25 ct26 ct27 ct28 ct29 ct30 ct31 ct32 ct33 ct34 ct35 ct36 ct37 ct38 ct39 ct40 ct41 ct42 ct43 ct44 ct45 : Value}
 (a1 : PySem.W.nsIn K mainGlobals "check_claims" = some (some (.ref f1))) (l1 : K.lookup f1 = some ⟨oc1, od1, .func (PySem.W.fnOf "check_claims" "check_claims" (zG xn) (zF xn) (zi xn) .none kV1 dc1 pm1 an1 cd1 ct1), sl1⟩) (c1 : PySem.W.codeIn K cd1 "check_claims" = true) (k1 : PySem.W.keepIn K (.ref f1) = true)
 (a2 : PySem.W.nsIn K mainGlobals "plus" = some (some (.ref f2))) (l2 : K.lookup f2 = some ⟨oc2, od2, .func (PySem.W.fnOf "plus" "plus" (zG Uk) (zF Uk) (zi Uk) .none kV2 dc2 pm2 an2 cd2 ct2), sl2⟩) (c2 : PySem.W.codeIn K cd2 "plus" = true) (k2 : PySem.W.keepIn K (.ref f2) = true)
 (a3 : PySem.W.nsIn K mainGlobals "minus" = some (some (.ref f3))) (l3 : K.lookup f3 = some ⟨oc3, od3, .func (PySem.W.fnOf "minus" "minus" (zG Ws) (zF Ws) (zi Ws) .none kV3 dc3 pm3 an3 cd3 ct3), sl3⟩) (c3 : PySem.W.codeIn K cd3 "minus" = true) (k3 : PySem.W.keepIn K (.ref f3) = true)
 (a4 : PySem.W.nsIn K mainGlobals "times" = some (some (.ref f4))) (l4 : K.lookup f4 = some ⟨oc4, od4, .func (PySem.W.fnOf "times" "times" (zG Wr) (zF Wr) (zi Wr) .none kV4 dc4 pm4 an4 cd4 ct4), sl4⟩) (c4 : PySem.W.codeIn K cd4 "times" = true) (k4 : PySem.W.keepIn K (.ref f4) = true)
 (a5 : PySem.W.nsIn K mainGlobals "over" = some (some (.ref f5))) (l5 : K.lookup f5 = some ⟨oc5, od5, .func (PySem.W.fnOf "over" "over" (zG Ul) (zF Ul) (zi Ul) .none kV5 dc5 pm5 an5 cd5 ct5), sl5⟩) (c5 : PySem.W.codeIn K cd5 "over" = true) (k5 : PySem.W.keepIn K (.ref f5) = true)
 (a6 : PySem.W.nsIn K mainGlobals "before" = some (some (.ref f6))) (l6 : K.lookup f6 = some ⟨oc6, od6, .func (PySem.W.fnOf "before" "before" (zG YR) (zF YR) (zi YR) .none kV6 dc6 pm6 an6 cd6 ct6), sl6⟩) (c6 : PySem.W.codeIn K cd6 "before" = true) (k6 : PySem.W.keepIn K (.ref f6) = true)
 (a7 : PySem.W.nsIn K mainGlobals "lowest" = some (some (.ref f7))) (l7 : K.lookup f7 = some ⟨oc7, od7, .func (PySem.W.fnOf "lowest" "lowest" (zG YL) (zF YL) (zi YL) .none kV7 dc7 pm7 an7 cd7 ct7), sl7⟩) (c7 : PySem.W.codeIn K cd7 "lowest" = true) (k7 : PySem.W.keepIn K (.ref f7) = true)
 (a8 : PySem.W.nsIn K mainGlobals "greatest_divisor" = some (some (.ref f8))) (l8 : K.lookup f8 = some ⟨oc8, od8, .func (PySem.W.fnOf "greatest_divisor" "greatest_divisor" (zG yv) (zF yv) (zi yv) .none kV8 dc8 pm8 an8 cd8 ct8), sl8⟩) (c8 : PySem.W.codeIn K cd8 "greatest_divisor" = true) (k8 : PySem.W.keepIn K (.ref f8) = true)
 (a9 : PySem.W.nsIn K mainGlobals "thinned" = some (some (.ref f9))) (l9 : K.lookup f9 = some ⟨oc9, od9, .func (PySem.W.fnOf "thinned" "thinned" (zG ZO) (zF ZO) (zi ZO) .none kV9 dc9 pm9 an9 cd9 ct9), sl9⟩) (c9 : PySem.W.codeIn K cd9 "thinned" = true) (k9 : PySem.W.keepIn K (.ref f9) = true)
 (a10 : PySem.W.nsIn K mainGlobals "parts_at" = some (some (.ref f10))) (l10 : K.lookup f10 = some ⟨oc10, od10, .func (PySem.W.fnOf "parts_at" "parts_at" (zG Zw) (zF Zw) (zi Zw) .none kV10 dc10 pm10 an10 cd10 ct10), sl10⟩) (c10 : PySem.W.codeIn K cd10 "parts_at" = true) (k10 : PySem.W.keepIn K (.ref f10) = true)
 (a11 : PySem.W.nsIn K mainGlobals "turned" = some (some (.ref f11))) (l11 : K.lookup f11 = some ⟨oc11, od11, .func (PySem.W.fnOf "turned" "turned" (zG YI) (zF YI) (zi YI) .none kV11 dc11 pm11 an11 cd11 ct11), sl11⟩) (c11 : PySem.W.codeIn K cd11 "turned" = true) (k11 : PySem.W.keepIn K (.ref f11) = true)
 (a12 : PySem.W.nsIn K mainGlobals "scaled" = some (some (.ref f12))) (l12 : K.lookup f12 = some ⟨oc12, od12, .func (PySem.W.fnOf "scaled" "scaled" (zG YK) (zF YK) (zi YK) .none kV12 dc12 pm12 an12 cd12 ct12), sl12⟩) (c12 : PySem.W.codeIn K cd12 "scaled" = true) (k12 : PySem.W.keepIn K (.ref f12) = true)
 (a13 : PySem.W.nsIn K mainGlobals "behind" = some (some (.ref f13))) (l13 : K.lookup f13 = some ⟨oc13, od13, .func (PySem.W.fnOf "behind" "behind" (zG YQ) (zF YQ) (zi YQ) .none kV13 dc13 pm13 an13 cd13 ct13), sl13⟩) (c13 : PySem.W.codeIn K cd13 "behind" = true) (k13 : PySem.W.keepIn K (.ref f13) = true)
 (a14 : PySem.W.nsIn K mainGlobals "is_straight" = some (some (.ref f14))) (l14 : K.lookup f14 = some ⟨oc14, od14, .func (PySem.W.fnOf "is_straight" "is_straight" (zG xy) (zF xy) (zi xy) .none kV14 dc14 pm14 an14 cd14 ct14), sl14⟩) (c14 : PySem.W.codeIn K cd14 "is_straight" = true) (k14 : PySem.W.keepIn K (.ref f14) = true)
 (a15 : PySem.W.nsIn K mainGlobals "gap" = some (some (.ref f15))) (l15 : K.lookup f15 = some ⟨oc15, od15, .func (PySem.W.fnOf "gap" "gap" (zG zcD) (zF zcD) (zi zcD) .none kV15 dc15 pm15 an15 cd15 ct15), sl15⟩) (c15 : PySem.W.codeIn K cd15 "gap" = true) (k15 : PySem.W.keepIn K (.ref f15) = true)
 (a16 : PySem.W.nsIn K mainGlobals "parts_between" = some (some (.ref f16))) (l16 : K.lookup f16 = some ⟨oc16, od16, .func (PySem.W.fnOf "parts_between" "parts_between" (zG yV) (zF yV) (zi yV) .none kV16 dc16 pm16 an16 cd16 ct16), sl16⟩) (c16 : PySem.W.codeIn K cd16 "parts_between" = true) (k16 : PySem.W.keepIn K (.ref f16) = true)
 (a17 : PySem.W.nsIn K mainGlobals "portion_reached" = some (some (.ref f17))) (l17 : K.lookup f17 = some ⟨oc17, od17, .func (PySem.W.fnOf "portion_reached" "portion_reached" (zG yz) (zF yz) (zi yz) .none kV17 dc17 pm17 an17 cd17 ct17), sl17⟩) (c17 : PySem.W.codeIn K cd17 "portion_reached" = true) (k17 : PySem.W.keepIn K (.ref f17) = true)
 (a18 : PySem.W.nsIn K mainGlobals "amount_at" = some (some (.ref f18))) (l18 : K.lookup f18 = some ⟨oc18, od18, .func (PySem.W.fnOf "amount_at" "amount_at" (zG Zc) (zF Zc) (zi Zc) .none kV18 dc18 pm18 an18 cd18 ct18), sl18⟩) (c18 : PySem.W.codeIn K cd18 "amount_at" = true) (k18 : PySem.W.keepIn K (.ref f18) = true)
 (a19 : PySem.W.nsIn K mainGlobals "plus_each" = some (some (.ref f19))) (l19 : K.lookup f19 = some ⟨oc19, od19, .func (PySem.W.fnOf "plus_each" "plus_each" (zG xV) (zF xV) (zi xV) .none kV19 dc19 pm19 an19 cd19 ct19), sl19⟩) (c19 : PySem.W.codeIn K cd19 "plus_each" = true) (k19 : PySem.W.keepIn K (.ref f19) = true)
 (a20 : PySem.W.nsIn K mainGlobals "less_each" = some (some (.ref f20))) (l20 : K.lookup f20 = some ⟨oc20, od20, .func (PySem.W.fnOf "less_each" "less_each" (zG xW) (zF xW) (zi xW) .none kV20 dc20 pm20 an20 cd20 ct20), sl20⟩) (c20 : PySem.W.codeIn K cd20 "less_each" = true) (k20 : PySem.W.keepIn K (.ref f20) = true)
 (a21 : PySem.W.nsIn K mainGlobals "last_reached" = some (some (.ref f21))) (l21 : K.lookup f21 = some ⟨oc21, od21, .func (PySem.W.fnOf "last_reached" "last_reached" (zG xm) (zF xm) (zi xm) .none kV21 dc21 pm21 an21 cd21 ct21), sl21⟩) (c21 : PySem.W.codeIn K cd21 "last_reached" = true) (k21 : PySem.W.keepIn K (.ref f21) = true)
 (a22 : PySem.W.nsIn K mainGlobals "course" = some (some (.ref f22))) (l22 : K.lookup f22 = some ⟨oc22, od22, .func (PySem.W.fnOf "course" "course" (zG YO) (zF YO) (zi YO) .none kV22 dc22 pm22 an22 cd22 ct22), sl22⟩) (c22 : PySem.W.codeIn K cd22 "course" = true) (k22 : PySem.W.keepIn K (.ref f22) = true)
 (a23 : PySem.W.nsIn K mainGlobals "shares" = some (some (.ref f23))) (l23 : K.lookup f23 = some ⟨oc23, od23, .func (PySem.W.fnOf "shares" "shares" (zG YJ) (zF YJ) (zi YJ) .none kV23 dc23 pm23 an23 cd23 ct23), sl23⟩) (c23 : PySem.W.codeIn K cd23 "shares" = true) (k23 : PySem.W.keepIn K (.ref f23) = true)
 (a24 : PySem.W.nsIn K mainGlobals "evenly" = some (some (.ref f24))) (l24 : K.lookup f24 = some ⟨oc24, od24, .func (PySem.W.fnOf "evenly" "evenly" (zG YN) (zF YN) (zi YN) .none kV24 dc24 pm24 an24 cd24 ct24), sl24⟩) (c24 : PySem.W.codeIn K cd24 "evenly" = true) (k24 : PySem.W.keepIn K (.ref f24) = true)
 (a25 : PySem.W.nsIn K mainGlobals "losses" = some (some (.ref f25))) (l25 : K.lookup f25 = some ⟨oc25, od25, .func (PySem.W.fnOf "losses" "losses" (zG YM) (zF YM) (zi YM) .none kV25 dc25 pm25 an25 cd25 ct25), sl25⟩) (c25 : PySem.W.codeIn K cd25 "losses" = true) (k25 : PySem.W.keepIn K (.ref f25) = true)
 (a26 : PySem.W.nsIn K mainGlobals "upto" = some (some (.ref f26))) (l26 : K.lookup f26 = some ⟨oc26, od26, .func (PySem.W.fnOf "upto" "upto" (zG Uj) (zF Uj) (zi Uj) .none kV26 dc26 pm26 an26 cd26 ct26), sl26⟩) (c26 : PySem.W.codeIn K cd26 "upto" = true) (k26 : PySem.W.keepIn K (.ref f26) = true)
 (a27 : PySem.W.nsIn K mainGlobals "nothing" = some (some (.ref f27))) (l27 : K.lookup f27 = some ⟨oc27, od27, .func (PySem.W.fnOf "nothing" "nothing" (zG ZP) (zF ZP) (zi ZP) .none kV27 dc27 pm27 an27 cd27 ct27), sl27⟩) (c27 : PySem.W.codeIn K cd27 "nothing" = true) (k27 : PySem.W.keepIn K (.ref f27) = true)
 (a28 : PySem.W.nsIn K mainGlobals "whole_corner" = some (some (.ref f28))) (l28 : K.lookup f28 = some ⟨oc28, od28, .func (PySem.W.fnOf "whole_corner" "whole_corner" (zG xl) (zF xl) (zi xl) .none kV28 dc28 pm28 an28 cd28 ct28), sl28⟩) (c28 : PySem.W.codeIn K cd28 "whole_corner" = true) (k28 : PySem.W.keepIn K (.ref f28) = true)
 (a29 : PySem.W.nsIn K mainGlobals "_law_cell_at" = some (some (.ref f29))) (l29 : K.lookup f29 = some ⟨oc29, od29, .func (PySem.W.fnOf "_law_cell_at" "_law_cell_at" (zG xx) (zF xx) (zi xx) .none kV29 dc29 pm29 an29 cd29 ct29), sl29⟩) (c29 : PySem.W.codeIn K cd29 "_law_cell_at" = true) (k29 : PySem.W.keepIn K (.ref f29) = true)
 (a30 : PySem.W.nsIn K mainGlobals "_law_mixed" = some (some (.ref f30))) (l30 : K.lookup f30 = some ⟨oc30, od30, .func (PySem.W.fnOf "_law_mixed" "_law_mixed" (zG Za) (zF Za) (zi Za) .none kV30 dc30 pm30 an30 cd30 ct30), sl30⟩) (c30 : PySem.W.codeIn K cd30 "_law_mixed" = true) (k30 : PySem.W.keepIn K (.ref f30) = true)
 (a31 : PySem.W.nsIn K mainGlobals "_law_divisor" = some (some (.ref f31))) (l31 : K.lookup f31 = some ⟨oc31, od31, .func (PySem.W.fnOf "_law_divisor" "_law_divisor" (zG xw) (zF xw) (zi xw) .none kV31 dc31 pm31 an31 cd31 ct31), sl31⟩) (c31 : PySem.W.codeIn K cd31 "_law_divisor" = true) (k31 : PySem.W.keepIn K (.ref f31) = true)
 (a32 : PySem.W.nsIn K mainGlobals "_law_lowest" = some (some (.ref f32))) (l32 : K.lookup f32 = some ⟨oc32, od32, .func (PySem.W.fnOf "_law_lowest" "_law_lowest" (zG xH) (zF xH) (zi xH) .none kV32 dc32 pm32 an32 cd32 ct32), sl32⟩) (c32 : PySem.W.codeIn K cd32 "_law_lowest" = true) (k32 : PySem.W.keepIn K (.ref f32) = true)
 (a33 : PySem.W.nsIn K mainGlobals "_law_whole" = some (some (.ref f33))) (l33 : K.lookup f33 = some ⟨oc33, od33, .func (PySem.W.fnOf "_law_whole" "_law_whole" (zG xX) (zF xX) (zi xX) .none kV33 dc33 pm33 an33 cd33 ct33), sl33⟩) (c33 : PySem.W.codeIn K cd33 "_law_whole" = true) (k33 : PySem.W.keepIn K (.ref f33) = true)
 (a34 : PySem.W.nsIn K mainGlobals "_law_is_fraction" = some (some (.ref f34))) (l34 : K.lookup f34 = some ⟨oc34, od34, .func (PySem.W.fnOf "_law_is_fraction" "_law_is_fraction" (zG yA) (zF yA) (zi yA) .none kV34 dc34 pm34 an34 cd34 ct34), sl34⟩) (c34 : PySem.W.codeIn K cd34 "_law_is_fraction" = true) (k34 : PySem.W.keepIn K (.ref f34) = true)
 (a35 : PySem.W.nsIn K mainGlobals "_law_labels" = some (some (.ref f35))) (l35 : K.lookup f35 = some ⟨oc35, od35, .func (PySem.W.fnOf "_law_labels" "_law_labels" (zG xI) (zF xI) (zi xI) .none kV35 dc35 pm35 an35 cd35 ct35), sl35⟩) (c35 : PySem.W.codeIn K cd35 "_law_labels" = true) (k35 : PySem.W.keepIn K (.ref f35) = true)
 (a36 : PySem.W.nsIn K mainGlobals "_law_claims" = some (some (.ref f36))) (l36 : K.lookup f36 = some ⟨oc36, od36, .func (PySem.W.fnOf "_law_claims" "_law_claims" (zG xJ) (zF xJ) (zi xJ) .none kV36 dc36 pm36 an36 cd36 ct36), sl36⟩) (c36 : PySem.W.codeIn K cd36 "_law_claims" = true) (k36 : PySem.W.keepIn K (.ref f36) = true)
 (a37 : PySem.W.nsIn K mainGlobals "_law_even" = some (some (.ref f37))) (l37 : K.lookup f37 = some ⟨oc37, od37, .func (PySem.W.fnOf "_law_even" "_law_even" (zG Zz) (zF Zz) (zi Zz) .none kV37 dc37 pm37 an37 cd37 ct37), sl37⟩) (c37 : PySem.W.codeIn K cd37 "_law_even" = true) (k37 : PySem.W.keepIn K (.ref f37) = true)
 (a38 : PySem.W.nsIn K mainGlobals "_law_fits" = some (some (.ref f38))) (l38 : K.lookup f38 = some ⟨oc38, od38, .func (PySem.W.fnOf "_law_fits" "_law_fits" (zG Zy) (zF Zy) (zi Zy) .none kV38 dc38 pm38 an38 cd38 ct38), sl38⟩) (c38 : PySem.W.codeIn K cd38 "_law_fits" = true) (k38 : PySem.W.keepIn K (.ref f38) = true)
 (a39 : PySem.W.nsIn K mainGlobals "_law_upto_fit" = some (some (.ref f39))) (l39 : K.lookup f39 = some ⟨oc39, od39, .func (PySem.W.fnOf "_law_upto_fit" "_law_upto_fit" (zG yQ) (zF yQ) (zi yQ) .none kV39 dc39 pm39 an39 cd39 ct39), sl39⟩) (c39 : PySem.W.codeIn K cd39 "_law_upto_fit" = true) (k39 : PySem.W.keepIn K (.ref f39) = true)
 (a40 : PySem.W.nsIn K mainGlobals "_law_right" = some (some (.ref f40))) (l40 : K.lookup f40 = some ⟨oc40, od40, .func (PySem.W.fnOf "_law_right" "_law_right" (zG xY) (zF xY) (zi xY) .none kV40 dc40 pm40 an40 cd40 ct40), sl40⟩) (c40 : PySem.W.codeIn K cd40 "_law_right" = true) (k40 : PySem.W.keepIn K (.ref f40) = true)
 (a41 : PySem.W.nsIn K mainGlobals "_law_rule" = some (some (.ref f41))) (l41 : K.lookup f41 = some ⟨oc41, od41, .func (PySem.W.fnOf "_law_rule" "_law_rule" (zG Zx) (zF Zx) (zi Zx) .none kV41 dc41 pm41 an41 cd41 ct41), sl41⟩) (c41 : PySem.W.codeIn K cd41 "_law_rule" = true) (k41 : PySem.W.keepIn K (.ref f41) = true)
 (a42 : PySem.W.nsIn K mainGlobals "_law_portion" = some (some (.ref f42))) (l42 : K.lookup f42 = some ⟨oc42, od42, .func (PySem.W.fnOf "_law_portion" "_law_portion" (zG xv) (zF xv) (zi xv) .none kV42 dc42 pm42 an42 cd42 ct42), sl42⟩) (c42 : PySem.W.codeIn K cd42 "_law_portion" = true) (k42 : PySem.W.keepIn K (.ref f42) = true)
 (a43 : PySem.W.nsIn K mainGlobals "_law_drawn" = some (some (.ref f43))) (l43 : K.lookup f43 = some ⟨oc43, od43, .func (PySem.W.fnOf "_law_drawn" "_law_drawn" (zG Zb) (zF Zb) (zi Zb) .none kV43 dc43 pm43 an43 cd43 ct43), sl43⟩) (c43 : PySem.W.codeIn K cd43 "_law_drawn" = true) (k43 : PySem.W.keepIn K (.ref f43) = true)
 (a44 : PySem.W.nsIn K mainGlobals "_law_purse" = some (some (.ref f44))) (l44 : K.lookup f44 = some ⟨oc44, od44, .func (PySem.W.fnOf "_law_purse" "_law_purse" (zG xZ) (zF xZ) (zi xZ) .none kV44 dc44 pm44 an44 cd44 ct44), sl44⟩) (c44 : PySem.W.codeIn K cd44 "_law_purse" = true) (k44 : PySem.W.keepIn K (.ref f44) = true)
 (a45 : PySem.W.nsIn K mainGlobals "law" = some (some (.ref f45))) (l45 : K.lookup f45 = some ⟨oc45, od45, .func (PySem.W.fnOf "law" "law" (zG UR) (zF UR) (zi UR) .none kV45 dc45 pm45 an45 cd45 ct45), sl45⟩) (c45 : PySem.W.codeIn K cd45 "law" = true) (k45 : PySem.W.keepIn K (.ref f45) = true)
 {c_Rule c_Shares c_Evenly c_Losses c_Halves c_Other c_Ranks c_Groups c_Upto : Addr} {f_Rule___init__ f_Rule_shape f_Rule_text f_Rule_path f_Rule_parts f_Shares___init__ f_Evenly___init__ f_Losses___init__ f_Halves___init__ f_Other___init__ f_Ranks___init__ f_Groups___init__ f_Upto___init__ : Addr} {od_Rule___init__ an_Rule___init__ od_Rule_shape an_Rule_shape od_Rule_text an_Rule_text od_Rule_path an_Rule_path od_Rule_parts an_Rule_parts od_Shares___init__ an_Shares___init__ od_Evenly___init__ an_Evenly___init__ od_Losses___init__ an_Losses___init__ od_Halves___init__ an_Halves___init__ od_Other___init__ an_Other___init__ od_Ranks___init__ an_Ranks___init__ od_Groups___init__ an_Groups___init__ od_Upto___init__ an_Upto___init__ : Option Addr} {sl_Rule___init__ sl_Rule_shape sl_Rule_text sl_Rule_path sl_Rule_parts sl_Shares___init__ sl_Evenly___init__ sl_Losses___init__ sl_Halves___init__ sl_Other___init__ sl_Ranks___init__ sl_Groups___init__ sl_Upto___init__ : Array (Option Value)} {oc_Rule___init__ kV_Rule___init__ dc_Rule___init__ pm_Rule___init__ cd_Rule___init__ ct_Rule___init__ oc_Rule_shape kV_Rule_shape dc_Rule_shape pm_Rule_shape cd_Rule_shape ct_Rule_shape oc_Rule_text kV_Rule_text dc_Rule_text pm_Rule_text cd_Rule_text ct_Rule_text oc_Rule_path kV_Rule_path dc_Rule_path pm_Rule_path cd_Rule_path ct_Rule_path oc_Rule_parts kV_Rule_parts dc_Rule_parts pm_Rule_parts cd_Rule_parts ct_Rule_parts oc_Shares___init__ kV_Shares___init__ dc_Shares___init__ pm_Shares___init__ cd_Shares___init__ ct_Shares___init__ oc_Evenly___init__ kV_Evenly___init__ dc_Evenly___init__ pm_Evenly___init__ cd_Evenly___init__ ct_Evenly___init__ oc_Losses___init__ kV_Losses___init__ dc_Losses___init__ pm_Losses___init__ cd_Losses___init__ ct_Losses___init__ oc_Halves___init__ kV_Halves___init__ dc_Halves___init__ pm_Halves___init__ cd_Halves___init__ ct_Halves___init__ oc_Other___init__ kV_Other___init__ dc_Other___init__ pm_Other___init__ cd_Other___init__ ct_Other___init__ oc_Ranks___init__ kV_Ranks___init__ dc_Ranks___init__ pm_Ranks___init__ cd_Ranks___init__ ct_Ranks___init__ oc_Groups___init__ kV_Groups___init__ dc_Groups___init__ pm_Groups___init__ cd_Groups___init__ ct_Groups___init__ oc_Upto___init__ kV_Upto___init__ dc_Upto___init__ pm_Upto___init__ cd_Upto___init__ ct_Upto___init__ : Value} (x_Rule : PySem.W.nsIn K mainGlobals "Rule" = some (some (.ref c_Rule))) (x_Shares : PySem.W.nsIn K mainGlobals "Shares" = some (some (.ref c_Shares))) (x_Evenly : PySem.W.nsIn K mainGlobals "Evenly" = some (some (.ref c_Evenly))) (x_Losses : PySem.W.nsIn K mainGlobals "Losses" = some (some (.ref c_Losses))) (x_Halves : PySem.W.nsIn K mainGlobals "Halves" = some (some (.ref c_Halves))) (x_Other : PySem.W.nsIn K mainGlobals "Other" = some (some (.ref c_Other))) (x_Ranks : PySem.W.nsIn K mainGlobals "Ranks" = some (some (.ref c_Ranks))) (x_Groups : PySem.W.nsIn K mainGlobals "Groups" = some (some (.ref c_Groups))) (x_Upto : PySem.W.nsIn K mainGlobals "Upto" = some (some (.ref c_Upto)))
 (e_Rule___init__ : PySem.W.findCls K (.ref c_Rule) (.type "type") "__init__" = some (.val (.ref f_Rule___init__))) (e_Shares___init__ : PySem.W.findIn K (.ref c_Shares) "__init__" = some (some (.ref f_Shares___init__))) (e_Evenly___init__ : PySem.W.findIn K (.ref c_Evenly) "__init__" = some (some (.ref f_Evenly___init__))) (e_Losses___init__ : PySem.W.findIn K (.ref c_Losses) "__init__" = some (some (.ref f_Losses___init__))) (e_Halves___init__ : PySem.W.findIn K (.ref c_Halves) "__init__" = some (some (.ref f_Halves___init__))) (e_Other___init__ : PySem.W.findIn K (.ref c_Other) "__init__" = some (some (.ref f_Other___init__))) (e_Ranks___init__ : PySem.W.findIn K (.ref c_Ranks) "__init__" = some (some (.ref f_Ranks___init__))) (e_Groups___init__ : PySem.W.findIn K (.ref c_Groups) "__init__" = some (some (.ref f_Groups___init__))) (e_Upto___init__ : PySem.W.findIn K (.ref c_Upto) "__init__" = some (some (.ref f_Upto___init__))) (es_Shares : PySem.W.findIn K (.ref c_Shares) "shape" = some (some (.ref f_Rule_shape))) (et_Shares : PySem.W.findIn K (.ref c_Shares) "text" = some (some (.ref f_Rule_text))) (es_Evenly : PySem.W.findIn K (.ref c_Evenly) "shape" = some (some (.ref f_Rule_shape))) (et_Evenly : PySem.W.findIn K (.ref c_Evenly) "text" = some (some (.ref f_Rule_text))) (es_Losses : PySem.W.findIn K (.ref c_Losses) "shape" = some (some (.ref f_Rule_shape))) (et_Losses : PySem.W.findIn K (.ref c_Losses) "text" = some (some (.ref f_Rule_text))) (es_Halves : PySem.W.findIn K (.ref c_Halves) "shape" = some (some (.ref f_Rule_shape))) (et_Halves : PySem.W.findIn K (.ref c_Halves) "text" = some (some (.ref f_Rule_text))) (es_Other : PySem.W.findIn K (.ref c_Other) "shape" = some (some (.ref f_Rule_shape))) (et_Other : PySem.W.findIn K (.ref c_Other) "text" = some (some (.ref f_Rule_text))) (es_Ranks : PySem.W.findIn K (.ref c_Ranks) "shape" = some (some (.ref f_Rule_shape))) (et_Ranks : PySem.W.findIn K (.ref c_Ranks) "text" = some (some (.ref f_Rule_text))) (es_Groups : PySem.W.findIn K (.ref c_Groups) "shape" = some (some (.ref f_Rule_shape))) (et_Groups : PySem.W.findIn K (.ref c_Groups) "text" = some (some (.ref f_Rule_text))) (es_Upto : PySem.W.findIn K (.ref c_Upto) "shape" = some (some (.ref f_Rule_shape))) (et_Upto : PySem.W.findIn K (.ref c_Upto) "text" = some (some (.ref f_Rule_text))) (ep_Shares : PySem.W.findIn K (.ref c_Shares) "path" = some (some (.ref f_Rule_path))) (eq_Shares : PySem.W.findIn K (.ref c_Shares) "parts" = some (some (.ref f_Rule_parts))) (ep_Evenly : PySem.W.findIn K (.ref c_Evenly) "path" = some (some (.ref f_Rule_path))) (eq_Evenly : PySem.W.findIn K (.ref c_Evenly) "parts" = some (some (.ref f_Rule_parts))) (ep_Losses : PySem.W.findIn K (.ref c_Losses) "path" = some (some (.ref f_Rule_path))) (eq_Losses : PySem.W.findIn K (.ref c_Losses) "parts" = some (some (.ref f_Rule_parts))) (ep_Halves : PySem.W.findIn K (.ref c_Halves) "path" = some (some (.ref f_Rule_path))) (eq_Halves : PySem.W.findIn K (.ref c_Halves) "parts" = some (some (.ref f_Rule_parts))) (ep_Other : PySem.W.findIn K (.ref c_Other) "path" = some (some (.ref f_Rule_path))) (eq_Other : PySem.W.findIn K (.ref c_Other) "parts" = some (some (.ref f_Rule_parts))) (ep_Ranks : PySem.W.findIn K (.ref c_Ranks) "path" = some (some (.ref f_Rule_path))) (eq_Ranks : PySem.W.findIn K (.ref c_Ranks) "parts" = some (some (.ref f_Rule_parts))) (ep_Groups : PySem.W.findIn K (.ref c_Groups) "path" = some (some (.ref f_Rule_path))) (eq_Groups : PySem.W.findIn K (.ref c_Groups) "parts" = some (some (.ref f_Rule_parts))) (ep_Upto : PySem.W.findIn K (.ref c_Upto) "path" = some (some (.ref f_Rule_path))) (eq_Upto : PySem.W.findIn K (.ref c_Upto) "parts" = some (some (.ref f_Rule_parts)))
 (l_Rule___init__ : K.lookup f_Rule___init__ = some ⟨oc_Rule___init__, od_Rule___init__, .func (PySem.W.fnOf "__init__" "Rule.__init__" (zG yX) (zF yX) (zi yX) .none kV_Rule___init__ dc_Rule___init__ pm_Rule___init__ an_Rule___init__ cd_Rule___init__ ct_Rule___init__), sl_Rule___init__⟩) (c2_Rule___init__ : PySem.W.codeIn K cd_Rule___init__ "Rule.__init__" = true) (k_Rule___init__ : PySem.W.keepIn K (.ref f_Rule___init__) = true)
 (l_Rule_shape : K.lookup f_Rule_shape = some ⟨oc_Rule_shape, od_Rule_shape, .func (PySem.W.fnOf "shape" "Rule.shape" (zG xK) (zF xK) (zi xK) .none kV_Rule_shape dc_Rule_shape pm_Rule_shape an_Rule_shape cd_Rule_shape ct_Rule_shape), sl_Rule_shape⟩) (c2_Rule_shape : PySem.W.codeIn K cd_Rule_shape "Rule.shape" = true) (k_Rule_shape : PySem.W.keepIn K (.ref f_Rule_shape) = true)
 (l_Rule_text : K.lookup f_Rule_text = some ⟨oc_Rule_text, od_Rule_text, .func (PySem.W.fnOf "text" "Rule.text" (zG Yb) (zF Yb) (zi Yb) .none kV_Rule_text dc_Rule_text pm_Rule_text an_Rule_text cd_Rule_text ct_Rule_text), sl_Rule_text⟩) (c2_Rule_text : PySem.W.codeIn K cd_Rule_text "Rule.text" = true) (k_Rule_text : PySem.W.keepIn K (.ref f_Rule_text) = true)
 (l_Rule_path : K.lookup f_Rule_path = some ⟨oc_Rule_path, od_Rule_path, .func (PySem.W.fnOf "path" "Rule.path" (zG Zd) (zF Zd) (zi Zd) .none kV_Rule_path dc_Rule_path pm_Rule_path an_Rule_path cd_Rule_path ct_Rule_path), sl_Rule_path⟩) (c2_Rule_path : PySem.W.codeIn K cd_Rule_path "Rule.path" = true) (k_Rule_path : PySem.W.keepIn K (.ref f_Rule_path) = true)
 (l_Rule_parts : K.lookup f_Rule_parts = some ⟨oc_Rule_parts, od_Rule_parts, .func (PySem.W.fnOf "parts" "Rule.parts" (zG xL) (zF xL) (zi xL) .none kV_Rule_parts dc_Rule_parts pm_Rule_parts an_Rule_parts cd_Rule_parts ct_Rule_parts), sl_Rule_parts⟩) (c2_Rule_parts : PySem.W.codeIn K cd_Rule_parts "Rule.parts" = true) (k_Rule_parts : PySem.W.keepIn K (.ref f_Rule_parts) = true)
 (l_Shares___init__ : K.lookup f_Shares___init__ = some ⟨oc_Shares___init__, od_Shares___init__, .func (PySem.W.fnOf "__init__" "Shares.__init__" (zG yB) (zF yB) (zi yB) .none kV_Shares___init__ dc_Shares___init__ pm_Shares___init__ an_Shares___init__ cd_Shares___init__ ct_Shares___init__), sl_Shares___init__⟩) (c2_Shares___init__ : PySem.W.codeIn K cd_Shares___init__ "Shares.__init__" = true) (k_Shares___init__ : PySem.W.keepIn K (.ref f_Shares___init__) = true)
 (l_Evenly___init__ : K.lookup f_Evenly___init__ = some ⟨oc_Evenly___init__, od_Evenly___init__, .func (PySem.W.fnOf "__init__" "Evenly.__init__" (zG yE) (zF yE) (zi yE) .none kV_Evenly___init__ dc_Evenly___init__ pm_Evenly___init__ an_Evenly___init__ cd_Evenly___init__ ct_Evenly___init__), sl_Evenly___init__⟩) (c2_Evenly___init__ : PySem.W.codeIn K cd_Evenly___init__ "Evenly.__init__" = true) (k_Evenly___init__ : PySem.W.keepIn K (.ref f_Evenly___init__) = true)
 (l_Losses___init__ : K.lookup f_Losses___init__ = some ⟨oc_Losses___init__, od_Losses___init__, .func (PySem.W.fnOf "__init__" "Losses.__init__" (zG yC) (zF yC) (zi yC) .none kV_Losses___init__ dc_Losses___init__ pm_Losses___init__ an_Losses___init__ cd_Losses___init__ ct_Losses___init__), sl_Losses___init__⟩) (c2_Losses___init__ : PySem.W.codeIn K cd_Losses___init__ "Losses.__init__" = true) (k_Losses___init__ : PySem.W.keepIn K (.ref f_Losses___init__) = true)
 (l_Halves___init__ : K.lookup f_Halves___init__ = some ⟨oc_Halves___init__, od_Halves___init__, .func (PySem.W.fnOf "__init__" "Halves.__init__" (zG yD) (zF yD) (zi yD) .none kV_Halves___init__ dc_Halves___init__ pm_Halves___init__ an_Halves___init__ cd_Halves___init__ ct_Halves___init__), sl_Halves___init__⟩) (c2_Halves___init__ : PySem.W.codeIn K cd_Halves___init__ "Halves.__init__" = true) (k_Halves___init__ : PySem.W.keepIn K (.ref f_Halves___init__) = true)
 (l_Other___init__ : K.lookup f_Other___init__ = some ⟨oc_Other___init__, od_Other___init__, .func (PySem.W.fnOf "__init__" "Other.__init__" (zG yK) (zF yK) (zi yK) .none kV_Other___init__ dc_Other___init__ pm_Other___init__ an_Other___init__ cd_Other___init__ ct_Other___init__), sl_Other___init__⟩) (c2_Other___init__ : PySem.W.codeIn K cd_Other___init__ "Other.__init__" = true) (k_Other___init__ : PySem.W.keepIn K (.ref f_Other___init__) = true)
 (l_Ranks___init__ : K.lookup f_Ranks___init__ = some ⟨oc_Ranks___init__, od_Ranks___init__, .func (PySem.W.fnOf "__init__" "Ranks.__init__" (zG xB) (zF xB) (zi xB) .none kV_Ranks___init__ dc_Ranks___init__ pm_Ranks___init__ an_Ranks___init__ cd_Ranks___init__ ct_Ranks___init__), sl_Ranks___init__⟩) (c2_Ranks___init__ : PySem.W.codeIn K cd_Ranks___init__ "Ranks.__init__" = true) (k_Ranks___init__ : PySem.W.keepIn K (.ref f_Ranks___init__) = true)
 (l_Groups___init__ : K.lookup f_Groups___init__ = some ⟨oc_Groups___init__, od_Groups___init__, .func (PySem.W.fnOf "__init__" "Groups.__init__" (zG xz) (zF xz) (zi xz) .none kV_Groups___init__ dc_Groups___init__ pm_Groups___init__ an_Groups___init__ cd_Groups___init__ ct_Groups___init__), sl_Groups___init__⟩) (c2_Groups___init__ : PySem.W.codeIn K cd_Groups___init__ "Groups.__init__" = true) (k_Groups___init__ : PySem.W.keepIn K (.ref f_Groups___init__) = true)
 (l_Upto___init__ : K.lookup f_Upto___init__ = some ⟨oc_Upto___init__, od_Upto___init__, .func (PySem.W.fnOf "__init__" "Upto.__init__" (zG yW) (zF yW) (zi yW) .none kV_Upto___init__ dc_Upto___init__ pm_Upto___init__ an_Upto___init__ cd_Upto___init__ ct_Upto___init__), sl_Upto___init__⟩) (c2_Upto___init__ : PySem.W.codeIn K cd_Upto___init__ "Upto.__init__" = true) (k_Upto___init__ : PySem.W.keepIn K (.ref f_Upto___init__) = true) (n_Rule_shape : PySem.W.isFn K (.ref f_Rule_shape) = true) (n_Rule_text : PySem.W.isFn K (.ref f_Rule_text) = true) (n_Rule_path : PySem.W.isFn K (.ref f_Rule_path) = true) (n_Rule_parts : PySem.W.isFn K (.ref f_Rule_parts) = true) {t_MOST : Tok} (x_MOST : PySem.W.nsIn K mainGlobals "MOST" = some (some (.int 8 t_MOST)))
 (sp_Rule : PySem.W.specialIn K (.ref c_Rule) "__getattribute__" = some (some (.builtin "type.__getattribute__"))) (rd_Rule : PySem.W.readsIn K c_Rule (.type "type") = true) (hn0 : PySem.W.specialIn K (.builtin "object.__class__") "__get__" = some (some (.builtin "getset_descriptor.__get__"))) (ht0 : PySem.W.takesIn K (.builtin "object.__class__") = some true)
 (pg_Shares : PySem.W.plainGet K c_Shares Str.empty = true) (hd_Shares : PySem.W.hasDictIn K c_Shares = true) (po_Shares : PySem.W.plainOver K c_Shares = true) (sa_Shares : PySem.W.findIn K (.ref c_Shares) "__setattr__" = some (some (.builtin "object.__setattr__"))) (na_Shares : PySem.W.findIn K (.ref c_Shares) "form" = some none) (ha_Shares : PySem.W.findIn K (.ref c_Shares) "__class__" = some (some (.builtin "object.__class__"))) (mo_Shares : PySem.W.mroIn K c_Shares (.type "object") = some true) (kt_Shares : PySem.W.kitOne K (.ref c_Shares) (.ref c_Rule) = some true) (mk_Shares : PySem.W.makesIn K c_Shares = true) (nf_Shares : PySem.W.isFn K (.ref f_Shares___init__) = true) (kc_Shares : PySem.W.keepIn K (.ref c_Shares) = true)
 (pg_Evenly : PySem.W.plainGet K c_Evenly Str.empty = true) (hd_Evenly : PySem.W.hasDictIn K c_Evenly = true) (po_Evenly : PySem.W.plainOver K c_Evenly = true) (sa_Evenly : PySem.W.findIn K (.ref c_Evenly) "__setattr__" = some (some (.builtin "object.__setattr__"))) (na_Evenly : PySem.W.findIn K (.ref c_Evenly) "form" = some none) (ha_Evenly : PySem.W.findIn K (.ref c_Evenly) "__class__" = some (some (.builtin "object.__class__"))) (mo_Evenly : PySem.W.mroIn K c_Evenly (.type "object") = some true) (kt_Evenly : PySem.W.kitOne K (.ref c_Evenly) (.ref c_Rule) = some true) (mk_Evenly : PySem.W.makesIn K c_Evenly = true) (nf_Evenly : PySem.W.isFn K (.ref f_Evenly___init__) = true) (kc_Evenly : PySem.W.keepIn K (.ref c_Evenly) = true)
 (pg_Losses : PySem.W.plainGet K c_Losses Str.empty = true) (hd_Losses : PySem.W.hasDictIn K c_Losses = true) (po_Losses : PySem.W.plainOver K c_Losses = true) (sa_Losses : PySem.W.findIn K (.ref c_Losses) "__setattr__" = some (some (.builtin "object.__setattr__"))) (na_Losses : PySem.W.findIn K (.ref c_Losses) "form" = some none) (ha_Losses : PySem.W.findIn K (.ref c_Losses) "__class__" = some (some (.builtin "object.__class__"))) (mo_Losses : PySem.W.mroIn K c_Losses (.type "object") = some true) (kt_Losses : PySem.W.kitOne K (.ref c_Losses) (.ref c_Rule) = some true) (mk_Losses : PySem.W.makesIn K c_Losses = true) (nf_Losses : PySem.W.isFn K (.ref f_Losses___init__) = true) (kc_Losses : PySem.W.keepIn K (.ref c_Losses) = true)
 (pg_Halves : PySem.W.plainGet K c_Halves Str.empty = true) (hd_Halves : PySem.W.hasDictIn K c_Halves = true) (po_Halves : PySem.W.plainOver K c_Halves = true) (sa_Halves : PySem.W.findIn K (.ref c_Halves) "__setattr__" = some (some (.builtin "object.__setattr__"))) (na_Halves : PySem.W.findIn K (.ref c_Halves) "form" = some none) (ha_Halves : PySem.W.findIn K (.ref c_Halves) "__class__" = some (some (.builtin "object.__class__"))) (mo_Halves : PySem.W.mroIn K c_Halves (.type "object") = some true) (kt_Halves : PySem.W.kitOne K (.ref c_Halves) (.ref c_Rule) = some true) (mk_Halves : PySem.W.makesIn K c_Halves = true) (nf_Halves : PySem.W.isFn K (.ref f_Halves___init__) = true) (kc_Halves : PySem.W.keepIn K (.ref c_Halves) = true)
 (pg_Other : PySem.W.plainGet K c_Other Str.empty = true) (hd_Other : PySem.W.hasDictIn K c_Other = true) (po_Other : PySem.W.plainOver K c_Other = true) (sa_Other : PySem.W.findIn K (.ref c_Other) "__setattr__" = some (some (.builtin "object.__setattr__"))) (na_Other : PySem.W.findIn K (.ref c_Other) "form" = some none) (ha_Other : PySem.W.findIn K (.ref c_Other) "__class__" = some (some (.builtin "object.__class__"))) (mo_Other : PySem.W.mroIn K c_Other (.type "object") = some true) (kt_Other : PySem.W.kitOne K (.ref c_Other) (.ref c_Rule) = some true) (mk_Other : PySem.W.makesIn K c_Other = true) (nf_Other : PySem.W.isFn K (.ref f_Other___init__) = true) (kc_Other : PySem.W.keepIn K (.ref c_Other) = true)
 (pg_Ranks : PySem.W.plainGet K c_Ranks Str.empty = true) (hd_Ranks : PySem.W.hasDictIn K c_Ranks = true) (po_Ranks : PySem.W.plainOver K c_Ranks = true) (sa_Ranks : PySem.W.findIn K (.ref c_Ranks) "__setattr__" = some (some (.builtin "object.__setattr__"))) (na_Ranks : PySem.W.findIn K (.ref c_Ranks) "form" = some none) (ha_Ranks : PySem.W.findIn K (.ref c_Ranks) "__class__" = some (some (.builtin "object.__class__"))) (mo_Ranks : PySem.W.mroIn K c_Ranks (.type "object") = some true) (kt_Ranks : PySem.W.kitOne K (.ref c_Ranks) (.ref c_Rule) = some true) (mk_Ranks : PySem.W.makesIn K c_Ranks = true) (nf_Ranks : PySem.W.isFn K (.ref f_Ranks___init__) = true) (kc_Ranks : PySem.W.keepIn K (.ref c_Ranks) = true)
 (pg_Groups : PySem.W.plainGet K c_Groups Str.empty = true) (hd_Groups : PySem.W.hasDictIn K c_Groups = true) (po_Groups : PySem.W.plainOver K c_Groups = true) (sa_Groups : PySem.W.findIn K (.ref c_Groups) "__setattr__" = some (some (.builtin "object.__setattr__"))) (na_Groups : PySem.W.findIn K (.ref c_Groups) "form" = some none) (ha_Groups : PySem.W.findIn K (.ref c_Groups) "__class__" = some (some (.builtin "object.__class__"))) (mo_Groups : PySem.W.mroIn K c_Groups (.type "object") = some true) (kt_Groups : PySem.W.kitOne K (.ref c_Groups) (.ref c_Rule) = some true) (mk_Groups : PySem.W.makesIn K c_Groups = true) (nf_Groups : PySem.W.isFn K (.ref f_Groups___init__) = true) (kc_Groups : PySem.W.keepIn K (.ref c_Groups) = true)
 (pg_Upto : PySem.W.plainGet K c_Upto Str.empty = true) (hd_Upto : PySem.W.hasDictIn K c_Upto = true) (po_Upto : PySem.W.plainOver K c_Upto = true) (sa_Upto : PySem.W.findIn K (.ref c_Upto) "__setattr__" = some (some (.builtin "object.__setattr__"))) (na_Upto : PySem.W.findIn K (.ref c_Upto) "form" = some none) (ha_Upto : PySem.W.findIn K (.ref c_Upto) "__class__" = some (some (.builtin "object.__class__"))) (mo_Upto : PySem.W.mroIn K c_Upto (.type "object") = some true) (kt_Upto : PySem.W.kitOne K (.ref c_Upto) (.ref c_Rule) = some true) (mk_Upto : PySem.W.makesIn K c_Upto = true) (nf_Upto : PySem.W.isFn K (.ref f_Upto___init__) = true) (kc_Upto : PySem.W.keepIn K (.ref c_Upto) = true)
 (z_len : PySem.W.nsIn K mainGlobals "len" = some none) (z_abs : PySem.W.nsIn K mainGlobals "abs" = some none) (z_min : PySem.W.nsIn K mainGlobals "min" = some none) (z_max : PySem.W.nsIn K mainGlobals "max" = some none) (z_isinstance : PySem.W.nsIn K mainGlobals "isinstance" = some none) (z_range : PySem.W.nsIn K mainGlobals "range" = some none) (z_int : PySem.W.nsIn K mainGlobals "int" = some none) (z_bool : PySem.W.nsIn K mainGlobals "bool" = some none) (z_tuple : PySem.W.nsIn K mainGlobals "tuple" = some none) (z_list : PySem.W.nsIn K mainGlobals "list" = some none) (z_enumerate : PySem.W.nsIn K mainGlobals "enumerate" = some none) (z_zip : PySem.W.nsIn K mainGlobals "zip" = some none) (z_reversed : PySem.W.nsIn K mainGlobals "reversed" = some none) (z_ValueError : PySem.W.nsIn K mainGlobals "ValueError" = some none) (z_sum : PySem.W.nsIn K mainGlobals "sum" = some none) (z_str : PySem.W.nsIn K mainGlobals "str" = some none) (z_sorted : PySem.W.nsIn K mainGlobals "sorted" = some none) (z_set : PySem.W.nsIn K mainGlobals "set" = some none) :
 ∃ fd : FuncData, (∀ (s : Shared) (v : Value), BindsTo s fd ⟨[v], []⟩ [("_law_script", v)]) ∧ ∀ base : Heap, K.In base → base.Ns mainGlobals mg → FnOk l.prog w K mg base CX0 14 fa fd ["_law_script"] (zfb K) := by
 have e := hfa.symm.trans (PySem.W.mg_of X G a45)
 cases e
 have F_check_claims := zQ (st := xn) l1 c1 k1
 have b_check_claims := F_check_claims.binds (ps := ["claims"]) fun _ _ _ _ _ _ us hl => match us, hl with | [_], _ => rfl
 have m_check_claims := PySem.W.mg_of X G a1
 have F_plus := zQ (st := Uk) l2 c2 k2
 have b_plus := F_plus.binds (ps := ["one", "two"]) fun _ _ _ _ _ _ us hl => match us, hl with | [_, _], _ => rfl
 have m_plus := PySem.W.mg_of X G a2
 have F_minus := zQ (st := Ws) l3 c3 k3
 have b_minus := F_minus.binds (ps := ["one", "two"]) fun _ _ _ _ _ _ us hl => match us, hl with | [_, _], _ => rfl
 have m_minus := PySem.W.mg_of X G a3
 have F_times := zQ (st := Wr) l4 c4 k4
 have b_times := F_times.binds (ps := ["one", "two"]) fun _ _ _ _ _ _ us hl => match us, hl with | [_, _], _ => rfl
 have m_times := PySem.W.mg_of X G a4
 have F_over := zQ (st := Ul) l5 c5 k5
 have b_over := F_over.binds (ps := ["one", "two"]) fun _ _ _ _ _ _ us hl => match us, hl with | [_, _], _ => rfl
 have m_over := PySem.W.mg_of X G a5
 have F_before := zQ (st := YR) l6 c6 k6
 have b_before := F_before.binds (ps := ["one", "two"]) fun _ _ _ _ _ _ us hl => match us, hl with | [_, _], _ => rfl
 have m_before := PySem.W.mg_of X G a6
 have F_lowest := zQ (st := YL) l7 c7 k7
 have b_lowest := F_lowest.binds (ps := ["top", "bottom"]) fun _ _ _ _ _ _ us hl => match us, hl with | [_, _], _ => rfl
 have m_lowest := PySem.W.mg_of X G a7
 have F_greatest_divisor := zQ (st := yv) l8 c8 k8
 have b_greatest_divisor := F_greatest_divisor.binds (ps := ["one", "two"]) fun _ _ _ _ _ _ us hl => match us, hl with | [_, _], _ => rfl
 have m_greatest_divisor := PySem.W.mg_of X G a8
 have F_thinned := zQ (st := ZO) l9 c9 k9
 have b_thinned := F_thinned.binds (ps := ["corners"]) fun _ _ _ _ _ _ us hl => match us, hl with | [_], _ => rfl
 have m_thinned := PySem.W.mg_of X G a9
 have F_parts_at := zQ (st := Zw) l10 c10 k10
 have b_parts_at := F_parts_at.binds (ps := ["path", "purse"]) fun _ _ _ _ _ _ us hl => match us, hl with | [_, _], _ => rfl
 have m_parts_at := PySem.W.mg_of X G a10
 have F_turned := zQ (st := YI) l11 c11 k11
 have b_turned := F_turned.binds (ps := ["path"]) fun _ _ _ _ _ _ us hl => match us, hl with | [_], _ => rfl
 have m_turned := PySem.W.mg_of X G a11
 have F_scaled := zQ (st := YK) l12 c12 k12
 have b_scaled := F_scaled.binds (ps := ["path", "portion"]) fun _ _ _ _ _ _ us hl => match us, hl with | [_, _], _ => rfl
 have m_scaled := PySem.W.mg_of X G a12
 have F_behind := zQ (st := YQ) l13 c13 k13
 have b_behind := F_behind.binds (ps := ["path", "second"]) fun _ _ _ _ _ _ us hl => match us, hl with | [_, _], _ => rfl
 have m_behind := PySem.W.mg_of X G a13
 have F_is_straight := zQ (st := xy) l14 c14 k14
 have b_is_straight := F_is_straight.binds (ps := ["ahead", "corner", "following"]) fun _ _ _ _ _ _ us hl => match us, hl with | [_, _, _], _ => rfl
 have m_is_straight := PySem.W.mg_of X G a14
 have F_gap := zQ (st := zcD) l15 c15 k15
 have b_gap := F_gap.binds (ps := ["one", "two"]) fun _ _ _ _ _ _ us hl => match us, hl with | [_, _], _ => rfl
 have m_gap := PySem.W.mg_of X G a15
 have F_parts_between := zQ (st := yV) l16 c16 k16
 have b_parts_between := F_parts_between.binds (ps := ["start", "end", "purse"]) fun _ _ _ _ _ _ us hl => match us, hl with | [_, _, _], _ => rfl
 have m_parts_between := PySem.W.mg_of X G a16
 have F_portion_reached := zQ (st := yz) l17 c17 k17
 have b_portion_reached := F_portion_reached.binds (ps := ["start", "end", "amount"]) fun _ _ _ _ _ _ us hl => match us, hl with | [_, _, _], _ => rfl
 have m_portion_reached := PySem.W.mg_of X G a17
 have F_amount_at := zQ (st := Zc) l18 c18 k18
 have b_amount_at := F_amount_at.binds (ps := ["start", "end", "portion"]) fun _ _ _ _ _ _ us hl => match us, hl with | [_, _, _], _ => rfl
 have m_amount_at := PySem.W.mg_of X G a18
 have F_plus_each := zQ (st := xV) l19 c19 k19
 have b_plus_each := F_plus_each.binds (ps := ["ones", "twos"]) fun _ _ _ _ _ _ us hl => match us, hl with | [_, _], _ => rfl
 have m_plus_each := PySem.W.mg_of X G a19
 have F_less_each := zQ (st := xW) l20 c20 k20
 have b_less_each := F_less_each.binds (ps := ["ones", "twos"]) fun _ _ _ _ _ _ us hl => match us, hl with | [_, _], _ => rfl
 have m_less_each := PySem.W.mg_of X G a20
 have F_last_reached := zQ (st := xm) l21 c21 k21
 have b_last_reached := F_last_reached.binds (ps := ["amounts", "amount"]) fun _ _ _ _ _ _ us hl => match us, hl with | [_, _], _ => rfl
 have m_last_reached := PySem.W.mg_of X G a21
 have F_course := zQ (st := YO) l22 c22 k22
 have b_course := F_course.binds (ps := ["shape", "claims"]) fun _ _ _ _ _ _ us hl => match us, hl with | [_, _], _ => rfl
 have m_course := PySem.W.mg_of X G a22
 have F_shares := zQ (st := YJ) l23 c23 k23
 have b_shares := F_shares.binds (ps := ["claims"]) fun _ _ _ _ _ _ us hl => match us, hl with | [_], _ => rfl
 have m_shares := PySem.W.mg_of X G a23
 have F_evenly := zQ (st := YN) l24 c24 k24
 have b_evenly := F_evenly.binds (ps := ["claims"]) fun _ _ _ _ _ _ us hl => match us, hl with | [_], _ => rfl
 have m_evenly := PySem.W.mg_of X G a24
 have F_losses := zQ (st := YM) l25 c25 k25
 have b_losses := F_losses.binds (ps := ["claims"]) fun _ _ _ _ _ _ us hl => match us, hl with | [_], _ => rfl
 have m_losses := PySem.W.mg_of X G a25
 have F_upto := zQ (st := Uj) l26 c26 k26
 have b_upto := F_upto.binds (ps := ["portion", "first", "last"]) fun _ _ _ _ _ _ us hl => match us, hl with | [_, _, _], _ => rfl
 have m_upto := PySem.W.mg_of X G a26
 have F_nothing := zQ (st := ZP) l27 c27 k27
 have b_nothing := F_nothing.binds (ps := ["count"]) fun _ _ _ _ _ _ us hl => match us, hl with | [_], _ => rfl
 have m_nothing := PySem.W.mg_of X G a27
 have F_whole_corner := zQ (st := xl) l28 c28 k28
 have b_whole_corner := F_whole_corner.binds (ps := ["parts"]) fun _ _ _ _ _ _ us hl => match us, hl with | [_], _ => rfl
 have m_whole_corner := PySem.W.mg_of X G a28
 have F_law_cell_at := zQ (st := xx) l29 c29 k29
 have b_law_cell_at := F_law_cell_at.binds (ps := ["_law_script", "_law_k"]) fun _ _ _ _ _ _ us hl => match us, hl with | [_, _], _ => rfl
 have m_law_cell_at := PySem.W.mg_of X G a29
 have F_law_mixed := zQ (st := Za) l30 c30 k30
 have b_law_mixed := F_law_mixed.binds (ps := ["_law_cell", "_law_place"]) fun _ _ _ _ _ _ us hl => match us, hl with | [_, _], _ => rfl
 have m_law_mixed := PySem.W.mg_of X G a30
 have F_law_divisor := zQ (st := xw) l31 c31 k31
 have b_law_divisor := F_law_divisor.binds (ps := ["_law_one", "_law_two"]) fun _ _ _ _ _ _ us hl => match us, hl with | [_, _], _ => rfl
 have m_law_divisor := PySem.W.mg_of X G a31
 have F_law_lowest := zQ (st := xH) l32 c32 k32
 have b_law_lowest := F_law_lowest.binds (ps := ["_law_top", "_law_bottom"]) fun _ _ _ _ _ _ us hl => match us, hl with | [_, _], _ => rfl
 have m_law_lowest := PySem.W.mg_of X G a32
 have F_law_whole := zQ (st := xX) l33 c33 k33
 have b_law_whole := F_law_whole.binds (ps := ["_law_found"]) fun _ _ _ _ _ _ us hl => match us, hl with | [_], _ => rfl
 have m_law_whole := PySem.W.mg_of X G a33
 have F_law_is_fraction := zQ (st := yA) l34 c34 k34
 have b_law_is_fraction := F_law_is_fraction.binds (ps := ["_law_found"]) fun _ _ _ _ _ _ us hl => match us, hl with | [_], _ => rfl
 have m_law_is_fraction := PySem.W.mg_of X G a34
 have F_law_labels := zQ (st := xI) l35 c35 k35
 have b_law_labels := F_law_labels.binds (ps := ["_law_number"]) fun _ _ _ _ _ _ us hl => match us, hl with | [_], _ => rfl
 have m_law_labels := PySem.W.mg_of X G a35
 have F_law_claims := zQ (st := xJ) l36 c36 k36
 have b_law_claims := F_law_claims.binds (ps := ["_law_script", "_law_at", "_law_many", "_law_size"]) fun _ _ _ _ _ _ us hl => match us, hl with | [_, _, _, _], _ => rfl
 have m_law_claims := PySem.W.mg_of X G a36
 have F_law_even := zQ (st := Zz) l37 c37 k37
 have b_law_even := F_law_even.binds (ps := ["_law_amounts", "_law_parts"]) fun _ _ _ _ _ _ us hl => match us, hl with | [_, _], _ => rfl
 have m_law_even := PySem.W.mg_of X G a37
 have F_law_fits := zQ (st := Zy) l38 c38 k38
 have b_law_fits := F_law_fits.binds (ps := ["_law_shape", "_law_claims_here", "_law_parts"]) fun _ _ _ _ _ _ us hl => match us, hl with | [_, _, _], _ => rfl
 have m_law_fits := PySem.W.mg_of X G a38
 have F_law_upto_fit := zQ (st := yQ) l39 c39 k39
 have b_law_upto_fit := F_law_upto_fit.binds (ps := ["_law_shape", "_law_claims_here", "_law_parts"]) fun _ _ _ _ _ _ us hl => match us, hl with | [_, _, _], _ => rfl
 have m_law_upto_fit := PySem.W.mg_of X G a39
 have F_law_right := zQ (st := xY) l40 c40 k40
 have b_law_right := F_law_right.binds (ps := ["_law_shape", "_law_claims_here", "_law_purse_here", "_law_parts"]) fun _ _ _ _ _ _ us hl => match us, hl with | [_, _, _, _], _ => rfl
 have m_law_right := PySem.W.mg_of X G a40
 have F_law_rule := zQ (st := Zx) l41 c41 k41
 have b_law_rule := F_law_rule.binds (ps := ["_law_shape"]) fun _ _ _ _ _ _ us hl => match us, hl with | [_], _ => rfl
 have m_law_rule := PySem.W.mg_of X G a41
 have F_law_portion := zQ (st := xv) l42 c42 k42
 have b_law_portion := F_law_portion.binds (ps := ["_law_cell"]) fun _ _ _ _ _ _ us hl => match us, hl with | [_], _ => rfl
 have m_law_portion := PySem.W.mg_of X G a42
 have F_law_drawn := zQ (st := Zb) l43 c43 k43
 have b_law_drawn := F_law_drawn.binds (ps := ["_law_cell", "_law_portion_here"]) fun _ _ _ _ _ _ us hl => match us, hl with | [_, _], _ => rfl
 have m_law_drawn := PySem.W.mg_of X G a43
 have F_law_purse := zQ (st := xZ) l44 c44 k44
 have b_law_purse := F_law_purse.binds (ps := ["_law_whole_here", "_law_cell"]) fun _ _ _ _ _ _ us hl => match us, hl with | [_, _], _ => rfl
 have m_law_purse := PySem.W.mg_of X G a44
 have F_law := zQ (st := UR) l45 c45 k45
 have b_law := F_law.binds (ps := ["_law_script"]) fun _ _ _ _ _ _ us hl => match us, hl with | [_], _ => rfl
 have m_law := PySem.W.mg_of X G a45
 have B : Bl mg := ⟨PySem.W.mg_none_of X G z_len, PySem.W.mg_none_of X G z_abs, PySem.W.mg_none_of X G z_min, PySem.W.mg_none_of X G z_max, PySem.W.mg_none_of X G z_isinstance, PySem.W.mg_none_of X G z_range, PySem.W.mg_none_of X G z_int, PySem.W.mg_none_of X G z_bool, PySem.W.mg_none_of X G z_tuple, PySem.W.mg_none_of X G z_list, PySem.W.mg_none_of X G z_enumerate, PySem.W.mg_none_of X G z_zip, PySem.W.mg_none_of X G z_reversed, PySem.W.mg_none_of X G z_ValueError, PySem.W.mg_none_of X G z_sum, PySem.W.mg_none_of X G z_str⟩
 have B2 : Bl3 mg := ⟨PySem.W.mg_none_of X G z_sorted, PySem.W.mg_none_of X G z_set⟩
 refine ⟨PySem.W.fnOf "law" "law" (zG UR) (zF UR) (zi UR) .none kV45 dc45 pm45 an45 cd45 ct45, fun s v => .of_eq rfl, fun base XB GB => ?_⟩
 have F_Rule___init__ := zQ (st := yX) l_Rule___init__ c2_Rule___init__ k_Rule___init__
 have b_Rule___init__ := F_Rule___init__.binds (ps := ["self", "form"]) fun _ _ _ _ _ _ us hl => match us, hl with | [_, _], _ => rfl
 have F_Rule_shape := zQ (st := xK) l_Rule_shape c2_Rule_shape k_Rule_shape
 have b_Rule_shape := F_Rule_shape.binds (ps := ["self"]) fun _ _ _ _ _ _ us hl => match us, hl with | [_], _ => rfl
 have F_Rule_text := zQ (st := Yb) l_Rule_text c2_Rule_text k_Rule_text
 have b_Rule_text := F_Rule_text.binds (ps := ["self"]) fun _ _ _ _ _ _ us hl => match us, hl with | [_], _ => rfl
 have F_Rule_path := zQ (st := Zd) l_Rule_path c2_Rule_path k_Rule_path
 have b_Rule_path := F_Rule_path.binds (ps := ["self", "claims"]) fun _ _ _ _ _ _ us hl => match us, hl with | [_, _], _ => rfl
 have F_Rule_parts := zQ (st := xL) l_Rule_parts c2_Rule_parts k_Rule_parts
 have b_Rule_parts := F_Rule_parts.binds (ps := ["self", "claims", "purse"]) fun _ _ _ _ _ _ us hl => match us, hl with | [_, _, _], _ => rfl
 have F_Shares___init__ := zQ (st := yB) l_Shares___init__ c2_Shares___init__ k_Shares___init__
 have b_Shares___init__ := F_Shares___init__.binds (ps := ["self"]) fun _ _ _ _ _ _ us hl => match us, hl with | [_], _ => rfl
 have F_Evenly___init__ := zQ (st := yE) l_Evenly___init__ c2_Evenly___init__ k_Evenly___init__
 have b_Evenly___init__ := F_Evenly___init__.binds (ps := ["self"]) fun _ _ _ _ _ _ us hl => match us, hl with | [_], _ => rfl
 have F_Losses___init__ := zQ (st := yC) l_Losses___init__ c2_Losses___init__ k_Losses___init__
 have b_Losses___init__ := F_Losses___init__.binds (ps := ["self"]) fun _ _ _ _ _ _ us hl => match us, hl with | [_], _ => rfl
 have F_Halves___init__ := zQ (st := yD) l_Halves___init__ c2_Halves___init__ k_Halves___init__
 have b_Halves___init__ := F_Halves___init__.binds (ps := ["self"]) fun _ _ _ _ _ _ us hl => match us, hl with | [_], _ => rfl
 have F_Other___init__ := zQ (st := yK) l_Other___init__ c2_Other___init__ k_Other___init__
 have b_Other___init__ := F_Other___init__.binds (ps := ["self", "inner"]) fun _ _ _ _ _ _ us hl => match us, hl with | [_, _], _ => rfl
 have F_Ranks___init__ := zQ (st := xB) l_Ranks___init__ c2_Ranks___init__ k_Ranks___init__
 have b_Ranks___init__ := F_Ranks___init__.binds (ps := ["self", "inner"]) fun _ _ _ _ _ _ us hl => match us, hl with | [_, _], _ => rfl
 have F_Groups___init__ := zQ (st := xz) l_Groups___init__ c2_Groups___init__ k_Groups___init__
 have b_Groups___init__ := F_Groups___init__.binds (ps := ["self", "outer", "inner"]) fun _ _ _ _ _ _ us hl => match us, hl with | [_, _, _], _ => rfl
 have F_Upto___init__ := zQ (st := yW) l_Upto___init__ c2_Upto___init__ k_Upto___init__
 have b_Upto___init__ := F_Upto___init__.binds (ps := ["self", "portion", "first", "last"]) fun _ _ _ _ _ _ us hl => match us, hl with | [_, _, _, _], _ => rfl
 have g_Rule := PySem.W.mg_of XB GB x_Rule
 have g_Shares := PySem.W.mg_of XB GB x_Shares
 have ok_Shares : ROk K f_Rule_shape f_Rule_text c_Rule c_Shares := ⟨⟨pg_Shares, hd_Shares, po_Shares, sa_Shares⟩, na_Shares, ⟨es_Shares, n_Rule_shape, k_Rule_shape⟩, ⟨et_Shares, n_Rule_text, k_Rule_text⟩, ha_Shares, hn0, ht0, mo_Shares, kt_Shares⟩
 have MK_Shares : Mk K c_Shares f_Shares___init__ := ⟨mk_Shares, e_Shares___init__, nf_Shares, kc_Shares⟩
 have g_Evenly := PySem.W.mg_of XB GB x_Evenly
 have ok_Evenly : ROk K f_Rule_shape f_Rule_text c_Rule c_Evenly := ⟨⟨pg_Evenly, hd_Evenly, po_Evenly, sa_Evenly⟩, na_Evenly, ⟨es_Evenly, n_Rule_shape, k_Rule_shape⟩, ⟨et_Evenly, n_Rule_text, k_Rule_text⟩, ha_Evenly, hn0, ht0, mo_Evenly, kt_Evenly⟩
 have MK_Evenly : Mk K c_Evenly f_Evenly___init__ := ⟨mk_Evenly, e_Evenly___init__, nf_Evenly, kc_Evenly⟩
 have g_Losses := PySem.W.mg_of XB GB x_Losses
 have ok_Losses : ROk K f_Rule_shape f_Rule_text c_Rule c_Losses := ⟨⟨pg_Losses, hd_Losses, po_Losses, sa_Losses⟩, na_Losses, ⟨es_Losses, n_Rule_shape, k_Rule_shape⟩, ⟨et_Losses, n_Rule_text, k_Rule_text⟩, ha_Losses, hn0, ht0, mo_Losses, kt_Losses⟩
 have MK_Losses : Mk K c_Losses f_Losses___init__ := ⟨mk_Losses, e_Losses___init__, nf_Losses, kc_Losses⟩
 have g_Halves := PySem.W.mg_of XB GB x_Halves
 have ok_Halves : ROk K f_Rule_shape f_Rule_text c_Rule c_Halves := ⟨⟨pg_Halves, hd_Halves, po_Halves, sa_Halves⟩, na_Halves, ⟨es_Halves, n_Rule_shape, k_Rule_shape⟩, ⟨et_Halves, n_Rule_text, k_Rule_text⟩, ha_Halves, hn0, ht0, mo_Halves, kt_Halves⟩
 have MK_Halves : Mk K c_Halves f_Halves___init__ := ⟨mk_Halves, e_Halves___init__, nf_Halves, kc_Halves⟩
 have g_Other := PySem.W.mg_of XB GB x_Other
 have ok_Other : ROk K f_Rule_shape f_Rule_text c_Rule c_Other := ⟨⟨pg_Other, hd_Other, po_Other, sa_Other⟩, na_Other, ⟨es_Other, n_Rule_shape, k_Rule_shape⟩, ⟨et_Other, n_Rule_text, k_Rule_text⟩, ha_Other, hn0, ht0, mo_Other, kt_Other⟩
 have MK_Other : Mk K c_Other f_Other___init__ := ⟨mk_Other, e_Other___init__, nf_Other, kc_Other⟩
 have g_Ranks := PySem.W.mg_of XB GB x_Ranks
 have ok_Ranks : ROk K f_Rule_shape f_Rule_text c_Rule c_Ranks := ⟨⟨pg_Ranks, hd_Ranks, po_Ranks, sa_Ranks⟩, na_Ranks, ⟨es_Ranks, n_Rule_shape, k_Rule_shape⟩, ⟨et_Ranks, n_Rule_text, k_Rule_text⟩, ha_Ranks, hn0, ht0, mo_Ranks, kt_Ranks⟩
 have MK_Ranks : Mk K c_Ranks f_Ranks___init__ := ⟨mk_Ranks, e_Ranks___init__, nf_Ranks, kc_Ranks⟩
 have g_Groups := PySem.W.mg_of XB GB x_Groups
 have ok_Groups : ROk K f_Rule_shape f_Rule_text c_Rule c_Groups := ⟨⟨pg_Groups, hd_Groups, po_Groups, sa_Groups⟩, na_Groups, ⟨es_Groups, n_Rule_shape, k_Rule_shape⟩, ⟨et_Groups, n_Rule_text, k_Rule_text⟩, ha_Groups, hn0, ht0, mo_Groups, kt_Groups⟩
 have MK_Groups : Mk K c_Groups f_Groups___init__ := ⟨mk_Groups, e_Groups___init__, nf_Groups, kc_Groups⟩
 have g_Upto := PySem.W.mg_of XB GB x_Upto
 have ok_Upto : ROk K f_Rule_shape f_Rule_text c_Rule c_Upto := ⟨⟨pg_Upto, hd_Upto, po_Upto, sa_Upto⟩, na_Upto, ⟨es_Upto, n_Rule_shape, k_Rule_shape⟩, ⟨et_Upto, n_Rule_text, k_Rule_text⟩, ha_Upto, hn0, ht0, mo_Upto, kt_Upto⟩
 have MK_Upto : Mk K c_Upto f_Upto___init__ := ⟨mk_Upto, e_Upto___init__, nf_Upto, kc_Upto⟩
 have okA : ∀ r : Rl, ROk K f_Rule_shape f_Rule_text c_Rule ((⟨c_Shares, c_Evenly, c_Losses, c_Halves, c_Other, c_Ranks, c_Groups, c_Upto⟩ : RAd).cls r) := fun r => by cases r <;> assumption
 have g_MOST := PySem.W.mg_of XB GB x_MOST
 have mp_Shares : Meth K c_Shares "path" f_Rule_path := ⟨ep_Shares, n_Rule_path, k_Rule_path⟩
 have mq_Shares : Meth K c_Shares "parts" f_Rule_parts := ⟨eq_Shares, n_Rule_parts, k_Rule_parts⟩
 have mp_Evenly : Meth K c_Evenly "path" f_Rule_path := ⟨ep_Evenly, n_Rule_path, k_Rule_path⟩
 have mq_Evenly : Meth K c_Evenly "parts" f_Rule_parts := ⟨eq_Evenly, n_Rule_parts, k_Rule_parts⟩
 have mp_Losses : Meth K c_Losses "path" f_Rule_path := ⟨ep_Losses, n_Rule_path, k_Rule_path⟩
 have mq_Losses : Meth K c_Losses "parts" f_Rule_parts := ⟨eq_Losses, n_Rule_parts, k_Rule_parts⟩
 have mp_Halves : Meth K c_Halves "path" f_Rule_path := ⟨ep_Halves, n_Rule_path, k_Rule_path⟩
 have mq_Halves : Meth K c_Halves "parts" f_Rule_parts := ⟨eq_Halves, n_Rule_parts, k_Rule_parts⟩
 have mp_Other : Meth K c_Other "path" f_Rule_path := ⟨ep_Other, n_Rule_path, k_Rule_path⟩
 have mq_Other : Meth K c_Other "parts" f_Rule_parts := ⟨eq_Other, n_Rule_parts, k_Rule_parts⟩
 have mp_Ranks : Meth K c_Ranks "path" f_Rule_path := ⟨ep_Ranks, n_Rule_path, k_Rule_path⟩
 have mq_Ranks : Meth K c_Ranks "parts" f_Rule_parts := ⟨eq_Ranks, n_Rule_parts, k_Rule_parts⟩
 have mp_Groups : Meth K c_Groups "path" f_Rule_path := ⟨ep_Groups, n_Rule_path, k_Rule_path⟩
 have mq_Groups : Meth K c_Groups "parts" f_Rule_parts := ⟨eq_Groups, n_Rule_parts, k_Rule_parts⟩
 have mp_Upto : Meth K c_Upto "path" f_Rule_path := ⟨ep_Upto, n_Rule_path, k_Rule_path⟩
 have mq_Upto : Meth K c_Upto "parts" f_Rule_parts := ⟨eq_Upto, n_Rule_parts, k_Rule_parts⟩
 have okP : ∀ r : Rl, Meth K ((⟨c_Shares, c_Evenly, c_Losses, c_Halves, c_Other, c_Ranks, c_Groups, c_Upto⟩ : RAd).cls r) "path" f_Rule_path ∧ Meth K ((⟨c_Shares, c_Evenly, c_Losses, c_Halves, c_Other, c_Ranks, c_Groups, c_Upto⟩ : RAd).cls r) "parts" f_Rule_parts := fun r => by cases r <;> constructor <;> assumption
 generalize hAA : (⟨c_Shares, c_Evenly, c_Losses, c_Halves, c_Other, c_Ranks, c_Groups, c_Upto⟩ : RAd) = A at okA okP
 have F_rinit := zfE (P := l.prog) (w := w) (mg := mg) (base := base) (fS := f_Rule_shape) (fT := f_Rule_text) (Ru := c_Rule) F_Rule___init__
 have F_shape := zfC (P := l.prog) (w := w) (mg := mg) (base := base) okA F_Rule_shape
 have i_Shares := VW (A := A) g_Rule sp_Rule rd_Rule e_Rule___init__ F_rinit k_Rule___init__ b_Rule___init__ (okA .shares) F_Shares___init__
 have m_Shares : WT l.prog w K mg base "Shares" (A.cls .shares) ["self"] (xF (A.cls .shares) (α := Unit) (fun _ => []) (fun _ => Rl.shares.shape)) := by
  subst hAA
  exact ⟨_, _, MK_Shares, i_Shares, b_Shares___init__, g_Shares⟩
 have i_Evenly := VZ (A := A) g_Rule sp_Rule rd_Rule e_Rule___init__ F_rinit k_Rule___init__ b_Rule___init__ (okA .evenly) F_Evenly___init__
 have m_Evenly : WT l.prog w K mg base "Evenly" (A.cls .evenly) ["self"] (xF (A.cls .evenly) (α := Unit) (fun _ => []) (fun _ => Rl.evenly.shape)) := by
  subst hAA
  exact ⟨_, _, MK_Evenly, i_Evenly, b_Evenly___init__, g_Evenly⟩
 have i_Losses := VX (A := A) g_Rule sp_Rule rd_Rule e_Rule___init__ F_rinit k_Rule___init__ b_Rule___init__ (okA .losses) F_Losses___init__
 have m_Losses : WT l.prog w K mg base "Losses" (A.cls .losses) ["self"] (xF (A.cls .losses) (α := Unit) (fun _ => []) (fun _ => Rl.losses.shape)) := by
  subst hAA
  exact ⟨_, _, MK_Losses, i_Losses, b_Losses___init__, g_Losses⟩
 have i_Halves := VY (A := A) g_Rule sp_Rule rd_Rule e_Rule___init__ F_rinit k_Rule___init__ b_Rule___init__ (okA .halves) F_Halves___init__
 have m_Halves : WT l.prog w K mg base "Halves" (A.cls .halves) ["self"] (xF (A.cls .halves) (α := Unit) (fun _ => []) (fun _ => Rl.halves.shape)) := by
  subst hAA
  exact ⟨_, _, MK_Halves, i_Halves, b_Halves___init__, g_Halves⟩
 have i_Other := UZ (A := A) g_Rule sp_Rule rd_Rule e_Rule___init__ F_rinit k_Rule___init__ b_Rule___init__ F_shape b_Rule_shape okA F_Other___init__
 have m_Other : WT l.prog w K mg base "Other" (A.cls (.other .shares)) ["self", "inner"] (xF (A.cls (.other .shares)) (α := Rl) (fun r => [r.ins A]) (fun r => (Rl.other r).shape)) := by
  subst hAA
  exact ⟨_, _, MK_Other, i_Other, b_Other___init__, g_Other⟩
 have i_Upto := za0 (A := A) g_Rule sp_Rule rd_Rule e_Rule___init__ F_rinit k_Rule___init__ b_Rule___init__ F_shape b_Rule_shape okA F_Upto___init__
 have m_Upto : WT l.prog w K mg base "Upto" (A.cls (.upto 0 0 .shares .shares)) ["self", "portion", "first", "last"] (xF (A.cls (.upto 0 0 .shares .shares)) (α := (Int × Int) × Rl × Rl) (fun r => [.tuple [.int r.1.1, .int r.1.2], r.2.1.ins A, r.2.2.ins A]) (fun r => (Rl.upto r.1.1 r.1.2 r.2.1 r.2.2).shape)) := by
  subst hAA
  exact ⟨_, _, MK_Upto, i_Upto, b_Upto___init__, g_Upto⟩
 have C_gcd := zY (P := l.prog) (w := w) (base := base) F_greatest_divisor (ok_gcd F_greatest_divisor) m_greatest_divisor b_greatest_divisor
 have C_lowest := zY (P := l.prog) (w := w) (base := base) F_lowest (zec B C_gcd F_lowest) m_lowest b_lowest
 have C_plus := zY (P := l.prog) (w := w) (base := base) F_plus (zhH C_lowest F_plus) m_plus b_plus
 have C_minus := zY (P := l.prog) (w := w) (base := base) F_minus (zfJ C_lowest F_minus) m_minus b_minus
 have C_times := zY (P := l.prog) (w := w) (base := base) F_times (zfB C_lowest F_times) m_times b_times
 have C_over := zY (P := l.prog) (w := w) (base := base) F_over (zhI C_lowest F_over) m_over b_over
 have C_before := zY (P := l.prog) (w := w) (base := base) F_before (zej F_before) m_before b_before
 have C_last := zY (P := l.prog) (w := w) (base := base) F_last_reached (zhJ B C_before F_last_reached) m_last_reached b_last_reached
 have C_portion := zY (P := l.prog) (w := w) (base := base) F_portion_reached (zcN C_minus C_over F_portion_reached) m_portion_reached b_portion_reached
 have C_amount := zY (P := l.prog) (w := w) (base := base) F_amount_at (zek C_plus C_minus C_times F_amount_at) m_amount_at b_amount_at
 have C_between := zY (P := l.prog) (w := w) (base := base) F_parts_between (zcS B C_portion C_amount F_parts_between) m_parts_between b_parts_between
 have C_partsat := zY (P := l.prog) (w := w) (base := base) F_parts_at (zcO B C_last C_between F_parts_at) m_parts_at b_parts_at
 have C_gap := zY (P := l.prog) (w := w) (base := base) F_gap (ok_gap F_gap) m_gap b_gap
 have C_straight := zY (P := l.prog) (w := w) (base := base) F_is_straight (zbz B C_gap F_is_straight) m_is_straight b_is_straight
 have C_thinned := zY (P := l.prog) (w := w) (base := base) F_thinned (zcM B C_straight F_thinned) m_thinned b_thinned
 have C_pe := zY (P := l.prog) (w := w) (base := base) F_plus_each (zaY B C_plus F_plus_each) m_plus_each b_plus_each
 have C_le := zY (P := l.prog) (w := w) (base := base) F_less_each (zaZ B C_minus F_less_each) m_less_each b_less_each
 have C_turned := zY (P := l.prog) (w := w) (base := base) F_turned (zd7 B C_minus C_le F_turned) m_turned b_turned
 have C_scaled := zY (P := l.prog) (w := w) (base := base) F_scaled (zd9 B C_times F_scaled) m_scaled b_scaled
 have C_behind := zY (P := l.prog) (w := w) (base := base) F_behind (zei B C_plus C_pe C_thinned F_behind) m_behind b_behind
 have C_check := zY (P := l.prog) (w := w) (base := base) F_check_claims (zfM B g_MOST F_check_claims) m_check_claims b_check_claims
 have C_wc := zY (P := l.prog) (w := w) (base := base) F_whole_corner (ok_wc B F_whole_corner) m_whole_corner b_whole_corner
 have C_nothing := zY (P := l.prog) (w := w) (base := base) F_nothing (zcP C_wc F_nothing) m_nothing b_nothing
 have C_shares := zY (P := l.prog) (w := w) (base := base) F_shares (zd8 B C_nothing C_wc F_shares) m_shares b_shares
 have C_evenly := zY (P := l.prog) (w := w) (base := base) F_evenly (zeg B B2 C_wc F_evenly) m_evenly b_evenly
 have C_losses := zY (P := l.prog) (w := w) (base := base) F_losses (zed C_evenly C_turned F_losses) m_losses b_losses
 have C_upto := zY (P := l.prog) (w := w) (base := base) F_upto (zhG C_behind C_scaled C_minus F_upto) m_upto b_upto
 have C_course := zY (P := l.prog) (w := w) (base := base) F_course (zcR C_shares C_evenly C_losses C_upto C_turned F_course m_course b_course 4) m_course b_course
 have F_path := zfH (A := A) (n := 4) okA C_check C_course F_Rule_path
 have F_parts := zeb (A := A) (n := 4) okA (fun r => (okP r).1) F_path b_Rule_path C_partsat F_Rule_parts
 have C_cell := zY (P := l.prog) (w := w) (base := base) F_law_cell_at (zhM B F_law_cell_at) m_law_cell_at b_law_cell_at
 have C_mix := zY (P := l.prog) (w := w) (base := base) F_law_mixed (zfI F_law_mixed) m_law_mixed b_law_mixed
 have C_div := zY (P := l.prog) (w := w) (base := base) F_law_divisor (zcQ B F_law_divisor) m_law_divisor b_law_divisor
 have C_low := zY (P := l.prog) (w := w) (base := base) F_law_lowest (zee C_div F_law_lowest) m_law_lowest b_law_lowest
 have C_whole := zY (P := l.prog) (w := w) (base := base) F_law_whole (zfA B F_law_whole) m_law_whole b_law_whole
 have C_frac := zY (P := l.prog) (w := w) (base := base) F_law_is_fraction (zhK B C_whole C_div F_law_is_fraction) m_law_is_fraction b_law_is_fraction
 have C_labels := zY (P := l.prog) (w := w) (base := base) F_law_labels (zef F_law_labels) m_law_labels b_law_labels
 have C_claims := zY (P := l.prog) (w := w) (base := base) F_law_claims (zeh B C_cell C_mix C_labels F_law_claims) m_law_claims b_law_claims
 have C_even := zY (P := l.prog) (w := w) (base := base) F_law_even (zhL B F_law_even) m_law_even b_law_even
 have C_fits := zY (P := l.prog) (w := w) (base := base) F_law_fits (zfK B C_even F_law_upto_fit m_law_upto_fit b_law_upto_fit F_law_fits m_law_fits b_law_fits 5) m_law_fits b_law_fits
 have C_right := zY (P := l.prog) (w := w) (base := base) F_law_right (zea B C_frac C_div C_fits F_law_right) m_law_right b_law_right
 have C_rule := zY (P := l.prog) (w := w) (base := base) F_law_rule (zfD m_Shares m_Evenly m_Losses m_Halves m_Other m_Upto F_law_rule m_law_rule b_law_rule 4) m_law_rule b_law_rule
 have C_port := zY (P := l.prog) (w := w) (base := base) F_law_portion (zfG F_law_portion) m_law_portion b_law_portion
 have C_drawn := zY (P := l.prog) (w := w) (base := base) F_law_drawn (zfL F_law_drawn) m_law_drawn b_law_drawn
 have C_purse := zY (P := l.prog) (w := w) (base := base) F_law_purse (zfF C_low F_law_purse) m_law_purse b_law_purse
 exact ok_law (A := A) B okA (fun r => (okP r).2) g_Rule F_parts b_Rule_parts C_cell C_claims C_port C_drawn C_rule C_purse C_right F_law
theorem walk {l : PySem.W.OpenLaw} {q : Program} {loose : List Str} {XP : (Str → Option Value) → Heap → Prop} {YP : World → Heap → Prop} {d : DefRec} {K : Params → PySem.W.Frag} (hn : l.most = some 63) (hdf : d.params.defaults = [])
 (hY : ∀ (w : World) (h : Heap), YP w h → (K w.params).In h)
 (F : ∀ (w : World) (mg : Str → Option Value) (fa : Addr) (h : Heap), (K w.params).In h → h.Ns mainGlobals mg → mg d.name = some (.ref fa) →
  ∃ fd : FuncData, (∀ (s : Shared) (u : Value), BindsTo s fd ⟨[u], []⟩ [("_law_script", u)]) ∧ ∀ base : Heap, (K w.params).In base → base.Ns mainGlobals mg → FnOk l.prog w (K w.params) mg base CX0 14 fa fd ["_law_script"] (zfb (K w.params))) :
 PySem.W.WalkO q loose XP YP l.row.toRowW d [] (fun f vs => PySem.call f vs) :=
 L2.zgJ (n := 63) (k := 14) (x := "_law_script") (CX := fun _ => CX0) (sp := fun w => zfb (K w.params)) hn (by decide) hdf ⟨rfl, by decide, by decide⟩ hY F (fun _ _ a ns hl hO hS => ⟨a, ns, rfl, hS, hl, hO, fun _ => rfl⟩) fun _ _ _ _ _ z => z
end K
namespace PySem.W.Fast
def tw1027150688127192730 : Unit := ()
def tw10383161986197975403 : Unit := ()
def tw1058212558474023710 : Unit := ()
def tw10622992955483633502 : Unit := ()
def tw10645386110424100146 : Unit := ()
def tw10799024683889363593 : Unit := ()
def tw10941589630876083031 : Unit := ()
def tw10943183542935504882 : Unit := ()
def tw10975998168189723220 : Unit := ()
def tw10979083201263490394 : Unit := ()
def tw11193657389823978191 : Unit := ()
def tw11218171340137007381 : Unit := ()
def tw11414765750436515758 : Unit := ()
def tw11783176831076032368 : Unit := ()
def tw12035615386202895486 : Unit := ()
def tw1212954933875586871 : Unit := ()
def tw12200545573122811835 : Unit := ()
def tw12205117955806106943 : Unit := ()
def tw12330969320494328805 : Unit := ()
def tw12339431145202390674 : Unit := ()
def tw12564853336766567444 : Unit := ()
def tw12571949362133964463 : Unit := ()
def tw12631487141178068774 : Unit := ()
def tw12633514098608702365 : Unit := ()
def tw12661383855763763916 : Unit := ()
def tw12684566176634140497 : Unit := ()
def tw12745613142447717624 : Unit := ()
def tw12834514447520253923 : Unit := ()
def tw12890844470334898848 : Unit := ()
def tw1289297322500462818 : Unit := ()
def tw13170860547569740052 : Unit := ()
def tw13204054935294074248 : Unit := ()
def tw13272823923623369787 : Unit := ()
def tw13373718637132778056 : Unit := ()
def tw13471244131637445981 : Unit := ()
def tw1375667899239692336 : Unit := ()
def tw14021360033266638349 : Unit := ()
def tw14032052712368140519 : Unit := ()
def tw140848464367112853 : Unit := ()
def tw14122715110835437562 : Unit := ()
def tw14195250212549561656 : Unit := ()
def tw14455215482350874234 : Unit := ()
def tw14586495295503775311 : Unit := ()
def tw14879053093363067647 : Unit := ()
def tw15006002291339891982 : Unit := ()
def tw15104078736686738917 : Unit := ()
def tw15245218613282658272 : Unit := ()
def tw15258268821074190685 : Unit := ()
def tw15259140317259097183 : Unit := ()
def tw15307772343979175463 : Unit := ()
def tw15434477365677564065 : Unit := ()
def tw15465367025206802828 : Unit := ()
def tw1560749348983340672 : Unit := ()
def tw15753002651865202720 : Unit := ()
def tw15762556533602209781 : Unit := ()
def tw15931601837136170759 : Unit := ()
def tw1612620455676498720 : Unit := ()
def tw16443063191680162348 : Unit := ()
def tw16688558180300038867 : Unit := ()
def tw16828902122602924496 : Unit := ()
def tw16866327308751247867 : Unit := ()
def tw16866952646895034395 : Unit := ()
def tw16891890548821087656 : Unit := ()
def tw16937873832887511096 : Unit := ()
def tw17037152818880423947 : Unit := ()
def tw17092019047608591223 : Unit := ()
def tw17116530167051580689 : Unit := ()
def tw17117272261677186855 : Unit := ()
def tw17163449619275355527 : Unit := ()
def tw17191957281090177770 : Unit := ()
def tw17292985153682849912 : Unit := ()
def tw17370108259814618198 : Unit := ()
def tw17370995265779654658 : Unit := ()
def tw17582793175478320989 : Unit := ()
def tw17598798019099370672 : Unit := ()
def tw17706968110559163894 : Unit := ()
def tw17728706303526366638 : Unit := ()
def tw17930315586858741384 : Unit := ()
def tw17931409793548329578 : Unit := ()
def tw18156872937222713156 : Unit := ()
def tw18160400117119651719 : Unit := ()
def tw1887843725277110616 : Unit := ()
def tw1910040775607647686 : Unit := ()
def tw1921617764912642003 : Unit := ()
def tw2053894002513803249 : Unit := ()
def tw2088658108514987057 : Unit := ()
def tw2138549244867155797 : Unit := ()
def tw21493787398734521 : Unit := ()
def tw2155877088791425409 : Unit := ()
def tw2283699069006362522 : Unit := ()
def tw2331697748801056978 : Unit := ()
def tw2458836445408738875 : Unit := ()
def tw2479529713973199149 : Unit := ()
def tw2623996277559556820 : Unit := ()
def tw2874807882287557698 : Unit := ()
def tw2888876460716679239 : Unit := ()
def tw308470219153005139 : Unit := ()
def tw3092997554427698644 : Unit := ()
def tw3199339253511531796 : Unit := ()
def tw3248908519246060806 : Unit := ()
def tw3255589109942942704 : Unit := ()
def tw3594923050022212108 : Unit := ()
def tw3663810124123988010 : Unit := ()
def tw3981492083099373733 : Unit := ()
def tw4176454114966931525 : Unit := ()
def tw4187495072532216175 : Unit := ()
def tw4280639921479540392 : Unit := ()
def tw4322295094212659386 : Unit := ()
def tw4394746521746942936 : Unit := ()
def tw4447533945265811095 : Unit := ()
def tw4552375121088620004 : Unit := ()
def tw4590348668426200241 : Unit := ()
def tw4608720726608025201 : Unit := ()
def tw4631543231879101728 : Unit := ()
def tw4745564258132948819 : Unit := ()
def tw4837238715133845505 : Unit := ()
def tw4847262916068555103 : Unit := ()
def tw486771839713173421 : Unit := ()
def tw5132774103162870344 : Unit := ()
def tw5237539031659767280 : Unit := ()
def tw5359213406122944347 : Unit := ()
def tw5542696349102845526 : Unit := ()
def tw5589837220444442581 : Unit := ()
def tw5757938393679577746 : Unit := ()
def tw5761714883961051138 : Unit := ()
def tw5886956805110483151 : Unit := ()
def tw5947505094152503672 : Unit := ()
def tw5977496003767116665 : Unit := ()
def tw5980494516289774116 : Unit := ()
def tw6124951177348594967 : Unit := ()
def tw6574091976003483320 : Unit := ()
def tw6660785233228213878 : Unit := ()
def tw6747630974267370345 : Unit := ()
def tw6816893280062340089 : Unit := ()
def tw701278451362111612 : Unit := ()
def tw703898500441378750 : Unit := ()
def tw7198868975269948749 : Unit := ()
def tw7285771906779362906 : Unit := ()
def tw7312020050261899119 : Unit := ()
def tw749349641140143976 : Unit := ()
def tw750632866198978011 : Unit := ()
def tw7518003077663609140 : Unit := ()
def tw7603618699365785355 : Unit := ()
def tw7669653414624583154 : Unit := ()
def tw7680304533907920290 : Unit := ()
def tw7706717157824222516 : Unit := ()
def tw7708179528458960258 : Unit := ()
def tw7742299945111508614 : Unit := ()
def tw7832101084761251785 : Unit := ()
def tw7875541418520871117 : Unit := ()
def tw787988350007861443 : Unit := ()
def tw7935019543947075104 : Unit := ()
def tw8018836461985799452 : Unit := ()
def tw8037351609162048472 : Unit := ()
def tw8301634686876105406 : Unit := ()
def tw8506099402574553629 : Unit := ()
def tw8587455110922361526 : Unit := ()
def tw8905476505261114745 : Unit := ()
def tw9004327697089643780 : Unit := ()
def tw91698943867416472 : Unit := ()
def tw9183464030334289078 : Unit := ()
def tw9265199839259886971 : Unit := ()
def tw9484597257894926185 : Unit := ()
def tw9667509232323563851 : Unit := ()
def tw9795992925534869976 : Unit := ()
def tw9876695520289995933 : Unit := ()
def tw995845029120021207 : Unit := ()
end PySem.W.Fast
open PySem PySem.W PyProof.Rows
set_option maxRecDepth 100000 in
set_option maxHeartbeats 0 in
theorem PySem.Challenge.cw_shortpurse_k25_round_the_other_way_and_u_holds : PySem.Challenge.rw_shortpurse_k25_round_the_other_way_and_u.Holds := by
 w_on; o_law; k_head; (case hw => w_witness2)
 k_fill
 refine K.walk (l := PySem.Challenge.rw_shortpurse_k25_round_the_other_way_and_u) rfl rfl (fun w h Y => PySem.W.kIn_of Y) ?F
 case F =>
  intro w mg fa h KX G hmg
  refine' K.all_mk KX G hmg ?a1 ?l1 ?c1 ?k1 ?a2 ?l2 ?c2 ?k2 ?a3 ?l3 ?c3 ?k3 ?a4 ?l4 ?c4 ?k4 ?a5 ?l5 ?c5 ?k5 ?a6 ?l6 ?c6 ?k6 ?a7 ?l7 ?c7 ?k7 ?a8 ?l8 ?c8 ?k8 ?a9 ?l9 ?c9 ?k9 ?a10 ?l10 ?c10 ?k10 ?a11 ?l11 ?c11 ?k11 ?a12 ?l12 ?c12 ?k12 ?a13 ?l13 ?c13 ?k13 ?a14 ?l14 ?c14 ?k14 ?a15 ?l15 ?c15 ?k15 ?a16 ?l16 ?c16 ?k16 ?a17 ?l17 ?c17 ?k17 ?a18 ?l18 ?c18 ?k18 ?a19 ?l19 ?c19 ?k19 ?a20 ?l20 ?c20 ?k20 ?a21 ?l21 ?c21 ?k21 ?a22 ?l22 ?c22 ?k22 ?a23 ?l23 ?c23 ?k23 ?a24 ?l24 ?c24 ?k24 ?a25 ?l25 ?c25 ?k25 ?a26 ?l26 ?c26 ?k26 ?a27 ?l27 ?c27 ?k27 ?a28 ?l28 ?c28 ?k28 ?a29 ?l29 ?c29 ?k29 ?a30 ?l30 ?c30 ?k30 ?a31 ?l31 ?c31 ?k31 ?a32 ?l32 ?c32 ?k32 ?a33 ?l33 ?c33 ?k33 ?a34 ?l34 ?c34 ?k34 ?a35 ?l35 ?c35 ?k35 ?a36 ?l36 ?c36 ?k36 ?a37 ?l37 ?c37 ?k37 ?a38 ?l38 ?c38 ?k38 ?a39 ?l39 ?c39 ?k39 ?a40 ?l40 ?c40 ?k40 ?a41 ?l41 ?c41 ?k41 ?a42 ?l42 ?c42 ?k42 ?a43 ?l43 ?c43 ?k43 ?a44 ?l44 ?c44 ?k44 ?a45 ?l45 ?c45 ?k45 ?x_Rule ?x_Shares ?x_Evenly ?x_Losses ?x_Halves ?x_Other ?x_Ranks ?x_Groups ?x_Upto ?e_Rule___init__ ?e_Shares___init__ ?e_Evenly___init__ ?e_Losses___init__ ?e_Halves___init__ ?e_Other___init__ ?e_Ranks___init__ ?e_Groups___init__ ?e_Upto___init__ ?es_Shares ?et_Shares ?es_Evenly ?et_Evenly ?es_Losses ?et_Losses ?es_Halves ?et_Halves ?es_Other ?et_Other ?es_Ranks ?et_Ranks ?es_Groups ?et_Groups ?es_Upto ?et_Upto ?ep_Shares ?eq_Shares ?ep_Evenly ?eq_Evenly ?ep_Losses ?eq_Losses ?ep_Halves ?eq_Halves ?ep_Other ?eq_Other ?ep_Ranks ?eq_Ranks ?ep_Groups ?eq_Groups ?ep_Upto ?eq_Upto ?l_Rule___init__ ?c2_Rule___init__ ?k_Rule___init__ ?l_Rule_shape ?c2_Rule_shape ?k_Rule_shape ?l_Rule_text ?c2_Rule_text ?k_Rule_text ?l_Rule_path ?c2_Rule_path ?k_Rule_path ?l_Rule_parts ?c2_Rule_parts ?k_Rule_parts ?l_Shares___init__ ?c2_Shares___init__ ?k_Shares___init__ ?l_Evenly___init__ ?c2_Evenly___init__ ?k_Evenly___init__ ?l_Losses___init__ ?c2_Losses___init__ ?k_Losses___init__ ?l_Halves___init__ ?c2_Halves___init__ ?k_Halves___init__ ?l_Other___init__ ?c2_Other___init__ ?k_Other___init__ ?l_Ranks___init__ ?c2_Ranks___init__ ?k_Ranks___init__ ?l_Groups___init__ ?c2_Groups___init__ ?k_Groups___init__ ?l_Upto___init__ ?c2_Upto___init__ ?k_Upto___init__ ?n_Rule_shape ?n_Rule_text ?n_Rule_path ?n_Rule_parts ?x_MOST ?sp_Rule ?rd_Rule ?hn0 ?ht0 ?pg_Shares ?hd_Shares ?po_Shares ?sa_Shares ?na_Shares ?ha_Shares ?mo_Shares ?kt_Shares ?mk_Shares ?nf_Shares ?kc_Shares ?pg_Evenly ?hd_Evenly ?po_Evenly ?sa_Evenly ?na_Evenly ?ha_Evenly ?mo_Evenly ?kt_Evenly ?mk_Evenly ?nf_Evenly ?kc_Evenly ?pg_Losses ?hd_Losses ?po_Losses ?sa_Losses ?na_Losses ?ha_Losses ?mo_Losses ?kt_Losses ?mk_Losses ?nf_Losses ?kc_Losses ?pg_Halves ?hd_Halves ?po_Halves ?sa_Halves ?na_Halves ?ha_Halves ?mo_Halves ?kt_Halves ?mk_Halves ?nf_Halves ?kc_Halves ?pg_Other ?hd_Other ?po_Other ?sa_Other ?na_Other ?ha_Other ?mo_Other ?kt_Other ?mk_Other ?nf_Other ?kc_Other ?pg_Ranks ?hd_Ranks ?po_Ranks ?sa_Ranks ?na_Ranks ?ha_Ranks ?mo_Ranks ?kt_Ranks ?mk_Ranks ?nf_Ranks ?kc_Ranks ?pg_Groups ?hd_Groups ?po_Groups ?sa_Groups ?na_Groups ?ha_Groups ?mo_Groups ?kt_Groups ?mk_Groups ?nf_Groups ?kc_Groups ?pg_Upto ?hd_Upto ?po_Upto ?sa_Upto ?na_Upto ?ha_Upto ?mo_Upto ?kt_Upto ?mk_Upto ?nf_Upto ?kc_Upto ?z_len ?z_abs ?z_min ?z_max ?z_isinstance ?z_range ?z_int ?z_bool ?z_tuple ?z_list ?z_enumerate ?z_zip ?z_reversed ?z_ValueError ?z_sum ?z_str ?z_sorted ?z_set
  (case a1 => k_is)
  (case l1 => k_is)
  (case c1 => k_is)
  (case k1 => k_is)
  (case a2 => k_is)
  (case l2 => k_is)
  (case c2 => k_is)
  (case k2 => k_is)
  (case a3 => k_is)
  (case l3 => k_is)
  (case c3 => k_is)
  (case k3 => k_is)
  (case a4 => k_is)
  (case l4 => k_is)
  (case c4 => k_is)
  (case k4 => k_is)
  (case a5 => k_is)
  (case l5 => k_is)
  (case c5 => k_is)
  (case k5 => k_is)
  (case a6 => k_is)
  (case l6 => k_is)
  (case c6 => k_is)
  (case k6 => k_is)
  (case a7 => k_is)
  (case l7 => k_is)
  (case c7 => k_is)
  (case k7 => k_is)
  (case a8 => k_is)
  (case l8 => k_is)
  (case c8 => k_is)
  (case k8 => k_is)
  (case a9 => k_is)
  (case l9 => k_is)
  (case c9 => k_is)
  (case k9 => k_is)
  (case a10 => k_is)
  (case l10 => k_is)
  (case c10 => k_is)
  (case k10 => k_is)
  (case a11 => k_is)
  (case l11 => k_is)
  (case c11 => k_is)
  (case k11 => k_is)
  (case a12 => k_is)
  (case l12 => k_is)
  (case c12 => k_is)
  (case k12 => k_is)
  (case a13 => k_is)
  (case l13 => k_is)
  (case c13 => k_is)
  (case k13 => k_is)
  (case a14 => k_is)
  (case l14 => k_is)
  (case c14 => k_is)
  (case k14 => k_is)
  (case a15 => k_is)
  (case l15 => k_is)
  (case c15 => k_is)
  (case k15 => k_is)
  (case a16 => k_is)
  (case l16 => k_is)
  (case c16 => k_is)
  (case k16 => k_is)
  (case a17 => k_is)
  (case l17 => k_is)
  (case c17 => k_is)
  (case k17 => k_is)
  (case a18 => k_is)
  (case l18 => k_is)
  (case c18 => k_is)
  (case k18 => k_is)
  (case a19 => k_is)
  (case l19 => k_is)
  (case c19 => k_is)
  (case k19 => k_is)
  (case a20 => k_is)
  (case l20 => k_is)
  (case c20 => k_is)
  (case k20 => k_is)
  (case a21 => k_is)
  (case l21 => k_is)
  (case c21 => k_is)
  (case k21 => k_is)
  (case a22 => k_is)
  (case l22 => k_is)
  (case c22 => k_is)
  (case k22 => k_is)
  (case a23 => k_is)
  (case l23 => k_is)
  (case c23 => k_is)
  (case k23 => k_is)
  (case a24 => k_is)
  (case l24 => k_is)
  (case c24 => k_is)
  (case k24 => k_is)
  (case a25 => k_is)
  (case l25 => k_is)
  (case c25 => k_is)
  (case k25 => k_is)
  (case a26 => k_is)
  (case l26 => k_is)
  (case c26 => k_is)
  (case k26 => k_is)
  (case a27 => k_is)
  (case l27 => k_is)
  (case c27 => k_is)
  (case k27 => k_is)
  (case a28 => k_is)
  (case l28 => k_is)
  (case c28 => k_is)
  (case k28 => k_is)
  (case a29 => k_is)
  (case l29 => k_is)
  (case c29 => k_is)
  (case k29 => k_is)
  (case a30 => k_is)
  (case l30 => k_is)
  (case c30 => k_is)
  (case k30 => k_is)
  (case a31 => k_is)
  (case l31 => k_is)
  (case c31 => k_is)
  (case k31 => k_is)
  (case a32 => k_is)
  (case l32 => k_is)
  (case c32 => k_is)
  (case k32 => k_is)
  (case a33 => k_is)
  (case l33 => k_is)
  (case c33 => k_is)
  (case k33 => k_is)
  (case a34 => k_is)
  (case l34 => k_is)
  (case c34 => k_is)
  (case k34 => k_is)
  (case a35 => k_is)
  (case l35 => k_is)
  (case c35 => k_is)
  (case k35 => k_is)
  (case a36 => k_is)
  (case l36 => k_is)
  (case c36 => k_is)
  (case k36 => k_is)
  (case a37 => k_is)
  (case l37 => k_is)
  (case c37 => k_is)
  (case k37 => k_is)
  (case a38 => k_is)
  (case l38 => k_is)
  (case c38 => k_is)
  (case k38 => k_is)
  (case a39 => k_is)
  (case l39 => k_is)
  (case c39 => k_is)
  (case k39 => k_is)
  (case a40 => k_is)
  (case l40 => k_is)
  (case c40 => k_is)
  (case k40 => k_is)
  (case a41 => k_is)
  (case l41 => k_is)
  (case c41 => k_is)
  (case k41 => k_is)
  (case a42 => k_is)
  (case l42 => k_is)
  (case c42 => k_is)
  (case k42 => k_is)
  (case a43 => k_is)
  (case l43 => k_is)
  (case c43 => k_is)
  (case k43 => k_is)
  (case a44 => k_is)
  (case l44 => k_is)
  (case c44 => k_is)
  (case k44 => k_is)
  (case a45 => k_is)
  (case l45 => k_is)
  (case c45 => k_is)
  (case k45 => k_is)
  (case x_Rule => k_is)
  (case x_Shares => k_is)
  (case x_Evenly => k_is)
  (case x_Losses => k_is)
  (case x_Halves => k_is)
  (case x_Other => k_is)
  (case x_Ranks => k_is)
  (case x_Groups => k_is)
  (case x_Upto => k_is)
  (case e_Rule___init__ => k_is)
  (case e_Shares___init__ => k_is)
  (case e_Evenly___init__ => k_is)
  (case e_Losses___init__ => k_is)
  (case e_Halves___init__ => k_is)
  (case e_Other___init__ => k_is)
  (case e_Ranks___init__ => k_is)
  (case e_Groups___init__ => k_is)
  (case e_Upto___init__ => k_is)
  (case es_Shares => k_is)
  (case et_Shares => k_is)
  (case es_Evenly => k_is)
  (case et_Evenly => k_is)
  (case es_Losses => k_is)
  (case et_Losses => k_is)
  (case es_Halves => k_is)
  (case et_Halves => k_is)
  (case es_Other => k_is)
  (case et_Other => k_is)
  (case es_Ranks => k_is)
  (case et_Ranks => k_is)
  (case es_Groups => k_is)
  (case et_Groups => k_is)
  (case es_Upto => k_is)
  (case et_Upto => k_is)
  (case ep_Shares => k_is)
  (case eq_Shares => k_is)
  (case ep_Evenly => k_is)
  (case eq_Evenly => k_is)
  (case ep_Losses => k_is)
  (case eq_Losses => k_is)
  (case ep_Halves => k_is)
  (case eq_Halves => k_is)
  (case ep_Other => k_is)
  (case eq_Other => k_is)
  (case ep_Ranks => k_is)
  (case eq_Ranks => k_is)
  (case ep_Groups => k_is)
  (case eq_Groups => k_is)
  (case ep_Upto => k_is)
  (case eq_Upto => k_is)
  (case l_Rule___init__ => k_is)
  (case c2_Rule___init__ => k_is)
  (case k_Rule___init__ => k_is)
  (case l_Rule_shape => k_is)
  (case c2_Rule_shape => k_is)
  (case k_Rule_shape => k_is)
  (case l_Rule_text => k_is)
  (case c2_Rule_text => k_is)
  (case k_Rule_text => k_is)
  (case l_Rule_path => k_is)
  (case c2_Rule_path => k_is)
  (case k_Rule_path => k_is)
  (case l_Rule_parts => k_is)
  (case c2_Rule_parts => k_is)
  (case k_Rule_parts => k_is)
  (case l_Shares___init__ => k_is)
  (case c2_Shares___init__ => k_is)
  (case k_Shares___init__ => k_is)
  (case l_Evenly___init__ => k_is)
  (case c2_Evenly___init__ => k_is)
  (case k_Evenly___init__ => k_is)
  (case l_Losses___init__ => k_is)
  (case c2_Losses___init__ => k_is)
  (case k_Losses___init__ => k_is)
  (case l_Halves___init__ => k_is)
  (case c2_Halves___init__ => k_is)
  (case k_Halves___init__ => k_is)
  (case l_Other___init__ => k_is)
  (case c2_Other___init__ => k_is)
  (case k_Other___init__ => k_is)
  (case l_Ranks___init__ => k_is)
  (case c2_Ranks___init__ => k_is)
  (case k_Ranks___init__ => k_is)
  (case l_Groups___init__ => k_is)
  (case c2_Groups___init__ => k_is)
  (case k_Groups___init__ => k_is)
  (case l_Upto___init__ => k_is)
  (case c2_Upto___init__ => k_is)
  (case k_Upto___init__ => k_is)
  (case n_Rule_shape => k_is)
  (case n_Rule_text => k_is)
  (case n_Rule_path => k_is)
  (case n_Rule_parts => k_is)
  (case x_MOST => k_is)
  (case sp_Rule => k_is)
  (case rd_Rule => k_is)
  (case hn0 => k_is)
  (case ht0 => k_is)
  (case pg_Shares => k_is)
  (case hd_Shares => k_is)
  (case po_Shares => k_is)
  (case sa_Shares => k_is)
  (case na_Shares => k_is)
  (case ha_Shares => k_is)
  (case mo_Shares => k_is)
  (case kt_Shares => kit_is)
  (case mk_Shares => k_is)
  (case nf_Shares => k_is)
  (case kc_Shares => k_is)
  (case pg_Evenly => k_is)
  (case hd_Evenly => k_is)
  (case po_Evenly => k_is)
  (case sa_Evenly => k_is)
  (case na_Evenly => k_is)
  (case ha_Evenly => k_is)
  (case mo_Evenly => k_is)
  (case kt_Evenly => kit_is)
  (case mk_Evenly => k_is)
  (case nf_Evenly => k_is)
  (case kc_Evenly => k_is)
  (case pg_Losses => k_is)
  (case hd_Losses => k_is)
  (case po_Losses => k_is)
  (case sa_Losses => k_is)
  (case na_Losses => k_is)
  (case ha_Losses => k_is)
  (case mo_Losses => k_is)
  (case kt_Losses => kit_is)
  (case mk_Losses => k_is)
  (case nf_Losses => k_is)
  (case kc_Losses => k_is)
  (case pg_Halves => k_is)
  (case hd_Halves => k_is)
  (case po_Halves => k_is)
  (case sa_Halves => k_is)
  (case na_Halves => k_is)
  (case ha_Halves => k_is)
  (case mo_Halves => k_is)
  (case kt_Halves => kit_is)
  (case mk_Halves => k_is)
  (case nf_Halves => k_is)
  (case kc_Halves => k_is)
  (case pg_Other => k_is)
  (case hd_Other => k_is)
  (case po_Other => k_is)
  (case sa_Other => k_is)
  (case na_Other => k_is)
  (case ha_Other => k_is)
  (case mo_Other => k_is)
  (case kt_Other => kit_is)
  (case mk_Other => k_is)
  (case nf_Other => k_is)
  (case kc_Other => k_is)
  (case pg_Ranks => k_is)
  (case hd_Ranks => k_is)
  (case po_Ranks => k_is)
  (case sa_Ranks => k_is)
  (case na_Ranks => k_is)
  (case ha_Ranks => k_is)
  (case mo_Ranks => k_is)
  (case kt_Ranks => kit_is)
  (case mk_Ranks => k_is)
  (case nf_Ranks => k_is)
  (case kc_Ranks => k_is)
  (case pg_Groups => k_is)
  (case hd_Groups => k_is)
  (case po_Groups => k_is)
  (case sa_Groups => k_is)
  (case na_Groups => k_is)
  (case ha_Groups => k_is)
  (case mo_Groups => k_is)
  (case kt_Groups => kit_is)
  (case mk_Groups => k_is)
  (case nf_Groups => k_is)
  (case kc_Groups => k_is)
  (case pg_Upto => k_is)
  (case hd_Upto => k_is)
  (case po_Upto => k_is)
  (case sa_Upto => k_is)
  (case na_Upto => k_is)
  (case ha_Upto => k_is)
  (case mo_Upto => k_is)
  (case kt_Upto => kit_is)
  (case mk_Upto => k_is)
  (case nf_Upto => k_is)
  (case kc_Upto => k_is)
  (case z_len => k_is)
  (case z_abs => k_is)
  (case z_min => k_is)
  (case z_max => k_is)
  (case z_isinstance => k_is)
  (case z_range => k_is)
  (case z_int => k_is)
  (case z_bool => k_is)
  (case z_tuple => k_is)
  (case z_list => k_is)
  (case z_enumerate => k_is)
  (case z_zip => k_is)
  (case z_reversed => k_is)
  (case z_ValueError => k_is)
  (case z_sum => k_is)
  (case z_str => k_is)
  (case z_sorted => k_is)
  (case z_set => k_is)
