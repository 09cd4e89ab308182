import PyProof.Rows.All
import Wide.All
import OpenK.AllK
import Wide.FinOn
import Lean
import PyProof.EqAt
import PyProof.EqKinds
import PyProof.TupleCall
import PySem.Challenge.RW_askviews_k04_texts_refused
set_option Elab.async false
set_option linter.all false
set_option bootstrap.genMatcherCode false
set_option maxRecDepth 100000
namespace L2
open PySem PySem.Spec PyProof.Rows

noncomputable abbrev Key := Sum Int Str
noncomputable def keyIs : Key → Value → Bool
  | .inl k, v => Value.isInt k v
  | .inr x, v => Value.isStrOf x v
noncomputable def keyH (w : World) : Key → Int
  | .inl k => hashInt k
  | .inr x => hashStr w x
theorem keyIs_shape : ∀ {k : Key} {v : Value}, keyIs k v = true → (∃ i t, k = Sum.inl i ∧ v = Value.int i t) ∨ (∃ x t, k = Sum.inr x ∧ v = Value.str x t)
  | .inl i, v, h => by
    obtain ⟨t, e⟩ := Value.isInt_shape (k := i) (v := v) h
    exact .inl ⟨i, t, rfl, e⟩
  | .inr x, v, h => by
    obtain ⟨t, e⟩ := Value.isStrOf_shape (x := x) (v := v) h
    exact .inr ⟨x, t, rfl, e⟩
theorem keyIs_int (i : Int) (t : Tok) : keyIs (.inl i) (.int i t) = true := by simp [keyIs, Value.isInt]
theorem keyIs_str (x : Str) (t : Tok) : keyIs (.inr x) (.str x t) = true := by simp [keyIs, Value.isStrOf]
theorem key_ll (a b : Int) : decide ((Sum.inl a : Key) = Sum.inl b) = (a == b) := by
  by_cases e : a = b
  · subst e; simp
  · have h : ¬ (Sum.inl a : Key) = Sum.inl b := fun q => e (Sum.inl.inj q)
    rw [decide_eq_false h]
    exact (beq_eq_false_iff_ne.mpr e).symm
theorem key_rr (a b : Str) : decide ((Sum.inr a : Key) = Sum.inr b) = decide (a = b) := by
  by_cases e : a = b
  · subst e; simp
  · have h : ¬ (Sum.inr a : Key) = Sum.inr b := fun q => e (Sum.inr.inj q)
    rw [decide_eq_false h, decide_eq_false e]
theorem key_lr (a : Int) (b : Str) : decide ((Sum.inl a : Key) = Sum.inr b) = false := decide_eq_false (fun q => nomatch q)
theorem key_rl (a : Str) (b : Int) : decide ((Sum.inr a : Key) = Sum.inl b) = false := decide_eq_false (fun q => nomatch q)

noncomputable def mixKind (prog : Program) (w : World) : PySem.KeyKind prog w Key where
  is := keyIs
  hash := keyH w
  inj := fun v a b ha hb => by
    rcases keyIs_shape ha with ⟨i, t, rfl, rfl⟩ | ⟨x, t, rfl, rfl⟩
    · rcases keyIs_shape hb with ⟨j, u, rfl, e⟩ | ⟨y, u, rfl, e⟩
      · injection e with e1 _; rw [e1]
      · exact nomatch e
    · rcases keyIs_shape hb with ⟨j, u, rfl, e⟩ | ⟨y, u, rfl, e⟩
      · exact nomatch e
      · injection e with e1 _; rw [e1]
  byValue := fun k v h => by
    rcases keyIs_shape h with ⟨i, t, rfl, rfl⟩ | ⟨x, t, rfl, rfl⟩ <;> rfl
  pyHash := fun hv h => by
    rcases keyIs_shape hv with ⟨i, t, rfl, rfl⟩ | ⟨x, t, rfl, rfl⟩
    · exact wpAny_pyHash_int h
    · exact wpAny_pyHash_str h
  eqBool := fun hu hv h => by
    rcases keyIs_shape hu with ⟨i, t, rfl, rfl⟩ | ⟨x, t, rfl, rfl⟩
    · rcases keyIs_shape hv with ⟨j, u, rfl, rfl⟩ | ⟨y, u, rfl, rfl⟩
      · rw [key_ll] at h; exact wpAny_eqBool_int h
      · rw [key_lr] at h; exact SeqAt.EqAt.int_str i t y u _ _ _ _ h
    · rcases keyIs_shape hv with ⟨j, u, rfl, rfl⟩ | ⟨y, u, rfl, rfl⟩
      · rw [key_rl] at h; exact SeqAt.EqAt.str_int x t j u _ _ _ _ h
      · rw [key_rr] at h; exact wpAny_eqBool_str h
  «strs» := fun k x t v h => by
    rcases keyIs_shape h with ⟨i, u, rfl, e⟩ | ⟨y, u, rfl, e⟩
    · exact nomatch e
    · injection e with e1 _
      subst e1
      cases v <;> rfl

theorem mixKind_int (prog : Program) (w : World) (i : Int) (t : Tok) : (mixKind prog w).is (.inl i) (.int i t) = true := keyIs_int i t
theorem mixKind_str (prog : Program) (w : World) (x : Str) (t : Tok) : (mixKind prog w).is (.inr x) (.str x t) = true := keyIs_str x t
end L2

namespace L2
open PySem PySem.Spec PyProof.Rows

inductive V where
  | non | bl (b : Bool) | int (i : Int) | str (x : Str) | byt (b : Array UInt8) | flt (b : UInt64) | ref (a : Addr) | ty (n : String)
  deriving DecidableEq

noncomputable def RelV : V → Value → Prop
  | .non, u => u = Value.none
  | .bl b, u => u = Value.bool b
  | .int i, u => ∃ t, u = Value.int i t
  | .str x, u => ∃ t, u = Value.str x t
  | .byt b, u => ∃ t, u = Value.bytes b t
  | .flt b, u => ∃ t, u = Value.float b t
  | .ref a, u => u = Value.ref a
  | .ty n, u => u = Value.type n

noncomputable abbrev Vals : List V → List Value → Prop := Paired RelV
theorem Vals.length {xs : List V} {us : List Value} (r : Vals xs us) : xs.length = us.length := Paired.length r
theorem Vals.get : ∀ {xs : List V} {us : List Value} {i : Nat} {x : V}, Vals xs us → xs[i]? = some x → ∃ u, us[i]? = some u ∧ RelV x u
  | _, _, _, _, .nil, e => by simp at e
  | _, _, 0, _, .cons r _, e => by simp at e; subst e; exact ⟨_, rfl, r⟩
  | _, _, i + 1, x, .cons _ t, e => by
    obtain ⟨u, h1, h2⟩ := Vals.get (i := i) (x := x) t (by simpa using e)
    exact ⟨u, by simpa using h1, h2⟩
theorem Vals.set {x : V} {u : Value} (r : RelV x u) : ∀ {xs : List V} {us : List Value} (i : Nat), Vals xs us → Vals (xs.set i x) (us.set i u)
  | _, _, _, .nil => .nil
  | _, _, 0, .cons _ t => .cons r t
  | _, _, i + 1, .cons q t => .cons q (Vals.set r i t)
theorem Vals.append : ∀ {xs ys : List V} {us ws : List Value}, Vals xs us → Vals ys ws → Vals (xs ++ ys) (us ++ ws) := by
  intro xs ys us ws h s
  induction h with
  | nil => exact s
  | cons r t ih => exact .cons r ih
theorem Vals.take : ∀ {xs : List V} {us : List Value} (n : Nat), Vals xs us → Vals (xs.take n) (us.take n)
  | _, _, 0, _ => .nil
  | _, _, _ + 1, .nil => .nil
  | _, _, n + 1, .cons r t => .cons r (Vals.take n t)
theorem Vals.drop : ∀ {xs : List V} {us : List Value} (n : Nat), Vals xs us → Vals (xs.drop n) (us.drop n)
  | _, _, 0, r => r
  | _, _, _ + 1, .nil => .nil
  | _, _, n + 1, .cons _ t => Vals.drop n t
noncomputable def RelO : Option V → Option Value → Prop
  | some v, some u => RelV v u
  | none, none => True
  | _, _ => False
noncomputable def KV {κ : Type} : List (κ × V) → List (κ × Value) → Prop := Paired fun (p : κ × V) (q : κ × Value) => p.1 = q.1 ∧ RelV p.2 q.2

noncomputable def kV : Key → V
  | .inl i => .int i
  | .inr x => .str x

inductive HO where
  /-- a list -/
  | lst (xs : List V)
  /-- a tuple (never changes) -/
  | tup (xs : List V)
  /-- a dict whose keys are ints and texts; one whose keys are tuples of ints and texts (the empty one is both) -/
  | dK (kvs : List (Key × V)) | dT (kvs : List (List Key × V))
  /-- a set of ints: its members, its size -/
  | set (S : Int → Bool) (n : Nat)
  /-- an instance of the class at C, its dict at dx, its attributes -/
  | ins (C dx : Addr) (fs : List (Str × V))
  /-- the dict of the instance at x -/
  | own (x : Addr)
  /-- the dict of an exception -/
  | xd (fs : List (Str × V))
  /-- a bound method, f of x -/
  | met (f x : Addr)
  /-- a range object lo, lo + 1, .. below hi -/
  | rng (lo hi : Int)
  /-- a thing that is known to the object (the script; a dict while a loop walks it): read, never written while it is so -/
  | frz (o : Obj) (u : HO)
  /-- a code object's table -/
  | tbl (ps : Array Value)
  /-- any other thing, by what is true of its one object (a def of one's own: SetO a S n := HO.ext fun h => ..) -/
  | ext (φ : Heap → Prop)

noncomputable abbrev Hp := Addr → Option HO
noncomputable def upd (H : Hp) (a : Addr) (o : HO) : Hp := fun b => if b = a then some o else H b
theorem upd_same {H : Hp} {a : Addr} {o : HO} : upd H a o a = some o := by unfold upd; rw [if_pos rfl]
theorem upd_ne {H : Hp} {a b : Addr} {o : HO} (h : b ≠ a) : upd H a o b = H b := by unfold upd; rw [if_neg h]
theorem upd_upd {H : Hp} {a : Addr} {o u : HO} : upd (upd H a o) a u = upd H a u := by
  funext b; unfold upd; split <;> rfl
theorem ne_of {H : Hp} {a b : Addr} {o u : HO} (h : H a = some o) (h' : H b = some u) (d : o ≠ u) : a ≠ b := by
  intro e; subst e; rw [h] at h'; exact d (Option.some.inj h')
theorem ne_of_none {H : Hp} {a b : Addr} {o : HO} (h : H a = some o) (h' : H b = none) : a ≠ b := by
  intro e; subst e; rw [h] at h'; cases h'

section
variable (P : Program) (w : World)
noncomputable def ObjOk (H : Hp) (h : Heap) (a : Addr) : HO → Prop
  | .lst xs => xs.length ≤ sizeLine ∧ ∃ (its : List Value) (n : Nat), Vals xs its ∧ h.get? a = some { cls := .type "list", data := .seq its.toArray n }
  | .tup xs => xs.length ≤ sizeLine ∧ ∃ its : List Value, Vals xs its ∧ IsTup h a its.toArray
  | .dK kvs => kvs.length ≤ sizeLine ∧ (a == sysModules) = false ∧ ∃ vs, KV kvs vs ∧ h.DictOf (mixKind P w) a vs
  | .dT kvs => kvs.length ≤ sizeLine ∧ (a == sysModules) = false ∧ ∃ xs : List (List Key × Addr × Value),
      Paired (fun (p : List Key × V) (q : List Key × Addr × Value) => p.1 = q.1 ∧ H q.2.1 = some (.tup (p.1.map kV)) ∧ RelV p.2 q.2.2) kvs xs ∧
      ∃ o es ep, h.get? a = some o ∧ o.ExactDict ∧ o.data = .dict es ep ∧ es.toList = xs.map (entryOfKey (tupleKind (mixKind P w))) ∧ (xs.map (·.1)).Nodup
  | .set S n => h.SetOf (intKind P w) a S n
  | .ins C dx fs => H dx = some (.own a) ∧ fs.length ≤ 1000 ∧ dx ≠ a ∧ h.get? a = some (PySem.W.instObj C dx) ∧
      ∃ mA, h.Ns1 dx mA ∧ (∀ f, RelO (fs.lookup f) (mA f)) ∧ PySem.Within mA (fs.map (·.1))
  | .own _ => ∃ o, h.get? a = some o
  | .xd fs => ∃ mA, h.Ns1 a mA ∧ ∀ f, RelO (fs.lookup f) (mA f)
  | .rng lo hi => ∃ t u v, h.get? a = some { cls := .type "range", data := .fields #[.int lo t, .int hi u, .int 1 v] }
  | .frz o u => h.get? a = some o ∧ ObjOk H h a u
  | .tbl ps => h.get? a = some { cls := .none, data := .fields ps }
  | .met f x => h.get? a = some (PySem.W.methodObj (.ref f) (.ref x))
  | .ext φ => φ h ∧ (∃ o, h.get? a = some o) ∧ ∀ h1 h2 : Heap, φ h1 → (∀ o, h1.get? a = some o → h2.get? a = some o) → φ h2
noncomputable def HOk (H : Hp) (h : Heap) : Prop := ∀ a o, H a = some o → ObjOk P w H h a o
end

section
variable {P : Program} {w : World} {H H' : Hp} {h h' : Heap} {a : Addr} {o : HO}
theorem ObjOk.lt (x : ObjOk P w H h a o) : a < h.objs.size := by
  cases o with
  | lst xs => obtain ⟨_, _, _, _, e⟩ := x; exact Heap.lt_size e
  | tup xs => obtain ⟨_, _, _, p⟩ := x; exact p.lt
  | dK kvs => obtain ⟨_, _, _, _, o, _, _, e, _⟩ := x; exact Heap.lt_size e
  | dT kvs => obtain ⟨_, _, _, _, o, _, _, e, _⟩ := x; exact Heap.lt_size e
  | set S n => obtain ⟨o, _, _, _, e, _⟩ := x; exact Heap.lt_size e
  | ins C dx fs => obtain ⟨_, _, _, e, _⟩ := x; exact Heap.lt_size e
  | own y => obtain ⟨_, e⟩ := x; exact Heap.lt_size e
  | xd fs => obtain ⟨_, ⟨_, _, _, e, _⟩, _⟩ := x; exact Heap.lt_size e
  | rng lo hi => obtain ⟨_, _, _, e⟩ := x; exact Heap.lt_size e
  | frz ob u => obtain ⟨e, _⟩ := x; exact Heap.lt_size e
  | tbl ps => exact Heap.lt_size (show h.get? a = some _ from x)
  | met f y => exact Heap.lt_size (show h.get? a = some _ from x)
  | ext φ => obtain ⟨_, ⟨_, e⟩, _⟩ := x; exact Heap.lt_size e
theorem Paired.mapP {α β : Type} {F G : α → β → Prop} : ∀ {l₁ : List α} {l₂ : List β}, Paired F l₁ l₂ → (∀ a b, F a b → G a b) → Paired G l₁ l₂ := by
  intro l₁ l₂ h f
  induction h with
  | nil => exact .nil
  | cons r t ih => exact .cons (f _ _ r) ih
theorem Paired.imp' {α β : Type} {F G : α → β → Prop} (f : ∀ a b, F a b → G a b) {l₁ : List α} {l₂ : List β} (r : Paired F l₁ l₂) : Paired G l₁ l₂ := Paired.mapP r f
theorem ObjOk.stay (x : ObjOk P w H h a o) (k : ∀ b u, (b = a ∨ H b = some (.own a)) → h.get? b = some u → h'.get? b = some u)
    (ho : ∀ b, H b = some (.own a) → H' b = some (.own a)) (ht : ∀ b xs, H b = some (.tup xs) → H' b = some (.tup xs)) : ObjOk P w H' h' a o := by
  induction o with
  | lst xs => obtain ⟨z, its, n, r, e⟩ := x; exact ⟨z, its, n, r, k _ _ (.inl rfl) e⟩
  | tup xs => obtain ⟨z, its, r, ob, e, c⟩ := x; exact ⟨z, its, r, ob, k _ _ (.inl rfl) e, c⟩
  | dK kvs => obtain ⟨z, y, vs, r, ob, es, ep, e, c⟩ := x; exact ⟨z, y, vs, r, ob, es, ep, k _ _ (.inl rfl) e, c⟩
  | dT kvs =>
    obtain ⟨z, y, xs, r, ob, es, ep, e, c⟩ := x
    exact ⟨z, y, xs, Paired.mapP r fun p q z => ⟨z.1, ht _ _ z.2.1, z.2.2⟩, ob, es, ep, k _ _ (.inl rfl) e, c⟩
  | set S n => obtain ⟨ob, es, ep, t, e, c⟩ := x; exact ⟨ob, es, ep, t, k _ _ (.inl rfl) e, c⟩
  | ins C dx fs =>
    obtain ⟨d, z, ne, e, mA, ⟨od, es, ep, e2, c⟩, r⟩ := x
    exact ⟨ho _ d, z, ne, k _ _ (.inl rfl) e, mA, ⟨od, es, ep, k _ _ (.inr d) e2, c⟩, r⟩
  | own y => obtain ⟨ob, e⟩ := x; exact ⟨ob, k _ _ (.inl rfl) e⟩
  | xd fs => obtain ⟨mA, ⟨od, es, ep, e, c⟩, r⟩ := x; exact ⟨mA, ⟨od, es, ep, k _ _ (.inl rfl) e, c⟩, r⟩
  | rng lo hi => obtain ⟨t, u, v, e⟩ := x; exact ⟨t, u, v, k _ _ (.inl rfl) e⟩
  | frz ob u ih => obtain ⟨e, q⟩ := x; exact ⟨k _ _ (.inl rfl) e, ih q⟩
  | tbl ps =>
    have e : h.get? a = some { cls := .none, data := .fields ps } := x
    show h'.get? a = some { cls := .none, data := .fields ps }
    exact k a _ (.inl rfl) e
  | met f y =>
    have e : h.get? a = some (PySem.W.methodObj (.ref f) (.ref y)) := x
    show h'.get? a = some (PySem.W.methodObj (.ref f) (.ref y))
    exact k a _ (.inl rfl) e
  | ext φ => obtain ⟨p, ⟨o, e⟩, st⟩ := x; exact ⟨st _ _ p fun o q => k _ _ (.inl rfl) q, ⟨o, k _ _ (.inl rfl) e⟩, st⟩
theorem HOk.lt (x : HOk P w H h) (e : H a = some o) : a < h.objs.size := (x a o e).lt
theorem HOk.fresh (x : HOk P w H h) (e : h.objs.size ≤ a) : H a = none := by
  cases q : H a with
  | none => rfl
  | some u => exact absurd (Nat.lt_of_lt_of_le (x.lt q) e) (Nat.lt_irrefl _)
theorem HOk.kept (x : HOk P w H h) (k : ∀ b u, h.get? b = some u → h'.get? b = some u) : HOk P w H h' := fun a o e =>
  (x a o e).stay (fun b u _ q => k b u q) (fun _ q => q) fun _ _ q => q
theorem HOk.laid (x : HOk P w H h) (k : ∀ b u, h.get? b = some u → h'.get? b = some u) (hp : h.objs.size ≤ a) (new : ObjOk P w (upd H a o) h' a o) : HOk P w (upd H a o) h' := fun b u e => by
  have hn := x.fresh hp
  by_cases hb : b = a
  · subst hb; rw [upd_same] at e; cases e; exact new
  · rw [upd_ne hb] at e
    exact (x b u e).stay (fun c v _ q => k c v q) (fun c q => by rw [upd_ne (ne_of_none q hn)]; exact q) fun c xs q => by rw [upd_ne (ne_of_none q hn)]; exact q
end

noncomputable def Rd (H : Hp) (a : Addr) (u : HO) : Prop := H a = some u ∨ ∃ o, H a = some (.frz o u)
theorem Rd.ok {P : Program} {w : World} {H : Hp} {h : Heap} {a : Addr} {u : HO} (r : Rd H a u) (x : HOk P w H h) : ObjOk P w H h a u := by
  rcases r with r | ⟨o, r⟩
  · exact x a u r
  · obtain ⟨_, q⟩ := x a _ r
    exact q
noncomputable def Mut : Option HO → Prop
  | some (.lst _) => True
  | some (.dK _) => True
  | some (.dT _) => True
  | some (.set _ _) => True
  | some (.ins _ _ _) => True
  | some (.ext _) => True
  | _ => False
section
variable {P : Program} {w : World} {H : Hp} {h h' : Heap} {x e : Addr} {o' : HO}
theorem HOk.write (ok : HOk P w H h) (mu : Mut (H x)) (he : e = x ∨ H e = some (.own x)) (k : ∀ b u, b ≠ e → h.get? b = some u → h'.get? b = some u) (heo : ∃ u, h'.get? e = some u)
    (new : ObjOk P w (upd H x o') h' x o') : HOk P w (upd H x o') h' := fun b u q => by
  have nown : ∀ c y, H c = some (.own y) → c ≠ x := fun c y r z => by subst z; rw [r] at mu; exact mu
  have ntup : ∀ c xs, H c = some (.tup xs) → c ≠ x := fun c xs r z => by subst z; rw [r] at mu; exact mu
  by_cases hb : b = x
  · subst hb; rw [upd_same] at q; cases q; exact new
  · rw [upd_ne hb] at q
    by_cases hbe : b = e
    · have q' : H b = some (.own x) := by
        rcases he with z | z
        · exact absurd (hbe.trans z) hb
        · rw [hbe]; exact z
      rw [q] at q'; cases q'
      obtain ⟨v, hv⟩ := heo
      exact ⟨v, by rw [hbe]; exact hv⟩
    · refine (ok b u q).stay (fun c v hc r => k c v ?_ r) (fun c r => by rw [upd_ne (nown c b r)]; exact r) fun c xs r => by rw [upd_ne (ntup c xs r)]; exact r
      rcases hc with rfl | hc
      · exact hbe
      · rintro rfl
        rcases he with z | z
        · exact nown c b hc z
        · rw [hc] at z; cases z; exact hb rfl
end

/-! ### kept unless tracked; of the frames at fs (the callers') the slots may change (an exception that passes writes there); of the records at ex (iterators) nothing is said -/
structure Un (fs ex : List Addr) (H H' : Hp) (h h' : Heap) : Prop where
  keep : ∀ b o, h.get? b = some o → H b = none → b ∉ fs → b ∉ ex → h'.get? b = some o
  slot : ∀ b o, h.get? b = some o → H b = none → b ∈ fs → b ∉ ex → ∃ sl, h'.get? b = some { o with slots := sl }
  free : ∀ b o, h.get? b = some o → H b = none → b ∉ ex → H' b = none
  there : ∀ b o, h.get? b = some o → b ∉ ex → ∃ o', h'.get? b = some o'
  tups : ∀ b xs, H b = some (.tup xs) → H' b = some (.tup xs)
  frzs : ∀ b o u, H b = some (.frz o u) → H' b = some (.frz o u)
  tbls : ∀ b ps, H b = some (.tbl ps) → ∃ more, H' b = some (.tbl (ps ++ more))
section
variable {fs fs' ex ex' : List Addr} {H H1 H2 : Hp} {h h1 h2 h' : Heap} {a x e : Addr} {o : HO}
theorem Un.any (u : Un fs ex H H1 h h1) {b : Addr} {ob : Obj} (q : h.get? b = some ob) (n : H b = none) (hx : b ∉ ex) : ∃ sl, h1.get? b = some { ob with slots := sl } := by
  by_cases hb : b ∈ fs
  · exact u.slot b ob q n hb hx
  · exact ⟨ob.slots, u.keep b ob q n hb hx⟩
theorem Un.kept (k : ∀ b u, h.get? b = some u → h'.get? b = some u) : Un fs ex H H h h' :=
  ⟨fun b ob q _ _ _ => k b ob q, fun b ob q _ _ _ => ⟨ob.slots, k b ob q⟩, fun _ _ _ n _ => n, fun b ob q _ => ⟨ob, k b ob q⟩, fun _ _ q => q, fun _ _ _ q => q, fun _ ps q => ⟨#[], by rw [q]; simp⟩⟩
theorem Un.refl : Un fs ex H H h h := Un.kept fun _ _ q => q
theorem Un.laid (k : ∀ b u, h.get? b = some u → h'.get? b = some u) (hp : h.objs.size ≤ a) (hn : H a = none) : Un fs ex H (upd H a o) h h' where
  keep := fun b u q _ _ _ => k b u q
  slot := fun b u q _ _ _ => ⟨u.slots, k b u q⟩
  free := fun b u q n _ => by rw [upd_ne (Nat.ne_of_lt (Nat.lt_of_lt_of_le (Heap.lt_size q) hp))]; exact n
  there := fun b u q _ => ⟨u, k b u q⟩
  tups := fun b xs q => by rw [upd_ne (ne_of_none q hn)]; exact q
  frzs := fun b u xs q => by rw [upd_ne (ne_of_none q hn)]; exact q
  tbls := fun b ps q => ⟨#[], by rw [upd_ne (ne_of_none q hn), q]; simp⟩
theorem Un.write (mu : Mut (H x)) (he : e = x ∨ H e = some (.own x)) (k : ∀ b u, b ≠ e → h.get? b = some u → h'.get? b = some u) (heo : ∃ u, h'.get? e = some u) : Un fs ex H (upd H x o) h h' := by
  have hx : ∀ b, H b = none → b ≠ x := fun b n z => by subst z; rw [n] at mu; exact mu
  have hb : ∀ b, H b = none → b ≠ e := fun b n z => by
    subst z
    rcases he with r | r
    · exact hx b n r
    · rw [n] at r; cases r
  have hm : ∀ b u, H b = some u → ¬ Mut (some u) → b ≠ x := fun b u q nm z => by subst z; rw [q] at mu; exact nm mu
  refine ⟨fun b u q n _ _ => k b u (hb b n) q, fun b u q n _ _ => ⟨u.slots, k b u (hb b n) q⟩, fun b u q n _ => by rw [upd_ne (hx b n)]; exact n, fun b u q _ => ?_,
    fun b xs q => by rw [upd_ne (hm b _ q fun z => z)]; exact q, fun b u xs q => by rw [upd_ne (hm b _ q fun z => z)]; exact q, fun b ps q => ⟨#[], by rw [upd_ne (hm b _ q fun z => z), q]; simp⟩⟩
  by_cases hbe : b = e
  · subst hbe; exact heo
  · exact ⟨u, k b u hbe q⟩
end

/-! ### the heap without what is tracked -/
noncomputable def trk (h : Heap) (H : Hp) : List Addr := (List.range h.objs.size).filter fun a => (H a).isSome
noncomputable def hidT (h : Heap) (H : Hp) : Heap := PySem.W.hideAll h (trk h H)
theorem hidT_size (h : Heap) (H : Hp) : (hidT h H).objs.size = h.objs.size := PySem.W.hideAll_size _ _
theorem hidT_get {h : Heap} {H : Hp} {b : Addr} {o : Obj} (e : h.get? b = some o) (n : H b = none) : (hidT h H).get? b = some o :=
  PySem.W.hideAll_get _ e fun hm => by
    have q : (H b).isSome = true := (List.mem_filter.mp hm).2
    rw [n] at q; simp at q
theorem of_hidT {h : Heap} {H : Hp} {b : Addr} {o : Obj} (e : (hidT h H).get? b = some o) : h.get? b = some o ∧ H b = none := by
  have e' : h.get? b = some o := PySem.W.of_hideAll (trk h H) e
  refine ⟨e', ?_⟩
  cases q : H b with
  | none => rfl
  | some x =>
    have hm : b ∈ trk h H := List.mem_filter.mpr ⟨List.mem_range.mpr (Heap.lt_size e'), by simp [q]⟩
    have z : (hidT h H).get? b = none := PySem.W.hideAll_none (trk h H) hm
    rw [z] at e; cases e

/-! ### OpenK's ledger, filled with every new object but one -/
noncomputable def allNews (g h : Heap) (L : Addr) : List (Addr × Obj) := (List.range h.objs.size).filterMap fun a => if a = L ∨ (g.get? a).isSome = true then none else (h.get? a).map fun o => (a, o)
noncomputable def rest (g h : Heap) (L d : Addr) : List (Addr × Obj) := (allNews g h L).filter fun p => decide (p.1 ≠ d)
end L2

namespace L2
open PySem PySem.Spec PyProof.Rows

structure Mod (K : PySem.W.Frag) (mg : Str → Option Value) (base : Heap) : Prop where
  kin : K.In base
  glob : base.Ns mainGlobals mg
  blt : ∃ mb, base.Ns builtinsNs mb ∧ ∀ x : Str, x ≠ "__name__" → mb x = bootBuiltins x
  nolimit : base.NoLimit

set_option genInjectivity false in
set_option genSizeOf false in
structure Cx where
  prog : Program
  w : World
  K : PySem.W.Frag
  mg : Str → Option Value
  base : Heap
  A : Around
  N : List Str
  s₀ : Shared
  H₀ : Hp
  env : Env
  outer : List Env
  stack : List Env
  ex : List Addr
  fn : Str → Bool
  calm : Bool
  pn : List (Addr × Obj)
  xe : Value → Shared → Prop
noncomputable def frs (l : List Env) : List Addr := l.filterMap (·.frame)
noncomputable abbrev Cx.fs (X : Cx) : List Addr := frs X.outer

noncomputable def Vis (sc : Scope) (x : Str) : Prop := sc.names.lookup x = some .local ∨ sc.names.lookup x = some .cell ∨ sc.names.lookup x = some .free
noncomputable def Loc (sc : Scope) (x : Str) : Prop := sc.names.lookup x = some .local ∨ sc.names.lookup x = some .cell
noncomputable def Look (env : Env) (h : Heap) (m : Str → Option Value) (x : Str) (u : Value) : Prop :=
  (env.kindOf x = some .local ∧ m x = some u) ∨ ((env.kindOf x = some .cell ∨ env.kindOf x = some .free) ∧ ∃ c, env.cells.lookup x = some c ∧ h.IsCell c (some u))

structure Cx.Ok (X : Cx) : Prop where
  mod : Mod X.K X.mg X.base
  kind : X.env.scope.kind = .function
  glob : X.env.globals = mainGlobals
  blt : X.env.builtins = builtinsNs
  above : X.s₀.heap.objs.size ≤ X.env.locals
  inj : ∀ x y c, X.env.cells.lookup x = some c → X.env.cells.lookup y = some c → x = y
  has : ∀ x, (X.env.kindOf x = some .cell ∨ X.env.kindOf x = some .free) → ∃ c, X.env.cells.lookup x = some c
  cab : ∀ x c, X.fn x = true → X.env.cells.lookup x = some c → X.s₀.heap.objs.size ≤ c
  hd : X.calm = true → X.A.handled = none
  frames : X.A.frames = some X.stack
  stk : X.stack = X.outer ∨ (X.stack = X.env :: X.outer ∧ X.env.frame = some X.env.locals)
  exf : ∀ b ∈ X.ex, b ≠ X.env.locals ∧ ∀ x c, X.env.cells.lookup x = some c → c ≠ b
  bs : ∀ b o, X.base.get? b = some o → X.s₀.heap.get? b = some o ∧ X.H₀ b = none
  bsz : X.base.objs.size ≤ X.s₀.heap.objs.size
  noex : ∀ b o, X.base.get? b = some o → b ∉ X.ex
  exfs : ∀ b ∈ X.ex, b ∉ X.fs
  funs : X.s₀.heap.FunFrames X.base X.outer
  frf : ∀ b ∈ X.fs, X.H₀ b = none

structure Inv (X : Cx) (pins : List (Addr × Obj)) (σ : List (Option V)) (H : Hp) (s : Shared) : Prop where
  ok : X.Ok
  os : s.os = X.s₀.os
  bare : AllBare s.gens
  base : Un X.fs X.ex X.H₀ H X.s₀.heap s.heap
  loc : ∃ m, s.heap.Ns X.env.locals m ∧ ∀ (i : Nat) (x : Str) (v : V), X.N[i]? = some x → σ[i]? = some (some v) → Vis X.env.scope x → ∃ u, RelV v u ∧ Look X.env s.heap m x u
  cell : ∀ x c, X.env.cells.lookup x = some c → ∃ v, s.heap.IsCell c v
  free : H X.env.locals = none
  freeC : ∀ x c, X.env.cells.lookup x = some c → H c = none
  pin : ∀ p ∈ X.pn ++ pins, s.heap.get? p.1 = some p.2 ∧ H p.1 = none ∧ p.1 ≠ X.env.locals ∧ p.1 ∉ X.fs ∧ ∀ v, p.2.data ≠ .cell v
  hok : HOk X.prog X.w H s.heap
  len : σ.length = X.N.length

section
variable {X : Cx} {pins : List (Addr × Obj)} {σ : List (Option V)} {H H' : Hp} {s : Shared} {h' : Heap}

theorem Cx.Ok.nofr (ok : X.Ok) {b : Addr} {o : Obj} (e : X.base.get? b = some o) : b ∉ X.fs := fun hb => by
  have := (ok.funs.mem hb).1
  rw [e] at this; cases this
theorem Inv.bs (I : Inv X pins σ H s) : ∀ b o, X.base.get? b = some o → s.heap.get? b = some o ∧ H b = none := fun b o e =>
  ⟨I.base.keep b o (I.ok.bs b o e).1 (I.ok.bs b o e).2 (I.ok.nofr e) (I.ok.noex b o e), I.base.free b o (I.ok.bs b o e).1 (I.ok.bs b o e).2 (I.ok.noex b o e)⟩
theorem Inv.bk (I : Inv X pins σ H s) : ∀ b o, X.base.get? b = some o → s.heap.get? b = some o := fun b o e => (I.bs b o e).1
theorem Inv.mod (I : Inv X pins σ H s) : Mod X.K X.mg X.base := I.ok.mod
theorem Inv.kIn (I : Inv X pins σ H s) : X.K.In s.heap := I.ok.mod.kin.keeps I.bk
theorem Inv.lt (I : Inv X pins σ H s) : X.env.locals < s.heap.objs.size := let ⟨_, hn, _⟩ := I.loc; hn.lt
theorem Inv.sz (I : Inv X pins σ H s) : X.s₀.heap.objs.size ≤ s.heap.objs.size := Nat.le_trans I.ok.above (Nat.le_of_lt I.lt)
theorem Inv.nofs (I : Inv X pins σ H s) {a : Addr} (h : s.heap.objs.size ≤ a) : a ∉ X.fs := fun hb => by
  obtain ⟨_, o, ho, _⟩ := I.ok.funs.mem hb
  exact absurd (Nat.lt_of_lt_of_le (Heap.lt_size ho) (Nat.le_trans I.sz h)) (Nat.lt_irrefl _)
theorem Inv.cne (I : Inv X pins σ H s) : ∀ x c, X.env.cells.lookup x = some c → c ≠ X.env.locals := fun x c e z => by
  obtain ⟨v, o, ho, hd⟩ := I.cell x c e
  obtain ⟨m, ⟨o', es, ep, ho', hd', _⟩, _⟩ := I.loc
  rw [z, ho'] at ho; cases ho; rw [hd'] at hd; cases hd
theorem Inv.funs (I : Inv X pins σ H s) : s.heap.FunFrames X.base X.outer := by
  have all : ∀ (l : List Env), (∀ b ∈ frs l, b ∈ X.fs) → X.s₀.heap.FunFrames X.base l → s.heap.FunFrames X.base l := by
    intro l
    induction l with
    | nil => intro _ _; trivial
    | cons env r ih =>
      intro hs hl
      obtain ⟨hk, ⟨L, o, hf, hn, ho, hd⟩, hr⟩ := hl
      have hL : L ∈ X.fs := hs L (by unfold frs; rw [List.filterMap_cons, hf]; exact List.mem_cons_self)
      obtain ⟨sl, e⟩ := I.base.slot L o ho (I.ok.frf L hL) hL fun z => I.ok.exfs L z hL
      exact ⟨hk, ⟨L, _, hf, hn, e, hd⟩, ih (fun b hb => hs b (by unfold frs; rw [List.filterMap_cons, hf]; exact List.mem_cons_of_mem _ hb)) hr⟩
  exact all X.outer (fun _ hb => hb) I.ok.funs

theorem Inv.stack (I : Inv X pins σ H s) : s.heap.FunFrames X.base X.stack := by
  rcases I.ok.stk with e | ⟨e, hf⟩
  · rw [e]; exact I.funs
  · rw [e]
    obtain ⟨m, hn, _⟩ := I.loc
    refine .cons (by rw [I.ok.kind]; decide) hf hn ?_ I.funs
    exact Heap.get?_none_of_le (Nat.le_trans I.ok.bsz I.ok.above)
theorem Inv.stkSub (I : Inv X pins σ H s) : ∀ b ∈ frs X.stack, b ∈ X.env.locals :: X.fs := fun b hb => by
  rcases I.ok.stk with e | ⟨e, hf⟩
  · rw [e] at hb; exact List.mem_cons_of_mem _ hb
  · rw [e] at hb
    unfold frs at hb
    rw [List.filterMap_cons, hf] at hb
    exact hb
theorem Inv.stkFree (I : Inv X pins σ H s) : ∀ b ∈ frs X.stack, H b = none := fun b hb => by
  rcases List.mem_cons.mp (I.stkSub b hb) with e | hb
  · rw [e]; exact I.free
  · obtain ⟨_, o, ho, _⟩ := I.ok.funs.mem hb
    exact I.base.free b o ho (I.ok.frf b hb) fun z => I.ok.exfs b z hb

theorem Inv.step {g' : Array GenState} {t' : Nat} {d' : Drawn} {ch : List Addr} (I : Inv X pins σ H s)
    (hch : ∀ b ∈ ch, (b ∈ X.ex ∨ X.s₀.heap.objs.size ≤ b) ∧ b ≠ X.env.locals ∧ (∀ x c, X.env.cells.lookup x = some c → c ≠ b) ∧ ∀ p ∈ X.pn ++ pins, p.1 ≠ b)
    (keep : ∀ b o, b ≠ X.env.locals → b ∉ X.fs → b ∉ ch → s.heap.get? b = some o → H b = none → h'.get? b = some o)
    (slot : ∀ b o, b ≠ X.env.locals → b ∈ X.fs → b ∉ ch → s.heap.get? b = some o → H b = none → ∃ sl, h'.get? b = some { o with slots := sl }) (free : ∀ b o, b ∉ ch → s.heap.get? b = some o → H b = none → H' b = none)
    (there : ∀ b o, b ∉ ch → s.heap.get? b = some o → ∃ o', h'.get? b = some o')
    (tups : ∀ b xs, H b = some (.tup xs) → H' b = some (.tup xs)) (frzs : ∀ b o u, H b = some (.frz o u) → H' b = some (.frz o u)) (tbls : ∀ b ps, H b = some (.tbl ps) → ∃ more, H' b = some (.tbl (ps ++ more)))
    (ns : ∀ m, s.heap.Ns X.env.locals m → h'.Ns X.env.locals m) (hok : HOk X.prog X.w H' h') (hg : AllBare g') :
    Inv X pins σ H' { s with heap := h', gens := g', drawn := d', toks := t' } := by
  have neL : ∀ b o, X.s₀.heap.get? b = some o → b ≠ X.env.locals := fun b o e => Nat.ne_of_lt (Nat.lt_of_lt_of_le (Heap.lt_size e) I.ok.above)
  have neC : ∀ b o, X.s₀.heap.get? b = some o → b ∉ X.ex → b ∉ ch := fun b o e hx hb => by
    rcases (hch b hb).1 with z | z
    · exact hx z
    · exact absurd (Nat.lt_of_lt_of_le (Heap.lt_size e) z) (Nat.lt_irrefl _)
  have cellK : ∀ x c, X.env.cells.lookup x = some c → ∀ v, s.heap.IsCell c v → h'.IsCell c v := fun x c e v ⟨o, ho, hd⟩ => by
    have nch : c ∉ ch := fun z => (hch c z).2.2.1 x c e rfl
    by_cases hc : c ∈ X.fs
    · obtain ⟨sl, q⟩ := slot c o (I.cne x c e) hc nch ho (I.freeC x c e)
      exact ⟨_, q, hd⟩
    · exact ⟨o, keep c o (I.cne x c e) hc nch ho (I.freeC x c e), hd⟩
  refine ⟨I.ok, I.os, hg, ⟨fun b o e n hb hx => ?_, fun b o e n hb hx => ?_, fun b o e n hx => ?_, fun b o e hx => ?_, fun b xs e => tups b xs (I.base.tups b xs e), fun b o xs e => frzs b o xs (I.base.frzs b o xs e), fun b ps e => ?_⟩, ?_, fun x c e => ?_, ?_, fun x c e => ?_, fun p hp => ?_, hok, I.len⟩
  · exact keep b o (neL b o e) hb (neC b o e hx) (I.base.keep b o e n hb hx) (I.base.free b o e n hx)
  · obtain ⟨sl, e1⟩ := I.base.slot b o e n hb hx
    obtain ⟨sl', e2⟩ := slot b _ (neL b o e) hb (neC b o e hx) e1 (I.base.free b o e n hx)
    exact ⟨sl', e2⟩
  · obtain ⟨o', e1⟩ := I.base.there b o e hx
    exact free b o' (neC b o e hx) e1 (I.base.free b o e n hx)
  · obtain ⟨o', e1⟩ := I.base.there b o e hx
    exact there b o' (neC b o e hx) e1
  · obtain ⟨m1, e1⟩ := I.base.tbls b ps e
    obtain ⟨m2, e2⟩ := tbls b _ e1
    exact ⟨m1 ++ m2, by rw [e2, Array.append_assoc]⟩
  · obtain ⟨m, hn, hl⟩ := I.loc
    refine ⟨m, ns m hn, fun i x v e1 e2 e3 => ?_⟩
    obtain ⟨u, r, l⟩ := hl i x v e1 e2 e3
    refine ⟨u, r, ?_⟩
    rcases l with l | ⟨k, c, e, z⟩
    · exact .inl l
    · exact .inr ⟨k, c, e, cellK x c e _ z⟩
  · obtain ⟨v, z⟩ := I.cell x c e
    exact ⟨v, cellK x c e v z⟩
  · obtain ⟨m, ⟨o, _, _, ho, _⟩, _⟩ := I.loc
    exact free _ o (fun z => (hch _ z).2.1 rfl) ho I.free
  · obtain ⟨v, o, ho, hd⟩ := I.cell x c e
    exact free c o (fun z => (hch c z).2.2.1 x c e rfl) ho (I.freeC x c e)
  · obtain ⟨e, n, ne, nf, d⟩ := I.pin p hp
    have nch : p.1 ∉ ch := fun z => (hch p.1 z).2.2.2 p hp rfl
    exact ⟨keep p.1 p.2 ne nf nch e n, free p.1 p.2 nch e n, ne, nf, d⟩
theorem Inv.un {t' : Nat} (I : Inv X pins σ H s) (u : Un X.fs [] H H' s.heap h') (hok : HOk X.prog X.w H' h') : Inv X pins σ H' { s with heap := h', toks := t' } := by
  obtain ⟨m, ⟨o, es, ep, ho, r⟩, _⟩ := id I.loc
  obtain ⟨sl, hL⟩ := u.any ho I.free (by simp)
  exact I.step (g' := s.gens) (d' := s.drawn) (ch := []) (fun _ z => nomatch z) (fun b o _ hb _ e n => u.keep b o e n hb (by simp)) (fun b o _ hb _ e n => u.slot b o e n hb (by simp)) (fun b o _ e n => u.free b o e n (by simp)) (fun b o _ e => u.there b o e (by simp)) u.tups u.frzs u.tbls (fun m' hm => by
    obtain ⟨o', es', ep', ho', r'⟩ := hm
    rw [ho] at ho'; cases ho'
    exact ⟨_, es', ep', hL, r'⟩) hok I.bare
theorem Inv.call {g' : Array GenState} {t' : Nat} {d' : Drawn} {ch : List Addr} (I : Inv X pins σ H s) (u : Un (frs X.stack) ch H H' s.heap h') (hok : HOk X.prog X.w H' h') (hg : AllBare g')
    (hch : ∀ b ∈ ch, (b ∈ X.ex ∨ X.s₀.heap.objs.size ≤ b) ∧ b ≠ X.env.locals ∧ (∀ x c, X.env.cells.lookup x = some c → c ≠ b) ∧ ∀ p ∈ X.pn ++ pins, p.1 ≠ b) :
    Inv X pins σ H' { s with heap := h', gens := g', drawn := d', toks := t' } := by
  obtain ⟨m, ⟨o, es, ep, ho, r⟩, _⟩ := id I.loc
  obtain ⟨sl, hL⟩ := u.any ho I.free fun z => (hch _ z).2.1 rfl
  exact I.step (ch := ch) hch (fun b o hL hb hc e n => u.keep b o e n (fun z => (List.mem_cons.mp (I.stkSub b z)).elim hL hb) hc) (fun b o _ _ hc e n => u.any e n hc) (fun b o hc e n => u.free b o e n hc) (fun b o hc e => u.there b o e hc) u.tups u.frzs u.tbls (fun m' hm => by
    obtain ⟨o', es', ep', ho', r'⟩ := hm
    rw [ho] at ho'; cases ho'
    exact ⟨_, es', ep', hL, r'⟩) hok hg
theorem Inv.turned {t' : Nat} {it : Addr} (I : Inv X pins σ H s) (k : ∀ b o, b ≠ it → s.heap.get? b = some o → h'.get? b = some o) (hn : H it = none) (hL : it ≠ X.env.locals)
    (h1 : it ∈ X.ex ∨ X.s₀.heap.objs.size ≤ it) (h2 : ∀ x c, X.env.cells.lookup x = some c → c ≠ it) (h3 : ∀ p ∈ X.pn ++ pins, p.1 ≠ it) : Inv X pins σ H { s with heap := h', toks := t' } := by
  have nit : ∀ b u, H b = some u → b ≠ it := fun b u e z => by rw [z, hn] at e; cases e
  refine I.step (g' := s.gens) (d' := s.drawn) (ch := [it]) (fun b hb => ?_) (fun b o _ _ hc e _ => k b o (fun z => hc (by simp [z])) e) (fun b o _ _ hc e _ => ⟨o.slots, k b o (fun z => hc (by simp [z])) e⟩) (fun _ _ _ _ n => n)
    (fun b o hc e => ⟨o, k b o (fun z => hc (by simp [z])) e⟩) (fun _ _ e => e) (fun _ _ _ e => e) (fun b ps e => ⟨#[], by rw [e]; simp⟩) (fun m hm => ?_) (fun b u e => ?_) I.bare
  · have e : b = it := by simpa using hb
    subst e
    exact ⟨h1, hL, h2, h3⟩
  · obtain ⟨o, es, ep, ho, r⟩ := hm
    exact ⟨o, es, ep, k _ o (Ne.symm hL) ho, r⟩
  · refine (I.hok b u e).stay (fun c v hc q => k c v ?_ q) (fun _ q => q) fun _ _ q => q
    rcases hc with z | z
    · rw [z]; exact nit b u e
    · exact nit c _ z
theorem Inv.tok (I : Inv X pins σ H s) (t : Nat) : Inv X pins σ H { s with toks := t } := I.un (h' := s.heap) (t' := t) Un.refl I.hok
theorem Inv.kept {t' : Nat} (I : Inv X pins σ H s) (k : ∀ b u, s.heap.get? b = some u → h'.get? b = some u) : Inv X pins σ H { s with heap := h', toks := t' } := I.un (Un.kept k) (I.hok.kept k)
theorem Inv.laid {a : Addr} {o : HO} {t' : Nat} (I : Inv X pins σ H s) (k : ∀ b u, s.heap.get? b = some u → h'.get? b = some u) (hp : s.heap.objs.size ≤ a) (new : ObjOk X.prog X.w (upd H a o) h' a o) :
    Inv X pins σ (upd H a o) { s with heap := h', toks := t' } := I.un (Un.laid k hp (I.hok.fresh hp)) (I.hok.laid k hp new)
theorem Inv.write {x e : Addr} {o : HO} {t' : Nat} (I : Inv X pins σ H s) (mu : Mut (H x)) (he : e = x ∨ H e = some (.own x)) (k : ∀ b u, b ≠ e → s.heap.get? b = some u → h'.get? b = some u) (heo : ∃ u, h'.get? e = some u)
    (new : ObjOk X.prog X.w (upd H x o) h' x o) : Inv X pins σ (upd H x o) { s with heap := h', toks := t' } := I.un (Un.write mu he k heo) (I.hok.write mu he k heo new)
theorem Inv.pins_of {pins' : List (Addr × Obj)} (I : Inv X pins σ H s) (h : ∀ p ∈ pins', s.heap.get? p.1 = some p.2 ∧ H p.1 = none ∧ p.1 ≠ X.env.locals ∧ p.1 ∉ X.fs ∧ ∀ v, p.2.data ≠ .cell v) : Inv X pins' σ H s :=
  ⟨I.ok, I.os, I.bare, I.base, I.loc, I.cell, I.free, I.freeC, fun p hp => (List.mem_append.mp hp).elim (fun z => I.pin p (List.mem_append_left _ z)) (h p), I.hok, I.len⟩

theorem nodup_ix {N : List Str} (hN : N.Nodup) {i j : Nat} {x : Str} (a : N[i]? = some x) (b : N[j]? = some x) : i = j := by
  obtain ⟨h1, e1⟩ := List.getElem?_eq_some_iff.mp a
  obtain ⟨h2, e2⟩ := List.getElem?_eq_some_iff.mp b
  exact (List.getElem_inj hN).mp (e1.trans e2.symm)

theorem store_ok2 {M : Model} {A : Around} {E : Value → Shared → Prop} {i : Nat} {x : Str} {v : V} {u : Value} {Q : Unit → Shared → Prop} (I : Inv X pins σ H s) (hN : X.N.Nodup) (hi : X.N[i]? = some x) (hx : Loc X.env.scope x) (r : RelV v u)
    (h : ∀ s', Inv X pins (σ.set i (some v)) H s' → (∃ a, Heap.SameBut a s.heap s'.heap ∧ (a = X.env.locals ∨ X.env.cells.lookup x = some a)) → Q () s') (hf : X.fn x = true ∨ X.env.scope.names.lookup x = some .local := by first | exact .inl rfl | exact .inr rfl | assumption) : wpAny M A (storeName X.env x u) Q E s := by
  obtain ⟨m, hn, hl⟩ := id I.loc
  have hcls : (X.env.scope.kind == .class || (X.env.scope.kind == .module && X.env.locals != X.env.globals)) = false := by rw [I.ok.kind]; rfl
  have hiσ : i < σ.length := by rw [I.len]; exact (List.getElem?_eq_some_iff.mp hi).1
  have cne := I.cne
  have tracked : ∀ {a : Addr} {h' : Heap}, (∃ o, s.heap.get? a = some o ∧ H a = none) → Heap.SameBut a s.heap h' → HOk X.prog X.w H h' := fun {a h'} ha hs b ob e => by
    obtain ⟨_, _, hfree⟩ := ha
    refine (I.hok b ob e).stay (fun c w' hc q => (hs.2 c ?_).trans q) (fun _ q => q) fun _ _ q => q
    rintro rfl
    rcases hc with rfl | hc
    · rw [hfree] at e; cases e
    · rw [hfree] at hc; cases hc
  rcases hx with hk | hk
  · refine wpAny_storeName_local hk hn (fun h' hn' hs => ?_) hcls
    obtain ⟨oL, _, _, hoL, _⟩ := id hn
    refine h _ ⟨I.ok, I.os, I.bare, ⟨fun b o e n hb hx => ?_, fun b o e n hb hx => ?_, I.base.free, fun b o e hx => ?_, I.base.tups, I.base.frzs, I.base.tbls⟩, ⟨_, hn', fun j y v' e1 e2 e3 => ?_⟩, fun y c e => ?_, I.free, I.freeC, fun p hp => ?_, tracked ⟨oL, hoL, I.free⟩ hs, by simpa using I.len⟩ ⟨_, hs, .inl rfl⟩
    · exact (hs.2 b (Nat.ne_of_lt (Nat.lt_of_lt_of_le (Heap.lt_size e) I.ok.above))).trans (I.base.keep b o e n hb hx)
    · obtain ⟨sl, e1⟩ := I.base.slot b o e n hb hx
      exact ⟨sl, (hs.2 b (Nat.ne_of_lt (Nat.lt_of_lt_of_le (Heap.lt_size e) I.ok.above))).trans e1⟩
    · obtain ⟨o', e1⟩ := I.base.there b o e hx
      exact ⟨o', (hs.2 b (Nat.ne_of_lt (Nat.lt_of_lt_of_le (Heap.lt_size e) I.ok.above))).trans e1⟩
    · by_cases hj : j = i
      · subst hj
        rw [hi] at e1; cases e1
        rw [List.getElem?_set_self hiσ] at e2
        cases e2
        exact ⟨u, r, .inl ⟨hk, by simp⟩⟩
      · rw [List.getElem?_set_ne (Ne.symm hj)] at e2
        obtain ⟨u', r', q⟩ := hl j y v' e1 e2 e3
        refine ⟨u', r', ?_⟩
        rcases q with ⟨k, e⟩ | ⟨k, c, e, z⟩
        · refine .inl ⟨k, ?_⟩
          have : y ≠ x := fun e => hj (nodup_ix hN e1 (e ▸ hi))
          simp [this, e]
        · exact .inr ⟨k, c, e, z.sameBut hs (cne y c e)⟩
    · obtain ⟨w', z⟩ := I.cell y c e
      exact ⟨w', z.sameBut hs (cne y c e)⟩
    · obtain ⟨e, n, ne, nf, d⟩ := I.pin p hp
      exact ⟨(hs.2 p.1 ne).trans e, n, ne, nf, d⟩
  · have hfn : X.fn x = true := by
      rcases hf with z | z
      · exact z
      · rw [z] at hk; cases hk
    obtain ⟨c, hc⟩ := I.ok.has x (.inl hk)
    obtain ⟨w', z⟩ := I.cell x c hc
    refine wpAny_storeName_cell I.ok.kind hk hc z (fun h' hc' hs => ?_)
    obtain ⟨oc, hoc, hocd⟩ := id z
    refine h { s with heap := h' } ⟨I.ok, I.os, I.bare, ⟨fun b o e n hb hx => ?_, fun b o e n hb hx => ?_, I.base.free, fun b o e hx => ?_, I.base.tups, I.base.frzs, I.base.tbls⟩, ⟨m, hn.sameBut hs (Ne.symm (cne x c hc)), fun j y v' e1 e2 e3 => ?_⟩, fun y c' e => ?_, I.free, I.freeC, fun p hp => ?_, tracked ⟨oc, hoc, I.freeC x c hc⟩ hs, by simpa using I.len⟩ ⟨c, hs, .inr hc⟩
    · exact (hs.2 b (Nat.ne_of_lt (Nat.lt_of_lt_of_le (Heap.lt_size e) (I.ok.cab x c hfn hc)))).trans (I.base.keep b o e n hb hx)
    · obtain ⟨sl, e1⟩ := I.base.slot b o e n hb hx
      exact ⟨sl, (hs.2 b (Nat.ne_of_lt (Nat.lt_of_lt_of_le (Heap.lt_size e) (I.ok.cab x c hfn hc)))).trans e1⟩
    · obtain ⟨o', e1⟩ := I.base.there b o e hx
      exact ⟨o', (hs.2 b (Nat.ne_of_lt (Nat.lt_of_lt_of_le (Heap.lt_size e) (I.ok.cab x c hfn hc)))).trans e1⟩
    · by_cases hj : j = i
      · subst hj
        rw [hi] at e1; cases e1
        rw [List.getElem?_set_self hiσ] at e2
        cases e2
        exact ⟨u, r, .inr ⟨.inl hk, c, hc, hc'⟩⟩
      · rw [List.getElem?_set_ne (Ne.symm hj)] at e2
        obtain ⟨u', r', q⟩ := hl j y v' e1 e2 e3
        refine ⟨u', r', ?_⟩
        rcases q with q | ⟨k, c', e, z'⟩
        · exact .inl q
        · refine .inr ⟨k, c', e, z'.sameBut hs ?_⟩
          rintro rfl
          exact hj (nodup_ix hN e1 (I.ok.inj _ _ _ e hc ▸ hi))
    · by_cases hcc : c' = c
      · subst hcc; exact ⟨_, hc'⟩
      · obtain ⟨w2, z2⟩ := I.cell y c' e
        exact ⟨w2, z2.sameBut hs hcc⟩
    · obtain ⟨e, n, ne, nf, d⟩ := I.pin p hp
      refine ⟨(hs.2 p.1 ?_).trans e, n, ne, nf, d⟩
      intro q
      rw [q, hoc] at e
      have q' : oc = p.2 := Option.some.inj e
      exact d w' (by rw [← q']; exact hocd)
theorem store_ok {M : Model} {A : Around} {E : Value → Shared → Prop} {i : Nat} {x : Str} {v : V} {u : Value} {Q : Unit → Shared → Prop} (I : Inv X pins σ H s) (hN : X.N.Nodup) (hi : X.N[i]? = some x) (hx : Loc X.env.scope x) (r : RelV v u)
    (h : ∀ s', Inv X pins (σ.set i (some v)) H s' → Q () s') (hf : X.fn x = true ∨ X.env.scope.names.lookup x = some .local := by first | exact .inl rfl | exact .inr rfl | assumption) : wpAny M A (storeName X.env x u) Q E s :=
  store_ok2 I hN hi hx r (fun s' I' _ => h s' I') hf
theorem Inv.call' {s' : Shared} {ch : List Addr} (I : Inv X pins σ H s) (ho : s'.os = s.os) (u : Un (frs X.stack) ch H H' s.heap s'.heap) (hok : HOk X.prog X.w H' s'.heap) (hg : AllBare s'.gens)
    (hch : ∀ b ∈ ch, (b ∈ X.ex ∨ X.s₀.heap.objs.size ≤ b) ∧ b ≠ X.env.locals ∧ (∀ x c, X.env.cells.lookup x = some c → c ≠ b) ∧ ∀ p ∈ X.pn ++ pins, p.1 ≠ b) : Inv X pins σ H' s' := by
  obtain ⟨h', g', d', t', o'⟩ := s'
  have e : o' = s.os := ho
  subst e
  exact I.call (g' := g') (t' := t') (d' := d') u hok hg hch
end

/-! ### the judgements -/
noncomputable abbrev XK := Value → Option Addr → Hp → Prop
noncomputable abbrev St := List (Option V)
noncomputable abbrev VK := V → Hp → Prop
noncomputable abbrev TE := St → Hp → VK → Prop
noncomputable abbrev TT := St → Hp → (Bool → Hp → Prop) → Prop
noncomputable abbrev TA := St → Hp → (List V → Hp → Prop) → Prop
set_option genInjectivity false in
set_option genSizeOf false in
structure Ends where
  nx : St → Hp → Prop
  rt : VK
  bk : St → Hp → Prop := fun _ _ => False
  ct : St → Hp → Prop := fun _ _ => False
noncomputable abbrev TS := Ends → St → Hp → Prop

noncomputable def EP (X : Cx) (pins : List (Addr × Obj)) (σ : St) (Q : VK) (u : Value) (s' : Shared) : Prop := ∃ v H', Inv X pins σ H' s' ∧ RelV v u ∧ Q v H'
noncomputable def TP (X : Cx) (pins : List (Addr × Obj)) (σ : St) (Q : Bool → Hp → Prop) (b : Bool) (s' : Shared) : Prop := ∃ H', Inv X pins σ H' s' ∧ Q b H'
noncomputable def AP (X : Cx) (pins : List (Addr × Obj)) (σ : St) (Q : List V → Hp → Prop) (us : List Value) (s' : Shared) : Prop := ∃ vs H', Inv X pins σ H' s' ∧ Vals vs us ∧ Q vs H'
noncomputable def SP (X : Cx) (pins : List (Addr × Obj)) (D : Ends) (f : Flow) (s' : Shared) : Prop :=
  match f with
  | .next => ∃ σ' H', Inv X pins σ' H' s' ∧ D.nx σ' H'
  | .brk => ∃ σ' H', Inv X pins σ' H' s' ∧ D.bk σ' H'
  | .cont => ∃ σ' H', Inv X pins σ' H' s' ∧ D.ct σ' H'
  | .ret u => ∃ v σ' H', Inv X pins σ' H' s' ∧ RelV v u ∧ D.rt v H'

noncomputable def PE (X : Cx) (e : Expr) (t : TE) : Prop :=
  ∀ (pins : List (Addr × Obj)) (s : Shared) (σ : St) (H : Hp) (Q : VK), Inv X pins σ H s → t σ H Q → wpAny (model X.prog X.w) X.A (eval e X.env) (EP X pins σ Q) X.xe s
noncomputable def PT (X : Cx) (e : Expr) (t : TT) : Prop :=
  ∀ (pins : List (Addr × Obj)) (s : Shared) (σ : St) (H : Hp) (Q : Bool → Hp → Prop), Inv X pins σ H s → t σ H Q → wpAny (model X.prog X.w) X.A (isTrue e X.env (eval e X.env)) (TP X pins σ Q) X.xe s
noncomputable def PW (X : Cx) (e : Expr) (t : TT) : Prop :=
  ∀ (whole : Sem Value) (pins : List (Addr × Obj)) (s : Shared) (σ : St) (H : Hp) (Q : Bool → Hp → Prop), Inv X pins σ H s → t σ H Q → wpAny (model X.prog X.w) X.A (isTrue e X.env whole) (TP X pins σ Q) X.xe s
theorem PW.pt {X : Cx} {e : Expr} {t : TT} (h : PW X e t) : PT X e t := h _
noncomputable def PA (X : Cx) (es : List Expr) (t : TA) : Prop :=
  ∀ (pos : Pos) (pins : List (Addr × Obj)) (s : Shared) (σ : St) (H : Hp) (Q : List V → Hp → Prop), Inv X pins σ H s → t σ H Q → wpAny (model X.prog X.w) X.A (spliced (backTo pos (starEach es X.env))) (AP X pins σ Q) X.xe s
noncomputable def PS (X : Cx) (st : Stmt) (t : TS) : Prop :=
  ∀ (pins : List (Addr × Obj)) (s : Shared) (σ : St) (H : Hp) (D : Ends), Inv X pins σ H s → t D σ H → wpAny (model X.prog X.w) X.A (exec st X.env) (SP X pins D) X.xe s
noncomputable def PSs (X : Cx) (st : List Stmt) (t : TS) : Prop :=
  ∀ (pins : List (Addr × Obj)) (s : Shared) (σ : St) (H : Hp) (D : Ends), Inv X pins σ H s → t D σ H → wpAny (model X.prog X.w) X.A (execs st X.env) (SP X pins D) X.xe s
theorem thn {α : Type} {t : Sem α} {Q Q' : α → Shared → Prop} {M : Model} {A : Around} {E : Value → Shared → Prop} {s : Shared} (h : wpAny M A t Q E s) (hQ : ∀ a s, Q a s → Q' a s) : wpAny M A t Q' E s := wpAny_mono h hQ fun _ _ x => x
end L2

namespace L2
open PySem PySem.Spec PyProof.Rows
section
variable {X : Cx}

/-! ### names and constants -/
noncomputable def tVar (i : Nat) : TE := fun σ H Q => ∃ v, σ[i]? = some (some v) ∧ Q v H
noncomputable def tC (v : V) : TE := fun _ H Q => Q v H
theorem pe_var {i : Nat} {x : Str} {pos : Pos} (hN : X.N[i]? = some x) (hv : Vis X.env.scope x) (hd : (x == ("__debug__" : Str)) = false := by decide) (hcd : (x == ("__classdict__" : Str)) = false := by decide) : PE X (.Name x pos) (tVar i) := by
  intro pins s σ H Q I h
  obtain ⟨v, e, h⟩ := h
  obtain ⟨m, hn, hl⟩ := I.loc
  obtain ⟨u, r, l⟩ := hl i x v hN e hv
  have fin : EP X pins σ Q u s := ⟨v, H, I, r, h⟩
  rcases l with ⟨hk, hm⟩ | ⟨hk, c, hc, hcell⟩
  · exact wpAny_Name (wpAny_loadName_local I.ok.kind hk hn hm fin) hd
  · rcases hk with hk | hk
    · exact wpAny_Name (wpAny_loadName_cell I.ok.kind hk hc hcell fin) hd
    · exact wpAny_Name (wpAny_loadName_free I.ok.kind hk hc hcell fin hcd) hd
theorem pe_int {i j pos} : PE X (.Constant (.int i) j pos) (tC (.int i)) := fun _ _ _ H _ I h => wpAny_Constant_int ⟨.int i, H, I.tok _, ⟨_, rfl⟩, h⟩
theorem pe_bl {b j pos} : PE X (.Constant (.bool b) j pos) (tC (.bl b)) := fun _ _ _ H _ I h => Constant_bool ⟨.bl b, H, I, rfl, h⟩
theorem pe_non {j pos} : PE X (.Constant .none j pos) (tC .non) := fun _ _ _ H _ I h => Constant_none ⟨.non, H, I, rfl, h⟩
theorem pe_str {x j pos} : PE X (.Constant (.str x) j pos) (tC (.str x)) := fun _ _ _ H _ I h => Calls.Constant_str ⟨.str x, H, I.tok _, ⟨_, rfl⟩, h⟩

noncomputable def Gl (X : Cx) (x : Str) : Prop := X.env.kindOf x = some .globalImplicit
theorem ld_glob {E : Value → Shared → Prop} {pins : List (Addr × Obj)} {s : Shared} {σ : St} {H : Hp} {x : Str} {u : Value} {pos : Pos} {Q : Value → Shared → Prop} (I : Inv X pins σ H s) (hg : Gl X x) (hm : X.mg x = some u) (h : Q u s)
    (hd : (x == ("__debug__" : Str)) = false := by decide) : wpAny (model X.prog X.w) X.A (eval (.Name x pos) X.env) Q E s :=
  Calls.Name_function_global I.ok.kind hg (Calls.loadGlobal_global (by rw [I.ok.glob]; exact I.mod.glob.keeps I.bk) hm h) hd
theorem ld_blt {E : Value → Shared → Prop} {pins : List (Addr × Obj)} {s : Shared} {σ : St} {H : Hp} {x : Str} {u : Value} {pos : Pos} {Q : Value → Shared → Prop} (I : Inv X pins σ H s) (hg : Gl X x) (hm : X.mg x = none) (hv : bootBuiltins x = some u) (h : Q u s)
    (hn : x ≠ "__name__" := by decide) (hd : (x == ("__debug__" : Str)) = false := by decide) : wpAny (model X.prog X.w) X.A (eval (.Name x pos) X.env) Q E s := by
  obtain ⟨mb, h1, h2⟩ := I.mod.blt
  exact Calls.Name_function_global I.ok.kind hg (Calls.loadGlobal_builtin (by rw [I.ok.glob]; exact I.mod.glob.keeps I.bk) hm (by rw [I.ok.blt]; exact h1.keeps I.bk) ((h2 x hn).trans hv) h) hd
theorem pe_glob {x : Str} {v : V} {u : Value} {pos : Pos} (hg : Gl X x) (hm : X.mg x = some u) (r : RelV v u) (hd : (x == ("__debug__" : Str)) = false := by decide) : PE X (.Name x pos) (tC v) :=
  fun _ _ _ H _ I h => ld_glob I hg hm ⟨v, H, I, r, h⟩ hd
theorem pe_bltn {x : Str} {v : V} {u : Value} {pos : Pos} (hg : Gl X x) (hm : X.mg x = none) (hv : bootBuiltins x = some u) (r : RelV v u) (hn : x ≠ "__name__" := by decide) (hd : (x == ("__debug__" : Str)) = false := by decide) : PE X (.Name x pos) (tC v) :=
  fun _ _ _ H _ I h => ld_blt I hg hm hv ⟨v, H, I, r, h⟩ hn hd

/-! ### arithmetic -/
noncomputable def t2I (ta tb : TE) (k : Int → Int → Hp → Prop) : St → Hp → Prop := fun σ H => ta σ H fun x H1 => tb σ H1 fun y H2 => ∃ i j, x = .int i ∧ y = .int j ∧ k i j H2
noncomputable def tAdd (ta tb : TE) : TE := fun σ H Q => t2I ta tb (fun i j H2 => Q (.int (i + j)) H2) σ H
noncomputable def tSub (ta tb : TE) : TE := fun σ H Q => t2I ta tb (fun i j H2 => Q (.int (i - j)) H2) σ H
noncomputable def tMul (ta tb : TE) : TE := fun σ H Q => t2I ta tb (fun i j H2 => (-(2 ^ 64) < i ∧ i < 2 ^ 64) ∧ Q (.int (i * j)) H2) σ H
variable {a b : Expr} {ta tb : TE} {pos : Pos}
/-! ### comparisons -/
noncomputable def PC (X : Cx) (op : CmpOp) (a b : Expr) (t : TE) : Prop :=
  ∀ (pins : List (Addr × Obj)) (s : Shared) (σ : St) (H : Hp) (Q : VK), Inv X pins σ H s → t σ H Q →
    wpAny (model X.prog X.w) X.A (eval a X.env) (fun v s₁ => wpAny (model X.prog X.w) X.A (eval b X.env) (fun u s₂ => wpAny (model X.prog X.w) X.A (compareOp op v u) (EP X pins σ Q) X.xe s₂) X.xe s₁) X.xe s
noncomputable def tCmp (p : Int → Int → Bool) (ta tb : TE) : TE := fun σ H Q => t2I ta tb (fun i j H2 => Q (.bl (p i j)) H2) σ H
noncomputable abbrev tLt : TE → TE → TE := tCmp fun i j => decide (i < j)
noncomputable abbrev tLe : TE → TE → TE := tCmp fun i j => decide (i ≤ j)
noncomputable abbrev tGt : TE → TE → TE := tCmp fun i j => decide (j < i)
noncomputable abbrev tGe : TE → TE → TE := tCmp fun i j => decide (j ≤ i)
noncomputable abbrev tEqI : TE → TE → TE := tCmp fun i j => decide (i = j)
noncomputable abbrev tNeI : TE → TE → TE := tCmp fun i j => !decide (i = j)
noncomputable def tIsN (ta : TE) : TE := fun σ H Q => ta σ H fun x H1 => Q (.bl (decide (x = .non))) H1
noncomputable def tNotN (ta : TE) : TE := fun σ H Q => ta σ H fun x H1 => Q (.bl (!decide (x = .non))) H1
noncomputable def tB (t : TE) : TT := fun σ H Q => t σ H fun x H1 => ∃ c, x = .bl c ∧ Q c H1
theorem pt_val {e : Expr} {t : TE} (h : PE X e t) (he : ∀ whole, isTrue e X.env whole = (do let v ← whole; standAt e.pos; holding [v] (truthy v)) := by intro _; rfl) : PT X e (tB t) := by
  intro pins s σ H Q I hw
  refine isTrue_plain (thn (h pins s σ H _ I hw) fun v s1 hz1 => ?_) (he _)
  obtain ⟨x, H1, I1, r1, q1⟩ := hz1
  obtain ⟨d, rfl, q⟩ := q1
  cases r1
  exact wpAny_truthy_bool ⟨H1, I1, q⟩

/-! ### and, or, not -/
variable {tA tB' : TT} {rest : List Expr}
noncomputable def tAnd (t u : TT) : TT := fun σ H Q => t σ H fun c H1 => if c = true then u σ H1 Q else Q false H1
noncomputable def tOr (t u : TT) : TT := fun σ H Q => t σ H fun c H1 => if c = true then Q true H1 else u σ H1 Q
noncomputable def tNot (t : TT) : TT := fun σ H Q => t σ H fun c H1 => Q (!c) H1
theorem pw_and1 (ha : PT X a tA) : PW X (.BoolOp .And [a] pos) tA := by
  intro wh pins s σ H Q I h
  refine isTrue_and (thn (ha pins s σ H Q I h) fun c s1 e => ?_)
  cases c with
  | true => exact isTrue_and_nil e
  | false => exact e
theorem pw_or1 (ha : PT X a tA) : PW X (.BoolOp .Or [a] pos) tA := by
  intro wh pins s σ H Q I h
  refine isTrue_or (thn (ha pins s σ H Q I h) fun c s1 e => ?_)
  cases c with
  | false => exact isTrue_or_nil e
  | true => exact e
theorem pw_and (ha : PT X a tA) (hb : PW X (.BoolOp .And (b :: rest) pos) tB') : PW X (.BoolOp .And (a :: b :: rest) pos) (tAnd tA tB') := by
  intro wh pins s σ H Q I h
  refine isTrue_and (thn (ha pins s σ H _ I h) fun c s1 hz2 => ?_)
  obtain ⟨H1, I1, q1⟩ := hz2
  cases c with
  | true => exact hb wh pins s1 σ H1 Q I1 q1
  | false => exact ⟨H1, I1, q1⟩
theorem pw_or (ha : PT X a tA) (hb : PW X (.BoolOp .Or (b :: rest) pos) tB') : PW X (.BoolOp .Or (a :: b :: rest) pos) (tOr tA tB') := by
  intro wh pins s σ H Q I h
  refine isTrue_or (thn (ha pins s σ H _ I h) fun c s1 hz3 => ?_)
  obtain ⟨H1, I1, q1⟩ := hz3
  cases c with
  | true => exact ⟨H1, I1, q1⟩
  | false => exact hb wh pins s1 σ H1 Q I1 q1
theorem pt_not (ha : PT X a tA) : PT X (.UnaryOp .Not a pos) (tNot tA) := by
  intro pins s σ H Q I h
  exact isTrue_not (ha pins s σ H (fun c H1 => Q (!c) H1) I h)
noncomputable def tAndV (ta tb : TE) : TE := fun σ H Q => ta σ H fun x H1 => ∃ c, x = .bl c ∧ if c = true then tb σ H1 Q else Q (.bl false) H1
noncomputable def tOrV (ta tb : TE) : TE := fun σ H Q => ta σ H fun x H1 => ∃ c, x = .bl c ∧ if c = true then Q (.bl true) H1 else tb σ H1 Q
noncomputable def tNotV (ta : TE) : TE := fun σ H Q => ta σ H fun x H1 => ∃ c, x = .bl c ∧ Q (.bl (!c)) H1
theorem pe_one {op} {t : TE} (h : PE X a t) : PE X (.BoolOp op [a] pos) t := fun pins s σ H Q I hw => BoolOp_one (h pins s σ H Q I hw)
theorem pe_and (ha : PE X a ta) (hb : PE X (.BoolOp .And (b :: rest) pos) tb) : PE X (.BoolOp .And (a :: b :: rest) pos) (tAndV ta tb) := by
  intro pins s σ H Q I h
  refine BoolOp_and (thn (ha pins s σ H _ I h) fun v s1 hz4 => ?_)
  obtain ⟨x, H1, I1, r1, q1⟩ := hz4
  obtain ⟨c, rfl, q1⟩ := q1
  cases r1
  refine wpAny_truthy_bool ?_
  cases c with
  | true => exact hb pins s1 σ H1 Q I1 q1
  | false => exact ⟨.bl false, H1, I1, rfl, q1⟩
theorem pe_or (ha : PE X a ta) (hb : PE X (.BoolOp .Or (b :: rest) pos) tb) : PE X (.BoolOp .Or (a :: b :: rest) pos) (tOrV ta tb) := by
  intro pins s σ H Q I h
  refine BoolOp_or (thn (ha pins s σ H _ I h) fun v s1 hz5 => ?_)
  obtain ⟨x, H1, I1, r1, q1⟩ := hz5
  obtain ⟨c, rfl, q1⟩ := q1
  cases r1
  refine wpAny_truthy_bool ?_
  cases c with
  | false => exact hb pins s1 σ H1 Q I1 q1
  | true => exact ⟨.bl true, H1, I1, rfl, q1⟩
theorem pe_not (ha : PE X a ta) : PE X (.UnaryOp .Not a pos) (tNotV ta) := by
  intro pins s σ H Q I h
  refine UnaryOp_ (thn (ha pins s σ H _ I h) fun v s1 hz6 => ?_)
  obtain ⟨x, H1, I1, r1, q1⟩ := hz6
  obtain ⟨c, rfl, q1⟩ := q1
  cases r1
  exact not_of (wpAny_truthy_bool ⟨.bl (!c), H1, I1, rfl, q1⟩)
noncomputable def tIf (t : TT) (ta tb : TE) : TE := fun σ H Q => t σ H fun c H1 => if c = true then ta σ H1 Q else tb σ H1 Q
end
end L2

namespace L2
open PySem PySem.Spec PyProof.Rows

/-! ### a list, a tuple that is read: tracked, frozen, or an object of the module -/
noncomputable def SqL (K : PySem.W.Frag) (H : Hp) (a : Addr) (xs : List V) : Prop :=
  Rd H a (.lst xs) ∨
    ∃ (o : Obj) (its : Array Value) (n : Nat), K.lookup a = some o ∧ o.cls = .type "list" ∧ o.dict = none ∧ o.data = .seq its n ∧ its.size ≤ sizeLine ∧ Vals xs its.toList
noncomputable def SqT (K : PySem.W.Frag) (H : Hp) (a : Addr) (xs : List V) : Prop :=
  Rd H a (.tup xs) ∨
    ∃ (o : Obj) (its : Array Value) (n : Nat), K.lookup a = some o ∧ o.cls = .type "tuple" ∧ o.data = .seq its n ∧ its.size ≤ sizeLine ∧ Vals xs its.toList
noncomputable def absV : Value → Option V
  | .none => some .non
  | .bool b => some (.bl b)
  | .int i _ => some (.int i)
  | .str x _ => some (.str x)
  | .bytes b _ => some (.byt b)
  | .float b _ => some (.flt b)
  | .ref a => some (.ref a)
  | .type n => some (.ty n)
  | _ => none
theorem RelV.abs {x : V} {u : Value} (r : RelV x u) : absV u = some x := by
  cases x with
  | non => cases r; rfl
  | bl _ => cases r; rfl
  | int _ => obtain ⟨t, rfl⟩ := r; rfl
  | str _ => obtain ⟨t, rfl⟩ := r; rfl
  | byt _ => obtain ⟨t, rfl⟩ := r; rfl
  | flt _ => obtain ⟨t, rfl⟩ := r; rfl
  | ref _ => cases r; rfl
  | ty _ => cases r; rfl
theorem RelV.inj {x y : V} {u : Value} (r : RelV x u) (q : RelV y u) : x = y := Option.some.inj (r.abs.symm.trans q.abs)
theorem Vals.inj : ∀ {xs ys : List V} {us : List Value}, Vals xs us → Vals ys us → xs = ys := by
  intro xs ys us h
  induction h generalizing ys with
  | nil =>
    intro h2
    cases h2
    rfl
  | cons r t ih =>
    intro h2
    cases h2 with
    | cons r' t' => rw [r.inj r', ih t']
section
variable {X : Cx} {pins : List (Addr × Obj)} {σ : St} {H : Hp} {s : Shared} {a : Addr} {xs ys : List V}
theorem SqL.of {K : PySem.W.Frag} (h : H a = some (.lst xs)) : SqL K H a xs := .inl (.inl h)
theorem SqT.of {K : PySem.W.Frag} (h : H a = some (.tup xs)) : SqT K H a xs := .inl (.inl h)
theorem Inv.list (I : Inv X pins σ H s) (h : SqL X.K H a xs) : ∃ its : List Value, Vals xs its ∧ PlainL s.heap a its.toArray ∧ xs.length ≤ sizeLine := by
  rcases h with h | ⟨o, its, n, hk, hc, hd, hs, hz, r⟩
  · obtain ⟨z, its, n, r, e⟩ := h.ok I.hok
    exact ⟨its, r, ⟨_, n, e, rfl, rfl, rfl⟩, z⟩
  · refine ⟨its.toList, r, ⟨o, n, I.kIn a o hk, hc, hd, by simpa using hs⟩, ?_⟩
    have e := r.length
    simp only [Array.length_toList] at e
    (first | lia | omega)
theorem Inv.tuple (I : Inv X pins σ H s) (h : SqT X.K H a xs) : ∃ its : List Value, Vals xs its ∧ IsTup s.heap a its.toArray ∧ xs.length ≤ sizeLine := by
  rcases h with h | ⟨o, its, n, hk, hc, hs, hz, r⟩
  · obtain ⟨z, its, r, p⟩ := h.ok I.hok
    exact ⟨its, r, p, z⟩
  · refine ⟨its.toList, r, ⟨o, I.kIn a o hk, hc, n, by simpa using hs⟩, ?_⟩
    have e := r.length
    simp only [Array.length_toList] at e
    (first | lia | omega)
theorem Inv.list_inj (I : Inv X pins σ H s) (h : SqL X.K H a xs) (h' : SqL X.K H a ys) : xs = ys := by
  obtain ⟨its, r, ⟨o, n, e, _, _, d⟩, _⟩ := I.list h
  obtain ⟨its', r', ⟨o', n', e', _, _, d'⟩, _⟩ := I.list h'
  rw [e] at e'; cases e'
  rw [d] at d'
  injection d' with d1 _
  have : its = its' := by simpa using congrArg Array.toList d1
  subst this
  exact r.inj r'
theorem Inv.tuple_inj (I : Inv X pins σ H s) (h : SqT X.K H a xs) (h' : SqT X.K H a ys) : xs = ys := by
  obtain ⟨its, r, ⟨o, e, _, n, d⟩, _⟩ := I.tuple h
  obtain ⟨its', r', ⟨o', e', _, n', d'⟩, _⟩ := I.tuple h'
  rw [e] at e'; cases e'
  rw [d] at d'
  injection d' with d1 _
  have : its = its' := by simpa using congrArg Array.toList d1
  subst this
  exact r.inj r'
end

/-! ### another wish about exceptions -/
noncomputable abbrev Cx.wish (X : Cx) (E : Value → Shared → Prop) : Cx := { X with xe := E }
noncomputable abbrev Cx.nox (X : Cx) : Cx := X.wish fun _ _ => False
theorem Cx.Ok.wish {X : Cx} (ok : X.Ok) (E : Value → Shared → Prop) : (X.wish E).Ok :=
  ⟨ok.mod, ok.kind, ok.glob, ok.blt, ok.above, ok.inj, ok.has, ok.cab, ok.hd, ok.frames, ok.stk, ok.exf, ok.bs, ok.bsz, ok.noex, ok.exfs, ok.funs, ok.frf⟩
theorem Cx.Ok.unwish {X : Cx} {E : Value → Shared → Prop} (ok : (X.wish E).Ok) : X.Ok :=
  ⟨ok.mod, ok.kind, ok.glob, ok.blt, ok.above, ok.inj, ok.has, ok.cab, ok.hd, ok.frames, ok.stk, ok.exf, ok.bs, ok.bsz, ok.noex, ok.exfs, ok.funs, ok.frf⟩
section
variable {X : Cx} {pins : List (Addr × Obj)} {σ : St} {H : Hp} {s : Shared} {E : Value → Shared → Prop}
theorem Inv.wish (I : Inv X pins σ H s) (E : Value → Shared → Prop) : Inv (X.wish E) pins σ H s := ⟨I.ok.wish E, I.os, I.bare, I.base, I.loc, I.cell, I.free, I.freeC, I.pin, I.hok, I.len⟩
theorem Inv.unwish (I : Inv (X.wish E) pins σ H s) : Inv X pins σ H s := ⟨I.ok.unwish, I.os, I.bare, I.base, I.loc, I.cell, I.free, I.freeC, I.pin, I.hok, I.len⟩
theorem SP.unwish {D : Ends} {f : Flow} {s' : Shared} (h : SP (X.wish E) pins D f s') : SP X pins D f s' := by
  cases f with
  | next => obtain ⟨σ', H', I, q⟩ := h; exact ⟨σ', H', I.unwish, q⟩
  | brk => obtain ⟨σ', H', I, q⟩ := h; exact ⟨σ', H', I.unwish, q⟩
  | cont => obtain ⟨σ', H', I, q⟩ := h; exact ⟨σ', H', I.unwish, q⟩
  | ret u => obtain ⟨v, σ', H', I, r, q⟩ := h; exact ⟨v, σ', H', I.unwish, r, q⟩
theorem PSs.nox {st : List Stmt} {t : TS} (h : PSs X.nox st t) : PSs X st t := fun pins s σ H D I hw =>
  wpAny_mono (h pins s σ H D (I.wish _) hw) (fun _ _ q => q.unwish) fun _ _ z => False.elim z
end

/-! ### blocks and small statements -/
section
variable {X : Cx} {st : Stmt} {rest : List Stmt} {t u : TS} {e : Expr} {te : TE} {pos : Pos}
noncomputable def tNext : TS := fun D σ H => D.nx σ H
noncomputable def tSeq (t u : TS) : TS := fun D σ H => t { D with nx := u D } σ H
theorem pss_nil : PSs X [] tNext := fun _ _ σ H _ I h => wpAny_execs_nil ⟨σ, H, I, h⟩
theorem pss_cons (h1 : PS X st t) (h2 : PSs X rest u) : PSs X (st :: rest) (tSeq t u) := by
  intro pins s σ H D I h
  refine wpAny_execs_cons (thn (h1 pins s σ H { D with nx := u D } I h) fun f s1 q => ?_)
  cases f with
  | next =>
    obtain ⟨σ', H', I', q⟩ := q
    exact h2 pins s1 σ' H' D I' q
  | ret v => exact q
  | brk => exact q
  | cont => exact q
theorem pss_one (h1 : PS X st t) : PSs X [st] t := by
  intro pins s σ H D I h
  refine wpAny_execs_cons (thn (h1 pins s σ H D I h) fun f s1 q => ?_)
  cases f with
  | next => exact wpAny_execs_nil q
  | ret v => exact q
  | brk => exact q
  | cont => exact q
noncomputable def tBreak : TS := fun D σ H => D.bk σ H
noncomputable def tCont : TS := fun D σ H => D.ct σ H
theorem Inv.quiet {pins : List (Addr × Obj)} {σ : St} {H : Hp} {s : Shared} (I : Inv X pins σ H s) : interactive X.env = false := by simp [interactive, I.ok.kind]
noncomputable def tDrop (te : TE) : TS := fun D σ H => te σ H fun _ H1 => D.nx σ H1
theorem ps_expr (he : PE X e te) (hs : swapsWith e none pos.line X.env = pure false := by rfl) : PS X (.Expr e pos) (tDrop te) := by
  intro pins s σ H D I h
  exact wpAny_Expr_any (thn (he pins s σ H _ I h) fun v s1 ⟨x, H1, I1, r1, q1⟩ => ⟨σ, H1, I1, q1⟩) I.quiet hs
noncomputable def tRet (te : TE) : TS := fun D σ H => te σ H D.rt
theorem ps_ret (he : PE X e te) : PS X (.Return (some e) pos) (tRet te) := by
  intro pins s σ H D I h
  exact wpAny_Return_some (thn (he pins s σ H _ I h) fun v s1 ⟨x, H1, I1, r1, q1⟩ => ⟨x, σ, H1, I1, r1, q1⟩)
noncomputable def tRetN : TS := fun D _ H => D.rt .non H
noncomputable def tIfS (c : TT) (t u : TS) : TS := fun D σ H => c σ H fun b H1 => if b = true then t D σ H1 else u D σ H1
theorem ps_if {c : Expr} {a b : List Stmt} {tc : TT} (hc : PT X c tc) (ha : PSs X a t) (hb : PSs X b u) : PS X (.If c a b pos) (tIfS tc t u) := by
  intro pins s σ H D I h
  refine wpAny_If (thn (hc pins s σ H _ I h) fun d s1 hz7 => ?_)
  obtain ⟨H1, I1, q1⟩ := hz7
  cases d with
  | true => exact ha pins s1 σ H1 D I1 q1
  | false => exact hb pins s1 σ H1 D I1 q1
noncomputable def tNever : TS := fun _ _ _ => False
end

/-! ### targets -/
noncomputable abbrev TG := V → St → Hp → (St → Hp → Prop) → Prop
noncomputable abbrev TGs := List V → St → Hp → (St → Hp → Prop) → Prop
noncomputable def PG (X : Cx) (target : Expr) (t : TG) : Prop :=
  ∀ (pins : List (Addr × Obj)) (s : Shared) (σ : St) (H : Hp) (v : V) (u : Value) (Q : St → Hp → Prop), Inv X pins σ H s → RelV v u → t v σ H Q →
    wpAny (model X.prog X.w) X.A (assign target X.env u) (fun _ s' => ∃ σ' H', Inv X pins σ' H' s' ∧ Q σ' H') X.xe s
noncomputable def PGs (X : Cx) (ts : List Expr) (t : TGs) : Prop :=
  ∀ (pins : List (Addr × Obj)) (s : Shared) (σ : St) (H : Hp) (vs : List V) (us : List Value) (Q : St → Hp → Prop), Inv X pins σ H s → Vals vs us → t vs σ H Q →
    wpAny (model X.prog X.w) X.A (assignInOrder ((assignEach ts X.env).map (·.2)) us) (fun _ s' => ∃ σ' H', Inv X pins σ' H' s' ∧ Q σ' H') X.xe s
noncomputable abbrev TSet := V → V → V → Hp → (Hp → Prop) → Prop
noncomputable def PSet (X : Cx) (t : TSet) : Prop :=
  ∀ (pins : List (Addr × Obj)) (s : Shared) (σ : St) (H : Hp) (o i v : V) (ov iv u : Value) (Q : Hp → Prop), Inv X pins σ H s → RelV o ov → RelV i iv → RelV v u → t o i v H Q →
    wpAny (model X.prog X.w) X.A (setItem ov iv u) (fun _ s' => ∃ H', Inv X pins σ H' s' ∧ Q H') X.xe s
noncomputable abbrev TIp := V → V → Hp → VK → Prop
noncomputable def PIp (X : Cx) (op : Operator) (t : TIp) : Prop :=
  ∀ (pins : List (Addr × Obj)) (s : Shared) (σ : St) (H : Hp) (x y : V) (v u : Value) (Q : VK), Inv X pins σ H s → RelV x v → RelV y u → t x y H Q →
    wpAny (model X.prog X.w) X.A (inplaceOp op v u) (EP X pins σ Q) X.xe s
section
variable {X : Cx} {pos : Pos}
noncomputable def gName (i : Nat) : TG := fun v σ H Q => Q (σ.set i (some v)) H
theorem pg_name {i : Nat} {x : Str} (hN : X.N.Nodup) (hi : X.N[i]? = some x) (hx : Loc X.env.scope x) (hf : X.fn x = true ∨ X.env.scope.names.lookup x = some .local := by first | exact .inl rfl | exact .inr rfl | assumption) : PG X (.Name x pos) (gName i) := by
  intro pins s σ H v u Q I r h
  exact wpAny_assign_Name (store_ok I hN hi hx r (fun s' I' => ⟨_, H, I', h⟩) hf)
noncomputable def gNil : TGs := fun vs σ H Q => vs = [] ∧ Q σ H
noncomputable def gCons (t : TG) (u : TGs) : TGs := fun vs σ H Q => ∃ v r, vs = v :: r ∧ t v σ H fun σ' H' => u r σ' H' Q
theorem pgs_nil : PGs X [] gNil := by
  intro pins s σ H vs us Q I r h
  obtain ⟨e, h⟩ := h
  subst e
  cases r
  exact assignInOrder_nil ⟨σ, H, I, h⟩
theorem pgs_cons {e : Expr} {es : List Expr} {t : TG} {u : TGs} (h1 : PG X e t) (h2 : PGs X es u)
    (hs : (assignEach (e :: es) X.env).map (·.2) = assign e X.env :: (assignEach es X.env).map (·.2) := by rfl) : PGs X (e :: es) (gCons t u) := by
  intro pins s σ H vs us Q I r h
  obtain ⟨v, vr, e1, h⟩ := h
  subst e1
  cases r with
  | cons r rr =>
    rw [hs]
    refine assignInOrder_cons (thn (h1 pins s σ H _ _ _ I r h) fun _ s1 hz8 => ?_)
    obtain ⟨σ1, H1, I1, q1⟩ := hz8
    exact h2 pins s1 σ1 H1 _ _ Q I1 rr q1
noncomputable def gTup (K : PySem.W.Frag) (n : Nat) (t : TGs) : TG := fun v σ H Q => ∃ a xs, v = .ref a ∧ SqT K H a xs ∧ xs.length = n ∧ t xs σ H Q
theorem pg_tup {es : List Expr} {k : Nat} {t : TGs} {n : Nat} (hc : X.calm = true) (h : PGs X es t)
    (hn : (assignEach es X.env).length = n := by rfl) (hst : (assignEach es X.env).findIdx? (·.1) = none := by rfl) : PG X (.Tuple es k pos) (gTup X.K n t) := by
  intro pins s σ H v u Q I r hw
  obtain ⟨a, xs, e1, hq, hl, hw⟩ := hw
  subst e1
  cases r
  obtain ⟨its, rv, ht, hz⟩ := I.tuple hq
  refine assign_Tuple_tuple (I.ok.hd hc) ht (by simp [hn, ← hl, rv.length]) hst fun h' hx => ?_
  have I1 : Inv X pins σ H { s with heap := h' } := I.kept (t' := s.toks) fun b o e => hx b o (Nat.ne_of_lt (Heap.lt_size e)) e
  exact h pins _ σ H xs _ Q I1 (by simpa using rv) hw
noncomputable def gSub (to ti : TE) (t : TSet) : TG := fun v σ H Q => to σ H fun o H1 => ti σ H1 fun i H2 => t o i v H2 fun H3 => Q σ H3
theorem pg_sub {o i : Expr} {to ti : TE} {t : TSet} (ho : PE X o to) (hi : PE X i ti) (hs : PSet X t)
    (ha : ∀ v, assign (.Subscript o i pos) X.env v = (do
      let ov ← holding [v] (eval o X.env)
      let iv ← holding [v, ov] (eval i X.env)
      standAt pos
      holding [v, ov, iv] (setItem ov iv v)
      release [v, ov, iv] []) := by intro _; rfl) : PG X (.Subscript o i pos) (gSub to ti t) := by
  intro pins s σ H v u Q I r h
  rw [ha]
  refine wpAny_bind (wpAny_holding (thn (ho pins s σ H _ I h) fun ov s1 hz9 => ?_))
  obtain ⟨x, H1, I1, r1, q1⟩ := hz9
  refine wpAny_bind (wpAny_holding (thn (hi pins s1 σ H1 _ I1 q1) fun iv s2 hz10 => ?_))
  obtain ⟨y, H2, I2, r2, q2⟩ := hz10
  refine wpAny_bind (wpAny_standAt (wpAny_bind (wpAny_holding (thn (hs pins s2 σ H2 x y v ov iv u _ I2 r1 r2 r q2) fun _ s3 hz11 => ?_))))
  obtain ⟨H3, I3, q3⟩ := hz11
  exact wpAny_release ⟨σ, H3, I3, q3⟩
noncomputable def tAsg (te : TE) (g : TG) : TS := fun D σ H => te σ H fun x H1 => g x σ H1 D.nx
theorem ps_asg {tg e : Expr} {te : TE} {g : TG} (he : PE X e te) (hg : PG X tg g) (hs : swapsWithSole [tg] e pos.line X.env = pure false := by rfl) (hw : swappedStores [tg] e X.env = pure none := by rfl)
    (h1 : (assignEach [tg] X.env).map (·.2) = [assign tg X.env] := by rfl) : PS X (.Assign [tg] e pos) (tAsg te g) := by
  intro pins s σ H D I h
  refine wpAny_Assign_stores (thn (he pins s σ H _ I h) fun v s1 hz12 => ?_) hs hw
  obtain ⟨x, H1, I1, r1, q1⟩ := hz12
  rw [h1]
  exact thn (hg pins s1 σ H1 x v _ I1 r1 q1) fun _ s2 q => q
theorem ps_set {i : Nat} {x : Str} {e : Expr} {te : TE} {pos' : Pos} (hN : X.N.Nodup) (hi : X.N[i]? = some x) (hx : Loc X.env.scope x) (he : PE X e te) (hs : swapsWith e (some (.Name x pos')) pos.line X.env = pure false := by rfl) (hf : X.fn x = true ∨ X.env.scope.names.lookup x = some .local := by first | exact .inl rfl | exact .inr rfl | assumption) :
    PS X (.Assign [.Name x pos'] e pos) (tAsg te (gName i)) := by
  intro pins s σ H D I h
  refine wpAny_Assign_Name (thn (he pins s σ H _ I h) fun v s1 hz13 => ?_) hs
  obtain ⟨y, H1, I1, r1, q1⟩ := hz13
  exact store_ok I1 hN hi hx r1 (fun s2 I2 => ⟨_, H1, I2, q1⟩) hf
noncomputable def tPar (i j : Nat) (ta : TA) : TS := fun D σ H => ta σ H fun vs H1 => ∃ v w, vs = [v, w] ∧ D.nx ((σ.set i (some v)).set j (some w)) H1
noncomputable def tAug (i : Nat) (te : TE) (ti : TIp) : TS := fun D σ H => ∃ x, σ[i]? = some (some x) ∧ te σ H fun y H1 => ti x y H1 fun z H2 => D.nx (σ.set i (some z)) H2
theorem ps_aug {i : Nat} {x : Str} {e : Expr} {te : TE} {op : Operator} {ti : TIp} {pos' : Pos} (hN : X.N.Nodup) (hi : X.N[i]? = some x) (hx : Loc X.env.scope x) (he : PE X e te) (ho : PIp X op ti) (hf : X.fn x = true ∨ X.env.scope.names.lookup x = some .local := by first | exact .inl rfl | exact .inr rfl | assumption) :
    PS X (.AugAssign (.Name x pos') op e pos) (tAug i te ti) := by
  intro pins s σ H D I h
  obtain ⟨v, e1, h⟩ := h
  obtain ⟨m, hn, hl⟩ := I.loc
  have vis : Vis X.env.scope x := by rcases hx with k | k; exact .inl k; exact .inr (.inl k)
  obtain ⟨u, r, l⟩ := hl i x v hi e1 vis
  refine wpAny_AugAssign_Name ?_
  have go : wpAny (model X.prog X.w) X.A (eval e X.env) (fun w s₂ => wpAny (model X.prog X.w) X.A (inplaceOp op u w) (fun r s₃ => wpAny (model X.prog X.w) X.A (storeName X.env x r) (fun _ => SP X pins D .next) X.xe s₃) X.xe s₂) X.xe s := by
    refine thn (he pins s σ H _ I h) fun w s1 hz14 => ?_
    obtain ⟨y, H1, I1, r1, q1⟩ := hz14
    refine thn (ho pins s1 σ H1 v y u w _ I1 r r1 q1) fun z s2 hz15 => ?_
    obtain ⟨zv, H2, I2, r2, q2⟩ := hz15
    exact store_ok I2 hN hi hx r2 (fun s3 I3 => ⟨_, H2, I3, q2⟩) hf
  rcases l with ⟨hk, hm⟩ | ⟨hk, c, hc, hcell⟩
  · exact wpAny_loadName_local I.ok.kind hk hn hm go
  · rcases hk with hk | hk
    · exact wpAny_loadName_cell I.ok.kind hk hc hcell go
    · rcases hx with k | k
      · have : X.env.scope.names.lookup x = some .free := hk
        rw [k] at this; cases this
      · have : X.env.scope.names.lookup x = some .free := hk
        rw [k] at this; cases this
noncomputable def tAugS (to ti te : TE) (tget : V → V → Hp → VK → Prop) (tip : TIp) (tset : TSet) : TS := fun D σ H => to σ H fun o H1 => ti σ H1 fun i H2 => tget o i H2 fun x H3 => te σ H3 fun y H4 => tip x y H4 fun z H5 => tset o i z H5 fun H6 => D.nx σ H6
noncomputable def PGet (X : Cx) (t : V → V → Hp → VK → Prop) : Prop :=
  ∀ (pins : List (Addr × Obj)) (s : Shared) (σ : St) (H : Hp) (o i : V) (ov iv : Value) (Q : VK), Inv X pins σ H s → RelV o ov → RelV i iv → t o i H Q →
    wpAny (model X.prog X.w) X.A (getItem ov iv) (EP X pins σ Q) X.xe s
noncomputable def ipI (f : Int → Int → Int) : TIp := fun x y H Q => ∃ i j, x = .int i ∧ y = .int j ∧ Q (.int (f i j)) H
theorem ip_add : PIp X .Add (ipI fun i j => i + j) := by
  intro pins s σ H x y v u Q I r1 r2 h
  obtain ⟨i, j, e1, e2, q⟩ := h
  subst e1; subst e2
  obtain ⟨t, rfl⟩ := r1
  obtain ⟨t', rfl⟩ := r2
  exact iadd_int ⟨.int _, H, I.tok _, ⟨_, rfl⟩, q⟩
end

/-! ### while -/
section
variable {X : Cx} {pos : Pos}
noncomputable def tWhile (c : TT) (tb : TS) : TS := fun D σ H => ∃ W : Nat → St → Hp → Prop, (∃ m, W m σ H) ∧ ∀ m σ H, W m σ H →
  c σ H fun b H1 => if b = true then ∃ N : St → Hp → Prop, (∀ σ' H', N σ' H' → ∃ m', m' < m ∧ W m' σ' H') ∧ tb { D with nx := N, ct := N, bk := D.nx } σ H1 else D.nx σ H1
theorem ps_while {c : Expr} {body : List Stmt} {tc : TT} {tb : TS} (hp : PassesOwn (model X.prog X.w) X.A X.env X.xe) (hc : PT X c tc) (hb : PSs X body tb) : PS X (.While c body [] pos) (tWhile tc tb) := by
  intro pins s σ H D I h
  obtain ⟨W, ⟨m0, w0⟩, turn⟩ := h
  refine wpAny_While (codeAny_whileLoop (fun n s' => ∃ σ' H', Inv X pins σ' H' s' ∧ W n σ' H') ?_ m0 ⟨σ, H, I, w0⟩)
  rintro n s1 ⟨σ1, H1, I1, w1⟩
  refine wpAny_passesOwn hp (thn (hc pins s1 σ1 H1 _ I1 (turn n σ1 H1 w1)) fun b s2 hz16 => ?_)
  obtain ⟨H2, I2, q2⟩ := hz16
  cases b with
  | true =>
    obtain ⟨N, hN, q2⟩ := q2
    rw [if_pos rfl]
    refine wpAny_passesOwn hp (thn (hb pins s2 σ1 H2 _ I2 q2) fun f s3 q3 => ?_)
    cases f with
    | next =>
      obtain ⟨σ3, H3, I3, n3⟩ := q3
      obtain ⟨m', hm, w3⟩ := hN σ3 H3 n3
      exact ⟨m', hm, σ3, H3, I3, w3⟩
    | cont =>
      obtain ⟨σ3, H3, I3, n3⟩ := q3
      obtain ⟨m', hm, w3⟩ := hN σ3 H3 n3
      exact ⟨m', hm, σ3, H3, I3, w3⟩
    | brk => exact q3
    | ret v => exact q3
  | false =>
    rw [if_neg Bool.false_ne_true]
    exact wpAny_execs_nil ⟨σ1, H2, I2, q2⟩
end

/-! ### what a loop or a comprehension walks -/
set_option genInjectivity false in
set_option genSizeOf false in
structure It where
  go : Nat → Hp → Prop
  yld : Nat → Hp → V → Hp → Prop
  stop : Nat → Hp → Prop
noncomputable def FpOk (X : Cx) (pins : List (Addr × Obj)) (H : Hp) (b : Addr) : Prop :=
  H b = none ∧ b ≠ X.env.locals ∧ b ∉ X.fs ∧ (b ∈ X.ex ∨ X.s₀.heap.objs.size ≤ b) ∧ (∀ x c, X.env.cells.lookup x = some c → c ≠ b) ∧ ∀ p ∈ X.pn ++ pins, p.1 ≠ b
theorem Inv.fpOk {X : Cx} {pins : List (Addr × Obj)} {σ : St} {H H' : Hp} {s : Shared} {b : Addr} (I : Inv X pins σ H s) (hb : s.heap.objs.size ≤ b) (hn : H' b = none) : FpOk X pins H' b := by
  refine ⟨hn, Nat.ne_of_gt (Nat.lt_of_lt_of_le I.lt hb), I.nofs hb, .inr (Nat.le_trans I.sz hb), fun x c e z => ?_, fun p hp z => ?_⟩
  · obtain ⟨v, q⟩ := I.cell x c e
    exact absurd (Nat.lt_of_lt_of_le q.lt (by rw [z]; exact hb)) (Nat.lt_irrefl _)
  · exact absurd (Nat.lt_of_lt_of_le (Heap.lt_size (I.pin p hp).1) (by rw [z]; exact hb)) (Nat.lt_irrefl _)
structure Turn (P : Program) (w : World) (K : PySem.W.Frag) (tg : Expr) (J : It) (fp : List Addr) (it : Addr) (tn : Nat → Heap → Prop) : Prop where
  mem : it ∈ fp
  obj : ∀ i h, tn i h → ∀ b ∈ fp, ∃ o, h.get? b = some o ∧ ∀ v, o.data ≠ .cell v
  keep : ∀ i h h', tn i h → (∀ b ∈ fp, ∀ o, h.get? b = some o → h'.get? b = some o) → tn i h'
  item : ∀ (X : Cx), X.prog = P → X.w = w → X.K = K → X.calm = true → ∀ (i : Nat) (pins : List (Addr × Obj)) (s : Shared) (σ : St) (H : Hp) (E : Value → Shared → Prop), Inv X pins σ H s → (∀ b ∈ fp, FpOk X pins H b) → tn i s.heap → J.go i H →
    wpAny (model P w) X.A (pyNext (.ref it)) (fun r s1 => ∃ u, r = some u ∧
      wpAny (model P w) X.A (letOwnedTupleGo tg (.ref it) u) (fun _ s2 => ∃ x H', Inv X pins σ H' s2 ∧ RelV x u ∧ J.yld i H x H' ∧ tn (i + 1) s2.heap ∧ ∀ b ∈ fp, H' b = none) E s1) E s
  done : ∀ (X : Cx), X.prog = P → X.w = w → X.K = K → X.calm = true → ∀ (i : Nat) (pins : List (Addr × Obj)) (s : Shared) (σ : St) (H : Hp) (E : Value → Shared → Prop), Inv X pins σ H s → (∀ b ∈ fp, FpOk X pins H b) → tn i s.heap → J.stop i H →
    wpAny (model P w) X.A (pyNext (.ref it)) (fun r s1 => r = none ∧ Inv X pins σ H s1) E s
  self : ∀ (A : Around) (i : Nat) (s : Shared) (Q : Value → Shared → Prop) (E : Value → Shared → Prop), tn i s.heap → Q (.ref it) s → wpAny (model P w) A (pyIter (.ref it)) Q E s
noncomputable abbrev TI := St → Hp → (It → Hp → Prop) → Prop
noncomputable def PIE (X : Cx) (pins : List (Addr × Obj)) (σ : St) (tg : Expr) (R : It → Hp → Prop) (itv : Value) (s2 : Shared) : Prop :=
  ∃ (it : Addr) (fp : List Addr) (tn : Nat → Heap → Prop) (J : It) (H' : Hp), itv = .ref it ∧ Inv X pins σ H' s2 ∧ Turn X.prog X.w X.K tg J fp it tn ∧ tn 0 s2.heap ∧ (∀ b ∈ fp, FpOk X pins H' b) ∧ R J H'
noncomputable def PI (X : Cx) (tg iter : Expr) (wi : TI) : Prop :=
  ∀ (pins : List (Addr × Obj)) (s : Shared) (σ : St) (H : Hp) (R : It → Hp → Prop), Inv X pins σ H s → wi σ H R →
    wpAny (model X.prog X.w) X.A (eval iter X.env) (fun v s1 => wpAny (model X.prog X.w) X.A (pyIter v) (PIE X pins σ tg R) X.xe s1) X.xe s

theorem go_of {M : Model} {A : Around} {E : Value → Shared → Prop} {s : Shared} {tg : Expr} {it : Addr} {u : Value} {o : Obj} {n : String} {vs : Array Value} {Q : Unit → Shared → Prop} (ho : s.heap.get? it = some o) (hc : o.cls = .type n) (hd : o.data = .fields vs)
    (hn : ["enumerate", "zip", "dict_itemiterator", "dict_reverseitemiterator", "odict_iterator", "itertools.zip_longest", "itertools.pairwise"].contains n = false) (hQ : Q () s) : wpAny M A (letOwnedTupleGo tg (.ref it) u) Q E s := by
  unfold letOwnedTupleGo
  cases tg <;> first
    | exact wpAny_pure hQ
    | (cases u <;> first
        | exact wpAny_pure hQ
        | (refine wpAny_bind (wpAny_load ho ?_)
           rw [hc, hd]
           show wpAny M A (if (["enumerate", "zip", "dict_itemiterator", "dict_reverseitemiterator", "odict_iterator", "itertools.zip_longest", "itertools.pairwise"].contains n && vs[0]? == some (rawInt _)) = true then _ else _) Q E s
           rw [if_neg (by intro h; rw [hn, Bool.false_and] at h; cases h)]
           exact wpAny_pure hQ))

noncomputable def Itl (K : PySem.W.Frag) (a : Addr) : It :=
  ⟨fun i H => ∃ xs x, SqL K H a xs ∧ xs[i]? = some x, fun i H x H' => H' = H ∧ ∀ xs, SqL K H a xs → xs[i]? = some x, fun i H => ∃ xs, SqL K H a xs ∧ xs.length ≤ i⟩
noncomputable def Itt (K : PySem.W.Frag) (a : Addr) : It :=
  ⟨fun i H => ∃ xs x, SqT K H a xs ∧ xs[i]? = some x, fun i H x H' => H' = H ∧ ∀ xs, SqT K H a xs → xs[i]? = some x, fun i H => ∃ xs, SqT K H a xs ∧ xs.length ≤ i⟩
noncomputable def Itr (lo : Int) (n : Nat) : It := ⟨fun i _ => i < n, fun i H x H' => H' = H ∧ x = .int (lo + i), fun i _ => n ≤ i⟩
theorem turn_list {P : Program} {w : World} {K : PySem.W.Frag} {tg : Expr} (a it : Addr) : Turn P w K tg (Itl K a) [it] it (fun i h => h.IsListIter it a i) where
  mem := by simp
  obj := fun i h st b hb => by
    have e : b = it := by simpa using hb
    subst e
    obtain ⟨o, e, c, d⟩ := st
    exact ⟨o, e, fun v z => by rw [d] at z; cases z⟩
  keep := fun i h h' st k => st.at fun o e => k it (by simp) o e
  item := by
    intro X hP hw hK hc i pins s σ H E I hf st hg
    subst hP hw hK
    obtain ⟨xs, x, hq, hx⟩ := hg
    obtain ⟨its, rv, p, hz⟩ := I.list hq
    obtain ⟨u, hu, ru⟩ := rv.get hx
    obtain ⟨f0, f1, f2, f3, f4, f5⟩ := hf it (by simp)
    refine wpAny_pyNext_list_item st p.isList (x := u) (by simpa using hu) fun h' st' sb => ?_
    have I1 : Inv X pins σ H { s with heap := h' } := I.turned (t' := s.toks) (fun b o hb e => (sb.2 b hb).trans e) f0 f1 f3 f4 f5
    obtain ⟨o, e, c, d⟩ := id st'
    exact ⟨u, rfl, go_of (s := { s with heap := h' }) e c d (by decide) ⟨x, H, I1, ru, ⟨rfl, fun ys hy => by rw [I.list_inj hy hq]; exact hx⟩, st', fun b hb => (hf b hb).1⟩⟩
  done := by
    intro X hP hw hK hc i pins s σ H E I hf st hg
    subst hP hw hK
    obtain ⟨xs, hq, hx⟩ := hg
    obtain ⟨its, rv, p, hz⟩ := I.list hq
    obtain ⟨f0, f1, f2, f3, f4, f5⟩ := hf it (by simp)
    have hl := rv.length
    exact wpAny_pyNext_list_end (I.ok.hd hc) st p.isList (by simp; (first | lia | omega)) fun h' eb => ⟨rfl, I.turned (t' := s.toks) (fun b o hb e => eb b o hb e) f0 f1 f3 f4 f5⟩
  self := fun _ _ _ _ _ st h => wpAny_pyIter_listiter st h
theorem turn_tuple {P : Program} {w : World} {K : PySem.W.Frag} {tg : Expr} (a it : Addr) : Turn P w K tg (Itt K a) [it] it (fun i h => h.IsTupleIter it a i) where
  mem := by simp
  obj := fun i h st b hb => by
    have e : b = it := by simpa using hb
    subst e
    obtain ⟨o, e, c, d⟩ := st
    exact ⟨o, e, fun v z => by rw [d] at z; cases z⟩
  keep := fun i h h' st k => st.at fun o e => k it (by simp) o e
  item := by
    intro X hP hw hK hc i pins s σ H E I hf st hg
    subst hP hw hK
    obtain ⟨xs, x, hq, hx⟩ := hg
    obtain ⟨its, rv, p, hz⟩ := I.tuple hq
    obtain ⟨u, hu, ru⟩ := rv.get hx
    obtain ⟨f0, f1, f2, f3, f4, f5⟩ := hf it (by simp)
    refine wpAny_pyNext_tuple_item st (show s.heap.IsTuple a its.toArray from p) (x := u) (by simpa using hu) fun h' st' sb => ?_
    have I1 : Inv X pins σ H { s with heap := h' } := I.turned (t' := s.toks) (fun b o hb e => (sb.2 b hb).trans e) f0 f1 f3 f4 f5
    obtain ⟨o, e, c, d⟩ := id st'
    exact ⟨u, rfl, go_of (s := { s with heap := h' }) e c d (by decide) ⟨x, H, I1, ru, ⟨rfl, fun ys hy => by rw [I.tuple_inj hy hq]; exact hx⟩, st', fun b hb => (hf b hb).1⟩⟩
  done := by
    intro X hP hw hK hc i pins s σ H E I hf st hg
    subst hP hw hK
    obtain ⟨xs, hq, hx⟩ := hg
    obtain ⟨its, rv, p, hz⟩ := I.tuple hq
    obtain ⟨f0, f1, f2, f3, f4, f5⟩ := hf it (by simp)
    have hl := rv.length
    exact wpAny_pyNext_tuple_end (I.ok.hd hc) st (show s.heap.IsTuple a its.toArray from p) (by simp; (first | lia | omega)) fun h' eb => ⟨rfl, I.turned (t' := s.toks) (fun b o hb e => eb b o hb e) f0 f1 f3 f4 f5⟩
  self := fun _ _ _ _ _ st h => wpAny_pyIter_tupleiter st h
theorem turn_range {P : Program} {w : World} {K : PySem.W.Frag} {tg : Expr} (it : Addr) (lo : Int) (n : Nat) : Turn P w K tg (Itr lo n) [it] it (fun i h => IsRangeIter h it (lo + (i : Nat) * 1) ((n : Int) - (i : Nat)) 1) where
  mem := by simp
  obj := fun i h st b hb => by
    have e : b = it := by simpa using hb
    subst e
    exact ⟨_, st, fun v z => by
      have z' : Data.fields _ = Data.cell v := z
      cases z'⟩
  keep := fun i h h' st k => k it (by simp) _ st
  item := by
    intro X hP hw hK hc i pins s σ H E I hf st hg
    subst hP hw hK
    obtain ⟨f0, f1, f2, f3, f4, f5⟩ := hf it (by simp)
    have W := Walks.range (prog := X.prog) (w := X.w) (I.ok.hd hc) it lo 1 n
    refine W.item i s _ _ hg st fun v h' tk hv st' kk => ?_
    obtain ⟨t, rfl⟩ := hv
    have I1 : Inv X pins σ H { s with heap := h', toks := tk } := I.turned (fun b o hb e => kk b o (by simpa using hb) e) f0 f1 f3 f4 f5
    refine ⟨_, rfl, go_of (s := { s with heap := h', toks := tk }) (n := "range_iterator") st' rfl rfl (by decide) ⟨.int (lo + i), H, I1, ⟨t, ?_⟩, ⟨rfl, rfl⟩, st', fun b hb => (hf b hb).1⟩⟩
    rw [Int.mul_one]
  done := by
    intro X hP hw hK hc i pins s σ H E I hf st hg
    subst hP hw hK
    obtain ⟨f0, f1, f2, f3, f4, f5⟩ := hf it (by simp)
    exact wpAny_pyNext_range_end (I.ok.hd hc) st (by have : n ≤ i := hg; (first | lia | omega)) fun h' eb => ⟨rfl, I.turned (t' := s.toks) (fun b o hb e => eb b o hb e) f0 f1 f3 f4 f5⟩
  self := fun _ _ _ _ _ st h => wpAny_pyIter_rangeiter st h
end L2

namespace L2
open PySem PySem.Spec PyProof.Rows
section
variable {X : Cx} {tg : Expr}
noncomputable def iList (K : PySem.W.Frag) (tl : TE) : TI := fun σ H R => tl σ H fun x H1 => ∃ a, x = .ref a ∧ (∃ xs, SqL K H1 a xs) ∧ R (Itl K a) H1
noncomputable def iTup (K : PySem.W.Frag) (tl : TE) : TI := fun σ H R => tl σ H fun x H1 => ∃ a, x = .ref a ∧ (∃ xs, SqT K H1 a xs) ∧ R (Itt K a) H1
theorem pi_list {l : Expr} {tl : TE} (hl : PE X l tl) : PI X tg l (iList X.K tl) := by
  intro pins s σ H R I h
  refine thn (hl pins s σ H _ I h) fun v s1 hz17 => ?_
  obtain ⟨x, H1, I1, r1, q1⟩ := hz17
  obtain ⟨a, e, ⟨xs, hq⟩, q⟩ := q1
  subst e
  cases r1
  obtain ⟨its, rv, p, hz⟩ := I1.list hq
  refine wpAny_pyIter_list p.isList ?_
  refine ⟨s1.heap.objs.size, [s1.heap.objs.size], _, _, H1, rfl, I1.kept (t' := s1.toks) fun b o e => Heap.get?_push_of_some _ e, turn_list a _, ⟨_, Heap.get?_push_size _ rfl, rfl, rfl⟩, fun b hb => ?_, q⟩
  have e : b = s1.heap.objs.size := by simpa using hb
  subst e
  exact I1.fpOk (Nat.le_refl _) (I1.hok.fresh (Nat.le_refl _))
theorem pi_tup {l : Expr} {tl : TE} (hl : PE X l tl) : PI X tg l (iTup X.K tl) := by
  intro pins s σ H R I h
  refine thn (hl pins s σ H _ I h) fun v s1 hz18 => ?_
  obtain ⟨x, H1, I1, r1, q1⟩ := hz18
  obtain ⟨a, e, ⟨xs, hq⟩, q⟩ := q1
  subst e
  cases r1
  obtain ⟨its, rv, p, hz⟩ := I1.tuple hq
  refine wpAny_pyIter_tuple (show s1.heap.IsTuple a its.toArray from p) ?_
  refine ⟨s1.heap.objs.size, [s1.heap.objs.size], _, _, H1, rfl, I1.kept (t' := s1.toks) fun b o e => Heap.get?_push_of_some _ e, turn_tuple a _, ⟨_, Heap.get?_push_size _ rfl, rfl, rfl⟩, fun b hb => ?_, q⟩
  have e : b = s1.heap.objs.size := by simpa using hb
  subst e
  exact I1.fpOk (Nat.le_refl _) (I1.hok.fresh (Nat.le_refl _))
theorem range_it {pins : List (Addr × Obj)} {σ : St} {H : Hp} {s : Shared} {R : It → Hp → Prop} {E : Value → Shared → Prop} {lo hi : Int} {t u v : Tok} {tk : Nat} (I : Inv X pins σ H s) (h1 : -(2 ^ 62) ≤ lo) (h2 : lo < 2 ^ 62) (h3 : -(2 ^ 62) ≤ hi) (h4 : hi < 2 ^ 62)
    (q : R (Itr lo (hi - lo).toNat) H) : wpAny (model X.prog X.w) X.A (pyIter (.ref s.heap.objs.size)) (PIE X pins σ tg R) E { s with heap := s.heap.push { cls := .type "range", data := .fields #[.int lo t, .int hi u, .int 1 v] }, toks := tk } := by
  refine wpAny_pyIter_range (IsRange.new ..) (small_one h1 h2 h3 h4) ?_
  have I1 : Inv X pins σ H { s with heap := s.heap.push { cls := .type "range", data := .fields #[.int lo t, .int hi u, .int 1 v] }, toks := tk } := I.kept fun b o e => Heap.get?_push_of_some _ e
  refine ⟨(s.heap.push { cls := .type "range", data := .fields #[.int lo t, .int hi u, .int 1 v] }).objs.size, [(s.heap.push { cls := .type "range", data := .fields #[.int lo t, .int hi u, .int 1 v] }).objs.size], _, _, H, rfl,
    I1.kept (t' := tk) fun b o e => Heap.get?_push_of_some _ e, turn_range _ lo (hi - lo).toNat, ?_, fun b hb => ?_, q⟩
  · have e1 : lo + ((0 : Nat) : Int) * 1 = lo := by simp
    have e2 : (((hi - lo).toNat : Nat) : Int) - ((0 : Nat) : Int) = Builtin.Range.rangeSize lo hi 1 := by rw [rangeSize_one]; split <;> (first | lia | omega)
    show IsRangeIter _ _ (lo + ((0 : Nat) : Int) * 1) ((((hi - lo).toNat : Nat) : Int) - ((0 : Nat) : Int)) 1
    rw [e1, e2]
    exact Heap.get?_push_size _ rfl
  · have e : b = (s.heap.push { cls := .type "range", data := .fields #[.int lo t, .int hi u, .int 1 v] }).objs.size := by simpa using hb
    subst e
    exact I1.fpOk (Nat.le_refl _) (I1.hok.fresh (Nat.le_refl _))
noncomputable def iRng1 (ta : TA) : TI := fun σ H R => ta σ H fun vs H1 => ∃ j : Int, vs = [.int j] ∧ -(2 ^ 62) ≤ j ∧ j < 2 ^ 62 ∧ R (Itr 0 j.toNat) H1
noncomputable def iRng2 (ta : TA) : TI := fun σ H R => ta σ H fun vs H1 => ∃ i j : Int, vs = [.int i, .int j] ∧ (-(2 ^ 62) ≤ i ∧ i < 2 ^ 62 ∧ -(2 ^ 62) ≤ j ∧ j < 2 ^ 62) ∧ R (Itr i (j - i).toNat) H1
theorem pi_range1 {a : Expr} {ta : TA} {p pos : Pos} (hg : Gl X "range") (hm : X.mg "range" = none) (ha : PA X [a] ta) (hs : starEach [a] X.env = [(false, eval a X.env)] := by rfl) : PI X tg (.Call (.Name "range" p) [a] [] pos) (iRng1 ta) := by
  intro pins s σ H R I h
  refine Call_ (ld_blt I hg hm boot_range (PyProof.Rows.callWith_type1 (thn (ha pos pins s σ H _ I h) fun us s1 hz19 => ?_) hs rfl))
  obtain ⟨vs, H1, I1, r1, q1⟩ := hz19
  obtain ⟨j, e, q1, q2, q⟩ := q1
  subst e
  cases r1 with
  | cons r rr =>
    cases rr
    obtain ⟨t, rfl⟩ := r
    exact call_range_1 (range_it I1 (by (first | lia | omega)) (by (first | lia | omega)) q1 q2 (by simpa using q))
/-! ### for -/
noncomputable def tFor (wi : TI) (g : TG) (tb : TS) : TS := fun D σ H => wi σ H fun J H1 => ∃ W : Nat → Nat → St → Hp → Prop, (∃ m, W 0 m σ H1) ∧ ∀ i m σ H, W i m σ H →
  (J.stop i H ∧ D.nx σ H) ∨ (J.go i H ∧ ∃ N : St → Hp → Prop, (∀ σ' H', N σ' H' → ∃ m', m' < m ∧ W (i + 1) m' σ' H') ∧ ∀ x H', J.yld i H x H' → g x σ H' fun σ2 H2 => tb { D with nx := N, ct := N, bk := D.nx } σ2 H2)
noncomputable def pinsAt (fp : List Addr) (h : Heap) : List (Addr × Obj) := fp.filterMap fun b => (h.get? b).map fun o => (b, o)
theorem mem_pinsAt {fp : List Addr} {h : Heap} {b : Addr} {o : Obj} (hb : b ∈ fp) (e : h.get? b = some o) : (b, o) ∈ pinsAt fp h := List.mem_filterMap.mpr ⟨b, hb, by rw [e]; rfl⟩
theorem of_pinsAt {fp : List Addr} {h : Heap} {p : Addr × Obj} (hp : p ∈ pinsAt fp h) : p.1 ∈ fp ∧ h.get? p.1 = some p.2 := by
  obtain ⟨b, hb, e⟩ := List.mem_filterMap.mp hp
  cases q : h.get? b with
  | none => rw [q] at e; cases e
  | some o =>
    rw [q] at e
    have e' : (b, o) = p := Option.some.inj e
    subst e'
    exact ⟨hb, q⟩
theorem Inv.pinned {pins : List (Addr × Obj)} {σ : St} {H : Hp} {s : Shared} {fp : List Addr} (I : Inv X pins σ H s) (hf : ∀ b ∈ fp, FpOk X pins H b) (ho : ∀ b ∈ fp, ∃ o, s.heap.get? b = some o ∧ ∀ v, o.data ≠ .cell v) : Inv X (pins ++ pinsAt fp s.heap) σ H s :=
  I.pins_of fun p hp => (List.mem_append.mp hp).elim (fun z => I.pin p (List.mem_append_right _ z)) fun z => by
    obtain ⟨hb, e⟩ := of_pinsAt z
    obtain ⟨f0, f1, f2, _⟩ := hf p.1 hb
    obtain ⟨o, e', d⟩ := ho p.1 hb
    rw [e] at e'; cases e'
    exact ⟨e, f0, f1, f2, d⟩
theorem Inv.unpinned {pins pl : List (Addr × Obj)} {σ : St} {H : Hp} {s : Shared} (I : Inv X (pins ++ pl) σ H s) : Inv X pins σ H s := I.pins_of fun p hp => I.pin p (List.mem_append_right _ (List.mem_append_left _ hp))
theorem ps_for {iter : Expr} {body : List Stmt} {wi : TI} {g : TG} {tb : TS} {pos : Pos} (hp : PassesOwn (model X.prog X.w) X.A X.env X.xe) (hc : X.calm = true) (hi : PI X tg iter wi) (hg : PG X tg g) (hb : PSs X body tb)
    (hs : ∀ x, foldedSetIterable iter X.env x = pure x := by intro _; rfl) : PS X (.For tg iter body [] pos) (tFor wi g tb) := by
  intro pins s σ H D I h
  refine wpAny_For (thn (hi pins s σ H _ I h) fun v s1 h1 => thn h1 fun itv s2 h2 => ?_) hs
  obtain ⟨it, fp, tn, J, H2, e, I2, T, st2, f2, W, ⟨m0, w0⟩, turn⟩ := h2
  subst e
  -- what stays true of the iterator's objects through the loop
  have stat : ∀ {H' : Hp}, (∀ b ∈ fp, H' b = none) → ∀ b ∈ fp, FpOk X pins H' b := fun hn b hb => ⟨hn b hb, (f2 b hb).2⟩
  refine codeAny_forLoop_any (fun n s' => ∃ i σ' H', Inv X pins σ' H' s' ∧ tn i s'.heap ∧ (∀ b ∈ fp, H' b = none) ∧ W i n σ' H') ?_ m0 ⟨0, σ, H2, I2, st2, fun b hb => (f2 b hb).1, w0⟩
  rintro n s3 ⟨i, σ3, H3, I3, st3, fr3, w3⟩
  rcases turn i n σ3 H3 w3 with ⟨stop, qn⟩ | ⟨go, N, hN, step⟩
  · refine wpAny_passesOwn hp (thn (T.done X rfl rfl rfl hc i pins s3 σ3 H3 X.xe I3 (stat fr3) st3 stop) fun r s4 hz20 => ?_)
    obtain ⟨hr, I4⟩ := hz20
    subst hr
    exact wpAny_execs_nil ⟨σ3, H3, I4, qn⟩
  · refine wpAny_passesOwn hp (thn (T.item X rfl rfl rfl hc i pins s3 σ3 H3 X.xe I3 (stat fr3) st3 go) fun r s4 hz21 => ?_)
    obtain ⟨u, hr, h4⟩ := hz21
    subst hr
    refine wpAny_passesOwn hp (thn h4 fun _ s5 hz22 => ?_)
    obtain ⟨x, H5, I5, r5, y5, st5, fr5⟩ := hz22
    have I5' := I5.pinned (stat fr5) (T.obj _ _ st5)
    refine wpAny_passesOwn hp (thn (hg _ s5 σ3 H5 x u _ I5' r5 (step x H5 y5)) fun _ s6 hz23 => ?_)
    obtain ⟨σ6, H6, I6, q6⟩ := hz23
    refine wpAny_passesOwn hp (thn (hb _ s6 σ6 H6 _ I6 q6) fun f s7 q7 => ?_)
    have again : ∀ {σ7 : St} {H7 : Hp}, Inv X (pins ++ pinsAt fp s5.heap) σ7 H7 s7 → N σ7 H7 → ∃ m, m < n ∧ ∃ i σ' H', Inv X pins σ' H' s7 ∧ tn i s7.heap ∧ (∀ b ∈ fp, H' b = none) ∧ W i m σ' H' := fun {σ7 H7} I7 n7 => by
      obtain ⟨m', hm, w7⟩ := hN σ7 H7 n7
      refine ⟨m', hm, i + 1, σ7, H7, I7.unpinned, T.keep _ _ _ st5 fun b hb o e => (I7.pin (b, o) (List.mem_append_right _ (List.mem_append_right _ (mem_pinsAt hb e)))).1, fun b hb => ?_, w7⟩
      obtain ⟨o, e, d⟩ := T.obj _ _ st5 b hb
      exact (I7.pin (b, o) (List.mem_append_right _ (List.mem_append_right _ (mem_pinsAt hb e)))).2.1
    cases f with
    | next => obtain ⟨σ7, H7, I7, n7⟩ := q7; exact again I7 n7
    | cont => obtain ⟨σ7, H7, I7, n7⟩ := q7; exact again I7 n7
    | brk => obtain ⟨σ7, H7, I7, q7⟩ := q7; exact ⟨σ7, H7, I7.unpinned, q7⟩
    | ret v => obtain ⟨x7, σ7, H7, I7, r7, q7⟩ := q7; exact ⟨x7, σ7, H7, I7.unpinned, r7, q7⟩
end

/-! ### the forms one uses -/
theorem for_list {K : PySem.W.Frag} {a : Addr} {xs : List V} {g : TG} {tb : TS} {D : Ends} {σ : St} {H : Hp} (Pv : Nat → St → Hp → Prop) (h0 : Pv 0 σ H) (hl : ∀ i σ H, i ≤ xs.length → Pv i σ H → SqL K H a xs)
    (hs : ∀ i x σ H, xs[i]? = some x → Pv i σ H → g x σ H fun σ2 H2 => tb { D with nx := Pv (i + 1), ct := Pv (i + 1), bk := D.nx } σ2 H2) (hd : ∀ σ H, Pv xs.length σ H → D.nx σ H) :
    ∃ W : Nat → Nat → St → Hp → Prop, (∃ m, W 0 m σ H) ∧ ∀ i m σ H, W i m σ H →
      ((Itl K a).stop i H ∧ D.nx σ H) ∨ ((Itl K a).go i H ∧ ∃ N : St → Hp → Prop, (∀ σ' H', N σ' H' → ∃ m', m' < m ∧ W (i + 1) m' σ' H') ∧ ∀ x H', (Itl K a).yld i H x H' → g x σ H' fun σ2 H2 => tb { D with nx := N, ct := N, bk := D.nx } σ2 H2) := by
  refine ⟨fun i m σ H => m = xs.length - i ∧ i ≤ xs.length ∧ Pv i σ H, ⟨xs.length, by simp, Nat.zero_le _, h0⟩, ?_⟩
  rintro i m σ H ⟨rfl, hi, p⟩
  have q := hl i σ H hi p
  by_cases hlt : i < xs.length
  · refine .inr ⟨⟨xs, xs[i], q, by simp [hlt]⟩, Pv (i + 1), fun σ' H' p' => ⟨xs.length - (i + 1), by (first | lia | omega), rfl, hlt, p'⟩, fun x H' y => ?_⟩
    obtain ⟨e, y⟩ := y
    subst e
    exact hs i x σ _ (y xs q) p
  · have e : i = xs.length := by (first | lia | omega)
    subst e
    exact .inl ⟨⟨xs, q, Nat.le_refl _⟩, hd σ H p⟩
theorem for_tup {K : PySem.W.Frag} {a : Addr} {xs : List V} {g : TG} {tb : TS} {D : Ends} {σ : St} {H : Hp} (Pv : Nat → St → Hp → Prop) (h0 : Pv 0 σ H) (hl : ∀ i σ H, i ≤ xs.length → Pv i σ H → SqT K H a xs)
    (hs : ∀ i x σ H, xs[i]? = some x → Pv i σ H → g x σ H fun σ2 H2 => tb { D with nx := Pv (i + 1), ct := Pv (i + 1), bk := D.nx } σ2 H2) (hd : ∀ σ H, Pv xs.length σ H → D.nx σ H) :
    ∃ W : Nat → Nat → St → Hp → Prop, (∃ m, W 0 m σ H) ∧ ∀ i m σ H, W i m σ H →
      ((Itt K a).stop i H ∧ D.nx σ H) ∨ ((Itt K a).go i H ∧ ∃ N : St → Hp → Prop, (∀ σ' H', N σ' H' → ∃ m', m' < m ∧ W (i + 1) m' σ' H') ∧ ∀ x H', (Itt K a).yld i H x H' → g x σ H' fun σ2 H2 => tb { D with nx := N, ct := N, bk := D.nx } σ2 H2) := by
  refine ⟨fun i m σ H => m = xs.length - i ∧ i ≤ xs.length ∧ Pv i σ H, ⟨xs.length, by simp, Nat.zero_le _, h0⟩, ?_⟩
  rintro i m σ H ⟨rfl, hi, p⟩
  have q := hl i σ H hi p
  by_cases hlt : i < xs.length
  · refine .inr ⟨⟨xs, xs[i], q, by simp [hlt]⟩, Pv (i + 1), fun σ' H' p' => ⟨xs.length - (i + 1), by (first | lia | omega), rfl, hlt, p'⟩, fun x H' y => ?_⟩
    obtain ⟨e, y⟩ := y
    subst e
    exact hs i x σ _ (y xs q) p
  · have e : i = xs.length := by (first | lia | omega)
    subst e
    exact .inl ⟨⟨xs, q, Nat.le_refl _⟩, hd σ H p⟩
theorem for_range {lo : Int} {n : Nat} {g : TG} {tb : TS} {D : Ends} {σ : St} {H : Hp} (Pv : Nat → St → Hp → Prop) (h0 : Pv 0 σ H)
    (hs : ∀ i σ H, i < n → Pv i σ H → g (.int (lo + i)) σ H fun σ2 H2 => tb { D with nx := Pv (i + 1), ct := Pv (i + 1), bk := D.nx } σ2 H2) (hd : ∀ σ H, Pv n σ H → D.nx σ H) :
    ∃ W : Nat → Nat → St → Hp → Prop, (∃ m, W 0 m σ H) ∧ ∀ i m σ H, W i m σ H →
      ((Itr lo n).stop i H ∧ D.nx σ H) ∨ ((Itr lo n).go i H ∧ ∃ N : St → Hp → Prop, (∀ σ' H', N σ' H' → ∃ m', m' < m ∧ W (i + 1) m' σ' H') ∧ ∀ x H', (Itr lo n).yld i H x H' → g x σ H' fun σ2 H2 => tb { D with nx := N, ct := N, bk := D.nx } σ2 H2) := by
  refine ⟨fun i m σ H => m = n - i ∧ i ≤ n ∧ Pv i σ H, ⟨n, by simp, Nat.zero_le _, h0⟩, ?_⟩
  rintro i m σ H ⟨rfl, hi, p⟩
  by_cases hlt : i < n
  · refine .inr ⟨hlt, Pv (i + 1), fun σ' H' p' => ⟨n - (i + 1), by (first | lia | omega), rfl, hlt, p'⟩, fun x H' y => ?_⟩
    obtain ⟨e, y⟩ := y
    subst e y
    exact hs i σ _ hlt p
  · have e : i = n := by (first | lia | omega)
    subst e
    exact .inl ⟨Nat.le_refl _, hd σ H p⟩
end L2

namespace L2
open PySem PySem.Spec PyProof.Rows

noncomputable abbrev R2 := V → V → Hp → VK → Prop
noncomputable def OpR (X : Cx) (f : Value → Value → Sem Value) (r : R2) : Prop :=
  ∀ (pins : List (Addr × Obj)) (s : Shared) (σ : St) (H : Hp) (x y : V) (v u : Value) (Q : VK), Inv X pins σ H s → RelV x v → RelV y u → r x y H Q →
    wpAny (model X.prog X.w) X.A (f v u) (EP X pins σ Q) X.xe s
noncomputable def UnR (X : Cx) (f : Value → Sem Value) (r : V → Hp → VK → Prop) : Prop :=
  ∀ (pins : List (Addr × Obj)) (s : Shared) (σ : St) (H : Hp) (x : V) (v : Value) (Q : VK), Inv X pins σ H s → RelV x v → r x H Q →
    wpAny (model X.prog X.w) X.A (f v) (EP X pins σ Q) X.xe s
noncomputable def CallR (X : Cx) (f : Value) (r : List V → Hp → VK → Prop) : Prop :=
  ∀ (pins : List (Addr × Obj)) (s : Shared) (σ : St) (H : Hp) (xs : List V) (us : List Value) (Q : VK), Inv X pins σ H s → Vals xs us → r xs H Q →
    wpAny (model X.prog X.w) X.A (call f us) (EP X pins σ Q) X.xe s
noncomputable def TruR (X : Cx) (r : V → Hp → (Bool → Hp → Prop) → Prop) : Prop :=
  ∀ (pins : List (Addr × Obj)) (s : Shared) (σ : St) (H : Hp) (x : V) (v : Value) (Q : Bool → Hp → Prop), Inv X pins σ H s → RelV x v → r x H Q →
    wpAny (model X.prog X.w) X.A (truthy v) (TP X pins σ Q) X.xe s

noncomputable def tOp (r : R2) (ta tb : TE) : TE := fun σ H Q => ta σ H fun x H1 => tb σ H1 fun y H2 => r x y H2 Q
noncomputable def tUn (r : V → Hp → VK → Prop) (ta : TE) : TE := fun σ H Q => ta σ H fun x H1 => r x H1 Q
noncomputable def rI (C : Int → Int → Prop) (g : Int → Int → V) : R2 := fun x y H Q => ∃ i j, x = .int i ∧ y = .int j ∧ C i j ∧ Q (g i j) H
noncomputable def rI0 (g : Int → Int → V) : R2 := fun x y H Q => ∃ i j, x = .int i ∧ y = .int j ∧ Q (g i j) H
noncomputable def rU (g : Int → V) : V → Hp → VK → Prop := fun x H Q => ∃ i, x = .int i ∧ Q (g i) H

section
variable {X : Cx} {a b c : Expr} {ta tb tc : TE} {pos : Pos}

theorem binT (ha : PE X a ta) (hb : PE X b tb) {pins : List (Addr × Obj)} {s : Shared} {σ : St} {H : Hp} {R : V → V → Hp → Prop} (I : Inv X pins σ H s)
    (h : ta σ H fun x H1 => tb σ H1 fun y H2 => R x y H2) {Q : Value → Shared → Prop} {f : Value → Value → Sem Value}
    (hf : ∀ v u s2 x y H2, Inv X pins σ H2 s2 → RelV x v → RelV y u → R x y H2 → wpAny (model X.prog X.w) X.A (f v u) Q X.xe s2) :
    wpAny (model X.prog X.w) X.A (eval a X.env) (fun v s₁ => wpAny (model X.prog X.w) X.A (eval b X.env) (fun u s₂ => wpAny (model X.prog X.w) X.A (f v u) Q X.xe s₂) X.xe s₁) X.xe s := by
  refine thn (ha pins s σ H _ I h) fun v s1 hz24 => ?_
  obtain ⟨x, H1, I1, r1, q1⟩ := hz24
  refine thn (hb pins s1 σ H1 _ I1 q1) fun u s2 hz25 => ?_
  obtain ⟨y, H2, I2, r2, q2⟩ := hz25
  exact hf v u s2 x y H2 I2 r1 r2 q2

theorem pe_op {op : Operator} {r : R2} (ho : OpR X (binaryOp op) r) (ha : PE X a ta) (hb : PE X b tb) : PE X (.BinOp a op b pos) (tOp r ta tb) := by
  intro pins s σ H Q I h
  exact wpAny_BinOp (binT ha hb I h fun v u s2 x y H2 I2 rx ry q => ho pins s2 σ H2 x y v u Q I2 rx ry q)
/-! ### ints -/
theorem opI {f : Value → Value → Sem Value} {C : Int → Int → Prop} {g : Int → Int → Int}
    (rule : ∀ (i j : Int) (t u : Tok) (s : Shared) (Q : Value → Shared → Prop) (E : Value → Shared → Prop), C i j → Q (.int (g i j) s.toks) { s with toks := s.toks + 1 } → wpAny (model X.prog X.w) X.A (f (.int i t) (.int j u)) Q E s) :
    OpR X f (rI C fun i j => .int (g i j)) := by
  intro pins s σ H x y v u Q I rx ry h
  obtain ⟨i, j, rfl, rfl, hc, q⟩ := h
  obtain ⟨t, rfl⟩ := rx
  obtain ⟨t', rfl⟩ := ry
  exact rule i j t t' s _ _ hc ⟨.int (g i j), H, I.tok _, ⟨_, rfl⟩, q⟩
theorem opI0 {f : Value → Value → Sem Value} {g : Int → Int → Int}
    (rule : ∀ (i j : Int) (t u : Tok) (s : Shared) (Q : Value → Shared → Prop) (E : Value → Shared → Prop), Q (.int (g i j) s.toks) { s with toks := s.toks + 1 } → wpAny (model X.prog X.w) X.A (f (.int i t) (.int j u)) Q E s) :
    OpR X f (rI0 fun i j => .int (g i j)) := by
  intro pins s σ H x y v u Q I rx ry h
  obtain ⟨i, j, rfl, rfl, q⟩ := h
  obtain ⟨t, rfl⟩ := rx
  obtain ⟨t', rfl⟩ := ry
  exact rule i j t t' s _ _ ⟨.int (g i j), H, I.tok _, ⟨_, rfl⟩, q⟩
theorem opB0 {f : Value → Value → Sem Value} {g : Int → Int → Bool}
    (rule : ∀ (i j : Int) (t u : Tok) (s : Shared) (Q : Value → Shared → Prop) (E : Value → Shared → Prop), Q (.bool (g i j)) s → wpAny (model X.prog X.w) X.A (f (.int i t) (.int j u)) Q E s) :
    OpR X f (rI0 fun i j => .bl (g i j)) := by
  intro pins s σ H x y v u Q I rx ry h
  obtain ⟨i, j, rfl, rfl, q⟩ := h
  obtain ⟨t, rfl⟩ := rx
  obtain ⟨t', rfl⟩ := ry
  exact rule i j t t' s _ _ ⟨.bl (g i j), H, I, rfl, q⟩

noncomputable def CDiv (i j : Int) : Prop := 0 < j ∧ j < 1073741824
noncomputable def CDivN (i j : Int) : Prop := j ≠ 0 ∧ j.natAbs < 1073741824
noncomputable def CPow (i j : Int) : Prop := 0 ≤ j ∧ j ≤ 1000000 ∧ i.natAbs < 2 ^ 64
noncomputable def CMul (i j : Int) : Prop := (-(2 ^ 64) < i ∧ i < 2 ^ 64) ∨ (-(2 ^ 64) < j ∧ j < 2 ^ 64)
theorem CMul.ok {i j : Int} (h : CMul i j) : IntMulOk i j := by
  rcases h with ⟨h1, h2⟩ | ⟨h1, h2⟩
  · exact .of_left (intBits_le_64 h1 h2)
  · exact .of_right (intBits_le_64 h1 h2)
theorem op_add : OpR X (binaryOp .Add) (rI0 fun i j => .int (i + j)) := opI0 fun _ _ _ _ _ _ _ q => add_int q
theorem op_sub : OpR X (binaryOp .Sub) (rI0 fun i j => .int (i - j)) := opI0 fun _ _ _ _ _ _ _ q => sub_int q
theorem op_mul : OpR X (binaryOp .Mult) (rI CMul fun i j => .int (i * j)) := opI fun _ _ _ _ _ _ _ hc q => mul_int q hc.ok
theorem op_fdiv : OpR X (binaryOp .FloorDiv) (rI CDiv fun i j => .int (i / j)) := opI fun i j _ _ _ _ _ hc q => by
  have h1 : (0 : Int) < j := hc.1
  have h2 : j < 1073741824 := hc.2
  exact floordiv_int (by (first | lia | omega)) (by rw [Int.fdiv_eq_ediv_of_nonneg i (by (first | lia | omega))]; exact q) (.inl (PyProof.noPylong_small (by (first | lia | omega))))
theorem op_mod : OpR X (binaryOp .Mod) (rI (fun _ j => 0 < j) fun i j => .int (i % j)) := opI fun i j _ _ _ _ _ hc q => by
  have h1 : (0 : Int) < j := hc
  exact mod_int' (by (first | lia | omega)) (by rw [Int.fmod_eq_emod_of_nonneg i (by (first | lia | omega))]; exact q)
theorem op_pow : OpR X (binaryOp .Pow) (rI CPow fun i j => .int (i ^ j.toNat)) := opI fun _ _ _ _ _ _ _ hc q => pow_int_small hc.1 hc.2.1 hc.2.2 q
/-! ### bools among ints: n += (a < b) -/
end

/-! ### comparisons -/
noncomputable def scal : V → V → Bool
  | .non, .non => true | .non, .int _ => true | .int _, .non => true | .non, .bl _ => true | .bl _, .non => true | .non, .str _ => true | .str _, .non => true
  | .int _, .int _ => true | .bl _, .bl _ => true | .str _, .str _ => true | .byt _, .byt _ => true
  | .int _, .str _ => true | .str _, .int _ => true | .bl _, .str _ => true | .str _, .bl _ => true
  | _, _ => false
noncomputable def rEq : R2 := fun x y H Q => scal x y = true ∧ Q (.bl (decide (x = y))) H
noncomputable def rNe : R2 := fun x y H Q => scal x y = true ∧ Q (.bl (!decide (x = y))) H

theorem dec_int {i j : Int} : decide (V.int i = V.int j) = (i == j) := by
  rw [Bool.eq_iff_iff]
  simp
theorem dec_bl {i j : Bool} : decide (V.bl i = V.bl j) = (i == j) := by
  rw [Bool.eq_iff_iff]
  simp
theorem dec_str {i j : Str} : decide (V.str i = V.str j) = (i == j) := by
  rw [Bool.eq_iff_iff]
  simp
theorem dec_byt {i j : Array UInt8} : decide (V.byt i = V.byt j) = (i.toList == j.toList) := by
  rw [Bool.eq_iff_iff]
  cases i
  cases j
  simp

section
variable {X : Cx} {a b c : Expr} {ta tb tc : TE} {pos : Pos}
theorem fin_bl {pins : List (Addr × Obj)} {σ : St} {H : Hp} {s : Shared} {Q : VK} {k k' : Bool} (I : Inv X pins σ H s) (q : Q (.bl k) H) (e : k = k') : EP X pins σ Q (.bool k') s := by
  subst e
  exact ⟨.bl k, H, I, rfl, q⟩
theorem op_eq : OpR X (compareOp .Eq) rEq := by
  intro pins s σ H x y v u Q I rx ry h
  obtain ⟨hs, q⟩ := h
  cases x with
  | non =>
    cases rx
    cases y with
    | non => cases ry; exact PySem.EqNone.eq_none_none (fin_bl I q (by simp))
    | bl j => cases ry; exact PySem.EqNone.eq_none_bool (fin_bl I q (by simp))
    | int j => obtain ⟨t', rfl⟩ := ry; exact PySem.EqNone.eq_none_int (fin_bl I q (by simp))
    | str j => obtain ⟨t', rfl⟩ := ry; exact PySem.EqNone.eq_none_str (fin_bl I q (by simp))
    | _ => exact absurd (show false = true from hs) Bool.false_ne_true
  | bl i =>
    cases rx
    cases y with
    | non => cases ry; exact PySem.EqNone.eq_bool_none (fin_bl I q (by simp))
    | bl j => cases ry; exact eq_bool (fin_bl I q dec_bl)
    | str j => obtain ⟨t', rfl⟩ := ry; exact PySem.EqMixed.eq_bool_str (fin_bl I q (by simp))
    | _ => exact absurd (show false = true from hs) Bool.false_ne_true
  | int i =>
    obtain ⟨t, rfl⟩ := rx
    cases y with
    | non => cases ry; exact PySem.EqNone.eq_int_none (fin_bl I q (by simp))
    | int j => obtain ⟨t', rfl⟩ := ry; exact eq_int (fin_bl I q dec_int)
    | str j => obtain ⟨t', rfl⟩ := ry; exact PySem.EqMixed.eq_int_str (fin_bl I q (by simp))
    | _ => exact absurd (show false = true from hs) Bool.false_ne_true
  | str i =>
    obtain ⟨t, rfl⟩ := rx
    cases y with
    | non => cases ry; exact PySem.EqNone.eq_str_none (fin_bl I q (by simp))
    | bl j => cases ry; exact PySem.EqMixed.eq_str_bool (fin_bl I q (by simp))
    | int j => obtain ⟨t', rfl⟩ := ry; exact PySem.EqMixed.eq_str_int (fin_bl I q (by simp))
    | str j => obtain ⟨t', rfl⟩ := ry; exact eq_str (fin_bl I q dec_str)
    | _ => exact absurd (show false = true from hs) Bool.false_ne_true
  | byt i =>
    obtain ⟨t, rfl⟩ := rx
    cases y with
    | byt j => obtain ⟨t', rfl⟩ := ry; exact PySem.W.eq_bytes (fin_bl I q dec_byt)
    | _ => exact absurd (show false = true from hs) Bool.false_ne_true
  | _ => cases y <;> exact absurd (show false = true from hs) Bool.false_ne_true
theorem op_ne : OpR X (compareOp .NotEq) rNe := by
  intro pins s σ H x y v u Q I rx ry h
  obtain ⟨hs, q⟩ := h
  cases x with
  | non =>
    cases rx
    cases y with
    | non => cases ry; exact PySem.EqNone.ne_none_none (fin_bl I q (by simp))
    | bl j => cases ry; exact PySem.EqNone.ne_none_bool (fin_bl I q (by simp))
    | int j => obtain ⟨t', rfl⟩ := ry; exact PySem.EqNone.ne_none_int (fin_bl I q (by simp))
    | str j => obtain ⟨t', rfl⟩ := ry; exact PySem.EqNone.ne_none_str (fin_bl I q (by simp))
    | _ => exact absurd (show false = true from hs) Bool.false_ne_true
  | bl i =>
    cases rx
    cases y with
    | non => cases ry; exact PySem.EqNone.ne_bool_none (fin_bl I q (by simp))
    | bl j => cases ry; exact ne_bool (fin_bl I q (congrArg not dec_bl))
    | str j => obtain ⟨t', rfl⟩ := ry; exact PySem.EqMixed.ne_bool_str (fin_bl I q (by simp))
    | _ => exact absurd (show false = true from hs) Bool.false_ne_true
  | int i =>
    obtain ⟨t, rfl⟩ := rx
    cases y with
    | non => cases ry; exact PySem.EqNone.ne_int_none (fin_bl I q (by simp))
    | int j => obtain ⟨t', rfl⟩ := ry; exact ne_int (fin_bl I q (congrArg not dec_int))
    | str j => obtain ⟨t', rfl⟩ := ry; exact PySem.EqMixed.ne_int_str (fin_bl I q (by simp))
    | _ => exact absurd (show false = true from hs) Bool.false_ne_true
  | str i =>
    obtain ⟨t, rfl⟩ := rx
    cases y with
    | non => cases ry; exact PySem.EqNone.ne_str_none (fin_bl I q (by simp))
    | bl j => cases ry; exact PySem.EqMixed.ne_str_bool (fin_bl I q (by simp))
    | int j => obtain ⟨t', rfl⟩ := ry; exact PySem.EqMixed.ne_str_int (fin_bl I q (by simp))
    | str j => obtain ⟨t', rfl⟩ := ry; exact ne_str (fin_bl I q (congrArg not dec_str))
    | _ => exact absurd (show false = true from hs) Bool.false_ne_true
  | byt i =>
    obtain ⟨t, rfl⟩ := rx
    cases y with
    | byt j => obtain ⟨t', rfl⟩ := ry; exact PySem.W.ne_bytes (fin_bl I q (congrArg not dec_byt))
    | _ => exact absurd (show false = true from hs) Bool.false_ne_true
  | _ => cases y <;> exact absurd (show false = true from hs) Bool.false_ne_true

theorem op_lt : OpR X (compareOp .Lt) (rI0 fun i j => .bl (decide (i < j))) := opB0 fun _ _ _ _ _ _ _ q => lt_int q
theorem op_le : OpR X (compareOp .LtE) (rI0 fun i j => .bl (decide (i ≤ j))) := opB0 fun _ _ _ _ _ _ _ q => le_int q
theorem op_gt : OpR X (compareOp .Gt) (rI0 fun i j => .bl (decide (j < i))) := opB0 fun _ _ _ _ _ _ _ q => gt_int q
theorem op_in_str : OpR X (compareOp .In) (fun x y H Q => ∃ i j, x = .str i ∧ y = .str j ∧ Q (.bl (!(Builtin.Str.occurrences j i 0 j.length 1).isEmpty)) H) := by
  intro pins s σ H x y v u Q I rx ry h
  obtain ⟨i, j, rfl, rfl, q⟩ := h
  obtain ⟨t, rfl⟩ := rx
  obtain ⟨t', rfl⟩ := ry
  exact in_str (fin_bl I q rfl)

theorem op_isN : OpR X (compareOp .Is) (fun x y H Q => y = .non ∧ Q (.bl (decide (x = .non))) H) := by
  intro pins s σ H x y v u Q I rx ry h
  obtain ⟨rfl, q⟩ := h
  cases ry
  refine is_none_gen (fin_bl I q ?_)
  cases x <;> first
    | (cases rx; rfl)
    | (obtain ⟨t, rfl⟩ := rx; rfl)
noncomputable def isObj : HO → Bool
  | .lst _ => true
  | .ins _ _ _ => true
  | _ => false
theorem nomark (b : Expr) {op : CmpOp} (h : op ≠ .In := by decide) (h2 : op ≠ .NotIn := by decide) : behindInMarks op b = false := by
  have e1 : (op == CmpOp.In) = false := by cases op <;> first | rfl | exact absurd rfl h
  have e2 : (op == CmpOp.NotIn) = false := by cases op <;> first | rfl | exact absurd rfl h2
  cases b <;> simp [behindInMarks, e1, e2]
theorem pe_cmpR {op : CmpOp} {r : R2} (ho : OpR X (compareOp op) r) (ha : PE X a ta) (hb : PE X b tb) (hm : behindInMarks op b = false) : PE X (.Compare a [op] [b] pos) (tOp r ta tb) := by
  intro pins s σ H Q I h
  exact wpAny_Compare1 (binT ha hb I h fun v u s2 x y H2 I2 rx ry q => ho pins s2 σ H2 x y v u Q I2 rx ry q) hm
noncomputable def tTest (t : TE) : TT := fun σ H Q => t σ H fun x H' => ∃ k, x = .bl k ∧ Q k H'
theorem pt_cmpR {op : CmpOp} {r : R2} (ho : OpR X (compareOp op) r) (ha : PE X a ta) (hb : PE X b tb) (hm : behindInMarks op b = false) : PT X (.Compare a [op] [b] pos) (tTest (tOp r ta tb)) := by
  intro pins s σ H Q I h
  refine wpAny_isTrue_Compare1 (thn (ha pins s σ H _ I h) fun v s1 hz26 => ?_) hm
  obtain ⟨x, H1, I1, r1, q1⟩ := hz26
  refine thn (hb pins s1 σ H1 _ I1 q1) fun u s2 hz27 => ?_
  obtain ⟨y, H2, I2, r2, q2⟩ := hz27
  refine thn (ho pins s2 σ H2 x y v u _ I2 r1 r2 q2) fun c s3 hz28 => ?_
  obtain ⟨z, H3, I3, r3, k, e, q3⟩ := hz28
  subst e
  cases r3
  exact wpAny_truthy_bool ⟨H3, I3, q3⟩
noncomputable def tChain (r r' : R2) (ta tb tc : TE) : TE := fun σ H Q => ta σ H fun x H1 => tb σ H1 fun y H2 => r x y H2 fun z H3 => ∃ k, z = .bl k ∧
  (if k = true then tc σ H3 fun w' H4 => r' y w' H4 Q else Q (.bl false) H3)
theorem pe_chain {op op' : CmpOp} {r r' : R2} (ho : OpR X (compareOp op) r) (ho' : OpR X (compareOp op') r') (ha : PE X a ta) (hb : PE X b tb) (hc : PE X c tc)
    (hm : lastMarks [op, op'] [b, c] = false := by with_unfolding_all rfl) : PE X (.Compare a [op, op'] [b, c] pos) (tChain r r' ta tb tc) := by
  intro pins s σ H Q I h
  refine Compare_chain (thn (ha pins s σ H _ I h) fun v s1 ⟨x, H1, I1, r1, q1⟩ => chain_link (thn (hb pins s1 σ H1 _ I1 q1) fun u s2 hz29 => ?_)) hm
  obtain ⟨y, H2, I2, r2, q2⟩ := hz29
  refine thn (ho pins s2 σ H2 x y v u _ I2 r1 r2 q2) fun d s3 hz30 => ?_
  obtain ⟨z, H3, I3, r3, k, e, q3⟩ := hz30
  subst e
  cases r3
  refine wpAny_truthy_bool ?_
  cases k with
  | false => exact ite_ff ⟨.bl false, H3, I3, rfl, q3⟩
  | true => exact ite_tt (chain_last (thn (hc pins s3 σ H3 _ I3 q3) fun w' s4 ⟨z', H4, I4, r4, q4⟩ => ho' pins s4 σ H4 y z' u w' Q I4 r2 r4 q4))
/-! ### truth -/
noncomputable def TruV (K : PySem.W.Frag) (x : V) (H : Hp) (k : Bool) : Prop :=
  match x with
  | .non => k = false
  | .bl b => k = b
  | .int i => k = (i != 0)
  | .str y => y.length ≤ sizeLine ∧ k = ((y.length : Int) != 0)
  | .byt y => y.size ≤ sizeLine ∧ k = ((y.size : Int) != 0)
  | .ref p => (∃ xs, SqL K H p xs ∧ k = !xs.isEmpty) ∨ (∃ xs, SqT K H p xs ∧ k = !xs.isEmpty) ∨ ∃ kvs, H p = some (.dK kvs) ∧ k = !kvs.isEmpty
  | _ => False
theorem isEmpty_kv {κ : Type} {kvs : List (κ × V)} {vs : List (κ × Value)} (r : KV kvs vs) : (!vs.isEmpty) = !kvs.isEmpty := by
  cases r <;> rfl
theorem isEmpty_of {xs : List V} {its : List Value} (r : Vals xs its) : (!its.toArray.isEmpty) = !xs.isEmpty := by
  cases r <;> simp
theorem line63 : (sizeLine : Nat) < 2 ^ 63 := by rw [sizeLine_eq]; decide
theorem tru_ok : TruR X (fun x H Q => ∃ k, TruV X.K x H k ∧ Q k H) := by
  intro pins s σ H x v Q I rx h
  obtain ⟨k, e, q⟩ := h
  have hl := line63
  have hs : sizeLine = 16777216 := sizeLine_eq
  cases x with
  | non =>
    cases rx
    have e' : k = false := e
    subst e'
    exact truthy_none ⟨H, I, q⟩
  | bl b =>
    cases rx
    have e' : k = b := e
    subst e'
    exact wpAny_truthy_bool ⟨H, I, q⟩
  | int i =>
    obtain ⟨t, rfl⟩ := rx
    have e' : k = (i != 0) := e
    subst e'
    exact PySem.P.truthy_int ⟨H, I, q⟩
  | str y =>
    obtain ⟨t, rfl⟩ := rx
    obtain ⟨hy, e'⟩ : y.length ≤ sizeLine ∧ k = ((y.length : Int) != 0) := e
    subst e'
    exact PySem.P.truthy_str (by (first | lia | omega)) ⟨H, I.tok _, q⟩
  | byt y =>
    obtain ⟨t, rfl⟩ := rx
    obtain ⟨hy, e'⟩ : y.size ≤ sizeLine ∧ k = ((y.size : Int) != 0) := e
    subst e'
    exact PySem.W.truthy_bytes (by (first | lia | omega)) ⟨H, I.tok _, q⟩
  | ref p =>
    cases rx
    have e' : (∃ xs, SqL X.K H p xs ∧ k = !xs.isEmpty) ∨ (∃ xs, SqT X.K H p xs ∧ k = !xs.isEmpty) ∨ ∃ kvs, H p = some (.dK kvs) ∧ k = !kvs.isEmpty := e
    rcases e' with ⟨xs, hx, e'⟩ | ⟨xs, hx, e'⟩ | ⟨kvs, hx, e'⟩
    · subst e'
      obtain ⟨its, r, pl, hz⟩ := I.list hx
      have hlen := r.length
      exact wpAny_truthy_list pl.isList (by simp only [List.size_toArray]; (first | lia | omega)) ⟨H, I.tok _, by rw [isEmpty_of r]; exact q⟩
    · subst e'
      obtain ⟨its, r, pl, hz⟩ := I.tuple hx
      have hlen := r.length
      exact truthy_tuple pl (by simp only [List.size_toArray]; (first | lia | omega)) ⟨H, I.tok _, by rw [isEmpty_of r]; exact q⟩
    · subst e'
      obtain ⟨hz, hS, vs, r, m⟩ : kvs.length ≤ sizeLine ∧ (p == sysModules) = false ∧ ∃ vs, KV kvs vs ∧ s.heap.DictOf (mixKind X.prog X.w) p vs := I.hok p _ hx
      have hlen : kvs.length = vs.length := Paired.length r
      exact wpAny_truthy_dict hS m (by (first | lia | omega)) ⟨H, I.tok _, by rw [isEmpty_kv r]; exact q⟩
  | _ => exact (show False from e).elim
theorem pt_truth (ha : PE X a ta) (he : ∀ whole, isTrue a X.env whole = (do let v ← whole; standAt a.pos; holding [v] (truthy v))) :
    PT X a (fun σ H Q => ta σ H fun x H' => ∃ k, TruV X.K x H' k ∧ Q k H') := by
  intro pins s σ H Q I h
  exact isTrue_plain (thn (ha pins s σ H _ I h) fun v s1 ⟨x, H1, I1, r1, q1⟩ => tru_ok pins s1 σ H1 x v Q I1 r1 q1) (he _)

/-! ### strs and bytes -/
noncomputable def PlainIxT (b : Expr) : Prop := ∀ o i, subscripted b false o i = operate [o, i] (getItem o i)
/-! ### scalar builtins, by CallR -/
theorem vals1 {x : V} {us : List Value} (r : Vals [x] us) : ∃ u, us = [u] ∧ RelV x u := by
  cases r with
  | cons r1 r2 => cases r2; exact ⟨_, rfl, r1⟩
theorem vals2 {x y : V} {us : List Value} (r : Vals [x, y] us) : ∃ u w', us = [u, w'] ∧ RelV x u ∧ RelV y w' := by
  cases r with
  | cons r1 r2 =>
    cases r2 with
    | cons r3 r4 => cases r4; exact ⟨_, _, rfl, r1, r3⟩
theorem call_abs : CallR X (.builtin "abs") (fun xs H Q => ∃ i, xs = [.int i] ∧ Q (.int (if i < 0 then -i else i)) H) := by
  intro pins s σ H xs us Q I r h
  obtain ⟨i, rfl, q⟩ := h
  obtain ⟨u, rfl, t, rfl⟩ := vals1 r
  exact call_abs_int fun u tk => ⟨.int (if i < 0 then -i else i), H, I.tok _, ⟨_, rfl⟩, q⟩
noncomputable def LenV (K : PySem.W.Frag) (x : V) (H : Hp) (n : Nat) : Prop :=
  match x with
  | .str y => y.length ≤ sizeLine ∧ n = y.length
  | .byt y => y.size ≤ sizeLine ∧ n = y.size
  | .ref p => (∃ xs, SqL K H p xs ∧ n = xs.length) ∨ ∃ xs, SqT K H p xs ∧ n = xs.length
  | _ => False
theorem call_len : CallR X (.builtin "len") (fun xs H Q => ∃ x n, xs = [x] ∧ LenV X.K x H n ∧ Q (.int n) H) := by
  intro pins s σ H xs us Q I r h
  obtain ⟨x, n, rfl, e, q⟩ := h
  obtain ⟨u, rfl, rx⟩ := vals1 r
  have hl := line63
  have hs : sizeLine = 16777216 := sizeLine_eq
  cases x with
  | str y =>
    obtain ⟨t, rfl⟩ := rx
    obtain ⟨hy, e'⟩ : y.length ≤ sizeLine ∧ n = y.length := e
    subst e'
    exact len_str (by (first | lia | omega)) ⟨.int _, H, I.tok _, ⟨_, rfl⟩, q⟩
  | byt y =>
    obtain ⟨t, rfl⟩ := rx
    obtain ⟨hy, e'⟩ : y.size ≤ sizeLine ∧ n = y.size := e
    subst e'
    exact PySem.W.len_bytes (by (first | lia | omega)) ⟨.int _, H, I.tok _, ⟨_, rfl⟩, q⟩
  | ref p =>
    cases rx
    have e' : (∃ xs, SqL X.K H p xs ∧ n = xs.length) ∨ ∃ xs, SqT X.K H p xs ∧ n = xs.length := e
    rcases e' with ⟨xs, hx, e'⟩ | ⟨xs, hx, e'⟩
    · subst e'
      obtain ⟨its, r', pl, hz⟩ := I.list hx
      have hlen := r'.length
      exact Calls.call_len_list pl.isList (by simp only [List.size_toArray]; (first | lia | omega)) ⟨.int xs.length, H, I.tok _, ⟨_, by simp only [List.size_toArray]; rw [hlen]⟩, q⟩
    · subst e'
      obtain ⟨its, r', pl, hz⟩ := I.tuple hx
      have hlen := r'.length
      exact len_tuple pl (by simp only [List.size_toArray]; (first | lia | omega)) ⟨.int xs.length, H, I.tok _, ⟨_, by simp only [List.size_toArray]; rw [hlen]⟩, q⟩
  | _ => exact (show False from e).elim
end
end L2

namespace L2
open PySem PySem.Spec PyProof.Rows

/-! ### an instance, its attributes a map -/
structure ObjM (h : Heap) (x dx C : Addr) (mA : Str → Option Value) : Prop where
  obj : h.get? x = some (PySem.W.instObj C dx)
  ns : h.Ns1 dx mA
  ne : dx ≠ x

theorem lookIn_ns {h : Heap} {dx : Addr} {mA : Str → Option Value} (n : h.Ns1 dx mA) : ∃ od, h.get? dx = some od ∧ ∀ name, PySem.W.lookIn name od = some (mA name) := by
  obtain ⟨o, es, ep, ho, hd, hk, _, hm⟩ := n
  refine ⟨o, ho, fun name => ?_⟩
  have e := hm name
  unfold nsFind findBy at e
  rw [← Array.find?_toList] at e
  unfold PySem.W.lookIn
  rw [hd]
  dsimp only
  split
  · rename_i y q
    rw [q] at e
    exact congrArg some e
  · rename_i q
    rw [q] at e
    have a : es.toList.any (·.refKey) = false := by
      rw [List.any_eq_false]
      intro y hy
      obtain ⟨z, t, hkey⟩ := hk y (Array.mem_toList_iff.mp hy)
      simp [DictEntry.refKey, hkey]
    have a' : ¬ es.toList.any (·.refKey) = true := by rw [a]; exact Bool.false_ne_true
    rw [if_neg a']
    exact congrArg some e

theorem ObjM.look {h : Heap} {x dx C : Addr} {mA : Str → Option Value} (I : ObjM h x dx C mA) : ∃ od, PySem.W.InstAt h x (PySem.W.instObj C dx) C (some od) ∧ ∀ name, PySem.W.lookIn name od = some (mA name) :=
  let ⟨od, ho, hl⟩ := lookIn_ns I.ns
  ⟨od, ⟨I.obj, rfl, rfl, ho⟩, hl⟩

section
variable {prog : Program} {w : World} {A : Around} {E : Value → Shared → Prop} {s : Shared} {K : PySem.W.Frag} {x dx C f : Addr} {mA : Str → Option Value} {name : Str} {v : Value}

end

/-! ### the attributes as a list of pairs -/
noncomputable def putF (f : Str) (v : V) : List (Str × V) → List (Str × V)
  | [] => [(f, v)]
  | (g, x) :: r => if g = f then (g, v) :: r else (g, x) :: putF f v r
theorem RelO.some_of {v : V} {o : Option Value} (r : RelO (some v) o) : ∃ u, o = some u ∧ RelV v u := by
  cases o with
  | none => exact (show False from r).elim
  | some u => exact ⟨u, rfl, r⟩
theorem handed_of {v : V} {u : Value} (r : RelV v u) : PySem.W.handedIn u = true := by
  cases v with
  | non => cases (show u = Value.none from r); rfl
  | bl b => cases (show u = Value.bool b from r); rfl
  | int i => obtain ⟨t, e⟩ := (show ∃ t, u = Value.int i t from r); cases e; rfl
  | str x => obtain ⟨t, e⟩ := (show ∃ t, u = Value.str x t from r); cases e; rfl
  | byt b => obtain ⟨t, e⟩ := (show ∃ t, u = Value.bytes b t from r); cases e; rfl
  | flt b => obtain ⟨t, e⟩ := (show ∃ t, u = Value.float b t from r); cases e; rfl
  | ref a => cases (show u = Value.ref a from r); rfl
  | ty n => cases (show u = Value.type n from r); rfl

section
variable {P : Program} {w : World} {H H' : Hp} {h h' : Heap} {a C dx : Addr} {fs fs' : List (Str × V)}
theorem ins_get (hok : HOk P w H h) (e : H a = some (.ins C dx fs)) : ∃ mA, ObjM h a dx C mA ∧ (∀ f, RelO (fs.lookup f) (mA f)) ∧ PySem.Within mA (fs.map (·.1)) ∧ fs.length ≤ 1000 ∧ H dx = some (.own a) := by
  obtain ⟨d, z, ne, ob, mA, n, r, q⟩ := (show ObjOk P w H h a (.ins C dx fs) from hok a _ e)
  exact ⟨mA, ⟨ob, n, ne⟩, r, q, z, d⟩
end

/-! ### what of the text a class must have -/
structure Cls (K : PySem.W.Frag) (C : Addr) : Prop where
  pg : PySem.W.plainGet K C Str.empty = true
  hd : PySem.W.hasDictIn K C = true
  po : PySem.W.plainOver K C = true
  sa : PySem.W.findIn K (.ref C) "__setattr__" = some (some (.builtin "object.__setattr__"))
theorem Cls.get {K : PySem.W.Frag} {C : Addr} (c : Cls K C) (f : Str) : PySem.W.plainGet K C f = true := c.pg
noncomputable def NoAttr (K : PySem.W.Frag) (C : Addr) (f : Str) : Prop := PySem.W.findIn K (.ref C) f = some none
structure Con (K : PySem.W.Frag) (C : Addr) (f : Str) (v : V) (u : Value) : Prop where
  at_ : PySem.W.findIn K (.ref C) f = some (some u)
  rel : RelV v u
  get : PySem.W.specialIn K u "__get__" = some none
  cp : PySem.W.copiedNames.contains f = false
structure Meth (K : PySem.W.Frag) (C : Addr) (m : Str) (f : Addr) : Prop where
  at_ : PySem.W.findIn K (.ref C) m = some (some (.ref f))
  fn : PySem.W.isFn K (.ref f) = true
  kp : PySem.W.keepIn K (.ref f) = true

section
variable {X : Cx} {pins : List (Addr × Obj)} {σ : St} {H : Hp} {s : Shared} {a C dx : Addr} {fs : List (Str × V)} {f : Str} {v : V} {A : Around} {E : Value → Shared → Prop}

theorem attr_of {prog : Program} {w : World} {env : Env} {e : Expr} {f : Str} {pos : Pos} {s : Shared} {Q : Value → Shared → Prop} (hb : attributeBase e f env (eval e env) = eval e env)
    (h : wpAny (model prog w) A (eval e env) (fun o s₁ => wpAny (model prog w) A (getAttr o f true) Q E s₁) E s) : wpAny (model prog w) A (eval (.Attribute e f pos) env) Q E s :=
  Attribute_any_ h (by rw [arm_eval_Attribute, hb])
end

/-! ### readings and rules -/
noncomputable def tFld (K : PySem.W.Frag) (ta : TE) (f : Str) : TE := fun σ H Q => ta σ H fun x H1 => ∃ a C dx fs v, x = .ref a ∧ H1 a = some (.ins C dx fs) ∧ Cls K C ∧ NoAttr K C f ∧ fs.lookup f = some v ∧ Q v H1
noncomputable def tCon (K : PySem.W.Frag) (ta : TE) (f : Str) : TE := fun σ H Q => ta σ H fun x H1 => ∃ a C dx fs v u, x = .ref a ∧ H1 a = some (.ins C dx fs) ∧ Cls K C ∧ Con K C f v u ∧ fs.lookup f = none ∧ Q v H1
noncomputable def sFld (K : PySem.W.Frag) (ta tv : TE) (f : Str) : TS := fun D σ H => tv σ H fun y H1 => ta σ H1 fun x H2 => ∃ a C dx fs, x = .ref a ∧ H2 a = some (.ins C dx fs) ∧ Cls K C ∧ NoAttr K C f ∧ fs.length < 1000 ∧
  D.nx σ (upd H2 a (.ins C dx (putF f y fs)))
noncomputable def InOp (X : Cx) (op : Operator) (rd : V → V → Hp → VK → Prop) : Prop :=
  ∀ (pins : List (Addr × Obj)) (s : Shared) (σ : St) (H : Hp) (x y : V) (u v : Value) (Q : VK), Inv X pins σ H s → RelV x u → RelV y v → rd x y H Q → wpAny (model X.prog X.w) X.A (inplaceOp op u v) (EP X pins σ Q) X.xe s
noncomputable def sFldAug (K : PySem.W.Frag) (ta tv : TE) (rd : V → V → Hp → VK → Prop) (f : Str) : TS := fun D σ H => ta σ H fun x H1 => ∃ a C dx fs v, x = .ref a ∧ H1 a = some (.ins C dx fs) ∧ Cls K C ∧ NoAttr K C f ∧ fs.lookup f = some v ∧
  tv σ H1 fun y H2 => rd v y H2 fun z H3 => ∃ dx' fs', H3 a = some (.ins C dx' fs') ∧ fs'.length < 1000 ∧ D.nx σ (upd H3 a (.ins C dx' (putF f z fs')))

section
variable {X : Cx} {o e value : Expr} {f : Str} {pos pos' tpos : Pos} {ta tv : TE}
noncomputable def rAdd : V → V → Hp → VK → Prop := fun x y H Q => ∃ i j, x = .int i ∧ y = .int j ∧ Q (.int (i + j)) H
noncomputable def rSub : V → V → Hp → VK → Prop := fun x y H Q => ∃ i j, x = .int i ∧ y = .int j ∧ Q (.int (i - j)) H
end

/-! ### isinstance -/
section
variable {X : Cx} {pins : List (Addr × Obj)} {σ : St} {H : Hp} {s : Shared} {A : Around} {E : Value → Shared → Prop} {Q : Value → Shared → Prop} {c : Value} {b : Bool}
inductive TyOf (K : PySem.W.Frag) (H : Hp) : V → Value → Prop where
  | non : TyOf K H .non (.type "NoneType")
  | bl (x : Bool) : TyOf K H (.bl x) (.type "bool")
  | int (i : Int) : TyOf K H (.int i) (.type "int")
  | str (x : Str) : TyOf K H (.str x) (.type "str")
  | flt (x : UInt64) : TyOf K H (.flt x) (.type "float")
  | lst {a : Addr} {xs : List V} (e : H a = some (.lst xs)) : TyOf K H (.ref a) (.type "list")
  | frz {a : Addr} {o : Obj} {xs : List V} (e : H a = some (.frz o (.lst xs))) : TyOf K H (.ref a) (.type "list")
  | tup {a : Addr} {xs : List V} (e : H a = some (.tup xs)) : TyOf K H (.ref a) (.type "tuple")
  | dK {a : Addr} {kvs : List (Key × V)} (e : H a = some (.dK kvs)) : TyOf K H (.ref a) (.type "dict")
  | dT {a : Addr} {kvs : List (List Key × V)} (e : H a = some (.dT kvs)) : TyOf K H (.ref a) (.type "dict")
  | ins {a C dx : Addr} {fs : List (Str × V)} (e : H a = some (.ins C dx fs)) (cl : Cls K C) (ha : PySem.W.findIn K (.ref C) "__class__" = some (some (.builtin "object.__class__")))
      (hn : PySem.W.specialIn K (.builtin "object.__class__") "__get__" = some (some (.builtin "getset_descriptor.__get__"))) (htk : PySem.W.takesIn K (.builtin "object.__class__") = some true)
      (hm : PySem.W.mroIn K C (.type "object") = some true) : TyOf K H (.ref a) (.ref C)
theorem isinst_ok {x : V} {u t : Value} (I : Inv X pins σ H s) (rx : RelV x u) (ty : TyOf X.K H x t) (e : PySem.W.kitOne X.K t c = some b) (h : ∀ tk, Q (.bool b) { s with toks := tk }) :
    wpAny (model X.prog X.w) A (call (.builtin "isinstance") [u, c]) Q E s := by
  cases ty with
  | non => cases (show u = Value.none from rx); exact PySem.W.kia_one PySem.W.kitx_none I.kIn True.intro e (fun z => nomatch z) h
  | bl y => cases (show u = Value.bool y from rx); exact PySem.W.kia_one PySem.W.kitx_bool I.kIn True.intro e (fun z => nomatch z) h
  | int i => obtain ⟨t, q⟩ := (show ∃ t, u = Value.int i t from rx); cases q; exact PySem.W.kia_one PySem.W.kitx_int I.kIn True.intro e (fun z => nomatch z) h
  | str y => obtain ⟨t, q⟩ := (show ∃ t, u = Value.str y t from rx); cases q; exact PySem.W.kia_one PySem.W.kitx_str I.kIn True.intro e (fun z => nomatch z) h
  | flt y => obtain ⟨t, q⟩ := (show ∃ t, u = Value.float y t from rx); cases q; exact PySem.W.kia_one PySem.W.kitx_float I.kIn True.intro e (fun z => nomatch z) h
  | @lst a xs ea =>
    cases (show u = Value.ref a from rx)
    obtain ⟨_, _, n, _, h1⟩ := (show ObjOk X.prog X.w H s.heap a (.lst xs) from I.hok a _ ea)
    exact PySem.W.kia_one PySem.W.kitx_list I.kIn ⟨_, h1, rfl⟩ e (fun z => nomatch z) h
  | @frz a ob xs ea =>
    cases (show u = Value.ref a from rx)
    obtain ⟨_, _, _, n, _, h1⟩ := (show ObjOk X.prog X.w H s.heap a (.frz ob (.lst xs)) from I.hok a _ ea)
    exact PySem.W.kia_one PySem.W.kitx_list I.kIn ⟨_, h1, rfl⟩ e (fun z => nomatch z) h
  | @tup a xs ea =>
    cases (show u = Value.ref a from rx)
    obtain ⟨_, _, _, p⟩ := (show ObjOk X.prog X.w H s.heap a (.tup xs) from I.hok a _ ea)
    obtain ⟨o, h1, h2, _⟩ := p
    exact PySem.W.kia_one PySem.W.kitx_tuple I.kIn ⟨o, h1, h2⟩ e (fun z => nomatch z) h
  | @dK a kvs ea =>
    cases (show u = Value.ref a from rx)
    obtain ⟨_, _, vs, _, p⟩ := (show ObjOk X.prog X.w H s.heap a (.dK kvs) from I.hok a _ ea)
    obtain ⟨o, es, ep, h1, h2, _⟩ := p
    exact PySem.W.kia_one PySem.W.kitx_dict I.kIn ⟨o, h1, h2.1⟩ e (fun z => nomatch z) h
  | @dT a kvs ea =>
    cases (show u = Value.ref a from rx)
    obtain ⟨_, _, xs, _, o, es, ep, h1, h2, _⟩ := (show ObjOk X.prog X.w H s.heap a (.dT kvs) from I.hok a _ ea)
    exact PySem.W.kia_one PySem.W.kitx_dict I.kIn ⟨o, h1, h2.1⟩ e (fun z => nomatch z) h
  | @ins a C dx fs ea cl ha hn htk hm =>
    cases (show u = Value.ref a from rx)
    obtain ⟨mA, O, _⟩ := ins_get I.hok ea
    obtain ⟨od, J, _⟩ := O.look
    exact PySem.W.kia_one (PySem.W.kitx_own (cl.get _) cl.hd ha hn htk hm) I.kIn J e (fun z => nomatch z) h
end
end L2

namespace L2
open PySem PySem.Spec PyProof.Rows

/-! ### room -/
structure Room (k : Nat) (A : Around) : Prop where
  hd : A.handled = none
  dp : A.depth + 3 * k + 5 < recursionLimit
  un : A.units + 16 * k + 200 < cLine
theorem Room.mono {j k : Nat} {A : Around} (r : Room k A) (h : j ≤ k) : Room j A := ⟨r.hd, by have := r.dp; (first | lia | omega), by have := r.un; (first | lia | omega)⟩
theorem Room.deeper {k : Nat} {A : Around} (r : Room (k + 1) A) (env : Env) : Room k (A.deeper env) :=
  ⟨r.hd, by have := r.dp; show A.depth + 1 + 3 * k + 5 < _; (first | lia | omega), by have := r.un; show A.units + 3 + 16 * k + 200 < _; (first | lia | omega)⟩
theorem make_depth {A : Around} {C : Addr} {us : List Value} {kw : List (Str × Value)} : (A.under (.builtin "type.__call__" ⟨.ref C :: us, kw⟩)).depth = A.depth + 1 := by
  first | rfl | simp [Around.under, Code.weight, Code.isCreation, Code.isGuard, Code.isCaller, Code.frames, Code.isFrame, guardIds]
theorem make_units {A : Around} {C : Addr} {us : List Value} {kw : List (Str × Value)} : (A.under (.builtin "type.__call__" ⟨.ref C :: us, kw⟩)).units = A.units + 1 := by
  first | rfl | simp [Around.under, Code.cUnits, Code.frames, Code.isFrame]
theorem Room.make {k : Nat} {A : Around} (r : Room (k + 1) A) (C : Addr) (us : List Value) (kw : List (Str × Value)) : Room k (A.under (.builtin "type.__call__" ⟨.ref C :: us, kw⟩)) :=
  ⟨r.hd, by have := r.dp; rw [make_depth]; (first | lia | omega), by have := r.un; rw [make_units]; (first | lia | omega)⟩
theorem Room.depth {k : Nat} {A : Around} (r : Room k A) : A.depth < recursionLimit := by have := r.dp; (first | lia | omega)
theorem Room.units {k : Nat} {A : Around} (r : Room k A) : A.units + 64 < cLine := by have := r.un; (first | lia | omega)
theorem Room.units0 {k : Nat} {A : Around} (r : Room k A) : A.units < cLine := by have := r.un; (first | lia | omega)

/-! ### argument lists and displays -/
noncomputable def tNil : TA := fun _ H Q => Q [] H
noncomputable def tCons (ta : TE) (tr : TA) : TA := fun σ H Q => ta σ H fun x H1 => tr σ H1 fun xs H2 => Q (x :: xs) H2
section
variable {X : Cx} {e : Expr} {es : List Expr} {te : TE} {t : TA} {pos : Pos}
theorem pa_nil : PA X [] tNil := fun _ _ _ _ H Q I h => Calls.spliced_nil ⟨[], H, I, .nil, h⟩
theorem pa_cons (ha : PE X e te) (hr : PA X es t) (hs : starEach (e :: es) X.env = (false, eval e X.env) :: starEach es X.env := by rfl) : PA X (e :: es) (tCons te t) := by
  intro pos pins s σ H Q I h
  rw [hs]
  show wpAny _ _ (spliced ((false, eval e X.env) :: backTo pos (starEach es X.env))) _ _ s
  refine Calls.spliced_cons (thn (ha pins s σ H _ I h) fun u s1 hz31 => ?_)
  obtain ⟨x, H1, I1, r1, q1⟩ := hz31
  exact thn (hr pos pins s1 σ H1 _ I1 q1) fun us s2 ⟨xs, H2, I2, r2, q2⟩ => ⟨x :: xs, H2, I2, .cons r1 r2, q2⟩

noncomputable def tTup (t : TA) : TE := fun σ H Q => t σ H fun xs H1 => xs.length ≤ sizeLine ∧ ∀ p, H1 p = none → Q (.ref p) (upd H1 p (.tup xs))
noncomputable def tLst (t : TA) : TE := fun σ H Q => t σ H fun xs H1 => xs.length ≤ sizeLine ∧ ∀ p, H1 p = none → Q (.ref p) (upd H1 p (.lst xs))
theorem pe_tup {x1} (h : PA X es t) : PE X (.Tuple es x1 pos) (tTup t) := by
  intro pins s σ H Q I hq
  refine wpAny_Tuple_spliced (thn (h pos pins s σ H _ I hq) fun us s1 ⟨xs, H1, I1, r, z, q⟩ => ⟨by rw [← r.length]; exact z, ?_⟩)
  have hf : H1 s1.heap.objs.size = none := I1.hok.fresh (Nat.le_refl _)
  refine ⟨.ref s1.heap.objs.size, upd H1 s1.heap.objs.size (.tup xs), I1.laid (t' := s1.toks) (fun b u e => Heap.get?_push_of_some _ e) (Nat.le_refl _) ?_, rfl, q _ hf⟩
  exact ⟨z, us, r, ⟨_, Heap.get?_push_size _ rfl, rfl, _, rfl⟩⟩
theorem pe_lst (h : PA X es t) : PE X (.List es pos) (tLst t) := by
  intro pins s σ H Q I hq
  refine wpAny_List_spliced (thn (h pos pins s σ H _ I hq) fun us s1 ⟨xs, H1, I1, r, z, q⟩ => ⟨by rw [← r.length]; exact z, ?_⟩)
  have hf : H1 s1.heap.objs.size = none := I1.hok.fresh (Nat.le_refl _)
  refine ⟨.ref s1.heap.objs.size, upd H1 s1.heap.objs.size (.lst xs), I1.laid (t' := s1.toks) (fun b u e => Heap.get?_push_of_some _ e) (Nat.le_refl _) ?_, rfl, q _ hf⟩
  exact ⟨z, us, 0, r, Heap.get?_push_size _ rfl⟩
end

/-! ### what a def promises -/
noncomputable abbrev Sp := List V → Hp → VK → XK → Prop
noncomputable abbrev CXT := List Env → Hp → Shared → XK → Value → Shared → Prop

structure Env0 (P : Program) (w : World) (K : PySem.W.Frag) (mg : Str → Option Value) (base : Heap) (A : Around) (outer : List Env) (s : Shared) (H : Hp) : Prop where
  frames : A.frames = some outer
  mod : Mod K mg base
  bs : ∀ b o, base.get? b = some o → s.heap.get? b = some o ∧ H b = none
  bsz : base.objs.size ≤ s.heap.objs.size
  funs : s.heap.FunFrames base outer
  frf : ∀ b ∈ frs outer, H b = none
  hok : HOk P w H s.heap
  bare : AllBare s.gens
noncomputable def CE (outer : List Env) (P : Program) (w : World) (H : Hp) (s : Shared) (Q : VK) (u : Value) (s' : Shared) : Prop :=
  ∃ v H', s'.os = s.os ∧ AllBare s'.gens ∧ Un (frs outer) [] H H' s.heap s'.heap ∧ HOk P w H' s'.heap ∧ RelV v u ∧ Q v H'
noncomputable def CR (CX : CXT) (outer : List Env) (P : Program) (w : World) (H : Hp) (s : Shared) (Q : VK) (E : XK) (r : Result) (s' : Shared) : Prop :=
  match r with
  | .ok (.ret u) => CE outer P w H s Q u s'
  | .ok _ => False
  | .error e => CX outer H s E e s'
structure FnOk (P : Program) (w : World) (K : PySem.W.Frag) (mg : Str → Option Value) (base : Heap) (CX : CXT) (k : Nat) (f : Addr) (fd : FuncData) (ps : List Str) (sp : Sp) : Prop where
  len : ∀ vs H Q E, sp vs H Q E → vs.length = ps.length
  run : ∀ (A : Around) (outer : List Env) (s : Shared) (H : Hp) (args : Args) (us : List Value) (vs : List V) (Q : VK) (E : XK), Room k A → Env0 P w K mg base A outer s H → BindsTo s fd args (ps.zip us) → Vals vs us → sp vs H Q E →
    codeAny (model P w) A (.call (.ref f) args) (CR CX outer P w H s Q E) s
theorem Env0.make {P : Program} {w : World} {K : PySem.W.Frag} {mg : Str → Option Value} {base : Heap} {A : Around} {outer : List Env} {s : Shared} {H : Hp} (e : Env0 P w K mg base A outer s H) (C : Addr) (us : List Value) (kw : List (Str × Value)) :
    Env0 P w K mg base (A.under (.builtin "type.__call__" ⟨.ref C :: us, kw⟩)) outer s H := ⟨by first | exact e.frames | (simpa [Around.under, Code.envs, Code.isFrame, pushEnvs] using e.frames), e.mod, e.bs, e.bsz, e.funs, e.frf, e.hok, e.bare⟩
section
variable {X : Cx} {pins : List (Addr × Obj)} {σ : St} {H : Hp} {s s' : Shared}
theorem Inv.env0 (I : Inv X pins σ H s) : Env0 X.prog X.w X.K X.mg X.base X.A X.stack s H :=
  ⟨I.ok.frames, I.ok.mod, I.bs, Nat.le_trans I.ok.bsz I.sz, I.stack, I.stkFree, I.hok, I.bare⟩
theorem Inv.after {Q : VK} {u : Value} (I : Inv X pins σ H s) (h : CE X.stack X.prog X.w H s Q u s') : EP X pins σ Q u s' := by
  obtain ⟨v, H', os, bare, un, hok, r, q⟩ := h
  obtain ⟨hh, g, d, t, os'⟩ := s'
  obtain rfl : os' = s.os := os
  exact ⟨v, H', I.call (h' := hh) (g' := g) (d' := d) (t' := t) (ch := []) un hok bare (fun b z => absurd z (by simp)), r, q⟩
end

/-! ### calls -/
noncomputable def tCall (sp : Sp) (dvs : List V) (E : XK) (t : TA) : TE := fun σ H Q => t σ H fun vs H1 => sp (vs ++ dvs) H1 Q E
noncomputable def tMeth (C : Addr) (m : Str) (sp : Sp) (dvs : List V) (E : XK) (ta : TE) (t : TA) : TE := fun σ H Q => ta σ H fun x H1 => ∃ a dx fs, x = .ref a ∧ H1 a = some (.ins C dx fs) ∧ fs.lookup m = none ∧
  t σ H1 fun vs H2 => sp (x :: (vs ++ dvs)) H2 Q E
noncomputable def tMake (C : Addr) (sp : Sp) (dvs : List V) (E : XK) (t : TA) : TE := fun σ H Q => t σ H fun vs H1 => ∀ x dx, H1 x = none → H1 dx = none → dx ≠ x →
  sp (.ref x :: (vs ++ dvs)) (upd (upd H1 dx (.own x)) x (.ins C dx [])) (fun v H2 => v = .non ∧ Q (.ref x) H2) E

noncomputable def Binds (K : PySem.W.Frag) (fd : FuncData) (ps : List Str) (ds : List Value) : Prop :=
  ∀ (s : Shared) (us : List Value), K.In s.heap → (us ++ ds).length = ps.length → BindsTo s fd ⟨us, []⟩ (ps.zip (us ++ ds))
theorem Binds.all {K : PySem.W.Frag} {fd : FuncData} {ps : List Str} (h : ∀ us : List Value, us.length = ps.length → bindArgs fd ⟨us, []⟩ = pure (ps.zip us)) : Binds K fd ps [] := fun s us _ hl => by
  rw [List.append_nil] at hl ⊢
  exact .of_eq (h us hl)

noncomputable def Passes (CX : CXT) (X : Cx) (E : XK) : Prop := ∀ (pins : List (Addr × Obj)) (σ : St) (H : Hp) (s : Shared) (e : Value) (s' : Shared), Inv X pins σ H s → CX X.stack H s E e s' → X.xe e s'

section
variable {X : Cx} {CX : CXT} {k : Nat} {f C : Addr} {fd : FuncData} {ps : List Str} {sp : Sp} {dvs : List V} {ds : List Value} {E : XK} {x m : Str} {p pos apos : Pos} {e o : Expr} {es : List Expr} {ta : TE} {t : TA}

theorem run_fn {pins : List (Addr × Obj)} {σ : St} {H : Hp} {s : Shared} {Q : VK} {us : List Value} {vs : List V} (F : FnOk X.prog X.w X.K X.mg X.base CX k f fd ps sp) (hr : Room k X.A) (hb : Binds X.K fd ps ds) (hd : Vals dvs ds) (hx : Passes CX X E)
    (I : Inv X pins σ H s) (r : Vals vs us) (h : sp (vs ++ dvs) H Q E) : wpAny (model X.prog X.w) X.A (call (.ref f) us) (EP X pins σ Q) X.xe s := by
  have r2 : Vals (vs ++ dvs) (us ++ ds) := r.append hd
  have hl : (us ++ ds).length = ps.length := by rw [← r2.length]; exact F.len _ _ _ _ h
  refine wpAny_call (codeAny_mono (F.run X.A X.stack s H ⟨us, []⟩ (us ++ ds) (vs ++ dvs) Q E hr I.env0 (hb s us I.kIn hl) r2 h) fun r s' hq => ?_)
  cases r with
  | error e => exact hx pins σ H s e s' I hq
  | ok fl =>
    cases fl with
    | ret u => exact I.after hq
    | next => exact False.elim hq
    | brk => exact False.elim hq
    | cont => exact False.elim hq

theorem pe_call (F : FnOk X.prog X.w X.K X.mg X.base CX k f fd ps sp) (hr : Room k X.A) (hg : Gl X x) (hm : X.mg x = some (.ref f)) (hk : PySem.W.keepIn X.K (.ref f) = true) (hb : Binds X.K fd ps ds) (hd : Vals dvs ds) (hx : Passes CX X E)
    (ha : PA X (e :: es) t) (hdb : (x == ("__debug__" : Str)) = false := by decide) (he : starEach (e :: es) X.env = (false, eval e X.env) :: starEach es X.env := by rfl) (hpl : (backTo pos (starEach es X.env)).any (·.1) = false := by rfl) :
    PE X (.Call (.Name x p) (e :: es) [] pos) (tCall sp dvs E t) := by
  intro pins s σ H Q I h
  refine wpAny_Call_Name_kw (ld_glob I hg hm ?_ hdb)
  refine PySem.W.callWith_K (h₀ := X.base) I.ok.mod.kin hk (thn (ha pos pins s σ H _ I h) fun us s1 ⟨vs, H1, I1, r, q⟩ => ⟨I1.kIn, ?_⟩) he hpl
  exact run_fn F hr hb hd hx I1 r q
structure Mk (K : PySem.W.Frag) (C f : Addr) : Prop where
  makes : PySem.W.makesIn K C = true
  init : PySem.W.findIn K (.ref C) "__init__" = some (some (.ref f))
  fn : PySem.W.isFn K (.ref f) = true
  kp : PySem.W.keepIn K (.ref C) = true

end

/-! ### keywords -/
noncomputable def PK (X : Cx) (kws : List Keyword) (t : TA) : Prop :=
  ∀ (pos : Pos) (pins : List (Addr × Obj)) (s : Shared) (σ : St) (H : Hp) (Q : List V → Hp → Prop), Inv X pins σ H s → t σ H Q → wpAny (model X.prog X.w) X.A (evalAll ((backToKw pos (keywordEach kws X.env)).map (·.2))) (AP X pins σ Q) X.xe s
section
variable {X : Cx} {CX : CXT} {k : Nat} {f C : Addr} {fd : FuncData} {ps ks : List Str} {sp : Sp} {E : XK} {x m : Str} {p pos apos kpos : Pos} {e o : Expr} {es : List Expr} {kws : List Keyword} {te ta : TE} {t tk : TA} {nm : Option Str}
structure KBinds (K : PySem.W.Frag) (fd : FuncData) (ps ks : List Str) (g : List Value → List Value → List Value) (gV : List V → List V → List V) : Prop where
  to : ∀ (s : Shared) (us ws : List Value), K.In s.heap → (g us ws).length = ps.length → BindsTo s fd ⟨us, ks.zip ws⟩ (ps.zip (g us ws))
  rel : ∀ {vs : List V} {us : List Value} {zs : List V} {ws : List Value}, Vals vs us → Vals zs ws → Vals (gV vs zs) (g us ws)
noncomputable def tCallK (sp : Sp) (gV : List V → List V → List V) (E : XK) (t tk : TA) : TE := fun σ H Q => t σ H fun vs H1 => tk σ H1 fun zs H2 => sp (gV vs zs) H2 Q E
variable {g : List Value → List Value → List Value} {gV : List V → List V → List V}
end

/-! ### a def's body keeps its promise -/
structure FnScope (N P : List Str) (sc : Scope) : Prop where
  kind : sc.kind = .function
  co : sc.isCoroutine = false
  gen : sc.isGenerator = false
  nd : N.Nodup
  pre : N.take P.length = P
  par : ∀ x ∈ P, sc.names.lookup x = some .local ∨ sc.names.lookup x = some .cell
  nofree : ∀ y ∈ sc.names, y.2 ≠ .free

theorem bindL_out {kindOf : Str → Option NameKind} {x : Str} : ∀ {binds : List (Str × Value)} {m : Str → Option Value}, (∀ v, (x, v) ∉ binds) → bindL kindOf binds m x = m x
  | [], _, _ => rfl
  | (n, v) :: r, m, h => by
    unfold bindL
    rw [bindL_out fun w hw => h w (List.mem_cons_of_mem _ hw)]
    split
    · have : x ≠ n := by rintro rfl; exact h v List.mem_cons_self
      simp [this]
    · rfl
theorem bindC_out {kindOf : Str → Option NameKind} {x : Str} : ∀ {binds : List (Str × Value)} {m : Str → Option Value}, (∀ v, (x, v) ∉ binds) → bindC kindOf binds m x = m x
  | [], _, _ => rfl
  | (n, v) :: r, m, h => by
    unfold bindC
    rw [bindC_out fun w hw => h w (List.mem_cons_of_mem _ hw)]
    split
    · rfl
    · have : x ≠ n := by rintro rfl; exact h v List.mem_cons_self
      simp [this]
theorem bindL_get {kindOf : Str → Option NameKind} {x : Str} {v : Value} : ∀ {P : List Str} {vs : List Value} {i : Nat} {m : Str → Option Value}, P.Nodup → P[i]? = some x → vs[i]? = some v → kindOf x = some .local →
    bindL kindOf (P.zip vs) m x = some v
  | [], _, _, _, _, h, _, _ => by simp at h
  | _ :: _, [], _, _, _, _, h, _ => by simp at h
  | p :: P, w :: vs, 0, m, nd, h1, h2, hk => by
    simp at h1 h2; subst h1; subst h2
    show bindL kindOf ((p, w) :: P.zip vs) m p = _
    unfold bindL
    rw [bindL_out fun v hv => (List.nodup_cons.mp nd).1 (List.of_mem_zip hv).1, if_pos hk]
    simp
  | p :: P, w :: vs, i + 1, m, nd, h1, h2, hk => by
    show bindL kindOf ((p, w) :: P.zip vs) m x = _
    unfold bindL
    exact bindL_get (i := i) (List.nodup_cons.mp nd).2 (by simpa using h1) (by simpa using h2) hk
theorem bindC_get {kindOf : Str → Option NameKind} {x : Str} {v : Value} : ∀ {P : List Str} {vs : List Value} {i : Nat} {m : Str → Option Value}, P.Nodup → P[i]? = some x → vs[i]? = some v → kindOf x ≠ some .local →
    bindC kindOf (P.zip vs) m x = some v
  | [], _, _, _, _, h, _, _ => by simp at h
  | _ :: _, [], _, _, _, _, h, _ => by simp at h
  | p :: P, w :: vs, 0, m, nd, h1, h2, hk => by
    simp at h1 h2; subst h1; subst h2
    show bindC kindOf ((p, w) :: P.zip vs) m p = _
    unfold bindC
    rw [bindC_out fun v hv => (List.nodup_cons.mp nd).1 (List.of_mem_zip hv).1, if_neg hk]
    simp
  | p :: P, w :: vs, i + 1, m, nd, h1, h2, hk => by
    show bindC kindOf ((p, w) :: P.zip vs) m x = _
    unfold bindC
    exact bindC_get (i := i) (List.nodup_cons.mp nd).2 (by simpa using h1) (by simpa using h2) hk

noncomputable def start (N : List Str) (vs : List V) : St := vs.map some ++ List.replicate (N.length - vs.length) none

noncomputable def cxOf (CX : CXT) (P : Program) (w : World) (K : PySem.W.Frag) (mg : Str → Option Value) (base : Heap) (N : List Str) (qual : Str) (scope : Scope) (f : Addr) (cd : Value) (A : Around) (outer : List Env) (s : Shared) (H : Hp) (E : XK) : Cx where
  prog := P
  w := w
  K := K
  mg := mg
  base := base
  A := A.deeper (envOfC qual scope s.heap.objs.size f cd)
  N := N
  s₀ := s
  H₀ := H
  env := envOfC qual scope s.heap.objs.size f cd
  outer := outer
  stack := envOfC qual scope s.heap.objs.size f cd :: outer
  ex := []
  calm := true
  fn := fun _ => true
  pn := []
  xe := fun e s' => wpAny (model P w) (A.deeper (envOfC qual scope s.heap.objs.size f cd)) (leaving (envOfC qual scope s.heap.objs.size f cd) e) (fun _ s'' => CX outer H s E e s'') (fun e' s'' => CX outer H s E e' s'') s'

theorem cell_has {sc : Scope} {n : Nat} {x : Str} (h : sc.names.lookup x = some .cell) : ∃ c, (cellsFrom n sc.names []).lookup x = some c := by
  have q := PySem.W.cellsFrom_some sc.names n [] (.inl h)
  exact Option.isSome_iff_exists.mp q

theorem inv_start {CX : CXT} {P : Program} {w : World} {K : PySem.W.Frag} {mg : Str → Option Value} {base : Heap} {N ps : List Str} {qual : Str} {scope : Scope} {f : Addr} {cd : Value} {A : Around} {outer : List Env} {s s1 : Shared} {H : Hp} {E : XK} {us : List Value} {vs : List V}
    (S : FnScope N ps scope) (hd : A.handled = none) (e0 : Env0 P w K mg base A outer s H) (hl : vs.length = ps.length) (r : Vals vs us)
    (x : InCallC s s.heap.objs.size (bindL (envOfC qual scope s.heap.objs.size f cd).kindOf (ps.zip us) fun _ => none) (cellsFrom (s.heap.objs.size + 1) scope.names []) (bindC (envOfC qual scope s.heap.objs.size f cd).kindOf (ps.zip us) fun _ => none) s1) :
    Inv (cxOf CX P w K mg base N qual scope f cd A outer s H E) [] (start N vs) H s1 := by
  have hpl : ps.length ≤ N.length := by have := congrArg List.length S.pre; rw [List.length_take] at this; (first | lia | omega)
  obtain ⟨h1, tk, rfl, hk⟩ := x.done
  have noA : ∀ b : Addr, b ∉ (cxOf CX P w K mg base N qual scope f cd A outer s H E).ex := fun b z => absurd (show b ∈ ([] : List Addr) from z) (by simp)
  refine ⟨⟨e0.mod, S.kind, rfl, rfl, Nat.le_refl _, fun y z c h1 h2 => ?_, fun y hy => ?_, fun y c _ h => ?_, fun _ => hd, Around.frames_deeper e0.frames, .inr ⟨rfl, rfl⟩, fun b z => absurd z (noA b), e0.bs, e0.bsz, fun b _ _ => noA b, fun b z => absurd z (noA b), e0.funs, e0.frf⟩,
    rfl, e0.bare, Un.kept hk, ⟨_, x.toInCall.ns, fun i y v h1 h2 h3 => ?_⟩, fun y c h => ⟨_, x.cell y c h⟩, e0.hok.fresh (Nat.le_refl _), fun y c h => ?_, fun p hp => absurd (show p ∈ ([] : List (Addr × Obj)) from hp) (by simp), e0.hok.kept hk, ?_⟩
  · exact name_of_addr x.apart (PySem.mem_of_lookup h1) (PySem.mem_of_lookup h2)
  · have hy : scope.names.lookup y = some .cell ∨ scope.names.lookup y = some .free := hy
    rcases hy with hy | hy
    · exact cell_has hy
    · exact absurd rfl (S.nofree _ (PySem.mem_of_lookup hy))
  · exact Nat.le_of_lt (x.above y c (PySem.mem_of_lookup h))
  · have hi : i < vs.length := by
      unfold start at h2
      by_cases hi : i < vs.length
      · exact hi
      · rw [List.getElem?_append_right (by simpa using hi)] at h2
        rw [List.getElem?_replicate] at h2
        split at h2 <;> cases h2
    have ha : vs[i]? = some v := by
      unfold start at h2
      rw [List.getElem?_append_left (by simpa using hi), List.getElem?_map] at h2
      cases e : vs[i]? with
      | none => rw [e] at h2; cases h2
      | some a => rw [e] at h2; cases h2; rfl
    obtain ⟨u, hu, rv⟩ := r.get ha
    have hp : ps[i]? = some y := by
      rw [← S.pre, List.getElem?_take_of_lt (by (first | lia | omega))]; exact h1
    have ndP : ps.Nodup := by rw [← S.pre]; exact S.nd.sublist (List.take_sublist _ _)
    refine ⟨u, rv, ?_⟩
    rcases S.par y (List.mem_of_getElem? hp) with k | k
    · exact .inl ⟨k, bindL_get ndP hp hu k⟩
    · obtain ⟨c, e⟩ := cell_has (n := s.heap.objs.size + 1) k
      refine .inr ⟨.inl k, c, e, ?_⟩
      have q := x.cell y c e
      rw [bindC_get ndP hp hu (by show scope.names.lookup y ≠ _; rw [k]; decide)] at q
      exact q
  · exact e0.hok.fresh (Nat.le_of_lt (x.above y c (PySem.mem_of_lookup h)))
  · unfold start
    show _ = N.length
    rw [List.length_append, List.length_map, List.length_replicate]
    (first | lia | omega)

theorem fn_of {CX : CXT} {P : Program} {w : World} {K : PySem.W.Frag} {mg : Str → Option Value} {base : Heap} {k : Nat} {f : Addr} {name qual : Str} {params : Arguments} {body : List Stmt} {scope : Scope} {dV kV doc pm cdv ct oc : Value} {an od : Option Addr}
    {osl : Array (Option Value)} {N ps : List Str} {sp : Sp} (lk : K.lookup f = some ⟨oc, od, .func (PySem.W.fnOf name qual params body scope dV kV doc pm an cdv ct), osl⟩) (hcd : PySem.W.codeIn K cdv qual = true) (S : FnScope N ps scope)
    (len : ∀ vs H Q E, sp vs H Q E → vs.length = ps.length)
    (hbody : ∀ (A : Around) (outer : List Env) (s : Shared) (H : Hp) (vs : List V) (Q : VK) (E : XK), Room k (A.deeper (envOfC qual scope s.heap.objs.size f cdv)) → sp vs H Q E →
      ∃ t, PSs (cxOf CX P w K mg base N qual scope f cdv A outer s H E) body t ∧ t { nx := fun _ H' => Q .non H', rt := Q } (start N vs) H) :
    FnOk P w K mg base CX (k + 1) f (PySem.W.fnOf name qual params body scope dV kV doc pm an cdv ct) ps sp := by
  refine ⟨len, fun A outer s H args us vs Q E hr e0 hb r hsp => ?_⟩
  have hl := len _ _ _ _ hsp
  have KX : K.In s.heap := e0.mod.kin.keeps fun b o e => (e0.bs b o e).1
  have lim : s.heap.NoLimit := e0.mod.nolimit.keeps fun b o e => (e0.bs b o e).1
  have hkind : ∀ y ∈ ps.zip us, scope.names.lookup y.1 = some .local ∨ (scope.names.lookup y.1 = some .cell ∧ ((cellsFrom (s.heap.objs.size + 1) scope.names []).lookup y.1).isSome = true) := fun ⟨n, v⟩ hy => by
    rcases S.par n (List.of_mem_zip hy).1 with q | q
    · exact .inl q
    · exact .inr ⟨q, PySem.W.cellsFrom_some _ _ _ (.inl q)⟩
  refine codeAny_call_function hr.depth (KX _ _ lk) rfl S.co S.gen rfl (PySem.W.codeRec_of KX hcd) (hb _ _ _ _ ?_)
  refine wpAny_newFunctionEnv_cells S.kind hkind fun env he s1 x => ?_
  subst he
  refine ⟨lim.keeps x.toInCall.keep, codeAny_func ?_⟩
  obtain ⟨t, ht, hq⟩ := hbody A outer s H vs Q E (hr.deeper _) hsp
  have I : Inv (cxOf CX P w K mg base N qual scope f cdv A outer s H E) [] (start N vs) H s1 := inv_start S hr.hd e0 hl r x
  refine wpAny_mono (ht [] s1 (start N vs) H _ I hq) (fun fl s' hs => ?_) fun e s' hs => hs
  have fin : ∀ {σ' : St} {H' : Hp} {v : V} {u : Value}, Inv (cxOf CX P w K mg base N qual scope f cdv A outer s H E) [] σ' H' s' → RelV v u → Q v H' → CE outer P w H s Q u s' :=
    fun {σ' H' v u} J rv q => ⟨v, H', J.os, J.bare, J.base, J.hok, rv, q⟩
  cases fl with
  | ret u =>
    obtain ⟨v, σ', H', J, rv, q⟩ := hs
    exact fin J rv q
  | next =>
    obtain ⟨σ', H', J, q⟩ := hs
    exact fin (v := V.non) (u := Value.none) J rfl q
  | brk =>
    obtain ⟨_, _, _, q⟩ := hs
    exact False.elim q
  | cont =>
    obtain ⟨_, _, _, q⟩ := hs
    exact False.elim q
end L2

namespace L2
open PySem PySem.Spec PyProof.Rows
section
variable {X : Cx} {x : Str} {p pos : Pos} {e : Expr} {es : List Expr} {t : TA} {id T : String} {r : List V → Hp → VK → Prop}

noncomputable def tCB (r : List V → Hp → VK → Prop) (t : TA) : TE := fun σ H Q => t σ H fun vs H1 => r vs H1 Q
theorem pe_callB (hc : CallR X (.builtin id) r) (hg : Gl X x) (hm : X.mg x = none) (hv : bootBuiltins x = some (.builtin id)) (ha : PA X (e :: es) t) (hn : x ≠ "__name__" := by decide) (hdb : (x == ("__debug__" : Str)) = false := by decide)
    (he : starEach (e :: es) X.env = (false, eval e X.env) :: starEach es X.env := by rfl) (hpl : (backTo pos (starEach es X.env)).any (·.1) = false := by rfl) : PE X (.Call (.Name x p) (e :: es) [] pos) (tCB r t) := by
  intro pins s σ H Q I h
  refine wpAny_Call_Name_kw (ld_blt I hg hm hv ?_ hn hdb)
  exact PyProof.Rows.callWith_builtin1 (thn (ha pos pins s σ H _ I h) fun us s1 ⟨vs, H1, I1, r1, q1⟩ => hc pins s1 σ H1 vs us Q I1 r1 q1) he hpl
theorem pe_callTy (hc : CallR X (.type T) r) (hg : Gl X x) (hm : X.mg x = none) (hv : bootBuiltins x = some (.type T)) (ha : PA X (e :: es) t) (hn : x ≠ "__name__" := by decide) (hdb : (x == ("__debug__" : Str)) = false := by decide)
    (he : starEach (e :: es) X.env = (false, eval e X.env) :: starEach es X.env := by rfl) (hpl : (backTo pos (starEach es X.env)).any (·.1) = false := by rfl) : PE X (.Call (.Name x p) (e :: es) [] pos) (tCB r t) := by
  intro pins s σ H Q I h
  refine wpAny_Call_Name_kw (ld_blt I hg hm hv ?_ hn hdb)
  exact PyProof.Rows.callWith_type1 (thn (ha pos pins s σ H _ I h) fun us s1 ⟨vs, H1, I1, r1, q1⟩ => hc pins s1 σ H1 vs us Q I1 r1 q1) he hpl
end
end L2

namespace HT
open PySem PyProof.Rows

noncomputable def lexLt : List Int → List Int → Bool
  | [], [] => false
  | [], _ :: _ => true
  | _ :: _, [] => false
  | x :: xs, y :: ys => if x = y then lexLt xs ys else decide (x < y)
section
open PySem.SeqAt
open PySem.AutoSeq1 (wpAny_loadPart')
open PySem.MeetsSeq PySem.MeetsSeq2 PySem.MeetsSeq3

end

section
variable {prog : Program} {w : World} {A : Around} {E : Value → Shared → Prop} {s : Shared}

/-! ### t[a:b], not the whole -/
noncomputable def sIx (n d : Nat) : Option Int → Nat
  | none => d
  | some v => if v < 0 then (v + (n : Int)).toNat else min v.toNat n
theorem sIx_none (n d : Nat) : sIx n d none = d := rfl
theorem sIx_nat (n d k : Nat) : sIx n d (some (k : Int)) = min k n := by
  show (if (k : Int) < 0 then ((k : Int) + (n : Int)).toNat else min (k : Int).toNat n) = min k n
  rw [if_neg (by (first | lia | omega)), Int.toNat_natCast]
end
end HT

namespace L2
open PySem PySem.Spec PyProof.Rows

/-! ### the parts of a slice -/
noncomputable abbrev TO := St → Hp → (Option Int → Hp → Prop) → Prop
noncomputable def PO (X : Cx) (e : Option Expr) (t : TO) : Prop :=
  ∀ (pins : List (Addr × Obj)) (s : Shared) (σ : St) (H : Hp) (Q : Option Int → Hp → Prop), Inv X pins σ H s → t σ H Q →
    wpAny (model X.prog X.w) X.A (evalPart e X.env) (fun u s' => ∃ o H', Inv X pins σ H' s' ∧ IsPart u o ∧ Q o H') X.xe s
noncomputable def tNoPart : TO := fun _ H Q => Q none H
noncomputable def tPart (t : TE) : TO := fun σ H Q => t σ H fun x H1 => ∃ i, x = .int i ∧ Q (some i) H1

section
variable {X : Cx} {e : Expr} {te : TE} {lo hi : Option Expr} {tl th : TO} {pos p2 : Pos}

theorem po_none : PO X none tNoPart := by
  intro pins s σ H Q I h
  rw [evalPart_none]
  exact wpAny_pure ⟨none, H, I, .none, h⟩
theorem po_some (h : PE X e te) : PO X (some e) (tPart te) := by
  intro pins s σ H Q I hw
  rw [evalPart_some]
  refine thn (h pins s σ H _ I hw) fun u s1 hz32 => ?_
  obtain ⟨x, H1, I1, r1, q1⟩ := hz32
  obtain ⟨i, rfl, q⟩ := q1
  obtain ⟨t, rfl⟩ := r1
  exact ⟨some i, H1, I1, .int i t, q⟩

noncomputable def SlR (X : Cx) (r : V → Option Int → Option Int → Hp → VK → Prop) : Prop :=
  ∀ (pins : List (Addr × Obj)) (s : Shared) (σ : St) (H : Hp) (x : V) (v vl vu : Value) (lo hi : Option Int) (sl : Addr) (Q : VK), Inv X pins σ H s → RelV x v → s.heap.IsSliceOf sl vl vu .none → IsPart vl lo → IsPart vu hi → r x lo hi H Q →
    ∃ T id, typeLookup (.type T) "__getitem__" = pure (some (.builtin id)) ∧ s.TypeIs v T ∧ wpAny (model X.prog X.w) X.A (getItem v (.ref sl)) (EP X pins σ Q) X.xe s
noncomputable def tSl (r : V → Option Int → Option Int → Hp → VK → Prop) (te : TE) (tl th : TO) : TE := fun σ H Q => te σ H fun x H1 => tl σ H1 fun l H2 => th σ H2 fun u H3 => r x l u H3 Q
theorem pe_slice {r : V → Option Int → Option Int → Hp → VK → Prop} (hr : SlR X r) (he : PE X e te) (hl : PO X lo tl) (hu : PO X hi th) : PE X (.Subscript e (.Slice lo hi none p2) pos) (tSl r te tl th) := by
  intro pins s σ H Q I h
  refine Subscript_ (thn (he pins s σ H _ I h) fun v s1 hz33 => ?_)
  obtain ⟨x, H1, I1, r1, q1⟩ := hz33
  refine wpAny_Slice (thn (hl pins s1 σ H1 _ I1 q1) fun vl s2 hz34 => ?_)
  obtain ⟨l, H2, I2, pl, q2⟩ := hz34
  refine thn (hu pins s2 σ H2 _ I2 q2) fun vu s3 hz35 => ?_
  obtain ⟨u, H3, I3, pu, q3⟩ := hz35
  rw [evalPart_none]
  refine wpAny_pure ?_
  have I4 : Inv X pins σ H3 { s3 with heap := s3.heap.push { cls := .type "slice", data := .fields #[vl, vu, .none] } } := I3.kept (t' := s3.toks) fun b ob q => Heap.get?_push_of_some _ q
  obtain ⟨T, id, hT, ht, hg⟩ := hr pins { s3 with heap := s3.heap.push { cls := .type "slice", data := .fields #[vl, vu, .none] } } σ H3 x v vl vu l u s3.heap.objs.size Q I4 r1 (Heap.IsSliceOf.new ..) pl pu q3
  show wpAny (model X.prog X.w) X.A (subscriptTail e (.Slice lo hi none p2) v (.ref s3.heap.objs.size)) (EP X pins σ Q) X.xe { s3 with heap := s3.heap.push { cls := .type "slice", data := .fields #[vl, vu, .none] } }
  exact tail_any (ops := [.ref s3.heap.objs.size, v]) ht hT hg (by with_unfolding_all rfl)

noncomputable def cutV (xs : List V) (lo hi : Option Int) : List V := (xs.drop (HT.sIx xs.length 0 lo)).take (HT.sIx xs.length xs.length hi - HT.sIx xs.length 0 lo)
theorem cutV_length (xs : List V) (lo hi : Option Int) : (cutV xs lo hi).length ≤ xs.length := by
  unfold cutV
  rw [List.length_take, List.length_drop]
  (first | lia | omega)
noncomputable def rSlT (K : PySem.W.Frag) : V → Option Int → Option Int → Hp → VK → Prop := fun x lo hi H Q => ∃ a xs, x = .ref a ∧ SqT K H a xs ∧
  ¬ (HT.sIx xs.length 0 lo = 0 ∧ HT.sIx xs.length xs.length hi = xs.length) ∧ ∀ p, H p = none → Q (.ref p) (upd H p (.tup (cutV xs lo hi)))
/-! ### t < u, t + u -/
noncomputable def rLtT (K : PySem.W.Frag) : R2 := fun x y H Q => ∃ a b ns ms, x = .ref a ∧ y = .ref b ∧ SqT K H a (ns.map V.int) ∧ SqT K H b (ms.map V.int) ∧ Q (.bl (HT.lexLt ns ms)) H
noncomputable def rCatT (K : PySem.W.Frag) : R2 := fun x y H Q => ∃ a b xs ys, x = .ref a ∧ y = .ref b ∧ SqT K H a xs ∧ SqT K H b ys ∧ xs ≠ [] ∧ xs.length + ys.length ≤ sizeLine ∧
  (ys = [] → Q (.ref a) H) ∧ (ys ≠ [] → ∀ p, H p = none → Q (.ref p) (upd H p (.tup (xs ++ ys))))
end
end L2

namespace L2
open PySem PySem.Spec PyProof.Rows

/-! ### places -/
noncomputable def ixN (n : Nat) (i : Int) : Option Nat := if 0 ≤ i then (if i < n then some i.toNat else none) else if -(n : Int) ≤ i then some (i + n).toNat else none
noncomputable def atI {α : Type} (xs : List α) (i : Int) : Option α := (ixN xs.length i).bind fun j => xs[j]?
theorem ixN_seq {n : Nat} {i : Int} {j : Nat} (h : ixN n i = some j) : seqIndex? i n = some j ∧ j < n ∧ -(n : Int) ≤ i ∧ i < n := by
  unfold ixN at h
  by_cases h0 : 0 ≤ i
  · rw [if_pos h0] at h
    by_cases h1 : i < n
    · rw [if_pos h1] at h
      have e : i.toNat = j := Option.some.inj h
      exact ⟨by rw [seqIndex_of h0 h1, e], by (first | lia | omega), by (first | lia | omega), h1⟩
    · rw [if_neg h1] at h; cases h
  · rw [if_neg h0] at h
    by_cases h1 : -(n : Int) ≤ i
    · rw [if_pos h1] at h
      have e : (i + n).toNat = j := Option.some.inj h
      exact ⟨by rw [seqIndex_neg (by (first | lia | omega)) h1, e], by (first | lia | omega), h1, by (first | lia | omega)⟩
    · rw [if_neg h1] at h; cases h
theorem atI_get {α : Type} {xs : List α} {i : Int} {v : α} (h : atI xs i = some v) : ∃ j, seqIndex? i xs.length = some j ∧ xs[j]? = some v ∧ j < xs.length ∧ -(xs.length : Int) ≤ i ∧ i < xs.length := by
  unfold atI at h
  cases e : ixN xs.length i with
  | none => rw [e] at h; cases h
  | some j =>
    rw [e] at h
    obtain ⟨h1, h2, h3, h4⟩ := ixN_seq e
    exact ⟨j, h1, h, h2, h3, h4⟩
theorem atI_nat {α : Type} {xs : List α} {j : Nat} {v : α} (h : xs[j]? = some v) : atI xs (j : Int) = some v := by
  have hj : j < xs.length := (List.getElem?_eq_some_iff.mp h).1
  have e : ixN xs.length (j : Int) = some j := by
    unfold ixN
    rw [if_pos (by (first | lia | omega)), if_pos (by (first | lia | omega))]; simp
  unfold atI; rw [e]; exact h
/-! ### what may be subscripted -/
noncomputable def PlainIx (b : Expr) : Prop := ∀ o i, subscripted b false o i = operate [o, i] (getItem o i)
noncomputable def IxR (X : Cx) (r : R2) : Prop :=
  ∀ (value slice : Expr) (pins : List (Addr × Obj)) (s : Shared) (σ : St) (H : Hp) (x y : V) (v u : Value) (Q : VK), Inv X pins σ H s → RelV x v → RelV y u → r x y H Q →
    subscripted slice false v u = operate [v, u] (getItem v u) → wpAny (model X.prog X.w) X.A (subscriptTail value slice v u) (EP X pins σ Q) X.xe s
noncomputable def MtR (X : Cx) (id : String) (r : V → List V → Hp → VK → Prop) : Prop :=
  ∀ (pins : List (Addr × Obj)) (s : Shared) (σ : St) (H : Hp) (x : V) (xs : List V) (v : Value) (us : List Value) (Q : VK), Inv X pins σ H s → RelV x v → Vals xs us → r x xs H Q →
    wpAny (model X.prog X.w) X.A (call (.builtin id) (v :: us)) (EP X pins σ Q) X.xe s
section
variable {X : Cx} {a b : Expr} {ta tb : TE} {pos : Pos}
theorem pe_ix {r : R2} (hr : IxR X r) (ha : PE X a ta) (hb : PE X b tb) (hs : PlainIx b) : PE X (.Subscript a b pos) (tOp r ta tb) := by
  intro pins s σ H Q I h
  exact Subscript_ (binT ha hb I h fun v u s2 x y H2 I2 rx ry q => hr a b pins s2 σ H2 x y v u Q I2 rx ry q (hs _ _))

noncomputable def rIxL (K : PySem.W.Frag) : R2 := fun x y H Q => ∃ p xs i v, x = .ref p ∧ y = .int i ∧ SqL K H p xs ∧ atI xs i = some v ∧ Q v H
noncomputable def rIxT (K : PySem.W.Frag) : R2 := fun x y H Q => ∃ p xs i v, x = .ref p ∧ y = .int i ∧ SqT K H p xs ∧ atI xs i = some v ∧ Q v H
noncomputable def rIxS : R2 := fun x y H Q => ∃ z i c, x = .str z ∧ y = .int i ∧ z.length ≤ sizeLine ∧ atI z.cps.toList i = some c ∧ Q (.str ⟨#[c]⟩) H
theorem ix_list : IxR X (rIxL X.K) := by
  intro value slice pins s σ H x y v u Q I rx ry h hs
  obtain ⟨p, xs, i, z, rfl, rfl, hq, he, q⟩ := h
  cases rx
  obtain ⟨t, rfl⟩ := ry
  obtain ⟨its, r, pl, hz⟩ := I.list hq
  obtain ⟨j, h1, h2, h3, h4, h5⟩ := atI_get he
  obtain ⟨w, ew, rw'⟩ := r.get h2
  have hl := r.length
  have hn := line63
  have fin : EP X pins σ Q w s := ⟨z, H, I, rw', q⟩
  by_cases h0 : 0 ≤ i
  · have hj : i.toNat = j := by
      rw [seqIndex_of h0 h5] at h1
      exact Option.some.inj h1
    exact item_listR pl.isList h0 (by (first | lia | omega)) (by rw [hj]; simpa using ew) fin hs
  · have hj : (i + (its.toArray.size : Int)).toNat = j := by
      rw [seqIndex_neg (by (first | lia | omega)) h4] at h1
      rw [List.size_toArray, ← hl]
      exact Option.some.inj h1
    exact subscriptTail_builtinR (x := w) pl.isList.typeIs slot_list_getitem.lookup
      (wpAny_getItem_list_neg (Q := fun r s' => r = w ∧ EP X pins σ Q r s') pl.isList (by (first | lia | omega)) (by rw [List.size_toArray] <;> (first | lia | omega)) (by (first | lia | omega)) (by rw [hj]; simpa using ew) ⟨rfl, fin⟩) hs
theorem ix_tup : IxR X (rIxT X.K) := by
  intro value slice pins s σ H x y v u Q I rx ry h hs
  obtain ⟨p, xs, i, z, rfl, rfl, hq, he, q⟩ := h
  cases rx
  obtain ⟨t, rfl⟩ := ry
  obtain ⟨its, r, pl, hz⟩ := I.tuple hq
  obtain ⟨j, h1, h2, h3, h4, h5⟩ := atI_get he
  obtain ⟨w, ew, rw'⟩ := r.get h2
  have hl := r.length
  have hn := line63
  have fin : EP X pins σ Q w s := ⟨z, H, I, rw', q⟩
  exact subscriptTail_builtinR (x := w) pl.typeIs slot_tuple_getitem.lookup
    (getItem_tuple (j := j) (Q := fun r s' => r = w ∧ EP X pins σ Q r s') pl (by (first | lia | omega)) (by (first | lia | omega)) (by rw [List.size_toArray, ← hl]; exact h1) (by simpa using ew) ⟨rfl, fin⟩) hs
theorem ix_str : IxR X rIxS := by
  intro value slice pins s σ H x y v u Q I rx ry h hs
  obtain ⟨z, i, c, rfl, rfl, hz, he, q⟩ := h
  obtain ⟨t, rfl⟩ := rx
  obtain ⟨t', rfl⟩ := ry
  obtain ⟨j, h1, h2, h3, h4, h5⟩ := atI_get he
  have hl : z.cps.toList.length = z.length := by simp [Str.length]
  rw [hl] at h1 h4 h5
  have hn := line63
  exact tail_any (typeIs_str s z t) slot_str_getitem.lookup (getItem_str (c := c) (by
    have e1 : decide (i < -(2 ^ 63 : Int)) = false := decide_eq_false (by (first | lia | omega))
    have e2 : decide (i ≥ 2 ^ 63) = false := decide_eq_false (by (first | lia | omega))
    rw [e1, e2, Bool.or_false]) (by rw [h1]; simpa using h2) ⟨.str ⟨#[c]⟩, H, I.tok _, ⟨_, rfl⟩, q⟩) hs
noncomputable def rIx (K : PySem.W.Frag) : R2 := fun x y H Q => rIxL K x y H Q ∨ rIxT K x y H Q ∨ rIxS x y H Q
/-! ### xs[i] = v, any sign -/
theorem mapSeq_set (its : List Value) (n j : Nat) (u : Value) : Obj.mapSeq (·.setIfInBounds j u) { cls := .type "list", data := .seq its.toArray n } = { cls := .type "list", data := .seq (its.set j u).toArray n } := by
  simp [Obj.mapSeq]
theorem Inv.lst {pins : List (Addr × Obj)} {σ : St} {H : Hp} {s : Shared} {p : Addr} {xs : List V} (I : Inv X pins σ H s) (h : H p = some (.lst xs)) :
    ∃ (its : List Value) (n : Nat), Vals xs its ∧ s.heap.get? p = some { cls := .type "list", data := .seq its.toArray n } ∧ xs.length ≤ sizeLine := by
  obtain ⟨z, its, n, r, e⟩ := I.hok p _ h
  exact ⟨its, n, r, e, z⟩
theorem Inv.lstUpd {pins : List (Addr × Obj)} {σ : St} {H : Hp} {s : Shared} {p : Addr} {xs ys : List V} {its its' : List Value} {n n' : Nat} {f : Obj → Obj} (I : Inv X pins σ H s) (h : H p = some (.lst xs))
    (ho : s.heap.get? p = some { cls := .type "list", data := .seq its.toArray n }) (hf : f { cls := .type "list", data := .seq its.toArray n } = { cls := .type "list", data := .seq its'.toArray n' }) (r : Vals ys its') (hz : ys.length ≤ sizeLine) (t : Nat) :
    Inv X pins σ (upd H p (.lst ys)) { s with heap := s.heap.update p f, toks := t } := by
  have e : (s.heap.update p f).get? p = some { cls := .type "list", data := .seq its'.toArray n' } := by
    rw [Heap.get?_update_self f ho (by rw [hf] <;> rfl), hf]
  refine I.write (x := p) (e := p) (by rw [h]; trivial) (.inl rfl) (fun b u hb q => (Heap.get?_update_other _ _ (Ne.symm hb)).trans q) ⟨_, e⟩ ?_
  exact ⟨hz, its', n', r, e⟩
noncomputable def rSetL : V → V → V → Hp → (Hp → Prop) → Prop := fun o i v H Q => ∃ p xs k j, o = .ref p ∧ i = .int k ∧ H p = some (.lst xs) ∧ ixN xs.length k = some j ∧ Q (upd H p (.lst (xs.set j v)))
theorem set_list : PSet X rSetL := by
  intro pins s σ H o i v ov iv u Q I ro ri rv h
  obtain ⟨p, xs, k, j, rfl, rfl, hp, hj, q⟩ := h
  cases ro
  obtain ⟨t, rfl⟩ := ri
  obtain ⟨its, n, r, ho, hz⟩ := I.lst hp
  obtain ⟨h1, h2, h3, h4⟩ := ixN_seq hj
  have hl := r.length
  have hn := line63
  have I' : Inv X pins σ (upd H p (.lst (xs.set j v))) { s with heap := s.heap.update p (Obj.mapSeq (·.setIfInBounds j u)) } :=
    I.lstUpd hp ho (mapSeq_set its n j u) (r.set rv j) (by rw [List.length_set]; exact hz) s.toks
  by_cases h0 : 0 ≤ k
  · have hk : k.toNat = j := by
      rw [seqIndex_of h0 h4] at h1
      exact Option.some.inj h1
    exact PySem.W.ki_setAt ho h0 (by (first | lia | omega)) (by rw [List.size_toArray, ← hl]; exact h4) (by rw [hk]; exact ⟨_, I', q⟩)
  · have hk : (k + (its.toArray.size : Int)).toNat = j := by
      rw [seqIndex_neg (by (first | lia | omega)) h3] at h1
      rw [List.size_toArray, ← hl]
      exact Option.some.inj h1
    exact PySem.W.ki_setBack ho (by (first | lia | omega)) (by rw [List.size_toArray, ← hl]; exact h3) (by (first | lia | omega)) (by rw [hk]; exact ⟨_, I', q⟩)

/-! ### slices -/
theorem slice_bounds (lo hi : Option Int) (n : Nat) : (sliceBounds lo hi none n).1 = ((HT.sIx n 0 lo : Nat) : Int) ∧ (sliceBounds lo hi none n).2.1 = ((HT.sIx n n hi : Nat) : Int) ∧ (sliceBounds lo hi none n).2.2 = 1 := by
  refine ⟨?_, ?_, rfl⟩
  · cases lo with
    | none => simp [sliceBounds, HT.sIx]
    | some i =>
      simp only [sliceBounds, HT.sIx, Option.getD_none, show (1 : Int) > 0 by decide, if_true]
      by_cases h : i < 0
      · simp only [h, if_true] <;> (first | lia | omega)
      · simp only [h, if_false] <;> (first | lia | omega)
  · cases hi with
    | none => simp [sliceBounds, HT.sIx]
    | some i =>
      simp only [sliceBounds, HT.sIx, Option.getD_none, show (1 : Int) > 0 by decide, if_true]
      by_cases h : i < 0
      · simp only [h, if_true] <;> (first | lia | omega)
      · simp only [h, if_false] <;> (first | lia | omega)
theorem slicePick_cut (its : List Value) (lo hi : Option Int) : slicePick its.toArray lo hi none = ((its.drop (HT.sIx its.length 0 lo)).take (HT.sIx its.length its.length hi - HT.sIx its.length 0 lo)).toArray := by
  obtain ⟨h1, h2, h3⟩ := slice_bounds lo hi its.toArray.size
  unfold slicePick
  rw [h1, h2, h3]
  simp only [sliceRange_one, pick_run, List.size_toArray] <;> rfl
noncomputable def rSlL (K : PySem.W.Frag) : V → Option Int → Option Int → Hp → VK → Prop := fun x lo hi H Q => ∃ a xs, x = .ref a ∧ SqL K H a xs ∧ ∀ p, H p = none → Q (.ref p) (upd H p (.lst (cutV xs lo hi)))
theorem sl_list : SlR X (rSlL X.K) := by
  intro pins s σ H x v vl vu lo hi sl Q I rx hs pl pu h
  obtain ⟨a, xs, rfl, hx, q⟩ := h
  cases rx
  obtain ⟨its, r, ht, hz⟩ := I.list hx
  have hlen := r.length
  refine ⟨"list", _, slot_list_getitem.lookup, ht.isList.typeIs, ?_⟩
  refine wpAny_getItem_list_slice ht.isList hs pl pu .none (by simp) ?_ (by rw [List.size_toArray] <;> (first | lia | omega))
  rw [slicePick_cut, ← hlen]
  refine ⟨.ref s.heap.objs.size, _, I.laid (t' := s.toks) (o := .lst (cutV xs lo hi)) (fun b ob q => Heap.get?_push_of_some _ q) (Nat.le_refl _) ?_, rfl, q _ (I.hok.fresh (Nat.le_refl _))⟩
  exact ⟨Nat.le_trans (cutV_length xs lo hi) hz, _, 0, (r.drop (HT.sIx xs.length 0 lo)).take (HT.sIx xs.length xs.length hi - HT.sIx xs.length 0 lo), Heap.get?_push_size _ rfl⟩

/-! ### in, not in: flat items -/
noncomputable def flatV : V → Bool
  | .non => true
  | .bl _ => true
  | .int _ => true
  | .str _ => true
  | _ => false
noncomputable def eqV : V → V → Bool
  | .non, .non => true
  | .bl a, .bl b => a == b
  | .bl a, .int b => (if a then 1 else 0) == b
  | .int a, .bl b => a == (if b then 1 else 0)
  | .int a, .int b => a == b
  | .str a, .str b => a == b
  | _, _ => false
theorem eqAt_V {A : Around} {s : Shared} {y x : V} {u v : Value} (ry : RelV y u) (rx : RelV x v) (fy : flatV y = true) (fx : flatV x = true) : SeqAt.EqAt A s u v (eqV y x) := by
  cases y with
  | non =>
    cases ry
    cases x with
    | non => cases rx; exact SeqAt.EqAt.same _
    | bl b => cases rx; exact SeqAt.EqAt.none_bool b
    | int b => obtain ⟨t, rfl⟩ := rx; exact SeqAt.EqAt.none_int b t
    | str b => obtain ⟨t, rfl⟩ := rx; exact SeqAt.EqAt.none_str b t
    | _ => exact absurd (show false = true from fx) Bool.false_ne_true
  | bl a =>
    cases ry
    cases x with
    | non => cases rx; exact SeqAt.EqAt.bool_none a
    | bl b => cases rx; exact SeqAt.EqAt.bool_bool a b
    | int b => obtain ⟨t, rfl⟩ := rx; exact SeqAt.EqAt.bool_int a b t
    | str b => obtain ⟨t, rfl⟩ := rx; exact SeqAt.EqAt.bool_str a b t
    | _ => exact absurd (show false = true from fx) Bool.false_ne_true
  | int a =>
    obtain ⟨t', rfl⟩ := ry
    cases x with
    | non => cases rx; exact SeqAt.EqAt.int_none a t'
    | bl b => cases rx; exact SeqAt.EqAt.int_bool a t' b
    | int b => obtain ⟨t, rfl⟩ := rx; exact SeqAt.EqAt.int_int a t' b t
    | str b => obtain ⟨t, rfl⟩ := rx; exact SeqAt.EqAt.int_str a t' b t
    | _ => exact absurd (show false = true from fx) Bool.false_ne_true
  | str a =>
    obtain ⟨t', rfl⟩ := ry
    cases x with
    | non => cases rx; exact SeqAt.EqAt.str_none a t'
    | bl b => cases rx; exact SeqAt.EqAt.str_bool a t' b
    | int b => obtain ⟨t, rfl⟩ := rx; exact SeqAt.EqAt.str_int a t' b t
    | str b => obtain ⟨t, rfl⟩ := rx; exact SeqAt.EqAt.str_str a t' b t
    | _ => exact absurd (show false = true from fx) Bool.false_ne_true
  | _ => exact absurd (show false = true from fy) Bool.false_ne_true
noncomputable def eqU (x : V) (u : Value) : Bool := match u with
  | .none => eqV .non x
  | .bool b => eqV (.bl b) x
  | .int i _ => eqV (.int i) x
  | .str z _ => eqV (.str z) x
  | _ => false
theorem eqU_of {x y : V} {u : Value} (r : RelV y u) (f : flatV y = true) : eqU x u = eqV y x := by
  cases y with
  | non => cases r; rfl
  | bl b => cases r; rfl
  | int i => obtain ⟨t, rfl⟩ := r; rfl
  | str z => obtain ⟨t, rfl⟩ := r; rfl
  | _ => exact absurd (show false = true from f) Bool.false_ne_true
theorem any_eqU {x : V} : ∀ {xs : List V} {us : List Value}, Vals xs us → xs.all flatV = true → us.any (eqU x) = xs.any fun y => eqV y x := by
  intro xs us h
  induction h with
  | nil => intro _; rfl
  | cons r t ih =>
    intro f
    rw [List.all_cons, Bool.and_eq_true] at f
    rw [List.any_cons, List.any_cons, eqU_of r f.1, ih f.2]
theorem mem_eqAt {A : Around} {s : Shared} {x : V} {v : Value} (rx : RelV x v) (fx : flatV x = true) : ∀ {xs : List V} {us : List Value}, Vals xs us → xs.all flatV = true → ∀ u ∈ us, SeqAt.EqAt A s u v (eqU x u) := by
  intro xs us h
  induction h with
  | nil => intro _ u hu; cases hu
  | cons r t ih =>
    intro f u' hu
    rw [List.all_cons, Bool.and_eq_true] at f
    rcases List.mem_cons.mp hu with rfl | hu
    · rw [eqU_of r f.1]; exact eqAt_V r rx f.1 fx
    · exact ih f.2 u' hu
noncomputable def inV (x : V) (xs : List V) : Bool := xs.any fun y => eqV y x
noncomputable def rIn (K : PySem.W.Frag) (neg : Bool) : R2 := fun x y H Q => ∃ p xs, y = .ref p ∧ (SqL K H p xs ∨ SqT K H p xs) ∧ flatV x = true ∧ xs.all flatV = true ∧ Q (.bl (if neg then !inV x xs else inV x xs)) H
theorem op_notIn_seq : OpR X (compareOp .NotIn) (rIn X.K true) := by
  intro pins s σ H x y v u Q I rx ry h
  obtain ⟨p, xs, rfl, hq, fx, fs, q⟩ := h
  cases ry
  rcases hq with hq | hq
  · obtain ⟨its, r, pl, hz⟩ := I.list hq
    refine SeqAt.notIn_listAt (eqU x) pl.isList (fun w hw => mem_eqAt rx fx r fs w (by simpa using hw)) ⟨.bl _, H, I, rfl, ?_⟩
    rw [show its.toArray.any (eqU x) = its.any (eqU x) by simp, any_eqU r fs]
    exact q
  · obtain ⟨its, r, pl, hz⟩ := I.tuple hq
    refine SeqAt.notIn_tupleAt (eqU x) pl (fun w hw => mem_eqAt rx fx r fs w (by simpa using hw)) ⟨.bl _, H, I, rfl, ?_⟩
    rw [show its.toArray.any (eqU x) = its.any (eqU x) by simp, any_eqU r fs]
    exact q
theorem op_notIn_str : OpR X (compareOp .NotIn) (fun x y H Q => ∃ i j, x = .str i ∧ y = .str j ∧ Q (.bl (!(!(Builtin.Str.occurrences j i 0 j.length 1).isEmpty))) H) := by
  intro pins s σ H x y v u Q I rx ry h
  obtain ⟨i, j, rfl, rfl, q⟩ := h
  obtain ⟨t, rfl⟩ := rx
  obtain ⟨t', rfl⟩ := ry
  exact notIn_str ⟨.bl _, H, I, rfl, q⟩

/-! ### len, list(x), tuple(x) of any list or tuple that is read -/
theorem call_list_of : CallR X (.type "list") (fun xs H Q => ∃ p ys, xs = [.ref p] ∧ (SqL X.K H p ys ∨ SqT X.K H p ys) ∧ ∀ l, H l = none → Q (.ref l) (upd H l (.lst ys))) := by
  intro pins s σ H xs us Q I r h
  obtain ⟨p, ys, rfl, hq, q⟩ := h
  obtain ⟨u, rfl, rx⟩ := vals1 r
  cases rx
  have fin : ∀ (its : List Value), Vals ys its → ys.length ≤ sizeLine → ∀ (h' : Heap) (c' : Nat), (∀ b o', s.heap.get? b = some o' → h'.get? b = some o') →
      h'.get? s.heap.objs.size = some { cls := .type "list", dict := none, data := .seq its.toArray c', slots := #[] } → EP X pins σ Q (.ref s.heap.objs.size) { s with heap := h' } := fun its r' hz h' c' kp e =>
    ⟨.ref s.heap.objs.size, _, I.laid (t' := s.toks) kp (Nat.le_refl _) (show ObjOk X.prog X.w _ h' _ (.lst ys) from ⟨hz, its, c', r', e⟩), rfl, q _ (I.hok.fresh (Nat.le_refl _))⟩
  rcases hq with hq | hq
  · obtain ⟨its, r', pl, hz⟩ := I.list hq
    have hlen := r'.length
    obtain ⟨o, ho, hc, n, hd⟩ := pl.isList
    exact call_list_seq p (.inl rfl) ho hc hd (fun h' c' kp e => fin its r' hz h' c' kp e) (by simp only [List.size_toArray] <;> (first | lia | omega))
  · obtain ⟨its, r', pl, hz⟩ := I.tuple hq
    have hlen := r'.length
    obtain ⟨o, ho, hc, n, hd⟩ := pl
    exact call_list_seq p (.inr rfl) ho hc hd (fun h' c' kp e => fin its r' hz h' c' kp e) (by simp only [List.size_toArray] <;> (first | lia | omega))
theorem call_tuple_of : CallR X (.type "tuple") (fun xs H Q => ∃ p ys, xs = [.ref p] ∧ ((SqL X.K H p ys ∧ ∀ l, H l = none → Q (.ref l) (upd H l (.tup ys))) ∨ (SqT X.K H p ys ∧ Q (.ref p) H))) := by
  intro pins s σ H xs us Q I r h
  obtain ⟨p, ys, rfl, h⟩ := h
  obtain ⟨u, rfl, rx⟩ := vals1 r
  cases rx
  rcases h with ⟨hq, q⟩ | ⟨hq, q⟩
  · obtain ⟨its, r', pl, hz⟩ := I.list hq
    have hlen := r'.length
    refine call_tuple_list pl.isList (fun h' kp => ?_) (by simp only [List.size_toArray] <;> (first | lia | omega))
    have I1 : Inv X pins σ H { s with heap := h' } := I.kept (t' := s.toks) kp
    have I2 : Inv X pins σ (upd H h'.objs.size (.tup ys)) { s with heap := h'.push { cls := .type "tuple", data := .seq its.toArray } } :=
      I1.laid (t' := s.toks) (fun b o e => Heap.get?_push_of_some _ e) (Nat.le_refl _) (show ObjOk X.prog X.w _ _ _ (.tup ys) from ⟨hz, its, r', IsTup.new _ _⟩)
    exact ⟨.ref h'.objs.size, _, I2, rfl, q _ (I1.hok.fresh (Nat.le_refl _))⟩
  · obtain ⟨its, r', pl, hz⟩ := I.tuple hq
    exact call_tuple_same pl ⟨.ref p, H, I, rfl, q⟩

/-! ### the call of a builtin's method: o.m(..) -/
noncomputable def tyV (K : PySem.W.Frag) (T : String) (x : V) (H : Hp) : Prop := match x with
  | .str _ => T = "str"
  | .int _ => T = "int"
  | .ref p => (T = "list" ∧ ∃ xs, SqL K H p xs) ∨ (T = "tuple" ∧ ∃ o, K.lookup p = some o ∧ o.cls = .type "tuple" ∧ o.dict = none) ∨
      (T = "dict" ∧ ((∃ kvs, H p = some (.dK kvs)) ∨ ∃ kvs, H p = some (.dT kvs))) ∨ (T = "set" ∧ ∃ S n, H p = some (.set S n))
  | _ => False
theorem tyV_is {pins : List (Addr × Obj)} {σ : St} {H : Hp} {s : Shared} {T : String} {x : V} {v : Value} (I : Inv X pins σ H s) (r : RelV x v) (ty : tyV X.K T x H) :
    s.TypeIs v T ∧ ∀ a, v = .ref a → ∃ ob, s.heap.get? a = some ob ∧ ob.dict = none := by
  cases x with
  | str z =>
    obtain ⟨t, rfl⟩ := r
    cases (show T = "str" from ty)
    exact ⟨typeIs_str s z t, fun _ e => nomatch e⟩
  | int i =>
    obtain ⟨t, rfl⟩ := r
    cases (show T = "int" from ty)
    exact ⟨typeIs_int s i t, fun _ e => nomatch e⟩
  | ref p =>
    cases r
    rcases ty with ⟨rfl, xs, hq⟩ | ⟨rfl, o, hk, hc, hd⟩ | ⟨rfl, hk⟩ | ⟨rfl, S, n, hk⟩
    · obtain ⟨its, _, pl, _⟩ := I.list hq
      refine ⟨pl.isList.typeIs, fun a e => ?_⟩
      cases e
      obtain ⟨o, n, e, c, hd, _⟩ := pl
      exact ⟨o, e, hd⟩
    · refine ⟨⟨o, I.kIn p o hk, hc⟩, fun a e => ?_⟩
      cases e
      exact ⟨o, I.kIn _ o hk, hd⟩
    · have z : ∃ o, s.heap.get? p = some o ∧ o.ExactDict := by
        rcases hk with ⟨kvs, hk⟩ | ⟨kvs, hk⟩
        · obtain ⟨_, _, _, _, o, _, _, e, ex, _⟩ := I.hok p _ hk
          exact ⟨o, e, ex⟩
        · obtain ⟨_, _, _, _, o, _, _, e, ex, _⟩ := I.hok p _ hk
          exact ⟨o, e, ex⟩
      obtain ⟨o, e, ex⟩ := z
      refine ⟨⟨o, e, ex.1⟩, fun a e2 => ?_⟩
      cases e2
      exact ⟨o, e, ex.2.1⟩
    · obtain ⟨o, _, _, _, e, ex, _⟩ := I.hok p _ hk
      refine ⟨⟨o, e, ex.1⟩, fun a e2 => ?_⟩
      cases e2
      exact ⟨o, e, ex.2.1⟩
  | _ => exact False.elim ty
noncomputable def tBM0 (K : PySem.W.Frag) (T : String) (r : V → List V → Hp → VK → Prop) (to : TE) : TE := fun σ H Q => to σ H fun x H1 => tyV K T x H1 ∧ r x [] H1 Q
noncomputable def tBM (K : PySem.W.Frag) (T : String) (r : V → List V → Hp → VK → Prop) (to : TE) (t : TA) : TE := fun σ H Q => to σ H fun x H1 => tyV K T x H1 ∧ t σ H1 fun xs H2 => r x xs H2 Q
variable {o e : Expr} {es : List Expr} {to : TE} {t : TA} {name : Str} {apos cpos : Pos} {T id : String} {r : V → List V → Hp → VK → Prop}
theorem pe_bm (pa : PlainAttrs T) (slot : Slot T name id) (hty : typeOf (.builtin id) = pure (.type "method_descriptor")) (hm : MtR X id r) (ho : PE X o to) (ha : PA X (e :: es) t)
    (hbase : attributeBase o name X.env (eval o X.env) = eval o X.env := by rfl)
    (hfew : ((backTo cpos (starEach (e :: es) X.env)).all (fun x => !x.1) && (backToKw cpos (keywordEach [] X.env)).all (fun x => x.1.isSome)
      && decide ((e :: es).length + ([] : List Keyword).length + (if ([] : List Keyword).isEmpty then 0 else 1) < 30)) = true := by rfl)
    (hline : (apos.endLine == cpos.line) = true := by rfl) (hs : starEach (e :: es) X.env = (false, eval e X.env) :: starEach es X.env := by rfl) (hplain : (backTo cpos (starEach es X.env)).any (·.1) = false := by rfl) :
    PE X (.Call (.Attribute o name apos) (e :: es) [] cpos) (tBM X.K T r to t) := by
  intro pins s σ H Q I h
  refine wpAny_Call_method_late hbase hfew hline rfl (thn (ho pins s σ H _ I h) fun v s1 hz36 => ?_)
  obtain ⟨x, H1, I1, r1, ty, q1⟩ := hz36
  obtain ⟨h1, h2⟩ := tyV_is I1 r1 ty
  refine ⟨T, id, pa, slot, hty, h1, h2, ?_⟩
  have hA := ha cpos pins s1 σ H1 _ I1 q1
  rw [hs] at hA ⊢
  refine Calls.callWith_builtin (by show (false || (backTo cpos (starEach es X.env)).any (·.1)) = false; rw [hplain] <;> rfl) (Calls.evalArgs_plain ?_)
  exact thn hA fun us s2 ⟨vs, H2, I2, r2, q2⟩ => hm pins s2 σ H2 x vs v us Q I2 r1 r2 q2
/- xs.append(e), list.index on a module's tuple .. are MtR facts of 06m -/
end
end L2

namespace L2
open PySem PySem.Spec PyProof.Rows

noncomputable def MtM (X : Cx) (id : String) (r : V → List V → Hp → VK → Prop) : Prop :=
  ∀ (pins : List (Addr × Obj)) (s : Shared) (σ : St) (H : Hp) (x : V) (xs : List V) (v : Value) (us : List Value) (Q : VK), Inv X pins σ H s → RelV x v → Vals xs us → r x xs H Q →
    wpAny (model X.prog X.w) X.A (call (.builtin id) (v :: us)) (EP X pins σ Q) X.xe s

/-! ### lists of values -/
theorem Vals.one : ∀ {x : V} {us : List Value}, Vals [x] us → ∃ u, us = [u] ∧ RelV x u := by
  intro x us h
  cases h with
  | cons r t =>
    cases t
    exact ⟨_, rfl, r⟩
section
variable {X : Cx} {pins : List (Addr × Obj)} {σ : St} {H : Hp} {s : Shared} {l b : Addr} {xs ys zs : List V}

/-! ### the two steps: a tracked list is rewritten, a new list is laid -/
theorem Inv.lset {its its' : List Value} {n : Nat} {f : Array Value → Array Value} {t' : Nat} (I : Inv X pins σ H s) (hH : H l = some (.lst xs))
    (e : s.heap.get? l = some { cls := .type "list", data := .seq its.toArray n }) (hf : f its.toArray = its'.toArray) (hv : Vals ys its') (hz : ys.length ≤ sizeLine) :
    Inv X pins σ (upd H l (.lst ys)) { s with heap := s.heap.update l (Obj.mapSeq f), toks := t' } := by
  have q := PySem.IsL.update e f
  rw [hf] at q
  refine I.write (x := l) (e := l) (by rw [hH]; exact trivial) (.inl rfl) (fun b' u hb hu => (Heap.get?_update_other s.heap (Obj.mapSeq f) (Ne.symm hb)).trans hu) ⟨_, q⟩ ?_
  exact ⟨hz, its', _, hv, q⟩
theorem Inv.lnew {its : List Value} {t' : Nat} (I : Inv X pins σ H s) (hv : Vals ys its) (hz : ys.length ≤ sizeLine) :
    Inv X pins σ (upd H s.heap.objs.size (.lst ys)) { s with heap := s.heap.push { cls := .type "list", data := .seq its.toArray }, toks := t' } :=
  I.laid (fun _ _ q => Heap.get?_push_of_some _ q) (Nat.le_refl _) ⟨hz, its, 0, hv, Heap.get?_push_size _ rfl⟩
theorem Inv.fresh (I : Inv X pins σ H s) : H s.heap.objs.size = none := I.hok.fresh (Nat.le_refl _)
theorem Inv.lstM (I : Inv X pins σ H s) (hH : H l = some (.lst xs)) : xs.length ≤ sizeLine ∧ ∃ (its : List Value) (n : Nat), Vals xs its ∧ xs.length = its.length ∧ s.heap.get? l = some { cls := .type "list", data := .seq its.toArray n } := by
  obtain ⟨z, its, n, r, e⟩ := I.hok l _ hH
  exact ⟨z, its, n, r, r.length, e⟩

theorem notLongL {n : Nat} (h : n ≤ sizeLine) : Builtin.List.listTooLong n = false := by
  unfold Builtin.List.listTooLong
  exact decide_eq_false (by (first | lia | omega))
end

section
variable {X : Cx}

/-! ### methods -/
noncomputable def rAppend : V → List V → Hp → VK → Prop := fun x vs H Q => ∃ l xs y, x = .ref l ∧ vs = [y] ∧ H l = some (.lst xs) ∧ xs.length < sizeLine ∧ Q .non (upd H l (.lst (xs ++ [y])))
theorem mt_append : MtM X "list.append" rAppend := by
  intro pins s σ H x vs v us Q I rx rv h
  obtain ⟨l, xs, y, rfl, rfl, hH, hz, q⟩ := h
  cases rx
  obtain ⟨u, rfl, ru⟩ := rv.one
  obtain ⟨z, its, n, r, hl, e⟩ := I.lstM hH
  refine call_meets F.slot_list_append ⟨_, e, rfl⟩ F.entry_list_append (F.args_list_append_2 _ _) (PySem.list_append l its.toArray n u (by rw [List.size_toArray]; (first | lia | omega))) ⟨e, ?_⟩
  refine ⟨.non, _, I.lset (its' := its ++ [u]) hH e (by simp) (r.append (.cons ru .nil)) ?_, rfl, q⟩
  rw [List.length_append, List.length_singleton]
  (first | lia | omega)

noncomputable def rExtend : V → List V → Hp → VK → Prop := fun x vs H Q => ∃ l b xs zs, x = .ref l ∧ vs = [.ref b] ∧ H l = some (.lst xs) ∧ H b = some (.lst zs) ∧ xs.length + zs.length ≤ sizeLine ∧ Q .non (upd H l (.lst (xs ++ zs)))
noncomputable def rPop : V → List V → Hp → VK → Prop := fun x vs H Q => ∃ l xs y, x = .ref l ∧ vs = [] ∧ H l = some (.lst xs) ∧ xs[xs.length - 1]? = some y ∧ Q y (upd H l (.lst xs.dropLast))
noncomputable def rPopAt : V → List V → Hp → VK → Prop := fun x vs H Q => ∃ l xs i k y, x = .ref l ∧ vs = [.int i] ∧ H l = some (.lst xs) ∧ -(2 ^ 63) ≤ i ∧ i < 2 ^ 63 ∧ seqIndex? i xs.length = some k ∧ xs[k]? = some y ∧ Q y (upd H l (.lst (xs.eraseIdx k)))
noncomputable def rReverse : V → List V → Hp → VK → Prop := fun x vs H Q => ∃ l xs, x = .ref l ∧ vs = [] ∧ H l = some (.lst xs) ∧ Q .non (upd H l (.lst xs.reverse))
noncomputable def rClear : V → List V → Hp → VK → Prop := fun x vs H Q => ∃ l xs, x = .ref l ∧ vs = [] ∧ H l = some (.lst xs) ∧ Q .non (upd H l (.lst []))
/-! ### list + list, list += list, list * int -/
noncomputable def rCat : R2 := fun x y H Q => ∃ l b xs zs, x = .ref l ∧ y = .ref b ∧ H l = some (.lst xs) ∧ H b = some (.lst zs) ∧ xs.length + zs.length ≤ sizeLine ∧ ∀ p, H p = none → Q (.ref p) (upd H p (.lst (xs ++ zs)))
theorem op_cat : OpR X (binaryOp .Add) rCat := by
  intro pins s σ H x y v u Q I rx ry h
  obtain ⟨l, b, xs, zs, rfl, rfl, hH, hB, hz, q⟩ := h
  cases rx
  cases ry
  obtain ⟨z, its, n, r, hl, e⟩ := I.lstM hH
  obtain ⟨z2, its2, n2, r2, hl2, e2⟩ := I.lstM hB
  refine PySem.P.add_list e e2 ?_ (by rw [List.size_toArray, List.size_toArray]; (first | lia | omega))
  have ea : its.toArray ++ its2.toArray = (its ++ its2).toArray := by simp
  rw [ea]
  exact ⟨.ref _, _, I.lnew (t' := s.toks) (r.append r2) (by rw [List.length_append]; (first | lia | omega)), rfl, q _ I.fresh⟩
noncomputable def rRep : R2 := fun x y H Q => ∃ l k xs, x = .ref l ∧ y = .int k ∧ H l = some (.lst xs) ∧ -(2 ^ 63) ≤ k ∧ k < 2 ^ 63 ∧ xs.length * k.toNat ≤ sizeLine ∧
  ∀ p, H p = none → Q (.ref p) (upd H p (.lst (List.replicate k.toNat xs).flatten))
/-! ### del xs[i] -/
end

/-! ### xs[a:b] = ys -/
section
variable {prog : Program} {w : World} {A : Around} {E : Value → Shared → Prop} {s : Shared}
end

section
variable {X : Cx}
end
end L2

namespace L2
open PySem PySem.Spec PyProof.Rows

/-! ### lists of pairs as tables -/
section
variable {κ : Type} [DecidableEq κ]
noncomputable def valV (kvs : List (κ × V)) (k : κ) : Option V := (kvs.find? fun kv => decide (kv.1 = k)).map (·.2)
noncomputable def putK (kvs : List (κ × V)) (k : κ) (v : V) : List (κ × V) :=
  if (kvs.any fun kv => decide (kv.1 = k)) = true then kvs.map (fun kv => if kv.1 = k then (kv.1, v) else kv) else kvs ++ [(k, v)]
noncomputable def dropK (kvs : List (κ × V)) (k : κ) : List (κ × V) := kvs.filter fun kv => decide (kv.1 ≠ k)

theorem valV_pos {p : κ × V} {r : List (κ × V)} {k : κ} (e : p.1 = k) : valV (p :: r) k = some p.2 := by simp [valV, List.find?_cons, e]
theorem valV_neg {p : κ × V} {r : List (κ × V)} {k : κ} (e : ¬ p.1 = k) : valV (p :: r) k = valV r k := by simp [valV, List.find?_cons, e]
theorem valV_any (k : κ) : ∀ kvs : List (κ × V), (kvs.any fun kv => decide (kv.1 = k)) = (valV kvs k).isSome
  | [] => rfl
  | p :: r => by
    rw [List.any_cons]
    by_cases e : p.1 = k
    · simp only [valV_pos e, decide_eq_true e, Bool.true_or, Option.isSome_some]
    · rw [valV_neg e, decide_eq_false e, Bool.false_or]; exact valV_any k r
theorem length_putK (kvs : List (κ × V)) (k : κ) (v : V) : (putK kvs k v).length ≤ kvs.length + 1 := by
  unfold putK
  split
  · rw [List.length_map]; (first | lia | omega)
  · rw [List.length_append, List.length_cons, List.length_nil]; (first | lia | omega)
theorem RelO.isSome_eq {o : Option V} {u : Option Value} (r : RelO o u) : o.isSome = u.isSome := by
  cases o with
  | none => cases u with
    | none => rfl
    | some _ => exact (show False from r).elim
  | some _ => cases u with
    | none => exact (show False from r).elim
    | some _ => rfl
theorem RelO.getD {o : Option V} {u : Option Value} {d : V} {d' : Value} (r : RelO o u) (rd : RelV d d') : RelV (o.getD d) (u.getD d') := by
  cases o with
  | none => cases u with
    | none => exact rd
    | some _ => exact (show False from r).elim
  | some _ => cases u with
    | none => exact (show False from r).elim
    | some _ => exact r

theorem KV.val {kvs : List (κ × V)} {vs : List (κ × Value)} (r : KV kvs vs) (k : κ) : RelO (valV kvs k) (valueAt vs k) := by
  unfold KV at r
  induction r with
  | nil => exact True.intro
  | @cons p q ps qs h t ih =>
    obtain ⟨h1, h2⟩ := h
    by_cases e : p.1 = k
    · have e' : q.1 = k := h1.symm.trans e
      have b : valueAt (q :: qs) k = some q.2 := by simp [valueAt, List.find?_cons, e']
      rw [valV_pos e, b]; exact h2
    · have e' : ¬ q.1 = k := fun z => e (h1.trans z)
      have b : valueAt (q :: qs) k = valueAt qs k := by simp [valueAt, List.find?_cons, e']
      rw [valV_neg e, b]; exact ih
theorem KV.any {kvs : List (κ × V)} {vs : List (κ × Value)} (r : KV kvs vs) (k : κ) : (kvs.any fun kv => decide (kv.1 = k)) = vs.any fun kv => decide (kv.1 = k) := by
  unfold KV at r
  induction r with
  | nil => rfl
  | cons h t ih => rw [List.any_cons, List.any_cons, ih, h.1]
theorem KV.repl {kvs : List (κ × V)} {vs : List (κ × Value)} (r : KV kvs vs) (k : κ) {y : V} {u : Value} (ry : RelV y u) :
    KV (kvs.map fun kv => if kv.1 = k then (kv.1, y) else kv) (vs.map fun kv => if kv.1 = k then (kv.1, u) else kv) := by
  unfold KV at r ⊢
  induction r with
  | nil => exact .nil
  | @cons p q ps qs h t ih =>
    rw [List.map_cons, List.map_cons]
    refine .cons ?_ ih
    obtain ⟨h1, h2⟩ := h
    by_cases e : p.1 = k
    · rw [if_pos e, if_pos (h1.symm.trans e)]; exact ⟨h1, ry⟩
    · rw [if_neg e, if_neg (fun z => e (h1.trans z))]; exact ⟨h1, h2⟩
theorem KV.put {kvs : List (κ × V)} {vs : List (κ × Value)} (r : KV kvs vs) (k : κ) {y : V} {u : Value} (ry : RelV y u) : KV (putK kvs k y) (stored vs k u) := by
  unfold putK stored
  rw [r.any k]
  by_cases e : (vs.any fun kv => decide (kv.1 = k)) = true
  · rw [if_pos e, if_pos e]; exact r.repl k ry
  · rw [if_neg e, if_neg e]; exact Paired.snoc r ⟨rfl, ry⟩
theorem KV.keys {kvs : List (κ × V)} {vs : List (κ × Value)} (r : KV kvs vs) : kvs.map (·.1) = vs.map (·.1) := by
  unfold KV at r
  induction r with
  | nil => rfl
  | cons h t ih => rw [List.map_cons, List.map_cons, ih, h.1]
theorem KV.length {kvs : List (κ × V)} {vs : List (κ × Value)} (r : KV kvs vs) : kvs.length = vs.length := Paired.length r
end


/-! ### a tracked dict, its keys ints and texts or tuples of these -/
theorem kV_is {P : Program} {w : World} {k : Key} {u : Value} (r : RelV (kV k) u) : (mixKind P w).is k u = true := by
  cases k with
  | inl i => obtain ⟨t, e⟩ := (show ∃ t, u = Value.int i t from r); subst e; exact mixKind_int P w i t
  | inr x => obtain ⟨t, e⟩ := (show ∃ t, u = Value.str x t from r); subst e; exact mixKind_str P w x t
theorem items_are {P : Program} {w : World} : ∀ {ks : List Key} {us : List Value}, Vals (ks.map kV) us → ItemsAre (mixKind P w) ks us
  | [], _, r => by rw [List.map_nil] at r; cases r; exact .nil
  | k :: ks, _, r => by
    rw [List.map_cons] at r
    cases r with
    | cons h t => exact .cons (kV_is h) (items_are t)

noncomputable abbrev KT (H : Hp) : List (List Key × V) → List (List Key × Addr × Value) → Prop := Paired fun p q => p.1 = q.1 ∧ H q.2.1 = some (.tup (p.1.map kV)) ∧ RelV p.2 q.2.2
theorem KT.val {H : Hp} {kvs : List (List Key × V)} {xs : List (List Key × Addr × Value)} (r : KT H kvs xs) (k : List Key) : RelO (valV kvs k) ((atKey xs k).map (·.2)) := by
  induction r with
  | nil => exact True.intro
  | @cons p q ps qs h t ih =>
    obtain ⟨h1, _, h2⟩ := h
    by_cases e : p.1 = k
    · have e' : q.1 = k := h1.symm.trans e
      have b : atKey (q :: qs) k = some q.2 := by simp [atKey, List.find?_cons, e']
      rw [valV_pos e, b]; exact h2
    · have e' : ¬ q.1 = k := fun z => e (h1.trans z)
      have b : atKey (q :: qs) k = atKey qs k := by simp [atKey, List.find?_cons, e']
      rw [valV_neg e, b]; exact ih
theorem KT.repl {H : Hp} {kvs : List (List Key × V)} {xs : List (List Key × Addr × Value)} (r : KT H kvs xs) (k : List Key) {y : V} {u : Value} (ry : RelV y u) :
    KT H (kvs.map fun kv => if kv.1 = k then (kv.1, y) else kv) (xs.map (putAt k u)) := by
  induction r with
  | nil => exact .nil
  | @cons p q ps qs h t ih =>
    rw [List.map_cons, List.map_cons]
    refine .cons ?_ ih
    obtain ⟨h1, h2, h3⟩ := h
    unfold putAt
    by_cases e : p.1 = k
    · rw [if_pos e, if_pos (h1.symm.trans e)]; exact ⟨h1, h2, ry⟩
    · rw [if_neg e, if_neg (fun z => e (h1.trans z))]; exact ⟨h1, h2, h3⟩
theorem KT.put {H : Hp} {kvs : List (List Key × V)} {xs : List (List Key × Addr × Value)} (r : KT H kvs xs) (k : List Key) {b : Addr} {y : V} {u : Value} (hb : H b = some (.tup (k.map kV))) (ry : RelV y u) :
    KT H (putK kvs k y) (storedH xs k b u) := by
  have e : (kvs.any fun kv => decide (kv.1 = k)) = (atKey xs k).isSome := by
    rw [valV_any, (r.val k).isSome_eq, Option.isSome_map]
  unfold putK storedH
  rw [e]
  by_cases q : (atKey xs k).isSome = true
  · rw [if_pos q, if_pos q]; exact r.repl k ry
  · rw [if_neg q, if_neg q]; exact Paired.snoc r ⟨rfl, hb, ry⟩
theorem KT.keeps {H H' : Hp} {kvs : List (List Key × V)} {xs : List (List Key × Addr × Value)} (r : KT H kvs xs) (ht : ∀ b ys, H b = some (.tup ys) → H' b = some (.tup ys)) : KT H' kvs xs :=
  Paired.mapP r fun _ _ z => ⟨z.1, ht _ _ z.2.1, z.2.2⟩

section
variable {P : Program} {w : World} {H : Hp} {h : Heap} {a : Addr}
theorem rd_of {u : HO} (ok : HOk P w H h) (e : Rd H a u) : ObjOk P w H h a u := e.ok ok
theorem dk_rd {kvs : List (Key × V)} (ok : HOk P w H h) (e : Rd H a (.dK kvs)) : kvs.length ≤ sizeLine ∧ (a == sysModules) = false ∧ ∃ vs, KV kvs vs ∧ h.DictOf (mixKind P w) a vs :=
  show ObjOk P w H h a (.dK kvs) from rd_of ok e
theorem dk_of {kvs : List (Key × V)} (ok : HOk P w H h) (e : H a = some (.dK kvs)) : kvs.length ≤ sizeLine ∧ (a == sysModules) = false ∧ ∃ vs, KV kvs vs ∧ h.DictOf (mixKind P w) a vs := dk_rd ok (.inl e)
theorem key_of {ks : List Key} (ok : HOk P w H h) (e : H a = some (.tup (ks.map kV))) : (tupleKind (mixKind P w)).is h ks a := by
  obtain ⟨_, its, r, o, h1, h2, n, h3⟩ := (show ObjOk P w H h a (.tup (ks.map kV)) from ok a _ e)
  exact ⟨o, its.toArray, n, h1, h2, h3, by simpa using items_are r⟩
theorem dt_rd {kvs : List (List Key × V)} (ok : HOk P w H h) (e : Rd H a (.dT kvs)) : kvs.length ≤ sizeLine ∧ (a == sysModules) = false ∧
    ∃ xs, KT H kvs xs ∧ h.DictOfH (tupleKind (mixKind P w)) a xs := by
  obtain ⟨z, y, xs, r, o, es, ep, h1, h2, h3, h4, h5⟩ := (show ObjOk P w H h a (.dT kvs) from rd_of ok e)
  refine ⟨z, y, xs, r, o, es, ep, h1, h2, h3, h4, fun x hx => ?_, h5⟩
  have all : ∀ {l : List (List Key × V)} {m : List (List Key × Addr × Value)}, KT H l m → ∀ x ∈ m, (tupleKind (mixKind P w)).is h x.1 x.2.1 := by
    intro l m q
    induction q with
    | nil => intro x hx; exact nomatch hx
    | @cons p q ps qs hq t ih =>
      intro x hx
      rcases List.mem_cons.mp hx with e | hx
      · subst e
        exact key_of ok (by rw [← hq.1]; exact hq.2.1)
      · exact ih x hx
  exact all r x hx
theorem dt_of {kvs : List (List Key × V)} (ok : HOk P w H h) (e : H a = some (.dT kvs)) : kvs.length ≤ sizeLine ∧ (a == sysModules) = false ∧
    ∃ xs, KT H kvs xs ∧ h.DictOfH (tupleKind (mixKind P w)) a xs := dt_rd ok (.inl e)
end

noncomputable def DGet (H : Hp) (a : Addr) (y : V) (r : Option V) : Prop :=
  (∃ kvs k, Rd H a (.dK kvs) ∧ y = kV k ∧ r = valV kvs k) ∨ ∃ kvs k b, Rd H a (.dT kvs) ∧ y = .ref b ∧ H b = some (.tup (k.map kV)) ∧ r = valV kvs k
noncomputable def DPut (H : Hp) (a : Addr) (y v : V) (H' : Hp) : Prop :=
  (∃ kvs k, H a = some (.dK kvs) ∧ y = kV k ∧ kvs.length < sizeLine ∧ H' = upd H a (.dK (putK kvs k v))) ∨
  ∃ kvs k b, H a = some (.dT kvs) ∧ y = .ref b ∧ H b = some (.tup (k.map kV)) ∧ kvs.length < sizeLine ∧ H' = upd H a (.dT (putK kvs k v))
theorem DGet.k {H : Hp} {a : Addr} {kvs : List (Key × V)} {k : Key} (e : H a = some (.dK kvs)) : DGet H a (kV k) (valV kvs k) := .inl ⟨kvs, k, .inl e, rfl, rfl⟩
theorem DPut.k {H : Hp} {a : Addr} {kvs : List (Key × V)} {k : Key} {v : V} (e : H a = some (.dK kvs)) (hl : kvs.length < sizeLine) : DPut H a (kV k) v (upd H a (.dK (putK kvs k v))) := .inl ⟨kvs, k, e, rfl, hl, rfl⟩
section
variable {X : Cx} {pins : List (Addr × Obj)} {σ : St} {H : Hp} {s : Shared} {a : Addr} {y v : V} {u r : Value} {o : Option V} {A : Around} {E : Value → Shared → Prop}

theorem Inv.big (I : Inv X pins σ H s) : sysModules < s.heap.objs.size := by
  have h : mainGlobals < s.heap.objs.size := (I.mod.glob.keeps I.bk).lt
  exact Nat.lt_trans (by decide) h

theorem d_write {h' : Heap} {t' : Nat} {ob : HO} (I : Inv X pins σ H s) (mu : Mut (H a)) (hs : Heap.SameBut a s.heap h') (he : ∃ q, h'.get? a = some q) (new : ObjOk X.prog X.w (upd H a ob) h' a ob) :
    Inv X pins σ (upd H a ob) { s with heap := h', toks := t' } :=
  I.write (x := a) (e := a) mu (.inl rfl) (fun b q hb z => (hs.2 b hb).trans z) he new
theorem dk_new {P : Program} {w : World} {H' : Hp} {h' : Heap} {kvs : List (Key × V)} {vs : List (Key × Value)} (z : kvs.length ≤ sizeLine) (hd : (a == sysModules) = false) (rel : KV kvs vs) (dd : h'.DictOf (mixKind P w) a vs) :
    ObjOk P w H' h' a (.dK kvs) := ⟨z, hd, vs, rel, dd⟩
theorem d_setItem {H' : Hp} {Q : Unit → Shared → Prop} (hu : A.units + 1 < cLine) (I : Inv X pins σ H s) (g : DPut H a y v H') (ry : RelV y u) (rv : RelV v r) (h : ∀ s', Inv X pins σ H' s' → Q () s') :
    wpAny (model X.prog X.w) A (setItem (.ref a) u r) Q E s := by
  rcases g with ⟨kvs, k, e, ey, l, eH⟩ | ⟨kvs, k, b, e, ey, eb, l, eH⟩
  · subst ey eH
    obtain ⟨z, hd, vs, rel, dd⟩ := dk_of I.hok e
    have hz : vs.length ≤ sizeLine := by rw [← rel.length]; exact z
    have hl : (putK kvs k v).length ≤ sizeLine := by have := length_putK kvs k v; (first | lia | omega)
    refine wpAny_setItem_pairs (hsz := hz) (kV_is ry) dd fun h' dd' hs => h _ ?_
    have he : ∃ q, h'.get? a = some q := let ⟨q, _, _, hq, _⟩ := dd'; ⟨q, hq⟩
    exact d_write I (by rw [e]; exact True.intro) hs he (dk_new hl hd (rel.put k rv) dd')
  · subst ey eH
    cases (show u = Value.ref b from ry)
    obtain ⟨z, hd, xs, rel, dd⟩ := dt_of I.hok e
    have hz : xs.length ≤ sizeLine := by rw [← Paired.length rel]; exact z
    have hl : (putK kvs k v).length ≤ sizeLine := by have := length_putK kvs k v; (first | lia | omega)
    refine wpAny_setItem_heap (hsz := hz) (tupleKind_room_in1 hu) (key_of I.hok eb) dd fun h' dd' hs => h _ ?_
    obtain ⟨q, es, ep, hq, h2, h3, h4, _, h5⟩ := dd'
    refine d_write I (by rw [e]; exact True.intro) hs ⟨q, hq⟩ ⟨hl, hd, _, (rel.put k eb rv).keeps fun c ys ec => ?_, q, es, ep, hq, h2, h3, h4, h5⟩
    rw [upd_ne (ne_of ec e (fun z => nomatch z))]
    exact ec
end

section
variable {X : Cx} {pins : List (Addr × Obj)} {σ : St} {H : Hp} {s : Shared} {a : Addr} {kvs : List (Key × V)} {k : Key} {u : Value} {A : Around} {E : Value → Shared → Prop}
end


/-! ### readings and rules -/
noncomputable def NoSl (i : Expr) : Prop := ∀ ov iv, subscripted i false ov iv = operate [ov, iv] (getItem ov iv)
noncomputable def tDGet (td ty : TE) : TE := fun σ H Q => td σ H fun x H1 => ty σ H1 fun y H2 => ∃ a v, x = .ref a ∧ DGet H2 a y (some v) ∧ Q v H2
noncomputable def tDIn (ty td : TE) : TE := fun σ H Q => ty σ H fun y H1 => td σ H1 fun x H2 => ∃ a o, x = .ref a ∧ DGet H2 a y o ∧ Q (.bl o.isSome) H2
noncomputable def tDNotIn (ty td : TE) : TE := fun σ H Q => ty σ H fun y H1 => td σ H1 fun x H2 => ∃ a o, x = .ref a ∧ DGet H2 a y o ∧ Q (.bl (!o.isSome)) H2
noncomputable def sDPut (td ty tv : TE) : TS := fun D σ H => tv σ H fun v H1 => td σ H1 fun x H2 => ty σ H2 fun y H3 => ∃ a H4, x = .ref a ∧ DPut H3 a y v H4 ∧ D.nx σ H4
noncomputable def sDAug (td ty tv : TE) (rd : V → V → Hp → VK → Prop) : TS := fun D σ H => td σ H fun x H1 => ty σ H1 fun y H2 => ∃ a v, x = .ref a ∧ DGet H2 a y (some v) ∧
  tv σ H2 fun y2 H3 => rd v y2 H3 fun z H4 => ∃ H5, DPut H4 a y z H5 ∧ D.nx σ H5
noncomputable def sDDel (td ty : TE) : TS := fun D σ H => td σ H fun x H1 => ty σ H1 fun y H2 => ∃ a kvs k, x = .ref a ∧ H2 a = some (.dK kvs) ∧ y = kV k ∧ (valV kvs k).isSome = true ∧ D.nx σ (upd H2 a (.dK (dropK kvs k)))

section
variable {X : Cx} {o i e value : Expr} {pos pos' tpos : Pos} {td ty tv : TE}
theorem ps_dput (hu : X.A.units + 1 < cLine) (ho : PE X o td) (hi : PE X i ty) (hv : PE X value tv) (hs : swapsWith value (some (.Subscript o i pos')) pos.line X.env = pure false) :
    PS X (.Assign [.Subscript o i pos'] value pos) (sDPut td ty tv) := by
  intro pins s σ H D I h
  refine wpAny_Assign_Subscript (thn (hv pins s σ H _ I h) fun r s1 hz37 => ?_) hs
  obtain ⟨v, H1, I1, rv, q1⟩ := hz37
  refine thn (ho pins s1 σ H1 _ I1 q1) fun u s2 hz38 => ?_
  obtain ⟨x, H2, I2, rx, q2⟩ := hz38
  refine thn (hi pins s2 σ H2 _ I2 q2) fun iv s3 hz39 => ?_
  obtain ⟨y, H3, I3, ry, a, H4, ex, g, q3⟩ := hz39
  subst ex
  obtain rfl : u = Value.ref a := rx
  exact d_setItem hu I3 g ry rv fun s4 I4 => ⟨σ, H4, I4, q3⟩
end


/-! ### displays -/
theorem dk_empty {P : Program} {w : World} {H : Hp} (h : Heap) (hb : sysModules < h.objs.size) : ObjOk P w H (h.push { cls := .type "dict", data := .dict #[] }) h.objs.size (.dK []) :=
  ⟨Nat.zero_le _, beq_eq_false_iff_ne.mpr (Ne.symm (Nat.ne_of_lt hb)), [], .nil, Heap.DictOf.new h⟩
noncomputable def tDNewK : TE := fun _ H Q => ∀ p, H p = none → Q (.ref p) (upd H p (.dK []))
noncomputable def tDNewT : TE := fun _ H Q => ∀ p, H p = none → Q (.ref p) (upd H p (.dT []))
section
variable {X : Cx} {pos : Pos}
theorem pe_dnewK : PE X (.Dict [] [] pos) tDNewK := fun pins s σ H Q I h =>
  wpAny_Dict_empty ⟨.ref s.heap.objs.size, _, I.laid (a := s.heap.objs.size) (o := .dK []) (t' := s.toks) (fun _ _ q => Heap.get?_push_of_some _ q) (Nat.le_refl _) (dk_empty s.heap I.big), rfl, h _ (I.hok.fresh (Nat.le_refl _))⟩
end

noncomputable def tPairs : List (TE × TE) → St → Hp → (List (V × V) → Hp → Prop) → Prop
  | [], _, H, Q => Q [] H
  | (tk, tv) :: r, σ, H, Q => tk σ H fun x H1 => tv σ H1 fun y H2 => tPairs r σ H2 fun ps H3 => Q ((x, y) :: ps) H3
noncomputable abbrev VV : List (V × V) → List (Value × Value) → Prop := Paired fun p q => RelV p.1 q.1 ∧ RelV p.2 q.2
noncomputable def PPs (X : Cx) (pos : Pos) (keys : List (Option Expr)) (values : List Expr) (trs : List (TE × TE)) : Prop :=
  ∀ (pins : List (Addr × Obj)) (s : Shared) (σ : St) (H : Hp) (Q : List (V × V) → Hp → Prop), Inv X pins σ H s → tPairs trs σ H Q →
    wpAny (model X.prog X.w) X.A (evalPairs (pairTrees keys values X.env pos)) (fun vs s' => ∃ ps H', Inv X pins σ H' s' ∧ VV ps vs ∧ Q ps H') X.xe s
theorem pps_nil {X : Cx} {pos : Pos} : PPs X pos [] [] [] := fun pins s σ H Q I h => pairTrees_nil_walk ⟨[], H, I, .nil, h⟩
theorem pps_cons {X : Cx} {pos : Pos} {k v : Expr} {ks : List (Option Expr)} {vs : List Expr} {tk tv : TE} {trs : List (TE × TE)} (hk : PE X k tk) (hv : PE X v tv) (hr : PPs X pos ks vs trs) :
    PPs X pos (some k :: ks) (v :: vs) ((tk, tv) :: trs) := fun pins s σ H Q I h =>
  pairTrees_cons_walk (thn (hk pins s σ H _ I h) fun u s1 ⟨x, H1, I1, rx, q1⟩ => thn (hv pins s1 σ H1 _ I1 q1) fun w2 s2 ⟨y, H2, I2, ry, q2⟩ =>
    thn (hr pins s2 σ H2 _ I2 q2) fun ws s3 ⟨ps, H3, I3, rel, q3⟩ => ⟨(x, y) :: ps, H3, I3, .cons ⟨rx, ry⟩ rel, q3⟩)

noncomputable def mergeK (kvs more : List (Key × V)) : List (Key × V) := more.foldl (fun acc kv => putK acc kv.1 kv.2) kvs
theorem KV.merge : ∀ {more : List (Key × V)} {rs : List (Key × Value)} {kvs : List (Key × V)} {vs : List (Key × Value)}, KV more rs → KV kvs vs → KV (mergeK kvs more) (merged vs rs) := by
  intro more rs kvs vs r
  unfold KV at r
  induction r generalizing kvs vs with
  | nil => intro q; exact q
  | @cons p q ps qs h t ih =>
    intro r0
    have e : KV (putK kvs p.1 p.2) (stored vs q.1 q.2) := by
      have := r0.put p.1 h.2
      rw [← h.1]; exact this
    exact ih e
theorem length_mergeK : ∀ (more kvs : List (Key × V)), (mergeK kvs more).length ≤ kvs.length + more.length
  | [], kvs => by show kvs.length ≤ kvs.length + 0; (first | lia | omega)
  | p :: r, kvs => by
    have h1 := length_mergeK r (putK kvs p.1 p.2)
    have h2 := length_putK kvs p.1 p.2
    show (mergeK (putK kvs p.1 p.2) r).length ≤ _
    rw [List.length_cons]; (first | lia | omega)
theorem carries_of {P : Program} {w : World} : ∀ {kvs : List (Key × V)} {ws : List (Value × Value)}, VV (kvs.map fun kv => (kV kv.1, kv.2)) ws → ∃ rs, Carries (mixKind P w) ws rs ∧ KV kvs rs
  | [], _, r => by rw [List.map_nil] at r; cases r; exact ⟨[], True.intro, .nil⟩
  | p :: kvs, _, r => by
    rw [List.map_cons] at r
    cases r with
    | @cons a b as bs h t =>
      obtain ⟨rs, c, q⟩ := carries_of (P := P) (w := w) t
      obtain ⟨b1, b2⟩ := b
      exact ⟨(p.1, b2) :: rs, ⟨kV_is h.1, rfl, c⟩, .cons ⟨rfl, h.2⟩ q⟩
noncomputable def tDisp (trs : List (TE × TE)) : TE := fun σ H Q => ∀ p, H p = none → tPairs trs σ (upd H p (.dK [])) fun ps H2 => H2 p = some (.dK []) ∧ ∃ kvs : List (Key × V), ps = kvs.map (fun kv => (kV kv.1, kv.2)) ∧ kvs.length ≤ 15 ∧ Q (.ref p) (upd H2 p (.dK (mergeK [] kvs)))
theorem pe_disp {X : Cx} {pos : Pos} {keys : List (Option Expr)} {values : List Expr} {trs : List (TE × TE)} (h : PPs X pos keys values trs) (hall : keys.all (·.isSome) = true) (hl : keys.length = values.length) (h0 : keys ≠ [])
    (h15 : keys.length ≤ 15) : PE X (.Dict keys values pos) (tDisp trs) := by
  intro pins s σ H Q I q
  have hn := I.hok.fresh (Nat.le_refl s.heap.objs.size)
  have I1 := I.laid (a := s.heap.objs.size) (o := .dK []) (h' := s.heap.push { cls := .type "dict", data := .dict #[] }) (t' := s.toks) (fun _ _ q => Heap.get?_push_of_some _ q) (Nat.le_refl _) (dk_empty s.heap I.big)
  refine wpAny_Dict_walk (knd := mixKind X.prog X.w) hall hl h0 h15 (thn (h pins _ σ _ _ I1 (q _ hn)) fun ws s2 hz40 => ?_)
  obtain ⟨ps, H2, I2, rel, e, kvs, ep, lk, q2⟩ := hz40
  subst ep
  obtain ⟨rs, c, rk⟩ := carries_of (P := X.prog) (w := X.w) rel
  obtain ⟨z, hd, vs0, r0, dd⟩ := dk_of I2.hok e
  cases r0
  refine ⟨rs, c, dd, fun h' dd' hs => ⟨.ref s.heap.objs.size, _, ?_, rfl, q2⟩⟩
  have hz : (mergeK [] kvs).length ≤ sizeLine := by
    have h1 := length_mergeK kvs []
    rw [List.length_nil] at h1
    rw [sizeLine_eq]; (first | lia | omega)
  have he : ∃ q, h'.get? s.heap.objs.size = some q := let ⟨q, _, _, hq, _⟩ := dd'; ⟨q, hq⟩
  exact d_write I2 (by rw [e]; exact True.intro) hs he (dk_new hz hd (rk.merge .nil) dd')


/-! ### methods -/
structure M1 (X : Cx) (o : Expr) (m : Str) (apos : Pos) (e : Expr) (cpos : Pos) : Prop where
  base : attributeBase o m X.env (eval o X.env) = eval o X.env
  few : ((backTo cpos (starEach [e] X.env)).all (fun x => !x.1) && (backToKw cpos (keywordEach [] X.env)).all (fun x => x.1.isSome)
    && decide (([e] : List Expr).length + ([] : List Keyword).length + (if ([] : List Keyword).isEmpty then 0 else 1) < 30)) = true
  line : (apos.endLine == cpos.line) = true
  trees : backTo cpos (starEach [e] X.env) = [(false, eval e X.env)]
structure M2 (X : Cx) (o : Expr) (m : Str) (apos : Pos) (e f : Expr) (cpos : Pos) : Prop where
  base : attributeBase o m X.env (eval o X.env) = eval o X.env
  few : ((backTo cpos (starEach [e, f] X.env)).all (fun x => !x.1) && (backToKw cpos (keywordEach [] X.env)).all (fun x => x.1.isSome)
    && decide (([e, f] : List Expr).length + ([] : List Keyword).length + (if ([] : List Keyword).isEmpty then 0 else 1) < 30)) = true
  line : (apos.endLine == cpos.line) = true
  trees : backTo cpos (starEach [e, f] X.env) = [(false, eval e X.env), (false, eval f X.env)]

noncomputable def IsD (H : Hp) (a : Addr) : Prop := (∃ kvs, Rd H a (.dK kvs)) ∨ ∃ kvs, Rd H a (.dT kvs)
theorem isD_at {X : Cx} {pins : List (Addr × Obj)} {σ : St} {H : Hp} {s : Shared} {a : Addr} (I : Inv X pins σ H s) (d : IsD H a) :
    s.TypeIs (.ref a) "dict" ∧ (∀ b, Value.ref a = .ref b → ∃ ob, s.heap.get? b = some ob ∧ ob.dict = none) ∧ (a == sysModules) = false := by
  rcases d with ⟨kvs, e⟩ | ⟨kvs, e⟩
  · obtain ⟨_, hd, vs, _, dd⟩ := dk_rd I.hok e
    refine ⟨dd.typeIs, fun b q => ?_, hd⟩
    cases q
    obtain ⟨ob, _, _, h1, h2, _⟩ := dd
    exact ⟨ob, h1, h2.2.1⟩
  · obtain ⟨_, hd, xs, _, dd⟩ := dt_rd I.hok e
    refine ⟨dd.typeIs, fun b q => ?_, hd⟩
    cases q
    obtain ⟨ob, _, _, h1, h2, _⟩ := dd
    exact ⟨ob, h1, h2.2.1⟩

section
variable {X : Cx} {pins : List (Addr × Obj)} {σ : St} {H : Hp} {s : Shared} {a : Addr} {y d : V} {u r : Value} {o : Option V} {A : Around} {E : Value → Shared → Prop}
theorem d_get2 {Q : Value → Shared → Prop} (hu : A.units + 1 < cLine) (I : Inv X pins σ H s) (g : DGet H a y o) (ry : RelV y u) (rd : RelV d r) (h : ∀ w' s', Inv X pins σ H s' → RelV (o.getD d) w' → Q w' s') :
    wpAny (model X.prog X.w) A (call (.builtin "dict.get") [.ref a, u, r]) Q E s := by
  rcases g with ⟨kvs, k, e, ey, l⟩ | ⟨kvs, k, b, e, ey, eb, l⟩
  · subst ey
    obtain ⟨z, hd, vs, rel, dd⟩ := dk_rd I.hok e
    refine call_meetsIn PySem.F.slot_dict_get dd.typeIs PySem.F.entry_dict_get (PySem.F.args_dict_get_3 _ _ _) (meets_dict_get_default (mixKind X.prog X.w) a (kV_is ry) hd r) ⟨_, dd.mapOf, h _ _ (I.tok _) ?_⟩
    rw [l]
    exact (rel.val k).getD rd
  · subst ey
    cases (show u = Value.ref b from ry)
    obtain ⟨z, hd, xs, rel, dd⟩ := dt_rd I.hok e
    refine call_meetsIn PySem.F.slot_dict_get dd.typeIs PySem.F.entry_dict_get (PySem.F.args_dict_get_3 _ _ _) (meetsH_dict_get_default (tupleKind (mixKind X.prog X.w)) a b hd r) ⟨tupleKind_room_in1 hu, k, xs, key_of I.hok eb, dd, h _ _ (I.tok _) ?_⟩
    rw [l]
    exact (rel.val k).getD rd
end

noncomputable def tDGet1 (td ty : TE) : TE := fun σ H Q => td σ H fun x H1 => ∃ a, x = .ref a ∧ IsD H1 a ∧ ty σ H1 fun y H2 => ∃ o, DGet H2 a y o ∧ Q (o.getD .non) H2
noncomputable def tDGet2 (td ty tx : TE) : TE := fun σ H Q => td σ H fun x H1 => ∃ a, x = .ref a ∧ IsD H1 a ∧ ty σ H1 fun y H2 => tx σ H2 fun z H3 => ∃ o, DGet H3 a y o ∧ Q (o.getD z) H3
noncomputable def tDPop1 (td ty : TE) : TE := fun σ H Q => td σ H fun x H1 => ∃ a, x = .ref a ∧ IsD H1 a ∧ ty σ H1 fun y H2 => ∃ kvs k v, H2 a = some (.dK kvs) ∧ y = kV k ∧ valV kvs k = some v ∧ Q v (upd H2 a (.dK (dropK kvs k)))
noncomputable def tDPop2 (td ty tx : TE) : TE := fun σ H Q => td σ H fun x H1 => ∃ a, x = .ref a ∧ IsD H1 a ∧ ty σ H1 fun y H2 => tx σ H2 fun z H3 => ∃ kvs k, H3 a = some (.dK kvs) ∧ y = kV k ∧
  (∀ v, valV kvs k = some v → Q v (upd H3 a (.dK (dropK kvs k)))) ∧ (valV kvs k = none → Q z H3)
section
variable {X : Cx} {o e f : Expr} {apos cpos : Pos} {td ty tx : TE}
theorem pe_dget2 (hu : X.A.units + 1 < cLine) (ho : PE X o td) (he : PE X e ty) (hf : PE X f tx) (m : M2 X o "get" apos e f cpos) : PE X (.Call (.Attribute o "get" apos) [e, f] [] cpos) (tDGet2 td ty tx) := by
  intro pins s σ H Q I h
  refine wpAny_Call_method m.base m.few m.line PySem.F.plainAttrs_dict PySem.F.slot_dict_get PySem.F.type_dict_get (thn (ho pins s σ H _ I h) fun u s1 hz41 => ?_)
  obtain ⟨x, H1, I1, rx, a, ex, d, q1⟩ := hz41
  subst ex
  obtain rfl : u = Value.ref a := rx
  obtain ⟨t1, t2, _⟩ := isD_at I1 d
  refine ⟨t1, t2, ?_⟩
  rw [m.trees]
  refine Calls.callWith_builtin rfl (Calls.evalArgs_plain (Calls.spliced_cons (thn (he pins s1 σ H1 _ I1 q1) fun iv s2 ⟨y, H2, I2, ry, q2⟩ => Calls.spliced_cons (thn (hf pins s2 σ H2 _ I2 q2) fun fv s3 ⟨z, H3, I3, rz, ov, g, q3⟩ => Calls.spliced_nil ?_))))
  exact d_get2 hu I3 g ry rz fun w' s4 I4 rw' => ⟨_, H3, I4, rw', q3⟩
end

/-! ### dict(d): a copy -/
section
variable {X : Cx} {pins : List (Addr × Obj)} {σ : St} {H : Hp} {s : Shared} {a : Addr} {kvs : List (Key × V)} {A : Around} {E : Value → Shared → Prop}
end


section
variable {X : Cx} {pins : List (Addr × Obj)} {σ : St} {H : Hp} {s : Shared} {a : Addr} {y : V} {u : Value} {A : Around} {E : Value → Shared → Prop}
end
end L2

namespace Att
open PySem PySem.W PySem.Calls PyProof.Rows

/-! ### the script -/
theorem ints_of_wellAll {P : Params} {h : Heap} : ∀ (ns : List Int) (vs : List Value), WellAll P h vs (ns.map WData.int) → IntsAre vs ns := by
  intro ns
  induction ns with
  | nil =>
    intro vs w
    rw [List.map_nil] at w
    cases w
    exact .nil
  | cons n ns ih =>
    intro vs w
    rw [List.map_cons] at w
    cases w with
    | cons a b =>
      cases a
      exact .cons _ _ (ih _ b)

theorem script_of {l : OpenLaw} {n : Nat} (hn : l.most = some n) {P : Params} {h : Heap} {args : List WData} {vals : List Value}
    (hpre : l.row.toRowW.claim.pre args = true) (hwl : WellAll P h vals args) :
    ∃ a vs ns, vals = [Value.ref a] ∧ args = [WData.list (ns.map WData.int)] ∧ h.get? a = some { cls := .type "list", data := .seq vs.toArray } ∧ IntsAre vs ns ∧ ns.length ≤ n := by
  have hsh : WShape.hasAll [] args [.list .int] = true := (pre_splitW hpre).1
  have hc : l.pre.holds [] { args := args } = true := (pre_splitW hpre).2
  obtain ⟨d, r, rfl, h1, h2⟩ := hasAllW_cons hsh
  obtain rfl := hasAllW_nil h2
  obtain ⟨xs, rfl, h3⟩ := hasW_list h1
  obtain ⟨ns, rfl⟩ := items_int h3
  have hlen : ns.length ≤ n := by
    unfold OpenLaw.pre at hc
    have h4 : (WTm.not (.lt (.lit (.int (n : Int))) (.len (.arg 0)))).holds [] { args := [.list (ns.map .int)] } = true := by
      have h4 := (holds_andW hc).1
      rw [hn] at h4
      exact h4
    have h5 := condW_of h4 (w_not (w_lt w_lit (w_len_list (w_arg rfl))))
    rw [List.length_map] at h5
    refine Nat.le_of_not_lt fun q => ?_
    have q' : (n : Int) < ((ns.length : Nat) : Int) := by (first | lia | omega)
    first
      | (rw [decide_eq_true q'] at h5; exact absurd h5 (by decide))
      | (simp at h5; (first | lia | omega))
  cases hwl with
  | cons w1 w2 =>
    cases w2
    cases w1 with
    | list ho hall => exact ⟨_, _, ns, rfl, rfl, ho, ints_of_wellAll ns _ hall, hlen⟩

theorem post_true (l : OpenLaw) (args : List WData) : l.row.toRowW.claim.post args (.bool true) args = true :=
  postW_of (r := l.row.toRowW) (X := (true == true))
    (show WShape.has [] (.bool true) .bool = true by first | rfl | decide | simp [WShape.has, WShape.arms, WShape.armsAll])
    (show (WTm.eq .res (.lit (.bool true))).value [] { args := args, res := some (.bool true), after := args } = some (.bool (true == true)) from w_eq_bool (w_res rfl) w_lit) rfl

/-! ### the attachment: holds_open's last premise (the goal 'hc' behind k_head) from a wpAny of the law's body -/
theorem attach_call {l : OpenLaw} {n : Nat} {q : Program} {loose : List Str} {XP : (Str → Option Value) → Heap → Prop} {YP : World → Heap → Prop} {d : DefRec}
    (hn : l.most = some n) (hdf : d.params.defaults = [])
    (call : ∀ (w : World) (s₀ s₁ : Shared) (mg mb : Str → Option Value) (fa : Addr) (o : Obj) (pm cd doc : Value) (a : Addr) (vs : List Value) (ns : List Int),
      Ground q loose [] XP w s₀ mg mb s₁.heap → YP w s₁.heap →
      s₁.heap.get? fa = some o → o.data = .func (docDef d.name d.params d.body d.scope pm cd doc) → s₁.heap.CodeRec cd d.name → mg d.name = some (.ref fa) →
      s₁.heap.get? a = some { cls := .type "list", data := .seq vs.toArray } → IntsAre vs ns → ns.length ≤ n → s₁.gens = #[] →
      codeAny (model l.prog w) callerA (.call (.ref fa) ⟨[.ref a], []⟩) (fun r s' => r = .ok (.ret (.bool true)) ∧ OldK s₁.heap s'.heap ∧ s'.os = s₁.os ∧ AllBare s'.gens) s₁) :
    WalkO q loose XP YP l.row.toRowW d [] (fun f vs => PySem.call f vs) := by
  intro w s₀ s₁ mg mb G Y fa o pm cd doc dV kV ho hd hcd hD hmg hg args vals as hpre hlay hrd hwl hlo
  obtain rfl : dV = .none := Dflts.none hD hdf
  obtain rfl : kV = .none := Dflts.noKw hD
  obtain ⟨a, vs, ns, rfl, rfl, hobj, hints, hlen⟩ := script_of hn hpre hwl
  refine enter_call (codeAny_mono (call w s₀ s₁ mg mb fa o pm cd doc a vs ns G Y ho (fd_plain hd) hcd hmg hobj hints hlen hg) fun r s' hq => ?_)
  obtain ⟨rfl, h2, h3, h4⟩ := hq
  exact ⟨.inl ⟨.bool true, .bool true, [], rfl, fun _ => rfl, .bool true, post_true l _, fun _ => ⟨List.Pairwise.nil, fun _ hm => (nomatch hm)⟩⟩, h2, h3, h4⟩

/-! ### rules over ANY heap (no ledger) from facts about the written part K: the library's own take a ledger (News) for what they write -/
section
variable {prog : Program} {w : World} {A : Around} {E : Value → Shared → Prop} {s : Shared} {K : Frag}

/-! the whole heap as the ledger: makes every rule that writes through a ledger a rule over any heap -/
noncomputable def noObjs (h : Heap) : Heap := { h with objs := #[] }
noncomputable def ledger (h : Heap) (L d : Addr) : List (Addr × Obj) := (List.range h.objs.size).filterMap fun a => if a = L ∨ a = d then none else (h.get? a).map fun o => (a, o)
end
end Att

namespace L2
open PySem PySem.Spec PyProof.Rows

theorem vals_ints : ∀ {vs : List Value} {ns : List Int}, IntsAre vs ns → Vals (ns.map V.int) vs := by
  intro vs ns h
  induction h with
  | nil => exact .nil
  | cons n t h ih => exact .cons ⟨t, rfl⟩ ih
noncomputable def Only (H : Hp) : Prop := ∀ b, H b = none ∨ ∃ o xs, H b = some (.frz o (.lst xs))

theorem law_call {P : Program} {w : World} {K : PySem.W.Frag} {mg mb : Str → Option Value} {CX : CXT} {k : Nat} {fa a : Addr} {fd : FuncData} {x : Str} {sp : Sp} {s₁ : Shared} {vs : List Value} {ns : List Int}
    (KX : K.In s₁.heap) (hns : s₁.heap.Ns mainGlobals mg) (hb : s₁.heap.Ns builtinsNs mb) (hbb : ∀ x : Str, x ≠ "__name__" → mb x = bootBuiltins x) (hlim : s₁.heap.NoLimit) (hg : s₁.gens = #[])
    (ha : s₁.heap.get? a = some { cls := .type "list", data := .seq vs.toArray }) (hi : IntsAre vs ns) (hl : ns.length ≤ sizeLine) (hr : Room k callerA)
    (F : ∀ base : Heap, K.In base → base.Ns mainGlobals mg → FnOk P w K mg base CX k fa fd [x] sp) (hbind : ∀ (s : Shared) (u : Value), BindsTo s fd ⟨[u], []⟩ [(x, u)])
    (hsp : ∀ H : Hp, Only H → SqL K H a (ns.map V.int) → sp [.ref a] H (fun v _ => v = .bl true) fun _ _ _ => False)
    (hCX : ∀ H e s', CX [] H s₁ (fun _ _ _ => False) e s' → False) :
    codeAny (model P w) callerA (.call (.ref fa) ⟨[.ref a], []⟩) (fun r s' => r = .ok (.ret (.bool true)) ∧ OldK s₁.heap s'.heap ∧ s'.os = s₁.os ∧ AllBare s'.gens) s₁ := by
  have rv := vals_ints hi
  have lenV := hi.length
  -- from an abstract heap in which nothing but the script may be tracked
  have core : ∀ H : Hp, Only H → SqL K H a (ns.map V.int) → HOk P w H s₁.heap → (∀ b, H b ≠ none → b = a) → (H a ≠ none → K.lookup a = none) →
      codeAny (model P w) callerA (.call (.ref fa) ⟨[.ref a], []⟩) (fun r s' => r = .ok (.ret (.bool true)) ∧ OldK s₁.heap s'.heap ∧ s'.os = s₁.os ∧ AllBare s'.gens) s₁ := by
    intro H hO hS hok hA hK
    have base_of : ∀ {b : Addr} {o : Obj}, s₁.heap.get? b = some o → H b = none → (hidT s₁.heap H).get? b = some o := fun e n => hidT_get e n
    have noA : ∀ {b : Addr} {o : Obj} {es : Array DictEntry} {ep : Nat}, s₁.heap.get? b = some o → o.data = .dict es ep → H b = none := fun {b o es ep} e d => by
      cases q : H b with
      | none => rfl
      | some u =>
        have e' : b = a := hA b (by rw [q]; simp)
        subst e'
        rw [ha] at e; cases e
        have d' : Data.seq vs.toArray _ = Data.dict es ep := d
        cases d'
    have nsK : ∀ {b : Addr} {m : Str → Option Value}, s₁.heap.Ns b m → (hidT s₁.heap H).Ns b m := fun {b m} ⟨o, es, ep, e, d, r⟩ => ⟨o, es, ep, base_of e (noA e d), d, r⟩
    have hKb : K.In (hidT s₁.heap H) := fun b o e => base_of (KX b o e) (by
      cases q : H b with
      | none => rfl
      | some u =>
        have e' : b = a := hA b (by rw [q]; simp)
        subst e'
        rw [hK (by rw [q]; simp)] at e; cases e)
    have hM : Mod K mg (hidT s₁.heap H) := ⟨hKb, nsK hns, ⟨mb, nsK hb, hbb⟩, let ⟨mc, h1, h2⟩ := hlim; ⟨mc, nsK h1, h2⟩⟩
    have e0 : Env0 P w K mg (hidT s₁.heap H) callerA [] s₁ H := ⟨rfl, hM, fun b o e => of_hidT e, Nat.le_of_eq (hidT_size _ _), trivial, fun b hb => absurd (show b ∈ ([] : List Addr) from hb) (by simp), hok, .of_eq hg⟩
    refine codeAny_mono ((F _ hKb (nsK hns)).run callerA [] s₁ H ⟨[.ref a], []⟩ [.ref a] [.ref a] _ _ hr e0 (hbind s₁ (.ref a)) (.cons rfl .nil) (hsp H hO hS)) fun r s' h => ?_
    cases r with
    | error e => exact (hCX H e s' h).elim
    | ok fl =>
      cases fl with
      | next => exact False.elim h
      | brk => exact False.elim h
      | cont => exact False.elim h
      | ret u =>
        obtain ⟨v, H', os, bare, un, hok', r', q⟩ := h
        have q' : v = .bl true := q
        subst q'
        obtain rfl : u = Value.bool true := r'
        refine ⟨rfl, OldK.of_keep fun b o e => ?_, os, bare⟩
        cases q : H b with
        | none => exact un.keep b o e q (by intro z; exact absurd (show b ∈ ([] : List Addr) from z) (by simp)) (by simp)
        | some u =>
          rcases hO b with z | ⟨ob, xs, z⟩
          · rw [q] at z; cases z
          · have z2 := un.frzs b ob _ z
            obtain ⟨e1, _⟩ := hok b _ z
            obtain ⟨e2, _⟩ := hok' b _ z2
            rw [e] at e1; cases e1
            exact e2
  cases hk : K.lookup a with
  | some o =>
    -- the script is one of the module's own objects
    have e := KX a o hk
    rw [ha] at e
    cases e
    refine core (fun _ => none) (fun _ => .inl rfl) (.inr ⟨_, vs.toArray, _, hk, rfl, rfl, rfl, by rw [List.size_toArray, lenV]; exact hl, by simpa using rv⟩) (fun b u z => by have z' : (none : Option HO) = some u := z; cases z') (fun b z => absurd rfl z) fun z => absurd rfl z
  | none =>
    refine core (fun b => if b = a then some (.frz { cls := .type "list", data := .seq vs.toArray } (.lst (ns.map V.int))) else none) (fun b => ?_) (.inl (.inr ⟨{ cls := .type "list", data := .seq vs.toArray }, if_pos rfl⟩)) (fun b u z => ?_) (fun b z => ?_) fun _ => hk
    · by_cases hb : b = a
      · exact .inr ⟨_, _, if_pos hb⟩
      · exact .inl (if_neg hb)
    · by_cases hb : b = a
      · have z' := (if_pos hb).symm.trans z
        cases z'
        subst hb
        exact ⟨ha, by rw [List.length_map]; exact hl, vs, _, rv, ha⟩
      · have z' := (if_neg hb).symm.trans z
        cases z'
    · by_cases hb : b = a
      · exact hb
      · exact absurd (if_neg hb) z
end L2

namespace L2
open PySem PySem.Spec PyProof.Rows

noncomputable abbrev KOf {K : PySem.W.Frag} {h : Heap} (_ : K.In h) : PySem.W.Frag := K

theorem walk_of {l : PySem.W.OpenLaw} {n k : Nat} {q : Program} {loose : List Str} {XP : (Str → Option Value) → Heap → Prop} {YP : World → Heap → Prop} {d : DefRec} {K : Params → PySem.W.Frag} {CX : World → CXT} {sp : World → Sp} {x : Str}
    (hn : l.most = some n) (hn2 : n ≤ sizeLine) (hdf : d.params.defaults = []) (hr : Room k callerA)
    (hY : ∀ (w : World) (h : Heap), YP w h → (K w.params).In h)
    (F : ∀ (w : World) (mg : Str → Option Value) (fa : Addr) (h : Heap), (K w.params).In h → h.Ns mainGlobals mg → mg d.name = some (.ref fa) →
      ∃ fd : FuncData, (∀ (s : Shared) (u : Value), BindsTo s fd ⟨[u], []⟩ [(x, u)]) ∧
        ∀ base : Heap, (K w.params).In base → base.Ns mainGlobals mg → FnOk l.prog w (K w.params) mg base (CX w) k fa fd [x] (sp w))
    (hsp : ∀ (w : World) (H : Hp) (a : Addr) (ns : List Int), ns.length ≤ n → Only H → SqL (K w.params) H a (ns.map V.int) → sp w [.ref a] H (fun v _ => v = .bl true) fun _ _ _ => False)
    (hCX : ∀ (w : World) (H : Hp) (s : Shared) (e : Value) (s' : Shared), CX w [] H s (fun _ _ _ => False) e s' → False) :
    PySem.W.WalkO q loose XP YP l.row.toRowW d [] (fun f vs => PySem.call f vs) := by
  refine Att.attach_call hn hdf fun w s₀ s₁ mg mb fa o pm cd doc a vs ns G Y ho hd hcd hmg hobj hints hlen hg => ?_
  have KX := hY w _ Y
  obtain ⟨fd, hb, hF⟩ := F w mg fa _ KX G.T.g hmg
  exact law_call KX G.T.g G.T.b G.T.builtins G.T.nolimit hg hobj hints (Nat.le_trans hlen hn2) hr hF hb (fun H hO hS => hsp w H a ns hlen hO hS) fun H e s' => hCX w H s₁ e s'
end L2

/- THE LAST THEOREM (shape; LID, My.* are yours):
   My.Adr: a structure of the addresses that your layer names (classes, functions); My.Txt K t: a structure (Prop) of the equations over K;
   My.txt_mk : {K} {implicit addresses ..} (e1 : nsIn K mainGlobals "law" = some (some (.ref f))) (e2 : K.lookup f = some ⟨oc, od, .func (fnOf "law" "law" params body scope dV kV doc pm an cdv ct), sl⟩) (e3 : codeIn K cdv "law" = true) .. : ∃ t, My.Txt K t

set_option maxRecDepth 100000 in
set_option maxHeartbeats 0 in
theorem PySem.Challenge.cw_LID_holds : PySem.Challenge.rw_LID.Holds := by
  w_on; o_law; k_head; (case hw => w_witness2)
  k_fill
  refine L2.walk_of (l := PySem.Challenge.rw_LID) (n := 63) (k := 40) (x := "script") (CX := fun w => ..) (sp := fun _ => My.sp_law) rfl (by decide) rfl ⟨rfl, by decide, by decide⟩ (fun w h Y => PySem.W.kIn_of Y) ?F ?S ?C
  case F =>
    intro w mg fa h KX G hmg
    have T : ∃ t, My.Txt (L2.KOf KX) t := by
      dsimp only [L2.KOf]                          -- K must stand as «<heap const> w.params» for k_is
      refine' My.txt_mk ?e1 ?e2 ?e3 ..
      (case e1 => PySem.W.k_is)                    -- in the order: a name -> its address -> its object -> its parts
      (case e2 => PySem.W.k_is)
      ..
    obtain ⟨t, T⟩ := T
    have e0 := hmg.symm.trans (PySem.W.mg_of KX G T.law)
    cases e0                                       -- fa is the law's own address
    exact ⟨_, fun s u => .of_eq rfl, fun base kb nb => My.law_fn T kb nb⟩     -- if «.of_eq rfl» comes too early: refine' ⟨_, ?b, fun base kb nb => My.law_fn T kb nb⟩; exact fun s u => .of_eq rfl
  case S => exact fun w H a ns hl hO hS => ..
  case C => exact ..
(the tactic k_is has no namespace: write k_is) -/

/-! SHORT WORDS over the layer: a def of the text, its body, what a loop and a test want. -/
namespace L2
open PySem PySem.Spec PyProof.Rows

/-! ### the text by places -/
noncomputable def inClass (s : Stmt) (j : Nat) : Stmt := match s with
  | .ClassDef _ _ _ body _ _ _ _ _ _ _ => body.getD j (.Pass ⟨0, 0, 0, 0⟩)
  | _ => .Pass ⟨0, 0, 0, 0⟩
noncomputable def defArgs (s : Stmt) : Arguments := match s with
  | .FunctionDef _ a _ _ _ _ _ _ _ _ => a
  | _ => { posonlyargs := [], args := [], vararg := none, kwonlyargs := [], kw_defaults := [], kwarg := none, defaults := [] }
noncomputable def defBody (s : Stmt) : List Stmt := match s with
  | .FunctionDef _ _ b _ _ _ _ _ _ _ => b
  | _ => []
noncomputable def defScope (s : Stmt) : Scope := match s with
  | .FunctionDef _ _ _ _ _ _ sc _ _ _ => sc
  | _ => { kind := .function, names := [], isGenerator := false, isCoroutine := false }

/-! ### no exception leaves a def -/
noncomputable abbrev CX0 : CXT := fun _ _ _ _ _ _ => False
noncomputable abbrev E0 : XK := fun _ _ _ => False
theorem pass0 {X : Cx} : Passes CX0 X E0 := fun _ _ _ _ _ _ _ h => h.elim

/-! ### a def (or method) of the text as it stands behind the top -/
structure Fun (K : PySem.W.Frag) (x qual : Str) (st : Stmt) (f : Addr) (fd : FuncData) : Prop where
  ex : ∃ (oc : Value) (od : Option Addr) (kV doc pm : Value) (an : Option Addr) (cdv ct : Value) (osl : Array (Option Value)),
    fd = PySem.W.fnOf x qual (defArgs st) (defBody st) (defScope st) .none kV doc pm an cdv ct ∧ K.lookup f = some ⟨oc, od, .func fd, osl⟩ ∧ PySem.W.codeIn K cdv qual = true
  kp : PySem.W.keepIn K (.ref f) = true
section
variable {P : Program} {w : World} {K : PySem.W.Frag} {mg : Str → Option Value} {base : Heap}
theorem Fun.ok {x qual : Str} {st : Stmt} {f : Addr} {fd : FuncData} {N ps : List Str} {k : Nat} {sp : Sp} (F : Fun K x qual st f fd) (S : FnScope N ps (defScope st)) (len : ∀ vs H Q E, sp vs H Q E → vs.length = ps.length)
    (hbody : ∀ (cdv : Value) (A : Around) (outer : List Env) (s : Shared) (H : Hp) (vs : List V) (Q : VK) (E : XK), Room k (A.deeper (envOfC qual (defScope st) s.heap.objs.size f cdv)) → sp vs H Q E →
      ∃ t, PSs (cxOf CX0 P w K mg base N qual (defScope st) f cdv A outer s H E).nox (defBody st) t ∧ t { nx := fun _ H' => Q .non H', rt := Q } (start N vs) H) : FnOk P w K mg base CX0 (k + 1) f fd ps sp := by
  obtain ⟨oc, od, kV, doc, pm, an, cdv, ct, osl, rfl, lk, hcd⟩ := F.ex
  refine fn_of lk hcd S len fun A outer s H vs Q E hr hsp => ?_
  obtain ⟨t, h, q⟩ := hbody cdv A outer s H vs Q E hr hsp
  exact ⟨t, h.nox, q⟩
theorem Fun.binds {x qual : Str} {st : Stmt} {f : Addr} {fd : FuncData} {ps : List Str} (F : Fun K x qual st f fd)
    (h : ∀ (kV doc pm : Value) (an : Option Addr) (cdv ct : Value) (us : List Value), us.length = ps.length → bindArgs (PySem.W.fnOf x qual (defArgs st) (defBody st) (defScope st) .none kV doc pm an cdv ct) ⟨us, []⟩ = pure (ps.zip us)) : Binds K fd ps [] := by
  obtain ⟨oc, od, kV, doc, pm, an, cdv, ct, osl, rfl, lk, hcd⟩ := F.ex
  exact .all (h kV doc pm an cdv ct)
theorem fun_mk {x qual : Str} {st : Stmt} {f : Addr} {oc : Value} {od an : Option Addr} {osl : Array (Option Value)} {kV doc pm cdv ct : Value} (l : K.lookup f = some ⟨oc, od, .func (PySem.W.fnOf x qual (defArgs st) (defBody st) (defScope st) .none kV doc pm an cdv ct), osl⟩)
    (c : PySem.W.codeIn K cdv qual = true) (k : PySem.W.keepIn K (.ref f) = true) : Fun K x qual st f (PySem.W.fnOf x qual (defArgs st) (defBody st) (defScope st) .none kV doc pm an cdv ct) := ⟨⟨oc, od, kV, doc, pm, an, cdv, ct, osl, rfl, l, c⟩, k⟩
end
theorem hu_of {A : Around} {k : Nat} (hr : Room k A) : A.units + 1 < cLine := Nat.lt_of_le_of_lt (Nat.add_le_add_left (by decide : 1 ≤ 64) _) hr.units
theorem small1000 {n : Nat} (h : n ≤ 1000) : n < sizeLine := Nat.lt_of_le_of_lt h (by decide)

/-! ### expressions in short: the name that stands in the i-th slot -/
section
variable {X : Cx}
theorem pv (i : Nat) {x : Str} {pos : Pos} (hN : X.N[i]? = some x := by rfl) (hv : Vis X.env.scope x := by first | exact Or.inl rfl | exact Or.inr (Or.inl rfl) | exact Or.inr (Or.inr rfl)) (hd : (x == ("__debug__" : Str)) = false := by decide)
    (hcd : (x == ("__classdict__" : Str)) = false := by decide) : PE X (.Name x pos) (tVar i) := pe_var hN hv hd hcd
end

/-! ### tests -/
theorem iteF {A B : Prop} (h : B) : if false = true then A else B := by
  rw [if_neg Bool.false_ne_true]
  exact h
theorem iteT {A B : Prop} (h : A) : if true = true then A else B := by
  rw [if_pos rfl]
  exact h
theorem ite2 {c A B : Prop} [Decidable c] (h1 : c → A) (h2 : ¬ c → B) : if c then A else B := by
  by_cases h : c
  · rw [if_pos h]
    exact h1 h
  · rw [if_neg h]
    exact h2 h
/-! ### heaps -/
noncomputable def Same (H H' : Hp) : Prop := ∀ b o, H b = some o → H' b = some o
theorem Same.refl (H : Hp) : Same H H := fun _ _ h => h
theorem Same.trans {H H1 H2 : Hp} (a : Same H H1) (b : Same H1 H2) : Same H H2 := fun c o h => b c o (a c o h)
theorem Same.free {H H' : Hp} (e : Same H H') {l : Addr} (h : H' l = Option.none) : H l = Option.none := by
  cases q : H l with
  | none => rfl
  | some o =>
    rw [e l o q] at h
    cases h
end L2

namespace L2
open PySem PySem.Spec PyProof.Rows
section
variable {X : Cx}
end
/-! ### a dict's pairs: keys that differ -/
section
variable {κ : Type} [DecidableEq κ]
end
end L2

set_option Elab.async false
set_option linter.all false
set_option maxRecDepth 100000
set_option maxHeartbeats 4000000
/-! Further rules of our own over the hand layer: signs of a text, comprehensions, all, isinstance, deep ==, text and dict methods. -/
namespace L2
open PySem PySem.Spec PyProof.Rows

/-! ### a walk over a text's signs -/
noncomputable def Its (z : Str) : It := ⟨fun i _ => i < z.cps.size, fun i H x H' => H' = H ∧ ∃ c, z.cps[i]? = some c ∧ x = .str ⟨#[c]⟩, fun i _ => i = z.cps.size⟩
theorem walks_str {prog : Program} {w : World} {A : Around} (hh : A.handled = none) (I : Addr) (x : Str) (t : Tok) :
    Walks prog w A I [I] [I] x.cps.size (SignAt x) (fun i h => h.IsStrIter I (strIterType x) x t i) := by
  unfold strIterType
  cases x.cps.all (· < 128) with
  | true => exact Walks.strAscii hh I x t
  | false => exact Walks.strWide hh I x t
theorem strIter_plain (x : Str) : ["enumerate", "zip", "dict_itemiterator", "dict_reverseitemiterator", "odict_iterator", "itertools.zip_longest", "itertools.pairwise"].contains (strIterType x) = false := by
  unfold strIterType
  cases x.cps.all (· < 128) with
  | true => decide
  | false => decide
theorem turn_str {P : Program} {w : World} {K : PySem.W.Frag} {tg : Expr} (it : Addr) (z : Str) (t : Tok) : Turn P w K tg (Its z) [it] it (fun i h => h.IsStrIter it (strIterType z) z t i) where
  mem := by simp
  obj := fun i h st b hb => by
    have e : b = it := by simpa using hb
    subst e
    obtain ⟨o, e, c, d⟩ := st
    exact ⟨o, e, fun v z => by rw [d] at z; cases z⟩
  keep := fun i h h' st k => by
    obtain ⟨o, e, r⟩ := st
    exact ⟨o, k it (by simp) o e, r⟩
  item := by
    intro X hP hw hK hc i pins s σ H E I hf st hg
    subst hP hw hK
    obtain ⟨f0, f1, f2, f3, f4, f5⟩ := hf it (by simp)
    have W := walks_str (prog := X.prog) (w := X.w) (I.ok.hd hc) it z t
    refine W.item i s _ _ hg st fun v h' tk hv st' kk => ?_
    obtain ⟨c, u, hc', rfl⟩ := hv
    have I1 : Inv X pins σ H { s with heap := h', toks := tk } := I.turned (fun b o hb e => kk b o (by simpa using hb) e) f0 f1 f3 f4 f5
    obtain ⟨o, e, c1, d1⟩ := id st'
    exact ⟨_, rfl, go_of (s := { s with heap := h', toks := tk }) e c1 d1 (strIter_plain z) ⟨.str ⟨#[c]⟩, H, I1, ⟨u, rfl⟩, ⟨rfl, c, hc', rfl⟩, st', fun b hb => (hf b hb).1⟩⟩
  done := by
    intro X hP hw hK hc i pins s σ H E I hf st hg
    subst hP hw hK
    obtain ⟨f0, f1, f2, f3, f4, f5⟩ := hf it (by simp)
    have W := walks_str (prog := X.prog) (w := X.w) (I.ok.hd hc) it z t
    have e : i = z.cps.size := hg
    subst e
    exact W.done s _ _ st fun h' tk kk => ⟨rfl, I.turned (fun b o hb e => kk b o (by simpa using hb) e) f0 f1 f3 f4 f5⟩
  self := fun A i s Q E st h => by
    unfold strIterType at st
    cases hx : z.cps.all (· < 128) with
    | true => rw [hx] at st; exact wpAny_pyIter_striter_ascii st h
    | false => rw [hx] at st; exact wpAny_pyIter_striter_wide st h
section
variable {X : Cx} {tg : Expr}
noncomputable def iStr (tl : TE) : TI := fun σ H R => tl σ H fun x H1 => ∃ z, x = .str z ∧ R (Its z) H1
theorem pi_str {l : Expr} {tl : TE} (hl : PE X l tl) : PI X tg l (iStr tl) := by
  intro pins s σ H R I h
  refine thn (hl pins s σ H _ I h) fun v s1 hz42 => ?_
  obtain ⟨x, H1, I1, r1, q1⟩ := hz42
  obtain ⟨z, e, q⟩ := q1
  subst e
  obtain ⟨t, rfl⟩ := r1
  refine wpAny_pyIter_strU ?_
  have I2 : Inv X pins σ H1 { s1 with heap := s1.heap.push { cls := .type (strIterType z), data := .fields #[.str z t, .int 0 0] } } := I1.kept (t' := s1.toks) fun b o e => Heap.get?_push_of_some _ e
  refine ⟨s1.heap.objs.size, [s1.heap.objs.size], _, Its z, H1, rfl, I2, turn_str s1.heap.objs.size z t, ⟨_, Heap.get?_push_size _ rfl, rfl, rfl⟩, fun b hb => ?_, q⟩
  have e : b = s1.heap.objs.size := by simpa using hb
  subst e
  exact I1.fpOk (Nat.le_refl _) (I1.hok.fresh (Nat.le_refl _))
end

/-! ### a comprehension -/
noncomputable def frees (scope : Scope) : List Str := (scope.names.filter fun p => p.2 == .free).map (·.1)
noncomputable def clOf (scope : Scope) (env : Env) : List (Str × Addr) := (frees scope).reverse.map fun n => (n, (env.cells.lookup n).getD 0)
theorem clos_go (env : Env) : ∀ (names : List (Str × NameKind)) (cs : List (Str × Addr)), (∀ n ∈ (names.filter fun p => p.2 == .free).map (·.1), ∃ c, env.cells.lookup n = some c) →
    (forIn names cs fun (x : Str × NameKind) (r : List (Str × Addr)) => (if x.2 == .free then do let c ← cellOf env x.1; pure (ForInStep.yield ((x.1, c) :: r)) else pure (ForInStep.yield r) : Sem (ForInStep (List (Str × Addr))))) =
      pure ((((names.filter fun p => p.2 == .free).map (·.1)).reverse.map fun n => (n, (env.cells.lookup n).getD 0)) ++ cs)
  | [], cs, _ => rfl
  | (n, k) :: r, cs, h => by
    rw [List.forIn_cons]
    cases hk : (k == NameKind.free) with
    | false =>
      have h' : ∀ m ∈ (r.filter fun p => p.2 == .free).map (·.1), ∃ c, env.cells.lookup m = some c := fun m hm => h m (by simpa [List.filter_cons, hk] using hm)
      have ih := clos_go env r cs h'
      simp only [hk, Bool.false_eq_true, if_false, List.filter_cons, pure_bind]
      exact ih
    | true =>
      obtain ⟨c, hc⟩ := h n (by simp [List.filter_cons, hk])
      have h' : ∀ m ∈ (r.filter fun p => p.2 == .free).map (·.1), ∃ c, env.cells.lookup m = some c := fun m hm => h m (by
        simp only [List.filter_cons, hk, if_true, List.map_cons]
        exact List.mem_cons_of_mem _ hm)
      have ih := clos_go env r ((n, c) :: cs) h'
      have ec : cellOf env n = pure c := by unfold cellOf; rw [hc]
      simp only [hk, if_true, List.filter_cons, List.map_cons, List.reverse_cons, List.map_append, List.map_nil, List.append_assoc, List.cons_append, List.nil_append, ec, pure_bind, hc, Option.getD_some]
      exact ih
theorem closureFor_some {scope : Scope} {env : Env} (h : ∀ n ∈ frees scope, ∃ c, env.cells.lookup n = some c) : closureFor scope env = pure (clOf scope env) := by
  have e := clos_go env scope.names [] h
  rw [List.append_nil] at e
  have q : closureFor scope env = ((forIn scope.names ([] : List (Str × Addr)) fun (x : Str × NameKind) (r : List (Str × Addr)) => (if x.2 == .free then do let c ← cellOf env x.1; pure (ForInStep.yield ((x.1, c) :: r)) else pure (ForInStep.yield r) : Sem (ForInStep (List (Str × Addr))))) >>= fun r => pure r) := rfl
  rw [q, bind_pure]
  exact e
theorem lookup_pairs {β : Type} (g : Str → β) (y : Str) : ∀ l : List Str, (l.map fun n => (n, g n)).lookup y = if y ∈ l then some (g y) else none
  | [] => by simp
  | n :: r => by
    have ih := lookup_pairs g y r
    rw [List.map_cons, List.lookup_cons]
    cases e : (y == n) with
    | true =>
      have e' : y = n := eq_of_beq e
      subst e'
      simp
    | false =>
      have e' : y ≠ n := fun q => by rw [q] at e; simp at e
      show (r.map fun n => (n, g n)).lookup y = _
      rw [ih]
      simp [e']
theorem clOf_lookup {scope : Scope} {env : Env} (h : ∀ n ∈ frees scope, ∃ c, env.cells.lookup n = some c) {y : Str} {c : Addr} : (clOf scope env).lookup y = some c ↔ y ∈ frees scope ∧ env.cells.lookup y = some c := by
  unfold clOf
  rw [lookup_pairs (fun n => (env.cells.lookup n).getD 0)]
  by_cases hy : y ∈ frees scope
  · obtain ⟨d, hd⟩ := h y hy
    rw [if_pos (List.mem_reverse.mpr hy), hd]
    simp [hy]
  · rw [if_neg fun q => hy (List.mem_reverse.mp q)]
    simp [hy]
theorem lookup_kinds (f : Str → NameKind → NameKind) (y : Str) : ∀ names : List (Str × NameKind), (names.map fun p => (p.1, f p.1 p.2)).lookup y = (names.lookup y).map (f y)
  | [] => rfl
  | (n, k) :: r => by
    have ih := lookup_kinds f y r
    rw [List.map_cons, List.lookup_cons, List.lookup_cons]
    cases e : (y == n) with
    | true =>
      have e' : y = n := eq_of_beq e
      subst e'
      rfl
    | false => exact ih
theorem relabel_lookup (scope : Scope) (env : Env) (y : Str) : (relabel scope env).names.lookup y = (scope.names.lookup y).map fun k => if (k == .free && env.scope.kind == .function && env.kindOf y == some .cell) = true then NameKind.cell else k := by
  have e : (relabel scope env).names = scope.names.map fun p => (p.1, (fun (n : Str) (k : NameKind) => if (k == .free && env.scope.kind == .function && env.kindOf n == some .cell) = true then NameKind.cell else k) p.1 p.2) := by
    unfold relabel
    refine List.map_congr_left fun p _ => ?_
    obtain ⟨n, k⟩ := p
    show (if (k == .free && env.scope.kind == .function && env.kindOf n == some .cell) = true then (n, NameKind.cell) else (n, k)) = _
    split <;> simp_all
  rw [e]
  exact lookup_kinds (fun (n : Str) (k : NameKind) => if (k == .free && env.scope.kind == .function && env.kindOf n == some .cell) = true then NameKind.cell else k) y scope.names
structure CompSc (X : Cx) (scope : Scope) (x : Str) (fs : List Str) (fr : List Nat) : Prop where
  kind : scope.kind = .function
  loc : scope.names.lookup x = some .local
  names : ∀ y ∈ scope.names, y.2 = .local → scope.names.lookup y.1 = some .local
  nocell : ∀ y ∈ scope.names, y.2 ≠ .cell
  free : ∀ n ∈ frees scope, X.env.kindOf n = some .cell ∧ scope.names.lookup n = some .free
  nd : (x :: fs).Nodup
  len : fr.length = fs.length
  slots : ∀ (j : Nat) (y : Str) (k : Nat), fs[j]? = some y → fr[j]? = some k → X.N[k]? = some y ∧ y ∈ frees scope
noncomputable abbrev compX (X : Cx) (N' : List Str) (scope : Scope) (C : Addr) (s : Shared) (H : Hp) (ex : List Addr) : Cx :=
  { X with N := N', s₀ := s, H₀ := H, env := compEnvC scope (clOf scope X.env) C X.env, outer := X.stack, stack := X.stack, ex := ex, fn := fun _ => false, pn := [], xe := fun _ _ => False }
noncomputable def CT (X : Cx) (ifs : List Expr) (tt : TT) : Prop :=
  ∀ (pins : List (Addr × Obj)) (s : Shared) (σ : St) (H : Hp) (Q : Bool → Hp → Prop), Inv X pins σ H s → tt σ H Q →
    wpAny (model X.prog X.w) X.A (forIn ifs true fun c r => if r = true then do let ok ← isTrue c X.env (eval c X.env); pure (ForInStep.yield ok) else pure (ForInStep.yield r)) (TP X pins σ Q) X.xe s
noncomputable def tTrue : TT := fun _ H Q => Q true H
theorem ct_nil {X : Cx} : CT X [] tTrue := fun _ _ _ H _ I h => wpAny_tests_nil ⟨H, I, h⟩
theorem ct_one {X : Cx} {c : Expr} {tc : TT} (h : PT X c tc) : CT X [c] tc := fun pins s σ H Q I hq => wpAny_tests_one (h pins s σ H Q I hq)
noncomputable def slotsOf (fr : List Nat) (σ : St) : St := fr.map fun k => (σ[k]?).getD none
noncomputable def tComp (wi : TI) (fr : List Nat) (tt : TT) (te : TE) : TE := fun σ H Q => wi σ H fun J H1 => ∃ W : Nat → Nat → List V → Hp → Prop, (∃ m, W 0 m [] H1) ∧ ∀ i m ys H2, W i m ys H2 →
  (J.stop i H2 ∧ ys.length ≤ sizeLine ∧ ∀ l, H2 l = none → Q (.ref l) (upd H2 l (.lst ys))) ∨
  (J.go i H2 ∧ ys.length < sizeLine ∧ ∀ v H3, J.yld i H2 v H3 → tt (some v :: slotsOf fr σ) H3 fun b H4 =>
    if b = true then te (some v :: slotsOf fr σ) H4 (fun y H5 => ∃ m', m' < m ∧ W (i + 1) m' (ys ++ [y]) H5) else ∃ m', m' < m ∧ W (i + 1) m' ys H4)

section
variable {X : Cx}
theorem isCell_keep {h h' : Heap} {c : Addr} {v : Option Value} (k : ∀ b o, h.get? b = some o → h'.get? b = some o) (z : h.IsCell c v) : h'.IsCell c v := by
  obtain ⟨o, e, d⟩ := z
  exact ⟨o, k _ _ e, d⟩
theorem Inv.adopt {pins : List (Addr × Obj)} {σ : St} {H : Hp} {s : Shared} {D : Addr} {ys : List V} {vs : List Value} {k : Nat} (I : Inv X pins σ H s) (hn : H D = none) (e : s.heap.get? D = some { cls := .type "list", data := .seq vs.toArray k }) (r : Vals ys vs) (hz : ys.length ≤ sizeLine)
    (h1 : X.s₀.heap.objs.size ≤ D) (hL : D ≠ X.env.locals) (h2 : ∀ x c, X.env.cells.lookup x = some c → c ≠ D) (h3 : ∀ p ∈ X.pn ++ pins, p.1 ≠ D) : Inv X pins σ (upd H D (.lst ys)) s := by
  have nD : ∀ b u, H b = some u → b ≠ D := fun b u q z => by rw [z, hn] at q; cases q
  have hok : HOk X.prog X.w (upd H D (.lst ys)) s.heap := fun b u q => by
    by_cases hb : b = D
    · subst hb
      rw [upd_same] at q
      cases q
      exact ⟨hz, vs, k, r, e⟩
    · rw [upd_ne hb] at q
      exact (I.hok b u q).stay (fun _ _ _ z => z) (fun c z => by rw [upd_ne (nD c _ z)]; exact z) fun c xs z => by rw [upd_ne (nD c _ z)]; exact z
  have J := I.step (H' := upd H D (.lst ys)) (h' := s.heap) (g' := s.gens) (t' := s.toks) (d' := s.drawn) (ch := [D])
    (fun b hb => by
      have e' : b = D := by simpa using hb
      subst e'
      exact ⟨.inr h1, hL, h2, h3⟩)
    (fun b o _ _ _ q _ => q) (fun b o _ _ _ q _ => ⟨o.slots, q⟩) (fun b o hc _ n => by rw [upd_ne fun z => hc (by simp [z])]; exact n) (fun b o _ q => ⟨o, q⟩)
    (fun b xs q => by rw [upd_ne (nD b _ q)]; exact q) (fun b o u q => by rw [upd_ne (nD b _ q)]; exact q) (fun b ps q => ⟨#[], by rw [upd_ne (nD b _ q), q]; simp⟩) (fun m hm => hm) hok I.bare
  exact J
theorem comp_ok {pins : List (Addr × Obj)} {σ : St} {H : Hp} {s : Shared} {scope : Scope} {x : Str} {fs : List Str} {fr : List Nat} {D : Addr} {fp : List Addr} {s2 : Shared} (S : CompSc X scope x fs fr) (I2 : Inv X pins σ H s2) (I3 : Inv X pins σ H s)
    (hD : D = s2.heap.objs.size) (hs : s.heap.objs.size = D + 1) (hlt : ∀ b ∈ fp, b < D) (f2 : ∀ b ∈ fp, FpOk X pins H b) : (compX X (x :: fs) scope s.heap.objs.size s H (D :: fp)).Ok := by
  have hcl : ∀ n ∈ frees scope, ∃ c, X.env.cells.lookup n = some c := fun n hn => I3.ok.has n (.inl (S.free n hn).1)
  have sub : ∀ {y : Str} {c : Addr}, (clOf scope X.env).lookup y = some c → X.env.cells.lookup y = some c := fun h => ((clOf_lookup hcl).mp h).2
  refine ⟨I3.ok.mod, S.kind, I3.ok.glob, I3.ok.blt, Nat.le_refl _, fun a b c h1 h2 => I3.ok.inj a b c (sub h1) (sub h2), fun y hy => ?_, (fun _ _ h => by cases h), I3.ok.hd, I3.ok.frames, .inl rfl, fun b hb => ?_, I3.bs, Nat.le_trans I3.ok.bsz I3.sz, fun b o e hb => ?_, fun b hb hf => ?_, I3.stack, I3.stkFree⟩
  · have q : (relabel scope X.env).names.lookup y = some .cell ∨ (relabel scope X.env).names.lookup y = some .free := hy
    have nf : scope.names.lookup y = some .free := by
      rw [relabel_lookup] at q
      cases e : scope.names.lookup y with
      | none => rw [e] at q; simp at q
      | some k =>
        rw [e] at q
        cases k with
        | free => rfl
        | cell =>
          have hm : (y, NameKind.cell) ∈ scope.names := by
            have := List.lookup_eq_some_iff.mp e
            obtain ⟨l1, l2, z, _⟩ := this
            rw [z]
            simp
          exact absurd rfl (S.nocell _ hm)
        | _ => simp at q
    have hm : y ∈ frees scope := by
      obtain ⟨l1, l2, z, _⟩ := List.lookup_eq_some_iff.mp nf
      unfold frees
      rw [z]
      simp
    obtain ⟨c, hc⟩ := hcl y hm
    exact ⟨c, (clOf_lookup hcl).mpr ⟨hm, hc⟩⟩
  · rcases List.mem_cons.mp hb with rfl | hb
    · refine ⟨fun z => ?_, fun y c h z => ?_⟩
      · exact absurd (hs.symm.trans z.symm : b + 1 = b) (Nat.succ_ne_self b)
      · obtain ⟨v, q⟩ := I2.cell y c (sub h)
        have := q.lt
        rw [z, hD] at this
        exact absurd this (Nat.lt_irrefl _)
    · refine ⟨fun z => ?_, fun y c h => (f2 b hb).2.2.2.2.1 y c (sub h)⟩
      have q : b < D + 1 := Nat.lt_succ_of_lt (hlt b hb)
      rw [z] at q
      exact absurd q (by show ¬ s.heap.objs.size < D + 1; rw [hs]; exact Nat.lt_irrefl _)
  · have hb' : b < X.base.objs.size := Heap.lt_size e
    have h1 := I2.ok.bsz
    have h2 := I2.sz
    rcases List.mem_cons.mp hb with rfl | hb
    · rw [hD] at hb'
      exact absurd (Nat.lt_of_lt_of_le hb' (Nat.le_trans h1 h2)) (Nat.lt_irrefl _)
    · rcases (f2 b hb).2.2.2.1 with z | z
      · exact I2.ok.noex b o e z
      · exact absurd (Nat.lt_of_lt_of_le hb' (Nat.le_trans h1 z)) (Nat.lt_irrefl _)
  · have hf' : b ∈ frs X.stack := hf
    rcases List.mem_cons.mp (I2.stkSub b hf') with z | z
    · rcases List.mem_cons.mp hb with rfl | hb
      · have := I2.lt
        rw [← z, hD] at this
        exact absurd this (Nat.lt_irrefl _)
      · exact (f2 b hb).2.1 z
    · rcases List.mem_cons.mp hb with rfl | hb
      · exact I2.nofs (Nat.le_of_eq hD.symm) z
      · exact (f2 b hb).2.2.1 z
theorem comp_inv {pins : List (Addr × Obj)} {σ : St} {H : Hp} {s : Shared} {scope : Scope} {x : Str} {fs : List Str} {fr : List Nat} {ex : List Addr} {h4 : Heap} {m : Str → Option Value} {t : Nat} (S : CompSc X scope x fs fr) (I3 : Inv X pins σ H s)
    (ok : (compX X (x :: fs) scope s.heap.objs.size s H ex).Ok) (hn : h4.Ns s.heap.objs.size m) (old : ∀ b o, s.heap.get? b = some o → h4.get? b = some o) :
    Inv (compX X (x :: fs) scope s.heap.objs.size s H ex) [] (none :: slotsOf fr σ) H { s with heap := h4, toks := t } := by
  have hcl : ∀ n ∈ frees scope, ∃ c, X.env.cells.lookup n = some c := fun n hn => I3.ok.has n (.inl (S.free n hn).1)
  have sub : ∀ {y : Str} {c : Addr}, (clOf scope X.env).lookup y = some c → X.env.cells.lookup y = some c := fun h => ((clOf_lookup hcl).mp h).2
  refine ⟨ok, rfl, I3.bare, Un.kept old, ⟨m, hn, fun i y v e1 e2 e3 => ?_⟩, fun y c h => ?_, I3.hok.fresh (Nat.le_refl _), fun y c h => I3.freeC y c (sub h), fun p hp => absurd hp (by simp), I3.hok.kept old, ?_⟩
  · cases i with
    | zero =>
      have e2' : (none : Option V) = some v := by simpa using e2
      cases e2'
    | succ j =>
      have e1' : fs[j]? = some y := by simpa using e1
      have e2' : (slotsOf fr σ)[j]? = some (some v) := by simpa using e2
      unfold slotsOf at e2'
      rw [List.getElem?_map] at e2'
      cases hk : fr[j]? with
      | none => rw [hk] at e2'; cases e2'
      | some k =>
        rw [hk] at e2'
        have e4 : (σ[k]?).getD none = some v := by simpa using e2'
        have e5 : σ[k]? = some (some v) := by
          cases q : σ[k]? with
          | none => rw [q] at e4; cases e4
          | some z => rw [q] at e4; exact congrArg some e4
        obtain ⟨n1, n2⟩ := S.slots j y k e1' hk
        obtain ⟨m0, _, hl⟩ := I3.loc
        obtain ⟨u, ru, l⟩ := hl k y v n1 e5 (.inr (.inl (S.free y n2).1))
        have kc := (S.free y n2).1
        rcases l with ⟨l, _⟩ | ⟨_, c, hc, cl⟩
        · rw [kc] at l; cases l
        · refine ⟨u, ru, .inr ⟨.inl ?_, c, (clOf_lookup hcl).mpr ⟨n2, hc⟩, isCell_keep old cl⟩⟩
          show (relabel scope X.env).names.lookup y = some .cell
          have kf : X.env.scope.kind = .function := I3.ok.kind
          rw [relabel_lookup, (S.free y n2).2, kf, kc]
          rfl
  · obtain ⟨v, z⟩ := I3.cell y c (sub h)
    exact ⟨v, isCell_keep old z⟩
  · show (none :: slotsOf fr σ).length = (x :: fs).length
    simp [slotsOf, S.len]
noncomputable abbrev lobj (vs : List Value) (k : Nat) : Obj := { cls := .type "list", data := .seq vs.toArray k }
end
/-! ### further calls and operators -/
theorem vals_of : ∀ (xs : List V) (us : List Value), xs.length = us.length → (∀ (j : Nat) (x : V) (u : Value), xs[j]? = some x → us[j]? = some u → RelV x u) → Vals xs us
  | [], [], _, _ => .nil
  | [], _ :: _, h, _ => by cases h
  | _ :: _, [], h, _ => by cases h
  | x :: xs, u :: us, h, f => .cons (f 0 x u rfl rfl) (vals_of xs us (by simpa using h) fun j a b e1 e2 => f (j + 1) a b (by simpa using e1) (by simpa using e2))
theorem rel_key {k : Key} {v : Value} (h : keyIs k v = true) : RelV (kV k) v := by
  rcases keyIs_shape h with ⟨i, t, rfl, rfl⟩ | ⟨x, t, rfl, rfl⟩
  · exact ⟨t, rfl⟩
  · exact ⟨t, rfl⟩
theorem range_all (bs : List Bool) : ((List.range bs.length).all fun i => (bs[i]?).getD true) = bs.all id := by
  rw [Bool.eq_iff_iff, List.all_eq_true, List.all_eq_true]
  constructor
  · intro h b hb
    obtain ⟨i, hi⟩ := List.mem_iff_getElem?.mp hb
    have := h i (List.mem_range.mpr (List.getElem?_eq_some_iff.mp hi).1)
    rw [hi] at this
    exact this
  · intro h i hi
    have hlt := List.mem_range.mp hi
    rw [List.getElem?_eq_getElem hlt]
    exact h _ (List.getElem_mem hlt)
section
variable {X : Cx}
theorem call_list_dict (hc : X.calm = true) : CallR X (.type "list") (fun xs H Q => ∃ a kvs, xs = [.ref a] ∧ H a = some (.dK kvs) ∧ ∀ l, H l = none → Q (.ref l) (upd H l (.lst (kvs.map fun kv => kV kv.1)))) := by
  intro pins s σ H xs us Q I r h
  obtain ⟨a, kvs, rfl, ha, q⟩ := h
  obtain ⟨u, rfl, ru⟩ := vals1 r
  cases ru
  obtain ⟨hz, lo, vs, rel, o, es, ep, m⟩ := dk_of I.hok ha
  have at' : s.heap.DictAt (mixKind X.prog X.w) a vs ep := ⟨o, es, m⟩
  have hl : kvs.length = vs.length := rel.length
  have hk : kvs.map (·.1) = vs.map (·.1) := rel.keys
  refine PySem.W.kdl_call (PySem.W.kdl_dict lo) (I.ok.hd hc) at' (by rw [← hl]; exact hz) fun h' tk acc' c' kp e it => ?_
  have rv : Vals (kvs.map fun kv => kV kv.1) acc'.toList := by
    refine vals_of _ _ (by simp [it.1, hl]) fun j x v e1 e2 => ?_
    obtain ⟨k, y, e3, e4⟩ := it.2 j v (by rw [← Array.getElem?_toList]; exact e2)
    have e5 : (kvs.map (·.1))[j]? = some k := by
      rw [hk, List.getElem?_map, e3]
      rfl
    rw [List.getElem?_map] at e1 e5
    cases e6 : kvs[j]? with
    | none => rw [e6] at e1; cases e1
    | some p =>
      rw [e6] at e1 e5
      obtain rfl : kV p.1 = x := Option.some.inj e1
      obtain rfl : p.1 = k := Option.some.inj e5
      exact rel_key e4
  exact ⟨.ref s.heap.objs.size, _, I.laid (t' := tk) kp (Nat.le_refl _) (show ObjOk X.prog X.w _ h' _ (.lst _) from ⟨by rw [List.length_map]; exact hz, acc'.toList, c', rv, by simpa using e⟩), rfl, q _ I.fresh⟩
theorem call_all_bools (hc : X.calm = true) : CallR X (.builtin "all") (fun xs H Q => ∃ (a : Addr) (bs : List Bool), xs = [.ref a] ∧ SqL X.K H a (bs.map V.bl) ∧ Q (.bl (bs.all id)) H) := by
  intro pins s σ H xs us Q I r h
  obtain ⟨a, bs, rfl, ha, q⟩ := h
  obtain ⟨u, rfl, ru⟩ := vals1 r
  cases ru
  obtain ⟨its, rv, p, hz⟩ := I.list ha
  have hl : its.length = bs.length := by
    have := rv.length
    simpa using this.symm
  have hne : a ≠ s.heap.objs.size := by
    obtain ⟨o, n, e, _⟩ := id p
    exact Nat.ne_of_lt (Heap.lt_size e)
  refine call_all_walk (wpAny_pyIter_list p.isList ?_)
  refine ⟨s.heap.objs.size, _, _, its.toArray.size, _, _, fun i => (bs[i]?).getD true, rfl, Walks.list (A := X.A.in1) (show X.A.in1.handled = none from I.ok.hd hc) s.heap.objs.size a hne its.toArray, ⟨⟨_, Heap.get?_push_size _ rfl, rfl, rfl⟩, p.isList.at fun o e => Heap.get?_push_of_some _ e⟩, ?_, fun h' tk kp => ?_⟩
  · intro i v s' Q' E' hP hQ
    have hP' : its[i]? = some v := by simpa using hP
    have hi : i < bs.length := by
      rw [← hl]
      exact (List.getElem?_eq_some_iff.mp hP').1
    have e1 : (bs.map V.bl)[i]? = some (.bl bs[i]) := by rw [List.getElem?_map, List.getElem?_eq_getElem hi]; rfl
    obtain ⟨u, hu, ru⟩ := rv.get e1
    rw [hP'] at hu
    cases hu
    cases ru
    refine wpAny_truthy_bool ?_
    have e2 : (bs[i]?).getD true = bs[i] := by rw [List.getElem?_eq_getElem hi]; rfl
    rw [← e2]
    exact hQ
  · refine ⟨.bl (bs.all id), H, I.kept (t' := tk) fun b o e => kp b o (by simpa using Nat.ne_of_lt (Heap.lt_size e)) (Heap.get?_push_of_some _ e), ?_, q⟩
    show Value.bool _ = Value.bool _
    rw [List.size_toArray, hl, range_all]
theorem call_isinst : CallR X (.builtin "isinstance") (fun xs H Q => ∃ x n t b, xs = [x, .ty n] ∧ TyOf X.K H x t ∧ PySem.W.kitOne X.K t (.type n) = some b ∧ Q (.bl b) H) := by
  intro pins s σ H xs us Q I r h
  obtain ⟨x, n, t, b, rfl, ty, e, q⟩ := h
  obtain ⟨u, w', rfl, ru, rw'⟩ := vals2 r
  cases rw'
  exact isinst_ok I ru ty e fun tk => ⟨.bl b, H, I.tok tk, rfl, q⟩
noncomputable def rStarts : V → List V → Hp → VK → Prop := fun x vs H Q => ∃ a b, x = .str a ∧ vs = [.str b] ∧ Q (.bl (Txt.startswith a b)) H
theorem mt_startswith : MtR X "str.startswith" rStarts := by
  intro pins s σ H x vs v us Q I rx rv h
  obtain ⟨a, b, rfl, rfl, q⟩ := h
  obtain ⟨t, rfl⟩ := rx
  obtain ⟨u, rfl, ru⟩ := rv.one
  obtain ⟨t', rfl⟩ := ru
  exact call_gives F.slot_str_startswith (typeIs_str s a t) F.entry_str_startswith (F.args_str_startswith_2 _ _) (gives_str_startswith a b t t') ⟨.bl _, H, I, rfl, q⟩
noncomputable def rCount : V → List V → Hp → VK → Prop := fun x vs H Q => ∃ l xs y, x = .ref l ∧ vs = [y] ∧ H l = some (.lst xs) ∧ flatV y = true ∧ xs.all flatV = true ∧ Q (.int ((xs.countP fun z => eqV z y : Nat) : Int)) H
noncomputable def rSlS : V → Option Int → Option Int → Hp → VK → Prop := fun x lo hi H Q => ∃ z, x = .str z ∧ z.length ≤ sizeLine ∧ Q (.str (Txt.slice z lo hi)) H
theorem sl_str : SlR X rSlS := by
  intro pins s σ H x v vl vu lo hi sl Q I rx hs pl pu h
  obtain ⟨z, rfl, hz, q⟩ := h
  obtain ⟨t, rfl⟩ := rx
  cases pl with
  | none =>
    cases pu with
    | none => exact ⟨"str", _, F.slot_str_getitem.lookup, typeIs_str _ _ _, wpAny_getItem_str_slice (l := none) (u := none) (st := none) hs rfl (post_val_or_str ⟨Nat.le_trans (Txt.slice_le z _ _) hz, fun t' k => ⟨.str _, H, I.tok k, ⟨_, rfl⟩, q⟩⟩)⟩
    | int j tj => exact ⟨"str", _, F.slot_str_getitem.lookup, typeIs_str _ _ _, wpAny_getItem_str_slice (l := none) (u := some (j, tj)) (st := none) hs rfl (post_val_or_str ⟨Nat.le_trans (Txt.slice_le z _ _) hz, fun t' k => ⟨.str _, H, I.tok k, ⟨_, rfl⟩, q⟩⟩)⟩
  | int i ti =>
    cases pu with
    | none => exact ⟨"str", _, F.slot_str_getitem.lookup, typeIs_str _ _ _, wpAny_getItem_str_slice (l := some (i, ti)) (u := none) (st := none) hs rfl (post_val_or_str ⟨Nat.le_trans (Txt.slice_le z _ _) hz, fun t' k => ⟨.str _, H, I.tok k, ⟨_, rfl⟩, q⟩⟩)⟩
    | int j tj => exact ⟨"str", _, F.slot_str_getitem.lookup, typeIs_str _ _ _, wpAny_getItem_str_slice (l := some (i, ti)) (u := some (j, tj)) (st := none) hs rfl (post_val_or_str ⟨Nat.le_trans (Txt.slice_le z _ _) hz, fun t' k => ⟨.str _, H, I.tok k, ⟨_, rfl⟩, q⟩⟩)⟩
noncomputable def CDivL (_i j : Int) : Prop := 0 < j ∧ j.natAbs.log2 < 9000
theorem op_fdivL : OpR X (binaryOp .FloorDiv) (rI CDivL fun i j => .int (i / j)) := opI fun i j _ _ _ _ _ hc q => by
  have h1 : (0 : Int) < j := hc.1
  exact floordiv_int (by (first | assumption | exact Nat.le_trans (by assumption) (by decide) | exact Nat.lt_of_lt_of_le (by assumption) (by decide) | lia | omega)) (by rw [Int.fdiv_eq_ediv_of_nonneg i (by (first | assumption | exact Nat.le_trans (by assumption) (by decide) | exact Nat.lt_of_lt_of_le (by assumption) (by decide) | lia | omega))]; exact q) (.inl (PyProof.noPylong_of_log2 hc.2))

/-! ### == of data -/
end
mutual
noncomputable def Dt (K : PySem.W.Frag) (H : Hp) : PyData → V → Prop
  | .none, x => x = .non
  | .bool b, x => x = .bl b
  | .int i, x => x = .int i
  | .str z, x => x = .str z
  | .list ds, x => ∃ a xs, x = .ref a ∧ SqL K H a xs ∧ DtAll K H ds xs
  | .tuple ds, x => ∃ a xs, x = .ref a ∧ SqT K H a xs ∧ DtAll K H ds xs
  | .dict _, _ => False
noncomputable def DtAll (K : PySem.W.Frag) (H : Hp) : List PyData → List V → Prop
  | [], xs => xs = []
  | d :: ds, xs => ∃ x r, xs = x :: r ∧ Dt K H d x ∧ DtAll K H ds r
end
section
variable {X : Cx}
mutual
theorem reads_of {pins : List (Addr × Obj)} {s : Shared} {σ : St} {H : Hp} (I : Inv X pins σ H s) : ∀ (d : PyData) (x : V) (v : Value), Dt X.K H d x → RelV x v → ∃ as, Reads s.heap v d as
  | .none, x, v, h, r => by
    rw [Dt] at h
    subst h
    cases r
    exact ⟨_, .none⟩
  | .bool b, x, v, h, r => by
    rw [Dt] at h
    subst h
    cases r
    exact ⟨_, .bool b⟩
  | .int i, x, v, h, r => by
    rw [Dt] at h
    subst h
    obtain ⟨t, rfl⟩ := r
    exact ⟨_, .int i t⟩
  | .str z, x, v, h, r => by
    rw [Dt] at h
    subst h
    obtain ⟨t, rfl⟩ := r
    exact ⟨_, .str z t⟩
  | .list ds, x, v, h, r => by
    rw [Dt] at h
    obtain ⟨a, xs, rfl, hq, ha⟩ := h
    cases r
    obtain ⟨its, rv, ⟨o, n, e, c, _, d⟩, _⟩ := I.list hq
    obtain ⟨as, ra⟩ := readsAll_of I ds xs its ha rv
    exact ⟨_, .list e c d (by simpa using ra)⟩
  | .tuple ds, x, v, h, r => by
    rw [Dt] at h
    obtain ⟨a, xs, rfl, hq, ha⟩ := h
    cases r
    obtain ⟨its, rv, ⟨o, e, c, n, d⟩, _⟩ := I.tuple hq
    obtain ⟨as, ra⟩ := readsAll_of I ds xs its ha rv
    exact ⟨_, .tuple e c d (by simpa using ra)⟩
  | .dict _, x, v, h, r => by
    rw [Dt] at h
    exact h.elim
theorem readsAll_of {pins : List (Addr × Obj)} {s : Shared} {σ : St} {H : Hp} (I : Inv X pins σ H s) : ∀ (ds : List PyData) (xs : List V) (vs : List Value), DtAll X.K H ds xs → Vals xs vs → ∃ as, ReadsAll s.heap vs ds as
  | [], xs, vs, h, r => by
    rw [DtAll] at h
    subst h
    cases r
    exact ⟨_, .nil⟩
  | d :: ds, xs, vs, h, r => by
    rw [DtAll] at h
    obtain ⟨x, r', rfl, h1, h2⟩ := h
    cases r with
    | cons r1 r2 =>
      obtain ⟨as, q1⟩ := reads_of I d x _ h1 r1
      obtain ⟨bs, q2⟩ := readsAll_of I ds r' _ h2 r2
      exact ⟨_, .cons q1 q2⟩
end
noncomputable def rEqD (K : PySem.W.Frag) (neg : Bool) : R2 := fun x y H Q => ∃ d e, Dt K H d x ∧ Dt K H e y ∧ SeqAt.shaped d = true ∧ SeqAt.shaped e = true ∧ Q (.bl (if neg then !PyData.eqv d e else PyData.eqv d e)) H
theorem op_neD (hu : X.A.units + 64 < cLine) : OpR X (compareOp .NotEq) (rEqD X.K true) := by
  intro pins s σ H x y v u Q I rx ry h
  obtain ⟨d, e, h1, h2, h3, h4, q⟩ := h
  obtain ⟨as, r1⟩ := reads_of I d x v h1 rx
  obtain ⟨bs, r2⟩ := reads_of I e y u h2 ry
  exact ne_dataH r1 r2 h3 h4 hu ⟨.bl _, H, I, rfl, q⟩
end
/-! a list of texts as data -/
theorem dtAll_strs {K : PySem.W.Frag} {H : Hp} : ∀ zs : List Str, DtAll K H (zs.map PyData.str) (zs.map V.str)
  | [] => by rw [List.map_nil, DtAll]; rfl
  | z :: r => by
    rw [List.map_cons, List.map_cons, DtAll]
    exact ⟨_, _, rfl, by rw [Dt], dtAll_strs r⟩
theorem lay_strs : ∀ zs : List Str, (∀ z ∈ zs, PyData.strOk z = true) → PyData.canLayAll0 (zs.map PyData.str) = true
  | [], _ => rfl
  | z :: r, h => by
    have h1 := h z List.mem_cons_self
    have h2 := lay_strs r fun y hy => h y (List.mem_cons_of_mem _ hy)
    simp [PyData.canLayAll0, PyData.canLay0, h1, h2]
theorem depth_strs : ∀ zs : List Str, PyData.depthAll (zs.map PyData.str) = 0
  | [] => rfl
  | _ :: r => by simp [PyData.depthAll, PyData.depth, depth_strs r]
/-! ### a comprehension's scope, checked at once -/
noncomputable def cscOk (osc : Scope) (N : List Str) (scope : Scope) (x : Str) (fs : List Str) (fr : List Nat) : Bool :=
  scope.kind == .function && scope.names.lookup x == some .local && scope.names.all (fun y => !(y.2 == .local) || scope.names.lookup y.1 == some .local) && scope.names.all (fun y => !(y.2 == .cell)) &&
    (frees scope).all (fun n => osc.names.lookup n == some .cell && scope.names.lookup n == some .free) && decide ((x :: fs).Nodup) && fr.length == fs.length &&
    (List.range fs.length).all (fun j => match fs[j]?, fr[j]? with | some y, some k => N[k]? == some y && decide (y ∈ frees scope) | _, _ => false)
theorem compSc_mk {X : Cx} {scope : Scope} {x : Str} {fs : List Str} {fr : List Nat} (h : cscOk X.env.scope X.N scope x fs fr = true := by kernel_rfl) : CompSc X scope x fs fr := by
  unfold cscOk at h
  simp only [Bool.and_eq_true] at h
  obtain ⟨⟨⟨⟨⟨⟨⟨h1, h2⟩, h3⟩, h4⟩, h5⟩, h6⟩, h7⟩, h8⟩ := h
  refine ⟨eq_of_beq h1, eq_of_beq h2, fun y hy e => ?_, fun y hy e => ?_, fun n hn => ?_, of_decide_eq_true h6, eq_of_beq h7, fun j y k e1 e2 => ?_⟩
  · have := List.all_eq_true.mp h3 y hy
    rw [e] at this
    simpa using this
  · have := List.all_eq_true.mp h4 y hy
    rw [e] at this
    simp at this
  · have := List.all_eq_true.mp h5 n hn
    rw [Bool.and_eq_true] at this
    exact ⟨eq_of_beq this.1, eq_of_beq this.2⟩
  · have := List.all_eq_true.mp h8 j (List.mem_range.mpr (List.getElem?_eq_some_iff.mp e1).1)
    rw [e1, e2] at this
    simp only [Bool.and_eq_true] at this
    exact ⟨eq_of_beq this.1, of_decide_eq_true this.2⟩

/-! ### a def of the text, all that a call asks -/
noncomputable def DefOk (P : Program) (w : World) (K : PySem.W.Frag) (mg : Str → Option Value) (base : Heap) (k : Nat) (x : Str) (ps : List Str) (sp : Sp) : Prop :=
  ∃ f fd, FnOk P w K mg base CX0 k f fd ps sp ∧ mg x = some (.ref f) ∧ PySem.W.keepIn K (.ref f) = true ∧ Binds K fd ps []
theorem cl {X : Cx} {k : Nat} {x : Str} {ps : List Str} {sp : Sp} {j : Nat} {e : Expr} {es : List Expr} {t : TA} {p pos : Pos} (D : DefOk X.prog X.w X.K X.mg X.base k x ps sp) (hr : Room j X.A) (ha : PA X (e :: es) t) (hk : k ≤ j := by decide) (hg : Gl X x := by rfl)
    (hdb : (x == ("__debug__" : Str)) = false := by decide) (he : starEach (e :: es) X.env = (false, eval e X.env) :: starEach es X.env := by rfl) (hpl : (backTo pos (starEach es X.env)).any (·.1) = false := by rfl) :
    PE X (.Call (.Name x p) (e :: es) [] pos) (tCall sp [] E0 t) := by
  obtain ⟨f, fd, F, m, kp, b⟩ := D
  exact pe_call F (hr.mono hk) hg m kp b .nil pass0 ha hdb he hpl
/-! ### a list extended by a tuple, a tuple taken twice or more -/
theorem list_extend_tup (l : Addr) (items : Array Value) (n : Nat) (b : Addr) (dd : Option Addr) (sl : Array (Option Value)) (items2 : Array Value) (n2 : Nat) (hs0 : ¬(!items.isEmpty && Builtin.List.listTooLong (items.size + items2.size)) = true) (hs1 : items.size ≤ sizeLine) (hs2 : items.size + items2.size ≤ sizeLine + 1) :
    Meets (Builtin.«list.extend» ⟨[.ref l, .ref b], []⟩) (fun _ R s => s.heap.get? l = some { cls := .type "list", dict := none, data := .seq items n, slots := #[] } ∧ s.heap.get? b = some { cls := .type "tuple", dict := dd, data := .seq items2 n2, slots := sl } ∧ R (.ok (.ret Value.none)) { s with heap := s.heap.update l (Obj.mapSeq fun x => x ++ items2), toks := s.toks }) :=
  .of_wp fun prog w A R s h => by
    obtain ⟨hp, g, d, tk, os⟩ := s; obtain ⟨hl, hb, h⟩ := h
    have hz' : (items ++ items2).size ≤ sizeLine + 1 := by rw [Array.size_append]; exact hs2
    wp_walk using (wpAny_updateSeq hl rfl (hz := hs1) (_hz' := hz')), wpAny_loadPart' hl, wpAny_loadPart' hb
    exact ⟨_, rfl, h⟩
section
variable {X : Cx}
noncomputable def rExtendT (K : PySem.W.Frag) : V → List V → Hp → VK → Prop := fun x vs H Q => ∃ l b xs zs, x = .ref l ∧ vs = [.ref b] ∧ H l = some (.lst xs) ∧ SqT K H b zs ∧ xs.length + zs.length ≤ sizeLine ∧ Q .non (upd H l (.lst (xs ++ zs)))
theorem mt_extendT : MtM X "list.extend" (rExtendT X.K) := by
  intro pins s σ H x vs v us Q I rx rv h
  obtain ⟨l, b, xs, zs, rfl, rfl, hH, hB, hz, q⟩ := h
  cases rx
  obtain ⟨u, rfl, ru⟩ := rv.one
  cases ru
  obtain ⟨z, its, n, r, hl, e⟩ := I.lstM hH
  obtain ⟨its2, r2, ⟨⟨cls, dd, data, sl⟩, e2, hc2, n2, hd2⟩, z2⟩ := I.tuple hB
  simp only at hc2 hd2
  subst hc2 hd2
  have hl2 := r2.length
  have hsz : its.toArray.size + its2.toArray.size ≤ sizeLine := by rw [List.size_toArray, List.size_toArray]; (first | assumption | exact Nat.le_trans (by assumption) (by decide) | exact Nat.lt_of_lt_of_le (by assumption) (by decide) | lia | omega)
  have hlong : ¬ (!its.toArray.isEmpty && Builtin.List.listTooLong (its.toArray.size + its2.toArray.size)) = true := by
    rw [notLongL hsz, Bool.and_false]
    exact Bool.false_ne_true
  refine call_meets F.slot_list_extend ⟨_, e, rfl⟩ F.entry_list_extend (F.args_list_extend_2 _ _)
    (list_extend_tup l its.toArray n b dd sl its2.toArray n2 hlong (by rw [List.size_toArray]; (first | assumption | exact Nat.le_trans (by assumption) (by decide) | exact Nat.lt_of_lt_of_le (by assumption) (by decide) | lia | omega)) (by (first | assumption | exact Nat.le_trans (by assumption) (by decide) | exact Nat.lt_of_lt_of_le (by assumption) (by decide) | lia | omega))) ⟨e, e2, ?_⟩
  refine ⟨.non, _, I.lset (its' := its ++ its2) hH e (by simp) (r.append r2) ?_, rfl, q⟩
  rw [List.length_append]
  (first | assumption | exact Nat.le_trans (by assumption) (by decide) | exact Nat.lt_of_lt_of_le (by assumption) (by decide) | lia | omega)
noncomputable def rMulT (K : PySem.W.Frag) : R2 := fun x y H Q => ∃ a k xs, x = .ref a ∧ y = .int k ∧ SqT K H a xs ∧ xs ≠ [] ∧ 2 ≤ k ∧ k ≤ 1000 ∧ xs.length ≤ 1000 ∧ ∀ p, H p = none → Q (.ref p) (upd H p (.tup (List.replicate k.toNat xs).flatten))
end
theorem cut {X : Cx} {body : List Stmt} {D : Ends} {σ0 : St} {H0 : Hp} (n : Nat) (C : St → Hp → Prop) (ht : ∃ t2, PSs X (body.drop n) t2 ∧ ∀ σ H, C σ H → t2 D σ H)
    (hh : ∀ t2, PSs X (body.drop n) t2 → ∃ t, PSs X body t ∧ ((∀ σ H, C σ H → t2 D σ H) → t D σ0 H0)) : ∃ t, PSs X body t ∧ t D σ0 H0 := by
  obtain ⟨t2, p, q⟩ := ht
  obtain ⟨t, p', q'⟩ := hh t2 p
  exact ⟨t, p', q' q⟩
theorem cutA {X : Cx} {body : List Stmt} {D : Ends} {B : St → Hp → Prop} (n : Nat) (C : St → Hp → Prop) (ht : ∃ t2, PSs X (body.drop n) t2 ∧ ∀ σ H, C σ H → t2 D σ H)
    (hh : ∀ t2, PSs X (body.drop n) t2 → ∃ t, PSs X body t ∧ ((∀ σ H, C σ H → t2 D σ H) → ∀ σ H, B σ H → t D σ H)) : ∃ t, PSs X body t ∧ ∀ σ H, B σ H → t D σ H := by
  obtain ⟨t2, p, q⟩ := ht
  obtain ⟨t, p', q'⟩ := hh t2 p
  exact ⟨t, p', q' q⟩
theorem pe_globI {X : Cx} {x : Str} {i : Int} {pos : Pos} (hg : Gl X x) (hm : ∃ t, X.mg x = some (.int i t)) (hd : (x == ("__debug__" : Str)) = false := by decide) : PE X (.Name x pos) (tC (.int i)) := by
  obtain ⟨t, hm⟩ := hm
  exact pe_glob hg hm ⟨t, rfl⟩ hd
theorem pe_globS {X : Cx} {x : Str} {z : Str} {pos : Pos} (hg : Gl X x) (hm : ∃ t, X.mg x = some (.str z t)) (hd : (x == ("__debug__" : Str)) = false := by decide) : PE X (.Name x pos) (tC (.str z)) := by
  obtain ⟨t, hm⟩ := hm
  exact pe_glob hg hm ⟨t, rfl⟩ hd
/-! the same rules with the written part named, for a comprehension's element -/
section
variable {X : Cx} {K : PySem.W.Frag}
theorem ix_listK (h : X.K = K := by rfl) : IxR X (rIxL K) := h ▸ ix_list
theorem call_lenK (h : X.K = K := by rfl) : CallR X (.builtin "len") (fun xs H Q => ∃ x n, xs = [x] ∧ LenV K x H n ∧ Q (.int n) H) := h ▸ call_len
theorem op_notIn_seqK (h : X.K = K := by rfl) : OpR X (compareOp .NotIn) (rIn K true) := h ▸ op_notIn_seq
theorem call_isinstK (h : X.K = K := by rfl) : CallR X (.builtin "isinstance") (fun xs H Q => ∃ x n t b, xs = [x, .ty n] ∧ TyOf K H x t ∧ PySem.W.kitOne K t (.type n) = some b ∧ Q (.bl b) H) := h ▸ call_isinst
end
theorem rd_true {σ : St} {H : Hp} {A B : Hp → Prop} (h : A H) : tTrue σ H (fun b H4 => if b = true then A H4 else B H4) := by
  show (if true = true then A H else B H)
  rw [if_pos rfl]
  exact h
end L2

set_option Elab.async false
set_option linter.all false
set_option maxRecDepth 100000
set_option maxHeartbeats 4000000
/-! Further rules: slices of tuples (whole ones, turned about), tuples joined (the first one empty), a list against an empty one. -/
namespace HT
open PySem PySem.Spec PyProof.Rows
section
variable {prog : Program} {w : World} {A : Around} {E : Value → Shared → Prop} {s : Shared}
/-! ### t[::-1] -/
end
end HT
namespace L2
open PySem PySem.Spec PyProof.Rows
section
variable {X : Cx}
noncomputable def rSlA (K : PySem.W.Frag) : V → Option Int → Option Int → Hp → VK → Prop := fun x lo hi H Q => ∃ a xs, x = .ref a ∧ SqT K H a xs ∧
  ((HT.sIx xs.length 0 lo = 0 ∧ HT.sIx xs.length xs.length hi = xs.length) → Q (.ref a) H) ∧
  (¬ (HT.sIx xs.length 0 lo = 0 ∧ HT.sIx xs.length xs.length hi = xs.length) → ∀ p, H p = none → Q (.ref p) (upd H p (.tup (cutV xs lo hi))))
noncomputable def tRev (K : PySem.W.Frag) (te : TE) (ts : TE) : TE := fun σ H Q => te σ H fun x H1 => ts σ H1 fun y H2 => y = .int (-1) ∧ ∃ a xs, x = .ref a ∧ SqT K H2 a xs ∧ ∀ p, H2 p = none → Q (.ref p) (upd H2 p (.tup xs.reverse))
noncomputable def rCatA (K : PySem.W.Frag) : R2 := fun x y H Q => ∃ a b xs ys, x = .ref a ∧ y = .ref b ∧ SqT K H a xs ∧ SqT K H b ys ∧ xs.length + ys.length ≤ sizeLine ∧
  (xs = [] → Q (.ref b) H) ∧ (xs ≠ [] → ys = [] → Q (.ref a) H) ∧ (xs ≠ [] → ys ≠ [] → ∀ p, H p = none → Q (.ref p) (upd H p (.tup (xs ++ ys))))
noncomputable def rNil (K : PySem.W.Frag) (neg : Bool) : R2 := fun x y H Q => ∃ a b xs, x = .ref a ∧ y = .ref b ∧ SqL K H a xs ∧ SqL K H b [] ∧ Q (.bl (if neg then !xs.isEmpty else xs.isEmpty)) H
theorem op_eqN (hu : X.A.units < cLine) : OpR X (compareOp .Eq) (rNil X.K false) := by
  intro pins s σ H x y v u Q I rx ry h
  obtain ⟨a, b, xs, rfl, rfl, ha, hb, q⟩ := h
  cases rx
  cases ry
  obtain ⟨its, r1, p1, _⟩ := I.list ha
  obtain ⟨its2, r2, p2, _⟩ := I.list hb
  cases r2
  cases xs with
  | nil =>
    cases r1
    exact SeqAt.eq_listAt (e := fun _ => true) p1.isList p2.isList rfl hu (fun j h1 _ => absurd h1 (Nat.not_lt_zero _)) ⟨.bl true, H, I, rfl, q⟩
  | cons c l =>
    cases r1 with
    | cons r0 r1 => exact SeqAt.eq_list_lengthsAt p1.isList p2.isList (by simp) hu ⟨.bl false, H, I, rfl, q⟩
end
end L2
namespace L2
open PySem PySem.Spec PyProof.Rows
/-! ### comprehensions by an invariant -/
section
variable {K : PySem.W.Frag} {a : Addr} {xs : List V} {fr : List Nat} {tt : TT} {te : TE} {σ : St} {H1 : Hp} {R : Addr → List V → Hp → Prop}
noncomputable abbrev CompGoal (J : It) (fr : List Nat) (tt : TT) (te : TE) (σ : St) (H1 : Hp) (R : Addr → List V → Hp → Prop) : Prop :=
  ∃ W : Nat → Nat → List V → Hp → Prop, (∃ m, W 0 m [] H1) ∧ ∀ i m ys H2, W i m ys H2 →
  (J.stop i H2 ∧ ys.length ≤ sizeLine ∧ ∀ l, H2 l = none → R l ys H2) ∨
  (J.go i H2 ∧ ys.length < sizeLine ∧ ∀ v H3, J.yld i H2 v H3 → tt (some v :: slotsOf fr σ) H3 fun b H4 =>
    if b = true then te (some v :: slotsOf fr σ) H4 (fun y H5 => ∃ m', m' < m ∧ W (i + 1) m' (ys ++ [y]) H5) else ∃ m', m' < m ∧ W (i + 1) m' ys H4)
theorem comp_tup (Pv : Nat → List V → Hp → Prop) (hx : xs.length < sizeLine) (h0 : Pv 0 [] H1) (hl : ∀ i ys H, i ≤ xs.length → Pv i ys H → SqT K H a xs ∧ ys.length ≤ i)
    (hs : ∀ (i : Nat) (x : V) (ys : List V) (H : Hp) (N : List V → Hp → Prop), xs[i]? = some x → Pv i ys H → (∀ ys' H', Pv (i + 1) ys' H' → N ys' H') →
      tt (some x :: slotsOf fr σ) H fun b H4 => if b = true then te (some x :: slotsOf fr σ) H4 (fun y H5 => N (ys ++ [y]) H5) else N ys H4)
    (hd : ∀ ys H, Pv xs.length ys H → ∀ l, H l = none → R l ys H) : CompGoal (Itt K a) fr tt te σ H1 R := by
  refine ⟨fun i m ys H => m = xs.length - i ∧ i ≤ xs.length ∧ Pv i ys H, ⟨xs.length, by simp, Nat.zero_le _, h0⟩, ?_⟩
  rintro i m ys H ⟨rfl, hi, p⟩
  obtain ⟨q, hy⟩ := hl i ys H hi p
  by_cases hlt : i < xs.length
  · refine .inr ⟨⟨xs, _, q, List.getElem?_eq_getElem hlt⟩, by (first | lia | omega), ?_⟩
    rintro v H3 ⟨rfl, hv⟩
    exact hs i v ys H3 (fun ys' H' => ∃ m', m' < xs.length - i ∧ m' = xs.length - (i + 1) ∧ i + 1 ≤ xs.length ∧ Pv (i + 1) ys' H') (hv xs q) p fun ys' H' p' => ⟨_, by (first | lia | omega), rfl, hlt, p'⟩
  · have e : i = xs.length := by (first | lia | omega)
    subst e
    exact .inl ⟨⟨xs, q, Nat.le_refl _⟩, by (first | lia | omega), hd ys H p⟩
theorem comp_list (Pv : Nat → List V → Hp → Prop) (hx : xs.length < sizeLine) (h0 : Pv 0 [] H1) (hl : ∀ i ys H, i ≤ xs.length → Pv i ys H → SqL K H a xs ∧ ys.length ≤ i)
    (hs : ∀ (i : Nat) (x : V) (ys : List V) (H : Hp) (N : List V → Hp → Prop), xs[i]? = some x → Pv i ys H → (∀ ys' H', Pv (i + 1) ys' H' → N ys' H') →
      tt (some x :: slotsOf fr σ) H fun b H4 => if b = true then te (some x :: slotsOf fr σ) H4 (fun y H5 => N (ys ++ [y]) H5) else N ys H4)
    (hd : ∀ ys H, Pv xs.length ys H → ∀ l, H l = none → R l ys H) : CompGoal (Itl K a) fr tt te σ H1 R := by
  refine ⟨fun i m ys H => m = xs.length - i ∧ i ≤ xs.length ∧ Pv i ys H, ⟨xs.length, by simp, Nat.zero_le _, h0⟩, ?_⟩
  rintro i m ys H ⟨rfl, hi, p⟩
  obtain ⟨q, hy⟩ := hl i ys H hi p
  by_cases hlt : i < xs.length
  · refine .inr ⟨⟨xs, _, q, List.getElem?_eq_getElem hlt⟩, by (first | lia | omega), ?_⟩
    rintro v H3 ⟨rfl, hv⟩
    exact hs i v ys H3 (fun ys' H' => ∃ m', m' < xs.length - i ∧ m' = xs.length - (i + 1) ∧ i + 1 ≤ xs.length ∧ Pv (i + 1) ys' H') (hv xs q) p fun ys' H' p' => ⟨_, by (first | lia | omega), rfl, hlt, p'⟩
  · have e : i = xs.length := by (first | lia | omega)
    subst e
    exact .inl ⟨⟨xs, q, Nat.le_refl _⟩, by (first | lia | omega), hd ys H p⟩
theorem comp_str {z : Str} (Pv : Nat → List V → Hp → Prop) (hx : z.cps.size < sizeLine) (h0 : Pv 0 [] H1) (hl : ∀ i ys H, i ≤ z.cps.size → Pv i ys H → ys.length ≤ i)
    (hs : ∀ (i : Nat) (c : Nat) (ys : List V) (H : Hp) (N : List V → Hp → Prop), z.cps[i]? = some c → Pv i ys H → (∀ ys' H', Pv (i + 1) ys' H' → N ys' H') →
      tt (some (.str ⟨#[c]⟩) :: slotsOf fr σ) H fun b H4 => if b = true then te (some (.str ⟨#[c]⟩) :: slotsOf fr σ) H4 (fun y H5 => N (ys ++ [y]) H5) else N ys H4)
    (hd : ∀ ys H, Pv z.cps.size ys H → ∀ l, H l = none → R l ys H) : CompGoal (Its z) fr tt te σ H1 R := by
  refine ⟨fun i m ys H => m = z.cps.size - i ∧ i ≤ z.cps.size ∧ Pv i ys H, ⟨z.cps.size, by simp, Nat.zero_le _, h0⟩, ?_⟩
  rintro i m ys H ⟨rfl, hi, p⟩
  have hy := hl i ys H hi p
  by_cases hlt : i < z.cps.size
  · refine .inr ⟨hlt, by (first | lia | omega), ?_⟩
    rintro v H3 ⟨rfl, c, hc, rfl⟩
    exact hs i c ys H3 (fun ys' H' => ∃ m', m' < z.cps.size - i ∧ m' = z.cps.size - (i + 1) ∧ i + 1 ≤ z.cps.size ∧ Pv (i + 1) ys' H') hc p fun ys' H' p' => ⟨_, by (first | lia | omega), rfl, hlt, p'⟩
  · have e : i = z.cps.size := by (first | lia | omega)
    subst e
    exact .inl ⟨rfl, by (first | lia | omega), hd ys H p⟩
end
end L2

set_option Elab.async false
set_option linter.all false
set_option maxRecDepth 100000
set_option maxHeartbeats 4000000
/-! Further rules: enumerate of a list or a tuple in a for, join, split; split undoes join. -/
namespace L2
open PySem PySem.Spec PyProof.Rows
/-! ### texts joined and parted -/
theorem strs_are : ∀ {zs : List Str} {us : List Value}, Vals (zs.map V.str) us → ∃ l : List (Str × Tok), us = strValues l ∧ l.map (·.1) = zs
  | [], _, .nil => ⟨[], rfl, rfl⟩
  | z :: r, _, .cons h t => by
    obtain ⟨l, rfl, e⟩ := strs_are t
    obtain ⟨tk, rfl⟩ := h
    exact ⟨(z, tk) :: l, rfl, by rw [List.map_cons, e]⟩
theorem strs_vals : ∀ l : List (Str × Tok), Vals ((l.map (·.1)).map V.str) (strValues l)
  | [] => .nil
  | (z, t) :: r => .cons ⟨t, rfl⟩ (strs_vals r)
section
variable {X : Cx}
noncomputable def rJoin (K : PySem.W.Frag) : V → List V → Hp → VK → Prop := fun x vs H Q => ∃ (sep : Str) (l : Addr) (zs : List Str), x = .str sep ∧ vs = [.ref l] ∧ SqL K H l (zs.map V.str) ∧ JoinOk sep zs = true ∧ Q (.str (Txt.join sep zs)) H
theorem mt_join : MtR X "str.join" (rJoin X.K) := by
  intro pins s σ H x vs v us Q I rx rv h
  obtain ⟨sep, l, zs, rfl, rfl, hl, hok, q⟩ := h
  obtain ⟨t, rfl⟩ := rx
  obtain ⟨u, rfl, ru⟩ := rv.one
  cases ru
  obtain ⟨its, r, pl, hz⟩ := I.list hl
  obtain ⟨ls, rfl, e⟩ := strs_are r
  exact SC.join pl.isList e hok fun t' k => ⟨.str _, H, I.tok k, ⟨_, rfl⟩, q⟩
noncomputable def rSplit : V → List V → Hp → VK → Prop := fun x vs H Q => ∃ z sep : Str, x = .str z ∧ vs = [.str sep] ∧ (sep.length == 0) = false ∧ z.length + 2 ≤ sizeLine ∧ ∀ p, H p = none → Q (.ref p) (upd H p (.lst ((Txt.split z sep).map V.str)))
theorem mt_split : MtR X "str.split" rSplit := by
  intro pins s σ H x vs v us Q I rx rv h
  obtain ⟨z, y, rfl, rfl, hy, hz, q⟩ := h
  obtain ⟨t, rfl⟩ := rx
  obtain ⟨u, rfl, ru⟩ := rv.one
  obtain ⟨t', rfl⟩ := ru
  have hn : (Txt.split z y).length ≤ sizeLine := Nat.le_trans (split_le z y) hz
  have fin : ∀ (l : List (Str × Tok)) (tk : Nat), l.map (·.1) = Txt.split z y → EP X pins σ Q (.ref s.heap.objs.size) { s with heap := s.heap.push { cls := .type "list", data := .seq (strValues l).toArray }, toks := tk } := fun l tk e => by
    refine ⟨.ref s.heap.objs.size, _, I.laid (t' := tk) (o := .lst ((Txt.split z y).map V.str)) (fun b ob g => Heap.get?_push_of_some _ g) (Nat.le_refl _) ?_, rfl, q _ (I.hok.fresh (Nat.le_refl _))⟩
    exact ⟨by rw [List.length_map]; exact hn, strValues l, 0, by rw [← e]; exact strs_vals l, Heap.get?_push_size _ rfl⟩
  cases c1 : (decide (z.length < y.length) || decide (Builtin.Str.strKind z < Builtin.Str.strKind y)) with
  | true => exact call_meets F.slot_str_split (typeIs_str _ _ _) F.entry_str_split (F.args_str_split_2 _ _) (meets_str_split_cannot_occur z y t t' c1) (fin [(z, t)] s.toks (by unfold Txt.split; rw [if_pos c1]; rfl))
  | false =>
    cases c2 : (Builtin.Str.occurrences z y 0 z.length (z.length + 1)).isEmpty with
    | true => exact call_meets F.slot_str_split (typeIs_str _ _ _) F.entry_str_split (F.args_str_split_2 _ _) (meets_str_split_not_found z y t t' c1 hy c2) (fin [(z, t)] s.toks (by unfold Txt.split; rw [if_neg (by rw [c1]; exact Bool.false_ne_true), if_pos c2]; rfl))
    | false =>
      have ep : Txt.split z y = Builtin.Str.partsBetween z (Builtin.Str.occurrences z y 0 z.length (z.length + 1)) y.length := by
        unfold Txt.split
        rw [if_neg (by rw [c1]; exact Bool.false_ne_true), if_neg (by rw [c2]; exact Bool.false_ne_true)]
      refine call_meets F.slot_str_split (typeIs_str _ _ _) F.entry_str_split (F.args_str_split_2 _ _) (meets_str_split_sep z y t t' c1 hy c2 (by (first | lia | omega)) (by rw [← ep]; exact hn)) ?_
      have g := fin (numbered s.toks (Builtin.Str.partsBetween z (Builtin.Str.occurrences z y 0 z.length (z.length + 1)) y.length)) (s.toks + (Builtin.Str.partsBetween z (Builtin.Str.occurrences z y 0 z.length (z.length + 1)) y.length).length) ((numbered_texts _ _).trans ep.symm)
      rw [← strsFrom_eq] at g
      exact g
end
theorem app_inj {c : Nat} : ∀ {a b r r' : List Nat}, c ∉ a → c ∉ b → a ++ c :: r = b ++ c :: r' → a = b ∧ r = r'
  | [], [], _, _, _, _, e => ⟨rfl, by injection e⟩
  | [], y :: b, _, _, _, hb, e => by
    injection e with e1 e2
    exact absurd (by rw [e1]; exact List.mem_cons_self) hb
  | x :: a, [], _, _, ha, _, e => by
    injection e with e1 e2
    exact absurd (by rw [← e1]; exact List.mem_cons_self) ha
  | x :: a, y :: b, _, _, ha, hb, e => by
    injection e with e1 e2
    obtain ⟨h1, h2⟩ := app_inj (fun h => ha (List.mem_cons_of_mem _ h)) (fun h => hb (List.mem_cons_of_mem _ h)) e2
    exact ⟨by rw [e1, h1], h2⟩
theorem no_app {c : Nat} {a b r : List Nat} (ha : c ∉ a) (e : a = b ++ c :: r) : False := ha (by rw [e]; simp)
theorem cps_join1 (sep a b : Str) (r : List Str) : (Str.join sep (a :: b :: r)).cps.toList = a.cps.toList ++ sep.cps.toList ++ (Str.join sep (b :: r)).cps.toList := by
  show (a ++ sep ++ Str.join sep (b :: r)).cps.toList = _
  show ((a.cps ++ sep.cps) ++ (Str.join sep (b :: r)).cps).toList = _
  rw [Array.toList_append, Array.toList_append]
theorem str_ext {a b : Str} (h : a.cps.toList = b.cps.toList) : a = b := Str.ext' (Array.toList_inj.mp h)
theorem join_inj {c : Nat} : ∀ {ws us : List Str}, ws ≠ [] → us ≠ [] → (∀ p ∈ ws, c ∉ p.cps.toList) → (∀ p ∈ us, c ∉ p.cps.toList) → Str.join ⟨#[c]⟩ ws = Str.join ⟨#[c]⟩ us → ws = us
  | [], _, h, _, _, _, _ => absurd rfl h
  | _, [], _, h, _, _, _ => absurd rfl h
  | [a], [b], _, _, _, _, e => by
    have e' : a = b := e
    rw [e']
  | [a], b :: d :: r, _, _, h1, _, e => by
    have e' := congrArg (fun s : Str => s.cps.toList) e
    rw [cps_join1, List.append_assoc] at e'
    exact (no_app (h1 a List.mem_cons_self) e').elim
  | a :: d :: r, [b], _, _, _, h2, e => by
    have e' := congrArg (fun s : Str => s.cps.toList) e.symm
    rw [cps_join1, List.append_assoc] at e'
    exact (no_app (h2 b List.mem_cons_self) e').elim
  | a :: d :: r, b :: f :: t, _, _, h1, h2, e => by
    have e' := congrArg (fun s : Str => s.cps.toList) e
    rw [cps_join1, cps_join1, List.append_assoc, List.append_assoc] at e'
    obtain ⟨q1, q2⟩ := app_inj (h1 a List.mem_cons_self) (h2 b List.mem_cons_self) e'
    rw [str_ext q1, join_inj (ws := d :: r) (us := f :: t) (by simp) (by simp) (fun p hp => h1 p (List.mem_cons_of_mem _ hp)) (fun p hp => h2 p (List.mem_cons_of_mem _ hp)) (str_ext q2)]
theorem split_join {c : Nat} {ws : List Str} (hn : ws ≠ []) (h : ∀ p ∈ ws, c ∉ p.cps.toList) : Txt.split (Txt.join ⟨#[c]⟩ ws) ⟨#[c]⟩ = ws := by
  have e : Txt.join ⟨#[c]⟩ ws = Str.join ⟨#[c]⟩ ws := StrLaws.glued_eq_join _ _
  rw [e]
  refine join_inj (c := c) (fun z => ?_) hn (StrLaws.split_free _ c) h (StrLaws.join_split _ _)
  have := split_pos (Str.join ⟨#[c]⟩ ws) ⟨#[c]⟩
  rw [z] at this
  exact absurd this (by decide)

/-! ### enumerate -/
section
variable {P : Program} {w : World} {A : Around} {E : Value → Shared → Prop} {z : Shared}
end
section
variable {X : Cx} {pins : List (Addr × Obj)} {σ : St} {H : Hp} {s : Shared} {h' : Heap}
theorem Inv.turned2 {t' : Nat} {e j p : Addr} {xs : List V} {us : List Value} (I : Inv X pins σ H s) (k : ∀ b o, b ≠ e → b ≠ j → s.heap.get? b = some o → h'.get? b = some o) (fe : FpOk X pins H e) (fj : FpOk X pins H j)
    (hp : s.heap.objs.size ≤ p) (ht : IsTup h' p us.toArray) (r : Vals xs us) (hz : xs.length ≤ sizeLine) : Inv X pins σ (upd H p (.tup xs)) { s with heap := h', toks := t' } := by
  have hn := I.hok.fresh hp
  have fp := I.fpOk hp hn
  have nH : ∀ b u, H b = some u → b ≠ e ∧ b ≠ j ∧ b ≠ p := fun b u g => ⟨(fun z => by rw [z, fe.1] at g; cases g), (fun z => by rw [z, fj.1] at g; cases g), fun z => by rw [z, hn] at g; cases g⟩
  refine I.step (g' := s.gens) (d' := s.drawn) (ch := [e, j, p]) (fun b hb => ?_) (fun b o _ _ hc g _ => k b o (fun z => hc (by simp [z])) (fun z => hc (by simp [z])) g) (fun b o _ _ hc g _ => ⟨o.slots, k b o (fun z => hc (by simp [z])) (fun z => hc (by simp [z])) g⟩)
    (fun b o hc g n => by rw [upd_ne fun z => hc (by simp [z])]; exact n) (fun b o hc g => ⟨o, k b o (fun z => hc (by simp [z])) (fun z => hc (by simp [z])) g⟩)
    (fun b ys g => by rw [upd_ne (nH b _ g).2.2]; exact g) (fun b o u g => by rw [upd_ne (nH b _ g).2.2]; exact g) (fun b ps g => ⟨#[], by rw [upd_ne (nH b _ g).2.2, g]; simp⟩) (fun m hm => ?_) (fun b u g => ?_) I.bare
  · have hb' : b = e ∨ b = j ∨ b = p := by simpa using hb
    rcases hb' with rfl | rfl | rfl
    · exact ⟨fe.2.2.2.1, fe.2.1, fe.2.2.2.2.1, fe.2.2.2.2.2⟩
    · exact ⟨fj.2.2.2.1, fj.2.1, fj.2.2.2.2.1, fj.2.2.2.2.2⟩
    · exact ⟨fp.2.2.2.1, fp.2.1, fp.2.2.2.2.1, fp.2.2.2.2.2⟩
  · obtain ⟨o, es, ep, ho, r'⟩ := hm
    exact ⟨o, es, ep, k _ o (Ne.symm fe.2.1) (Ne.symm fj.2.1) ho, r'⟩
  · by_cases hb : b = p
    · subst hb
      rw [upd_same] at g
      cases g
      exact ⟨hz, us, r, ht⟩
    · rw [upd_ne hb] at g
      refine (I.hok b u g).stay (fun c v hc q => ?_) (fun c q => ?_) fun c ys q => ?_
      · rcases hc with z | z
        · rw [z]
          rw [z] at q
          exact k b v (nH b _ g).1 (nH b _ g).2.1 q
        · exact k c v (nH c _ z).1 (nH c _ z).2.1 q
      · rw [upd_ne (nH c _ q).2.2]
        exact q
      · rw [upd_ne (nH c _ q).2.2]
        exact q
theorem enum_item {D : Addr → Prop} {E : Value → Shared → Prop} {e j : Addr} {fp : List Addr} {n i : Nat} {Pv : Nat → Value → Prop} {St' : Nat → Heap → Prop} {old : Value} {elts : List Expr} {kk : Nat} {ps : Pos} {y : V}
    (W : Draws X.prog X.w X.A.in1 j fp n Pv St') (he : IsEnum s.heap e j i old) (st : St' i s.heap) (hi : i < n) (hne : e ≠ j) (hef : e ∉ fp) (I : Inv X pins σ H s) (fe : FpOk X pins H e) (fj : FpOk X pins H j) (hP : ∀ u, Pv i u → RelV y u) :
    wpAny (model X.prog X.w) X.A (pyNext (.ref e)) (fun r s1 => ∃ u, r = some u ∧
      wpAny (model X.prog X.w) X.A (letOwnedTupleGo (.Tuple elts kk ps) (.ref e) u) (fun _ s2 => ∃ p, u = .ref p ∧ H p = none ∧ Inv X pins σ (upd H p (.tup [.int i, y])) s2 ∧ (∃ old', IsEnum s2.heap e j ((i : Int) + 1) old') ∧ St' (i + 1) s2.heap ∧ e ≠ p ∧ j ≠ p) E s1) E s := by
  refine wpAny_pyNext_enum_itemD W he st hi hne hef fun x h1 tk hx ho st1 hT hsz hk => ?_
  refine ⟨_, rfl, wpAny_letOwnedTupleGo_enum ho fun h2 he2 hs2 => ?_⟩
  have hel : e < s.heap.objs.size := Heap.lt_size he
  have hjl : j < s.heap.objs.size := by
    obtain ⟨o, z⟩ := W.live _ _ st
    exact Heap.lt_size z
  have hs2' : Heap.SameBut e h1 h2 := hs2
  have hT2 : IsTup h2 s.heap.objs.size ([.int (i : Int) tk, x] : List Value).toArray := ⟨_, hs2'.extBut _ _ (Nat.ne_of_gt hel) hT, rfl, _, rfl⟩
  refine ⟨s.heap.objs.size, rfl, I.hok.fresh (Nat.le_refl _), I.turned2 (t' := tk + 1) (e := e) (j := j) (fun b o n1 n2 g => hs2'.extBut b o n1 (hk b o n1 n2 g)) fe fj (Nat.le_refl _) hT2 (.cons ⟨tk, rfl⟩ (.cons (hP x hx) .nil)) (by show 2 ≤ sizeLine; decide), ⟨_, he2⟩, ?_, Nat.ne_of_lt hel, Nat.ne_of_lt hjl⟩
  exact W.frame _ _ _ st1 fun b hb o g => hs2'.extBut b o (fun z => hef (z ▸ hb)) g
end
noncomputable def Ite (K : PySem.W.Frag) (a : Addr) : It :=
  ⟨fun i H => ∃ xs x, SqL K H a xs ∧ xs[i]? = some x, fun i H x H' => ∃ p y, x = .ref p ∧ H p = none ∧ H' = upd H p (.tup [.int i, y]) ∧ ∀ xs, SqL K H a xs → xs[i]? = some y, fun i H => ∃ xs, SqL K H a xs ∧ xs.length = i⟩
noncomputable def IteT (K : PySem.W.Frag) (a : Addr) : It :=
  ⟨fun i H => ∃ xs x, SqT K H a xs ∧ xs[i]? = some x, fun i H x H' => ∃ p y, x = .ref p ∧ H p = none ∧ H' = upd H p (.tup [.int i, y]) ∧ ∀ xs, SqT K H a xs → xs[i]? = some y, fun i H => ∃ xs, SqT K H a xs ∧ xs.length = i⟩
theorem cls_ne {h : Heap} {a b : Addr} {o o' : Obj} (e : h.get? a = some o) (e' : h.get? b = some o') (n : o.cls ≠ o'.cls) : a ≠ b := fun z => by
  rw [z, e'] at e
  cases e
  exact n rfl
theorem turn_enum {P : Program} {w : World} {K : PySem.W.Frag} {elts : List Expr} {kk : Nat} {ps : Pos} (a e j : Addr) : Turn P w K (.Tuple elts kk ps) (Ite K a) [e, j] e (fun i h => (∃ old, IsEnum h e j i old) ∧ h.IsListIter j a i ∧ e ≠ j) where
  mem := by simp
  obj := fun i h st b hb => by
    obtain ⟨⟨old, he⟩, ⟨o, g, c, d⟩, _⟩ := st
    have hb' : b = e ∨ b = j := by simpa using hb
    rcases hb' with rfl | rfl
    · exact ⟨_, he, fun v z => by cases z⟩
    · exact ⟨o, g, fun v z => by rw [d] at z; cases z⟩
  keep := fun i h h' st k => by
    obtain ⟨⟨old, he⟩, ⟨o, g, r⟩, n⟩ := st
    exact ⟨⟨old, k e (by simp) _ he⟩, ⟨o, k j (by simp) o g, r⟩, n⟩
  item := by
    intro X hP hw hK hc i pins s σ H E I hf st hg
    subst hP hw hK
    obtain ⟨xs, x, hq, hx⟩ := hg
    obtain ⟨its, rv, pl, hz⟩ := I.list hq
    obtain ⟨⟨old, he⟩, hj, hne⟩ := st
    have hl := rv.length
    have hil : i < xs.length := (List.getElem?_eq_some_iff.mp hx).1
    obtain ⟨o0, g0, c0, _⟩ := id pl.isList
    obtain ⟨o1, g1, c1, _⟩ := id hj
    have nae : a ≠ e := cls_ne g0 he (by rw [c0]; show Value.type "list" ≠ Value.type "enumerate"; decide)
    have naj : a ≠ j := cls_ne g0 g1 (by rw [c0, c1]; decide)
    have W := Draws.list (prog := X.prog) (w := X.w) (A := X.A.in1) (show X.A.in1.handled = none from I.ok.hd hc) j a naj its.toArray
    refine thn (enum_item (D := fun _ => True) (elts := elts) (kk := kk) (ps := ps) (y := x) W he ⟨hj, pl.isList⟩ (by rw [List.size_toArray]; (first | lia | omega)) hne (by simp [hne, nae.symm]) I (hf e (by simp)) (hf j (by simp)) fun u hu => ?_) fun r s1 hq1 => ?_
    · obtain ⟨u', hu', ru⟩ := rv.get hx
      have hu2 : its[i]? = some u := by simpa using hu
      rw [hu2] at hu'
      cases hu'
      exact ru
    · obtain ⟨u, er, h1⟩ := hq1
      refine ⟨u, er, thn h1 fun _ s2 hq2 => ?_⟩
      obtain ⟨p, eu, hp, I2, he2, st2, n1, n2⟩ := hq2
      subst eu
      refine ⟨.ref p, _, I2, rfl, ⟨p, x, rfl, hp, rfl, fun ys hy => by rw [I.list_inj hy hq]; exact hx⟩, ⟨he2, st2.1, hne⟩, fun b hb => ?_⟩
      have hb' : b = e ∨ b = j := by simpa using hb
      rcases hb' with rfl | rfl
      · rw [upd_ne n1]; exact (hf b (by simp)).1
      · rw [upd_ne n2]; exact (hf b (by simp)).1
  done := by
    intro X hP hw hK hc i pins s σ H E I hf st hg
    subst hP hw hK
    obtain ⟨xs, hq, hx⟩ := hg
    obtain ⟨its, rv, pl, hz⟩ := I.list hq
    obtain ⟨⟨old, he⟩, hj, hne⟩ := st
    have hl := rv.length
    obtain ⟨f0, f1, f2, f3, f4, f5⟩ := hf j (by simp)
    exact wpAny_pyNext_enum_end (I.ok.hd hc) he hj pl.isList (by simp; (first | lia | omega)) fun h' eb => ⟨rfl, I.turned (t' := s.toks) (fun b o hb g => eb b o hb g) f0 f1 f3 f4 f5⟩
  self := fun _ _ _ _ _ st h => by
    obtain ⟨⟨old, he⟩, _⟩ := st
    exact wpAny_pyIter_enum he h
section
variable {X : Cx} {elts : List Expr} {kk : Nat} {ps : Pos}
noncomputable def iEnum (K : PySem.W.Frag) (ta : TA) : TI := fun σ H R => ta σ H fun vs H1 => ∃ a, vs = [.ref a] ∧ (∃ xs, SqL K H1 a xs) ∧ R (Ite K a) H1
noncomputable def iEnumT (K : PySem.W.Frag) (ta : TA) : TI := fun σ H R => ta σ H fun vs H1 => ∃ a, vs = [.ref a] ∧ (∃ xs, SqT K H1 a xs) ∧ R (IteT K a) H1
theorem enum_fp {pins : List (Addr × Obj)} {σ : St} {H : Hp} {s : Shared} (I : Inv X pins σ H s) : ∀ b ∈ [s.heap.objs.size + 1, s.heap.objs.size], FpOk X pins H b := fun b hb => by
  have hb' : b = s.heap.objs.size + 1 ∨ b = s.heap.objs.size := by simpa using hb
  rcases hb' with rfl | rfl
  · exact I.fpOk (Nat.le_succ _) (I.hok.fresh (Nat.le_succ _))
  · exact I.fpOk (Nat.le_refl _) (I.hok.fresh (Nat.le_refl _))
theorem pi_enum {a : Expr} {ta : TA} {p pos : Pos} (hg : Gl X "enumerate") (hm : X.mg "enumerate" = none) (ha : PA X [a] ta) (hs : starEach [a] X.env = [(false, eval a X.env)] := by rfl) : PI X (.Tuple elts kk ps) (.Call (.Name "enumerate" p) [a] [] pos) (iEnum X.K ta) := by
  intro pins s σ H R I h
  refine Call_ (ld_blt I hg hm boot_enumerate (PyProof.Rows.callWith_type1 (thn (ha pos pins s σ H _ I h) fun us s1 hz43 => ?_) hs rfl))
  obtain ⟨vs, H1, I1, r1, q1⟩ := hz43
  obtain ⟨l, e, ⟨xs, hq⟩, q⟩ := q1
  subst e
  obtain ⟨u, rfl, ru⟩ := vals1 r1
  cases ru
  obtain ⟨its, rv, pl, hz⟩ := I1.list hq
  refine call_enumerate_list pl.isList fun h' he hj _ hk => ?_
  have I2 : Inv X pins σ H1 { s1 with heap := h' } := I1.kept (t' := s1.toks) hk
  refine wpAny_pyIter_enum he ?_
  exact ⟨_, _, _, _, H1, rfl, I2, turn_enum l _ s1.heap.objs.size, ⟨⟨_, he⟩, hj, Nat.succ_ne_self _⟩, enum_fp I1, q⟩
end
end L2
namespace L2
open PySem PySem.Spec PyProof.Rows
/-! ### for .. in enumerate(..), by an invariant -/
theorem for_enum {K : PySem.W.Frag} {a : Addr} {xs : List V} {g : TG} {tb : TS} {D : Ends} {σ : St} {H : Hp} (Pv : Nat → St → Hp → Prop) (h0 : Pv 0 σ H) (hl : ∀ i σ H, i ≤ xs.length → Pv i σ H → SqL K H a xs)
    (hs : ∀ i x p σ H, xs[i]? = some x → Pv i σ H → H p = none → g (.ref p) σ (upd H p (.tup [.int i, x])) fun σ2 H2 => tb { D with nx := Pv (i + 1), ct := Pv (i + 1), bk := D.nx } σ2 H2) (hd : ∀ σ H, Pv xs.length σ H → D.nx σ H) :
    ∃ W : Nat → Nat → St → Hp → Prop, (∃ m, W 0 m σ H) ∧ ∀ i m σ H, W i m σ H →
      ((Ite K a).stop i H ∧ D.nx σ H) ∨ ((Ite K a).go i H ∧ ∃ N : St → Hp → Prop, (∀ σ' H', N σ' H' → ∃ m', m' < m ∧ W (i + 1) m' σ' H') ∧ ∀ x H', (Ite K a).yld i H x H' → g x σ H' fun σ2 H2 => tb { D with nx := N, ct := N, bk := D.nx } σ2 H2) := by
  refine ⟨fun i m σ H => m = xs.length - i ∧ i ≤ xs.length ∧ Pv i σ H, ⟨xs.length, by simp, Nat.zero_le _, h0⟩, ?_⟩
  rintro i m σ H ⟨rfl, hi, p⟩
  have q := hl i σ H hi p
  by_cases hlt : i < xs.length
  · refine .inr ⟨⟨xs, xs[i], q, by simp [hlt]⟩, Pv (i + 1), fun σ' H' p' => ⟨xs.length - (i + 1), by (first | lia | omega), rfl, hlt, p'⟩, fun x H' y => ?_⟩
    obtain ⟨r, z, rfl, hr, rfl, y⟩ := y
    exact hs i z r σ H (y xs q) p hr
  · have e : i = xs.length := by (first | lia | omega)
    subst e
    exact .inl ⟨⟨xs, q, rfl⟩, hd σ H p⟩
/-! ### more data to compare -/
end L2

set_option Elab.async false
set_option linter.all false
set_option maxRecDepth 100000
set_option maxHeartbeats 4000000
/-! y = [.. for x in ..]: the comprehension's value handed straight to the store. -/
namespace L2
open PySem PySem.Spec PyProof.Rows
noncomputable def tSetC (j : Nat) (t : TE) : TS := fun D σ H => t σ H fun v H1 => D.nx (σ.set j (some v)) H1
section
variable {X : Cx}
end
section
variable {X : Cx} {K : PySem.W.Frag}
theorem sl_listK (h : X.K = K := by rfl) : SlR X (rSlL K) := h ▸ sl_list
end
end L2

set_option Elab.async false
set_option linter.all false
set_option maxRecDepth 100000
set_option maxHeartbeats 4000000
/-! a comprehension whose target is a tuple of names: [e for x, y in it] -/
namespace L2
open PySem PySem.Spec PyProof.Rows
section
variable {prog : Program} {w : World} {A : Around} {s : Shared} {R : Result → Shared → Prop}
theorem comp_loopT {elt tg iter : Expr} {ifs : List Expr} {scope : Scope} {pos : Pos} {it acc : Value} {env : Env} (Iv : Nat → Shared → Prop)
    (turn : ∀ n z, Iv n z → wpAny (model prog w) A (pyNext it) (fun r z1 => match r with
      | none => R (.ok .next) z1
      | some v => wpAny (model prog w) A (letOwnedTupleGo tg it v) (fun _ y2 => wpAny (model prog w) A (assign tg env v) (fun _ z2 =>
          wpAny (model prog w) A (forIn ifs true fun c r => if r = true then do let ok ← isTrue c env (eval c env); pure (ForInStep.yield ok) else pure (ForInStep.yield r)) (fun ok z3 =>
            if ok = true then wpAny (model prog w) A (eval elt env) (fun x z4 =>
              wpAny (model prog w) A (call (.builtin "list.append") [acc, x]) (fun _ z5 => ∃ m, m < n ∧ Iv m z5) (notedBy (model prog w) A env fun e z' => R (.error e) z') z4) (notedBy (model prog w) A env fun e z' => R (.error e) z') z3
            else ∃ m, m < n ∧ Iv m z3) (notedBy (model prog w) A env fun e z' => R (.error e) z') z2) (notedBy (model prog w) A env fun e z' => R (.error e) z') y2) (notedBy (model prog w) A env fun e z' => R (.error e) z') z1) (notedBy (model prog w) A env fun e z' => R (.error e) z') z)
    (n : Nat) (h : Iv n s) : codeAny (model prog w) A (.compLoop (.ListComp elt [⟨tg, iter, ifs, 0⟩] scope pos) 0 it acc env) R s := by
  refine codeAny_loop rfl Iv (fun n z hI => ?_) n h
  show wpAny (model prog w) A ((compTurn (.ListComp elt [⟨tg, iter, ifs, 0⟩] scope pos) 0 it acc env).onRaise (fun x => do noteFrame x env; theTreesLotGoes x)) _ _ z
  refine wpAny_noted ?_
  rw [compTurn_list]
  refine wpAny_bind (wpAny_standAt (wpAny_bind (wpAny_mono (turn n z hI) (fun r z1 q1 => ?_) fun _ _ q => q)))
  cases r with
  | none => exact wpAny_pure q1
  | some v =>
    refine wpAny_bind (wpAny_mono q1 (fun _ z2 q3 => wpAny_bind (wpAny_mono q3 (fun _ z3 q4 => wpAny_bind (wpAny_mono q4 (fun ok z4 q5 => ?_) fun _ _ q => q)) fun _ _ q => q)) fun _ _ q => q)
    cases ok with
    | false => exact wpAny_pure ⟨rfl, q5⟩
    | true => exact wpAny_bind (wpAny_bind (wpAny_mono q5 (fun x z5 q6 => wpAny_bind (wpAny_mono q6 (fun _ z6 q7 => wpAny_pure (wpAny_pure ⟨rfl, q7⟩)) fun _ _ q => q)) fun _ _ q => q))
end
structure CompScT (X : Cx) (scope : Scope) (x : Str) (more fs : List Str) (fr : List Nat) : Prop where
  one : CompSc X scope x fs fr
  nd2 : (x :: more ++ fs).Nodup
noncomputable def tCompT (wi : TI) (k : Nat) (fr : List Nat) (g : TG) (tt : TT) (te : TE) : TE := fun σ H Q => wi σ H fun J H1 => ∃ W : Nat → Nat → List V → Hp → Prop, (∃ m, W 0 m [] H1) ∧ ∀ i m ys H2, W i m ys H2 →
  (J.stop i H2 ∧ ys.length ≤ sizeLine ∧ ∀ l, H2 l = none → Q (.ref l) (upd H2 l (.lst ys))) ∨
  (J.go i H2 ∧ ys.length < sizeLine ∧ ∀ v H3, J.yld i H2 v H3 → ∀ own : St, own.length = k → g v (own ++ slotsOf fr σ) H3 fun σ4 H4 => ∃ own4, σ4 = own4 ++ slotsOf fr σ ∧ own4.length = k ∧ tt σ4 H4 fun b H5 =>
    if b = true then te σ4 H5 (fun y H6 => ∃ m', m' < m ∧ W (i + 1) m' (ys ++ [y]) H6) else ∃ m', m' < m ∧ W (i + 1) m' ys H5)
section
variable {X : Cx}
theorem ok_names {N1 : List Str} (N2 : List Str) {scope : Scope} {C : Addr} {s : Shared} {H : Hp} {ex : List Addr} (h : (compX X N1 scope C s H ex).Ok) : (compX X N2 scope C s H ex).Ok :=
  ⟨h.mod, h.kind, h.glob, h.blt, h.above, h.inj, h.has, h.cab, h.hd, h.frames, h.stk, h.exf, h.bs, h.bsz, h.noex, h.exfs, h.funs, h.frf⟩
theorem comp_invT {pins : List (Addr × Obj)} {σ : St} {H : Hp} {s : Shared} {scope : Scope} {x : Str} {more fs : List Str} {fr : List Nat} {ex : List Addr} {h4 : Heap} {m : Str → Option Value} {t : Nat} (S : CompScT X scope x more fs fr) (I3 : Inv X pins σ H s)
    (ok : (compX X (x :: fs) scope s.heap.objs.size s H ex).Ok) (hn : h4.Ns s.heap.objs.size m) (old : ∀ b o, s.heap.get? b = some o → h4.get? b = some o) :
    Inv (compX X (x :: more ++ fs) scope s.heap.objs.size s H ex) [] (List.replicate (more.length + 1) none ++ slotsOf fr σ) H { s with heap := h4, toks := t } := by
  have J := comp_inv (t := t) S.one I3 ok hn old
  refine ⟨ok_names _ J.ok, J.os, J.bare, J.base, ?_, J.cell, J.free, J.freeC, J.pin, J.hok, ?_⟩
  · obtain ⟨m1, hn1, hl⟩ := J.loc
    refine ⟨m1, hn1, fun i y v e1 e2 e3 => ?_⟩
    by_cases hi : i < more.length + 1
    · have e2 : (List.replicate (more.length + 1) (none : Option V) ++ slotsOf fr σ)[i]? = some (some v) := e2
      rw [List.getElem?_append_left (by rw [List.length_replicate]; exact hi), List.getElem?_replicate, if_pos hi] at e2
      cases e2
    · obtain ⟨j, rfl⟩ : ∃ j, i = more.length + 1 + j := ⟨i - (more.length + 1), by (first | lia | omega)⟩
      have e2 : (List.replicate (more.length + 1) (none : Option V) ++ slotsOf fr σ)[more.length + 1 + j]? = some (some v) := e2
      have e1 : ((x :: more) ++ fs)[more.length + 1 + j]? = some y := e1
      rw [List.getElem?_append_right (by rw [List.length_replicate]; (first | lia | omega)), List.length_replicate, Nat.add_sub_cancel_left] at e2
      rw [List.getElem?_append_right (by rw [List.length_cons]; (first | lia | omega)), List.length_cons, Nat.add_sub_cancel_left] at e1
      exact hl (j + 1) y v (by simpa using e1) (by simpa using e2) e3
  · show (List.replicate (more.length + 1) none ++ slotsOf fr σ).length = ((x :: more) ++ fs).length
    have h1 := S.one.len
    simp [slotsOf, h1]
    (first | lia | omega)
theorem compScT_mk {scope : Scope} {x : Str} {more fs : List Str} {fr : List Nat} (h : cscOk X.env.scope X.N scope x fs fr = true := by kernel_rfl) (h2 : decide (x :: more ++ fs).Nodup = true := by kernel_rfl) : CompScT X scope x more fs fr := ⟨compSc_mk h, of_decide_eq_true h2⟩
theorem pg_tupK {K : PySem.W.Frag} {es : List Expr} {k : Nat} {t : TGs} {n : Nat} {pos : Pos} (hc : X.calm = true) (h : PGs X es t) (hK : X.K = K := by rfl)
    (hn : (assignEach es X.env).length = n := by rfl) (hst : (assignEach es X.env).findIdx? (·.1) = none := by rfl) : PG X (.Tuple es k pos) (gTup K n t) := hK ▸ pg_tup hc h hn hst
theorem pg_nameC {i : Nat} {x : Str} {pos : Pos} (hN : decide X.N.Nodup = true := by kernel_rfl) (hi : X.N[i]? = some x := by rfl) (hl : X.env.scope.names.lookup x = some .local := by first | rfl | exact lookup_relabel_local rfl) : PG X (.Name x pos) (gName i) :=
  pg_name (of_decide_eq_true hN) hi (.inl hl) (.inr hl)
end
section
variable {K : PySem.W.Frag} {a : Addr} {xs : List V} {fr : List Nat} {tt : TT} {te : TE} {σ : St} {H1 : Hp} {R : Addr → List V → Hp → Prop}
noncomputable abbrev gPair (K : PySem.W.Frag) : TG := gTup K 2 (gCons (gName 0) (gCons (gName 1) gNil))
noncomputable abbrev CompGoalT (J : It) (k : Nat) (fr : List Nat) (g : TG) (tt : TT) (te : TE) (σ : St) (H1 : Hp) (R : Addr → List V → Hp → Prop) : Prop :=
  ∃ W : Nat → Nat → List V → Hp → Prop, (∃ m, W 0 m [] H1) ∧ ∀ i m ys H2, W i m ys H2 →
  (J.stop i H2 ∧ ys.length ≤ sizeLine ∧ ∀ l, H2 l = none → R l ys H2) ∨
  (J.go i H2 ∧ ys.length < sizeLine ∧ ∀ v H3, J.yld i H2 v H3 → ∀ own : St, own.length = k → g v (own ++ slotsOf fr σ) H3 fun σ4 H4 => ∃ own4, σ4 = own4 ++ slotsOf fr σ ∧ own4.length = k ∧ tt σ4 H4 fun b H5 =>
    if b = true then te σ4 H5 (fun y H6 => ∃ m', m' < m ∧ W (i + 1) m' (ys ++ [y]) H6) else ∃ m', m' < m ∧ W (i + 1) m' ys H5)
theorem two_of {α : Type} {l : List α} (h : l.length = 2) : ∃ a b, l = [a, b] := by
  obtain ⟨a, t, rfl⟩ : ∃ a t, l = a :: t := List.exists_cons_of_length_eq_add_one h
  obtain ⟨b, rfl⟩ := List.length_eq_one_iff.mp (Nat.succ.inj h)
  exact ⟨a, b, rfl⟩
theorem pair_in {v a b : V} {p : Addr} {H : Hp} {Q : St → Hp → Prop} {own rest : St} (ho : own.length = 2) (ev : v = .ref p) (hp : SqT K H p [a, b]) (h : Q (some a :: some b :: rest) H) : gPair K v (own ++ rest) H Q := by
  obtain ⟨o1, o2, rfl⟩ := two_of ho
  exact ⟨p, _, ev, hp, rfl, _, _, rfl, _, _, rfl, rfl, h⟩
theorem comp2_tup (Pv : Nat → List V → Hp → Prop) (hx : xs.length < sizeLine) (h0 : Pv 0 [] H1) (hl : ∀ i ys H, i ≤ xs.length → Pv i ys H → SqT K H a xs ∧ ys.length ≤ i)
    (hs : ∀ (i : Nat) (x : V) (ys : List V) (H : Hp) (N : List V → Hp → Prop), xs[i]? = some x → Pv i ys H → (∀ ys' H', Pv (i + 1) ys' H' → N ys' H') →
      ∃ p b c, x = .ref p ∧ SqT K H p [b, c] ∧ tt (some b :: some c :: slotsOf fr σ) H fun t H4 => if t = true then te (some b :: some c :: slotsOf fr σ) H4 (fun y H5 => N (ys ++ [y]) H5) else N ys H4)
    (hd : ∀ ys H, Pv xs.length ys H → ∀ l, H l = none → R l ys H) : CompGoalT (Itt K a) 2 fr (gPair K) tt te σ H1 R := by
  refine ⟨fun i m ys H => m = xs.length - i ∧ i ≤ xs.length ∧ Pv i ys H, ⟨xs.length, by simp, Nat.zero_le _, h0⟩, ?_⟩
  rintro i m ys H ⟨rfl, hi, p⟩
  obtain ⟨q, hy⟩ := hl i ys H hi p
  by_cases hlt : i < xs.length
  · refine .inr ⟨⟨xs, _, q, List.getElem?_eq_getElem hlt⟩, by (first | lia | omega), ?_⟩
    rintro v H3 ⟨rfl, hv⟩ own ho
    obtain ⟨pp, b, c, ev, hp, h⟩ := hs i v ys H3 (fun ys' H' => ∃ m', m' < xs.length - i ∧ m' = xs.length - (i + 1) ∧ i + 1 ≤ xs.length ∧ Pv (i + 1) ys' H') (hv xs q) p fun ys' H' p' => ⟨_, by (first | lia | omega), rfl, hlt, p'⟩
    exact pair_in ho ev hp ⟨[some b, some c], rfl, rfl, h⟩
  · have e : i = xs.length := by (first | lia | omega)
    subst e
    exact .inl ⟨⟨xs, q, Nat.le_refl _⟩, by (first | lia | omega), hd ys H p⟩
end
end L2

set_option Elab.async false
set_option linter.all false
set_option maxRecDepth 100000
set_option maxHeartbeats 4000000
/-! sorted of texts, list.insert -/
namespace L2
open PySem PySem.Spec PyProof.Rows
noncomputable def leS (a b : Str) : Bool := !decide (b.cps.toList < a.cps.toList)
noncomputable def sortS (zs : List Str) : List Str := zs.mergeSort leS
theorem strsS_of : ∀ {zs : List Str} {us : List Value}, Vals (zs.map V.str) us → StrsAre us zs
  | [], _, .nil => .nil
  | z :: r, _, .cons ⟨t, e⟩ h => by
    subst e
    exact .cons _ _ (strsS_of h)
section
variable {X : Cx}
noncomputable def rSortS (K : PySem.W.Frag) : List V → Hp → VK → Prop := fun xs H Q => ∃ p zs, xs = [.ref p] ∧ SqL K H p (zs.map V.str) ∧ zs.length < 64 ∧ ∀ l, H l = none → Q (.ref l) (upd H l (.lst ((sortS zs).map V.str)))
noncomputable def rInsert : V → List V → Hp → VK → Prop := fun x vs H Q => ∃ l xs i y, x = .ref l ∧ vs = [.int i, y] ∧ H l = some (.lst xs) ∧ 0 ≤ i ∧ i ≤ (xs.length : Int) ∧ xs.length < 1000 ∧ Q .non (upd H l (.lst (xs.take i.toNat ++ y :: xs.drop i.toNat)))
noncomputable def rInD (K : PySem.W.Frag) (neg : Bool) : R2 := fun x y H Q => ∃ d ds, Dt K H d x ∧ (Dt K H (.tuple ds) y ∨ Dt K H (.list ds) y) ∧ PyData.canLayAll0 ds = true ∧ d.canLay0 = true ∧ d.depth ≤ 60 ∧ Q (.bl (if neg then !(ds.any fun e => PyData.eqv e d) else ds.any fun e => PyData.eqv e d)) H
end
end L2

set_option Elab.async false
set_option linter.all false
set_option maxRecDepth 100000
set_option maxHeartbeats 4000000
/-! Rules for own error classes (two levels under ValueError). -/
namespace L2
open PySem PySem.Spec PyProof.Rows
theorem ObjOk.some_ {P : Program} {w : World} {H : Hp} {h : Heap} {a : Addr} {o : HO} (x : ObjOk P w H h a o) : ∃ u, h.get? a = some u := by
  cases o with
  | lst xs => obtain ⟨_, _, _, _, e⟩ := x; exact ⟨_, e⟩
  | tup xs => obtain ⟨_, _, _, u, e, _⟩ := x; exact ⟨_, e⟩
  | dK kvs => obtain ⟨_, _, _, _, u, _, _, e, _⟩ := x; exact ⟨_, e⟩
  | dT kvs => obtain ⟨_, _, _, _, u, _, _, e, _⟩ := x; exact ⟨_, e⟩
  | set S n => obtain ⟨u, _, _, _, e, _⟩ := x; exact ⟨_, e⟩
  | ins C dx fs => obtain ⟨_, _, _, e, _⟩ := x; exact ⟨_, e⟩
  | own y => exact x
  | xd fs => obtain ⟨_, ⟨u, _, _, e, _⟩, _⟩ := x; exact ⟨_, e⟩
  | rng lo hi => obtain ⟨_, _, _, e⟩ := x; exact ⟨_, e⟩
  | frz ob u => exact ⟨_, x.1⟩
  | tbl ps => exact ⟨_, x⟩
  | met f y => exact ⟨_, x⟩
  | ext φ => exact x.2.1
section
variable {X : Cx} {pins : List (Addr × Obj)} {σ : St} {H : Hp} {s : Shared} {h' : Heap} {a : Addr} {o : HO}
theorem Inv.none_ (I : Inv X pins σ H s) (hn : s.heap.get? a = none) : H a = none := by
  cases q : H a with
  | none => rfl
  | some u =>
    obtain ⟨v, e⟩ := (I.hok a u q).some_
    rw [hn] at e
    cases e
theorem Inv.laidN {t' : Nat} (I : Inv X pins σ H s) (k : ∀ b u, s.heap.get? b = some u → h'.get? b = some u) (hn : s.heap.get? a = none) (new : ObjOk X.prog X.w (upd H a o) h' a o) :
    Inv X pins σ (upd H a o) { s with heap := h', toks := t' } := by
  have hH := I.none_ hn
  have ne : ∀ {b u}, s.heap.get? b = some u → b ≠ a := fun q z => by
    rw [z, hn] at q
    cases q
  refine I.un ⟨fun b u q _ _ _ => k b u q, fun b u q _ _ _ => ⟨u.slots, k b u q⟩, fun b u q n _ => by rw [upd_ne (ne q)]; exact n, fun b u q _ => ⟨u, k b u q⟩, fun b xs q => by rw [upd_ne (ne_of_none q hH)]; exact q,
    fun b u v q => by rw [upd_ne (ne_of_none q hH)]; exact q, fun b ps q => ⟨#[], by rw [upd_ne (ne_of_none q hH), q]; simp⟩⟩ fun b u e => ?_
  by_cases hb : b = a
  · subst hb
    rw [upd_same] at e
    cases e
    exact new
  · rw [upd_ne hb] at e
    exact (I.hok b u e).stay (fun c v _ q => k c v q) (fun c q => by rw [upd_ne (ne_of_none q hH)]; exact q) fun c xs q => by rw [upd_ne (ne_of_none q hH)]; exact q
end
noncomputable abbrev bmV : List Value := [.type "ValueError", .type "Exception", .type "BaseException", .type "object"]
noncomputable def ExcF (e C : Addr) (dd : Option Addr) : Heap → Prop := fun h => ∃ t, h.get? e = some { cls := .ref C, dict := dd, data := .fields #[.ref t, .none, .none, .none, .bool false, .none] }
theorem excF_ok {P : Program} {w : World} {H : Hp} {h : Heap} {e C : Addr} {dd : Option Addr} (x : ExcF e C dd h) : ObjOk P w H h e (.ext (ExcF e C dd)) :=
  ⟨x, let ⟨_, q⟩ := x; ⟨_, q⟩, fun _ _ ⟨t, q⟩ k => ⟨t, k _ q⟩⟩
section
variable {X : Cx} {C : Addr} {x : Str} {p pos : Pos} {e : Expr} {es : List Expr} {t : TA}
noncomputable def tExc (C : Addr) (t : TA) : TE := fun σ H Q => t σ H fun vs H1 => vs.length ≤ 1000 ∧ ∀ a, H1 a = none → Q (.ref a) (upd H1 a (.ext (ExcF a C none)))
end
/-! ### an __init__ of its own -/
section
variable {prog : Program} {w : World} {A : Around} {E : Value → Shared → Prop} {h : Heap} {g : Array GenState} {d : Drawn} {t : Nat} {os : OsState}
  {nm qn : Str} {C N fI : Addr} {bs bm bmB : List Value} {hd : Bool} {sn : List Str} {sub : List Value} {ab : Bool} {col : Option Bool} {dd : Option Addr} {k0 k1 k2 k3 k5 : Option Value} {B nid iid : String} {us : List Value}
theorem type_call_own (F : ExcBaseFacts B nid iid bmB) (T : OwnTail h bmB bm) {Q : Fin → Shared → Prop} (hC : h.get? C = some (excClassObj nm qn C N bs bm hd sn sub ab col dd k0 k1 k2 k3 k5 nid))
    (hl : PySem.W.Looks (model prog w) h (typeLookup (.ref C) "__init__") (some (.ref fI))) (hb : ∀ v, PySem.W.Looks (model prog w) h (bindSpecial (.ref fI) v) (.ref fI, [v]))
    (k : ∀ h' a, Heap.MadeExcOf h h' a (.ref C) us → wpAny (model prog w) A (call (.ref fI) (.ref a :: us)) (fun r s' => r = .none ∧ Q (.done (.ret (.ref a))) s') E ⟨h', g, d, t, os⟩) (hz : us.length ≤ sizeLine) :
    wpAny (model prog w) A (Builtin.«type.__call__» ⟨.ref C :: us, []⟩) Q E ⟨h, g, d, t, os⟩ := by
  repeat (first | with_reducible refine wpAny_madeBy_exc hC ?_ | with_reducible refine wpAny_loadPart_at hC ?_ | wp_step)
  refine codeAny_call_builtin_code (Code.quiet_builtin _ F.quiet) (wpAny_check_new_subT F T hC
    (codeAny_exc_new_subT F T hC ?_ hz))
  show wpAny _ _ _ _ _ _
  generalize e1 : h.push { cls := .type "tuple", data := .seq us.toArray } = h1
  have c1 : ∀ b o, h.get? b = some o → h1.get? b = some o := fun b o q => by rw [← e1]; exact Heap.get?_push_of_some _ q
  generalize e2 : h1.push { cls := .ref C, data := .fields #[.ref h.objs.size, .none, .none, .none, .bool false, .none] } = h2
  have c2 : ∀ b o, h.get? b = some o → h2.get? b = some o := fun b o q => by rw [← e2]; exact Heap.get?_push_of_some _ (c1 b o q)
  have z1 : h1.objs.size = h.objs.size + 1 := by rw [← e1]; exact Heap.size_push _ _
  have g2 : h2.get? (h.objs.size + 1) = some { cls := .ref C, data := .fields #[.ref h.objs.size, .none, .none, .none, .bool false, .none] } := by
    rw [← e2, ← z1]
    exact Heap.get?_push_size _ rfl
  have g1 : h2.get? h.objs.size = some { cls := .type "tuple", data := .seq us.toArray } := by
    rw [← e2, ← e1]
    exact Heap.get?_push_of_some _ (Heap.get?_push_size _ rfl)
  have hC2 := c2 _ _ hC
  have hcC : (Value.ref C :: bm).contains (.ref C) = true := by simp
  unfold isInstance
  repeat (first | (with_reducible refine wpAny_isSubtype_exc hC2 ?_; rw [hcC]) | with_reducible refine wpAny_loadPart_at g2 ?_ | wp_step)
  show wpAny _ _ (typeLookup (.ref C) _) _ _ _
  refine hl A _ E _ c2 (wpAny_holding (wpAny_bind (hb _ A _ E _ c2 (wpAny_bind (wpAny_mono (k h2 (h.objs.size + 1) ⟨c2, Heap.get?_none_of_le (Nat.le_succ _), _, g2, Heap.get?_none_of_le (Nat.le_refl _), g1⟩) (fun r s' q => ?_) fun _ _ z => z)))))
  obtain ⟨rfl, q⟩ := q
  wp_walk
  exact q
theorem call_own (F : ExcBaseFacts B nid iid bmB) (T : OwnTail h bmB bm) {Q : Value → Shared → Prop} (hC : h.get? C = some (excClassObj nm qn C N bs bm hd sn sub ab col dd k0 k1 k2 k3 k5 nid))
    (hl : PySem.W.Looks (model prog w) h (typeLookup (.ref C) "__init__") (some (.ref fI))) (hb : ∀ v, PySem.W.Looks (model prog w) h (bindSpecial (.ref fI) v) (.ref fI, [v]))
    (k : ∀ h' a, Heap.MadeExcOf h h' a (.ref C) us → wpAny (model prog w) (A.under (.builtin "type.__call__" ⟨.ref C :: us, []⟩)) (call (.ref fI) (.ref a :: us)) (fun r s' => r = .none ∧ Q (.ref a) s') E ⟨h', g, d, t, os⟩) (hz : us.length ≤ sizeLine) :
    wpAny (model prog w) A (call (.ref C) us) Q E ⟨h, g, d, t, os⟩ := by
  have f1 := tc_lookup
  have f2 := tc_bind (.ref C)
  have f3 : (⟨h, g, d, t, os⟩ : Shared).TypeIs (.ref C) "type" := ⟨_, hC, rfl⟩
  refine wpAny_call (codeAny_of_tree ?_)
  show wpAny _ _ (callAny (.ref C) _) _ _ _
  repeat (any_goals (first | assumption | (with_reducible refine wpAny_loadPart_at hC ?_) | wp_step))
  exact ⟨rfl, codeAny_call_builtin_at (Code.quiet_builtin _ (by decide +kernel)) entry_typeCall (wpAny_check_type_call_sub hC (type_call_own F T hC hl hb (fun h' a m => k h' a m) hz))⟩
end
noncomputable def excInI (K : PySem.W.Frag) (C : Addr) (bmB : List Value) (nid : String) : Bool := match K.lookup C with
  | some ⟨.type "type", _, .cls cd, sl⟩ => (match cd.mro, sl.toList with
    | .ref C2 :: bm, [_, _, _, _, some (.builtin n), _] => C2 == C && (n == nid && (!cd.hasDel && PySem.W.tailIn K bmB bm))
    | _, _ => false)
  | _ => false
theorem exc_shapeI {K : PySem.W.Frag} {h : Heap} {C : Addr} {bmB : List Value} {nid : String} (X : K.In h) (q : excInI K C bmB nid = true) :
    ∃ bm N nm qn bs hd sn sub ab col dd k0 k1 k2 k3 k5, h.get? C = some (excClassObj nm qn C N bs bm hd sn sub ab col dd k0 k1 k2 k3 k5 nid) ∧ OwnTail h bmB bm := by
  unfold excInI at q
  split at q
  case h_2 => cases q
  case h_1 d cd sl ho =>
    split at q
    case h_2 => cases q
    case h_1 C2 bm k0 k1 k2 k3 n k5 hm hs =>
      simp only [Bool.and_eq_true, beq_iff_eq, Bool.not_eq_true'] at q
      obtain ⟨e1, e2, e3, e4⟩ := q
      subst e1 e2
      cases cd with
      | mk nm bs mro ns qn hd sn sub ab col del =>
        dsimp only at hm e3
        subst hm e3
        cases sl with
        | mk l =>
          have hl : l = [k0, k1, k2, k3, some (.builtin n), k5] := hs
          subst hl
          exact ⟨_, _, _, _, _, _, _, _, _, _, _, _, _, _, _, _, X _ _ ho, PySem.W.tail_of_in X e4⟩
section
variable {X : Cx} {CX : CXT} {k : Nat} {C f : Addr} {fd : FuncData} {ps : List Str} {sp : Sp} {ds : List Value} {dvs : List V} {E : XK} {x : Str} {p pos : Pos} {e : Expr} {es : List Expr} {t : TA}
noncomputable def tExcI (C : Addr) (sp : Sp) (E : XK) (t : TA) : TE := fun σ H Q => t σ H fun vs H1 => vs.length ≤ 1000 ∧ ∀ a, H1 a = none → sp (.ref a :: vs) (upd H1 a (.ext (ExcF a C none))) (fun v H2 => v = .non ∧ Q (.ref a) H2) E
theorem pe_excI (q : excInI X.K C bmV "ValueError.__new__" = true) (kp : PySem.W.keepIn X.K (.ref C) = true) (hi : PySem.W.findIn X.K (.ref C) "__init__" = some (some (.ref f))) (hf : PySem.W.isFn X.K (.ref f) = true)
    (F : FnOk X.prog X.w X.K X.mg X.base CX k f fd ps sp) (hr : Room (k + 1) X.A) (hb : Binds X.K fd ps []) (hx : Passes CX X E) (hg : Gl X x) (hm : X.mg x = some (.ref C))
    (ha : PA X (e :: es) t) (hdb : (x == ("__debug__" : Str)) = false := by decide) (he : starEach (e :: es) X.env = (false, eval e X.env) :: starEach es X.env := by rfl) (hpl : (backTo pos (starEach es X.env)).any (·.1) = false := by rfl) :
    PE X (.Call (.Name x p) (e :: es) [] pos) (tExcI C sp E t) := by
  intro pins s σ H Q I h
  refine wpAny_Call_Name_kw (ld_glob I hg hm ?_ hdb)
  refine PySem.W.callWith_K (h₀ := X.base) I.ok.mod.kin kp (thn (ha pos pins s σ H _ I h) fun us s1 ⟨vs, H1, I1, r, hl, kk⟩ => ⟨I1.kIn, ?_⟩) he hpl
  have KI := I1.kIn
  obtain ⟨bm, N, nm, qn, bs, hd, sn, sub, ab, col, dd, k0, k1, k2, k3, k5, hC, T⟩ := exc_shapeI KI q
  obtain ⟨hp, g, d, tk, os⟩ := s1
  refine call_own PySem.F.excBase_ValueError T hC (PySem.W.looks_findIn KI hi) (fun v => PySem.W.bind_fn KI v (beq_iff_eq.mp hf)) (fun h' a m => ?_) (by show us.length ≤ sizeLine; rw [← r.length]; exact Nat.le_of_lt (small1000 hl))
  obtain ⟨mk, mn, tt, m1, _, _⟩ := m
  have I2 : Inv X pins σ (upd H1 a (.ext (ExcF a C none))) ⟨h', g, d, tk, os⟩ := I1.laidN (t' := tk) (o := .ext (ExcF a C none)) mk mn (excF_ok ⟨tt, m1⟩)
  have hq := kk a (I1.none_ mn)
  have r2 : Vals (V.ref a :: vs) (Value.ref a :: us) := .cons rfl r
  have hlen : (Value.ref a :: us ++ []).length = ps.length := by
    have e1 := r2.length
    rw [F.len _ _ _ _ hq] at e1
    rw [List.append_nil]
    exact e1.symm
  refine wpAny_call (codeAny_mono (F.run _ X.stack _ _ ⟨Value.ref a :: us, []⟩ (Value.ref a :: us) _ _ E (hr.make C us []) (I2.env0.make C us []) (by have := hb _ (Value.ref a :: us) I2.kIn hlen; rw [List.append_nil] at this; exact this) r2 hq) fun r s' hq' => ?_)
  cases r with
  | error e => exact hx pins σ _ _ e s' I2 hq'
  | ok fl =>
    cases fl with
    | ret u =>
      obtain ⟨v, H', I3, rv, ev, q3⟩ := I2.after hq'
      subst ev
      exact ⟨rv, V.ref a, H', I3, rfl, q3⟩
    | next => exact False.elim hq'
    | brk => exact False.elim hq'
    | cont => exact False.elim hq'
end
/-! ### ValueError.__init__(e, ..) -/
section
variable {prog : Program} {w : World} {A : Around} {E : Value → Shared → Prop} {h : Heap} {g : Array GenState} {d : Drawn} {t : Nat} {os : OsState}
  {nm qn : Str} {C N fI e ta : Addr} {bs bm bmB : List Value} {hd : Bool} {sn : List Str} {sub : List Value} {ab : Bool} {col : Option Bool} {dd de : Option Addr} {k0 k1 k2 k3 k5 : Option Value} {B nid iid : String} {us : List Value}
theorem call_vinit (F : ExcBaseFacts B nid iid bmB) (T : OwnTail h bmB bm) {Q : Value → Shared → Prop} (hC : h.get? C = some (excClassObj nm qn C N bs bm hd sn sub ab col dd k0 k1 k2 k3 k5 nid))
    (he : h.get? e = some { cls := .ref C, dict := de, data := .fields #[.ref ta, .none, .none, .none, .bool false, .none] }) (hz : us.length ≤ sizeLine)
    (k : ∀ h' : Heap, (∀ b o, b ≠ e → h.get? b = some o → h'.get? b = some o) → ExcF e C de h' → Q .none ⟨h', g, d, t, os⟩) :
    wpAny (model prog w) A (call (.builtin iid) (.ref e :: us)) Q E ⟨h, g, d, t, os⟩ := by
  refine wpAny_call (codeAny_call_builtin F.init.plain F.initEntry (wpAny_check_init_subT F T hC he rfl ?_))
  wp_walk
  have he1 : (h.push { cls := .type "tuple", data := .seq us.toArray }).get? e = some { cls := .ref C, dict := de, data := .fields #[.ref ta, .none, .none, .none, .bool false, .none] } := Heap.get?_push_of_some _ he
  refine k _ (fun b o n q => ?_) ⟨h.objs.size, ?_⟩
  · rw [Heap.get?_update_other _ _ (Ne.symm n)]
    exact Heap.get?_push_of_some _ q
  · rw [Heap.get?_update_self _ he1 rfl]
    rfl
end
section
variable {X : Cx} {A0 : Addr} {o e : Expr} {es : List Expr} {ta : TE} {t : TA} {apos pos : Pos}
noncomputable def tBInit (K : PySem.W.Frag) (A0 : Addr) (ta : TE) (t : TA) : TE := fun σ H Q => ta σ H fun x H1 => x = .ref A0 ∧ t σ H1 fun vs H2 => ∃ a C dd rest, vs = .ref a :: rest ∧ rest.length ≤ 1000 ∧
  H2 a = some (.ext (ExcF a C dd)) ∧ excInI K C bmV "ValueError.__new__" = true ∧ Q .non (upd H2 a (.ext (ExcF a C dd)))
theorem pe_binit {pl : Sem Bool} (ho : PE X o ta) (hs : PySem.W.specialIn X.K (.ref A0) "__getattribute__" = some (some (.builtin "type.__getattribute__"))) (hr : PySem.W.readsIn X.K A0 (.type "type") = true)
    (hf : PySem.W.findCls X.K (.ref A0) (.type "type") "__init__" = some (.val (.builtin "ValueError.__init__"))) (ha : PA X (e :: es) t)
    (hst : starEach (e :: es) X.env = (false, eval e X.env) :: starEach es X.env := by rfl) (hpl : (backTo pos (starEach es X.env)).any (·.1) = false := by rfl)
    (ht : eval (.Call (.Attribute o "__init__" apos) (e :: es) [] pos) X.env = (do
      let ov ← eval o X.env
      standAt apos.atName
      let (f, first) ← holding [ov] (getMethod ov "__init__" pl)
      callWith pos f first (backTo pos (starEach (e :: es) X.env)) (backToKw pos (keywordEach [] X.env))) := by rfl) :
    PE X (.Call (.Attribute o "__init__" apos) (e :: es) [] pos) (tBInit X.K A0 ta t) := by
  intro pins s σ H Q I h
  refine PySem.W.methodCall_KW (pl := pl) (thn (ho pins s σ H _ I h) fun u s1 hz44 => ?_) ht
  obtain ⟨x, H1, I1, rx, ex, q1⟩ := hz44
  subst ex
  obtain rfl : u = Value.ref A0 := rx
  refine PySem.W.method_cls I1.kIn hs (PySem.W.cls_value I1.kIn hr hf (by decide) ?_)
  have I1' := I1.tok (s1.toks + 1)
  have hA := ha pos pins _ σ H1 _ I1' q1
  rw [hst] at hA ⊢
  refine Calls.callWith_builtin (by show (false || (backTo pos (starEach es X.env)).any (·.1)) = false; rw [hpl] <;> rfl) (Calls.evalArgs_plain ?_)
  refine thn hA fun us s2 hz45 => ?_
  obtain ⟨vs, H2, I2, r, a, C, dd, rest, ev, hl, hH, hc, k⟩ := hz45
  subst ev
  cases r with
  | @cons _ v1 _ us' r1 r2 =>
    obtain rfl : v1 = Value.ref a := r1
    obtain ⟨bm, N, nm, qn, bs, hd, sn, sub, ab, col, d2, k0, k1, k2, k3, k5, hC, T⟩ := exc_shapeI I2.kIn hc
    obtain ⟨⟨tt, he⟩, _⟩ := (show ObjOk X.prog X.w H2 s2.heap a (.ext (ExcF a C dd)) from I2.hok a _ hH)
    obtain ⟨hp, g, d, tk, os⟩ := s2
    refine call_vinit PySem.F.excBase_ValueError T hC he (by rw [← r2.length]; exact Nat.le_of_lt (small1000 hl)) fun h' kk hx => ?_
    obtain ⟨t2, hx2⟩ := hx
    exact ⟨.non, _, I2.write (t' := tk) (x := a) (e := a) (by rw [hH]; exact trivial) (.inl rfl) (fun b u n q => kk b u n q) ⟨_, hx2⟩ (excF_ok ⟨t2, hx2⟩), rfl, k⟩
end
end L2

set_option Elab.async false
set_option linter.all false
set_option maxRecDepth 100000
set_option maxHeartbeats 4000000
/-! Rules for errors of one's own: a field stored in an __init__, a field read, isinstance, an f-string. -/
namespace L2
open PySem PySem.Spec PyProof.Rows PySem.W Builtin Builtin.ObjectAttr
noncomputable def exTail : List Value → Bool
  | .ref _ :: r => exTail r
  | l => l == [.type "ValueError", .type "Exception", .type "BaseException", .type "object"]
theorem refuse_four (self : Value) : refuseLoop self "__setattr__" [.type "ValueError", .type "Exception", .type "BaseException", .type "object"] = pure () := by kernel_rfl
theorem refuse_exc (self : Value) : ∀ {l : List Value}, exTail l = true → refuseLoop self "__setattr__" l = pure ()
  | .ref c :: r, h => by
    rw [refuseLoop_ref]
    exact refuse_exc self (l := r) h
  | [], h => by cases h
  | .type n :: r, h => by
    have e : Value.type n :: r = [.type "ValueError", .type "Exception", .type "BaseException", .type "object"] := beq_iff_eq.mp h
    rw [e]
    exact refuse_four self
structure ExcK (K : Frag) (C : Addr) : Prop where
  ga : findIn K (.ref C) "__getattribute__" = some (some (.builtin "BaseException.__getattribute__"))
  gt : findIn K (.ref C) "__getattr__" = some none
  sa : findIn K (.ref C) "__setattr__" = some (some (.builtin "object.__setattr__"))
  be : mroIn K C (.type "BaseException") = some true
  ob : mroIn K C (.type "object") = some true
  hd : hasDictIn K C = true
  tl : (clsIn K C).any (fun cd => exTail cd.mro) = true
  cl : findIn K (.ref C) "__class__" = some (some (.builtin "object.__class__"))
  cg : specialIn K (.builtin "object.__class__") "__get__" = some (some (.builtin "getset_descriptor.__get__"))
  ct : takesIn K (.builtin "object.__class__") = some true
section
variable {prog : Program} {w : World} {A : Around} {E : Value → Shared → Prop} {s : Shared} {K : Frag} {x C : Addr} {ox : Obj} {od : Option Obj} {name : Str}
theorem kind_bga : builtinKind "BaseException.__getattribute__" = some .slot := by decide +kernel
theorem split_bga : splitId "BaseException.__getattribute__" = some ("BaseException", "__getattribute__") := by decide +kernel
theorem bga_call {R : Result → Shared → Prop} {tk : Tok} (X : K.In s.heap) (I : InstAt s.heap x ox C od) (e : ExcK K C)
    (h : wpAny (model prog w) A.in1 (Builtin.«object.__getattribute__» ⟨[.ref x, .str name tk], []⟩) (fun fin s' => match fin with | .done f => R (.ok f) s' | .again c' => c'.quiet = true ∧ codeAny (model prog w) A c' R s') (fun e s' => R (.error e) s') s) :
    codeAny (model prog w) A (.call (.builtin "BaseException.__getattribute__") ⟨[.ref x, .str name tk], []⟩) R s := by
  refine codeAny_call_builtin PySem.F.excAttr_ValueError.ga.plain PySem.F.entry_bexc_ga (@check_slot (model prog w) _ _ s "BaseException.__getattribute__" "BaseException" "__getattribute__" (.ref x) [.str name tk] [] _ kind_bga split_bga (I.type.andThen (looks_mroIn X e.be)) (PySem.F.args_bexc_ga _ _) ?_)
  exact h
theorem exc_get {Q : Value → Shared → Prop} {tk : Tok} {fill expr : Bool} (X : K.In s.heap) (I : InstAt s.heap x ox C od) (e : ExcK K C)
    (h : codeAny (model prog w) A (.call (.builtin "BaseException.__getattribute__") ⟨[.ref x, .str name tk], []⟩) (fun r s' => match r with | .ok (.ret v) => wpAny (model prog w) A (handedOut v) Q E s' | _ => False) s) :
    wpAny (model prog w) A (getAttrBy (.ref x) (.str name tk) fill expr) Q E s := by
  unfold getAttrBy
  refine wpAny_holding (wpAny_bind (I.type.here (wpAny_bind ((looks_findIn X e.ga).here ?_))))
  have n1 : ¬ ((onTheHeap (Value.ref C) && Value.builtin "BaseException.__getattribute__" == Value.builtin "object.__getattribute__") = true) := by
    show ¬ ((true && Value.builtin "BaseException.__getattribute__" == Value.builtin "object.__getattribute__") = true)
    decide
  show wpAny _ _ (if (onTheHeap (Value.ref C) && Value.builtin "BaseException.__getattribute__" == Value.builtin "object.__getattribute__") = true then _ else _) _ _ _
  rw [if_neg n1]
  unfold getAttrByItsOwn hookBefore
  rw [if_pos (show onTheHeap (Value.ref C) = true from rfl)]
  refine wpAny_bind ((looks_findIn X e.gt).here (wpAny_bind (wpAny_attempt (wpAny_holding ?_))))
  unfold callGetattribute
  rw [if_neg (by cases expr <;> decide)]
  unfold boundAndCalled
  rw [PySem.F.excAttr_ValueError.ga.bind]
  refine wpAny_bind (wpAny_pure ?_)
  refine wpAny_call (codeAny_mono h fun r s' z => ?_)
  rcases r with e | (v | _ | _ | _) <;> first | exact z | exact z.elim
theorem exc_value {Q : Value → Shared → Prop} {v : Value} {expr : Bool} (X : K.In s.heap) (I : InstAt s.heap x ox C od) (e : ExcK K C) (hf : findObj K C od name = some (.value v)) (hh : handedIn v = true) (h : Q v { s with toks := s.toks + 1 }) :
    wpAny (model prog w) A (getAttr (.ref x) name expr) Q E s := by
  obtain ⟨hp, g, d, t, os⟩ := s
  have L0 := I.type (M := model prog w)
  have L1 := looks_find (M := model prog w) X I hf
  unfold getAttr
  refine wpAny_bind (wpAny_mkText (exc_get (s := ⟨hp, g, d, t + 1, os⟩) X I e (bga_call (s := ⟨hp, g, d, t + 1, os⟩) X I e ?_)))
  refine wpAny_bind (wpAny_pure (wpAny_bind (wpAny_pure (wpAny_bind (L0.at (wpAny_bind (L1.at (wpAny_pure ?_))))))))
  show wpAny _ _ (handedOut v) _ _ _
  rw [handedOut_of hh]
  exact wpAny_pure h
theorem exc_class {Q : Option Value → Shared → Prop} (X : K.In s.heap) (I : InstAt s.heap x ox C od) (e : ExcK K C) (h : Q (some (.ref C)) { s with toks := s.toks + 1 }) :
    wpAny (model prog w) A (getAttr? (.ref x) "__class__") Q E s := by
  have hf : findObj K C od "__class__" = some (.bind (.builtin "getset_descriptor.__get__") (.builtin "object.__class__")) := by
    obtain ⟨cd, hc, _⟩ := any_some e.hd
    unfold findObj
    rw [hc, Option.bind_some, e.cl, Option.bind_some]
    simp [e.cg, e.ct]
  obtain ⟨hp, g, d, t, os⟩ := s
  have L0 := I.type (M := model prog w)
  have L1 := looks_find (M := model prog w) X I hf
  unfold getAttr? getAttrBy?
  refine wpAny_bind (wpAny_mkText (wpAny_bind (wpAny_attempt (exc_get (s := ⟨hp, g, d, t + 1, os⟩) X I e (bga_call (s := ⟨hp, g, d, t + 1, os⟩) X I e ?_)))))
  refine wpAny_bind (wpAny_pure (wpAny_bind (wpAny_pure (wpAny_bind (L0.at (wpAny_bind (L1.at ?_)))))))
  show wpAny _ _ (holding [.builtin "object.__class__"] (call (.builtin "getset_descriptor.__get__") [.builtin "object.__class__", .ref x, .ref C]) >>= ret) _ _ _
  refine wpAny_bind (wpAny_holding (wpAny_call (class_get (s := ⟨hp, g, d, t + 1, os⟩) (ox := ox) (od := od) X I e.ob (wpAny_pure ?_))))
  exact handed_on rfl (wpAny_pure h)
theorem kitx_exc (e : ExcK K C) : KitX K (.ref x) (.ref C) (fun h => ∃ ox od, InstAt h x ox C od) where
  ty := fun _ _ _ ⟨_, _, I⟩ => I.type
  it := fun _ _ X _ => by
    obtain ⟨cdD, hcD, _⟩ := any_some e.hd
    unfold clsIn at hcD
    split at hcD
    · rename_i ho
      intro A' Q' E' s' k q
      unfold isType loadHead
      exact wpAny_bind (wpAny_loadPart (k _ _ (X _ _ ho)) (wpAny_pure q))
    · cases hcD
  ne := fun h tp dd its n sl X htp => by
    obtain ⟨cdD, hcD, _⟩ := any_some e.hd
    refine Bool.eq_false_iff.mpr fun q => ?_
    have ee : C = tp := Value.ref.inj (beq_iff_eq.mp q)
    subst ee
    unfold clsIn at hcD
    split at hcD
    · rename_i ho
      have z := (X _ _ ho).symm.trans htp
      cases z
    · cases hcD
  ca := fun X ⟨_, _, I⟩ k => exc_class X I e k
theorem exc_put {Q : Unit → Shared → Prop} {v : Value} {vs : Array Value} (X : K.In s.heap) (e : ExcK K C) (hn : findIn K (.ref C) name = some none) (hx : s.heap.get? x = some { cls := .ref C, dict := none, data := .fields vs })
    (q : ∀ (h' : Heap) (tk : Nat), (∀ b o, b ≠ x → s.heap.get? b = some o → h'.get? b = some o) → h'.get? x = some { cls := .ref C, dict := some s.heap.objs.size, data := .fields vs } → h'.Ns1 s.heap.objs.size (fun y => if y = name then some v else none) → Q () { s with heap := h', toks := tk }) :
    wpAny (model prog w) A (setAttr (.ref x) name v) Q E s := by
  have I : InstAt s.heap x { cls := .ref C, dict := none, data := .fields vs } C none := ⟨hx, rfl, rfl, trivial⟩
  have SF := PySem.F.store_object
  obtain ⟨cd, hc, ho⟩ := any_some e.tl
  obtain ⟨cd', hc', hd'⟩ := any_some e.hd
  rw [hc] at hc'
  cases hc'
  refine set_plain X I e.sa ?_
  obtain ⟨hp, g, d, t, os⟩ := s
  have L0 := I.type (M := model prog w)
  have hm : Looks (model prog w) hp (mroOf (.ref C)) cd.mro := (looks_clsIn X hc).andThen .now
  refine codeAny_call_builtin SF.slot.plain SF.entry (@check_slot (model prog w) _ _ ⟨hp, g, d, t + 1, os⟩ "object.__setattr__" "object" "__setattr__" (.ref x) [.str name t, v] [] _ SF.kind SF.split (I.type.andThen (looks_mroIn X e.ob)) (SF.args (.ref x) (.str name t) v) ?_)
  rw [osa_eq, refuse_eq]
  refine wpAny_bind (wpAny_bind (L0.at (wpAny_bind (hm.at ?_))))
  rw [refuse_exc _ ho]
  refine wpAny_pure (wpAny_bind (L0.at (wpAny_bind ((looks_findIn X hn).at (wpAny_bind (wpAny_pure ?_))))))
  have hx1 : (hp.push { cls := .type "dict", data := .dict #[] }).get? x = some { cls := .ref C, dict := none, data := .fields vs } := Heap.get?_push_of_some _ hx
  have hxs : x ≠ hp.objs.size := Nat.ne_of_lt (Heap.lt_size hx)
  refine wpAny_bind (wpAny_pure (wpAny_bind (wpAny_bind (wpAny_loadPart hx (wpAny_bind ((looks_clsIn X hc).at ?_))))))
  rw [hd']
  show wpAny _ _ (alloc { cls := .type "dict", data := .dict #[] } >>= fun d => update x (fun o => { cls := o.cls, dict := some d, data := o.data, slots := o.slots }) >>= fun _ => dictMade (.ref C) x d) _ _ _
  refine wpAny_bind (wpAny_alloc' (wpAny_bind (wpAny_update' hx1 (wpAny_pure ?_))))
  have g1 : ((hp.push { cls := .type "dict", data := .dict #[] }).update x fun o => { cls := o.cls, dict := some hp.objs.size, data := o.data, slots := o.slots }).get? hp.objs.size = some { cls := .type "dict", data := .dict #[] } :=
    (Heap.get?_update_ne _ _ _ _ hxs.symm).trans (Heap.get?_push_at rfl rfl)
  have g2 : ((hp.push { cls := .type "dict", data := .dict #[] }).update x fun o => { cls := o.cls, dict := some hp.objs.size, data := o.data, slots := o.slots }).Ns hp.objs.size (fun _ => none) :=
    ⟨_, #[], _, g1, rfl, fun e he => absurd he (by simp), fun _ => rfl⟩
  show wpAny _ _ (storeInDict hp.objs.size (.str name t) name v) _ _ _
  unfold storeInDict newKeyGuard
  refine wpAny_bind (wpAny_pure (wpAny_bind (wpAny_nsSet1 (Heap.Ns1.of_empty g2) fun h' hn' hs => ?_)))
  obtain ⟨oD, esD, epD, hoD, hdD, hcD⟩ := hn'.count (Within.cons name v Within.nil)
  refine wpAny_bind (wpAny_lookBehind hoD (by rw [hdD]; exact pastItsLine_dict (Nat.le_trans hcD (by rw [List.length_cons, List.length_nil, sizeLine_eq]; (first | lia | omega)))) (wpAny_pure ?_))
  refine q h' _ (fun b o n gb => ?_) ?_ hn'
  · exact (hs.2 b (Nat.ne_of_lt (Heap.lt_size gb))).trans ((Heap.get?_update_ne _ _ _ _ n).trans (Heap.get?_push_of_some _ gb))
  · exact (hs.2 x hxs).trans (Heap.get?_update_self _ hx1 rfl)
end
end L2

set_option Elab.async false
set_option linter.all false
set_option maxRecDepth 100000
set_option maxHeartbeats 4000000
/-! The rules for errors over the layer: isinstance, a field read and stored, an f-string. -/
namespace L2
open PySem PySem.Spec PyProof.Rows PySem.W Builtin Builtin.ObjectAttr
noncomputable def ErrAt (H : Hp) (a C : Addr) : Option (List (Str × V)) → Prop
  | none => H a = some (.ext (ExcF a C none))
  | some fs => ∃ d, H a = some (.ext (ExcF a C (some d))) ∧ H d = some (.xd fs)
section
variable {X : Cx} {pins : List (Addr × Obj)} {σ : St} {H : Hp} {s : Shared} {a C : Addr}
end
section
variable {X : Cx} {e o value : Expr} {ta tv : TE} {f : Str} {pos pos' : Pos}
theorem pe_globR {x : Str} {c : Addr} (hg : Gl X x) (hm : X.mg x = some (.ref c)) (hd : (x == ("__debug__" : Str)) = false := by decide) : PE X (.Name x pos) (tC (.ref c)) := pe_glob (v := .ref c) hg hm rfl hd
noncomputable def tExGet (K : Frag) (ta : TE) (f : Str) : TE := fun σ H Q => ta σ H fun x H1 => ∃ a C fs v, x = .ref a ∧ ErrAt H1 a C (some fs) ∧ ExcK K C ∧ findIn K (.ref C) f = some none ∧ fs.lookup f = some v ∧ Q v H1
noncomputable def sExSet (K : Frag) (ta tv : TE) (f : Str) : TS := fun D σ H => tv σ H fun y H1 => ta σ H1 fun x H2 => ∃ a C, x = .ref a ∧ ErrAt H2 a C none ∧ ExcK K C ∧ findIn K (.ref C) f = some none ∧
  ∀ d, H2 d = none → d ≠ a → D.nx σ (upd (upd H2 a (.ext (ExcF a C (some d)))) d (.xd [(f, y)]))
theorem ps_exset (ha : PE X o ta) (hv : PE X value tv) (hs : swapsWith value (some (.Attribute o f pos')) pos.line X.env = pure false := by rfl) : PS X (.Assign [.Attribute o f pos'] value pos) (sExSet X.K ta tv f) := by
  intro pins s σ H D I h
  refine plainObj_wpAny_Assign_Attribute (thn (hv pins s σ H _ I h) fun u s1 hz46 => ?_) hs
  obtain ⟨y, H1, I1, ry, q⟩ := hz46
  refine thn (ha pins s1 σ H1 _ I1 q) fun ov s2 hz47 => ?_
  obtain ⟨x, H2, I2, rx, a, C, ex, he, ek, hf, q2⟩ := hz47
  subst ex
  obtain rfl : ov = Value.ref a := rx
  have he' : H2 a = some (.ext (ExcF a C none)) := he
  obtain ⟨⟨t, e0⟩, _⟩ := (show ObjOk X.prog X.w H2 s2.heap a (.ext (ExcF a C none)) from I2.hok a _ he')
  refine exc_put I2.kIn ek hf e0 fun h' tk kp hx hns => ?_
  have hlt : a < s2.heap.objs.size := Heap.lt_size e0
  have hfr : H2 s2.heap.objs.size = none := I2.hok.fresh (Nat.le_refl _)
  -- the error's own record first, then the dict
  generalize eh1 : s2.heap.update a (fun o => { cls := o.cls, dict := some s2.heap.objs.size, data := o.data, slots := o.slots }) = h1
  have g1 : h1.get? a = some { cls := .ref C, dict := some s2.heap.objs.size, data := .fields #[.ref t, .none, .none, .none, .bool false, .none] } := by
    rw [← eh1]
    exact Heap.get?_update_self _ e0 rfl
  have g2 : ∀ b o, b ≠ a → s2.heap.get? b = some o → h1.get? b = some o := fun b o n g => by
    rw [← eh1]
    exact (Heap.get?_update_ne _ _ _ _ n).trans g
  have z1 : h1.objs.size = s2.heap.objs.size := by
    rw [← eh1]
    exact Heap.size_update ..
  have J1 : Inv X pins σ (upd H2 a (.ext (ExcF a C (some s2.heap.objs.size)))) { s2 with heap := h1, toks := tk } :=
    I2.write (t' := tk) (x := a) (e := a) (by rw [he']; exact trivial) (.inl rfl) (fun b o n g => g2 b o n g) ⟨_, g1⟩ (excF_ok ⟨t, g1⟩)
  have k1 : ∀ b o, h1.get? b = some o → h'.get? b = some o := fun b o g => by
    by_cases hb : b = a
    · subst hb
      rw [g1] at g
      cases g
      exact hx
    · refine kp b o hb ?_
      rw [← eh1, Heap.get?_update_ne _ _ _ _ hb] at g
      exact g
  have J2 : Inv X pins σ (upd (upd H2 a (.ext (ExcF a C (some s2.heap.objs.size)))) s2.heap.objs.size (.xd [(f, y)])) { s2 with heap := h', toks := tk } :=
    J1.laid (t' := tk) (a := s2.heap.objs.size) (o := .xd [(f, y)]) k1 (by show h1.objs.size ≤ _; rw [z1]; exact Nat.le_refl _) ⟨_, hns, fun g => by
      show RelO (List.lookup g [(f, y)]) (if g = f then some u else none)
      by_cases hg : g = f
      · subst hg
        rw [if_pos rfl, List.lookup_cons_self]
        exact ry
      · rw [if_neg hg, List.lookup_cons, beq_eq_false_iff_ne.mpr hg]
        exact trivial⟩
  exact ⟨σ, _, J2, q2 _ hfr (Nat.ne_of_gt hlt)⟩
noncomputable def tFstr (te : TE) : TE := fun σ H Q => te σ H fun x H1 => ((∃ z : Str, x = .str z ∧ z.length ≤ 1000) ∨ ∃ i : Int, x = .int i ∧ i.natAbs.log2 < 1920) ∧ ∀ y : Str, Q (.str y) H1
theorem pe_fstr {c1 c2 : Str} {k1 k2 : Nat} {p1 p2 p3 : Pos} {te : TE} (he : PE X e te) (h1 : c1.length ≤ 1000) (h2 : c2.length ≤ 1000) :
    PE X (.JoinedStr [.Constant (.str c1) k1 p1, .FormattedValue e (-1) none p2, .Constant (.str c2) k2 p3] pos) (tFstr te) := by
  intro pins s σ H Q I h
  have big : 10000 ≤ sizeLine := by rw [sizeLine_eq]; decide
  refine JoinedStr_many (joinParts_cons (Calls.Constant_str ⟨?_, joinParts_cons (FormattedValue_plain (thn (he pins _ σ H _ (I.tok _) h) fun v s1 ⟨x, H1, I1, r1, q1, q⟩ => ?_))⟩))
  · have : (Str.empty ++ c1).length = c1.length := by rw [Str.length_append]; simp [Str.empty, Str.length]
    (first | assumption | exact Nat.le_trans (by assumption) (by decide) | exact Nat.lt_of_lt_of_le (by assumption) (by decide) | lia | omega)
  have l0 : (Str.empty ++ c1).length = c1.length := by rw [Str.length_append]; simp [Str.empty, Str.length]
  rcases q1 with ⟨z, rfl, hz⟩ | ⟨i, rfl, hi⟩
  · obtain ⟨t, rfl⟩ := r1
    refine formatField_str (fun t' tk => ⟨?_, joinParts_cons (Calls.Constant_str ⟨?_, joinParts_nil ⟨.str _, H1, ?_, ⟨_, rfl⟩, q _⟩ ?_⟩)⟩) (by (first | assumption | exact Nat.le_trans (by assumption) (by decide) | exact Nat.lt_of_lt_of_le (by assumption) (by decide) | lia | omega))
    · rw [Str.length_append]; (first | assumption | exact Nat.le_trans (by assumption) (by decide) | exact Nat.lt_of_lt_of_le (by assumption) (by decide) | lia | omega)
    · rw [Str.length_append, Str.length_append]; (first | assumption | exact Nat.le_trans (by assumption) (by decide) | exact Nat.lt_of_lt_of_le (by assumption) (by decide) | lia | omega)
    · exact (I1.tok _).tok _
    · rw [Str.length_append, Str.length_append]; (first | assumption | exact Nat.le_trans (by assumption) (by decide) | exact Nat.lt_of_lt_of_le (by assumption) (by decide) | lia | omega)
  · obtain ⟨t, rfl⟩ := r1
    have li : (Str.ofString (toString i)).length ≤ 2000 := by
      have := int_text_length_le (a := i) (k := 1920) (by decide) hi
      rw [PySem.ofString_length]
      (first | assumption | exact Nat.le_trans (by assumption) (by decide) | exact Nat.lt_of_lt_of_le (by assumption) (by decide) | lia | omega)
    refine formatField_int_small hi ⟨?_, joinParts_cons (Calls.Constant_str ⟨?_, joinParts_nil ⟨.str _, H1, ?_, ⟨_, rfl⟩, q _⟩ ?_⟩)⟩
    · rw [Str.length_append]; show (Str.empty ++ c1).length + (Str.ofString (toString i)).length ≤ _; (first | assumption | exact Nat.le_trans (by assumption) (by decide) | exact Nat.lt_of_lt_of_le (by assumption) (by decide) | lia | omega)
    · rw [Str.length_append, Str.length_append]; show (Str.empty ++ c1).length + (Str.ofString (toString i)).length + _ ≤ _; (first | assumption | exact Nat.le_trans (by assumption) (by decide) | exact Nat.lt_of_lt_of_le (by assumption) (by decide) | lia | omega)
    · exact (I1.tok _).tok _
    · rw [Str.length_append, Str.length_append]; show (Str.empty ++ c1).length + (Str.ofString (toString i)).length + _ ≤ _; (first | assumption | exact Nat.le_trans (by assumption) (by decide) | exact Nat.lt_of_lt_of_le (by assumption) (by decide) | lia | omega)
end
end L2

set_option Elab.async false
set_option linter.all false
set_option maxRecDepth 100000
set_option maxHeartbeats 4000000
/-! Errors of one's own that leave a def: raised, passed on. -/
namespace L2
open PySem PySem.Spec PyProof.Rows PySem.W
noncomputable abbrev excO (C : Addr) (dd : Option Addr) (t : Addr) (tb : Value) : Obj := { cls := .ref C, dict := dd, data := .fields #[.ref t, tb, .none, .none, .bool false, .none] }
noncomputable def ExcG (e C : Addr) (dd : Option Addr) : Heap → Prop := fun h => ∃ t tb, h.get? e = some (excO C dd t tb)
theorem excG_ok {P : Program} {w : World} {H : Hp} {h : Heap} {e C : Addr} {dd : Option Addr} (x : ExcG e C dd h) : ObjOk P w H h e (.ext (ExcG e C dd)) :=
  ⟨x, let ⟨_, _, q⟩ := x; ⟨_, q⟩, fun _ _ ⟨t, tb, q⟩ k => ⟨t, tb, k _ q⟩⟩
noncomputable def gone (H : Hp) (e C : Addr) (dd : Option Addr) : Hp := upd H e (.ext (ExcG e C dd))
theorem gone_same {H : Hp} {e C : Addr} {dd : Option Addr} : gone H e C dd e = some (.ext (ExcG e C dd)) := upd_same
theorem gone_ne {H : Hp} {e C b : Addr} {dd : Option Addr} (h : b ≠ e) : gone H e C dd b = H b := upd_ne h
theorem gone_self {H : Hp} {e C : Addr} {dd : Option Addr} (h : H e = some (.ext (ExcG e C dd))) : gone H e C dd = H := by
  funext b
  by_cases q : b = e
  · subst q
    rw [gone_same, h]
  · rw [gone_ne q]
section
variable {M : Model} {A : Around} {E : Value → Shared → Prop} {s : Shared}
theorem fly_entry {base : Heap} {env : Env} {outer : List Env} {L e C t : Addr} {dd : Option Addr} {tb head : Value} {nx : Bool} {Q : Unit → Shared → Prop} (hfr : A.frames = some (env :: outer)) (hl : s.heap.FunFrames base (env :: outer)) (hf : env.frame = some L) (he : s.heap.get? e = some (excO C dd t tb))
    (k : ∀ (h' : Heap) (T : Addr) (oT : Obj) (ts : Array Value), s.heap.objs.size ≤ T → (∀ b o, b ≠ e → b ∉ frs (env :: outer) → s.heap.get? b = some o → h'.get? b = some o) → (∀ b o, b ≠ e → b ∈ frs (env :: outer) → s.heap.get? b = some o → ∃ sl, h'.get? b = some { o with slots := sl }) →
      h'.get? e = some (excO C dd t (.ref T)) → h'.get? T = some oT → oT.data = .fields ts → ts[3]? = some .none → Q () { s with heap := h' }) :
    wpAny M A (do let a ← frameOf env; let pl ← entryPlaceOf L nx; let b ← EntryCells.newEntry head a .none (rawInt L) .none pl; setField (.ref e) 1 b) (fun _ s' => wpAny M A (setFlight (.ref e) none) Q E s') E s := by
  have nfe : e ∉ frs (env :: outer) := fun hm => by
    obtain ⟨_, o, ho, hn⟩ := hl.mem hm
    rw [he] at ho
    cases ho
    exact hn _ rfl
  refine wpAny_bind (wpAny_frameOf_fun hfr hl hf fun h1 hs1 => wpAny_bind (wpAny_entryPlaceOf fun pl hpl => ?_))
  unfold EntryCells.newEntry newFields
  refine wpAny_bind (wpAny_newObj_type ?_ (hpl.sizeOk5 _ _ _ _ _))
  have e1 : h1.get? e = some (excO C dd t tb) := (hs1.2.1 e nfe).trans he
  generalize eo : ({ cls := .type "traceback", dict := none, data := .fields ([head, .ref L, .none, rawInt L, .none] ++ (if pl.isEmpty then List.replicate 6 Value.none else pl)).toArray } : Obj) = oT
  have dT : oT.data = .fields ([head, .ref L, .none, rawInt L, .none] ++ (if pl.isEmpty then List.replicate 6 Value.none else pl)).toArray := by rw [← eo]
  have fT : oT.isFreed = false := Obj.isFreed_of_fields dT
  have e2 : (h1.push oT).get? e = some (excO C dd t tb) := Heap.get?_push_of_some _ e1
  have gT : (h1.push oT).get? h1.objs.size = some oT := Heap.get?_push_size h1 fT
  refine wpAny_setField e2 rfl (by show 1 < 6; decide) ?_
  have nT : h1.objs.size ≠ e := Nat.ne_of_gt (Heap.lt_size e1)
  have e3 : ((h1.push oT).update e (Obj.mapFields (·.setIfInBounds 1 (Value.ref h1.objs.size)))).get? e = some (excO C dd t (.ref h1.objs.size)) := Heap.get?_update_self _ e2 rfl
  have gT3 : ((h1.push oT).update e (Obj.mapFields (·.setIfInBounds 1 (Value.ref h1.objs.size)))).get? h1.objs.size = some oT := (Heap.get?_update_other _ _ (Ne.symm nT)).trans gT
  unfold setFlight
  refine wpAny_bind (wpAny_field e3 rfl (x := .ref h1.objs.size) rfl ?_)
  rw [if_pos (show (Value.ref h1.objs.size != Value.none) = true by simp)]
  refine wpAny_setField gT3 dT (by simp only [List.size_toArray, List.length_append, List.length_cons, List.length_nil] <;> (first | lia | omega)) ?_
  have keep : ∀ b o, b ≠ e → h1.get? b = some o → (((h1.push oT).update e (Obj.mapFields (·.setIfInBounds 1 (Value.ref h1.objs.size)))).update h1.objs.size (Obj.mapFields (·.setIfInBounds 3 ((none : Option Addr).elim Value.none fun f => rawInt f)))).get? b = some o := fun b o hb q => by
    rw [Heap.get?_update_other _ _ (Nat.ne_of_gt (Heap.lt_size q)), Heap.get?_update_other _ _ (Ne.symm hb)]
    exact Heap.get?_push_of_some _ q
  have dT4 := Obj.data_mapFields dT (·.setIfInBounds 3 ((none : Option Addr).elim Value.none fun f => rawInt f))
  refine k _ h1.objs.size _ _ ?_ (fun b o hb hn q => keep b o hb ((hs1.2.1 b hn).trans q)) (fun b o hb _ q => ?_) ?_ (Heap.get?_update_self _ gT3 (Obj.isFreed_of_fields dT4)) dT4 ?_
  · rw [hs1.1]
    exact Nat.le_refl _
  · obtain ⟨sl, q'⟩ := hs1.2.2 b o q
    exact ⟨sl, keep b _ hb q'⟩
  · rw [Heap.get?_update_other _ _ nT]
    exact e3
  · first | (simp; done) | (rcases hpl with rfl | ⟨_, _, _, _, _, _, _, rfl⟩ <;> simp)
end
noncomputable def FlyT (X : Cx) (pins : List (Addr × Obj)) (H : Hp) (h : Heap) (e C : Addr) (dd : Option Addr) : Prop :=
  H e = some (.ext (ExcG e C dd)) ∧ ∃ t T oT ts, h.get? e = some (excO C dd t (.ref T)) ∧ T ≠ e ∧ h.get? T = some oT ∧ oT.data = .fields ts ∧ ts[3]? = some .none ∧
    H T = none ∧ (T ∈ X.ex ∨ X.s₀.heap.objs.size ≤ T) ∧ T ≠ X.env.locals ∧ (∀ x c, X.env.cells.lookup x = some c → c ≠ T) ∧ ∀ p ∈ X.pn ++ pins, p.1 ≠ T
noncomputable def FlyX (X : Cx) (pins : List (Addr × Obj)) (H : Hp) (h : Heap) (e C : Addr) (dd : Option Addr) : Prop := H e = some (.ext (ExcF e C dd)) ∨ FlyT X pins H h e C dd
section
variable {X : Cx} {pins : List (Addr × Obj)} {σ : St} {H : Hp} {s : Shared} {e C : Addr} {dd : Option Addr}
theorem Inv.fly {h1 h' : Heap} {ch : List Addr} (I : Inv X pins σ H s) (hH : ∃ φ, H e = some (.ext φ)) (hx : ExcG e C dd h') (kp : ∀ b o, b ≠ e → b ∉ ch → b ∉ frs X.stack → s.heap.get? b = some o → h'.get? b = some o) (ks : ∀ b o, b ≠ e → b ∉ ch → b ∈ frs X.stack → s.heap.get? b = some o → ∃ sl, h'.get? b = some { o with slots := sl })
    (hc : ∀ b ∈ ch, H b = none ∧ (b ∈ X.ex ∨ X.s₀.heap.objs.size ≤ b) ∧ b ≠ X.env.locals ∧ (∀ x c, X.env.cells.lookup x = some c → c ≠ b) ∧ ∀ p ∈ X.pn ++ pins, p.1 ≠ b) : Inv X pins σ (gone H e C dd) { s with heap := h' } := by
  obtain ⟨φ, hH⟩ := hH
  have ne : ∀ {b}, H b = none → b ≠ e := fun n q => by
    rw [q, hH] at n
    cases n
  have ny : ∀ {b o}, H b = some o → (∀ ψ, o ≠ .ext ψ) → b ≠ e := fun q n z => by
    rw [z, hH] at q
    exact n _ (Option.some.inj q).symm
  obtain ⟨t, tb, he⟩ := hx
  refine I.call (g' := s.gens) (t' := s.toks) (d' := s.drawn) (ch := ch) ⟨fun b o q n hf hc' => kp b o (ne n) hc' hf q, fun b o q n hf hc' => ks b o (ne n) hc' hf q, fun b o q n _ => by rw [gone_ne (ne n)]; exact n, fun b o q hc' => ?_, fun b xs q => ?_, fun b o u q => ?_, fun b ps q => ⟨#[], ?_⟩⟩ (fun b o q => ?_) I.bare fun b hb => (hc b hb).2
  · by_cases h1 : b = e
    · exact ⟨_, h1 ▸ he⟩
    · by_cases h2 : b ∈ frs X.stack
      · obtain ⟨sl, z⟩ := ks b o h1 hc' h2 q
        exact ⟨_, z⟩
      · exact ⟨_, kp b o h1 hc' h2 q⟩
  · rw [gone_ne (ny q fun ψ z => by cases z)]
    exact q
  · rw [gone_ne (ny q fun ψ z => by cases z)]
    exact q
  · rw [gone_ne (ny q fun ψ z => by cases z), q]
    simp
  · by_cases hb : b = e
    · subst hb
      rw [gone_same] at q
      cases q
      exact excG_ok ⟨t, tb, he⟩
    · rw [gone_ne hb] at q
      have nk : ∀ {c u}, H c = some u → c ≠ e → ∀ v, s.heap.get? c = some v → h'.get? c = some v := fun hu n v z => by
        refine kp _ v n (fun m => ?_) (fun m => ?_) z
        · rw [(hc _ m).1] at hu
          cases hu
        · rw [I.stkFree _ m] at hu
          cases hu
      refine (I.hok b o q).stay (fun c u hcu z => ?_) (fun c z => ?_) (fun c xs z => ?_)
      · rcases hcu with rfl | hcu
        · exact nk q hb u z
        · exact nk hcu (ny hcu fun ψ z => by cases z) u z
      · rw [gone_ne (ny z fun ψ z => by cases z)]
        exact z
      · rw [gone_ne (ny z fun ψ z => by cases z)]
        exact z
theorem fly_note {M : Model} {A : Around} {E : Value → Shared → Prop} {Q : Unit → Shared → Prop} (I : Inv X pins σ H s) (hfr : A.frames = some X.stack) (hst : X.stack = X.env :: X.outer) (hf : X.env.frame = some X.env.locals) (F : FlyX X pins H s.heap e C dd)
    (k : ∀ h' : Heap, Inv X pins σ (gone H e C dd) { s with heap := h' } → FlyT X pins (gone H e C dd) h' e C dd → Q () { s with heap := h' }) : wpAny M A (noteFrame (.ref e) X.env) (fun _ s' => wpAny M A (setFlight (.ref e) none) Q E s') E s := by
  have fun0 : s.heap.FunFrames X.base (X.env :: X.outer) := hst ▸ I.stack
  have fin : ∀ (ch : List Addr) (h0 h' : Heap) (T t : Addr) (oT : Obj) (ts : Array Value), (∃ φ, H e = some (.ext φ)) → s.heap.objs.size ≤ h0.objs.size → (∀ b, b ∉ ch → h0.get? b = s.heap.get? b) → (∀ b ∈ ch, H b = none ∧ (b ∈ X.ex ∨ X.s₀.heap.objs.size ≤ b) ∧ b ≠ X.env.locals ∧ (∀ x c, X.env.cells.lookup x = some c → c ≠ b) ∧ ∀ p ∈ X.pn ++ pins, p.1 ≠ b) →
      h0.objs.size ≤ T → (∀ b o, b ≠ e → b ∉ frs (X.env :: X.outer) → h0.get? b = some o → h'.get? b = some o) → (∀ b o, b ≠ e → b ∈ frs (X.env :: X.outer) → h0.get? b = some o → ∃ sl, h'.get? b = some { o with slots := sl }) →
      h'.get? e = some (excO C dd t (.ref T)) → h'.get? T = some oT → oT.data = .fields ts → ts[3]? = some .none → Q () { s with heap := h' } := fun ch h0 h' T t oT ts hH hz h0k hc lT kp ks ge gT dT t3 => by
    have lT' : s.heap.objs.size ≤ T := Nat.le_trans hz lT
    have J := I.fly (h1 := h0) (ch := ch) hH ⟨t, _, ge⟩ (fun b o n hn hfm q => kp b o n (hst ▸ hfm) ((h0k b hn).trans q)) (fun b o n hn hfm q => ks b o n (hst ▸ hfm) ((h0k b hn).trans q)) hc
    have fr : ∀ {b : Addr} {o : Obj}, s.heap.get? b = some o → b ≠ T := fun q z => by
      subst z
      exact absurd (Heap.lt_size q) (Nat.not_lt.mpr lT')
    obtain ⟨φ, hH'⟩ := hH
    obtain ⟨u, heu⟩ := (I.hok e _ hH').some_
    have nTe : T ≠ e := fun z => fr heu z.symm
    refine k h' J ⟨gone_same, t, T, oT, ts, ge, nTe, gT, dT, t3, ?_, .inr (Nat.le_trans I.sz lT'), ?_, fun x c hx z => ?_, fun p hp z => ?_⟩
    · rw [gone_ne nTe]
      exact I.hok.fresh lT'
    · exact Nat.ne_of_gt (Nat.lt_of_lt_of_le I.lt lT')
    · obtain ⟨v, o, ho, _⟩ := I.cell x c hx
      exact fr ho z
    · exact fr (I.pin p hp).1 z
  unfold noteFrame
  simp only [hf]
  rcases F with F | ⟨F, t, T, oT, ts, ge, nTe, gT, dT, t3, hT⟩
  · obtain ⟨⟨t, ge⟩, _⟩ := (show ObjOk X.prog X.w H s.heap e (.ext (ExcF e C dd)) from I.hok e _ F)
    have ge : s.heap.get? e = some (excO C dd t .none) := ge
    refine wpAny_bind (wpAny_field ge rfl (x := .none) rfl ?_)
    rw [if_neg (by decide)]
    exact fly_entry (hst ▸ hfr) fun0 hf ge fun h' T oT ts a1 a2 a3 a4 a5 a6 a7 => fin [] s.heap h' T t oT ts ⟨_, F⟩ (Nat.le_refl _) (fun _ _ => rfl) (fun b hb => by cases hb) a1 a2 a3 a4 a5 a6 a7
  · refine wpAny_bind (wpAny_field ge rfl (x := .ref T) rfl ?_)
    rw [if_pos (show (Value.ref T != Value.none) = true by simp)]
    refine wpAny_bind (wpAny_field gT dT t3 ?_)
    rw [if_neg (show ¬ ((Value.none == rawInt X.env.locals) = true) by simp [rawInt])]
    refine wpAny_bind (wpAny_setField gT dT (Array.getElem?_eq_some_iff.mp t3).1 ?_)
    have oth : ∀ b, b ∉ [T] → (s.heap.update T (Obj.mapFields (·.setIfInBounds 3 Value.none))).get? b = s.heap.get? b := fun b hb => Heap.get?_update_other _ _ fun z => hb (List.mem_singleton.mpr z.symm)
    have zz : (s.heap.update T (Obj.mapFields (·.setIfInBounds 3 Value.none))).objs.size = s.heap.objs.size := Heap.size_update ..
    have nfr : T ∉ frs (X.env :: X.outer) := fun hm => by
      obtain ⟨_, o, ho, hn⟩ := fun0.mem hm
      rw [gT] at ho
      cases ho
      exact hn _ dT
    refine fly_entry (s := { s with heap := s.heap.update T (Obj.mapFields (·.setIfInBounds 3 Value.none)) }) (hst ▸ hfr) (fun0.of_keeps fun b o hb hnf => ⟨o, (oth b fun z => ?_).trans hb, rfl⟩) hf ((oth e fun z => nTe (List.mem_singleton.mp z).symm).trans ge) fun h' T' oT' ts' a1 a2 a3 a4 a5 a6 a7 =>
      fin [T] _ h' T' t oT' ts' ⟨_, F⟩ (by rw [zz]; exact Nat.le_refl _) oth (fun b hb => by rw [List.mem_singleton.mp hb]; exact hT) a1 a2 a3 a4 a5 a6 a7
    rw [List.mem_singleton.mp z, gT] at hb
    cases hb
    exact hnf _ dT
end
noncomputable def CXE (P : Program) (w : World) : CXT := fun outer H s E v s' => ∃ (e C : Addr) (dd : Option Addr) (H' : Hp), v = .ref e ∧ s'.os = s.os ∧ AllBare s'.gens ∧ Un (frs outer) [] H H' s.heap s'.heap ∧ HOk P w H' s'.heap ∧ H' e = some (.ext (ExcG e C dd)) ∧ E (.ref C) dd H' ∧
  ∃ t T oT ts, s'.heap.get? e = some (excO C dd t (.ref T)) ∧ T ≠ e ∧ s'.heap.get? T = some oT ∧ oT.data = .fields ts ∧ ts[3]? = some .none ∧ H' T = none ∧ s.heap.objs.size ≤ T
noncomputable def Lets (X : Cx) (E : XK) : Prop := ∀ (pins : List (Addr × Obj)) (σ : St) (H : Hp) (s : Shared) (e C : Addr) (dd : Option Addr), Inv X pins σ H s → FlyX X pins H s.heap e C dd → E (.ref C) dd (gone H e C dd) → X.xe (.ref e) s
theorem Lets.passes {X : Cx} {E : XK} (L : Lets X E) : Passes (CXE X.prog X.w) X E := by
  rintro pins σ H s v s' I ⟨e, C, dd, H', rfl, os, bare, un, hok, hH, hE, t, T, oT, ts, ge, nTe, gT, dT, t3, hT, lT⟩
  have I' : Inv X pins σ H' s' := I.call' (ch := []) os un hok bare fun b hb => by cases hb
  have fr : ∀ {b : Addr} {o : Obj}, s.heap.get? b = some o → b ≠ T := fun q z => by
    subst z
    exact absurd (Heap.lt_size q) (Nat.not_lt.mpr lT)
  refine L pins σ H' s' e C dd I' (.inr ⟨hH, t, T, oT, ts, ge, nTe, gT, dT, t3, hT, .inr (Nat.le_trans I.sz lT), ?_, fun x c hx z => ?_, fun p hp z => ?_⟩) (by rw [gone_self hH]; exact hE)
  · exact Nat.ne_of_gt (Nat.lt_of_lt_of_le I.lt lT)
  · obtain ⟨v, o, ho, _⟩ := I.cell x c hx
    exact fr ho z
  · exact fr (I.pin p hp).1 z
section
variable {P : Program} {w : World} {K : PySem.W.Frag} {mg : Str → Option Value} {base : Heap} {N : List Str} {qual : Str} {scope : Scope} {f : Addr} {cd : Value} {A : Around} {outer : List Env} {s : Shared} {H : Hp} {E : XK}
theorem lets_cx : Lets (cxOf (CXE P w) P w K mg base N qual scope f cd A outer s H E) E := by
  intro pins σ H1 s1 e C dd I F hE
  show wpAny _ _ (do noteFrame (.ref e) _; setFlight (.ref e) none) _ _ s1
  refine wpAny_bind (fly_note (X := cxOf (CXE P w) P w K mg base N qual scope f cd A outer s H E) I I.ok.frames rfl rfl F fun h' J F' => ?_)
  obtain ⟨F', t, T, oT, ts, ge, nTe, gT, dT, t3, hT, lT, _⟩ := F'
  have lT : s.heap.objs.size ≤ T := lT.resolve_left fun z => by cases z
  exact ⟨e, C, dd, _, rfl, J.os, J.bare, J.base, J.hok, gone_same, hE, t, T, oT, ts, ge, nTe, gT, dT, t3, hT, lT⟩
end
end L2

set_option Elab.async false
set_option linter.all false
set_option maxRecDepth 100000
set_option maxHeartbeats 4000000
/-! raise, try: .. except C as e: .. -/
namespace L2
open PySem PySem.Spec PyProof.Rows PySem.W
section
variable {P : Program} {w : World} {K : PySem.W.Frag} {mg : Str → Option Value} {base : Heap}
theorem Fun.okE {x qual : Str} {st : Stmt} {f : Addr} {fd : FuncData} {N ps : List Str} {k : Nat} {sp : Sp} (F : Fun K x qual st f fd) (S : FnScope N ps (defScope st)) (len : ∀ vs H Q E, sp vs H Q E → vs.length = ps.length)
    (hb : ∀ (cdv : Value) (A : Around) (outer : List Env) (s : Shared) (H : Hp) (vs : List V) (Q : VK) (E : XK), Room k (A.deeper (envOfC qual (defScope st) s.heap.objs.size f cdv)) → sp vs H Q E →
      ∃ t, PSs (cxOf (CXE P w) P w K mg base N qual (defScope st) f cdv A outer s H E) (defBody st) t ∧ t { nx := fun _ H' => Q .non H', rt := Q } (start N vs) H) : FnOk P w K mg base (CXE P w) (k + 1) f fd ps sp := by
  obtain ⟨oc, od, kV, doc, pm, an, cdv, ct, osl, rfl, lk, hcd⟩ := F.ex
  exact fn_of lk hcd S len fun A outer s H vs Q E hr hsp => hb cdv A outer s H vs Q E hr hsp
noncomputable def DefOkE (P : Program) (w : World) (K : PySem.W.Frag) (mg : Str → Option Value) (base : Heap) (k : Nat) (x : Str) (ps : List Str) (sp : Sp) : Prop :=
  ∃ (f : Addr) (fd : FuncData), FnOk P w K mg base (CXE P w) k f fd ps sp ∧ mg x = some (.ref f) ∧ PySem.W.keepIn K (.ref f) = true ∧ Binds K fd ps []
end
theorem clE {X : Cx} {k : Nat} {x : Str} {ps : List Str} {sp : Sp} {j : Nat} {E : XK} {e : Expr} {es : List Expr} {t : TA} {p pos : Pos} (D : DefOkE X.prog X.w X.K X.mg X.base k x ps sp) (hr : Room j X.A) (L : Lets X E) (ha : PA X (e :: es) t) (hk : k ≤ j := by decide) (hg : Gl X x := by rfl)
    (hdb : (x == ("__debug__" : Str)) = false := by decide) (he : starEach (e :: es) X.env = (false, eval e X.env) :: starEach es X.env := by rfl) (hpl : (backTo pos (starEach es X.env)).any (·.1) = false := by rfl) :
    PE X (.Call (.Name x p) (e :: es) [] pos) (tCall sp [] E t) := by
  obtain ⟨f, fd, F, m, kp, b⟩ := D
  exact pe_call F (hr.mono hk) hg m kp b .nil L.passes ha hdb he hpl
section
variable {X : Cx} {E : XK} {x : Expr} {te : TE} {pos : Pos}
noncomputable def tRaise (K : PySem.W.Frag) (E : XK) (te : TE) : TS := fun D σ H => te σ H fun v H1 => ∃ (e C : Addr) (dd : Option Addr), v = .ref e ∧ H1 e = some (.ext (ExcF e C dd)) ∧ excInI K C bmV "ValueError.__new__" = true ∧ E (.ref C) dd (gone H1 e C dd)
theorem ps_raise (he : PE X x te) (L : Lets X E) (hA : X.A.handled = none) : PS X (.Raise (some x) none pos) (tRaise X.K E te) := by
  intro pins s σ H D I h
  show wpAny _ _ (do standAt pos; raiseStmt X.env (some (do let v ← eval x X.env; standAt pos; pure v)) none) _ _ s
  refine wpAny_bind (wpAny_standAt ?_)
  unfold raiseStmt
  refine wpAny_bind (wpAny_bind (thn (he pins s σ H _ I h) fun v s1 ⟨v', H1, I1, rv, e, C, dd, ev, hH, hq, hE⟩ => wpAny_bind (wpAny_standAt (wpAny_pure ?_))))
  subst ev
  obtain rfl : v = Value.ref e := rv
  obtain ⟨bm, N, nm, qn, bs, hd, sn, sub, ab, col, d2, k0, k1, k2, k3, k5, hC, T⟩ := exc_shapeI I1.kIn hq
  have hx := L pins σ H1 s1 e C dd I1 (.inl hH) hE
  obtain ⟨⟨t, ge⟩, _⟩ := (show ObjOk X.prog X.w H1 s1.heap e (.ext (ExcF e C dd)) from I1.hok e _ hH)
  have hcB : (Value.ref C :: bm).contains (.type "BaseException") = true := by
    rw [List.contains_cons, T.hasType (X := "BaseException") (b := true) (by decide), Bool.or_true]
  obtain ⟨hp, g, d, tk, os⟩ := s1
  repeat (first | with_reducible refine wpAny_loadPart_at ge ?_ | with_reducible refine wpAny_loadPart_at hC ?_ | (with_reducible refine wpAny_isSubtype_exc hC ?_; rw [hcB]) | wp_step)
  exact wpAny_raiseNew_none hA hx
end
/-! ### try -/
noncomputable abbrev Cx.held (X : Cx) (q : List (Addr × Obj)) (E : Value → Shared → Prop) : Cx := { X with pn := q, xe := E }
noncomputable abbrev Cx.markd (X : Cx) (e : Addr) : Cx := { X with A := X.A.mark (some (.ref e)), calm := false, xe := fun _ _ => False }
section
variable {X : Cx} {pins : List (Addr × Obj)} {σ : St} {H : Hp} {s : Shared}
theorem Cx.Ok.held {q : List (Addr × Obj)} {E : Value → Shared → Prop} (ok : X.Ok) : (X.held q E).Ok :=
  ⟨ok.mod, ok.kind, ok.glob, ok.blt, ok.above, ok.inj, ok.has, ok.cab, ok.hd, ok.frames, ok.stk, ok.exf, ok.bs, ok.bsz, ok.noex, ok.exfs, ok.funs, ok.frf⟩
theorem Cx.Ok.markd {e : Addr} (ok : X.Ok) : (X.markd e).Ok :=
  ⟨ok.mod, ok.kind, ok.glob, ok.blt, ok.above, ok.inj, ok.has, ok.cab, (fun z => by cases z), ok.frames, ok.stk, ok.exf, ok.bs, ok.bsz, ok.noex, ok.exfs, ok.funs, ok.frf⟩
theorem Inv.held {E : Value → Shared → Prop} (I : Inv X pins σ H s) : Inv (X.held (X.pn ++ pins) E) [] σ H s :=
  ⟨I.ok.held, I.os, I.bare, I.base, I.loc, I.cell, I.free, I.freeC, fun p hp => I.pin p (by simpa using hp), I.hok, I.len⟩
theorem Inv.unheld {E : Value → Shared → Prop} {pins' : List (Addr × Obj)} (ok : X.Ok) (I : Inv (X.held (X.pn ++ pins) E) pins' σ H s) : Inv X pins σ H s :=
  ⟨ok, I.os, I.bare, I.base, I.loc, I.cell, I.free, I.freeC, fun p hp => I.pin p (List.mem_append_left _ hp), I.hok, I.len⟩
theorem Inv.markd {e : Addr} (I : Inv X pins σ H s) : Inv (X.markd e) pins σ H s := ⟨I.ok.markd, I.os, I.bare, I.base, I.loc, I.cell, I.free, I.freeC, I.pin, I.hok, I.len⟩
theorem Inv.unmarkd {e : Addr} (ok : X.Ok) (I : Inv (X.markd e) pins σ H s) : Inv X pins σ H s := ⟨ok, I.os, I.bare, I.base, I.loc, I.cell, I.free, I.freeC, I.pin, I.hok, I.len⟩
noncomputable abbrev blank (X : Cx) : St := List.replicate X.N.length none
theorem Inv.blank (I : Inv X pins σ H s) : Inv X pins (blank X) H s :=
  ⟨I.ok, I.os, I.bare, I.base, let ⟨m, hn, _⟩ := I.loc; ⟨m, hn, fun i x v _ e _ => by
    rw [List.getElem?_replicate] at e
    split at e <;> cases e⟩, I.cell, I.free, I.freeC, I.pin, I.hok, List.length_replicate⟩
theorem goes_ok {M : Model} {A : Around} {E : Value → Shared → Prop} {i : Nat} {x : Str} {pos : Pos} {Q : Unit → Shared → Prop} (I : Inv X pins σ H s) (hN : X.N.Nodup) (hi : X.N[i]? = some x) (hk : X.env.kindOf x = some .local) (h : ∀ s', Inv X pins (σ.set i none) H s' → Q () s') :
    wpAny M A (do bindName X.env x .none; unbindBehindTheSuite X.env x pos) Q E s := by
  obtain ⟨m, hn, hl⟩ := id I.loc
  have hcls : (X.env.scope.kind == .class || (X.env.scope.kind == .module && X.env.locals != X.env.globals)) = false := by rw [I.ok.kind]; rfl
  have hiσ : i < σ.length := by rw [I.len]; exact (List.getElem?_eq_some_iff.mp hi).1
  refine wpAny_nameGoes_keeps hk hn hcls fun h' v hn' hs => ?_
  have old : ∀ {b : Addr} {o : Obj}, X.s₀.heap.get? b = some o → b ≠ X.env.locals := fun q => Nat.ne_of_lt (Nat.lt_of_lt_of_le (Heap.lt_size q) I.ok.above)
  refine h _ ⟨I.ok, I.os, I.bare, ⟨fun b o e n hb hx => (hs.2 b (old e)).trans (I.base.keep b o e n hb hx), fun b o e n hb hx => ?_, I.base.free, fun b o e hx => ?_, I.base.tups, I.base.frzs, I.base.tbls⟩, ⟨_, hn', fun j y v' e1 e2 e3 => ?_⟩, fun y c e => ?_, I.free, I.freeC, fun p hp => ?_, fun b ob e => ?_, by simpa using I.len⟩
  · obtain ⟨sl, e1⟩ := I.base.slot b o e n hb hx
    exact ⟨sl, (hs.2 b (old e)).trans e1⟩
  · obtain ⟨o', e1⟩ := I.base.there b o e hx
    exact ⟨o', (hs.2 b (old e)).trans e1⟩
  · by_cases hj : j = i
    · subst hj
      rw [List.getElem?_set_self hiσ] at e2
      cases e2
    · rw [List.getElem?_set_ne (Ne.symm hj)] at e2
      obtain ⟨u', r', q⟩ := hl j y v' e1 e2 e3
      refine ⟨u', r', ?_⟩
      rcases q with ⟨k, e⟩ | ⟨k, c, e, z⟩
      · refine .inl ⟨k, ?_⟩
        have : y ≠ x := fun e => hj (nodup_ix hN e1 (e ▸ hi))
        simp [this, e]
      · exact .inr ⟨k, c, e, z.sameBut hs (I.cne y c e)⟩
  · obtain ⟨w', z⟩ := I.cell y c e
    exact ⟨w', z.sameBut hs (I.cne y c e)⟩
  · obtain ⟨e, n, ne, nf, d⟩ := I.pin p hp
    exact ⟨(hs.2 p.1 ne).trans e, n, ne, nf, d⟩
  · refine (I.hok b ob e).stay (fun c w' hc q => (hs.2 c ?_).trans q) (fun _ q => q) fun _ _ q => q
    intro z
    subst z
    rcases hc with z | hc
    · rw [← z, I.free] at e
      cases e
    · rw [I.free] at hc
      cases hc
end
section
variable {X : Cx} {E : XK} {pos hpos p : Pos} {body suite : List Stmt} {b0 : Stmt} {n x : Str} {C0 : Addr} {tb ts : TS} {i : Nat}
theorem exc_match {M : Model} {A : Around} {E : Value → Shared → Prop} {Q : Bool → Shared → Prop} {K : PySem.W.Frag} {s : Shared} {e C : Addr} {oe : Obj} (KI : K.In s.heap) (h0 : excInI K C0 bmV "ValueError.__new__" = true) (he : s.heap.get? e = some oe) (hcl : oe.cls = .ref C) (hm : mroIn K C (.ref C0) = some true) (q : Q true s) :
    wpAny M A (excMatches (.ref e) (.ref C0)) Q E s := by
  obtain ⟨bm, N, nm, qn, bs, hd, sn, sub, ab, col, d2, k0, k1, k2, k3, k5, hC, T⟩ := exc_shapeI KI h0
  have hcB : (Value.ref C0 :: bm).contains (.type "BaseException") = true := by
    rw [List.contains_cons, T.hasType (X := "BaseException") (b := true) (by decide), Bool.or_true]
  have f := tc_notTuple
  have L := looks_mroIn (M := M) KI hm
  obtain ⟨hp, g, d, tk, os⟩ := s
  unfold excMatches
  repeat (first | (with_reducible refine wpAny_loadPart_at he ?_; rw [hcl]) | with_reducible refine wpAny_loadPart_at hC ?_ | (with_reducible refine wpAny_isSubtype_exc hC ?_; rw [hcB]) | with_reducible refine L.at ?_ | wp_step)
  exact q
noncomputable def tTry (K : PySem.W.Frag) (b : St) (i : Nat) (EH : XK) (C0 : Addr) (tb ts : TS) : TS := fun D σ H => tb D σ H ∧ ∀ (e C : Addr) (dd : Option Addr) (H' : Hp), H' e = some (.ext (ExcG e C dd)) → EH (.ref C) dd H' → mroIn K C (.ref C0) = some true ∧
  ts { nx := fun τ H2 => D.nx (τ.set i none) H2, rt := D.rt, bk := fun τ H2 => D.bk (τ.set i none) H2, ct := fun τ H2 => D.ct (τ.set i none) H2 } (b.set i (some (.ref e))) H'
theorem ps_try {EH : XK} (hN : X.N.Nodup) (hi : X.N[i]? = some n) (hk : X.env.kindOf n = some .local) (hg : Gl X x) (hm : X.mg x = some (.ref C0)) (h0 : excInI X.K C0 bmV "ValueError.__new__" = true) (hst : X.stack = X.env :: X.outer) (hf : X.env.frame = some X.env.locals)
    (hb : ∀ (q : List (Addr × Obj)) (E' : Value → Shared → Prop), Lets (X.held q E') EH → PSs (X.held q E') body tb) (hs : ∀ e, PSs (X.markd e) (b0 :: suite) ts) (hdb : (x == ("__debug__" : Str)) = false := by decide) :
    PS X (.Try body [.ExceptHandler (some (.Name x p)) (some n) (b0 :: suite) hpos] [] [] pos) (tTry X.K (blank X) i EH C0 tb ts) := by
  intro pins s σ H D I ⟨hB, hH⟩
  refine wpAny_Try_except ?_
  have L : Lets (X.held (X.pn ++ pins) (fun v s1 => wpAny (model X.prog X.w) X.A (noteFrame v X.env) (fun _ s2 => wpAny (model X.prog X.w) X.A (setFlight v none) (fun _ s3 => wpAny (model X.prog X.w) X.A (handleBy v X.env [.ExceptHandler (some (.Name x p)) (some n) (b0 :: suite) hpos]) (SP X pins D) X.xe s3) X.xe s2) X.xe s1)) EH := by
    intro pins' σ' H' s' e C dd I' F hE
    refine fly_note (X := X.held (X.pn ++ pins) _) I' I'.ok.frames hst hf F fun h2 J F2 => ?_
    obtain ⟨hE2, hT⟩ := hH e C dd (gone H' e C dd) gone_same hE
    obtain ⟨F2, t, T, oT, ts', ge, nTe, gT, dT, t3, fT, lT, n1, n2, n3⟩ := F2
    have J2 : Inv X pins (blank X) (gone H' e C dd) { s' with heap := h2 } := (J.unheld I.ok).blank
    refine wpAny_handleBy_cons (codeAny_handlers_test ?_) (by intro q; cases q)
    refine ld_glob (X := X.markd e) J2.markd hg hm (exc_match J2.kIn h0 ge rfl hE2 ?_) hdb
    refine codeAny_handlers_suite_as (wpAny_setFlight_none ge rfl rfl gT dT (Array.getElem?_eq_some_iff.mp t3).1 ?_)
    have J4 : Inv X pins (blank X) (gone H' e C dd) { s' with heap := h2.update T (Obj.mapFields (·.setIfInBounds 3 .none)) } := Inv.turned (s := { s' with heap := h2 }) (h' := h2.update T (Obj.mapFields (·.setIfInBounds 3 .none))) (t' := s'.toks) (it := T) J2 (fun b o nb q => (Heap.get?_update_other _ _ (Ne.symm nb)).trans q) fT n1 lT n2 fun q hq => n3 q (List.mem_append_left _ hq)
    refine store_ok (X := X.markd e) (v := .ref e) J4.markd hN hi (.inl hk) rfl (fun s5 J5 => ?_) (.inr hk)
    refine wpAny_mono (hs e pins s5 _ _ _ J5 hT) (fun f s6 h6 => ?_) fun _ _ z => False.elim z
    cases f with
    | next =>
      obtain ⟨σ6, H6, I6, q6⟩ := h6
      exact goes_ok (I6.unmarkd I.ok) hN hi hk fun s7 J7 => ⟨_, _, J7, q6⟩
    | brk =>
      obtain ⟨σ6, H6, I6, q6⟩ := h6
      exact goes_ok (I6.unmarkd I.ok) hN hi hk fun s7 J7 => ⟨_, _, J7, q6⟩
    | cont =>
      obtain ⟨σ6, H6, I6, q6⟩ := h6
      exact goes_ok (I6.unmarkd I.ok) hN hi hk fun s7 J7 => ⟨_, _, J7, q6⟩
    | ret u =>
      obtain ⟨v6, σ6, H6, I6, r6, q6⟩ := h6
      exact goes_ok (I6.unmarkd I.ok) hN hi hk fun s7 J7 => ⟨_, _, _, J7, r6, q6⟩
  refine thn (hb (X.pn ++ pins) _ L [] s σ H D I.held hB) fun f s1 q => ?_
  cases f with
  | next =>
    obtain ⟨σ', H', I', q⟩ := q
    exact wpAny_execs_nil ⟨σ', H', I'.unheld I.ok, q⟩
  | brk =>
    obtain ⟨σ', H', I', q⟩ := q
    exact ⟨σ', H', I'.unheld I.ok, q⟩
  | cont =>
    obtain ⟨σ', H', I', q⟩ := q
    exact ⟨σ', H', I'.unheld I.ok, q⟩
  | ret u =>
    obtain ⟨v, σ', H', I', r, q⟩ := q
    exact ⟨v, σ', H', I'.unheld I.ok, r, q⟩
end
end L2

set_option Elab.async false
set_option linter.all false
set_option maxRecDepth 100000
set_option maxHeartbeats 4000000
/-! list.index of texts; errors that were caught: isinstance, a field -/
namespace L2
open PySem PySem.Spec PyProof.Rows PySem.W
section
variable {X : Cx}
noncomputable def rIndexS : V → List V → Hp → VK → Prop := fun x vs H Q => ∃ (l : Addr) (zs : List Str) (z : Str) (j : Nat), x = .ref l ∧ vs = [.str z] ∧ H l = some (.lst (zs.map V.str)) ∧ zs[j]? = some z ∧ (∀ m, m < j → zs[m]? ≠ some z) ∧ Q (.int (j : Int)) H
theorem mt_indexS : MtR X "list.index" rIndexS := by
  intro pins s σ H x vs v us Q I rx rv h
  obtain ⟨l, zs, z, j, rfl, rfl, hH, hj, hno, q⟩ := h
  cases rx
  obtain ⟨u, rfl, ru⟩ := rv.one
  obtain ⟨t, rfl⟩ := ru
  obtain ⟨z', its, n, r, hl, e⟩ := I.lstM hH
  have es := strsS_of r
  have eat : ∀ m, (m : Nat) < its.length → ∃ y t', its[m]? = some (.str y t') ∧ zs[m]? = some y := fun m hm => by
    have hz : m < zs.length := by
      have := r.length
      rw [List.length_map] at this
      (first | lia | omega)
    obtain ⟨u', hu', ru'⟩ := r.get (i := m) (x := .str zs[m]) (by rw [List.getElem?_map, List.getElem?_eq_getElem hz]; rfl)
    obtain ⟨t', rfl⟩ := ru'
    exact ⟨zs[m], t', hu', List.getElem?_eq_getElem hz⟩
  have lz := r.length
  rw [List.length_map] at lz
  have hjl : j < its.length := by
    have := (List.getElem?_eq_some_iff.mp hj).1
    (first | lia | omega)
  have sl := line63
  have sz : sizeLine = 16777216 := sizeLine_eq
  let eq : Value → Bool := fun y => match y with | .str a _ => a == z | _ => false
  have hmem : ∀ y, y ∈ its.toArray → MeetsSeq.EqGives y (.str z t) (eq y) := fun y hy => by
    obtain ⟨m, hm⟩ := List.getElem?_of_mem (by simpa using hy : y ∈ its)
    obtain ⟨a, t', e1, _⟩ := eat m (List.getElem?_eq_some_iff.mp hm).1
    rw [hm] at e1
    cases e1
    exact eqGives_str a z t' t
  have hval : ∀ m (hm : m < its.toArray.size), ∃ a t', its.toArray[m] = .str a t' ∧ zs[m]? = some a := fun m hm => by
    have hm' : m < its.length := by simpa using hm
    obtain ⟨a, t', e1, e2⟩ := eat m hm'
    refine ⟨a, t', ?_, e2⟩
    have := (List.getElem?_eq_some_iff.mp e1).2
    simpa using this
  have hjs : j < its.toArray.size := by simpa using hjl
  refine call_meets F.slot_list_index ⟨_, e, rfl⟩ F.entry_list_index (F.args_list_index_2 _ _) (MeetsSeq.list_index l its.toArray n (.str z t) eq hmem j hjs (by (first | lia | omega)) ?_ fun m hm hlt => ?_) ⟨e, ⟨.int _, H, I.tok _, ⟨_, rfl⟩, q⟩⟩
  · obtain ⟨a, t', e1, e2⟩ := hval j hjs
    rw [e1]
    rw [hj] at e2
    cases e2
    show (z == z) = true
    simp
  · obtain ⟨a, t', e1, e2⟩ := hval m hm
    rw [e1]
    show (a == z) = false
    exact beq_eq_false_iff_ne.mpr fun h => hno m hlt (by rw [e2, h])
end
section
variable {X : Cx} {K : Frag}
theorem call_tuple_ofK (h : X.K = K := by rfl) : CallR X (.type "tuple") (fun xs H Q => ∃ p ys, xs = [.ref p] ∧ ((SqL K H p ys ∧ ∀ l, H l = none → Q (.ref l) (upd H l (.tup ys))) ∨ (SqT K H p ys ∧ Q (.ref p) H))) := h ▸ call_tuple_of
theorem call_list_ofK (h : X.K = K := by rfl) : CallR X (.type "list") (fun xs H Q => ∃ p ys, xs = [.ref p] ∧ (SqL K H p ys ∨ SqT K H p ys) ∧ ∀ l, H l = none → Q (.ref l) (upd H l (.lst ys))) := h ▸ call_list_of
theorem pe_bmK {T id : String} {name : Str} {r : V → List V → Hp → VK → Prop} {o e : Expr} {es : List Expr} {to : TE} {t : TA} {apos cpos : Pos} (pa : PlainAttrs T) (slot : Slot T name id) (hty : typeOf (.builtin id) = pure (.type "method_descriptor")) (hm : MtR X id r) (ho : PE X o to) (ha : PA X (e :: es) t)
    (hbase : attributeBase o name X.env (eval o X.env) = eval o X.env := by rfl)
    (hfew : ((backTo cpos (starEach (e :: es) X.env)).all (fun x => !x.1) && (backToKw cpos (keywordEach [] X.env)).all (fun x => x.1.isSome) && decide ((e :: es).length + ([] : List Keyword).length + (if ([] : List Keyword).isEmpty then 0 else 1) < 30)) = true := by rfl)
    (hline : (apos.endLine == cpos.line) = true := by rfl) (hs : starEach (e :: es) X.env = (false, eval e X.env) :: starEach es X.env := by rfl) (hplain : (backTo cpos (starEach es X.env)).any (·.1) = false := by rfl) (h : X.K = K := by rfl) :
    PE X (.Call (.Attribute o name apos) (e :: es) [] cpos) (tBM K T r to t) := h ▸ pe_bm pa slot hty hm ho ha hbase hfew hline hs hplain
theorem mt_joinK (h : X.K = K := by rfl) : MtR X "str.join" (rJoin K) := h ▸ mt_join
end
noncomputable def ErrG (H : Hp) (a C : Addr) (fs : List (Str × V)) : Prop := ∃ d, H a = some (.ext (ExcG a C (some d))) ∧ H d = some (.xd fs)
section
variable {X : Cx} {pins : List (Addr × Obj)} {σ : St} {H : Hp} {s : Shared} {a C : Addr} {fs : List (Str × V)}
theorem errG_inst (I : Inv X pins σ H s) (h : ErrG H a C fs) : ∃ ox od, W.InstAt s.heap a ox C od := by
  obtain ⟨d, h1, h2⟩ := h
  obtain ⟨⟨t, tb, e⟩, _⟩ := (show ObjOk X.prog X.w H s.heap a (.ext (ExcG a C (some d))) from I.hok a _ h1)
  obtain ⟨mA, n1, _⟩ := (show ObjOk X.prog X.w H s.heap d (.xd fs) from I.hok d _ h2)
  obtain ⟨od, eo, _⟩ := lookIn_ns n1
  exact ⟨_, some od, e, rfl, rfl, eo⟩
theorem call_isinstG : CallR X (.builtin "isinstance") (fun xs H Q => ∃ (a C : Addr) (fs : List (Str × V)) (c : V) (u : Value) (b : Bool), xs = [.ref a, c] ∧ ErrG H a C fs ∧ ExcK X.K C ∧ (∀ u', RelV c u' → u' = u) ∧ kitOne X.K (.ref C) u = some b ∧ Q (.bl b) H) := by
  intro pins s σ H xs us Q I r h
  obtain ⟨a, C, o, c, u, b, rfl, ha, ek, hu, hb, q⟩ := h
  obtain ⟨v, w', rfl, rv, rw'⟩ := vals2 r
  cases rv
  obtain rfl := hu _ rw'
  exact kia_one (kitx_exc ek) I.kIn (errG_inst I ha) hb (fun z => nomatch z) fun tk => ⟨.bl b, H, I.tok tk, rfl, q⟩
theorem vals_refs : ∀ {cs : List Addr} {us : List Value}, Vals (cs.map V.ref) us → us = cs.map Value.ref
  | [], _, .nil => rfl
  | c :: r, _, .cons e h => by
    rw [vals_refs h]
    have e : _ = Value.ref c := e
    rw [e]
    rfl
theorem call_isinstT : CallR X (.builtin "isinstance") (fun xs H Q => ∃ (a C p : Addr) (fs : List (Str × V)) (cs : List Addr) (b : Bool), xs = [.ref a, .ref p] ∧ ErrG H a C fs ∧ ExcK X.K C ∧ H p = some (.tup (cs.map V.ref)) ∧ kitAny X.K (.ref C) (cs.map Value.ref) = some b ∧ Q (.bl b) H) := by
  intro pins s σ H xs us Q I r h
  obtain ⟨a, C, p, fs, cs, b, rfl, ha, ek, hp, hb, q⟩ := h
  obtain ⟨v, w', rfl, rv, rw'⟩ := vals2 r
  cases rv
  cases rw'
  obtain ⟨its, r', ⟨⟨c0, d0, da0, s0⟩, e1, e2, n, e3⟩, _⟩ := I.tuple (SqT.of hp)
  have e2 : c0 = .type "tuple" := e2
  have e3 : da0 = .seq its.toArray n := e3
  subst e2 e3
  rw [vals_refs r'] at e1
  exact kia_tup (kitx_exc ek) I.kIn (errG_inst I ha) e1 hb (fun z => nomatch z) fun tk => ⟨.bl b, H, I.tok tk, rfl, q⟩
end
section
variable {X : Cx} {e : Expr} {ta : TE} {f : Str} {pos : Pos}
noncomputable def tExGetG (K : Frag) (ta : TE) (f : Str) : TE := fun σ H Q => ta σ H fun x H1 => ∃ a C fs v, x = .ref a ∧ ErrG H1 a C fs ∧ ExcK K C ∧ findIn K (.ref C) f = some none ∧ fs.lookup f = some v ∧ Q v H1
theorem pe_exgetG (he : PE X e ta) (hb : attributeBase e f X.env (eval e X.env) = eval e X.env := by rfl) : PE X (.Attribute e f pos) (tExGetG X.K ta f) := by
  intro pins s σ H Q I h
  refine attr_of hb (thn (he pins s σ H _ I h) fun u s1 hz48 => ?_)
  obtain ⟨x, H1, I1, rx, a, C, fs, v, ex, ha, ek, hf, hl, q⟩ := hz48
  subst ex
  obtain rfl : u = Value.ref a := rx
  obtain ⟨d, h1, h2⟩ := ha
  obtain ⟨⟨t, tb, e0⟩, _⟩ := (show ObjOk X.prog X.w H1 s1.heap a (.ext (ExcG a C (some d))) from I1.hok a _ h1)
  obtain ⟨mA, n1, r1⟩ := (show ObjOk X.prog X.w H1 s1.heap d (.xd fs) from I1.hok d _ h2)
  obtain ⟨od, eo, el⟩ := lookIn_ns n1
  obtain ⟨u', hu, ru⟩ := RelO.some_of (v := v) (o := mA f) (by rw [← hl]; exact r1 f)
  obtain ⟨cd, hc, hd⟩ := any_some ek.hd
  have J : W.InstAt s1.heap a (excO C (some d) t tb) C (some od) := ⟨e0, rfl, rfl, eo⟩
  have hfo : findObj X.K C (some od) f = some (.value u') := by
    unfold findObj
    rw [hc, Option.bind_some, hf, Option.bind_some]
    show (W.ownOf cd (some od) f).bind _ = _
    unfold W.ownOf
    rw [if_pos hd]
    show (W.lookIn f od).bind _ = _
    rw [el f, hu]
    rfl
  exact exc_value I1.kIn J ek hfo (handed_of ru) ⟨v, H1, I1.tok _, ru, q⟩
theorem pe_exgetGK {K : Frag} (he : PE X e ta) (hb : attributeBase e f X.env (eval e X.env) = eval e X.env := by rfl) (h : X.K = K := by rfl) : PE X (.Attribute e f pos) (tExGetG K ta f) := h ▸ pe_exgetG he hb
theorem call_isinstGK {K : Frag} (h : X.K = K := by rfl) : CallR X (.builtin "isinstance") (fun xs H Q => ∃ (a C : Addr) (fs : List (Str × V)) (c : V) (u : Value) (b : Bool), xs = [.ref a, c] ∧ ErrG H a C fs ∧ ExcK K C ∧ (∀ u', RelV c u' → u' = u) ∧ kitOne K (.ref C) u = some b ∧ Q (.bl b) H) := h ▸ call_isinstG
theorem call_isinstTK {K : Frag} (h : X.K = K := by rfl) : CallR X (.builtin "isinstance") (fun xs H Q => ∃ (a C p : Addr) (fs : List (Str × V)) (cs : List Addr) (b : Bool), xs = [.ref a, .ref p] ∧ ErrG H a C fs ∧ ExcK K C ∧ H p = some (.tup (cs.map V.ref)) ∧ kitAny K (.ref C) (cs.map Value.ref) = some b ∧ Q (.bl b) H) := h ▸ call_isinstT
end
end L2

set_option Elab.async false
set_option linter.all false
set_option maxRecDepth 100000
set_option maxHeartbeats 4000000
/-! y = [.. for a, b in ..] -/
namespace L2
open PySem PySem.Spec PyProof.Rows
section
variable {X : Cx}
theorem comp_core {elt iter tg : Expr} {x : Str} {more : List Str} {g : TG} {ifs : List Expr} {scope : Scope} {pos : Pos} {wi : TI} {fs : List Str} {fr : List Nat} {tt : TT} {te : TE} {use : Option (Value → Sem Unit)} {R : Value → Shared → Prop} {pins : List (Addr × Obj)} {s : Shared} {σ : St} {H : Hp} {Q : VK} {pos2 : Pos} (hc : X.calm = true) (ST : CompScT X scope x more fs fr) (hi : PI X tg iter wi) (hg : ∀ C s H ex, PG (compX X (x :: more ++ fs) scope C s H ex) tg g)
    (ht : ∀ C s H ex, CT (compX X (x :: more ++ fs) scope C s H ex) ifs tt) (he : ∀ C s H ex, PE (compX X (x :: more ++ fs) scope C s H ex) elt te) (hs : ∀ z, foldedSetIterable iter X.env z = pure z)
    (I : Inv X pins σ H s) (h : tCompT wi (more.length + 1) fr g tt te σ H Q)
    (hfin : ∀ (D C : Addr) (s' : Shared) (H' : Hp) (ys : List V) (vs : List Value) (k : Nat) (m : Str → Option Value), Inv X pins σ H' s' → D < C → X.s₀.heap.objs.size ≤ D → X.env.locals < D → (∀ y c, X.env.cells.lookup y = some c → c < D) → (∀ p ∈ X.pn ++ pins, p.1 < D) →
      s'.heap.get? D = some (lobj vs k) → H' D = none → H' C = none → s'.heap.Ns C m → Vals ys vs → ys.length ≤ sizeLine → (∀ l, H' l = none → Q (.ref l) (upd H' l (.lst ys))) → compPost (model X.prog X.w) X.A X.xe use R (.ref D) C (.ok .next) s') :
    wpAny (model X.prog X.w) X.A (comprehension (.ListComp elt [⟨tg, iter, ifs, 0⟩] scope pos) scope X.env pos2 (newList []) false (eval iter X.env) use) R X.xe s := by
  have S := ST.one
  refine wpAny_comprehension_free (use := use) rfl hs (closureFor_some fun n hn => I.ok.has n (.inl (S.free n hn).1)) S.kind S.names ?_
  refine thn (hi pins s σ H _ I h) fun v s1 h1 => thn h1 fun itv s2 h2 => ?_
  obtain ⟨it, fp, tn, J, H2, e, I2, T, st2, f2, W, ⟨m0, w0⟩, turn⟩ := h2
  subst e
  have hlt : ∀ b ∈ fp, b < s2.heap.objs.size := fun b hb => by
    obtain ⟨o, e, _⟩ := T.obj 0 _ st2 b hb
    exact Heap.lt_size e
  refine wpAny_newObj_type (wpAny_newFunctionEnv S.nocell (by intro y hy; simp at hy) (fun h4 hns4 hsb4 => ?_) S.kind)
  dsimp only at hns4 hsb4 ⊢
  generalize hH3 : s2.heap.push { cls := .type "list", dict := none, data := .seq ([] : List Value).toArray } = g3 at hns4 hsb4 ⊢
  have hC : g3.objs.size = s2.heap.objs.size + 1 := by rw [← hH3, Heap.size_push]
  have old3 : ∀ b o, s2.heap.get? b = some o → g3.get? b = some o := fun b o e => hH3 ▸ Heap.get?_push_of_some _ e
  have I3 : Inv X pins σ H2 { s2 with heap := g3 } := I2.kept (t' := s2.toks) old3
  have acc3 : g3.get? s2.heap.objs.size = some (lobj [] 0) := hH3 ▸ Heap.get?_push_size _ rfl
  have old4 : ∀ b o, g3.get? b = some o → h4.get? b = some o := fun b o e => hsb4.extBut b o (Nat.ne_of_lt (Heap.lt_size e)) (Heap.get?_push_of_some _ e)
  have ok1 := comp_ok (s := { s2 with heap := g3 }) (D := s2.heap.objs.size) (fp := fp) S I2 I3 rfl hC hlt f2
  have ok := ok_names (x :: more ++ fs) ok1
  have I4 := comp_invT (t := s2.toks + ([] : List (Str × Value)).length) ST I3 ok1 hns4 old4
  -- what stays true of the list's place and the iterator's
  have dne := ok.exf s2.heap.objs.size List.mem_cons_self
  have dnf := ok.exfs s2.heap.objs.size List.mem_cons_self
  have fpok : ∀ {H' : Hp} {vs : List Value} {k : Nat}, (∀ b ∈ fp, H' b = none) → ∀ b ∈ fp, FpOk (compX X (x :: more ++ fs) scope g3.objs.size { s2 with heap := g3 } H2 (s2.heap.objs.size :: fp)) [(s2.heap.objs.size, lobj vs k)] H' b := fun {H' vs k} hn b hb => by
    have q := ok.exf b (List.mem_cons_of_mem _ hb)
    refine ⟨hn b hb, q.1, ok.exfs b (List.mem_cons_of_mem _ hb), .inl (List.mem_cons_of_mem _ hb), q.2, fun p hp => ?_⟩
    have e : p = (s2.heap.objs.size, lobj vs k) := by simpa using hp
    rw [e]
    exact Nat.ne_of_gt (hlt b hb)
  have start : Inv (compX X (x :: more ++ fs) scope g3.objs.size { s2 with heap := g3 } H2 (s2.heap.objs.size :: fp)) [(s2.heap.objs.size, lobj [] 0)] (List.replicate (more.length + 1) none ++ slotsOf fr σ) H2 { s2 with heap := h4, toks := s2.toks + ([] : List (Str × Value)).length } :=
    I4.pins_of fun p hp => by
      have e : p = (s2.heap.objs.size, lobj [] 0) := by simpa using hp
      subst e
      exact ⟨old4 _ _ acc3, I2.hok.fresh (Nat.le_refl _), dne.1, dnf, fun v z => by cases z⟩
  have stn : tn 0 h4 := T.keep 0 _ _ st2 fun b _ o e => old4 b o (old3 b o e)
  -- the end of the block
  have fin : ∀ {i : Nat} {σ0 : St} {H' : Hp} {ys : List V} {vs : List Value} {k : Nat} {s' : Shared}, Inv (compX X (x :: more ++ fs) scope g3.objs.size { s2 with heap := g3 } H2 (s2.heap.objs.size :: fp)) [(s2.heap.objs.size, lobj vs k)] (σ0 ++ slotsOf fr σ) H' s' → Vals ys vs → ys.length ≤ sizeLine →
      (∀ l, H' l = none → Q (.ref l) (upd H' l (.lst ys))) → compPost (model X.prog X.w) X.A X.xe use R (.ref s2.heap.objs.size) g3.objs.size (.ok .next) s' := by
    intro i σ0 H' ys vs k s' J1 rv hz q
    obtain ⟨m, hn, _⟩ := id J1.loc
    have below : ∀ y c, X.env.cells.lookup y = some c → c < s2.heap.objs.size := fun y c z => by
      obtain ⟨v, q⟩ := I2.cell y c z
      exact q.lt
    have pbelow : ∀ p ∈ X.pn ++ pins, p.1 < s2.heap.objs.size := fun p hp => Heap.lt_size (I2.pin p hp).1
    have I5 : Inv X pins σ H' s' := I3.call' (ch := s2.heap.objs.size :: fp) J1.os J1.base J1.hok J1.bare fun b hb => by
      rcases List.mem_cons.mp hb with e | hb
      · rw [e]
        exact ⟨.inr I2.sz, Nat.ne_of_gt I2.lt, fun y c z => Nat.ne_of_lt (below y c z), fun p hp => Nat.ne_of_lt (pbelow p hp)⟩
      · exact ⟨(f2 b hb).2.2.2.1, (f2 b hb).2.1, (f2 b hb).2.2.2.2.1, (f2 b hb).2.2.2.2.2⟩
    have szC : s2.heap.objs.size < g3.objs.size := by (first | lia | omega)
    obtain ⟨eD, nD, _⟩ := J1.pin (s2.heap.objs.size, lobj vs k) (by simp)
    exact hfin _ _ s' H' ys vs k m I5 szC I2.sz I2.lt below pbelow eD nD J1.free hn rv hz q
  have loop : ∀ s4 : Shared, s4 = { s2 with heap := h4, toks := s2.toks + ([] : List (Str × Value)).length } →
      codeAny (model X.prog X.w) X.A (.compLoop (.ListComp elt [⟨tg, iter, ifs, 0⟩] scope pos) 0 (.ref it) (.ref s2.heap.objs.size) (compEnvC scope (clOf scope X.env) g3.objs.size X.env))
        (compPost (model X.prog X.w) X.A X.xe use R (.ref s2.heap.objs.size) g3.objs.size) s4 := by
    rintro s4 rfl
    refine comp_loopT (fun n s' => ∃ i σ0 H' ys vs k, σ0.length = more.length + 1 ∧ Inv (compX X (x :: more ++ fs) scope g3.objs.size { s2 with heap := g3 } H2 (s2.heap.objs.size :: fp)) [(s2.heap.objs.size, lobj vs k)] (σ0 ++ slotsOf fr σ) H' s' ∧ tn i s'.heap ∧ (∀ b ∈ fp, H' b = none) ∧ Vals ys vs ∧ W i n ys H') ?_ m0
      ⟨0, List.replicate (more.length + 1) none, H2, [], [], 0, List.length_replicate, start, stn, fun b hb => (f2 b hb).1, .nil, w0⟩
    rintro n s' ⟨i, σ0, H', ys, vs, k, h0, J1, st, fr1, rv, w1⟩
    rcases turn i n ys H' w1 with ⟨stop, hz, q⟩ | ⟨go, hz, step⟩
    · refine thn (T.done (compX X (x :: more ++ fs) scope g3.objs.size { s2 with heap := g3 } H2 (s2.heap.objs.size :: fp)) rfl rfl rfl hc i _ s' _ H' _ J1 (fpok fr1) st stop) fun r s5 hz49 => ?_
      obtain ⟨hr, J2⟩ := hz49
      subst hr
      exact fin (i := i) J2 rv hz q
    · refine thn (T.item (compX X (x :: more ++ fs) scope g3.objs.size { s2 with heap := g3 } H2 (s2.heap.objs.size :: fp)) rfl rfl rfl hc i _ s' _ H' _ J1 (fpok fr1) st go) fun r s5 hz50 => ?_
      obtain ⟨u, hr, h5⟩ := hz50
      subst hr
      refine thn h5 fun _ s6 hz51 => ?_
      obtain ⟨v, H6, J6, r6, y6, st6, fr6⟩ := hz51
      have J6' := J6.pinned (fp := fp) (fpok fr6) (T.obj _ _ st6)
      refine wpAny_mono (hg _ _ _ _ _ s6 _ H6 v u _ J6' r6 (step v H6 y6 σ0 h0)) (fun _ s7 hz52 => ?_) (fun _ _ z => z.elim)
      obtain ⟨σ7, H7, J7, own, e7, l7, q7⟩ := hz52
      subst e7
      have pfp : ∀ {σ8 : St} {H8 : Hp} {s8 : Shared}, Inv (compX X (x :: more ++ fs) scope g3.objs.size { s2 with heap := g3 } H2 (s2.heap.objs.size :: fp)) ([(s2.heap.objs.size, lobj vs k)] ++ pinsAt fp s6.heap) σ8 H8 s8 →
          tn (i + 1) s8.heap ∧ ∀ b ∈ fp, H8 b = none := fun {σ8 H8 s8} J8 => by
        refine ⟨T.keep _ _ _ st6 fun b hb o e => (J8.pin (b, o) (List.mem_append_right _ (List.mem_append_right _ (mem_pinsAt hb e)))).1, fun b hb => ?_⟩
        obtain ⟨o, e, d⟩ := T.obj _ _ st6 b hb
        exact (J8.pin (b, o) (List.mem_append_right _ (List.mem_append_right _ (mem_pinsAt hb e)))).2.1
      refine wpAny_mono (ht _ _ _ _ _ s7 _ H7 _ J7 q7) (fun ok8 s8 hz53 => ?_) (fun _ _ z => z.elim)
      obtain ⟨H8, J8, q8⟩ := hz53
      cases ok8 with
      | false =>
        rw [if_neg Bool.false_ne_true] at q8
        rw [if_neg Bool.false_ne_true]
        obtain ⟨m', hm, w8⟩ := q8
        obtain ⟨t8, n8⟩ := pfp J8
        exact ⟨m', hm, i + 1, own, H8, ys, vs, k, l7, J8.unpinned, t8, n8, rv, w8⟩
      | true =>
        rw [if_pos rfl] at q8
        rw [if_pos rfl]
        refine wpAny_mono (he _ _ _ _ _ s8 _ H8 _ J8 q8) (fun y s9 hz54 => ?_) (fun _ _ z => z.elim)
        obtain ⟨yv, H9, J9, r9, m', hm, w9⟩ := hz54
        obtain ⟨t9, n9⟩ := pfp J9
        obtain ⟨eD, nD, _⟩ := J9.pin (s2.heap.objs.size, lobj vs k) (by simp)
        have hl := rv.length
        refine call_meets F.slot_list_append ⟨_, eD, rfl⟩ F.entry_list_append (F.args_list_append_2 _ _) (PySem.list_append s2.heap.objs.size vs.toArray k y (by rw [List.size_toArray]; (first | lia | omega))) ⟨eD, ?_⟩
        have eN := PySem.IsL.update (h := s9.heap) (l := s2.heap.objs.size) (items := vs.toArray) (n := k) eD (·.push y)
        have eV : vs.toArray.push y = (vs ++ [y]).toArray := by simp
        rw [eV] at eN
        obtain ⟨k', eN⟩ : ∃ k', (s9.heap.update s2.heap.objs.size (Obj.mapSeq (·.push y))).get? s2.heap.objs.size = some (lobj (vs ++ [y]) k') := ⟨_, eN⟩
        have K9 : Inv (compX X (x :: more ++ fs) scope g3.objs.size { s2 with heap := g3 } H2 (s2.heap.objs.size :: fp)) [] (own ++ slotsOf fr σ) H9 s9 := J9.pins_of fun p hp => absurd hp (by simp)
        have K10 : Inv (compX X (x :: more ++ fs) scope g3.objs.size { s2 with heap := g3 } H2 (s2.heap.objs.size :: fp)) [] (own ++ slotsOf fr σ) H9 { s9 with heap := s9.heap.update s2.heap.objs.size (Obj.mapSeq (·.push y)) } :=
          K9.turned (t' := s9.toks) (it := s2.heap.objs.size) (fun b o hb e => (Heap.get?_update_other s9.heap (Obj.mapSeq (·.push y)) (Ne.symm hb)).trans e) nD dne.1 (.inl List.mem_cons_self) dne.2 (fun p hp => absurd hp (by simp))
        refine ⟨m', hm, i + 1, own, H9, ys ++ [yv], vs ++ [y], k', l7, K10.pins_of fun p hp => ?_, T.keep _ _ _ t9 fun b hb o e => (Heap.get?_update_other s9.heap (Obj.mapSeq (·.push y)) (Nat.ne_of_gt (hlt b hb))).trans e, n9, rv.append (.cons r9 .nil), w9⟩
        have e : p = (s2.heap.objs.size, lobj (vs ++ [y]) k') := List.mem_singleton.mp hp
        rw [e]
        exact ⟨eN, nD, dne.1, dnf, fun v z => by cases z⟩
  exact codeAny_compStart_list (loop _ rfl) (T.self X.A 0 _ _ _ stn (loop _ rfl))
theorem pe_compGT {elt iter tg : Expr} {x : Str} {more : List Str} {g : TG} {ifs : List Expr} {scope : Scope} {pos : Pos} {wi : TI} {fs : List Str} {fr : List Nat} {tt : TT} {te : TE} (hc : X.calm = true) (ST : CompScT X scope x more fs fr) (hi : PI X tg iter wi) (hg : ∀ C s H ex, PG (compX X (x :: more ++ fs) scope C s H ex) tg g)
    (ht : ∀ C s H ex, CT (compX X (x :: more ++ fs) scope C s H ex) ifs tt) (he : ∀ C s H ex, PE (compX X (x :: more ++ fs) scope C s H ex) elt te) (hs : ∀ z, foldedSetIterable iter X.env z = pure z := by intro _; rfl) :
    PE X (.ListComp elt [⟨tg, iter, ifs, 0⟩] scope pos) (tCompT wi (more.length + 1) fr g tt te) := by
  intro pins s σ H Q I h
  rw [eval_ListComp]
  refine comp_core hc ST hi hg ht he hs I h ?_
  intro D C s' H' ys vs k m I5 szC lo lt below pbelow eD nD nC hn rv hz q
  refine ⟨m, hn, fun h' sb => ?_⟩
  have I6 : Inv X pins σ H' { s' with heap := h' } := I5.turned (t' := s'.toks) (it := C) (fun b o hb e => sb.extBut b o hb e) nC (Nat.ne_of_gt (Nat.lt_trans lt szC)) (.inr (Nat.le_of_lt (Nat.lt_of_le_of_lt lo szC))) (fun y c z => Nat.ne_of_lt (Nat.lt_trans (below y c z) szC)) (fun p hp => Nat.ne_of_lt (Nat.lt_trans (pbelow p hp) szC))
  have eD' : h'.get? D = some (lobj vs k) := sb.extBut _ _ (Nat.ne_of_lt szC) eD
  exact ⟨.ref D, _, I6.adopt nD eD' rv hz lo (Nat.ne_of_gt lt) (fun y c z => Nat.ne_of_lt (below y c z)) (fun p hp => Nat.ne_of_lt (pbelow p hp)), rfl, q _ nD⟩
theorem ps_setCompGT {elt iter tg : Expr} {x y : Str} {py spos : Pos} {j : Nat} {more : List Str} {g : TG} {ifs : List Expr} {scope : Scope} {pos : Pos} {wi : TI} {fs : List Str} {fr : List Nat} {tt : TT} {te : TE} (hN : X.N.Nodup) (hj : X.N[j]? = some y) (hy : X.env.scope.names.lookup y = some .local) (hc : X.calm = true) (ST : CompScT X scope x more fs fr) (hi : PI X tg iter wi) (hg : ∀ C s H ex, PG (compX X (x :: more ++ fs) scope C s H ex) tg g)
    (ht : ∀ C s H ex, CT (compX X (x :: more ++ fs) scope C s H ex) ifs tt) (he : ∀ C s H ex, PE (compX X (x :: more ++ fs) scope C s H ex) elt te) (hs : ∀ z, foldedSetIterable iter X.env z = pure z := by intro _; rfl)
    (hsw : swapsWith (.ListComp elt [⟨tg, iter, ifs, 0⟩] scope pos) (some (.Name y py)) spos.line X.env = pure true := by rfl) : PS X (.Assign [.Name y py] (.ListComp elt [⟨tg, iter, ifs, 0⟩] scope pos) spos) (tSetC j (tCompT wi (more.length + 1) fr g tt te)) := by
  intro pins s σ H D I h
  obtain ⟨Q, eQ⟩ : ∃ Q : VK, Q = fun v H1 => D.nx (σ.set j (some v)) H1 := ⟨_, rfl⟩
  have h : tCompT wi (more.length + 1) fr g tt te σ H Q := by rw [eQ]; exact h
  have S := ST.one
  rw [exec_Assign_Name_used _ _ _ _ hsw]
  refine wpAny_bind (wpAny_standAt (wpAny_bind ?_))
  show wpAny _ _ (comprehension (.ListComp elt [⟨tg, iter, ifs, 0⟩] scope pos) scope X.env _ (newList []) false (eval iter X.env) (some (assign (.Name y py) X.env)) >>= fun _ => pure ()) _ _ s
  refine wpAny_bind (wpAny_mono (comp_core (Q := Q) (R := fun _ s' => SP X pins D .next s') hc ST hi hg ht he hs I h ?_) (fun _ s' hq => wpAny_pure (wpAny_pure hq)) fun _ _ e => e)
  intro D1 C s' H' ys vs k m I5 szC lo lt below pbelow eD nD nC hn rv hz q
  have I7 := I5.adopt nD eD rv hz lo (Nat.ne_of_gt lt) (fun y c z => Nat.ne_of_lt (below y c z)) (fun p hp => Nat.ne_of_lt (pbelow p hp))
  refine wpAny_assign_Name (store_ok2 (v := .ref D1) I7 hN hj (.inl hy) rfl (fun s3 I8 hz1 => ?_) (.inr hy))
  obtain ⟨a, sb, ha⟩ := hz1
  refine ⟨m, hn.sameBut sb ?_, fun h' sb' => ?_⟩
  · rcases ha with e | e
    · rw [e]
      exact Nat.ne_of_gt (Nat.lt_trans lt szC)
    · exact Nat.ne_of_gt (Nat.lt_trans (below _ _ e) szC)
  · have nC2 : upd H' D1 (.lst ys) C = none := by
      rw [upd_ne (Nat.ne_of_gt szC)]
      exact nC
    have I9 : Inv X pins (σ.set j (some (.ref D1))) (upd H' D1 (.lst ys)) { s3 with heap := h' } := I8.turned (t' := s3.toks) (it := C) (fun b o hb e => sb'.extBut b o hb e) nC2 (Nat.ne_of_gt (Nat.lt_trans lt szC)) (.inr (Nat.le_of_lt (Nat.lt_of_le_of_lt lo szC)))
      (fun y c z => Nat.ne_of_lt (Nat.lt_trans (below y c z) szC)) (fun p hp => Nat.ne_of_lt (Nat.lt_trans (pbelow p hp) szC))
    have q' := q _ nD
    rw [eQ] at q'
    exact ⟨_, _, I9, q'⟩
theorem ps_setCompT {elt iter tg : Expr} {x y : Str} {py spos : Pos} {j : Nat} {more : List Str} {g : TG} {scope : Scope} {pos : Pos} {wi : TI} {fs : List Str} {fr : List Nat} {te : TE} (hN : X.N.Nodup) (hj : X.N[j]? = some y) (hy : X.env.scope.names.lookup y = some .local) (hc : X.calm = true) (S : CompScT X scope x more fs fr) (hi : PI X tg iter wi) (hg : ∀ C s H ex, PG (compX X (x :: more ++ fs) scope C s H ex) tg g)
    (he : ∀ C s H ex, PE (compX X (x :: more ++ fs) scope C s H ex) elt te) (hs : ∀ z, foldedSetIterable iter X.env z = pure z := by intro _; rfl)
    (hsw : swapsWith (.ListComp elt [⟨tg, iter, [], 0⟩] scope pos) (some (.Name y py)) spos.line X.env = pure true := by rfl) :
    PS X (.Assign [.Name y py] (.ListComp elt [⟨tg, iter, [], 0⟩] scope pos) spos) (tSetC j (tCompT wi (more.length + 1) fr g tTrue te)) := ps_setCompGT hN hj hy hc S hi hg (fun _ _ _ _ => ct_nil) he hs hsw
theorem tComp_one (wi : TI) (fr : List Nat) (tt : TT) (te : TE) : tComp wi fr tt te = tCompT wi 1 fr (gName 0) tt te := by
  funext σ H Q
  unfold tComp tCompT
  congr 1
  funext J H1
  refine propext (exists_congr fun W => and_congr_right fun _ => ?_)
  refine forall_congr' fun i => forall_congr' fun m => forall_congr' fun ys => forall_congr' fun H2 => forall_congr' fun _ => ?_
  refine or_congr Iff.rfl (and_congr_right fun _ => and_congr_right fun _ => forall_congr' fun v => forall_congr' fun H3 => forall_congr' fun _ => ?_)
  constructor
  · intro h own ho
    obtain ⟨o, rfl⟩ := List.length_eq_one_iff.mp ho
    exact ⟨[some v], rfl, rfl, h⟩
  · intro h
    obtain ⟨o4, e, l, q⟩ := h [none] rfl
    exact q
theorem pe_compG {elt iter : Expr} {x : Str} {px : Pos} {ifs : List Expr} {scope : Scope} {pos : Pos} {wi : TI} {fs : List Str} {fr : List Nat} {tt : TT} {te : TE} (hc : X.calm = true) (S : CompSc X scope x fs fr) (hi : PI X (.Name x px) iter wi)
    (ht : ∀ C s H ex, CT (compX X (x :: fs) scope C s H ex) ifs tt) (he : ∀ C s H ex, PE (compX X (x :: fs) scope C s H ex) elt te) (hs : ∀ z, foldedSetIterable iter X.env z = pure z := by intro _; rfl) :
    PE X (.ListComp elt [⟨.Name x px, iter, ifs, 0⟩] scope pos) (tComp wi fr tt te) := by
  rw [tComp_one]
  exact pe_compGT (more := []) hc ⟨S, S.nd⟩ hi (fun C s H ex => pg_name (i := 0) S.nd rfl (Or.inl (lookup_relabel_local S.loc)) (.inr (lookup_relabel_local S.loc))) ht he hs
theorem pe_comp {elt iter : Expr} {x : Str} {px : Pos} {scope : Scope} {pos : Pos} {wi : TI} {fs : List Str} {fr : List Nat} {te : TE} (hc : X.calm = true) (S : CompSc X scope x fs fr) (hi : PI X (.Name x px) iter wi)
    (he : ∀ C s H ex, PE (compX X (x :: fs) scope C s H ex) elt te) (hs : ∀ z, foldedSetIterable iter X.env z = pure z := by intro _; rfl) :
    PE X (.ListComp elt [⟨.Name x px, iter, [], 0⟩] scope pos) (tComp wi fr tTrue te) := pe_compG hc S hi (fun _ _ _ _ => ct_nil) he hs
theorem pe_compIf {elt iter c : Expr} {x : Str} {px : Pos} {scope : Scope} {pos : Pos} {wi : TI} {fs : List Str} {fr : List Nat} {tc : TT} {te : TE} (hc : X.calm = true) (S : CompSc X scope x fs fr) (hi : PI X (.Name x px) iter wi)
    (ht : ∀ C s H ex, PT (compX X (x :: fs) scope C s H ex) c tc) (he : ∀ C s H ex, PE (compX X (x :: fs) scope C s H ex) elt te) (hs : ∀ z, foldedSetIterable iter X.env z = pure z := by intro _; rfl) :
    PE X (.ListComp elt [⟨.Name x px, iter, [c], 0⟩] scope pos) (tComp wi fr tc te) := pe_compG hc S hi (fun C s H ex => ct_one (ht C s H ex)) he hs
theorem ps_setCompG {elt iter : Expr} {x y : Str} {px py spos : Pos} {ifs : List Expr} {scope : Scope} {pos : Pos} {wi : TI} {fs : List Str} {fr : List Nat} {tt : TT} {te : TE} {j : Nat} (hN : X.N.Nodup) (hj : X.N[j]? = some y) (hy : X.env.scope.names.lookup y = some .local)
    (hc : X.calm = true) (S : CompSc X scope x fs fr) (hi : PI X (.Name x px) iter wi)
    (ht : ∀ C s H ex, CT (compX X (x :: fs) scope C s H ex) ifs tt) (he : ∀ C s H ex, PE (compX X (x :: fs) scope C s H ex) elt te) (hs : ∀ z, foldedSetIterable iter X.env z = pure z := by intro _; rfl)
    (hsw : swapsWith (.ListComp elt [⟨.Name x px, iter, ifs, 0⟩] scope pos) (some (.Name y py)) spos.line X.env = pure true := by rfl) :
    PS X (.Assign [.Name y py] (.ListComp elt [⟨.Name x px, iter, ifs, 0⟩] scope pos) spos) (tSetC j (tComp wi fr tt te)) := by
  rw [tComp_one]
  exact ps_setCompGT (more := []) hN hj hy hc ⟨S, S.nd⟩ hi (fun C s H ex => pg_name (i := 0) S.nd rfl (Or.inl (lookup_relabel_local S.loc)) (.inr (lookup_relabel_local S.loc))) ht he hs hsw
theorem ps_setComp {elt iter : Expr} {x y : Str} {px py spos : Pos} {scope : Scope} {pos : Pos} {wi : TI} {fs : List Str} {fr : List Nat} {te : TE} {j : Nat} (hN : X.N.Nodup) (hj : X.N[j]? = some y) (hy : X.env.scope.names.lookup y = some .local)
    (hc : X.calm = true) (S : CompSc X scope x fs fr) (hi : PI X (.Name x px) iter wi)
    (he : ∀ C s H ex, PE (compX X (x :: fs) scope C s H ex) elt te) (hs : ∀ z, foldedSetIterable iter X.env z = pure z := by intro _; rfl)
    (hsw : swapsWith (.ListComp elt [⟨.Name x px, iter, [], 0⟩] scope pos) (some (.Name y py)) spos.line X.env = pure true := by rfl) :
    PS X (.Assign [.Name y py] (.ListComp elt [⟨.Name x px, iter, [], 0⟩] scope pos) spos) (tSetC j (tComp wi fr tTrue te)) := ps_setCompG hN hj hy hc S hi (fun _ _ _ _ => ct_nil) he hs hsw
end
end L2

set_option linter.all false
/-! A question's words: the automaton (word by word) and the descent (head, atom, atom, ..) tell the same. -/
namespace P4
section
variable {α : Type} [DecidableEq α] (V T : α → Bool) (cl cm : α)
inductive S4 where
  | head (n : Nat)
  | name (a : Nat)
  | terms (n a : Nat)
deriving DecidableEq
noncomputable def may (w : α) : S4 → Option S4
  | .head n => if w = cl then some (.name 0) else if T w = true ∧ n < 4 then some (.head (n + 1)) else none
  | .name a => if V w = true then some (.terms 0 (a + 1)) else none
  | .terms n a => if w = cm ∧ 0 < n ∧ a < 8 then some (.name a) else if T w = true ∧ n < 4 then some (.terms (n + 1) a) else none
noncomputable def run : S4 → List α → Nat → Nat ⊕ S4
  | st, [], _ => .inr st
  | st, w :: r, k => match may V T cl cm w st with
    | none => .inl k
    | some st' => run st' r (k + 1)
noncomputable def okS : S4 → Bool
  | .terms n _ => decide (0 < n)
  | _ => false
noncomputable def fin (e : Nat) : Nat ⊕ S4 → Option Nat
  | .inl k => some k
  | .inr st => if okS st = true then none else some e
noncomputable def hdP : Nat → List α → Nat ⊕ Nat
  | k, [] => .inl k
  | k, w :: r => if w = cl then .inr k else if k = 4 ∨ T w = false then .inl k else hdP (k + 1) r
noncomputable def lead : Nat → List α → Nat
  | 0, _ => 0
  | _ + 1, [] => 0
  | m + 1, w :: r => if T w = true then lead m r + 1 else 0
theorem lead_le : ∀ (m : Nat) (r : List α), lead T m r ≤ m ∧ lead T m r ≤ r.length
  | 0, r => ⟨Nat.le_refl _, Nat.zero_le _⟩
  | m + 1, [] => ⟨Nat.zero_le _, Nat.zero_le _⟩
  | m + 1, w :: r => by
    unfold lead
    split
    · have := lead_le m r
      rw [List.length_cons]
      (first | lia | omega)
    · exact ⟨Nat.zero_le _, Nat.zero_le _⟩
noncomputable def atP (k : Nat) : List α → Nat ⊕ (α × List α)
  | [] => .inl k
  | w :: r => if V w = false then .inl k else if lead T 4 r = 0 then .inl (k + 1) else .inr (w, r.take (lead T 4 r))
noncomputable def atsP (fuel : Nat) (a k : Nat) (r : List α) : Nat ⊕ List (α × List α) := match fuel with
  | 0 => .inl k
  | fuel + 1 => match atP V T k r with
    | .inl j => .inl j
    | .inr (w, ts) => match r.drop (1 + ts.length) with
      | [] => .inr [(w, ts)]
      | x :: r3 => if x ≠ cm ∨ a + 1 = 8 then .inl (k + 1 + ts.length) else match atsP fuel (a + 1) (k + 1 + ts.length + 1) r3 with
        | .inl j => .inl j
        | .inr l => .inr ((w, ts) :: l)
noncomputable def inter : List (α × List α) → List α
  | [] => []
  | [(w, ts)] => w :: ts
  | (w, ts) :: b :: l => (w :: ts) ++ cm :: inter (b :: l)
noncomputable def GoodA (b : α × List α) : Prop := V b.1 = true ∧ 0 < b.2.length ∧ b.2.length ≤ 4 ∧ ∀ t ∈ b.2, T t = true
variable {V T cl cm}
theorem run_some {w : α} {st st' : S4} {r : List α} {k : Nat} (h : may V T cl cm w st = some st') : run V T cl cm st (w :: r) k = run V T cl cm st' r (k + 1) := by
  rw [run, h]
theorem run_none {w : α} {st : S4} {r : List α} {k : Nat} (h : may V T cl cm w st = none) : run V T cl cm st (w :: r) k = .inl k := by
  rw [run, h]
theorem at_no {w : α} {r : List α} {k : Nat} (q : V w = false) : atP V T k (w :: r) = .inl k := by
  show (if V w = false then Sum.inl k else _) = _
  rw [if_pos q]
theorem at_yes {w : α} {r : List α} {k : Nat} (q : V w = true) : atP V T k (w :: r) = if lead T 4 r = 0 then .inl (k + 1) else .inr (w, r.take (lead T 4 r)) := by
  show (if V w = false then Sum.inl k else _) = _
  rw [if_neg (by rw [q]; exact fun z => Bool.false_ne_true z.symm)]
noncomputable def behind (cm : α) (b : α × List α) (a k : Nat) (f : List α → Nat ⊕ List (α × List α)) : List α → Nat ⊕ List (α × List α)
  | [] => .inr [b]
  | x :: r3 => if x ≠ cm ∨ a + 1 = 8 then .inl k else match f r3 with
    | .inl j => .inl j
    | .inr l => .inr (b :: l)
theorem ats_bad {fuel a k j : Nat} {r : List α} (h : atP V T k r = .inl j) : atsP V T cm (fuel + 1) a k r = .inl j := by
  rw [atsP, h]
theorem ats_good {fuel a k : Nat} {r : List α} {w : α} {ts : List α} (h : atP V T k r = .inr (w, ts)) : atsP V T cm (fuel + 1) a k r = behind cm (w, ts) a (k + 1 + ts.length) (atsP V T cm fuel (a + 1) (k + 1 + ts.length + 1)) (r.drop (1 + ts.length)) := by
  rw [atsP, h]
  show (match r.drop (1 + ts.length) with | [] => _ | x :: r3 => _) = _
  cases r.drop (1 + ts.length) <;> rfl
theorem at_inv {k : Nat} {r : List α} {b : α × List α} (h : atP V T k r = .inr b) : ∃ r', r = b.1 :: r' ∧ b.2 = r'.take (lead T 4 r') ∧ V b.1 = true ∧ lead T 4 r' ≠ 0 := by
  cases r with
  | nil => cases h
  | cons w r =>
    by_cases q : V w = true
    · rw [at_yes q] at h
      split at h
      · cases h
      · rename_i q2
        injection h with h
        subst h
        exact ⟨r, rfl, rfl, q, q2⟩
    · rw [at_no (Bool.eq_false_iff.mpr q)] at h
      cases h
noncomputable def pre (d : List (α × List α)) : Nat ⊕ List (α × List α) → Nat ⊕ List (α × List α)
  | .inl j => .inl j
  | .inr l => .inr (d ++ l)
theorem run_lead (hm : T cm = false) : ∀ (m n a k : Nat) (r : List α), n + m = 4 → run V T cl cm (.terms n a) r k = run V T cl cm (.terms (n + lead T m r) a) (r.drop (lead T m r)) (k + lead T m r)
  | 0, n, a, k, r, h => rfl
  | m + 1, n, a, k, [], h => rfl
  | m + 1, n, a, k, w :: r, h => by
    by_cases q : T w = true
    · have e : lead T (m + 1) (w :: r) = lead T m r + 1 := if_pos q
      have nm : w ≠ cm := fun z => by
        rw [z, hm] at q
        cases q
      have e1 : run V T cl cm (.terms n a) (w :: r) k = run V T cl cm (.terms (n + 1) a) r (k + 1) := by
        refine run_some ?_
        rw [may, if_neg (fun z => nm z.1), if_pos ⟨q, by (first | lia | omega)⟩]
      rw [e1, e, run_lead hm m (n + 1) a (k + 1) r (by (first | lia | omega)), List.drop_succ_cons]
      congr 1
      · congr 1
        (first | lia | omega)
      · (first | lia | omega)
    · have e : lead T (m + 1) (w :: r) = 0 := if_neg q
      rw [e]
      rfl
theorem lead_stop : ∀ (m : Nat) (r : List α), lead T m r = m ∨ ∀ w q, r.drop (lead T m r) = w :: q → T w = false
  | 0, r => .inl rfl
  | m + 1, [] => .inr fun w q h => by
    rw [List.drop_nil] at h
    cases h
  | m + 1, w :: r => by
    by_cases q : T w = true
    · have e : lead T (m + 1) (w :: r) = lead T m r + 1 := if_pos q
      rw [e, List.drop_succ_cons]
      rcases lead_stop m r with h | h
      · exact .inl (by (first | lia | omega))
      · exact .inr h
    · have e : lead T (m + 1) (w :: r) = 0 := if_neg q
      rw [e]
      refine .inr fun x y h => ?_
      cases h
      exact Bool.eq_false_iff.mpr q
theorem lead_terms : ∀ (m : Nat) (r : List α), ∀ t ∈ r.take (lead T m r), T t = true
  | 0, r => fun t h => by
    have : r.take (lead T 0 r) = [] := rfl
    rw [this] at h
    cases h
  | m + 1, [] => fun t h => by
    rw [List.take_nil] at h
    cases h
  | m + 1, w :: r => fun t h => by
    by_cases q : T w = true
    · have e : lead T (m + 1) (w :: r) = lead T m r + 1 := if_pos q
      rw [e, List.take_succ_cons] at h
      rcases List.mem_cons.mp h with rfl | h
      · exact q
      · exact lead_terms m r t h
    · have e : lead T (m + 1) (w :: r) = 0 := if_neg q
      rw [e] at h
      cases h
theorem run_ats (hm : T cm = false) : ∀ (fuel a k : Nat) (r : List α), a < 8 → r.length < fuel → fin (k + r.length) (run V T cl cm (.name a) r k) = (match atsP V T cm fuel a k r with | .inl j => some j | .inr _ => none)
  | 0, a, k, r, ha, hf => absurd hf (Nat.not_lt_zero _)
  | fuel + 1, a, k, [], ha, hf => rfl
  | fuel + 1, a, k, w :: r, ha, hf => by
    by_cases q : V w = true
    case neg =>
      have q : V w = false := Bool.eq_false_iff.mpr q
      rw [run_none (by rw [may, if_neg (by rw [q]; exact Bool.false_ne_true)]), ats_bad (at_no q)]
      rfl
    have e1 : run V T cl cm (.name a) (w :: r) k = run V T cl cm (.terms 0 (a + 1)) r (k + 1) := run_some (by rw [may, if_pos q])
    have eP := at_yes (T := T) (r := r) (k := k) q
    rw [e1, run_lead hm 4 0 (a + 1) (k + 1) r rfl, Nat.zero_add]
    have ll := lead_le T 4 r
    have ls := lead_stop (T := T) 4 r
    generalize hn : lead T 4 r = n at ll ls eP ⊢
    rw [List.length_cons] at hf ⊢
    by_cases h0 : n = 0
    · subst h0
      rw [if_pos rfl] at eP
      have e2 : atsP V T cm (fuel + 1) a k (w :: r) = .inl (k + 1) := ats_bad eP
      rw [e2, List.drop_zero]
      cases r with
      | nil => rfl
      | cons y r =>
        have hy : T y = false := (ls.resolve_left (by (first | lia | omega))) y r rfl
        have : may V T cl cm y (.terms 0 (a + 1)) = none := by
          rw [may, if_neg (fun z => Nat.lt_irrefl _ z.2.1), if_neg (fun z => by rw [hy] at z; exact Bool.false_ne_true z.1)]
        rw [run_none this]
        rfl
    · rw [if_neg h0] at eP
      have lt : (r.take n).length = n := by rw [List.length_take]; (first | lia | omega)
      have ed : (w :: r).drop (1 + (r.take n).length) = r.drop n := by
        rw [lt, Nat.add_comm, List.drop_succ_cons]
      rw [ats_good eP, ed, lt]
      cases hd : r.drop n with
      | nil =>
        show fin _ (.inr (.terms n (a + 1))) = none
        rw [fin, okS, if_pos (decide_eq_true (by (first | lia | omega)))]
      | cons x r3 =>
        have hx : n = 4 ∨ T x = false := ls.imp id fun h => h x r3 hd
        have l3 : r3.length + 1 + n = r.length := by
          have := congrArg List.length hd
          rw [List.length_drop, List.length_cons] at this
          (first | lia | omega)
        by_cases hc : x ≠ cm ∨ a + 1 = 8
        · have : may V T cl cm x (.terms n (a + 1)) = none := by
            rw [may, if_neg (fun z => hc.elim (fun h => h z.1) fun h => by have := z.2.2; (first | lia | omega)), if_neg (fun z => hx.elim (fun h => by have := z.2; (first | lia | omega)) fun h => by rw [h] at z; exact Bool.false_ne_true z.1)]
          rw [run_none this]
          rw [behind, if_pos hc]
          rfl
        · have hc1 : x = cm := Classical.byContradiction fun h => hc (.inl h)
          have hc2 : a + 1 < 8 := by
            have : a + 1 ≠ 8 := fun h => hc (.inr h)
            (first | lia | omega)
          have : may V T cl cm x (.terms n (a + 1)) = some (.name (a + 1)) := by
            rw [may, if_pos ⟨hc1, by (first | lia | omega), hc2⟩]
          rw [run_some this]
          rw [behind, if_neg hc]
          have ih := run_ats hm fuel (a + 1) (k + 1 + n + 1) r3 hc2 (by (first | lia | omega))
          rw [show k + (r.length + 1) = k + 1 + n + 1 + r3.length by (first | lia | omega), ih]
          cases atsP V T cm fuel (a + 1) (k + 1 + n + 1) r3 <;> rfl
theorem ats_words : ∀ (fuel a k : Nat) (r : List α) (l : List (α × List α)), atsP V T cm fuel a k r = .inr l → r = inter cm l ∧ l ≠ [] ∧ ∀ b ∈ l, GoodA V T b
  | 0, a, k, r, l, h => by cases h
  | fuel + 1, a, k, [], l, h => by cases h
  | fuel + 1, a, k, w :: r, l, h => by
    cases eP : atP V T k (w :: r) with
    | inl j =>
      rw [ats_bad eP] at h
      cases h
    | inr b =>
      obtain ⟨w', ts⟩ := b
      by_cases q : V w = true
      case neg =>
        rw [at_no (Bool.eq_false_iff.mpr q)] at eP
        cases eP
      have eP' := eP
      rw [at_yes q] at eP'
      split at eP'
      · cases eP'
      · rename_i q2
        injection eP' with eP'
        injection eP' with e1 e2
        subst e1
        have ll := lead_le T 4 r
        have lt : ts.length = lead T 4 r := by
          rw [← e2, List.length_take]
          (first | lia | omega)
        have gd : GoodA V T (w, ts) := ⟨q, by show 0 < ts.length; (first | lia | omega), by show ts.length ≤ 4; (first | lia | omega), by rw [← e2]; exact lead_terms 4 r⟩
        rw [ats_good eP] at h
        have ed : (w :: r).drop (1 + ts.length) = r.drop ts.length := by rw [Nat.add_comm, List.drop_succ_cons]
        have er : w :: r = (w :: ts) ++ r.drop ts.length := by
          rw [List.cons_append]
          congr 1
          have : ts = r.take ts.length := by rw [lt]; exact e2.symm
          conv => lhs; rw [← List.take_append_drop ts.length r]
          rw [← this]
        rw [ed] at h
        cases hd : r.drop ts.length with
        | nil =>
          rw [hd] at h er
          rw [List.append_nil] at er
          injection h with h
          subst h
          exact ⟨er, by simp, fun b hb => by rw [List.mem_singleton.mp hb]; exact gd⟩
        | cons x r3 =>
          rw [hd] at h er
          rw [behind] at h
          split at h
          · cases h
          · rename_i hc
            have hc1 : x = cm := Classical.byContradiction fun z => hc (.inl z)
            cases e3 : atsP V T cm fuel (a + 1) (k + 1 + ts.length + 1) r3 with
            | inl j =>
              rw [e3] at h
              cases h
            | inr l2 =>
              rw [e3] at h
              injection h with h
              subst h
              obtain ⟨i1, i2, i3⟩ := ats_words fuel (a + 1) _ r3 l2 e3
              refine ⟨?_, by simp, fun b hb => ?_⟩
              · rw [er, i1, hc1]
                cases l2 with
                | nil => exact absurd rfl i2
                | cons b l => rfl
              · rcases List.mem_cons.mp hb with rfl | hb
                · exact gd
                · exact i3 b hb
theorem run_hd (hc : T cl = false) : ∀ (k : Nat) (r : List α), k ≤ 4 → (match hdP T cl k r with
    | .inl j => fin (k + r.length) (run V T cl cm (.head k) r k) = some j
    | .inr j => k ≤ j ∧ j ≤ 4 ∧ r[j - k]? = some cl ∧ (∀ t ∈ r.take (j - k), T t = true) ∧ run V T cl cm (.head k) r k = run V T cl cm (.name 0) (r.drop (j - k + 1)) (j + 1))
  | k, [], h => rfl
  | k, w :: r, h => by
    unfold hdP
    by_cases q : w = cl
    · rw [if_pos q]
      refine ⟨Nat.le_refl _, h, (by rw [Nat.sub_self, q]; rfl), (by rw [Nat.sub_self]; intro t z; cases z), ?_⟩
      have : may V T cl cm w (.head k) = some (.name 0) := by
        rw [may, if_pos q]
      rw [run_some this, Nat.sub_self]
      rfl
    · rw [if_neg q]
      by_cases q2 : k = 4 ∨ T w = false
      · rw [if_pos q2]
        have : may V T cl cm w (.head k) = none := by
          rw [may, if_neg q, if_neg (fun z => q2.elim (fun e => by have := z.2; (first | lia | omega)) fun e => by rw [e] at z; exact Bool.false_ne_true z.1)]
        show fin _ (run V T cl cm (.head k) (w :: r) k) = some k
        rw [run_none this]
        rfl
      · rw [if_neg q2]
        have k4 : k < 4 := by
          have : k ≠ 4 := fun z => q2 (.inl z)
          (first | lia | omega)
        have tw : T w = true := by
          cases e : T w with
          | true => rfl
          | false => exact absurd (.inr e) q2
        have : may V T cl cm w (.head k) = some (.head (k + 1)) := by
          rw [may, if_neg q, if_pos ⟨tw, k4⟩]
        have ih := run_hd hc (k + 1) r (by (first | lia | omega))
        rw [run_some this]
        show (match hdP T cl (k + 1) r with | .inl j => _ | .inr j => _)
        cases hh : hdP T cl (k + 1) r with
        | inl j =>
          rw [hh] at ih
          show fin (k + (r.length + 1)) (run V T cl cm (.head (k + 1)) r (k + 1)) = some j
          rw [show k + (r.length + 1) = k + 1 + r.length by (first | lia | omega)]
          exact ih
        | inr j =>
          rw [hh] at ih
          obtain ⟨i1, i2, i3, i4, i5⟩ := ih
          have ej : j - k = j - (k + 1) + 1 := by (first | lia | omega)
          refine ⟨by (first | lia | omega), i2, ?_, ?_, ?_⟩
          · rw [ej]
            exact i3
          · rw [ej, List.take_succ_cons]
            intro t ht
            rcases List.mem_cons.mp ht with rfl | ht
            · exact tw
            · exact i4 t ht
          · rw [ej]
            exact i5
noncomputable def dueP (V T : α → Bool) (cl cm : α) (ws : List α) : Option Nat := fin ws.length (run V T cl cm (.head 0) ws 0)
theorem due_hd (hc : T cl = false) (ws : List α) {j : Nat} (h : hdP T cl 0 ws = .inl j) : dueP V T cl cm ws = some j := by
  have := run_hd (V := V) (cm := cm) hc 0 ws (Nat.zero_le _)
  rw [h] at this
  unfold dueP
  have e : fin (0 + ws.length) (run V T cl cm (.head 0) ws 0) = some j := this
  rwa [Nat.zero_add] at e
theorem hd_is (hc : T cl = false) (ws : List α) {j : Nat} (h : hdP T cl 0 ws = .inr j) : j ≤ 4 ∧ j < ws.length ∧ ws[j]? = some cl ∧ (∀ t ∈ ws.take j, T t = true) := by
  have := run_hd (V := T) (cm := cl) hc 0 ws (Nat.zero_le _)
  rw [h] at this
  obtain ⟨_, i2, i3, i4, _⟩ := this
  rw [Nat.sub_zero] at i3 i4
  exact ⟨i2, (List.getElem?_eq_some_iff.mp i3).1, i3, i4⟩
theorem due_ats (hc : T cl = false) (hm : T cm = false) (ws : List α) {j : Nat} (h : hdP T cl 0 ws = .inr j) : dueP V T cl cm ws = (match atsP V T cm (ws.length + 1) 0 (j + 1) (ws.drop (j + 1)) with | .inl i => some i | .inr _ => none) := by
  have := run_hd (V := V) (cm := cm) hc 0 ws (Nat.zero_le _)
  rw [h] at this
  obtain ⟨_, i2, i3, i4, i5⟩ := this
  have lt := (hd_is hc ws h).2.1
  unfold dueP
  have i5 : run V T cl cm (.head 0) ws 0 = run V T cl cm (.name 0) (ws.drop (j + 1)) (j + 1) := by
    rw [Nat.sub_zero] at i5
    exact i5
  rw [i5, ← run_ats hm (ws.length + 1) 0 (j + 1) (ws.drop (j + 1)) (by decide) (by rw [List.length_drop]; (first | lia | omega)), List.length_drop]
  congr 1
  (first | lia | omega)
noncomputable def toO {β : Type} : Nat ⊕ β → Option Nat
  | .inl i => some i
  | .inr _ => none
theorem due_toO (hc : T cl = false) (hm : T cm = false) (ws : List α) {j : Nat} (h : hdP T cl 0 ws = .inr j) : dueP V T cl cm ws = toO (atsP V T cm (ws.length + 1) 0 (j + 1) (ws.drop (j + 1))) := by
  rw [due_ats hc hm ws h]
  cases atsP V T cm (ws.length + 1) 0 (j + 1) (ws.drop (j + 1)) <;> rfl
end
end P4

set_option linter.all false
namespace P4
open PySem PySem.StrLaws PySem.Builtin PySem.Builtin.Str
noncomputable def cut3 : Str := " , "
theorem cut3_cps : cut3.cps.toList = [32, 44, 32] := by decide
theorem cut3_len : cut3.length = 3 := by decide
noncomputable def glu : List Str → List Nat
  | [] => []
  | [r] => r.cps.toList
  | r :: s :: t => r.cps.toList ++ ([32, 44, 32] ++ glu (s :: t))
theorem at_iff {x : Str} {c : Nat} : At x cut3 x.length c ↔ (x.cps.toList.drop c).take 3 = [32, 44, 32] := by
  have hn : x.cps.toList.length = x.length := by simp [Str.length]
  constructor
  · intro h
    have := h.2
    rw [subAt_eq] at this
    have := eq_of_beq this
    rwa [cut3_cps, cut3_len] at this
  · intro h
    refine ⟨?_, ?_⟩
    · have := congrArg List.length h
      rw [List.length_take, List.length_drop, hn] at this
      have e : ([32, 44, 32] : List Nat).length = 3 := rfl
      rw [e] at this
      rw [cut3_len]
      (first | lia | omega)
    · rw [subAt_eq, cut3_cps, cut3_len, h]
      rfl
theorem at_comma {x : Str} {c : Nat} (h : (x.cps.toList.drop c).take 3 = [32, 44, 32]) : x.cps.toList[c]? = some 32 ∧ x.cps.toList[c + 1]? = some 44 := by
  have h0 : ((x.cps.toList.drop c).take 3)[0]? = some 32 := by rw [h]; rfl
  have h1 : ((x.cps.toList.drop c).take 3)[1]? = some 44 := by rw [h]; rfl
  rw [List.getElem?_take_of_lt (by decide), List.getElem?_drop] at h0 h1
  exact ⟨h0, h1⟩
theorem parts_rows (x : Str) : ∀ (rows : List Str) (a f : Nat) (cuts : List Nat), rows ≠ [] → a ≤ x.length → x.cps.toList.drop a = glu rows → (∀ r ∈ rows, 44 ∉ r.cps.toList) → ChainG x cut3 x.length a cuts f → (∀ k, f ≤ k → ¬ At x cut3 x.length k) → partsFrom x 3 a cuts = rows
  | [], a, f, cuts, hr, _, _, _, _, _ => absurd rfl hr
  | [r], a, f, cuts, _, ha, hd, hc, hG, hn => by
    have hx : x.cps.toList.length = x.length := by simp [Str.length]
    have none_at : ∀ k, a ≤ k → ¬ At x cut3 x.length k := fun k hk h => by
      have := (at_comma (at_iff.mp h)).2
      have e : x.cps.toList[k + 1]? = (x.cps.toList.drop a)[k + 1 - a]? := by
        rw [List.getElem?_drop]
        congr 1
        (first | lia | omega)
      rw [e, hd] at this
      exact hc r (List.mem_singleton.mpr rfl) (List.mem_of_getElem? this)
    cases cuts with
    | nil =>
      show [strSub x a x.length] = [r]
      congr 1
      apply Str.ext'
      apply Array.toList_inj.mp
      rw [strSub_toList, hd, List.take_of_length_le]
      · rfl
      · have := congrArg List.length hd
        rw [List.length_drop, hx] at this
        show (glu [r]).length ≤ _
        (first | lia | omega)
    | cons c q => exact absurd hG.2.1 (none_at c hG.1)
  | r :: s :: t, a, f, cuts, _, ha, hd, hc, hG, hn => by
    have hx : x.cps.toList.length = x.length := by simp [Str.length]
    have hd : x.cps.toList.drop a = r.cps.toList ++ ([32, 44, 32] ++ glu (s :: t)) := hd
    have hlen := congrArg List.length hd
    rw [List.length_drop, hx, List.length_append, List.length_append] at hlen
    have e3 : ([32, 44, 32] : List Nat).length = 3 := rfl
    rw [e3] at hlen
    have hdc : x.cps.toList.drop (a + r.cps.toList.length) = [32, 44, 32] ++ glu (s :: t) := by
      rw [← List.drop_drop, hd, List.drop_left]
    have hat : At x cut3 x.length (a + r.cps.toList.length) := at_iff.mpr (by rw [hdc]; rfl)
    cases cuts with
    | nil =>
      have e : f = a := hG
      exact absurd hat (hn _ (by (first | lia | omega)))
    | cons c q =>
      have hle : c ≤ a + r.cps.toList.length := Nat.le_of_not_lt fun h => hG.2.2.1 _ (Nat.le_add_right _ _) h hat
      have hcc := at_comma (at_iff.mp hG.2.1)
      have hac := hG.1
      have ec : c = a + r.cps.toList.length := by
        refine Classical.byContradiction fun hne => ?_
        have e : x.cps.toList[c + 1]? = (x.cps.toList.drop a)[c + 1 - a]? := by
          rw [List.getElem?_drop]
          congr 1
          (first | lia | omega)
        have h1 := hcc.2
        rw [e, hd] at h1
        by_cases hin : c + 1 - a < r.cps.toList.length
        · rw [List.getElem?_append_left hin] at h1
          exact hc r List.mem_cons_self (List.mem_of_getElem? h1)
        · have e2 : c + 1 - a = r.cps.toList.length := by (first | lia | omega)
          rw [e2, List.getElem?_append_right (Nat.le_refl _), Nat.sub_self] at h1
          cases h1
      subst ec
      show strSub x a (a + r.cps.toList.length) :: partsFrom x 3 (a + r.cps.toList.length + 3) q = r :: s :: t
      have hl3 : cut3.length = 3 := cut3_len
      have hq := hG.2.2.2
      rw [hl3] at hq
      rw [parts_rows x (s :: t) (a + r.cps.toList.length + 3) f q (by simp) (by (first | lia | omega)) (by rw [← List.drop_drop, hdc]; rfl) (fun p hp => hc p (List.mem_cons_of_mem _ hp)) hq hn]
      congr 1
      apply Str.ext'
      apply Array.toList_inj.mp
      rw [strSub_toList, hd, Nat.add_sub_cancel_left, List.take_left]
theorem split_rows {x : Str} {rows : List Str} (hr : rows ≠ []) (hx : x.cps.toList = glu rows) (hc : ∀ r ∈ rows, 44 ∉ r.cps.toList) : Txt.split x cut3 = rows := by
  obtain ⟨f, hG, hn⟩ := occ_tight x cut3 (by decide)
  have hp := parts_rows x rows 0 f _ hr (Nat.zero_le _) (by rw [List.drop_zero]; exact hx) hc hG hn
  unfold Txt.split
  split
  · rename_i h
    rw [Bool.or_eq_true, decide_eq_true_eq, decide_eq_true_eq] at h
    have hk : ¬ PySem.Builtin.Str.strKind x < PySem.Builtin.Str.strKind cut3 := by
      have e : PySem.Builtin.Str.strKind cut3 = 1 := by decide +kernel
      rw [e]
      unfold PySem.Builtin.Str.strKind
      split
      · (first | lia | omega)
      · split <;> (first | lia | omega)
    have h : x.length < cut3.length := h.resolve_right hk
    rw [cut3_len] at h
    match rows, hr, hx with
    | [r], _, hx =>
      have e : x = r := by
        apply Str.ext'
        apply Array.toList_inj.mp
        exact hx
      rw [e]
    | r :: s :: t, _, hx =>
      have := congrArg List.length hx
      have e : glu (r :: s :: t) = r.cps.toList ++ ([32, 44, 32] ++ glu (s :: t)) := rfl
      rw [e, List.length_append, List.length_append] at this
      have e3 : ([32, 44, 32] : List Nat).length = 3 := rfl
      have hl : x.cps.toList.length = x.length := by simp [Str.length]
      (first | lia | omega)
  · split
    · rename_i he
      rw [List.isEmpty_iff.mp he] at hp
      rw [← hp]
      show [x] = [strSub x 0 x.length]
      rw [sub_whole]
    · rw [partsBetween_eq, cut3_len]
      exact hp
end P4
namespace P4
open PySem PySem.StrLaws PySem.Builtin PySem.Builtin.Str
theorem join_two (sep a b : Str) (r : List Str) : (Str.join sep (a :: b :: r)).cps.toList = a.cps.toList ++ (sep.cps.toList ++ (Str.join sep (b :: r)).cps.toList) := by
  show ((a ++ sep ++ Str.join sep (b :: r)) : Str).cps.toList = _
  show ((a.cps ++ sep.cps) ++ (Str.join sep (b :: r)).cps).toList = _
  rw [Array.toList_append, Array.toList_append, List.append_assoc]
theorem join_app (sep : Str) : ∀ (xs ys : List Str), xs ≠ [] → ys ≠ [] → (Str.join sep (xs ++ ys)).cps.toList = (Str.join sep xs).cps.toList ++ (sep.cps.toList ++ (Str.join sep ys).cps.toList)
  | [], _, h, _ => absurd rfl h
  | [a], [], _, h => absurd rfl h
  | [a], b :: ys, _, _ => join_two sep a b ys
  | a :: b :: xs, ys, _, h => by
    show (Str.join sep (a :: b :: (xs ++ ys))).cps.toList = _
    rw [join_two, join_two]
    have ih := join_app sep (b :: xs) ys (by simp) h
    rw [show b :: (xs ++ ys) = (b :: xs) ++ ys from rfl, ih, List.append_assoc, List.append_assoc]
noncomputable def bl1 : Str := " "
noncomputable def cm1 : Str := ","
theorem bl1_cps : bl1.cps.toList = [32] := by decide
theorem cm1_cps : cm1.cps.toList = [44] := by decide
noncomputable def rowT (b : Str × List Str) : Str := Str.join bl1 (b.1 :: b.2)
theorem join_rows : ∀ (f : List (Str × List Str) → List Str) (hf1 : ∀ b, f [b] = b.1 :: b.2) (hf2 : ∀ b c l, f (b :: c :: l) = (b.1 :: b.2) ++ cm1 :: f (c :: l)) (l : List (Str × List Str)), l ≠ [] → f l ≠ [] ∧ (Str.join bl1 (f l)).cps.toList = glu (l.map rowT)
  | f, hf1, hf2, [], h => absurd rfl h
  | f, hf1, hf2, [b], _ => by
    rw [hf1]
    exact ⟨by simp, rfl⟩
  | f, hf1, hf2, b :: c :: l, _ => by
    obtain ⟨i1, i2⟩ := join_rows f hf1 hf2 (c :: l) (by simp)
    rw [hf2]
    refine ⟨by simp, ?_⟩
    rw [join_app bl1 (b.1 :: b.2) (cm1 :: f (c :: l)) (by simp) (by simp)]
    cases hl : f (c :: l) with
    | nil => exact absurd hl i1
    | cons x y =>
      rw [join_two, ← hl, i2, bl1_cps, cm1_cps]
      rfl
theorem join_mem {sep : Str} {c : Nat} (hs : c ∉ sep.cps.toList) : ∀ {ws : List Str}, (∀ w ∈ ws, c ∉ w.cps.toList) → c ∉ (Str.join sep ws).cps.toList
  | [], _ => by
    show c ∉ (Str.empty : Str).cps.toList
    simp [Str.empty]
  | [a], h => h a (List.mem_singleton.mpr rfl)
  | a :: b :: r, h => by
    rw [join_two]
    intro hm
    rcases List.mem_append.mp hm with hm | hm
    · exact h a List.mem_cons_self hm
    · rcases List.mem_append.mp hm with hm | hm
      · exact hs hm
      · exact join_mem hs (ws := b :: r) (fun w hw => h w (List.mem_cons_of_mem _ hw)) hm
theorem split_inter {f : List (Str × List Str) → List Str} (hf1 : ∀ b, f [b] = b.1 :: b.2) (hf2 : ∀ b c l, f (b :: c :: l) = (b.1 :: b.2) ++ cm1 :: f (c :: l)) {l : List (Str × List Str)} (hl : l ≠ []) (hc : ∀ b ∈ l, ∀ w ∈ b.1 :: b.2, 44 ∉ w.cps.toList) :
    Txt.split (Str.join bl1 (f l)) cut3 = l.map rowT := by
  refine split_rows (by simpa using hl) (join_rows f hf1 hf2 l hl).2 fun r hr => ?_
  obtain ⟨b, hb, rfl⟩ := List.mem_map.mp hr
  exact join_mem (by rw [bl1_cps]; decide) (hc b hb)
end P4

set_option Elab.async false
set_option linter.all false
set_option maxRecDepth 100000
set_option maxHeartbeats 4000000
namespace K04
open PySem PySem.Spec PyProof.Rows L2
seal L2.PE L2.PT L2.PW L2.PA L2.PS L2.PSs L2.PI L2.PO L2.PPs L2.PG L2.PGs
noncomputable def top (i : Nat) : Stmt := PySem.Challenge.pw_askviews_k04_texts_refused.main.body.getD i (.Pass ⟨0, 0, 0, 0⟩)
noncomputable abbrev s_is_value : Stmt := top 14
noncomputable abbrev s_is_unknown : Stmt := top 15
noncomputable abbrev s_is_term : Stmt := top 16
noncomputable abbrev s_unknowns_of : Stmt := top 19
noncomputable abbrev s_loose_unknowns : Stmt := top 20
noncomputable abbrev s_read : Stmt := top 22
noncomputable abbrev s_read_head : Stmt := top 23
noncomputable abbrev s_read_atoms : Stmt := top 24
noncomputable abbrev s_read_atom : Stmt := top 25
noncomputable abbrev s_l_feed : Stmt := top 27
noncomputable abbrev s_l_draw : Stmt := top 28
noncomputable abbrev s_l_pool : Stmt := top 29
noncomputable abbrev s_l_names : Stmt := top 30
noncomputable abbrev s_l_values : Stmt := top 31
noncomputable abbrev s_l_length : Stmt := top 32
noncomputable abbrev s_l_question : Stmt := top 33
noncomputable abbrev s_l_word : Stmt := top 34
noncomputable abbrev s_l_term : Stmt := top 35
noncomputable abbrev s_l_may : Stmt := top 36
noncomputable abbrev s_l_due : Stmt := top 37
noncomputable abbrev s_l_told : Stmt := top 38
noncomputable abbrev s_l_spoilt : Stmt := top 39
noncomputable abbrev s_l_words : Stmt := top 40
noncomputable abbrev s_law : Stmt := top 41
/-! ## the drawing defs of the law: what each promises -/
noncomputable def Scr (K : PySem.W.Frag) (H : Hp) (a : Addr) (xs : List V) : Prop :=
  (∃ o, H a = some (.frz o (.lst xs))) ∨ ∃ (o : Obj) (its : Array Value) (n : Nat), K.lookup a = some o ∧ o.cls = .type "list" ∧ o.dict = none ∧ o.data = .seq its n ∧ its.size ≤ sizeLine ∧ Vals xs its.toList
theorem Scr.sq {K : PySem.W.Frag} {H : Hp} {a : Addr} {xs : List V} (h : Scr K H a xs) : SqL K H a xs := by
  rcases h with ⟨o, h⟩ | h
  · exact .inl (.inr ⟨o, h⟩)
  · exact .inr h
theorem Scr.but {K : PySem.W.Frag} {H : Hp} {a f : Addr} {xs ys : List V} {o : HO} (h : Scr K H a xs) (hf : H f = some (.lst ys)) : Scr K (upd H f o) a xs := by
  rcases h with ⟨ob, h⟩ | h
  · exact .inl ⟨ob, by rw [upd_ne (ne_of h hf fun z => by cases z)]; exact h⟩
  · exact .inr h
theorem Scr.new {K : PySem.W.Frag} {H : Hp} {a p : Addr} {xs : List V} {o : HO} (h : Scr K H a xs) (hp : H p = none) : Scr K (upd H p o) a xs := by
  rcases h with ⟨ob, h⟩ | h
  · exact .inl ⟨ob, by rw [upd_ne (ne_of_none h hp)]; exact h⟩
  · exact .inr h
noncomputable def Feed (K : PySem.W.Frag) (f : Addr) (H : Hp) : Prop :=
  ∃ (a : Addr) (ns : List Int) (p q r : Int), H f = some (.lst [.ref a, .int p, .int q, .int r]) ∧ 0 ≤ p ∧ 0 ≤ q ∧ 0 ≤ r ∧ Scr K H a (ns.map V.int) ∧ ns.length ≤ 63
noncomputable def Ext (f : Addr) (H H' : Hp) : Prop := ∀ b o, b ≠ f → H b = some o → H' b = some o
theorem Ext.refl (f : Addr) (H : Hp) : Ext f H H := fun _ _ _ h => h
theorem Ext.trans {f : Addr} {H H1 H2 : Hp} (a : Ext f H H1) (b : Ext f H1 H2) : Ext f H H2 := fun c o n h => b c o n (a c o n h)
theorem Ext.new {f : Addr} {H H1 : Hp} {p : Addr} (a : Ext f H H1) (h : H1 p = none) (o : HO) : Ext f H (upd H1 p o) := fun b u n q => by
  rw [upd_ne (ne_of_none (a b u n q) h)]
  exact a b u n q
theorem Ext.own {f : Addr} {H H1 : Hp} {p : Addr} (a : Ext f H H1) (h : H p = none) (o : HO) : Ext f H (upd H1 p o) := fun b u n q => by
  rw [upd_ne (ne_of_none q h)]
  exact a b u n q
theorem Ext.feed {f : Addr} {H H1 : Hp} (a : Ext f H H1) (o : HO) : Ext f H (upd H1 f o) := fun b u n q => by
  rw [upd_ne n]
  exact a b u n q
theorem Ext.none {f : Addr} {H H1 : Hp} (a : Ext f H H1) {p : Addr} (n : p ≠ f) (h : H1 p = Option.none) : H p = Option.none := by
  cases q : H p with
  | none => rfl
  | some o =>
    rw [a p o n q] at h
    cases h
theorem Feed.new {K : PySem.W.Frag} {f : Addr} {H : Hp} {p : Addr} (h : Feed K f H) (hp : H p = none) (o : HO) : Feed K f (upd H p o) := by
  obtain ⟨a, ns, x, y, z, hf, h1, h2, h3, hS, hn⟩ := h
  exact ⟨a, ns, x, y, z, by rw [upd_ne (ne_of_none hf hp)]; exact hf, h1, h2, h3, hS.new hp, hn⟩
theorem Feed.lst {K : PySem.W.Frag} {f : Addr} {H : Hp} {p : Addr} {xs : List V} (h : Feed K f H) (hp : H p = some (.lst xs)) (n : p ≠ f) (o : HO) : Feed K f (upd H p o) := by
  obtain ⟨a, ns, x, y, z, hf, h1, h2, h3, hS, hn⟩ := h
  exact ⟨a, ns, x, y, z, by rw [upd_ne n.symm]; exact hf, h1, h2, h3, hS.but hp, hn⟩
theorem Feed.nef {K : PySem.W.Frag} {f : Addr} {H : Hp} {p : Addr} (h : Feed K f H) (hp : H p = none) : p ≠ f := by
  obtain ⟨a, ns, x, y, z, hf, _⟩ := h
  exact (ne_of_none hf hp).symm

noncomputable def spDraw (K : PySem.W.Frag) : Sp := fun vs H Q _ => ∃ (f : Addr) (many : Int), vs = [.ref f, .int many] ∧ Feed K f H ∧ 0 < many ∧ many < 1073741824 ∧ ∀ (i : Int) (H' : Hp), 0 ≤ i → i < many → Feed K f H' → Ext f H H' → Q (.int i) H'
noncomputable def spPool (K : PySem.W.Frag) : Sp := fun vs H Q _ => ∃ (f pl : Addr) (many : Int) (xs : List V), vs = [.ref f, .ref pl, .int many] ∧ Feed K f H ∧ pl ≠ f ∧ H pl = some (.lst xs) ∧ 0 < xs.length ∧ xs.length ≤ 100 ∧ 0 ≤ many ∧ many ≤ 100 ∧
  ∀ (r : Addr) (ys : List V) (H' : Hp), Feed K f H' → Ext f H H' → r ≠ f → H' r = some (.lst ys) → (ys.length : Int) = many → (∀ y ∈ ys, y ∈ xs) → Q (.ref r) H'
noncomputable def spSome (K : PySem.W.Frag) (texts : List Str) (most : Nat) : Sp := fun vs H Q _ => ∃ (f : Addr), vs = [.ref f] ∧ Feed K f H ∧
  ∀ (r : Addr) (ys : List V) (H' : Hp), Feed K f H' → Ext f H H' → r ≠ f → H' r = some (.lst ys) → 1 ≤ ys.length → ys.length ≤ most → (∀ y ∈ ys, y ∈ texts.map V.str) → Q (.ref r) H'
noncomputable def namesPool : List Str := ["r", "s", "rs", "r1", "a", "tttttttt"]
noncomputable def valuesPool : List Str := ["a", "ab", "12", "b", "a1", "zzzzzzzz", "r", "1"]
noncomputable def unknownsPool : List Str := ["?x", "?y", "?a", "?ab", "?12", "?zzzzzzzz"]
noncomputable def spLength (K : PySem.W.Frag) : Sp := fun vs H Q _ => ∃ (f : Addr) (n : Str), vs = [.ref f, .str n] ∧ Feed K f H ∧ ∀ (i : Int) (H' : Hp), 1 ≤ i → i ≤ 4 → Feed K f H' → Ext f H H' → Q (.int i) H'
section
variable {P : Program} {w : World} {K : PySem.W.Frag} {mg : Str → Option Value} {base : Heap}
structure Txt (K : PySem.W.Frag) (mg : Str → Option Value) : Prop where
  n_len : mg "len" = none
  n_abs : mg "abs" = none
  n_range : mg "range" = none
  n_tuple : mg "tuple" = none
  n_list : mg "list" = none
  n_isinstance : mg "isinstance" = none
  n_all : mg "all" = none
  n_str : mg "str" = none
  n_enumerate : mg "enumerate" = none
  n_bool : mg "bool" = none
  n_ValueError : mg "ValueError" = none
  g_SIGNS : ∃ t, mg "SIGNS" = some (.str "abcdefghijklmnopqrstuvwxyz0123456789" t)
  g_MOST_SIGNS : ∃ t, mg "MOST_SIGNS" = some (.int 8 t)
  g_MOST_TERMS : ∃ t, mg "MOST_TERMS" = some (.int 4 t)
  g_MOST_ATOMS : ∃ t, mg "MOST_ATOMS" = some (.int 8 t)
theorem sc_l_feed : FnScope ["_law_script"] ["_law_script"] (defScope s_l_feed) := ⟨rfl, rfl, rfl, by decide +kernel, rfl, by decide +kernel, by decide +kernel⟩
theorem ok_feed {f : Addr} {fd : FuncData} (F : Fun K "_law_feed" "_law_feed" s_l_feed f fd) : FnOk P w K mg base CX0 1 f fd ["_law_script"] (fun vs H Q _ => ∃ (a : Addr) (ns : List Int), vs = [.ref a] ∧ Scr K H a (ns.map V.int) ∧ ns.length ≤ 63 ∧ ∀ (r : Addr) (H' : Hp), Feed K r H' → Same H H' → H r = none → Q (.ref r) H') := by
  refine F.ok sc_l_feed (fun vs H Q E h => ?_) (fun cdv A outer s H vs Q E hr h => ?_)
  · obtain ⟨a, ns, rfl, _⟩ := h
    rfl
  obtain ⟨a, ns, rfl, hS, hn, k⟩ := h
  refine ⟨_, (pss_one (ps_ret (pe_lst (pa_cons (pv 0) (pa_cons pe_int (pa_cons pe_int (pa_cons pe_int pa_nil))))))), ?_⟩
  refine ⟨_, rfl, (by show 4 ≤ sizeLine; decide), fun p hp => ?_⟩
  have sm : Same H (upd H p (.lst [.ref a, .int 0, .int 0, .int 0])) := fun b u q => by rw [upd_ne (ne_of_none q hp)]; exact q
  exact k p _ ⟨a, ns, 0, 0, 0, upd_same, Int.le_refl _, Int.le_refl _, Int.le_refl _, hS.new hp, hn⟩ sm hp
theorem sc_l_draw : FnScope ["_law_feed_here", "_law_many", "_law_script", "_law_figure", "_law_cell", "_law_mixed"] ["_law_feed_here", "_law_many"] (defScope s_l_draw) := ⟨rfl, rfl, rfl, by decide +kernel, rfl, by decide +kernel, by decide +kernel⟩
theorem ok_draw {f : Addr} {fd : FuncData} (F : Fun K "_law_draw" "_law_draw" s_l_draw f fd) (T : Txt K mg) : FnOk P w K mg base CX0 1 f fd ["_law_feed_here", "_law_many"] (spDraw K) := by
  refine F.ok sc_l_draw (fun vs H Q E h => ?_) (fun cdv A outer s H vs Q E hr h => ?_)
  · obtain ⟨a, ns, rfl, _⟩ := h
    rfl
  obtain ⟨fe, many, rfl, ⟨a, ns, p, q, r, hf, hp, hq, hr0, hS, hn⟩, hm, hm2, k⟩ := h
  have nl : (ns.map V.int).length = ns.length := List.length_map _
  have lo : ∀ (x m : Int), 0 < m → m < 2 ^ 32 → -(2 ^ 64) < x % m ∧ x % m < 2 ^ 64 := fun x m h1 h2 => by
    have h3 := Int.emod_nonneg x (show m ≠ 0 by (first | lia | omega))
    have h4 := Int.emod_lt_of_pos x h1
    (first | lia | omega)
  refine cut 3 (fun σ H' => ∃ p' q' r', σ = [some (.ref fe), some (.int many), some (.ref a), none, none, none] ∧ H' fe = some (.lst [.ref a, .int p', .int q', .int r']) ∧ 0 ≤ p' ∧ 0 ≤ q' ∧ 0 ≤ r' ∧ Scr K H' a (ns.map V.int) ∧ Ext fe H H')
    (cutA 3 (fun σ H' => ∃ p' q' r' c, σ = [some (.ref fe), some (.int many), some (.ref a), none, some (.int c), none] ∧ H' fe = some (.lst [.ref a, .int p', .int q', .int r']) ∧ 0 ≤ p' ∧ 0 ≤ q' ∧ 0 ≤ r' ∧ Scr K H' a (ns.map V.int) ∧ Ext fe H H')
      ⟨_, (pss_cons (ps_set (i := 5) sc_l_draw.nd rfl (Or.inl rfl) (pe_op op_mod (pe_op op_add (pe_op op_add (pe_op op_mul (pe_op op_mod (pv 4) pe_int) pe_int) (pe_op op_mul (pe_ix ix_list (pv 0) pe_int (fun _ _ => rfl)) pe_int)) pe_int) pe_int))
      (pss_cons (ps_set (i := 5) sc_l_draw.nd rfl (Or.inl rfl) (pe_op op_mod (pe_op op_mul (pv 5) (pe_op op_add (pv 5) pe_int)) pe_int))
      (pss_one (ps_ret (pe_op op_mod (pe_op op_mod (pe_op op_mul (pv 5) pe_int) pe_int) (pv 1)))))), ?_⟩ (fun t2 ht => ⟨_, (pss_cons (ps_if (pt_cmpR op_gt (pe_ix ix_list (pv 0) pe_int (fun _ _ => rfl)) pe_int (nomark _)) (pss_cons (ps_set (i := 3) sc_l_draw.nd rfl (Or.inl rfl) (pe_op op_mod (pe_ix ix_list (pv 0) pe_int (fun _ _ => rfl)) (pv 1)))
      (pss_cons (ps_asg (pe_op op_fdiv (pe_ix ix_list (pv 0) pe_int (fun _ _ => rfl)) (pv 1)) (pg_sub (pv 0) pe_int set_list))
      (pss_one (ps_ret (pv 3))))) pss_nil)
      (pss_cons (ps_set (i := 4) sc_l_draw.nd rfl (Or.inl rfl) pe_int)
      (pss_cons (ps_if (pt_cmpR op_gt (pe_callB call_len rfl T.n_len PySem.boot_len (pa_cons (pv 2) pa_nil)) pe_int (nomark _)) (pss_one (ps_set (i := 4) sc_l_draw.nd rfl (Or.inl rfl) (pe_ix ix_list (pv 2) (pe_op op_mod (pe_ix ix_list (pv 0) pe_int (fun _ _ => rfl)) (pe_callB call_len rfl T.n_len PySem.boot_len (pa_cons (pv 2) pa_nil))) (fun _ _ => rfl)))) pss_nil) ht))), fun tl => ?_⟩)) (fun t2 ht => ⟨_, (pss_cons (ps_set (i := 2) sc_l_draw.nd rfl (Or.inl rfl) (pe_ix ix_list (pv 0) pe_int (fun _ _ => rfl)))
      (pss_cons (ps_asg (pe_op op_add (pe_ix ix_list (pv 0) pe_int (fun _ _ => rfl)) pe_int) (pg_sub (pv 0) pe_int set_list))
      (pss_cons (ps_if (PW.pt (pw_and (pt_cmpR op_eq (pe_ix ix_list (pv 0) pe_int (fun _ _ => rfl)) pe_int (nomark _)) (pw_and1 (pt_cmpR op_lt (pe_ix ix_list (pv 0) pe_int (fun _ _ => rfl)) (pe_callB call_len rfl T.n_len PySem.boot_len (pa_cons (pv 2) pa_nil)) (nomark _))))) (pss_cons (ps_asg (pe_op op_fdivL (pe_callB call_abs rfl T.n_abs (by decide +kernel) (pa_cons (pe_ix ix_list (pv 2) (pe_ix ix_list (pv 0) pe_int (fun _ _ => rfl)) (fun _ _ => rfl)) pa_nil)) (pe_op op_pow pe_int pe_int)) (pg_sub (pv 0) pe_int set_list))
      (pss_one (ps_asg (pe_op op_add (pe_ix ix_list (pv 0) pe_int (fun _ _ => rfl)) pe_int) (pg_sub (pv 0) pe_int set_list)))) pss_nil) ht))), fun tl => ?_⟩)
  · -- the mix
    rintro σ H' ⟨p', q', r', c, rfl, hf', hp', hq', hr', hS', ex⟩
    refine ⟨_, rfl, _, _, rfl, rfl, (by show (0 : Int) < 2147483647; decide), _, _, rfl, rfl, .inl (lo _ _ (by decide) (by decide)), _, rfl, fe, _, _, _, rfl, rfl, SqL.of hf', rfl, _, _, rfl, rfl, .inr ⟨by decide, by decide⟩, _, _, rfl, rfl, _, _, rfl, rfl, _, _, rfl, rfl, (by show (0 : Int) < 2147483629; decide), ?_⟩
    refine ⟨_, rfl, _, rfl, _, _, rfl, rfl, _, _, rfl, rfl, .inl (lo _ _ (by decide) (by decide)), _, _, rfl, rfl, (by show (0 : Int) < 2147483587; decide), ?_⟩
    refine ⟨_, rfl, _, _, rfl, rfl, .inl (lo _ _ (by decide) (by decide)), _, _, rfl, rfl, (by show (0 : Int) < 2147483563; decide), _, rfl, _, _, rfl, rfl, hm, ?_⟩
    exact k _ H' (Int.emod_nonneg _ (by (first | lia | omega))) (Int.emod_lt_of_pos _ hm) ⟨a, ns, p', q', r', hf', hp', hq', hr', hS', hn⟩ ex
  · -- the rest of a cell, or the cell
    rintro σ H' ⟨p', q', r', rfl, hf', hp', hq', hr', hS', ex⟩
    refine ⟨_, rfl, fe, _, _, _, rfl, rfl, SqL.of hf', rfl, _, _, rfl, rfl, _, rfl, ?_⟩
    refine ite2 (fun c => ?_) (fun c => ?_)
    · refine ⟨_, rfl, fe, _, _, _, rfl, rfl, SqL.of hf', rfl, _, rfl, _, _, rfl, rfl, hm, ?_⟩
      refine ⟨_, rfl, fe, _, _, _, rfl, rfl, SqL.of hf', rfl, _, rfl, _, _, rfl, rfl, ⟨hm, hm2⟩, _, rfl, fe, _, _, _, rfl, rfl, hf', rfl, ?_⟩
      refine ⟨_, rfl, ?_⟩
      exact k _ _ (Int.emod_nonneg _ (by (first | lia | omega))) (Int.emod_lt_of_pos _ hm) ⟨a, ns, p', q' / many, r', upd_same, hp', Int.ediv_nonneg hq' (Int.le_of_lt hm), hr', hS'.but hf', hn⟩ (ex.feed _)
    · -- cell = 0; if len(script) > 0
      refine ⟨_, rfl, _, _, rfl, .inl ⟨_, hS'.sq, rfl⟩, _, _, rfl, rfl, _, rfl, ?_⟩
      refine ite2 (fun c2 => ?_) (fun c2 => ?_)
      · have c3 : (0 : Int) < ((ns.map V.int).length : Int) := of_decide_eq_true c2
        have c4 := Int.emod_nonneg r' (show ((ns.map V.int).length : Int) ≠ 0 by (first | lia | omega))
        have c5 := Int.emod_lt_of_pos r' c3
        obtain ⟨v, hv⟩ : ∃ v, ns[(r' % ((ns.map V.int).length : Int)).toNat]? = some v := ⟨_, List.getElem?_eq_getElem (by rw [← nl]; (first | lia | omega))⟩
        have ev : atI (ns.map V.int) (r' % ((ns.map V.int).length : Int)) = some (.int v) := by
          have e0 : r' % ((ns.map V.int).length : Int) = (((r' % ((ns.map V.int).length : Int)).toNat : Nat) : Int) := by (first | lia | omega)
          rw [e0]
          exact atI_nat (by rw [List.getElem?_map, hv]; rfl)
        refine ⟨_, rfl, _, rfl, fe, _, _, _, rfl, rfl, SqL.of hf', rfl, _, rfl, _, _, rfl, .inl ⟨_, hS'.sq, rfl⟩, _, _, rfl, rfl, c3, _, _, _, _, rfl, rfl, hS'.sq, ev, ?_⟩
        exact tl _ _ ⟨p', q', r', v, rfl, hf', hp', hq', hr', hS', ex⟩
      · exact tl _ _ ⟨p', q', r', 0, rfl, hf', hp', hq', hr', hS', ex⟩
  · -- feed[0]; feed[3] + 1
    refine ⟨_, rfl, fe, _, _, _, rfl, rfl, SqL.of hf, rfl, ?_⟩
    refine ⟨_, rfl, fe, _, _, _, rfl, rfl, SqL.of hf, rfl, _, _, rfl, rfl, _, rfl, fe, _, _, _, rfl, rfl, hf, rfl, ?_⟩
    have hf1 : upd H fe (.lst [.ref a, .int p, .int q, .int (r + 1)]) fe = some (.lst [.ref a, .int p, .int q, .int (r + 1)]) := upd_same
    have hS1 : Scr K (upd H fe (.lst [.ref a, .int p, .int q, .int (r + 1)])) a (ns.map V.int) := hS.but hf
    have ex1 : Ext fe H (upd H fe (.lst [.ref a, .int p, .int q, .int (r + 1)])) := (Ext.refl fe H).feed _
    -- if feed[2] == 0 and feed[1] < len(script)
    refine ⟨_, rfl, fe, _, _, _, rfl, rfl, SqL.of hf1, rfl, rfl, _, rfl, ?_⟩
    refine ite2 (fun c => ?_) (fun c => ?_)
    · refine ⟨_, rfl, fe, _, _, _, rfl, rfl, SqL.of hf1, rfl, _, rfl, _, _, rfl, .inl ⟨_, hS1.sq, rfl⟩, _, _, rfl, rfl, _, rfl, ?_⟩
      refine ite2 (fun c2 => ?_) (fun c2 => ?_)
      · have c3 : p < ((ns.map V.int).length : Int) := of_decide_eq_true c2
        obtain ⟨v, hv⟩ : ∃ v, ns[p.toNat]? = some v := ⟨_, List.getElem?_eq_getElem (by rw [← nl]; (first | lia | omega))⟩
        have ev : atI (ns.map V.int) p = some (.int v) := by
          have e0 : p = ((p.toNat : Nat) : Int) := by (first | lia | omega)
          rw [e0]
          exact atI_nat (by rw [List.getElem?_map, hv]; rfl)
        refine ⟨_, rfl, _, rfl, fe, _, _, _, rfl, rfl, SqL.of hf1, rfl, _, _, _, _, rfl, rfl, hS1.sq, ev, _, rfl, _, _, rfl, rfl, ⟨by decide, by decide, by decide⟩, _, _, rfl, rfl, ⟨by decide, by decide +kernel⟩, _, rfl, fe, _, _, _, rfl, rfl, hf1, rfl, ?_⟩
        refine ⟨_, rfl, fe, _, _, _, rfl, rfl, SqL.of upd_same, rfl, _, _, rfl, rfl, _, rfl, fe, _, _, _, rfl, rfl, upd_same, rfl, ?_⟩
        refine tl _ _ ⟨p + 1, _, r + 1, rfl, upd_same, by (first | lia | omega), Int.ediv_nonneg ?_ (by decide), by (first | lia | omega), ?_, (ex1.feed _).feed _⟩
        · split <;> (first | lia | omega)
        · exact (hS1.but hf1).but upd_same
      · exact tl _ _ ⟨p, q, r + 1, rfl, hf1, hp, hq, by (first | lia | omega), hS1, ex1⟩
    · exact tl _ _ ⟨p, q, r + 1, rfl, hf1, hp, hq, by (first | lia | omega), hS1, ex1⟩
theorem sc_l_pool : FnScope ["_law_feed_here", "_law_pool_here", "_law_many", "_law_start"] ["_law_feed_here", "_law_pool_here", "_law_many"] (defScope s_l_pool) := ⟨rfl, rfl, rfl, by decide +kernel, rfl, by decide +kernel, by decide +kernel⟩
structure Dr (P : Program) (w : World) (K : PySem.W.Frag) (mg : Str → Option Value) (base : Heap) : Prop where
  l_draw : DefOk P w K mg base 1 "_law_draw" ["_law_feed_here", "_law_many"] (spDraw K)
structure Dr2 (P : Program) (w : World) (K : PySem.W.Frag) (mg : Str → Option Value) (base : Heap) : Prop extends Dr P w K mg base where
  l_pool : DefOk P w K mg base 2 "_law_pool" ["_law_feed_here", "_law_pool_here", "_law_many"] (spPool K)
theorem ok_pool {f : Addr} {fd : FuncData} (F : Fun K "_law_pool" "_law_pool" s_l_pool f fd) (T : Txt K mg) (D : Dr P w K mg base) : FnOk P w K mg base CX0 2 f fd ["_law_feed_here", "_law_pool_here", "_law_many"] (spPool K) := by
  refine F.ok sc_l_pool (fun vs H Q E h => ?_) (fun cdv A outer s H vs Q E hr h => ?_)
  · obtain ⟨a, b, c, d, rfl, _⟩ := h
    rfl
  obtain ⟨fe, pl, many, xs, rfl, hF, npl, hpl, hx1, hx2, hm1, hm2, k⟩ := h
  refine ⟨_, (pss_cons (ps_set (i := 3) sc_l_pool.nd rfl (Or.inr rfl) (cl D.l_draw hr (pa_cons (pv 0) (pa_cons (pe_callB call_len rfl T.n_len PySem.boot_len (pa_cons (pv 1) pa_nil)) pa_nil))))
      (pss_one (ps_ret (pe_comp rfl (compSc_mk (fs := ["_law_pool_here", "_law_start"]) (fr := [1, 3])) (pi_range1 rfl T.n_range (pa_cons (pv 2) pa_nil)) (fun _ _ _ _ => (pe_ix (ix_listK (K := K)) (pv 1) (pe_op op_mod (pe_op op_add (pv 2) (pv 0)) (pe_callB (call_lenK (K := K)) rfl T.n_len PySem.boot_len (pa_cons (pv 1) pa_nil))) (fun _ _ => rfl))))))), ?_⟩
  -- start = draw(feed, len(pool))
  refine ⟨_, rfl, _, rfl, _, _, rfl, .inl ⟨_, SqL.of hpl, rfl⟩, fe, _, rfl, hF, by (first | lia | omega), by (first | lia | omega), fun i H1 i0 i1 hF1 ex1 => ?_⟩
  have hpl1 := ex1 _ _ npl hpl
  -- the comprehension
  refine ⟨_, rfl, many, rfl, by (first | lia | omega), by (first | lia | omega), fun j m ys H2 => H2 = H1 ∧ j ≤ many.toNat ∧ m = many.toNat - j ∧ ys.length = j ∧ ∀ y ∈ ys, y ∈ xs, ⟨_, rfl, Nat.zero_le _, rfl, rfl, fun y hy => by cases hy⟩, ?_⟩
  rintro j m ys H2 ⟨rfl, hj, rfl, hl, hy⟩
  by_cases hlt : j < many.toNat
  · refine .inr ⟨hlt, by rw [hl]; exact small1000 (by (first | lia | omega)), ?_⟩
    rintro v H3 ⟨rfl, rfl⟩
    have q0 : (0 : Int) < (xs.length : Int) := by (first | lia | omega)
    have q1 := Int.emod_nonneg (i + (0 + (j : Int))) (show (xs.length : Int) ≠ 0 by (first | lia | omega))
    have q2 := Int.emod_lt_of_pos (i + (0 + (j : Int))) q0
    obtain ⟨v, hv⟩ : ∃ v, xs[((i + (0 + (j : Int))) % (xs.length : Int)).toNat]? = some v := ⟨_, List.getElem?_eq_getElem (by (first | lia | omega))⟩
    have ev : atI xs ((i + (0 + (j : Int))) % (xs.length : Int)) = some v := by
      have e0 : (i + (0 + (j : Int))) % (xs.length : Int) = ((((i + (0 + (j : Int))) % (xs.length : Int)).toNat : Nat) : Int) := by (first | lia | omega)
      rw [e0]
      exact atI_nat hv
    refine rd_true ?_
    refine ⟨_, rfl, _, rfl, _, rfl, _, _, rfl, rfl, _, rfl, _, _, rfl, .inl ⟨_, SqL.of hpl1, rfl⟩, _, _, rfl, rfl, q0, _, _, _, _, rfl, rfl, SqL.of hpl1, ev, ?_⟩
    refine ⟨many.toNat - (j + 1), by (first | lia | omega), rfl, hlt, rfl, by rw [List.length_append, hl]; rfl, fun y hy' => ?_⟩
    rcases List.mem_append.mp hy' with z | z
    · exact hy y z
    · rw [List.mem_singleton.mp z]
      exact List.mem_of_getElem? hv
  · refine .inl ⟨by show many.toNat ≤ j; (first | lia | omega), by rw [hl]; exact Nat.le_of_lt (small1000 (by (first | lia | omega))), fun l hl' => ?_⟩
    have nl : l ≠ fe := hF1.nef hl'
    exact k l ys _ (hF1.new hl' _) (ex1.new hl' _) nl upd_same (by (first | lia | omega)) hy
theorem sc_l_names : FnScope ["_law_feed_here"] ["_law_feed_here"] (defScope s_l_names) := ⟨rfl, rfl, rfl, by decide +kernel, rfl, by decide +kernel, by decide +kernel⟩
theorem ok_names {f : Addr} {fd : FuncData} (F : Fun K "_law_names" "_law_names" s_l_names f fd) (T : Txt K mg) (D : Dr2 P w K mg base) : FnOk P w K mg base CX0 3 f fd ["_law_feed_here"] (spSome K namesPool 3) := by
  refine F.ok sc_l_names (fun vs H Q E h => ?_) (fun cdv A outer s H vs Q E hr h => ?_)
  · obtain ⟨a, rfl, _⟩ := h
    rfl
  obtain ⟨fe, rfl, hF, k⟩ := h
  refine ⟨_, (pss_one (ps_ret (cl D.l_pool hr (pa_cons (pv 0) (pa_cons (pe_lst (pa_cons pe_str (pa_cons pe_str (pa_cons pe_str (pa_cons pe_str (pa_cons pe_str (pa_cons pe_str pa_nil))))))) (pa_cons (pe_op op_add pe_int (cl D.l_draw hr (pa_cons (pv 0) (pa_cons pe_int pa_nil)))) pa_nil)))))), ?_⟩
  refine ⟨_, rfl, (by show 6 ≤ sizeLine; decide), fun p hp => ?_⟩
  have np := hF.nef hp
  refine ⟨_, rfl, fe, 3, rfl, hF.new hp _, by decide, by decide, fun i H1 i0 i1 hF1 ex1 => ?_⟩
  have hp1 := ex1 p _ np upd_same
  refine ⟨_, _, rfl, rfl, fe, p, _, _, rfl, hF1, np, hp1, by decide, by decide, by (first | lia | omega), by (first | lia | omega), fun r ys H2 hF2 ex2 nr hr2 hl hy => ?_⟩
  exact k r ys H2 hF2 (((Ext.refl fe H).new hp _).trans (ex1.trans ex2)) nr hr2 (by (first | lia | omega)) (by (first | lia | omega)) hy
theorem sc_l_values : FnScope ["_law_feed_here"] ["_law_feed_here"] (defScope s_l_values) := ⟨rfl, rfl, rfl, by decide +kernel, rfl, by decide +kernel, by decide +kernel⟩
theorem ok_values {f : Addr} {fd : FuncData} (F : Fun K "_law_values" "_law_values" s_l_values f fd) (T : Txt K mg) (D : Dr2 P w K mg base) : FnOk P w K mg base CX0 3 f fd ["_law_feed_here"] (spSome K valuesPool 4) := by
  refine F.ok sc_l_values (fun vs H Q E h => ?_) (fun cdv A outer s H vs Q E hr h => ?_)
  · obtain ⟨a, rfl, _⟩ := h
    rfl
  obtain ⟨fe, rfl, hF, k⟩ := h
  refine ⟨_, (pss_one (ps_ret (cl D.l_pool hr (pa_cons (pv 0) (pa_cons (pe_lst (pa_cons pe_str (pa_cons pe_str (pa_cons pe_str (pa_cons pe_str (pa_cons pe_str (pa_cons pe_str (pa_cons pe_str (pa_cons pe_str pa_nil))))))))) (pa_cons (pe_op op_add pe_int (cl D.l_draw hr (pa_cons (pv 0) (pa_cons pe_int pa_nil)))) pa_nil)))))), ?_⟩
  refine ⟨_, rfl, (by show 8 ≤ sizeLine; decide), fun p hp => ?_⟩
  have np := hF.nef hp
  refine ⟨_, rfl, fe, 4, rfl, hF.new hp _, by decide, by decide, fun i H1 i0 i1 hF1 ex1 => ?_⟩
  have hp1 := ex1 p _ np upd_same
  refine ⟨_, _, rfl, rfl, fe, p, _, _, rfl, hF1, np, hp1, by decide, by decide, by (first | lia | omega), by (first | lia | omega), fun r ys H2 hF2 ex2 nr hr2 hl hy => ?_⟩
  exact k r ys H2 hF2 (((Ext.refl fe H).new hp _).trans (ex1.trans ex2)) nr hr2 (by (first | lia | omega)) (by (first | lia | omega)) hy
end

end K04

set_option Elab.async false
set_option linter.all false
set_option maxRecDepth 100000
set_option maxHeartbeats 4000000
namespace K04
open PySem PySem.Spec PyProof.Rows L2
seal L2.PE L2.PT L2.PW L2.PA L2.PS L2.PSs L2.PI L2.PO L2.PPs L2.PG L2.PGs
@[irreducible] noncomputable def PEi (X : Cx) (e : Expr) (t : TE) : Prop := PE X e t
theorem pe_of {X : Cx} {e : Expr} {t : TE} (h : PEi X e t) : PE X e t := by
  unfold PEi at h
  exact h
theorem pei_disp5 {X : Cx} {pos p0 p1 p2 p3 p4 q0 q1 q2 q3 q4 : Pos} {j0 j1 j2 j3 j4 k0 k1 k2 k3 k4 : Nat} {s0 s1 s2 s3 s4 : Str} {i0 i1 i2 i3 i4 : Int} : PEi X (.Dict [some (.Constant (.str s0) j0 p0), some (.Constant (.str s1) j1 p1), some (.Constant (.str s2) j2 p2), some (.Constant (.str s3) j3 p3), some (.Constant (.str s4) j4 p4)] [(.Constant (.int i0) k0 q0), (.Constant (.int i1) k1 q1), (.Constant (.int i2) k2 q2), (.Constant (.int i3) k3 q3), (.Constant (.int i4) k4 q4)] pos) (tDisp [(tC (.str s0), tC (.int i0)), (tC (.str s1), tC (.int i1)), (tC (.str s2), tC (.int i2)), (tC (.str s3), tC (.int i3)), (tC (.str s4), tC (.int i4))]) := by
  unfold PEi
  exact pe_disp (pps_cons pe_str pe_int (pps_cons pe_str pe_int (pps_cons pe_str pe_int (pps_cons pe_str pe_int (pps_cons pe_str pe_int pps_nil))))) rfl rfl (by simp) (by show 5 ≤ 15; decide)
theorem pe_ty {X : Cx} {x : Str} {n : String} {pos : Pos} (hg : Gl X x) (hm : X.mg x = none) (hv : bootBuiltins x = some (.type n)) (hn : x ≠ "__name__" := by decide) (hd : (x == ("__debug__" : Str)) = false := by decide) : PE X (.Name x pos) (tC (.ty n)) := pe_bltn hg hm hv rfl hn hd
theorem attr_dict {ks : List (Option Expr)} {vs : List Expr} {p : Pos} {m : Str} {env : Env} {ev : Sem Value} : attributeBase (.Dict ks vs p) m env ev = ev := rfl
theorem trees_nc {x : Str} {p q cpos : Pos} {c : Const} {k : Nat} {env : Env} : backTo cpos (starEach [.Name x p, .Constant c k q] env) = [(false, eval (.Name x p) env), (false, eval (.Constant c k q) env)] := rfl
theorem few_nc {x : Str} {p q cpos : Pos} {c : Const} {k : Nat} {env : Env} : ((backTo cpos (starEach [.Name x p, .Constant c k q] env)).all (fun x => !x.1) && (backToKw cpos (keywordEach [] env)).all (fun x => x.1.isSome)
    && decide (([.Name x p, .Constant c k q] : List Expr).length + ([] : List Keyword).length + (if ([] : List Keyword).isEmpty then 0 else 1) < 30)) = true := rfl
theorem pei_get {X : Cx} {o : Expr} {td : TE} {x : Str} {px pd apos cpos : Pos} {d : Int} {jd : Nat} {tx : TE} (hu : X.A.units + 1 < cLine) (ho : PEi X o td) (hx : PE X (.Name x px) tx) (line : (apos.endLine == cpos.line) = true)
    (hb : ∀ ev : Sem Value, attributeBase o "get" X.env ev = ev) : PEi X (.Call (.Attribute o "get" apos) [.Name x px, .Constant (.int d) jd pd] [] cpos) (tDGet2 td tx (tC (.int d))) := by
  unfold PEi
  exact pe_dget2 hu (pe_of ho) hx pe_int ⟨hb _, few_nc, line, trees_nc⟩
theorem ret_of {X : Cx} {e : Expr} {te : TE} {rpos : Pos} {D : Ends} {C : L2.St → Hp → Prop} (h : PEi X e te) (q : ∀ σ H, C σ H → te σ H D.rt) : ∃ t2, PSs X [.Return (some e) rpos] t2 ∧ ∀ σ H, C σ H → t2 D σ H :=
  ⟨_, pss_one (ps_ret (pe_of h)), q⟩
section
variable {P : Program} {w : World} {K : PySem.W.Frag} {mg : Str → Option Value} {base : Heap}
noncomputable def lens : List (Key × V) := [(.inr "r", .int 2), (.inr "s", .int 1), (.inr "rs", .int 2), (.inr "r1", .int 3), (.inr "a", .int 2)]
theorem lens_ok : ((mergeK [] lens).all fun p => match p.2 with | .int i => decide (1 ≤ i ∧ i ≤ 4) | _ => false) = true := by decide +kernel
theorem lens_get (k : Key) : ∃ i : Int, (valV (mergeK [] lens) k).getD (.int 1) = .int i ∧ 1 ≤ i ∧ i ≤ 4 := by
  cases e : valV (mergeK [] lens) k with
  | none => exact ⟨1, rfl, by (first | lia | omega), by (first | lia | omega)⟩
  | some v =>
    obtain ⟨p, hp, e2⟩ := Option.map_eq_some_iff.mp e
    have q := List.all_eq_true.mp lens_ok p (List.mem_of_find?_eq_some hp)
    rw [e2] at q
    cases v with
    | int i => exact ⟨i, rfl, (of_decide_eq_true q).1, (of_decide_eq_true q).2⟩
    | _ => exact absurd q Bool.false_ne_true
theorem sc_l_length : FnScope ["_law_feed_here", "_law_name"] ["_law_feed_here", "_law_name"] (defScope s_l_length) := ⟨rfl, rfl, rfl, by decide +kernel, rfl, by decide +kernel, by decide +kernel⟩
theorem ok_length {f : Addr} {fd : FuncData} (F : Fun K "_law_length" "_law_length" s_l_length f fd) (T : Txt K mg) (D : Dr P w K mg base) : FnOk P w K mg base CX0 2 f fd ["_law_feed_here", "_law_name"] (spLength K) := by
  refine F.ok sc_l_length (fun vs H Q E h => ?_) (fun cdv A outer s H vs Q E hr h => ?_)
  · obtain ⟨a, b, rfl, _⟩ := h
    rfl
  obtain ⟨fe, n, rfl, hF, k⟩ := h
  have hu := hu_of hr
  refine cut 1 (fun σ H1 => σ = [some (.ref fe), some (.str n)] ∧ Feed K fe H1 ∧ Ext fe H H1) (ret_of (pei_get hu pei_disp5 (pv 1) rfl (fun _ => attr_dict)) ?_) (fun t2 ht => ⟨_, (pss_cons (ps_if (pt_cmpR op_eq (cl D.l_draw hr (pa_cons (pv 0) (pa_cons pe_int pa_nil))) pe_int (nomark _)) (pss_one (ps_ret (pe_op op_add pe_int (cl D.l_draw hr (pa_cons (pv 0) (pa_cons pe_int pa_nil)))))) pss_nil) ht), fun tl => ?_⟩)
  case refine_2 =>
    refine ⟨_, rfl, fe, 9, rfl, hF, by decide, by decide, fun i H1 i0 i1 hF1 ex1 => ?_⟩
    refine ⟨rfl, _, rfl, ?_⟩
    refine ite2 (fun c => ?_) (fun c => ?_)
    · refine ⟨_, rfl, fe, 4, rfl, hF1, by decide, by decide, fun j H2 j0 j1 hF2 ex2 => ?_⟩
      refine ⟨_, _, rfl, rfl, ?_⟩
      exact k _ H2 (by (first | lia | omega)) (by (first | lia | omega)) hF2 (ex1.trans ex2)
    · exact tl _ _ ⟨rfl, hF1, ex1⟩
  case refine_1 =>
    rintro σ H1 ⟨rfl, hF1, ex1⟩
    intro p hp
    refine ⟨upd_same, lens, ?_, ?_, ?_⟩
    · show [((V.str "r", V.int 2) : V × V), (.str "s", .int 1), (.str "rs", .int 2), (.str "r1", .int 3), (.str "a", .int 2)] = _
      rfl
    · show 5 ≤ 15
      decide
    have e1 : upd (upd H1 p (.dK [])) p (.dK (mergeK [] lens)) p = some (.dK (mergeK [] lens)) := upd_same
    refine ⟨p, rfl, .inl ⟨_, .inl e1⟩, ?_⟩
    refine ⟨_, rfl, ?_⟩
    refine ⟨_, DGet.k (k := Sum.inr n) e1, ?_⟩
    obtain ⟨i, e, h1, h2⟩ := lens_get (Sum.inr n)
    show Q ((valV (mergeK [] lens) (Sum.inr n)).getD (.int 1)) _
    rw [e]
    refine k i _ h1 h2 ?_ ?_
    · rw [upd_upd]
      exact hF1.new hp _
    · rw [upd_upd]
      exact ex1.new hp _
end
end K04

set_option Elab.async false
set_option linter.all false
set_option maxRecDepth 100000
set_option maxHeartbeats 4000000
namespace K04
open PySem PySem.Spec PyProof.Rows L2
seal L2.PE L2.PT L2.PW L2.PA L2.PS L2.PSs L2.PI L2.PO L2.PPs L2.PG L2.PGs
theorem small5000 {n : Nat} (h : n ≤ 100000) : n < sizeLine := Nat.lt_of_le_of_lt h (by decide)
/-! ## values, unknowns: what the program answers of a text -/
noncomputable def SIGNS : Str := "abcdefghijklmnopqrstuvwxyz0123456789"
noncomputable def sgn (c : Nat) : Bool := !(Builtin.Str.occurrences SIGNS ⟨#[c]⟩ 0 SIGNS.length 1).isEmpty
noncomputable def isVal (s : Str) : Bool := decide ((1 : Int) ≤ (s.length : Int)) && (decide ((s.length : Int) ≤ 8) && (s.cps.toList.map sgn).all id)
noncomputable def isUnk (s : Str) : Bool := Txt.startswith s "?" && isVal (Txt.slice s (some 1) none)
section
variable {P : Program} {w : World} {K : PySem.W.Frag} {mg : Str → Option Value} {base : Heap}
noncomputable def spVal : Sp := fun vs H Q _ => ∃ z : Str, vs = [.str z] ∧ z.length ≤ 100000 ∧ ∀ H', Same H H' → Q (.bl (isVal z)) H'
noncomputable def spUnk : Sp := fun vs H Q _ => ∃ z : Str, vs = [.str z] ∧ z.length ≤ 100000 ∧ ∀ H', Same H H' → Q (.bl (isUnk z)) H'
theorem same_new {H : Hp} {p : Addr} (h : H p = none) (o : HO) : Same H (upd H p o) := fun b u q => by rw [upd_ne (ne_of_none q h)]; exact q
theorem kit_same (t : Value) : PySem.W.kitOne K t t = some true := by
  unfold PySem.W.kitOne
  rw [if_pos (beq_self_eq_true t)]
theorem sc_is_value : FnScope ["thing"] ["thing"] (defScope s_is_value) := ⟨rfl, rfl, rfl, by decide +kernel, rfl, by decide +kernel, by decide +kernel⟩
theorem ok_is_value {f : Addr} {fd : FuncData} (F : Fun K "is_value" "is_value" s_is_value f fd) (T : Txt K mg) : FnOk P w K mg base CX0 1 f fd ["thing"] spVal := by
  refine F.ok sc_is_value (fun vs H Q E h => ?_) (fun cdv A outer s H vs Q E hr h => ?_)
  · obtain ⟨a, rfl, _⟩ := h
    rfl
  obtain ⟨z, rfl, hz, k⟩ := h
  refine ⟨_, (pss_cons (ps_if (pt_not (pt_val (pe_callB call_isinst rfl T.n_isinstance (by decide +kernel) (pa_cons (pv 0) (pa_cons (pe_ty (n := "str") rfl T.n_str (by decide +kernel)) pa_nil))))) (pss_one (ps_ret pe_bl)) pss_nil)
      (pss_one (ps_ret (pe_and (pe_chain op_le op_le pe_int (pe_callB call_len rfl T.n_len PySem.boot_len (pa_cons (pv 0) pa_nil)) (pe_globI rfl T.g_MOST_SIGNS)) (pe_one (pe_callB (call_all_bools rfl) rfl T.n_all boot_all (pa_cons (pe_comp rfl (compSc_mk (fs := []) (fr := [])) (pi_str (pv 0)) (fun _ _ _ _ => (pe_cmpR op_in_str (pv 0) (pe_globS rfl T.g_SIGNS) (by with_unfolding_all rfl)))) pa_nil))))))), ?_⟩
  have hz' : z.length ≤ sizeLine := Nat.le_of_lt (small5000 hz)
  refine ⟨_, rfl, _, _, _, true, rfl, TyOf.str z, kit_same _, _, rfl, ?_⟩
  refine iteF ?_
  refine ⟨_, rfl, _, _, rfl, ⟨hz', rfl⟩, _, _, rfl, rfl, _, rfl, ?_⟩
  refine ite2 (fun c1 => ?_) (fun c1 => ?_)
  · refine ⟨_, _, rfl, rfl, _, rfl, ?_⟩
    refine ite2 (fun c2 => ?_) (fun c2 => ?_)
    · refine ⟨_, rfl, _, rfl, fun i m ys H2 => H2 = H ∧ i ≤ z.cps.size ∧ m = z.cps.size - i ∧ ys = ((z.cps.toList.take i).map sgn).map V.bl, ⟨_, rfl, Nat.zero_le _, rfl, rfl⟩, ?_⟩
      rintro i m ys H2 ⟨rfl, hi, rfl, rfl⟩
      have hl : ∀ j, (((z.cps.toList.take j).map sgn).map V.bl).length ≤ 100000 := fun j => by
        rw [List.length_map, List.length_map, List.length_take]
        have : z.cps.toList.length = z.length := by simp [Str.length]
        (first | lia | omega)
      by_cases hlt : i < z.cps.size
      · refine .inr ⟨hlt, small5000 (hl i), ?_⟩
        rintro v H3 ⟨rfl, c, hc, rfl⟩
        refine rd_true ?_
        refine ⟨_, rfl, _, _, rfl, rfl, _, ?_, rfl, hlt, rfl, ?_⟩
        · exact Nat.sub_lt_sub_left hlt (Nat.lt_succ_self i)
        · have hc' : z.cps.toList[i]? = some c := by simpa using hc
          rw [List.take_add_one, hc', List.map_append, List.map_append]
          rfl
      · have e : i = z.cps.size := by (first | lia | omega)
        refine .inl ⟨e, Nat.le_of_lt (small5000 (hl i)), fun l hl' => ?_⟩
        refine ⟨_, (z.cps.toList.take i).map sgn, rfl, SqL.of upd_same, ?_⟩
        have et : z.cps.toList.take i = z.cps.toList := List.take_of_length_le (by rw [e]; simp)
        have ev : isVal z = ((z.cps.toList.take i).map sgn).all id := by
          unfold isVal
          rw [c1, c2, et, Bool.true_and, Bool.true_and]
        rw [← ev]
        exact k _ (same_new hl' _)
    · have ev : isVal z = false := by
        unfold isVal
        rw [Bool.eq_false_iff.mpr c2, Bool.false_and, Bool.and_false]
      have q := k H (Same.refl H)
      rw [ev] at q
      exact q
  · have ev : isVal z = false := by
      unfold isVal
      rw [Bool.eq_false_iff.mpr c1, Bool.false_and]
    have q := k H (Same.refl H)
    rw [ev] at q
    refine ⟨_, rfl, ?_⟩
    exact iteF q
structure Dv (P : Program) (w : World) (K : PySem.W.Frag) (mg : Str → Option Value) (base : Heap) : Prop where
  is_value : DefOk P w K mg base 1 "is_value" ["thing"] spVal
theorem sc_is_unknown : FnScope ["thing"] ["thing"] (defScope s_is_unknown) := ⟨rfl, rfl, rfl, by decide +kernel, rfl, by decide +kernel, by decide +kernel⟩
theorem slice_le (z : Str) : (Txt.slice z (some 1) none).length ≤ z.length := Txt.slice_le z _ _
theorem ok_is_unknown {f : Addr} {fd : FuncData} (F : Fun K "is_unknown" "is_unknown" s_is_unknown f fd) (T : Txt K mg) (D : Dv P w K mg base) : FnOk P w K mg base CX0 2 f fd ["thing"] spUnk := by
  refine F.ok sc_is_unknown (fun vs H Q E h => ?_) (fun cdv A outer s H vs Q E hr h => ?_)
  · obtain ⟨a, rfl, _⟩ := h
    rfl
  obtain ⟨z, rfl, hz, k⟩ := h
  refine ⟨_, (pss_one (ps_ret (pe_and (pe_callB call_isinst rfl T.n_isinstance (by decide +kernel) (pa_cons (pv 0) (pa_cons (pe_ty (n := "str") rfl T.n_str (by decide +kernel)) pa_nil))) (pe_and (pe_bm PySem.F.plainAttrs_str PySem.F.slot_str_startswith PySem.F.type_str_startswith mt_startswith (pv 0) (pa_cons pe_str pa_nil)) (pe_one (cl D.is_value hr (pa_cons (pe_slice sl_str (pv 0) (po_some pe_int) po_none) pa_nil))))))), ?_⟩
  have hz' : z.length ≤ sizeLine := Nat.le_of_lt (small5000 hz)
  refine ⟨_, rfl, _, _, _, true, rfl, TyOf.str z, kit_same _, _, rfl, ?_⟩
  refine iteT ?_
  refine ⟨_, rfl, rfl, _, _, rfl, rfl, _, rfl, ?_⟩
  refine ite2 (fun c1 => ?_) (fun c1 => ?_)
  · refine ⟨_, rfl, _, rfl, _, rfl, hz', _, rfl, Nat.le_trans (slice_le z) hz, fun H' sm => ?_⟩
    have ev : isUnk z = isVal (Txt.slice z (some 1) none) := by
      unfold isUnk
      rw [c1, Bool.true_and]
    rw [← ev]
    exact k H' sm
  · have ev : isUnk z = false := by
      unfold isUnk
      rw [Bool.eq_false_iff.mpr c1, Bool.false_and]
    have q := k H (Same.refl H)
    rw [ev] at q
    exact q
end
end K04

set_option Elab.async false
set_option linter.all false
set_option maxRecDepth 100000
set_option maxHeartbeats 4000000
namespace K04
open PySem PySem.Spec PyProof.Rows L2
seal L2.PE L2.PT L2.PW L2.PA L2.PS L2.PSs L2.PI L2.PO L2.PPs L2.PG L2.PGs
/-! ## questions as tuples -/
noncomputable def Tups (H H' : Hp) : Prop := ∀ b xs, H b = some (.tup xs) → H' b = some (.tup xs)
theorem Tups.trans {H H1 H2 : Hp} (a : Tups H H1) (b : Tups H1 H2) : Tups H H2 := fun c xs h => b c xs (a c xs h)
theorem Tups.of {H H' : Hp} (a : Same H H') : Tups H H' := fun c xs h => a c _ h
theorem Tups.refl (H : Hp) : Tups H H := fun _ _ h => h
theorem Tups.new {H H1 : Hp} {p : Addr} (a : Tups H H1) (h : H1 p = none) (o : HO) : Tups H (upd H1 p o) := fun b xs q => by
  rw [upd_ne (ne_of_none (a b xs q) h)]
  exact a b xs q
theorem Tups.lst {H H1 : Hp} {p : Addr} {ys : List V} (a : Tups H H1) (h : H1 p = some (.lst ys)) (o : HO) : Tups H (upd H1 p o) := fun b xs q => by
  rw [upd_ne (ne_of (a b xs q) h fun z => by cases z)]
  exact a b xs q
theorem Tups.ext {f : Addr} {H H1 : Hp} {ys : List V} (hf : H f = some (.lst ys)) (a : Ext f H H1) : Tups H H1 := fun b xs q => a b _ (ne_of q hf fun z => by cases z) q
theorem Feed.tups {K : PySem.W.Frag} {f : Addr} {H H1 : Hp} (h : Feed K f H) (a : Ext f H H1) : Tups H H1 := by
  obtain ⟨_, _, _, _, _, hf, _⟩ := h
  exact Tups.ext hf a
noncomputable def AtomAt (H : Hp) (v : V) (a : Str × List Str) : Prop := ∃ (p t : Addr), v = .ref p ∧ H p = some (.tup [.str a.1, .ref t]) ∧ H t = some (.tup (a.2.map V.str))
noncomputable abbrev AtomsAt (H : Hp) : List V → List (Str × List Str) → Prop := Paired (AtomAt H)
theorem AtomAt.keep {H H' : Hp} {v : V} {b : Str × List Str} (a : Tups H H') (h : AtomAt H v b) : AtomAt H' v b := by
  obtain ⟨p, t, e, h1, h2⟩ := h
  exact ⟨p, t, e, a _ _ h1, a _ _ h2⟩
theorem AtomsAt.keep {H H' : Hp} (a : Tups H H') {vs : List V} {ats : List (Str × List Str)} (h : AtomsAt H vs ats) : AtomsAt H' vs ats := Paired.imp' (fun _ _ q => q.keep a) h
noncomputable def QAt (H : Hp) (v : V) (hz : List Str) (ats : List (Str × List Str)) : Prop := ∃ (q h a : Addr) (vs : List V), v = .ref q ∧ H q = some (.tup [.ref h, .ref a]) ∧ H h = some (.tup (hz.map V.str)) ∧ H a = some (.tup vs) ∧ AtomsAt H vs ats
theorem QAt.keep {H H' : Hp} {v : V} {hz : List Str} {ats : List (Str × List Str)} (t : Tups H H') (x : QAt H v hz ats) : QAt H' v hz ats := by
  obtain ⟨q, h, a, vs, e, h1, h2, h3, h4⟩ := x
  exact ⟨q, h, a, vs, e, t _ _ h1, t _ _ h2, t _ _ h3, AtomsAt.keep t h4⟩
theorem Paired.snoc' {α β : Type} {F : α → β → Prop} {l₁ : List α} {l₂ : List β} {a : α} {b : β} (h : Paired F l₁ l₂) (q : F a b) : Paired F (l₁ ++ [a]) (l₂ ++ [b]) := h.snoc q
theorem Paired.at {α β : Type} {F : α → β → Prop} : ∀ {l₁ : List α} {l₂ : List β} {i : Nat} {x : α}, Paired F l₁ l₂ → l₁[i]? = some x → ∃ y, l₂[i]? = some y ∧ F x y
  | _, _, _, _, .nil, e => by simp at e
  | _, _, 0, _, .cons r _, e => by simp at e; subst e; exact ⟨_, rfl, r⟩
  | _, _, i + 1, x, .cons _ t, e => by
    obtain ⟨y, h1, h2⟩ := Paired.at (i := i) (x := x) t (by simpa using e)
    exact ⟨y, by simpa using h1, h2⟩
theorem strs_of {texts : List Str} : ∀ {ys : List V}, (∀ y ∈ ys, y ∈ texts.map V.str) → ∃ zs : List Str, ys = zs.map V.str ∧ ∀ z ∈ zs, z ∈ texts
  | [], _ => ⟨[], rfl, fun _ h => by cases h⟩
  | y :: r, h => by
    obtain ⟨zs, e, hz⟩ := strs_of (ys := r) fun y hy => h y (List.mem_cons_of_mem _ hy)
    obtain ⟨z, hz1, e1⟩ := List.mem_map.mp (h y List.mem_cons_self)
    refine ⟨z :: zs, by rw [List.map_cons, e1, ← e], fun w hw => ?_⟩
    rcases List.mem_cons.mp hw with rfl | hw
    · exact hz1
    · exact hz w hw
noncomputable def allTerms : List Str := unknownsPool ++ valuesPool ++ (["?b"] : List Str)
noncomputable def allNames : List Str := namesPool ++ (["12", "zzzzzzzz"] : List Str)
noncomputable def flatA (ats : List (Str × List Str)) : List Str := (ats.map (·.2)).flatten
theorem flatA_snoc (l : List (Str × List Str)) (a : Str × List Str) : flatA (l ++ [a]) = flatA l ++ a.2 := by
  unfold flatA
  rw [List.map_append, List.flatten_append]
  simp
theorem flatA_take {ats : List (Str × List Str)} {i : Nat} {a : Str × List Str} (h : ats[i]? = some a) : flatA (ats.take (i + 1)) = flatA (ats.take i) ++ a.2 := by
  rw [List.take_add_one, h]
  exact flatA_snoc _ _
theorem vals_no : (valuesPool.all fun z => !isUnk z) = true := by decide +kernel
noncomputable def HeadOk (hz : List Str) (ats : List (Str × List Str)) : Prop := hz.length ≤ 4 ∧ ∀ z ∈ hz, z ∈ allTerms ∧ (isUnk z = true → z ∈ flatA ats)
theorem pick_str {zs : List Str} {i : Int} (h0 : 0 ≤ i) (h1 : i < (zs.length : Int)) : ∃ z, z ∈ zs ∧ atI (zs.map V.str) i = some (.str z) := by
  obtain ⟨z, hz⟩ : ∃ z, zs[i.toNat]? = some z := ⟨_, List.getElem?_eq_getElem (by (first | lia | omega))⟩
  refine ⟨z, List.mem_of_getElem? hz, ?_⟩
  have e : i = ((i.toNat : Nat) : Int) := by (first | lia | omega)
  rw [e]
  exact atI_nat (by rw [List.getElem?_map, hz]; rfl)
noncomputable def Terms (H : Hp) (p : Addr) (zs : List Str) : Prop := H p = some (.lst (zs.map V.str)) ∧ 1 ≤ zs.length ∧ zs.length ≤ 8 ∧ ∀ z ∈ zs, z ∈ allTerms
noncomputable def Good (ats : List (Str × List Str)) : Prop := ∀ a ∈ ats, a.2.length ≤ 4 ∧ (∀ z ∈ a.2, z ∈ allTerms) ∧ 1 ≤ a.2.length ∧ a.1 ∈ allNames
noncomputable def spQuestion (K : PySem.W.Frag) : Sp := fun vs H Q _ => ∃ (f nl vl : Addr) (most : Int) (nms vls : List Str), vs = [.ref f, .ref nl, .ref vl, .int most] ∧ Feed K f H ∧ nl ≠ f ∧ vl ≠ f ∧ H nl = some (.lst (nms.map V.str)) ∧ 1 ≤ nms.length ∧ nms.length ≤ 8 ∧ (∀ z ∈ nms, z ∈ allNames) ∧ Terms H vl vls ∧ (∀ z ∈ vls, z ∈ valuesPool) ∧ 1 ≤ most ∧ most ≤ 8 ∧
  ∀ (r : Addr) (hz : List Str) (ats : List (Str × List Str)) (H' : Hp), Feed K f H' → Ext f H H' → QAt H' (.ref r) hz ats → 1 ≤ ats.length → ats.length ≤ 8 → Good ats → HeadOk hz ats → Q (.ref r) H'
section
variable {P : Program} {w : World} {K : PySem.W.Frag} {mg : Str → Option Value} {base : Heap}
structure Dr3 (P : Program) (w : World) (K : PySem.W.Frag) (mg : Str → Option Value) (base : Heap) : Prop extends Dr2 P w K mg base where
  l_length : DefOk P w K mg base 2 "_law_length" ["_law_feed_here", "_law_name"] (spLength K)
theorem mem_flat {ats : List (Str × List Str)} (h : Good ats) : ∀ z ∈ flatA ats, z ∈ allTerms := fun z hz => by
  obtain ⟨ts, h1, h2⟩ := List.mem_flatten.mp hz
  obtain ⟨a, h3, rfl⟩ := List.mem_map.mp h1
  exact (h a h3).2.1 z h2
theorem len_all : ∀ l : List (Str × List Str), (∀ a ∈ l, a.2.length ≤ 4) → (flatA l).length ≤ 4 * l.length
  | [], _ => Nat.le_refl _
  | a :: r, q => by
    have h1 := len_all r fun ts hts => q ts (List.mem_cons_of_mem _ hts)
    have h2 := q a List.mem_cons_self
    show (a.2 ++ flatA r).length ≤ _
    rw [List.length_append, List.length_cons]
    (first | lia | omega)
theorem len_flat {ats : List (Str × List Str)} (h : Good ats) (n : Nat) : (flatA (ats.take n)).length ≤ 4 * n := by
  have h1 := len_all (ats.take n) fun ts hts => (h ts (List.mem_of_mem_take hts)).1
  have h2 : (ats.take n).length ≤ n := by rw [List.length_take]; (first | lia | omega)
  (first | lia | omega)
theorem sc_l_question : FnScope ["_law_feed_here", "_law_names_here", "_law_values_here", "_law_most", "_law_unknowns", "_law_atoms", "_law_k", "_law_name", "_law_terms", "_law_j", "_law_some", "_law_head"] ["_law_feed_here", "_law_names_here", "_law_values_here", "_law_most"] (defScope s_l_question) := ⟨rfl, rfl, rfl, by decide +kernel, rfl, by decide +kernel, by decide +kernel⟩
theorem seq_hide {t u : TS} {D : Ends} {σ : L2.St} {H : Hp} (h : ∀ T, T = u → tSeq t T D σ H) : tSeq t u D σ H := h u rfl
theorem ok_question {f : Addr} {fd : FuncData} (F : Fun K "_law_question" "_law_question" s_l_question f fd) (T : Txt K mg) (D : Dr3 P w K mg base) : FnOk P w K mg base CX0 3 f fd ["_law_feed_here", "_law_names_here", "_law_values_here", "_law_most"] (spQuestion K) := by
  refine F.ok sc_l_question (fun vs H Q E h => ?_) (fun cdv A outer s H vs Q E hr h => ?_)
  · obtain ⟨a, b, c, d, e, g, rfl, _⟩ := h
    rfl
  obtain ⟨fe, nl, vl, most, nms, vls, rfl, hF, nnl, nvl, hnl, hn1, hn2, hn3, hvl, hvp, hm1, hm2, k⟩ := h
  refine ⟨_, (pss_cons (ps_set (i := 4) sc_l_question.nd rfl (Or.inl rfl) (cl D.l_pool hr (pa_cons (pv 0) (pa_cons (pe_lst (pa_cons pe_str (pa_cons pe_str (pa_cons pe_str (pa_cons pe_str (pa_cons pe_str (pa_cons pe_str pa_nil))))))) (pa_cons (pe_op op_add pe_int (cl D.l_draw hr (pa_cons (pv 0) (pa_cons pe_int pa_nil)))) pa_nil)))))
      (pss_cons (ps_set (i := 5) sc_l_question.nd rfl (Or.inl rfl) (pe_lst pa_nil))
      (pss_cons (ps_for PassesOwn.never rfl (pi_range1 rfl T.n_range (pa_cons (pe_op op_add pe_int (cl D.l_draw hr (pa_cons (pv 0) (pa_cons (pv 3) pa_nil)))) pa_nil)) (pg_name (i := 6) sc_l_question.nd rfl (Or.inl rfl))
      (pss_cons (ps_set (i := 7) sc_l_question.nd rfl (Or.inl rfl) (pe_ix ix_list (pv 1) (cl D.l_draw hr (pa_cons (pv 0) (pa_cons (pe_callB call_len rfl T.n_len PySem.boot_len (pa_cons (pv 1) pa_nil)) pa_nil))) (fun _ _ => rfl)))
      (pss_cons (ps_set (i := 8) sc_l_question.nd rfl (Or.inl rfl) (pe_lst pa_nil))
      (pss_cons (ps_for PassesOwn.never rfl (pi_range1 rfl T.n_range (pa_cons (cl D.l_length hr (pa_cons (pv 0) (pa_cons (pv 7) pa_nil))) pa_nil)) (pg_name (i := 9) sc_l_question.nd rfl (Or.inl rfl))
      (pss_cons (ps_set (i := 10) sc_l_question.nd rfl (Or.inl rfl) (pe_ix ix_list (pe_lst (pa_cons (pv 4) (pa_cons (pv 4) (pa_cons (pv 4) (pa_cons (pv 4) (pa_cons (pv 2) pa_nil)))))) (cl D.l_draw hr (pa_cons (pv 0) (pa_cons pe_int pa_nil))) (fun _ _ => rfl)))
      (pss_one (ps_expr (pe_bm PySem.F.plainAttrs_list PySem.F.slot_list_append PySem.F.type_list_append mt_append (pv 8) (pa_cons (pe_ix ix_list (pv 10) (cl D.l_draw hr (pa_cons (pv 0) (pa_cons (pe_callB call_len rfl T.n_len PySem.boot_len (pa_cons (pv 10) pa_nil)) pa_nil))) (fun _ _ => rfl)) pa_nil))))))
      (pss_one (ps_expr (pe_bm PySem.F.plainAttrs_list PySem.F.slot_list_append PySem.F.type_list_append mt_append (pv 5) (pa_cons (pe_tup (pa_cons (pv 7) (pa_cons (pe_callTy call_tuple_of rfl T.n_tuple (by decide +kernel) (pa_cons (pv 8) pa_nil)) pa_nil))) pa_nil))))))))
      (pss_cons (ps_set (i := 10) sc_l_question.nd rfl (Or.inl rfl) (pe_lst pa_nil))
      (pss_cons (ps_for PassesOwn.never rfl (pi_list (pv 5)) (pg_tup rfl (pgs_cons (pg_name (i := 7) sc_l_question.nd rfl (Or.inl rfl)) (pgs_cons (pg_name (i := 8) sc_l_question.nd rfl (Or.inl rfl)) pgs_nil)))
      (pss_one (ps_expr (pe_bm PySem.F.plainAttrs_list PySem.F.slot_list_extend PySem.F.type_list_extend mt_extendT (pv 10) (pa_cons (pv 8) pa_nil)))))
      (pss_cons (ps_set (i := 11) sc_l_question.nd rfl (Or.inl rfl) (pe_lst pa_nil))
      (pss_cons (ps_for PassesOwn.never rfl (pi_range1 rfl T.n_range (pa_cons (cl D.l_draw hr (pa_cons (pv 0) (pa_cons pe_int pa_nil))) pa_nil)) (pg_name (i := 6) sc_l_question.nd rfl (Or.inl rfl))
      (pss_one (ps_expr (pe_bm PySem.F.plainAttrs_list PySem.F.slot_list_append PySem.F.type_list_append mt_append (pv 11) (pa_cons (pe_ix ix_list (pe_op op_cat (pv 10) (pv 2)) (cl D.l_draw hr (pa_cons (pv 0) (pa_cons (pe_op op_add (pe_callB call_len rfl T.n_len PySem.boot_len (pa_cons (pv 10) pa_nil)) (pe_callB call_len rfl T.n_len PySem.boot_len (pa_cons (pv 2) pa_nil))) pa_nil))) (fun _ _ => rfl)) pa_nil)))))
      (pss_one (ps_ret (pe_tup (pa_cons (pe_callTy call_tuple_of rfl T.n_tuple (by decide +kernel) (pa_cons (pv 11) pa_nil)) (pa_cons (pe_callTy call_tuple_of rfl T.n_tuple (by decide +kernel) (pa_cons (pv 5) pa_nil)) pa_nil)))))))))))), ?_⟩
  refine seq_hide fun T1 e1 => ?_
  -- unknowns
  refine ⟨_, rfl, (by show 6 ≤ sizeLine; decide), fun p hp => ?_⟩
  have np := hF.nef hp
  refine ⟨_, rfl, fe, 4, rfl, hF.new hp _, by decide, by decide, fun i H1 i0 i1 hF1 ex1 => ?_⟩
  have hp1 := ex1 p _ np upd_same
  refine ⟨_, _, rfl, rfl, fe, p, _, _, rfl, hF1, np, hp1, by decide, by decide, by (first | lia | omega), by (first | lia | omega), fun u ys H2 hF2 ex2 nu hu2 hl hy => ?_⟩
  obtain ⟨us, rfl, hus⟩ := strs_of (texts := unknownsPool) hy
  rw [List.length_map] at hl
  have x2 : Ext fe H H2 := ((Ext.refl fe H).new hp _).trans (ex1.trans ex2)
  have hU2 : Terms H2 u us := ⟨hu2, by (first | lia | omega), by (first | lia | omega), fun z hz => List.mem_append_left _ (List.mem_append_left _ (hus z hz))⟩
  -- atoms = []
  show T1 _ _ _
  subst e1
  refine seq_hide fun T2 e2 => ?_
  refine ⟨(by show 0 ≤ sizeLine; decide), fun at' hat => ?_⟩
  have na := hF2.nef hat
  have hat0 : H at' = none := x2.none na hat
  have keepT : ∀ {H3 H4 : Hp} {q : Addr} {zs : List Str}, q ≠ fe → Ext fe H3 H4 → Terms H3 q zs → Terms H4 q zs := fun n e h => ⟨e _ _ n h.1, h.2⟩
  have nua : u ≠ at' := ne_of_none hU2.1 hat
  -- for k in range(1 + draw(feed, most))
  show T2 _ _ _
  subst e2
  refine seq_hide fun T3 e3 => ?_
  refine ⟨_, rfl, _, rfl, fe, most, rfl, hF2.new hat _, by (first | lia | omega), by (first | lia | omega), fun i3 H3 j0 j1 hF3 ex3 => ?_⟩
  refine ⟨_, _, rfl, rfl, _, rfl, by (first | lia | omega), by (first | lia | omega), for_range (lo := 0) (n := (1 + i3).toNat)
    (fun i σ H4 => ∃ (x6 x7 x8 x9 x10 : Option V) (avs : List V) (ats : List (Str × List Str)), σ = [some (.ref fe), some (.ref nl), some (.ref vl), some (.int most), some (.ref u), some (.ref at'), x6, x7, x8, x9, x10, none] ∧ Feed K fe H4 ∧ Ext fe H H4 ∧ H4 at' = some (.lst avs) ∧ AtomsAt H4 avs ats ∧ ats.length = i ∧ Good ats ∧ Terms H4 u us) ?_ ?_ ?_⟩
  · refine ⟨none, none, none, none, none, [], [], rfl, hF3, (x2.new hat _).trans ex3, ex3 _ _ na upd_same, .nil, rfl, fun ts h => by (cases h), keepT nu ex3 ⟨?_, hU2.2⟩⟩
    rw [upd_ne nua]
    exact hU2.1
  · rintro i σ H4 hi ⟨x6, x7, x8, x9, x10, avs, ats, rfl, hF4, ex4, hA4, hats, hlen, good, hU4⟩
    -- name = names[draw(feed, len(names))]
    refine seq_hide fun T4 e4 => ?_
    have hnl4 := ex4 _ _ nnl hnl
    have lnm : (nms.map V.str).length = nms.length := List.length_map _
    refine ⟨_, rfl, _, rfl, _, rfl, _, _, rfl, .inl ⟨_, SqL.of hnl4, rfl⟩, fe, _, rfl, hF4, by (first | lia | omega), by (first | lia | omega), fun i5 H5 k0 k1 hF5 ex5 => ?_⟩
    have ex5' := ex4.trans ex5
    obtain ⟨z, hz, ev⟩ := pick_str (zs := nms) k0 (by (first | lia | omega))
    refine ⟨_, _, _, _, rfl, rfl, SqL.of (ex5' _ _ nnl hnl), ev, ?_⟩
    -- terms = []
    show T4 _ _ _
    subst e4
    refine seq_hide fun T5 e5 => ?_
    refine ⟨(by show 0 ≤ sizeLine; decide), fun t ht => ?_⟩
    have nt := hF5.nef ht
    have ht0 : H t = none := ex5'.none nt ht
    have hA5 := ex5 _ _ na hA4
    have hU5 := keepT nu ex5 hU4
    have nta : at' ≠ t := ne_of_none hA5 ht
    have nut : u ≠ t := ne_of_none hU5.1 ht
    -- for j in range(length(feed, name))
    show T5 _ _ _
    subst e5
    refine seq_hide fun T6 e6 => ?_
    refine ⟨_, rfl, _, rfl, fe, z, rfl, hF5.new ht _, fun i6 H6 l1 l2 hF6 ex6 => ?_⟩
    refine ⟨_, rfl, by (first | lia | omega), by (first | lia | omega), for_range (lo := 0) (n := i6.toNat)
      (fun j σ H7 => ∃ (y9 y10 : Option V) (ts : List Str), σ = [some (.ref fe), some (.ref nl), some (.ref vl), some (.int most), some (.ref u), some (.ref at'), some (.int (0 + (i : Int))), some (.str z), some (.ref t), y9, y10, none] ∧ Feed K fe H7 ∧ Ext fe H H7 ∧ H7 at' = some (.lst avs) ∧ AtomsAt H7 avs ats ∧ Terms H7 u us ∧ H7 t = some (.lst (ts.map V.str)) ∧ ts.length = j ∧ ∀ z ∈ ts, z ∈ allTerms) ?_ ?_ ?_⟩
    · have tu : Tups H4 H6 := (hF4.tups ex5).trans (((Tups.refl _).new ht _).trans ((hF5.new ht _).tups ex6))
      refine ⟨x9, x10, [], rfl, hF6, (ex5'.new ht _).trans ex6, ?_, hats.keep tu, keepT nu ex6 ⟨?_, hU5.2⟩, ex6 _ _ nt upd_same, rfl, fun z h => by (cases h)⟩
      · exact ex6 _ _ na (by rw [upd_ne nta]; exact hA5)
      · rw [upd_ne nut]
        exact hU5.1
    · rintro j σ H7 hj ⟨y9, y10, ts, rfl, hF7, ex7, hA7, hats7, hU7, ht7, hlt, hts⟩
      have hV7 : Terms H7 vl vls := keepT nvl ex7 hvl
      -- some = [u, u, u, u, values][draw(feed, 5)]
      refine seq_hide fun T7 e7 => ?_
      refine ⟨_, rfl, _, rfl, _, rfl, _, rfl, _, rfl, (by show 5 ≤ sizeLine; decide), fun p8 hp8 => ?_⟩
      have np8 := hF7.nef hp8
      refine ⟨_, rfl, fe, 5, rfl, hF7.new hp8 _, by decide, by decide, fun i8 H8 m0 m1 hF8 ex8 => ?_⟩
      have ex8' : Ext fe H7 H8 := ((Ext.refl fe H7).new hp8 _).trans ex8
      have tu8 : Tups H7 H8 := ((Tups.refl _).new hp8 _).trans ((hF7.new hp8 _).tups ex8)
      obtain ⟨wa, ws, hw, nw, ev8⟩ : ∃ wa ws, Terms H8 wa ws ∧ wa ≠ fe ∧ atI [V.ref u, .ref u, .ref u, .ref u, .ref vl] i8 = some (.ref wa) := by
        have c : i8 = 0 ∨ i8 = 1 ∨ i8 = 2 ∨ i8 = 3 ∨ i8 = 4 := by (first | lia | omega)
        rcases c with rfl | rfl | rfl | rfl | rfl
        · exact ⟨u, us, keepT nu ex8' hU7, nu, rfl⟩
        · exact ⟨u, us, keepT nu ex8' hU7, nu, rfl⟩
        · exact ⟨u, us, keepT nu ex8' hU7, nu, rfl⟩
        · exact ⟨u, us, keepT nu ex8' hU7, nu, rfl⟩
        · exact ⟨vl, vls, keepT nvl ex8' hV7, nvl, rfl⟩
      refine ⟨_, _, _, _, rfl, rfl, SqL.of (ex8 _ _ np8 upd_same), ev8, ?_⟩
      -- terms.append(some[draw(feed, len(some))])
      show T7 _ _ _
      subst e7
      have ht8 := ex8' _ _ nt ht7
      have lws : (ws.map V.str).length = ws.length := List.length_map _
      have hw1 := hw.2.1
      have hw2 := hw.2.2.1
      refine ⟨_, rfl, .inl ⟨rfl, _, SqL.of ht8⟩, _, rfl, _, rfl, _, rfl, _, _, rfl, .inl ⟨_, SqL.of hw.1, rfl⟩, fe, _, rfl, hF8, by (first | lia | omega), by (first | lia | omega), fun i9 H9 n0 n1 hF9 ex9 => ?_⟩
      obtain ⟨z9, hz9, ev9⟩ := pick_str (zs := ws) n0 (by (first | lia | omega))
      have ht9 := ex9 _ _ nt ht8
      refine ⟨_, _, _, _, rfl, rfl, SqL.of (ex9 _ _ nw hw.1), ev9, _, _, _, rfl, rfl, ht9, by rw [List.length_map]; exact small1000 (by (first | lia | omega)), ?_⟩
      have tu9 : Tups H7 (upd H9 t (.lst (ts.map V.str ++ [.str z9]))) := (tu8.trans (hF8.tups ex9)).lst ht9 _
      refine ⟨_, _, ts ++ [z9], rfl, hF9.lst ht9 nt _, (ex7.trans (ex8'.trans ex9)).own ht0 _, ?_, hats7.keep tu9, ⟨?_, hU7.2⟩, by rw [upd_same, List.map_append]; rfl, by rw [List.length_append, hlt]; rfl, fun z h => ?_⟩
      · rw [upd_ne nta]
        exact ex9 _ _ na (ex8' _ _ na hA7)
      · rw [upd_ne nut]
        exact ex9 _ _ nu (ex8' _ _ nu hU7.1)
      · rcases List.mem_append.mp h with q | q
        · exact hts z q
        · rw [List.mem_singleton.mp q]
          exact hw.2.2.2 z9 hz9
    · rintro σ H7 ⟨y9, y10, ts, rfl, hF7, ex7, hA7, hats7, hU7, ht7, hlt, hts⟩
      -- atoms.append((name, tuple(terms)))
      show T6 _ _ _
      subst e6
      refine ⟨_, rfl, .inl ⟨rfl, _, SqL.of hA7⟩, _, rfl, _, rfl, _, _, rfl, .inl ⟨SqL.of ht7, fun tt htt => ?_⟩⟩
      refine ⟨(by show 2 ≤ sizeLine; decide), fun ap hap => ?_⟩
      have ntt := hF7.nef htt
      have hF8 := hF7.new htt (.tup (ts.map V.str))
      have nap := hF8.nef hap
      have hA8 : upd (upd H7 tt (.tup (ts.map V.str))) ap (.tup [.str z, .ref tt]) at' = some (.lst avs) := by
        rw [upd_ne (ne_of_none (by rw [upd_ne (ne_of_none hA7 htt)]; exact hA7) hap), upd_ne (ne_of_none hA7 htt)]
        exact hA7
      have la : avs.length = ats.length := Paired.length hats7
      refine ⟨_, _, _, rfl, rfl, hA8, small1000 (by (first | lia | omega)), ?_⟩
      have tu : Tups H7 (upd (upd (upd H7 tt (.tup (ts.map V.str))) ap (.tup [.str z, .ref tt])) at' (.lst (avs ++ [.ref ap]))) := (((Tups.refl _).new htt _).new hap _).lst hA8 _
      have nat1 : tt ≠ at' := (ne_of_none hA7 htt).symm
      have nat2 : ap ≠ at' := fun e => by
        rw [e, upd_ne (ne_of_none hA7 htt), hA7] at hap
        cases hap
      have nat3 : tt ≠ ap := fun e => by
        rw [← e, upd_same] at hap
        cases hap
      refine ⟨_, _, _, _, _, avs ++ [.ref ap], ats ++ [(z, ts)], rfl, (hF8.new hap _).lst hA8 na _, ((ex7.new htt _).new hap _).own hat0 _, upd_same, Paired.snoc' (hats7.keep tu) ⟨ap, tt, rfl, ?_, ?_⟩, by rw [List.length_append, hlen]; rfl, fun us' h => ?_, ⟨?_, hU7.2⟩⟩
      · rw [upd_ne nat2, upd_same]
      · rw [upd_ne nat1, upd_ne nat3, upd_same]
      · rcases List.mem_append.mp h with q | q
        · exact good us' q
        · rw [List.mem_singleton.mp q]
          exact ⟨by show ts.length ≤ 4; (first | lia | omega), hts, by show 1 ≤ ts.length; (first | lia | omega), hn3 z hz⟩
      · rw [upd_ne nua, upd_ne (ne_of_none (by rw [upd_ne (ne_of_none hU7.1 htt)]; exact hU7.1) hap), upd_ne (ne_of_none hU7.1 htt)]
        exact hU7.1
  · rintro σ H4 ⟨x6, x7, x8, x9, x10, avs, ats, rfl, hF4, ex4, hA4, hats, hlen, good, hU4⟩
    have la : avs.length = ats.length := Paired.length hats
    -- some = []
    show T3 _ _ _
    subst e3
    refine seq_hide fun T8 e8 => ?_
    refine ⟨(by show 0 ≤ sizeLine; decide), fun sm hsm => ?_⟩
    have nsm := hF4.nef hsm
    have hsm0 : H sm = none := ex4.none nsm hsm
    have nsa : at' ≠ sm := ne_of_none hA4 hsm
    show T8 _ _ _
    subst e8
    refine seq_hide fun T11 e11 => ?_
    refine ⟨_, rfl, at', rfl, ⟨avs, SqL.of (by rw [upd_ne nsa]; exact hA4)⟩, for_list (K := K) (a := at') (xs := avs)
      (fun i σ H5 => ∃ (x7 x8 : Option V), σ = [some (.ref fe), some (.ref nl), some (.ref vl), some (.int most), some (.ref u), some (.ref at'), x6, x7, x8, x9, some (.ref sm), none] ∧ Feed K fe H5 ∧ Ext fe H H5 ∧ H5 at' = some (.lst avs) ∧ AtomsAt H5 avs ats ∧ H5 sm = some (.lst ((flatA (ats.take i)).map V.str)))
      ⟨x7, x8, rfl, hF4.new hsm _, ex4.new hsm _, by rw [upd_ne nsa]; exact hA4, hats.keep ((Tups.refl _).new hsm _), upd_same⟩ (fun i σ H5 _ hq => by (obtain ⟨_, _, _, _, _, h, _⟩ := hq; exact SqL.of h)) ?_ ?_⟩
    · rintro i x σ H5 hx ⟨x7, x8, rfl, hF5, ex5, hA5, hats5, hsm5⟩
      obtain ⟨ta, ht, p, t, rfl, hp5, ht5⟩ := Paired.at hats5 hx
      refine ⟨p, _, rfl, SqT.of hp5, rfl, _, _, rfl, _, _, rfl, rfl, ?_⟩
      have g := good ta (List.mem_of_getElem? ht)
      have lf := len_flat good i
      have hi : i < ats.length := (List.getElem?_eq_some_iff.mp ht).1
      refine ⟨_, rfl, .inl ⟨rfl, _, SqL.of hsm5⟩, _, rfl, _, _, _, _, rfl, rfl, hsm5, SqT.of ht5, ?_, ?_⟩
      · rw [List.length_map, List.length_map]
        exact Nat.le_of_lt (small1000 (by (first | lia | omega)))
      · refine ⟨_, _, rfl, hF5.lst hsm5 nsm _, ex5.own hsm0 _, by rw [upd_ne nsa]; exact hA5, hats5.keep ((Tups.refl _).lst hsm5 _), ?_⟩
        rw [upd_same, flatA_take ht, List.map_append]
    · rintro σ H5 ⟨x7, x8, rfl, hF5, ex5, hA5, hats5, hsm5⟩
      rw [la, List.take_length] at hsm5
      have lf := len_flat good ats.length
      rw [List.take_length] at lf
      -- head = []
      show T11 _ _ _
      subst e11
      refine seq_hide fun T9 e9 => ?_
      refine ⟨(by show 0 ≤ sizeLine; decide), fun hd hhd => ?_⟩
      have nhd := hF5.nef hhd
      have hhd0 : H hd = none := ex5.none nhd hhd
      have nha : at' ≠ hd := ne_of_none hA5 hhd
      have nhs : sm ≠ hd := ne_of_none hsm5 hhd
      -- for k in range(draw(feed, 5))
      show T9 _ _ _
      subst e9
      refine seq_hide fun T10 e10 => ?_
      refine ⟨_, rfl, fe, 5, rfl, hF5.new hhd _, by decide, by decide, fun i7 H7 o0 o1 hF7 ex7 => ?_⟩
      have tu7 : Tups H5 H7 := ((Tups.refl _).new hhd _).trans ((hF5.new hhd _).tups ex7)
      refine ⟨_, rfl, by (first | lia | omega), by (first | lia | omega), for_range (lo := 0) (n := i7.toNat)
        (fun i σ H8 => ∃ (y6 : Option V) (hs : List Str), σ = [some (.ref fe), some (.ref nl), some (.ref vl), some (.int most), some (.ref u), some (.ref at'), y6, x7, x8, x9, some (.ref sm), some (.ref hd)] ∧ Feed K fe H8 ∧ Ext fe H H8 ∧ H8 at' = some (.lst avs) ∧ AtomsAt H8 avs ats ∧ H8 sm = some (.lst ((flatA ats).map V.str)) ∧ H8 hd = some (.lst (hs.map V.str)) ∧ hs.length = i ∧ ∀ z ∈ hs, z ∈ allTerms ∧ (isUnk z = true → z ∈ flatA ats)) ?_ ?_ ?_⟩
      · exact ⟨x6, [], rfl, hF7, (ex5.new hhd _).trans ex7, ex7 _ _ na (by rw [upd_ne nha]; exact hA5), hats5.keep tu7, ex7 _ _ nsm (by rw [upd_ne nhs]; exact hsm5), ex7 _ _ nhd upd_same, rfl, fun z h => by cases h⟩
      · rintro i σ H8 hi ⟨y6, hs, rfl, hF8, ex8, hA8, hats8, hsm8, hhd8, hl8, hz8⟩
        have hV8 : Terms H8 vl vls := keepT nvl ex8 hvl
        have hv1 := hV8.2.1
        have hv2 := hV8.2.2.1
        have l1 : ((flatA ats).map V.str).length = (flatA ats).length := List.length_map _
        have l2 : (vls.map V.str).length = vls.length := List.length_map _
        refine ⟨_, rfl, .inl ⟨rfl, _, SqL.of hhd8⟩, _, rfl, _, rfl, _, _, _, _, rfl, rfl, hsm8, hV8.1, by rw [l1, l2]; exact Nat.le_of_lt (small1000 (by (first | lia | omega))), fun p9 hp9 => ?_⟩
        have np9 := hF8.nef hp9
        refine ⟨_, rfl, _, rfl, _, _, rfl, .inl ⟨_, SqL.of (by rw [upd_ne (ne_of_none hsm8 hp9)]; exact hsm8), rfl⟩, _, rfl, _, _, rfl, .inl ⟨_, SqL.of (by rw [upd_ne (ne_of_none hV8.1 hp9)]; exact hV8.1), rfl⟩, _, _, rfl, rfl, fe, _, rfl, hF8.new hp9 _, by (first | lia | omega), by (first | lia | omega), fun i10 H10 r0 r1 hF10 ex10 => ?_⟩
        have hp10 := ex10 _ _ np9 upd_same
        have ex10' : Ext fe H8 H10 := ((Ext.refl fe H8).new hp9 _).trans ex10
        have tu10 : Tups H8 H10 := ((Tups.refl _).new hp9 _).trans ((hF8.new hp9 _).tups ex10)
        obtain ⟨v', hv⟩ : ∃ v, ((flatA ats).map V.str ++ vls.map V.str)[i10.toNat]? = some v := ⟨_, List.getElem?_eq_getElem (by rw [List.length_append]; (first | lia | omega))⟩
        obtain ⟨v, rfl, hvl⟩ : ∃ z : Str, v' = .str z ∧ z ∈ allTerms ∧ (isUnk z = true → z ∈ flatA ats) := by
          rcases List.mem_append.mp (List.mem_of_getElem? hv) with h | h
          · obtain ⟨z, hz, rfl⟩ := List.mem_map.mp h
            exact ⟨z, rfl, mem_flat good z hz, fun _ => hz⟩
          · obtain ⟨z, hz, rfl⟩ := List.mem_map.mp h
            refine ⟨z, rfl, hV8.2.2.2 z hz, fun hu => ?_⟩
            have := List.all_eq_true.mp vals_no z (hvp z hz)
            rw [hu] at this
            cases this
        have ev : atI ((flatA ats).map V.str ++ vls.map V.str) i10 = some (.str v) := by
          have e : i10 = ((i10.toNat : Nat) : Int) := by (first | lia | omega)
          rw [e]
          exact atI_nat hv
        have hhd10 := ex10' _ _ nhd hhd8
        refine ⟨_, _, _, _, rfl, rfl, SqL.of hp10, ev, _, _, _, rfl, rfl, hhd10, by rw [List.length_map]; exact small1000 (by (first | lia | omega)), ?_⟩
        exact ⟨_, hs ++ [v], rfl, hF10.lst hhd10 nhd _, (ex8.trans ex10').own hhd0 _, by rw [upd_ne nha]; exact ex10' _ _ na hA8, hats8.keep (tu10.lst hhd10 _), by rw [upd_ne nhs]; exact ex10' _ _ nsm hsm8, by rw [upd_same, List.map_append]; rfl, by rw [List.length_append, hl8]; rfl, fun z h => by
          rcases List.mem_append.mp h with h | h
          · exact hz8 z h
          · rw [List.mem_singleton.mp h]
            exact hvl⟩
      · rintro σ H8 ⟨y6, hs, rfl, hF8, ex8, hA8, hats8, hsm8, hhd8, hl8, hz8⟩
        -- return (tuple(head), tuple(atoms))
        show T10 _ _ _
        subst e10
        refine ⟨_, rfl, _, _, rfl, .inl ⟨SqL.of hhd8, fun th hth => ?_⟩⟩
        have hA9 : upd H8 th (.tup (hs.map V.str)) at' = some (.lst avs) := by rw [upd_ne (ne_of_none hA8 hth)]; exact hA8
        refine ⟨_, rfl, _, _, rfl, .inl ⟨SqL.of hA9, fun ta hta => ?_⟩⟩
        refine ⟨(by show 2 ≤ sizeLine; decide), fun q hq => ?_⟩
        have hF9 := (hF8.new hth (.tup (hs.map V.str))).new hta (.tup avs)
        have n1 : th ≠ ta := fun e => by rw [← e, upd_same] at hta; cases hta
        have n2 : ta ≠ q := fun e => by rw [← e, upd_same] at hq; cases hq
        have n3 : th ≠ q := fun e => by rw [← e, upd_ne n1, upd_same] at hq; cases hq
        refine k q hs ats _ (hF9.new hq _) (((ex8.new hth _).new hta _).new hq _) ⟨q, th, ta, avs, rfl, upd_same, ?_, ?_, hats8.keep ((((Tups.refl _).new hth _).new hta _).new hq _)⟩ (by (first | lia | omega)) (by (first | lia | omega)) good ⟨by (first | lia | omega), hz8⟩
        · rw [upd_ne n3, upd_ne n1, upd_same]
        · rw [upd_ne n2, upd_same]
end
end K04

set_option Elab.async false
set_option linter.all false
set_option maxRecDepth 100000
set_option maxHeartbeats 4000000
namespace K04
open PySem PySem.Spec PyProof.Rows L2
seal L2.PE L2.PT L2.PW L2.PA L2.PS L2.PSs L2.PI L2.PO L2.PPs L2.PG L2.PGs
noncomputable def isTerm (z : Str) : Bool := isVal z || isUnk z
noncomputable def spTrm : Sp := fun vs H Q _ => ∃ z : Str, vs = [.str z] ∧ z.length ≤ 100000 ∧ ∀ H', Same H H' → Q (.bl (isTerm z)) H'
section
variable {P : Program} {w : World} {K : PySem.W.Frag} {mg : Str → Option Value} {base : Heap}
structure Dv2 (P : Program) (w : World) (K : PySem.W.Frag) (mg : Str → Option Value) (base : Heap) : Prop extends Dv P w K mg base where
  is_unknown : DefOk P w K mg base 2 "is_unknown" ["thing"] spUnk
theorem sc_is_term : FnScope ["thing"] ["thing"] (defScope s_is_term) := ⟨rfl, rfl, rfl, by decide +kernel, rfl, by decide +kernel, by decide +kernel⟩
theorem ok_is_term {f : Addr} {fd : FuncData} (F : Fun K "is_term" "is_term" s_is_term f fd) (D : Dv2 P w K mg base) : FnOk P w K mg base CX0 3 f fd ["thing"] spTrm := by
  refine F.ok sc_is_term (fun vs H Q E h => ?_) (fun cdv A outer s H vs Q E hr h => ?_)
  · obtain ⟨a, rfl, _⟩ := h
    rfl
  obtain ⟨z, rfl, hz, k⟩ := h
  refine ⟨_, (pss_one (ps_ret (pe_or (cl D.is_value hr (pa_cons (pv 0) pa_nil)) (pe_one (cl D.is_unknown hr (pa_cons (pv 0) pa_nil)))))), ?_⟩
  refine ⟨_, rfl, z, rfl, hz, fun H1 sm1 => ⟨_, rfl, ?_⟩⟩
  refine ite2 (fun c => ?_) (fun c => ?_)
  · have c : isVal z = true := c
    have q := k H1 sm1
    rw [show isTerm z = true by unfold isTerm; rw [c, Bool.true_or]] at q
    exact q
  · refine ⟨_, rfl, z, rfl, hz, fun H2 sm2 => ?_⟩
    have c : ¬ isVal z = true := c
    have q := k H2 (sm1.trans sm2)
    rw [show isTerm z = isUnk z by unfold isTerm; rw [Bool.eq_false_iff.mpr c, Bool.false_or]] at q
    exact q
end
noncomputable def spInit (C : Addr) (fld : Str) : Sp := fun vs H Q _ => ∃ (a : Addr) (v : V), vs = [.ref a, v] ∧ ErrAt H a C none ∧ ((∃ z : Str, v = .str z ∧ z.length ≤ 1000) ∨ ∃ i : Int, v = .int i ∧ i.natAbs.log2 < 1920) ∧ ∀ d, H d = none → d ≠ a → Q .non (upd (upd H a (.ext (ExcF a C (some d)))) d (.xd [(fld, v)]))
theorem upd_id {H : Hp} {a : Addr} {o : HO} (h : H a = some o) : upd H a o = H := by
  funext b
  by_cases hb : b = a
  · rw [hb, upd_same, h]
  · rw [upd_ne hb]
structure Ba (K : PySem.W.Frag) (mg : Str → Option Value) (A0 : Addr) : Prop where
  m_AskError : mg "AskError" = some (.ref A0)
  s : PySem.W.specialIn K (.ref A0) "__getattribute__" = some (some (.builtin "type.__getattribute__"))
  r : PySem.W.readsIn K A0 (.type "type") = true
  f : PySem.W.findCls K (.ref A0) (.type "type") "__init__" = some (.val (.builtin "ValueError.__init__"))
section
variable {P : Program} {w : World} {K : PySem.W.Frag} {mg : Str → Option Value} {base : Heap}
noncomputable abbrev i_Loose : Stmt := inClass (top 3) 0
theorem sc_i_Loose : FnScope ["self", "unknown"] ["self", "unknown"] (defScope i_Loose) := ⟨rfl, rfl, rfl, by decide +kernel, rfl, by decide +kernel, by decide +kernel⟩
theorem ok_i_Loose {A0 C : Addr} {f : Addr} {fd : FuncData} (F : Fun K "__init__" "Loose.__init__" i_Loose f fd) (B : Ba K mg A0) (q : excInI K C bmV "ValueError.__new__" = true) (ek : ExcK K C) (hf : PySem.W.findIn K (.ref C) "unknown" = some none) : FnOk P w K mg base CX0 1 f fd ["self", "unknown"] (spInit C "unknown") := by
  refine F.ok sc_i_Loose (fun vs H Q E h => ?_) (fun cdv A outer s H vs Q E hr h => ?_)
  · obtain ⟨a, b, rfl, _⟩ := h
    rfl
  obtain ⟨a, v, rfl, ha, hv, k⟩ := h
  have ha' : H a = some (.ext (ExcF a C none)) := ha
  refine ⟨_, (pss_cons (ps_expr (pe_binit (A0 := A0) (pe_globR rfl B.m_AskError) B.s B.r B.f (pa_cons (pv 0) (pa_cons (pe_fstr (pv 1) (by decide +kernel) (by decide +kernel)) pa_nil)))) (pss_one (ps_exset (pv 0) (pv 1)))), ?_⟩
  refine ⟨rfl, _, rfl, _, rfl, hv, fun y => ⟨a, C, none, _, rfl, by show 1 ≤ 1000; decide, ha', q, ?_⟩⟩
  rw [upd_id ha']
  exact ⟨_, rfl, _, rfl, a, C, rfl, ha, ek, hf, k⟩
noncomputable abbrev i_NoText : Stmt := inClass (top 2) 0
theorem sc_i_NoText : FnScope ["self", "at"] ["self", "at"] (defScope i_NoText) := ⟨rfl, rfl, rfl, by decide +kernel, rfl, by decide +kernel, by decide +kernel⟩
theorem ok_i_NoText {A0 C : Addr} {f : Addr} {fd : FuncData} (F : Fun K "__init__" "NoText.__init__" i_NoText f fd) (B : Ba K mg A0) (q : excInI K C bmV "ValueError.__new__" = true) (ek : ExcK K C) (hf : PySem.W.findIn K (.ref C) "at" = some none) : FnOk P w K mg base CX0 1 f fd ["self", "at"] (spInit C "at") := by
  refine F.ok sc_i_NoText (fun vs H Q E h => ?_) (fun cdv A outer s H vs Q E hr h => ?_)
  · obtain ⟨a, b, rfl, _⟩ := h
    rfl
  obtain ⟨a, v, rfl, ha, hv, k⟩ := h
  have ha' : H a = some (.ext (ExcF a C none)) := ha
  refine ⟨_, (pss_cons (ps_expr (pe_binit (A0 := A0) (pe_globR rfl B.m_AskError) B.s B.r B.f (pa_cons (pv 0) (pa_cons (pe_fstr (pv 1) (by decide +kernel) (by decide +kernel)) pa_nil)))) (pss_one (ps_exset (pv 0) (pv 1)))), ?_⟩
  refine ⟨rfl, _, rfl, _, rfl, hv, fun y => ⟨a, C, none, _, rfl, by show 1 ≤ 1000; decide, ha', q, ?_⟩⟩
  rw [upd_id ha']
  exact ⟨_, rfl, _, rfl, a, C, rfl, ha, ek, hf, k⟩
end
end K04

set_option Elab.async false
set_option linter.all false
set_option maxRecDepth 100000
set_option maxHeartbeats 4000000
namespace K04
open PySem PySem.Spec PyProof.Rows L2
seal L2.PE L2.PT L2.PW L2.PA L2.PS L2.PSs L2.PI L2.PO L2.PPs L2.PG L2.PGs
/-! ## the law's own looks -/
theorem one_eq (c d : Nat) : decide ((⟨#[c]⟩ : Str) = ⟨#[d]⟩) = (c == d) := by
  by_cases h : c = d
  · subst h
    simp
  · have : ¬ ((⟨#[c]⟩ : Str) = ⟨#[d]⟩) := fun e => h (by injection e with e; simpa using e)
    rw [decide_eq_false this]
    exact (beq_eq_false_iff_ne.mpr h).symm
theorem q_is : ("?" : Str) = ⟨#[63]⟩ := by decide +kernel
theorem starts_q {z : Str} {c : Nat} (h : z.cps.toList[0]? = some c) : Txt.startswith z "?" = decide ((⟨#[c]⟩ : Str) = "?") := by
  rw [q_is, one_eq]
  rw [Bool.eq_iff_iff, beq_iff_eq]
  unfold Txt.startswith
  rw [Bool.and_eq_true, decide_eq_true_iff, StrLaws.subAt_one, h]
  exact ⟨fun e => Option.some.inj e, fun e => by rw [e]⟩
theorem starts_none {z : Str} (h : z.cps.toList[0]? = none) : Txt.startswith z "?" = false := by
  rw [q_is]
  refine Bool.eq_false_iff.mpr fun e => ?_
  unfold Txt.startswith at e
  rw [Bool.and_eq_true, decide_eq_true_iff, StrLaws.subAt_one, h] at e
  cases e
theorem first_of {z : Str} (h : z ≠ "") : ∃ c, z.cps.toList[0]? = some c := by
  cases e : z.cps.toList with
  | cons c r => exact ⟨c, rfl⟩
  | nil =>
    exact absurd (PyProof.Rows.ext_toList (a := z) (b := "") (e.trans rfl)) h
section
variable {P : Program} {w : World} {K : PySem.W.Frag} {mg : Str → Option Value} {base : Heap}
theorem all_filter {α : Type} (g : α → Bool) (l : List α) : (l.filter fun c => !g c).isEmpty = (l.map g).all id := by
  induction l with
  | nil => rfl
  | cons a r ih =>
    rw [List.filter_cons, List.map_cons, List.all_cons, ← ih]
    cases g a <;> rfl
theorem filter_take {α : Type} {g : α → Bool} {l : List α} {i : Nat} {x : α} (h : l[i]? = some x) : (l.take (i + 1)).filter g = (l.take i).filter g ++ (if g x = true then [x] else []) := by
  rw [List.take_add_one, h, List.filter_append]
  show _ ++ [x].filter g = _
  rw [List.filter_cons, List.filter_nil]
theorem isEmpty_map {α β : Type} (g : α → β) (l : List α) : (l.map g).isEmpty = l.isEmpty := by cases l <;> rfl
end
theorem sgn_qm : sgn 63 = false := by decide +kernel
theorem val_unk {z : Str} (h : isVal z = true) : isUnk z = false := by
  unfold isVal at h
  rw [Bool.and_eq_true, Bool.and_eq_true] at h
  have h1 := of_decide_eq_true h.1
  unfold isUnk
  cases e : z.cps.toList with
  | nil =>
    have : z.length = 0 := by
      show z.cps.size = 0
      rw [← Array.length_toList, e]
      rfl
    (first | lia | omega)
  | cons c r =>
    have e0 : z.cps.toList[0]? = some c := by rw [e]; rfl
    have hc : sgn c = true := List.all_eq_true.mp h.2.2 _ (List.mem_map_of_mem (by rw [e]; exact List.mem_cons_self))
    have nc : c ≠ 63 := fun z => by
      rw [z, sgn_qm] at hc
      cases hc
    rw [starts_q e0, q_is, one_eq, beq_eq_false_iff_ne.mpr nc, Bool.false_and]
theorem term_q {z : Str} (h : isTerm z = true) : Txt.startswith z "?" = isUnk z := by
  have h' : (isVal z || isUnk z) = true := h
  cases e : isVal z with
  | true =>
    rw [val_unk e]
    cases e1 : z.cps.toList with
    | nil => exact starts_none (by rw [e1]; rfl)
    | cons c r =>
      have e0 : z.cps.toList[0]? = some c := by rw [e1]; rfl
      unfold isVal at e
      rw [Bool.and_eq_true, Bool.and_eq_true] at e
      have hc : sgn c = true := List.all_eq_true.mp e.2.2 _ (List.mem_map_of_mem (by rw [e1]; exact List.mem_cons_self))
      have nc : c ≠ 63 := fun z => by
        rw [z, sgn_qm] at hc
        cases hc
      rw [starts_q e0, q_is, one_eq, beq_eq_false_iff_ne.mpr nc]
  | false =>
    rw [e, Bool.false_or] at h'
    rw [h']
    unfold isUnk at h'
    rw [Bool.and_eq_true] at h'
    exact h'.1
theorem term_fst {z : Str} (h : isTerm z = true) : ∃ c, z.cps.toList[0]? = some c := by
  refine first_of fun e => ?_
  rw [e] at h
  have : isTerm "" = false := by decide +kernel
  rw [this] at h
  cases h
theorem term_ask {z : Str} (h : isTerm z = true) {c : Nat} (hc : z.cps.toList[0]? = some c) : decide (V.str ⟨#[c]⟩ = V.str "?") = isUnk z := by
  rw [← term_q h, starts_q hc, Bool.eq_iff_iff]
  simp
theorem cut_to (xs : List V) (j : Nat) : cutV xs none (some (j : Int)) = xs.take j := by
  unfold cutV
  rw [HT.sIx_none, HT.sIx_nat, List.drop_zero, Nat.sub_zero]
  by_cases h : j ≤ xs.length
  · rw [Nat.min_eq_left h]
  · rw [Nat.min_eq_right (by (first | lia | omega)), List.take_length, List.take_of_length_le (by (first | lia | omega))]
theorem cut_from (xs : List V) (j : Nat) : cutV xs (some (j : Int)) none = xs.drop j := by
  unfold cutV
  rw [HT.sIx_none, HT.sIx_nat]
  by_cases h : j ≤ xs.length
  · rw [Nat.min_eq_left h, List.take_of_length_le (by rw [List.length_drop]; exact Nat.le_refl _)]
  · rw [Nat.min_eq_right (by (first | lia | omega)), Nat.sub_self, List.take_zero, List.drop_of_length_le (by (first | lia | omega))]
/-! ## the signs of terms -/
theorem val_len {z : Str} (h : isVal z = true) : z.length ≤ 8 := by
  unfold isVal at h
  rw [Bool.and_eq_true, Bool.and_eq_true] at h
  have := of_decide_eq_true h.2.1
  (first | lia | omega)
theorem slice1 {z : Str} (h : 1 ≤ z.length) : (Txt.slice z (some 1) none).cps.toList = z.cps.toList.drop 1 := by
  have e := slice_from_eq (x := z) (i := 1) (b := (z.length : Int)) (by decide) (by (first | lia | omega)) rfl
  rw [e]
  show (z.cps.toList.drop 1).take ((z.length : Int) - 1).toNat = z.cps.toList.drop 1
  refine List.take_of_length_le ?_
  rw [List.length_drop]
  have : z.cps.toList.length = z.length := by simp [Str.length]
  (first | lia | omega)
theorem val_sgn {z : Str} (h : isVal z = true) : 1 ≤ z.length ∧ ∀ c ∈ z.cps.toList, sgn c = true := by
  unfold isVal at h
  rw [Bool.and_eq_true, Bool.and_eq_true] at h
  have := of_decide_eq_true h.1
  exact ⟨by (first | lia | omega), fun c hc => List.all_eq_true.mp h.2.2 _ (List.mem_map_of_mem hc)⟩
theorem unk_at {z : Str} (h : isUnk z = true) : ∃ r, z.cps.toList = 63 :: r ∧ 1 ≤ z.length ∧ z.length ≤ 9 ∧ ∀ c ∈ r, sgn c = true := by
  unfold isUnk at h
  rw [Bool.and_eq_true] at h
  have lz : z.cps.toList.length = z.length := by simp [Str.length]
  cases e : z.cps.toList with
  | nil =>
    have h1 := h.1
    rw [starts_none (by rw [e]; rfl)] at h1
    cases h1
  | cons c r =>
    have e0 : z.cps.toList[0]? = some c := by rw [e]; rfl
    have h1 := h.1
    rw [starts_q e0, decide_eq_true_iff] at h1
    have ec : c = 63 := by
      have := congrArg (fun s : Str => s.cps.toList) h1
      have : [c] = ("?" : Str).cps.toList := this
      rw [show ("?" : Str).cps.toList = [63] by decide +kernel] at this
      injection this
    rw [e, List.length_cons] at lz
    have es := slice1 (z := z) (by (first | lia | omega))
    rw [e] at es
    have es : (Txt.slice z (some 1) none).cps.toList = r := es
    have l1 := val_len h.2
    have l2 : (Txt.slice z (some 1) none).length = r.length := by rw [← es]; simp [Str.length]
    refine ⟨r, by rw [ec], by (first | lia | omega), by (first | lia | omega), fun c hc => ?_⟩
    exact (val_sgn h.2).2 c (by rw [es]; exact hc)
theorem term_sgn {z : Str} (h : isTerm z = true) : 1 ≤ z.length ∧ z.length ≤ 9 ∧ ∀ c ∈ z.cps.toList, sgn c = true ∨ c = 63 := by
  unfold isTerm at h
  rw [Bool.or_eq_true] at h
  rcases h with h | h
  · have h1 := val_sgn h
    have h2 := val_len h
    exact ⟨h1.1, by (first | lia | omega), fun c hc => .inl (h1.2 c hc)⟩
  · obtain ⟨r, e, h1, h2, h3⟩ := unk_at h
    refine ⟨h1, h2, fun c hc => ?_⟩
    rw [e] at hc
    rcases List.mem_cons.mp hc with hc | hc
    · exact .inr hc
    · exact .inl (h3 c hc)
theorem term_len {z : Str} (h : isTerm z = true) : z.length ≤ 9 := (term_sgn h).2.1
theorem sgn_44 : sgn 44 = false := by decide +kernel
theorem sgn_32 : sgn 32 = false := by decide +kernel
theorem term_free {z : Str} (h : isTerm z = true) : 44 ∉ z.cps.toList ∧ 32 ∉ z.cps.toList := by
  have := (term_sgn h).2.2
  refine ⟨fun hc => ?_, fun hc => ?_⟩
  · rcases this _ hc with q | q
    · rw [sgn_44] at q
      cases q
    · cases q
  · rcases this _ hc with q | q
    · rw [sgn_32] at q
      cases q
    · cases q
theorem val_term {z : Str} (h : isVal z = true) : isTerm z = true := by
  unfold isTerm
  rw [h]
  rfl
theorem sgn_small {c : Nat} (h : sgn c = true) : c < 0x110000 := by
  unfold sgn at h
  rw [StrLaws.found_one, decide_eq_true_iff] at h
  have : (SIGNS.cps.toList.all fun c => decide (c < 0x110000)) = true := by decide +kernel
  exact of_decide_eq_true (List.all_eq_true.mp this c h)
theorem term_ok {z : Str} (h : isTerm z = true) : PyData.strOk z = true := by
  unfold PyData.strOk
  rw [← Array.all_toList, List.all_eq_true]
  intro c hc
  refine decide_eq_true ?_
  rcases (term_sgn h).2.2 c hc with q | q
  · exact sgn_small q
  · rw [q]
    decide
end K04

set_option Elab.async false
set_option linter.all false
set_option maxRecDepth 100000
set_option maxHeartbeats 4000000
namespace K04
open PySem PySem.Spec PyProof.Rows L2
seal L2.PE L2.PT L2.PW L2.PA L2.PS L2.PSs L2.PI L2.PO L2.PPs L2.PG L2.PGs
/-! ## the unknowns of a question, in order, each once -/
noncomputable def step (acc : List Str) (t : Str) : List Str := if isUnk t = true then (if t ∈ acc then acc else acc ++ [t]) else acc
noncomputable def unkL (fl : List Str) : List Str := fl.foldl step []
theorem len_step (acc : List Str) (t : Str) : (step acc t).length ≤ acc.length + 1 := by
  unfold step
  split
  · split
    · (first | assumption | exact Nat.le_trans (by assumption) (by decide) | exact Nat.lt_of_lt_of_le (by assumption) (by decide) | lia | omega)
    · rw [List.length_append]; exact Nat.le_refl _
  · (first | assumption | exact Nat.le_trans (by assumption) (by decide) | exact Nat.lt_of_lt_of_le (by assumption) (by decide) | lia | omega)
theorem len_fold : ∀ (fl acc : List Str), (fl.foldl step acc).length ≤ acc.length + fl.length
  | [], acc => by simp
  | t :: r, acc => by
    have h1 := len_fold r (step acc t)
    have h2 := len_step acc t
    rw [List.foldl_cons, List.length_cons]
    (first | assumption | exact Nat.le_trans (by assumption) (by decide) | exact Nat.lt_of_lt_of_le (by assumption) (by decide) | lia | omega)
theorem len_unk (fl : List Str) : (unkL fl).length ≤ fl.length := by
  have := len_fold fl []
  simpa [unkL] using this
theorem unk_snoc (fl : List Str) (t : Str) : unkL (fl ++ [t]) = step (unkL fl) t := by
  unfold unkL
  rw [List.foldl_append]
  rfl
noncomputable def keysD (acc : List Str) : List (Key × V) := acc.map fun t => (Sum.inr t, V.bl true)
theorem any_keys (acc : List Str) (t : Str) : ((keysD acc).any fun kv => decide (kv.1 = (Sum.inr t : Key))) = decide (t ∈ acc) := by
  unfold keysD
  rw [List.any_map, Bool.eq_iff_iff, List.any_eq_true]
  constructor
  · rintro ⟨x, hx, e⟩
    have e' : (Sum.inr x : Key) = Sum.inr t := of_decide_eq_true e
    injection e' with e'
    exact decide_eq_true (e' ▸ hx)
  · intro h
    exact ⟨t, of_decide_eq_true h, decide_eq_true rfl⟩
theorem put_keys (acc : List Str) (t : Str) : putK (keysD acc) (Sum.inr t : Key) (V.bl true) = keysD (if t ∈ acc then acc else acc ++ [t]) := by
  unfold putK
  rw [any_keys]
  by_cases h : t ∈ acc
  · rw [decide_eq_true h, if_pos rfl, if_pos h]
    unfold keysD
    rw [List.map_map]
    refine List.map_congr_left fun x _ => ?_
    show (if (Sum.inr x : Key) = Sum.inr t then ((Sum.inr x : Key), V.bl true) else (Sum.inr x, V.bl true)) = _
    split <;> rfl
  · rw [decide_eq_false h, if_neg Bool.false_ne_true, if_neg h]
    unfold keysD
    rw [List.map_append]
    rfl
theorem keys_back (acc : List Str) : ((keysD acc).map fun kv => kV kv.1) = acc.map V.str := by
  unfold keysD
  rw [List.map_map]
  rfl
/-! ## unknowns, loose ones, of any words -/
noncomputable def GoodG (ats : List (Str × List Str)) : Prop := ∀ a ∈ ats, a.2.length ≤ 4 ∧ ∀ z ∈ a.2, z.length ≤ 100000
noncomputable def spUnkG : Sp := fun vs H Q _ => ∃ (v : V) (hz : List Str) (ats : List (Str × List Str)), vs = [v] ∧ QAt H v hz ats ∧ GoodG ats ∧ ats.length ≤ 100 ∧ ∀ (r : Addr) (H' : Hp), Same H H' → H r = none → H' r = some (.lst ((unkL (flatA ats)).map V.str)) → Q (.ref r) H'
theorem mem_step1 {acc : List Str} {t z : Str} (h : z ∈ acc) : z ∈ step acc t := by
  unfold step
  split
  · split
    · exact h
    · exact List.mem_append_left _ h
  · exact h
theorem mem_step2 {acc : List Str} {z : Str} (h : isUnk z = true) : z ∈ step acc z := by
  unfold step
  rw [if_pos h]
  split
  · assumption
  · exact List.mem_append_right _ (List.mem_singleton.mpr rfl)
theorem mem_foldU {z : Str} : ∀ {fl acc : List Str}, z ∈ acc ∨ (isUnk z = true ∧ z ∈ fl) → z ∈ fl.foldl step acc
  | [], acc, h => by
    rcases h with h | ⟨_, h⟩
    · exact h
    · cases h
  | t :: r, acc, h => by
    rw [List.foldl_cons]
    refine mem_foldU ?_
    rcases h with h | ⟨hu, h⟩
    · exact .inl (mem_step1 h)
    · rcases List.mem_cons.mp h with e | h
      · subst e
        exact .inl (mem_step2 hu)
      · exact .inr ⟨hu, h⟩
theorem mem_unk {z : Str} {fl : List Str} (hu : isUnk z = true) (h : z ∈ fl) : z ∈ unkL fl := mem_foldU (.inr ⟨hu, h⟩)
theorem inV_str (z : Str) (l : List Str) : inV (.str z) (l.map V.str) = decide (z ∈ l) := by
  unfold inV
  rw [List.any_map, Bool.eq_iff_iff, List.any_eq_true]
  constructor
  · rintro ⟨y, hy, e⟩
    have e' : (y == z) = true := e
    rw [eq_of_beq e'] at hy
    exact decide_eq_true hy
  · intro h
    exact ⟨z, of_decide_eq_true h, by show (z == z) = true; simp⟩
theorem flat_strs (acc : List Str) : (acc.map V.str).all flatV = true := by
  rw [List.all_map]
  exact List.all_eq_true.mpr fun _ _ => rfl
theorem at_strs {zs : List Str} {i : Nat} {y : V} (h : (zs.map V.str)[i]? = some y) : ∃ z, zs[i]? = some z ∧ y = V.str z := by
  rw [List.getElem?_map] at h
  cases e : zs[i]? with
  | none => rw [e] at h; cases h
  | some z => rw [e] at h; exact ⟨z, rfl, (Option.some.inj h).symm⟩
theorem unk_mem {z : Str} : ∀ {fl acc : List Str}, z ∈ fl.foldl step acc → z ∈ acc ∨ z ∈ fl
  | [], acc, h => .inl h
  | t :: r, acc, h => by
    rw [List.foldl_cons] at h
    rcases unk_mem h with h | h
    · unfold step at h
      split at h
      · split at h
        · exact .inl h
        · rcases List.mem_append.mp h with h | h
          · exact .inl h
          · exact .inr (List.mem_cons.mpr (.inl (List.mem_singleton.mp h)))
      · exact .inl h
    · exact .inr (List.mem_cons_of_mem _ h)
theorem unk_iff {z : Str} {fl : List Str} (hu : isUnk z = true) : z ∈ unkL fl ↔ z ∈ fl := ⟨fun h => (unk_mem h).resolve_left (fun h => by cases h), mem_unk hu⟩
noncomputable def looseB (ats : List (Str × List Str)) (z : Str) : Bool := isUnk z && !decide (z ∈ flatA ats)
noncomputable def looseL (hz : List Str) (ats : List (Str × List Str)) : List Str := hz.filter (looseB ats)
noncomputable def spLooseG : Sp := fun vs H Q _ => ∃ (v : V) (hz : List Str) (ats : List (Str × List Str)), vs = [v] ∧ QAt H v hz ats ∧ GoodG ats ∧ ats.length ≤ 100 ∧ hz.length ≤ 100 ∧ (∀ z ∈ hz, z.length ≤ 100000) ∧ ∀ (r : Addr) (H' : Hp), Same H H' → H r = none → H' r = some (.lst ((looseL hz ats).map V.str)) → Q (.ref r) H'
section
variable {P : Program} {w : World} {K : PySem.W.Frag} {mg : Str → Option Value} {base : Heap}
theorem sc_unknowns_of : FnScope ["question", "found", "atom", "term"] ["question"] (defScope s_unknowns_of) := ⟨rfl, rfl, rfl, by decide +kernel, rfl, by decide +kernel, by decide +kernel⟩
theorem ok_unknowns_of {f : Addr} {fd : FuncData} (F : Fun K "unknowns_of" "unknowns_of" s_unknowns_of f fd) (T : Txt K mg) (D : Dv2 P w K mg base) : FnOk P w K mg base CX0 3 f fd ["question"] spUnkG := by
  refine F.ok sc_unknowns_of (fun vs H Q E h => ?_) (fun cdv A outer s H vs Q E hr h => ?_)
  · obtain ⟨a, b, c, rfl, _⟩ := h
    rfl
  obtain ⟨v, hz0, ats, rfl, ⟨q, hd, aa, avs, rfl, hq, hhd, haa, hats⟩, good, hlen, k⟩ := h
  have hu := hu_of hr
  refine ⟨_, (pss_cons (ps_set (i := 1) sc_unknowns_of.nd rfl (Or.inl rfl) pe_dnewK)
      (pss_cons (ps_for PassesOwn.never rfl (pi_tup (pe_ix ix_tup (pv 0) pe_int (fun _ _ => rfl))) (pg_name (i := 2) sc_unknowns_of.nd rfl (Or.inl rfl))
      (pss_one (ps_for PassesOwn.never rfl (pi_tup (pe_ix ix_tup (pv 2) pe_int (fun _ _ => rfl))) (pg_name (i := 3) sc_unknowns_of.nd rfl (Or.inl rfl))
      (pss_one (ps_if (pt_val (cl D.is_unknown hr (pa_cons (pv 3) pa_nil))) (pss_one (ps_dput hu (pv 1) (pv 3) pe_bl rfl)) pss_nil)))))
      (pss_one (ps_ret (pe_callTy (call_list_dict rfl) rfl T.n_list (by decide +kernel) (pa_cons (pv 1) pa_nil)))))), ?_⟩
  have la : avs.length = ats.length := Paired.length hats
  intro d hd0
  refine ⟨_, rfl, _, _, _, _, rfl, rfl, SqT.of (same_new hd0 _ _ _ hq), rfl, aa, rfl, ⟨avs, SqT.of (same_new hd0 _ _ _ haa)⟩, for_tup (K := K) (a := aa) (xs := avs)
    (fun i σ H2 => ∃ (x2 x3 : Option V), σ = [some (.ref q), some (.ref d), x2, x3] ∧ Same H H2 ∧ H2 d = some (.dK (keysD (unkL (flatA (ats.take i)))))) ⟨none, none, rfl, same_new hd0 _, upd_same⟩ (fun i σ H2 _ hq => by (obtain ⟨_, _, _, sm, _⟩ := hq; exact SqT.of (sm _ _ haa))) ?_ ?_⟩
  · rintro i x σ H2 hx ⟨x2, x3, rfl, sm, hd2⟩
    obtain ⟨ta, ht, p, t, rfl, hp, htt⟩ := Paired.at hats hx
    have g := good ta (List.mem_of_getElem? ht)
    have hi : i < ats.length := (List.getElem?_eq_some_iff.mp ht).1
    have lf := len_all (ats.take i) fun a ha => (good a (List.mem_of_mem_take ha)).1
    have lti : (ats.take i).length ≤ i := by rw [List.length_take]; (first | assumption | exact Nat.le_trans (by assumption) (by decide) | exact Nat.lt_of_lt_of_le (by assumption) (by decide) | lia | omega)
    refine ⟨_, rfl, _, _, _, _, rfl, rfl, SqT.of (sm _ _ hp), rfl, t, rfl, ⟨_, SqT.of (sm _ _ htt)⟩, for_tup (K := K) (a := t) (xs := ta.2.map V.str)
      (fun j σ H3 => ∃ (x3 : Option V), σ = [some (.ref q), some (.ref d), some (.ref p), x3] ∧ Same H H3 ∧ H3 d = some (.dK (keysD (unkL (flatA (ats.take i) ++ ta.2.take j))))) ⟨x3, rfl, sm, by rw [List.take_zero, List.append_nil]; exact hd2⟩ (fun j σ H3 _ hq => by (obtain ⟨_, _, sm', _⟩ := hq; exact SqT.of (sm' _ _ htt))) ?_ ?_⟩
    · rintro j y σ H3 hy ⟨x3, rfl, sm3, hd3⟩
      obtain ⟨z, hz, rfl⟩ := at_strs hy
      have hz9 := g.2 z (List.mem_of_getElem? hz)
      have hj : j < ta.2.length := (List.getElem?_eq_some_iff.mp hz).1
      refine ⟨_, rfl, z, rfl, by (first | assumption | exact Nat.le_trans (by assumption) (by decide) | exact Nat.lt_of_lt_of_le (by assumption) (by decide) | lia | omega), fun H4 sm4 => ⟨_, rfl, ?_⟩⟩
      have hd4 := sm4 _ _ hd3
      have en : unkL (flatA (ats.take i) ++ ta.2.take (j + 1)) = step (unkL (flatA (ats.take i) ++ ta.2.take j)) z := by
        rw [List.take_add_one, hz, ← unk_snoc, List.append_assoc]
        rfl
      have lu := len_unk (flatA (ats.take i) ++ ta.2.take j)
      rw [List.length_append, List.length_take] at lu
      refine ite2 (fun c1 => ?_) (fun c1 => ?_)
      · refine ⟨_, rfl, _, rfl, d, _, rfl, DPut.k (k := Sum.inr z) hd4 (by unfold keysD; rw [List.length_map]; exact small1000 (by (first | assumption | exact Nat.le_trans (by assumption) (by decide) | exact Nat.lt_of_lt_of_le (by assumption) (by decide) | lia | omega))), ?_⟩
        refine ⟨_, rfl, fun b u e => ?_, ?_⟩
        · rw [upd_ne (ne_of_none e hd0)]
          exact sm4 _ _ (sm3 _ _ e)
        · rw [upd_same, put_keys, en]
          unfold step
          rw [if_pos c1]
      · refine ⟨_, rfl, sm3.trans sm4, ?_⟩
        rw [en]
        unfold step
        rw [if_neg c1]
        exact hd4
    · rintro σ H3 ⟨x3, rfl, sm3, hd3⟩
      refine ⟨_, _, rfl, sm3, ?_⟩
      rw [List.length_map, List.take_length] at hd3
      rw [flatA_take ht]
      exact hd3
  · rintro σ H2 ⟨x2, x3, rfl, sm, hd2⟩
    rw [la, List.take_length] at hd2
    refine ⟨_, rfl, d, _, rfl, hd2, fun l hl => ?_⟩
    refine k l _ (sm.trans (same_new hl _)) (sm.free hl) ?_
    rw [upd_same, keys_back]
structure Dl1 (P : Program) (w : World) (K : PySem.W.Frag) (mg : Str → Option Value) (base : Heap) : Prop extends Dv2 P w K mg base where
  unknowns_of : DefOk P w K mg base 3 "unknowns_of" ["question"] spUnkG
theorem filt_take {g : Str → Bool} {l : List Str} {i : Nat} {x : Str} (e : l[i]? = some x) : (l.take (i + 1)).filter g = (l.take i).filter g ++ (if g x = true then [x] else []) := by
  rw [List.take_add_one, e, List.filter_append]
  congr 1
  show List.filter g [x] = _
  rw [List.filter_cons]
  rfl
theorem sc_loose_unknowns : FnScope ["question", "bound"] ["question"] (defScope s_loose_unknowns) := ⟨rfl, rfl, rfl, by decide +kernel, rfl, by decide +kernel, by decide +kernel⟩
theorem ok_loose {f : Addr} {fd : FuncData} (F : Fun K "loose_unknowns" "loose_unknowns" s_loose_unknowns f fd) (T : Txt K mg) (D : Dl1 P w K mg base) : FnOk P w K mg base CX0 4 f fd ["question"] spLooseG := by
  refine F.ok sc_loose_unknowns (fun vs H Q E h => ?_) (fun cdv A outer s H vs Q E hr h => ?_)
  · obtain ⟨a, b, c, rfl, _⟩ := h
    rfl
  obtain ⟨v, hz, ats, rfl, hQ, good, hlen, hl4, hz5, k⟩ := h
  refine ⟨_, (pss_cons (ps_set (i := 1) sc_loose_unknowns.nd rfl (Or.inr rfl) (cl D.unknowns_of hr (pa_cons (pv 0) pa_nil)))
      (pss_one (ps_ret (pe_compIf rfl (compSc_mk (fs := ["bound"]) (fr := [1])) (pi_tup (pe_ix ix_tup (pv 0) pe_int (fun _ _ => rfl))) (fun _ _ _ _ => (PW.pt (pw_and (pt_val (cl D.is_unknown hr (pa_cons (pv 0) pa_nil))) (pw_and1 (pt_cmpR (op_notIn_seqK (K := K)) (pv 0) (pv 1) (by with_unfolding_all rfl)))))) (fun _ _ _ _ => (pv 0)))))), ?_⟩
  refine ⟨_, rfl, v, hz, ats, rfl, hQ, good, hlen, fun r H4 sm4 nr hr4 => ?_⟩
  obtain ⟨q, hd, aa, avs, rfl, hq, hhd, haa, hats⟩ := hQ
  have lh : (hz.map V.str).length = hz.length := List.length_map _
  refine ⟨_, rfl, _, _, _, _, rfl, rfl, SqT.of (sm4 _ _ hq), rfl, hd, rfl, ⟨_, SqT.of (sm4 _ _ hhd)⟩, comp_tup (K := K) (a := hd) (xs := hz.map V.str) (fun i ys H5 => Same H4 H5 ∧ i ≤ hz.length ∧ ys = ((hz.take i).filter (looseB ats)).map V.str) (by rw [lh]; exact small1000 (by (first | assumption | exact Nat.le_trans (by assumption) (by decide) | exact Nat.lt_of_lt_of_le (by assumption) (by decide) | lia | omega))) ⟨Same.refl H4, Nat.zero_le _, rfl⟩ ?_ ?_ ?_⟩
  · rintro i ys H5 hi ⟨sm5, hi2, rfl⟩
    refine ⟨SqT.of (sm5 _ _ (sm4 _ _ hhd)), ?_⟩
    rw [List.length_map]
    exact Nat.le_trans (List.length_filter_le _ _) (by rw [List.length_take]; (first | assumption | exact Nat.le_trans (by assumption) (by decide) | exact Nat.lt_of_lt_of_le (by assumption) (by decide) | lia | omega))
  · rintro i x ys H5 N hc ⟨sm5, hi, rfl⟩ hN
    obtain ⟨z, hz1, rfl⟩ := at_strs hc
    have hlt : i < hz.length := (List.getElem?_eq_some_iff.mp hz1).1
    have ft := filt_take (g := looseB ats) hz1
    refine ⟨_, rfl, z, rfl, hz5 z (List.mem_of_getElem? hz1), fun H6 sm6 => ⟨_, rfl, ?_⟩⟩
    refine ite2 (fun c4 => ?_) (fun c4 => ?_)
    · have c4 : isUnk z = true := c4
      refine ⟨_, rfl, _, rfl, r, _, rfl, .inl (SqL.of (sm6 _ _ (sm5 _ _ hr4))), rfl, flat_strs _, _, rfl, ?_⟩
      have ein : inV (.str z) ((unkL (flatA ats)).map V.str) = decide (z ∈ flatA ats) := by
        rw [inV_str, Bool.eq_iff_iff, decide_eq_true_iff, decide_eq_true_iff, unk_iff c4]
      refine ite2 (fun c5 => ?_) (fun c5 => ?_)
      · have c5 : (!inV (.str z) ((unkL (flatA ats)).map V.str)) = true := c5
        rw [ein] at c5
        refine ⟨_, rfl, hN _ _ ⟨sm5.trans sm6, hlt, ?_⟩⟩
        rw [ft, if_pos (by unfold looseB; rw [c4, c5]; rfl), List.map_append]
        rfl
      · have c5 : ¬ (!inV (.str z) ((unkL (flatA ats)).map V.str)) = true := c5
        rw [ein] at c5
        refine hN _ _ ⟨sm5.trans sm6, hlt, ?_⟩
        rw [ft, if_neg (by unfold looseB; rw [c4, Bool.true_and]; exact c5), List.append_nil]
    · have c4 : ¬ isUnk z = true := c4
      refine iteF (hN _ _ ⟨sm5.trans sm6, hlt, ?_⟩)
      rw [ft, if_neg (by unfold looseB; rw [Bool.eq_false_iff.mpr c4]; exact Bool.false_ne_true), List.append_nil]
  · rintro ys H5 ⟨sm5, _, rfl⟩ l hl'
    have sm := sm4.trans sm5
    refine k l _ (sm.trans (same_new hl' _)) (sm.free hl') ?_
    rw [upd_same, lh, List.take_length]
    rfl
end
end K04

set_option Elab.async false
set_option linter.all false
set_option maxRecDepth 100000
set_option maxHeartbeats 4000000
namespace K04
open PySem PySem.Spec PyProof.Rows L2
seal L2.PE L2.PT L2.PW L2.PA L2.PS L2.PSs L2.PI L2.PO L2.PPs L2.PG L2.PGs
/-! ## refusals: an error of one's own with one field -/
noncomputable def errTo (E : XK) (H : Hp) (C : Addr) (fld : Str) (v : V) : Prop := ∀ (d : Addr) (H' : Hp), Same H H' → H' d = some (.xd [(fld, v)]) → E (.ref C) (some d) H'
theorem raise_end {K : PySem.W.Frag} {E : XK} {H H1 : Hp} {C : Addr} {fld : Str} {v : V} (h : errTo E H C fld v) (sm : Same H H1) (hv : (∃ z : Str, v = .str z ∧ z.length ≤ 1000) ∨ ∃ i : Int, v = .int i ∧ i.natAbs.log2 < 1920) (q : excInI K C bmV "ValueError.__new__" = true) :
    [v].length ≤ 1000 ∧ ∀ a, H1 a = none → spInit C fld (.ref a :: [v]) (upd H1 a (.ext (ExcF a C none))) (fun u H2 => u = .non ∧ ∃ (e C' : Addr) (dd : Option Addr), V.ref a = .ref e ∧ H2 e = some (.ext (ExcF e C' dd)) ∧ excInI K C' bmV "ValueError.__new__" = true ∧ E (.ref C') dd (gone H2 e C' dd)) E0 := by
  refine ⟨by show 1 ≤ 1000; decide, fun a ha => ⟨a, v, rfl, upd_same, hv, fun d hd nd => ⟨rfl, a, C, some d, rfl, ?_, q, ?_⟩⟩⟩
  · rw [upd_ne (Ne.symm nd), upd_same]
  · refine h d _ (fun b u e => ?_) ?_
    · have e1 := sm _ _ e
      have n1 := ne_of_none e1 ha
      have n2 : b ≠ d := fun z => by
        rw [← z, upd_ne n1, e1] at hd
        cases hd
      rw [gone_ne n1, upd_ne n2, upd_ne n1, upd_ne n1]
      exact e1
    · rw [gone_ne nd, upd_same]
theorem small_int (n : Nat) (h : n ≤ 100000) : ((n : Int)).natAbs.log2 < 1920 := by
  rw [Int.natAbs_natCast]
  by_cases h0 : n = 0
  · rw [h0]
    decide
  · rw [Nat.log2_lt h0]
    exact Nat.lt_of_le_of_lt h (by decide +kernel)
/-! ## reading -/
noncomputable abbrev cl1 : Str := ":"
noncomputable abbrev co1 : Str := ","
theorem T_cl : isTerm cl1 = false := by decide +kernel
theorem T_co : isTerm co1 = false := by decide +kernel
noncomputable abbrev hdW (k : Nat) (r : List Str) : Nat ⊕ Nat := P4.hdP isTerm cl1 k r
noncomputable abbrev atW (k : Nat) (r : List Str) : Nat ⊕ (Str × List Str) := P4.atP isVal isTerm k r
noncomputable abbrev atsW4 (fuel a k : Nat) (r : List Str) : Nat ⊕ List (Str × List Str) := P4.atsP isVal isTerm co1 fuel a k r
noncomputable def WAt (H : Hp) (wl : Addr) (ws : List Str) : Prop := H wl = some (.lst (ws.map V.str)) ∧ ws.length ≤ 95000 ∧ ∀ z ∈ ws, z.length ≤ 100000
theorem noPart {σ : L2.St} {H : Hp} {q : Option Int → Hp → Prop} (h : q none H) : tNoPart σ H q := h
theorem cut_mid {ws xs rest : List Str} {lo : Nat} (h : ws.drop lo = xs ++ rest) (hx : 1 ≤ xs.length ∨ lo ≤ ws.length) : cutV (ws.map V.str) (some (lo : Int)) (some ((lo + xs.length : Nat) : Int)) = xs.map V.str := by
  have h1 := congrArg List.length h
  rw [List.length_drop, List.length_append] at h1
  have h2 : lo ≤ ws.length := by (first | lia | omega)
  unfold cutV
  rw [HT.sIx_nat, HT.sIx_nat, List.length_map, Nat.min_eq_left h2, Nat.min_eq_left (by (first | lia | omega)), ← List.map_drop, h, show lo + xs.length - lo = xs.length by (first | lia | omega), List.map_append]
  exact List.take_left' (by rw [List.length_map])
theorem cut_first {ws xs rest : List Str} (h : ws = xs ++ rest) : cutV (ws.map V.str) none (some ((xs.length : Nat) : Int)) = xs.map V.str := by
  subst h
  unfold cutV
  rw [HT.sIx_nat, HT.sIx_none, List.length_map, Nat.min_eq_left (by rw [List.length_append]; (first | lia | omega)), List.drop_zero, Nat.sub_zero, List.map_append]
  exact List.take_left' (by rw [List.length_map])
theorem at_drop {ws r : List Str} {k : Nat} {z : Str} (h : ws.drop k = z :: r) : k < ws.length ∧ ws[k]? = some z ∧ ws.drop (k + 1) = r := by
  have h1 := congrArg List.length h
  rw [List.length_drop, List.length_cons] at h1
  have hk : k < ws.length := by (first | lia | omega)
  have e0 : (ws.drop k)[0]? = some z := by rw [h]; rfl
  refine ⟨hk, by rw [List.getElem?_drop] at e0; exact e0, ?_⟩
  rw [← List.drop_drop, h]
  rfl
theorem drop_at {α : Type} {l : List α} {i : Nat} {a : α} (h : l[i]? = some a) : l.drop i = a :: l.drop (i + 1) := by
  have hi := (List.getElem?_eq_some_iff.mp h).1
  rw [List.drop_eq_getElem_cons hi, (List.getElem?_eq_some_iff.mp h).2]
theorem at_idx {ws : List Str} {k : Nat} {i : Int} {z : Str} (e : i = (k : Int)) (h : ws[k]? = some z) : atI (ws.map V.str) i = some (.str z) := by
  rw [e]
  exact atI_nat (by rw [List.getElem?_map, h]; rfl)
structure De (P : Program) (w : World) (K : PySem.W.Frag) (mg : Str → Option Value) (base : Heap) (c4 c0 : Addr) : Prop extends Dv2 P w K mg base where
  is_term : DefOk P w K mg base 3 "is_term" ["thing"] spTrm
  m_NoText : mg "NoText" = some (.ref c4)
  k_NoText : PySem.W.keepIn K (.ref c4) = true
  q_NoText : excInI K c4 bmV "ValueError.__new__" = true
  x_NoText : ∃ (f : Addr) (fd : FuncData), PySem.W.findIn K (.ref c4) "__init__" = some (some (.ref f)) ∧ PySem.W.isFn K (.ref f) = true ∧ FnOk P w K mg base CX0 1 f fd ["self", "at"] (spInit c4 "at") ∧ Binds K fd ["self", "at"] []
  m_Loose : mg "Loose" = some (.ref c0)
  k_Loose : PySem.W.keepIn K (.ref c0) = true
  q_Loose : excInI K c0 bmV "ValueError.__new__" = true
  x_Loose : ∃ (f : Addr) (fd : FuncData), PySem.W.findIn K (.ref c0) "__init__" = some (some (.ref f)) ∧ PySem.W.isFn K (.ref f) = true ∧ FnOk P w K mg base CX0 1 f fd ["self", "unknown"] (spInit c0 "unknown") ∧ Binds K fd ["self", "unknown"] []
noncomputable def spHead4 (c4 : Addr) : Sp := fun vs H Q E => ∃ (wl : Addr) (ws : List Str), vs = [.ref wl] ∧ WAt H wl ws ∧ (match hdW 0 ws with
  | .inl j => errTo E H c4 "at" (.int (j : Int))
  | .inr j => ∀ (r : Addr) (H' : Hp), Same H H' → H' r = some (.tup ((ws.take j).map V.str)) → Q (.ref r) H')
section
variable {P : Program} {w : World} {K : PySem.W.Frag} {mg : Str → Option Value} {base : Heap} {c4 c0 : Addr}
theorem pe_noText {X : Cx} {D : De X.prog X.w X.K X.mg X.base c4 c0} {j : Nat} {e : Expr} {t : TA} {p pos : Pos} (hr : Room j X.A) (ha : PA X [e] t) (hj : 2 ≤ j := by decide) (hg : Gl X "NoText" := by rfl) (he : starEach [e] X.env = (false, eval e X.env) :: starEach [] X.env := by rfl) : PE X (.Call (.Name "NoText" p) [e] [] pos) (tExcI c4 (spInit c4 "at") E0 t) := by
  obtain ⟨f, fd, h1, h2, h3, h4⟩ := D.x_NoText
  exact pe_excI D.q_NoText D.k_NoText h1 h2 h3 (hr.mono hj) h4 pass0 hg D.m_NoText ha (by decide) he rfl
theorem pe_loose {X : Cx} {D : De X.prog X.w X.K X.mg X.base c4 c0} {j : Nat} {e : Expr} {t : TA} {p pos : Pos} (hr : Room j X.A) (ha : PA X [e] t) (hj : 2 ≤ j := by decide) (hg : Gl X "Loose" := by rfl) (he : starEach [e] X.env = (false, eval e X.env) :: starEach [] X.env := by rfl) : PE X (.Call (.Name "Loose" p) [e] [] pos) (tExcI c0 (spInit c0 "unknown") E0 t) := by
  obtain ⟨f, fd, h1, h2, h3, h4⟩ := D.x_Loose
  exact pe_excI D.q_Loose D.k_Loose h1 h2 h3 (hr.mono hj) h4 pass0 hg D.m_Loose ha (by decide) he rfl
theorem sc_read_head : FnScope ["words", "at", "word"] ["words"] (defScope s_read_head) := ⟨rfl, rfl, rfl, by decide +kernel, rfl, by decide +kernel, by decide +kernel⟩
theorem ok_read_head {f : Addr} {fd : FuncData} (F : Fun K "read_head" "read_head" s_read_head f fd) (T : Txt K mg) (D : De P w K mg base c4 c0) : FnOk P w K mg base (CXE P w) 4 f fd ["words"] (spHead4 c4) := by
  have DE := D
  refine F.okE sc_read_head (fun vs H Q E h => ?_) (fun cdv A outer s H vs Q E hr h => ?_)
  · obtain ⟨a, b, rfl, _⟩ := h
    rfl
  obtain ⟨wl, ws, rfl, ⟨hw, hwl, hwz⟩, k⟩ := h
  refine ⟨_, (pss_cons (ps_for PassesOwn.leaving rfl (pi_enum rfl T.n_enumerate (pa_cons (pv 0) pa_nil)) (pg_tup rfl (pgs_cons (pg_name (i := 1) sc_read_head.nd rfl (Or.inl rfl)) (pgs_cons (pg_name (i := 2) sc_read_head.nd rfl (Or.inl rfl)) pgs_nil)))
      (pss_cons (ps_if (pt_cmpR op_eq (pv 2) pe_str (nomark _)) (pss_one (ps_ret (pe_callTy call_tuple_of rfl T.n_tuple (by decide +kernel) (pa_cons (pe_slice sl_list (pv 0) po_none (po_some (pv 1))) pa_nil)))) pss_nil)
      (pss_one (ps_if (PW.pt (pw_or (pt_cmpR op_eq (pv 1) (pe_globI rfl T.g_MOST_TERMS) (nomark _)) (pw_or1 (pt_not (pt_val (cl D.is_term hr (pa_cons (pv 2) pa_nil))))))) (pss_one (ps_raise (pe_noText (D := DE) hr (pa_cons (pv 1) pa_nil)) lets_cx hr.hd)) pss_nil))))
      (pss_one (ps_raise (pe_noText (D := DE) hr (pa_cons (pe_callB call_len rfl T.n_len PySem.boot_len (pa_cons (pv 0) pa_nil)) pa_nil)) lets_cx hr.hd))), ?_⟩
  refine seq_hide fun T0 e0 => ?_
  refine ⟨_, rfl, wl, rfl, ⟨_, SqL.of hw⟩, for_enum (K := K) (a := wl) (xs := ws.map V.str)
    (fun i σ H2 => ∃ (x1 x2 : Option V), σ = [some (.ref wl), x1, x2] ∧ Same H H2 ∧ i ≤ 4 ∧ i ≤ ws.length ∧ hdW 0 ws = hdW i (ws.drop i)) ⟨none, none, rfl, Same.refl H, Nat.zero_le _, Nat.zero_le _, rfl⟩ (fun i σ H2 _ hq => by (obtain ⟨_, _, _, sm, _⟩ := hq; exact SqL.of (sm _ _ hw))) ?_ ?_⟩
  · rintro i x p σ H2 hx ⟨x1, x2, rfl, sm, hi, hil, he⟩ hp
    obtain ⟨z, hz1, rfl⟩ := at_strs hx
    have hlt : i < ws.length := (List.getElem?_eq_some_iff.mp hz1).1
    rw [drop_at hz1] at he
    have he : hdW 0 ws = if z = cl1 then .inr i else if i = 4 ∨ isTerm z = false then .inl i else hdW (i + 1) (ws.drop (i + 1)) := he
    have sm3 := sm.trans (same_new hp (.tup [.int i, .str z]))
    refine ⟨p, _, rfl, SqT.of upd_same, rfl, _, _, rfl, _, _, rfl, rfl, ?_⟩
    refine seq_hide fun T1 e1 => ?_
    refine ⟨_, rfl, rfl, _, rfl, ?_⟩
    refine ite2 (fun c => ?_) (fun c => ?_)
    · have c' : V.str z = V.str ":" := of_decide_eq_true c
      injection c' with c'
      rw [if_pos c'] at he
      rw [he] at k
      refine ⟨_, rfl, noPart ⟨_, rfl, _, rfl, _, _, rfl, SqL.of (sm3 _ _ hw), fun l hl => ?_⟩⟩
      have lt : (ws.take i).length = i := by rw [List.length_take]; (first | lia | omega)
      have ec : cutV (ws.map V.str) none (some (i : Int)) = (ws.take i).map V.str := by
        have := cut_first (ws := ws) (xs := ws.take i) (rest := ws.drop i) (List.take_append_drop i ws).symm
        rwa [lt] at this
      rw [ec]
      refine ⟨l, _, rfl, .inl ⟨SqL.of upd_same, fun t ht => ?_⟩⟩
      exact k t _ ((sm3.trans (same_new hl _)).trans (same_new ht _)) upd_same
    · have nz : z ≠ cl1 := fun e => c (decide_eq_true (by rw [e]))
      rw [if_neg nz] at he
      show T1 _ _ _
      subst e1
      refine ⟨_, rfl, rfl, _, rfl, ?_⟩
      refine ite2 (fun c2 => ?_) (fun c2 => ?_)
      · have c' : V.int (i : Int) = V.int 4 := of_decide_eq_true c2
        injection c' with c'
        have e4 : i = 4 := by (first | lia | omega)
        rw [if_pos (.inl e4)] at he
        rw [he] at k
        exact ⟨_, rfl, raise_end k sm3 (.inr ⟨_, rfl, small_int i (by (first | lia | omega))⟩) D.q_NoText⟩
      · have n4 : i ≠ 4 := fun e => c2 (decide_eq_true (by rw [e]; rfl))
        refine ⟨_, rfl, z, rfl, hwz z (List.mem_of_getElem? hz1), fun H4 sm4 => ⟨_, rfl, ?_⟩⟩
        refine ite2 (fun c3 => ?_) (fun c3 => ?_)
        · have c3 : isTerm z = false := by simpa using c3
          rw [if_pos (.inr c3)] at he
          rw [he] at k
          exact ⟨_, rfl, raise_end k (sm3.trans sm4) (.inr ⟨_, rfl, small_int i (by (first | lia | omega))⟩) D.q_NoText⟩
        · have c3 : isTerm z = true := by simpa using c3
          rw [if_neg (by rintro (h | h); exact n4 h; rw [c3] at h; cases h)] at he
          exact ⟨_, _, rfl, sm3.trans sm4, by (first | lia | omega), hlt, he⟩
  · rintro σ H2 ⟨x1, x2, rfl, sm, hi, hil, he⟩
    rw [List.length_map] at hi hil he
    rw [List.drop_length] at he
    have he : hdW 0 ws = .inl ws.length := he
    rw [he] at k
    show T0 _ _ _
    subst e0
    refine ⟨_, rfl, _, _, rfl, .inl ⟨_, SqL.of (sm _ _ hw), rfl⟩, ?_⟩
    rw [List.length_map]
    exact raise_end k sm (.inr ⟨_, rfl, small_int _ (by (first | lia | omega))⟩) D.q_NoText
structure De2 (P : Program) (w : World) (K : PySem.W.Frag) (mg : Str → Option Value) (base : Heap) (c4 c0 : Addr) : Prop extends De P w K mg base c4 c0 where
  read_head : DefOkE P w K mg base 4 "read_head" ["words"] (spHead4 c4)
noncomputable def spAtom4 (c4 : Addr) : Sp := fun vs H Q E => ∃ (wl : Addr) (ws : List Str) (i : Int) (k : Nat), vs = [.ref wl, .int i] ∧ i = (k : Int) ∧ k ≤ ws.length ∧ WAt H wl ws ∧ (match atW k (ws.drop k) with
  | .inl j => errTo E H c4 "at" (.int (j : Int))
  | .inr a => ∀ (p t : Addr) (H' : Hp), Same H H' → H' p = some (.tup [.str a.1, .ref t]) → H' t = some (.tup (a.2.map V.str)) → Q (.ref p) H')
theorem lead_at {m j : Nat} {r : List Str} (h : j < P4.lead isTerm m r) : ∃ z, r[j]? = some z ∧ isTerm z = true := by
  have hl := P4.lead_le isTerm m r
  have hj : j < r.length := by (first | lia | omega)
  refine ⟨r[j], List.getElem?_eq_getElem hj, P4.lead_terms m r _ ?_⟩
  have hj' : j < (r.take (P4.lead isTerm m r)).length := by rw [List.length_take]; (first | lia | omega)
  rw [← List.getElem_take (h := hj')]
  exact List.getElem_mem hj'
theorem sc_read_atom : FnScope ["words", "at", "first", "end"] ["words", "at"] (defScope s_read_atom) := ⟨rfl, rfl, rfl, by decide +kernel, rfl, by decide +kernel, by decide +kernel⟩
theorem ok_read_atom {f : Addr} {fd : FuncData} (F : Fun K "read_atom" "read_atom" s_read_atom f fd) (T : Txt K mg) (D : De P w K mg base c4 c0) : FnOk P w K mg base (CXE P w) 4 f fd ["words", "at"] (spAtom4 c4) := by
  have DE := D
  refine F.okE sc_read_atom (fun vs H Q E h => ?_) (fun cdv A outer s H vs Q E hr h => ?_)
  · obtain ⟨a, b, c, d, rfl, _⟩ := h
    rfl
  obtain ⟨wl, ws, i0, k0, rfl, ei, hk0, ⟨hw, hwl, hwz⟩, k⟩ := h
  have lw : (ws.map V.str).length = ws.length := List.length_map _
  cases hd : ws.drop k0 with
  | nil =>
    rw [hd] at k
    have k : errTo E H c4 "at" (.int (k0 : Int)) := k
    rw [← ei] at k
    have hl : ws.length ≤ k0 := List.drop_eq_nil_iff.mp hd
    refine ⟨_, (pss_cons (ps_if (PW.pt (pw_or (pt_cmpR op_eq (pv 1) (pe_callB call_len rfl T.n_len PySem.boot_len (pa_cons (pv 0) pa_nil)) (nomark _)) (pw_or1 (pt_not (pt_val (cl D.is_value hr (pa_cons (pe_ix ix_list (pv 0) (pv 1) (fun _ _ => rfl)) pa_nil))))))) (pss_one (ps_raise (pe_noText (D := DE) hr (pa_cons (pv 1) pa_nil)) lets_cx hr.hd)) pss_nil)
      (pss_cons (ps_set (i := 2) sc_read_atom.nd rfl (Or.inl rfl) (pe_op op_add (pv 1) pe_int))
      (pss_cons (ps_set (i := 3) sc_read_atom.nd rfl (Or.inl rfl) (pv 2))
      (pss_cons (ps_while PassesOwn.leaving (PW.pt (pw_and (pt_cmpR op_lt (pv 3) (pe_callB call_len rfl T.n_len PySem.boot_len (pa_cons (pv 0) pa_nil)) (nomark _)) (pw_and (pt_cmpR op_lt (pe_op op_sub (pv 3) (pv 2)) (pe_globI rfl T.g_MOST_TERMS) (nomark _)) (pw_and1 (pt_val (cl D.is_term hr (pa_cons (pe_ix ix_list (pv 0) (pv 3) (fun _ _ => rfl)) pa_nil)))))))
      (pss_one (ps_aug (i := 3) sc_read_atom.nd rfl (Or.inl rfl) pe_int ip_add)))
      (pss_cons (ps_if (pt_cmpR op_eq (pv 3) (pv 2) (nomark _)) (pss_one (ps_raise (pe_noText (D := DE) hr (pa_cons (pv 2) pa_nil)) lets_cx hr.hd)) pss_nil)
      (pss_one (ps_ret (pe_tup (pa_cons (pe_ix ix_list (pv 0) (pv 1) (fun _ _ => rfl)) (pa_cons (pe_callTy call_tuple_of rfl T.n_tuple (by decide +kernel) (pa_cons (pe_slice sl_list (pv 0) (po_some (pv 2)) (po_some (pv 3))) pa_nil)) pa_nil)))))))))), ?_⟩
    refine seq_hide fun T1 e1 => ?_
    refine ⟨_, rfl, _, rfl, _, _, rfl, .inl ⟨_, SqL.of hw, rfl⟩, rfl, _, rfl, ?_⟩
    refine ite2 (fun c => ?_) (fun c => ?_)
    · exact ⟨_, rfl, raise_end k (Same.refl H) (.inr ⟨_, rfl, by rw [ei]; exact small_int _ (by (first | lia | omega))⟩) D.q_NoText⟩
    · exact absurd (decide_eq_true (by rw [ei, lw]; congr 1; (first | lia | omega))) c
  | cons z r =>
    rw [hd] at k
    obtain ⟨hk1, hw0, hdr1⟩ := at_drop hd
    have hz5 := hwz z (List.mem_of_getElem? hw0)
    have ll := P4.lead_le isTerm 4 r
    have ls := P4.lead_stop (T := isTerm) 4 r
    have ld := congrArg List.length hdr1
    rw [List.length_drop] at ld
    refine cut 4 (fun σ H2 => ∃ e : Int, e = ((k0 + 1 + P4.lead isTerm 4 r : Nat) : Int) ∧ isVal z = true ∧ σ = [some (.ref wl), some (.int i0), some (.int (i0 + 1)), some (.int e)] ∧ Same H H2) ⟨_, (pss_cons (ps_if (pt_cmpR op_eq (pv 3) (pv 2) (nomark _)) (pss_one (ps_raise (pe_noText (D := DE) hr (pa_cons (pv 2) pa_nil)) lets_cx hr.hd)) pss_nil)
      (pss_one (ps_ret (pe_tup (pa_cons (pe_ix ix_list (pv 0) (pv 1) (fun _ _ => rfl)) (pa_cons (pe_callTy call_tuple_of rfl T.n_tuple (by decide +kernel) (pa_cons (pe_slice sl_list (pv 0) (po_some (pv 2)) (po_some (pv 3))) pa_nil)) pa_nil)))))), ?_⟩ (fun t2 ht => ⟨_, (pss_cons (ps_if (PW.pt (pw_or (pt_cmpR op_eq (pv 1) (pe_callB call_len rfl T.n_len PySem.boot_len (pa_cons (pv 0) pa_nil)) (nomark _)) (pw_or1 (pt_not (pt_val (cl D.is_value hr (pa_cons (pe_ix ix_list (pv 0) (pv 1) (fun _ _ => rfl)) pa_nil))))))) (pss_one (ps_raise (pe_noText (D := DE) hr (pa_cons (pv 1) pa_nil)) lets_cx hr.hd)) pss_nil)
      (pss_cons (ps_set (i := 2) sc_read_atom.nd rfl (Or.inl rfl) (pe_op op_add (pv 1) pe_int))
      (pss_cons (ps_set (i := 3) sc_read_atom.nd rfl (Or.inl rfl) (pv 2))
      (pss_cons (ps_while PassesOwn.leaving (PW.pt (pw_and (pt_cmpR op_lt (pv 3) (pe_callB call_len rfl T.n_len PySem.boot_len (pa_cons (pv 0) pa_nil)) (nomark _)) (pw_and (pt_cmpR op_lt (pe_op op_sub (pv 3) (pv 2)) (pe_globI rfl T.g_MOST_TERMS) (nomark _)) (pw_and1 (pt_val (cl D.is_term hr (pa_cons (pe_ix ix_list (pv 0) (pv 3) (fun _ _ => rfl)) pa_nil)))))))
      (pss_one (ps_aug (i := 3) sc_read_atom.nd rfl (Or.inl rfl) pe_int ip_add))) ht)))), fun tl => ?_⟩)
    · rintro σ H2 ⟨e, he, hv, rfl, sm⟩
      have ey := P4.at_yes (T := isTerm) (r := r) (k := k0) hv
      have k : (match (if P4.lead isTerm 4 r = 0 then .inl (k0 + 1) else .inr (z, r.take (P4.lead isTerm 4 r)) : Nat ⊕ (Str × List Str)) with | .inl j => errTo E H c4 "at" (.int (j : Int)) | .inr a => ∀ (p t : Addr) (H' : Hp), Same H H' → H' p = some (.tup [.str a.1, .ref t]) → H' t = some (.tup (a.2.map V.str)) → Q (.ref p) H') := by
        rw [← ey]
        exact k
      refine seq_hide fun T3 e3 => ?_
      refine ⟨_, rfl, _, rfl, rfl, _, rfl, ?_⟩
      refine ite2 (fun c => ?_) (fun c => ?_)
      · have c' : V.int e = V.int (i0 + 1) := of_decide_eq_true c
        injection c' with c'
        have e0 : P4.lead isTerm 4 r = 0 := by (first | lia | omega)
        rw [if_pos e0] at k
        have k : errTo E H c4 "at" (.int ((k0 + 1 : Nat) : Int)) := k
        rw [show ((k0 + 1 : Nat) : Int) = i0 + 1 by (first | lia | omega)] at k
        exact ⟨_, rfl, raise_end k sm (.inr ⟨_, rfl, by rw [show i0 + 1 = ((k0 + 1 : Nat) : Int) by (first | lia | omega)]; exact small_int _ (by (first | lia | omega))⟩) D.q_NoText⟩
      · have n0 : P4.lead isTerm 4 r ≠ 0 := fun e0 => c (decide_eq_true (by rw [he, e0]; congr 1; (first | lia | omega)))
        rw [if_neg n0] at k
        have lt : (r.take (P4.lead isTerm 4 r)).length = P4.lead isTerm 4 r := by rw [List.length_take]; (first | lia | omega)
        have ec : cutV (ws.map V.str) (some (i0 + 1)) (some e) = (r.take (P4.lead isTerm 4 r)).map V.str := by
          rw [show i0 + 1 = ((k0 + 1 : Nat) : Int) by (first | lia | omega), he]
          have := cut_mid (ws := ws) (xs := r.take (P4.lead isTerm 4 r)) (rest := r.drop (P4.lead isTerm 4 r)) (lo := k0 + 1) (by rw [List.take_append_drop]; exact hdr1) (.inr hk1)
          rwa [lt] at this
        show T3 _ _ _
        subst e3
        refine ⟨_, rfl, _, rfl, _, _, _, _, rfl, rfl, SqL.of (sm _ _ hw), at_idx ei hw0, ?_⟩
        refine ⟨_, rfl, _, rfl, _, rfl, _, rfl, _, rfl, _, _, rfl, SqL.of (sm _ _ hw), fun l hl => ?_⟩
        rw [ec]
        refine ⟨l, _, rfl, .inl ⟨SqL.of upd_same, fun t ht' => ?_⟩⟩
        refine ⟨(by show 2 ≤ sizeLine; decide), fun p hp => ?_⟩
        have nt : t ≠ p := fun z => by rw [← z, upd_same] at hp; cases hp
        exact k p t _ (((sm.trans (same_new hl _)).trans (same_new ht' _)).trans (same_new hp _)) upd_same (by rw [upd_ne nt]; exact upd_same)
    refine seq_hide fun T2 e2 => ?_
    refine ⟨_, rfl, _, rfl, _, _, rfl, .inl ⟨_, SqL.of hw, rfl⟩, rfl, _, rfl, ?_⟩
    refine ite2 (fun c => ?_) (fun c => ?_)
    · have c' : V.int i0 = V.int _ := of_decide_eq_true c
      injection c' with c'
      (first | lia | omega)
    refine ⟨_, rfl, _, rfl, _, _, _, _, rfl, rfl, SqL.of hw, at_idx ei hw0, z, rfl, hz5, fun H1 sm1 => ⟨_, rfl, ?_⟩⟩
    refine ite2 (fun c1 => ?_) (fun c1 => ?_)
    · have c1 : isVal z = false := by simpa using c1
      have ey := P4.at_no (T := isTerm) (r := r) (k := k0) c1
      have k : errTo E H c4 "at" (.int (k0 : Int)) := by
        have k' : (match (.inl k0 : Nat ⊕ (Str × List Str)) with | .inl j => errTo E H c4 "at" (.int (j : Int)) | .inr a => ∀ (p t : Addr) (H' : Hp), Same H H' → H' p = some (.tup [.str a.1, .ref t]) → H' t = some (.tup (a.2.map V.str)) → Q (.ref p) H') := by
          rw [← ey]
          exact k
        exact k'
      rw [← ei] at k
      exact ⟨_, rfl, raise_end k sm1 (.inr ⟨_, rfl, by rw [ei]; exact small_int _ (by (first | lia | omega))⟩) D.q_NoText⟩
    have hv : isVal z = true := by simpa using c1
    show T2 _ _ _
    subst e2
    refine ⟨_, rfl, _, _, rfl, rfl, ?_⟩
    refine ⟨_, rfl, ?_⟩
    refine ⟨fun m σ H2 => ∃ (j : Nat) (e : Int), m = P4.lead isTerm 4 r - j ∧ j ≤ P4.lead isTerm 4 r ∧ e = ((k0 + 1 + j : Nat) : Int) ∧ σ = [some (.ref wl), some (.int i0), some (.int (i0 + 1)), some (.int e)] ∧ Same H H2, ⟨_, 0, _, rfl, Nat.zero_le _, by (first | lia | omega), rfl, sm1⟩, ?_⟩
    rintro m σ H2 ⟨j, e, rfl, hj, he, rfl, sm⟩
    have hw2 := sm _ _ hw
    have atr : ∀ y, r[j]? = some y → ws[k0 + 1 + j]? = some y := fun y hy => by
      have q : (ws.drop (k0 + 1))[j]? = some y := by rw [hdr1]; exact hy
      rw [List.getElem?_drop] at q
      exact q
    refine ⟨_, rfl, _, rfl, _, _, rfl, .inl ⟨_, SqL.of hw2, rfl⟩, _, _, rfl, rfl, _, rfl, ?_⟩
    by_cases hjl : j < P4.lead isTerm 4 r
    · obtain ⟨y, hy, hyt⟩ := lead_at hjl
      have hzw := atr y hy
      refine ite2 (fun c => ?_) (fun c => absurd (decide_eq_true (by (first | lia | omega))) c)
      refine ⟨_, rfl, _, rfl, _, _, rfl, rfl, _, _, rfl, rfl, _, rfl, ?_⟩
      refine ite2 (fun c2 => ?_) (fun c2 => absurd (decide_eq_true (by (first | lia | omega))) c2)
      refine ⟨_, rfl, _, rfl, _, _, _, _, rfl, rfl, SqL.of hw2, at_idx he hzw, y, rfl, hwz y (List.mem_of_getElem? hzw), fun H3 sm3 => ⟨_, rfl, ?_⟩⟩
      rw [hyt]
      refine iteT ⟨fun σ' H' => σ' = [some (.ref wl), some (.int i0), some (.int (i0 + 1)), some (.int (e + 1))] ∧ Same H H', ?_, ?_⟩
      · rintro σ' H' ⟨rfl, sm'⟩
        exact ⟨P4.lead isTerm 4 r - (j + 1), by (first | lia | omega), j + 1, e + 1, rfl, hjl, by (first | lia | omega), rfl, sm'⟩
      · exact ⟨_, rfl, _, _, rfl, rfl, rfl, sm.trans sm3⟩
    · have ej : j = P4.lead isTerm 4 r := by (first | lia | omega)
      refine ite2 (fun c => ?_) (fun c => iteF (tl _ _ ⟨e, by rw [← ej]; exact he, hv, rfl, sm⟩))
      refine ⟨_, rfl, _, rfl, _, _, rfl, rfl, _, _, rfl, rfl, _, rfl, ?_⟩
      refine ite2 (fun c2 => ?_) (fun c2 => iteF (tl _ _ ⟨e, by rw [← ej]; exact he, hv, rfl, sm⟩))
      have c' := of_decide_eq_true c
      have c2' := of_decide_eq_true c2
      have hjr : j < r.length := by (first | lia | omega)
      have hy : r[j]? = some r[j] := List.getElem?_eq_getElem hjr
      have hyf : isTerm r[j] = false := by
        rcases ls with h4 | h4
        · (first | lia | omega)
        · exact h4 r[j] (r.drop (j + 1)) (by rw [← ej]; exact drop_at hy)
      have hzw := atr _ hy
      refine ⟨_, rfl, _, rfl, _, _, _, _, rfl, rfl, SqL.of hw2, at_idx he hzw, r[j], rfl, hwz _ (List.mem_of_getElem? hzw), fun H3 sm3 => ⟨_, rfl, ?_⟩⟩
      rw [hyf]
      exact iteF (tl _ _ ⟨e, by rw [← ej]; exact he, hv, rfl, sm.trans sm3⟩)
structure De3 (P : Program) (w : World) (K : PySem.W.Frag) (mg : Str → Option Value) (base : Heap) (c4 c0 : Addr) : Prop extends De2 P w K mg base c4 c0 where
  read_atom : DefOkE P w K mg base 4 "read_atom" ["words", "at"] (spAtom4 c4)
noncomputable def spAtoms4 (c4 : Addr) : Sp := fun vs H Q E => ∃ (wl : Addr) (ws : List Str) (i : Int) (k : Nat), vs = [.ref wl, .int i] ∧ i = (k : Int) ∧ k ≤ ws.length ∧ WAt H wl ws ∧ (match atsW4 (ws.length + 1) 0 k (ws.drop k) with
  | .inl j => errTo E H c4 "at" (.int (j : Int))
  | .inr l => ∀ (p : Addr) (avs : List V) (H' : Hp), Same H H' → H' p = some (.tup avs) → AtomsAt H' avs l → Q (.ref p) H')
theorem errTo.mono {E : XK} {H H1 : Hp} {C : Addr} {fld : Str} {v : V} (h : errTo E H C fld v) (sm : Same H H1) : errTo E H1 C fld v := fun d H' s q => h d H' (sm.trans s) q
theorem same_own {H H1 : Hp} {p : Addr} (a : Same H H1) (h : H p = none) (o : HO) : Same H (upd H1 p o) := fun b u q => by
  rw [upd_ne (ne_of_none q h)]
  exact a b u q
theorem sc_read_atoms : FnScope ["words", "at", "atoms", "atom"] ["words", "at"] (defScope s_read_atoms) := ⟨rfl, rfl, rfl, by decide +kernel, rfl, by decide +kernel, by decide +kernel⟩
theorem ok_read_atoms {f : Addr} {fd : FuncData} (F : Fun K "read_atoms" "read_atoms" s_read_atoms f fd) (T : Txt K mg) (D : De3 P w K mg base c4 c0) : FnOk P w K mg base (CXE P w) 5 f fd ["words", "at"] (spAtoms4 c4) := by
  refine F.okE sc_read_atoms (fun vs H Q E h => ?_) (fun cdv A outer s H vs Q E hr h => ?_)
  · obtain ⟨a, b, c, d, rfl, _⟩ := h
    rfl
  obtain ⟨wl, ws, i0, k0, rfl, ei, hk0, ⟨hw, hwl, hwz⟩, k⟩ := h
  have DE := D.toDe2.toDe
  have lw : (ws.map V.str).length = ws.length := List.length_map _
  refine ⟨_, (pss_cons (ps_set (i := 2) sc_read_atoms.nd rfl (Or.inl rfl) (pe_lst pa_nil))
      (pss_one (ps_while PassesOwn.leaving (pt_val pe_bl)
      (pss_cons (ps_set (i := 3) sc_read_atoms.nd rfl (Or.inl rfl) (clE D.read_atom hr lets_cx (pa_cons (pv 0) (pa_cons (pv 1) pa_nil))))
      (pss_cons (ps_expr (pe_bm PySem.F.plainAttrs_list PySem.F.slot_list_append PySem.F.type_list_append mt_append (pv 2) (pa_cons (pv 3) pa_nil)))
      (pss_cons (ps_aug (i := 1) sc_read_atoms.nd rfl (Or.inl rfl) (pe_op op_add pe_int (pe_callB call_len rfl T.n_len PySem.boot_len (pa_cons (pe_ix ix_tup (pv 3) pe_int (fun _ _ => rfl)) pa_nil))) ip_add)
      (pss_cons (ps_if (pt_cmpR op_eq (pv 1) (pe_callB call_len rfl T.n_len PySem.boot_len (pa_cons (pv 0) pa_nil)) (nomark _)) (pss_one (ps_ret (pe_callTy call_tuple_of rfl T.n_tuple (by decide +kernel) (pa_cons (pv 2) pa_nil)))) pss_nil)
      (pss_cons (ps_if (PW.pt (pw_or (pt_cmpR op_ne (pe_ix ix_list (pv 0) (pv 1) (fun _ _ => rfl)) pe_str (nomark _)) (pw_or1 (pt_cmpR op_eq (pe_callB call_len rfl T.n_len PySem.boot_len (pa_cons (pv 2) pa_nil)) (pe_globI rfl T.g_MOST_ATOMS) (nomark _))))) (pss_one (ps_raise (pe_noText (D := DE) hr (pa_cons (pv 1) pa_nil)) lets_cx hr.hd)) pss_nil)
      (pss_one (ps_aug (i := 1) sc_read_atoms.nd rfl (Or.inl rfl) pe_int ip_add)))))))))), ?_⟩
  refine seq_hide fun T1 e1 => ?_
  refine ⟨(by show 0 ≤ sizeLine; decide), fun al hal => ?_⟩
  show T1 _ _ _
  subst e1
  refine ⟨fun m σ H2 => ∃ (don : List (Str × List Str)) (x3 : Option V) (avs : List V) (z : Int) (kk : Nat), don.length < 8 ∧ kk ≤ ws.length ∧ σ = [some (.ref wl), some (.int z), some (.ref al), x3] ∧ z = (kk : Int) ∧ Same H H2 ∧ H2 al = some (.lst avs) ∧ AtomsAt H2 avs don ∧ (ws.drop kk).length < m ∧ atsW4 (ws.length + 1) 0 k0 (ws.drop k0) = P4.pre don (atsW4 m don.length kk (ws.drop kk)),
    ⟨ws.length + 1, [], none, [], i0, k0, by decide, hk0, rfl, ei, same_new hal _, upd_same, .nil, by rw [List.length_drop]; (first | lia | omega), ?_⟩, ?_⟩
  · show _ = P4.pre [] (atsW4 (ws.length + 1) 0 k0 (ws.drop k0))
    cases atsW4 (ws.length + 1) 0 k0 (ws.drop k0) <;> rfl
  rintro m σ H2 ⟨don, x3, avs, z, kk, hd8, hkk, rfl, ez, sm, hA, hat, hlm, htot⟩
  cases m with
  | zero => exact absurd hlm (Nat.not_lt_zero _)
  | succ m =>
  refine ⟨_, rfl, iteT ⟨fun σ' H' => ∃ m', m' < m + 1 ∧ ∃ (don : List (Str × List Str)) (x3 : Option V) (avs : List V) (z : Int) (kk : Nat), don.length < 8 ∧ kk ≤ ws.length ∧ σ' = [some (.ref wl), some (.int z), some (.ref al), x3] ∧ z = (kk : Int) ∧ Same H H' ∧ H' al = some (.lst avs) ∧ AtomsAt H' avs don ∧ (ws.drop kk).length < m' ∧ atsW4 (ws.length + 1) 0 k0 (ws.drop k0) = P4.pre don (atsW4 m' don.length kk (ws.drop kk)), fun _ _ h => h, ?_⟩⟩
  refine seq_hide fun T2 e2 => ?_
  refine ⟨_, rfl, _, rfl, wl, ws, z, kk, rfl, ez, hkk, ⟨sm _ _ hw, hwl, hwz⟩, ?_⟩
  cases hatw : atW kk (ws.drop kk) with
  | inl j =>
    have e1 : atsW4 (m + 1) don.length kk (ws.drop kk) = .inl j := P4.ats_bad hatw
    rw [e1] at htot
    have htot : atsW4 (ws.length + 1) 0 k0 (ws.drop k0) = .inl j := htot
    rw [htot] at k
    exact errTo.mono k sm
  | inr a =>
  obtain ⟨r', er, ea2, hva, hl0⟩ := P4.at_inv hatw
  have ll := P4.lead_le isTerm 4 r'
  have la2 : a.2.length = P4.lead isTerm 4 r' := by rw [ea2, List.length_take]; (first | lia | omega)
  have lr := congrArg List.length er
  rw [List.length_drop, List.length_cons] at lr
  have eb : atsW4 (m + 1) don.length kk (ws.drop kk) = P4.behind co1 a don.length (kk + 1 + a.2.length) (atsW4 m (don.length + 1) (kk + 1 + a.2.length + 1)) (ws.drop (kk + 1 + a.2.length)) := by
    have := P4.ats_good (cm := co1) (fuel := m) (a := don.length) (w := a.1) (ts := a.2) hatw
    rw [List.drop_drop, show kk + (1 + a.2.length) = kk + 1 + a.2.length by (first | lia | omega)] at this
    exact this
  rw [eb] at htot
  intro p t H3 sm3 hp ht
  have lav : avs.length = don.length := Paired.length hat
  have hA3 := sm3 _ _ hA
  have smA := sm.trans sm3
  show T2 _ _ _
  subst e2
  refine seq_hide fun T3 e3 => ?_
  refine ⟨_, rfl, .inl ⟨rfl, _, SqL.of hA3⟩, _, rfl, _, _, _, rfl, rfl, hA3, small1000 (by (first | lia | omega)), ?_⟩
  have npa : p ≠ al := ne_of hp hA3 fun z => by cases z
  have nta : t ≠ al := ne_of ht hA3 fun z => by cases z
  have sm4 : Same H (upd H3 al (.lst (avs ++ [.ref p]))) := same_own smA hal _
  have tu : Tups H2 (upd H3 al (.lst (avs ++ [.ref p]))) := (Tups.of sm3).lst hA3 _
  have hp4 : upd H3 al (.lst (avs ++ [.ref p])) p = some (.tup [.str a.1, .ref t]) := by rw [upd_ne npa]; exact hp
  have ht4 : upd H3 al (.lst (avs ++ [.ref p])) t = some (.tup (a.2.map V.str)) := by rw [upd_ne nta]; exact ht
  have hA4 : upd H3 al (.lst (avs ++ [.ref p])) al = some (.lst (avs ++ [.ref p])) := upd_same
  have hat4 : AtomsAt (upd H3 al (.lst (avs ++ [.ref p]))) (avs ++ [.ref p]) (don ++ [a]) := Paired.snoc' (AtomsAt.keep tu hat) ⟨p, t, rfl, hp4, ht4⟩
  generalize upd H3 al (.lst (avs ++ [.ref p])) = H4 at sm4 tu hp4 ht4 hA4 hat4 ⊢
  show T3 _ _ _
  subst e3
  refine seq_hide fun T4 e4 => ?_
  refine ⟨_, rfl, _, rfl, _, _, _, _, rfl, rfl, SqT.of hp4, rfl, _, _, rfl, .inr ⟨_, SqT.of ht4, rfl⟩, _, _, rfl, rfl, _, _, rfl, rfl, ?_⟩
  have lt' : (a.2.map V.str).length = a.2.length := List.length_map _
  have ez2 : (fun i j : Int => i + j) z (1 + ((a.2.map V.str).length : Int)) = ((kk + 1 + a.2.length : Nat) : Int) := by
    show z + (1 + ((a.2.map V.str).length : Int)) = _
    (first | lia | omega)
  generalize (fun i j : Int => i + j) z (1 + ((a.2.map V.str).length : Int)) = z2 at ez2 ⊢
  show T4 _ _ _
  subst e4
  refine seq_hide fun T5 e5 => ?_
  refine ⟨_, rfl, _, rfl, _, _, rfl, .inl ⟨_, SqL.of (sm4 _ _ hw), rfl⟩, rfl, _, rfl, ?_⟩
  cases hrest : ws.drop (kk + 1 + a.2.length) with
  | nil =>
    rw [hrest] at htot
    have htot : atsW4 (ws.length + 1) 0 k0 (ws.drop k0) = .inr (don ++ [a]) := htot
    rw [htot] at k
    have hl := List.drop_eq_nil_iff.mp hrest
    refine ite2 (fun c => ?_) (fun c => absurd (decide_eq_true (congrArg V.int (by (first | lia | omega)))) c)
    refine ⟨_, rfl, al, _, rfl, .inl ⟨SqL.of hA4, fun t2 ht2 => ?_⟩⟩
    exact k t2 _ _ (sm4.trans (same_new ht2 _)) upd_same (AtomsAt.keep ((Tups.refl _).new ht2 _) hat4)
  | cons x r3 =>
    rw [hrest] at htot
    obtain ⟨hk2, hw2, hd3⟩ := at_drop hrest
    rw [P4.behind] at htot
    refine ite2 (fun c => ?_) (fun c => ?_)
    · have c' : V.int z2 = V.int _ := of_decide_eq_true c
      injection c' with c'
      (first | lia | omega)
    show T5 _ _ _
    subst e5
    refine seq_hide fun T6 e6 => ?_
    refine ⟨_, rfl, _, rfl, _, _, _, _, rfl, rfl, SqL.of (sm4 _ _ hw), at_idx ez2 hw2, rfl, _, rfl, ?_⟩
    have bad : (x ≠ co1 ∨ don.length + 1 = 8) → errTo E H c4 "at" (.int z2) := fun hc => by
      rw [if_pos hc] at htot
      have htot : atsW4 (ws.length + 1) 0 k0 (ws.drop k0) = .inl (kk + 1 + a.2.length) := htot
      rw [htot] at k
      rw [ez2]
      exact k
    have hlog : z2.natAbs.log2 < 1920 := by
      rw [ez2]
      exact small_int _ (by (first | lia | omega))
    refine ite2 (fun c2 => ?_) (fun c2 => ?_)
    · have c2 : (!decide (V.str x = V.str ",")) = true := c2
      have nx : x ≠ co1 := fun e => by
        rw [e, decide_eq_true rfl] at c2
        cases c2
      exact ⟨_, rfl, raise_end (bad (.inl nx)) sm4 (.inr ⟨_, rfl, hlog⟩) DE.q_NoText⟩
    have ex : x = co1 := by
      have c2 : ¬ (!decide (V.str x = V.str ",")) = true := c2
      rw [Bool.not_eq_true', Bool.not_eq_false, decide_eq_true_iff] at c2
      injection c2
    refine ⟨_, rfl, _, _, rfl, .inl ⟨_, SqL.of hA4, rfl⟩, rfl, _, rfl, ?_⟩
    have lav2 : (avs ++ [V.ref p]).length = don.length + 1 := by rw [List.length_append, lav]; rfl
    refine ite2 (fun c3 => ?_) (fun c3 => ?_)
    · have c' : V.int ((avs ++ [V.ref p]).length : Int) = V.int 8 := of_decide_eq_true c3
      injection c' with c'
      exact ⟨_, rfl, raise_end (bad (.inr (by (first | lia | omega)))) sm4 (.inr ⟨_, rfl, hlog⟩) DE.q_NoText⟩
    have n8 : don.length + 1 ≠ 8 := fun e => c3 (decide_eq_true (by rw [lav2, e]; rfl))
    have hnc : ¬ (x ≠ co1 ∨ don.length + 1 = 8) := by
      rintro (h | h)
      · exact h ex
      · exact n8 h
    rw [if_neg hnc] at htot
    show T6 _ _ _
    subst e6
    refine ⟨_, rfl, _, _, rfl, rfl, m, Nat.lt_succ_self m, don ++ [a], _, _, _, kk + 1 + a.2.length + 1, by rw [List.length_append]; show don.length + 1 < 8; (first | lia | omega), hk2, rfl, by show z2 + 1 = _; (first | lia | omega), sm4, hA4, hat4, ?_, ?_⟩
    · rw [List.length_drop] at hlm ⊢
      (first | lia | omega)
    · rw [htot, hd3, List.length_append]
      show _ = P4.pre (don ++ [a]) (atsW4 m (don.length + 1) (kk + 1 + a.2.length + 1) r3)
      cases atsW4 m (don.length + 1) (kk + 1 + a.2.length + 1) r3 with
      | inl j => rfl
      | inr l =>
        show Sum.inr (don ++ a :: l) = Sum.inr (don ++ [a] ++ l)
        rw [List.append_assoc]
        rfl
end
end K04

set_option Elab.async false
set_option linter.all false
set_option maxRecDepth 100000
set_option maxHeartbeats 4000000
namespace K04
open PySem PySem.Spec PyProof.Rows L2
seal L2.PE L2.PT L2.PW L2.PA L2.PS L2.PSs L2.PI L2.PO L2.PPs L2.PG L2.PGs
/-! ## read -/
inductive R4 where
  | text (n : Nat)
  | loose (z : Str)
  | quest (hz : List Str) (ats : List (Str × List Str))
noncomputable def resA (hz : List Str) : Nat ⊕ List (Str × List Str) → R4
  | .inl i => .text i
  | .inr l => match looseL hz l with
    | [] => .quest hz l
    | z :: _ => .loose z
noncomputable def resW (ws : List Str) : R4 := match hdW 0 ws with
  | .inl j => .text j
  | .inr j => resA (ws.take j) (atsW4 (ws.length + 1) 0 (j + 1) (ws.drop (j + 1)))
theorem piece_le {sep w : Str} : ∀ {ws : List Str}, w ∈ ws → w.length ≤ (Str.join sep ws).length
  | [], h => by cases h
  | [a], h => by
    rw [List.mem_singleton.mp h]
    exact Nat.le_refl _
  | a :: b :: r, h => by
    have e := congrArg List.length (P4.join_two sep a b r)
    rw [List.length_append, List.length_append] at e
    have l1 : ∀ x : Str, x.cps.toList.length = x.length := fun x => by simp [Str.length]
    rw [l1, l1, l1, l1] at e
    rcases List.mem_cons.mp h with rfl | h
    · (first | lia | omega)
    · have := piece_le (sep := sep) h
      (first | lia | omega)
theorem split_at {z : Str} (hz : z.length ≤ 90000) : (Txt.split z P4.bl1).length ≤ 95000 ∧ ∀ w ∈ Txt.split z P4.bl1, w.length ≤ 100000 := by
  refine ⟨Nat.le_trans (split_le z P4.bl1) (by (first | lia | omega)), fun w hw => ?_⟩
  have h1 := piece_le (sep := P4.bl1) hw
  rw [StrLaws.join_split] at h1
  (first | lia | omega)
theorem mem_inter {l : List (Str × List Str)} {a : Str × List Str} {t : Str} (ha : a ∈ l) (ht : t ∈ a.2) : t ∈ P4.inter co1 l := by
  induction l with
  | nil => cases ha
  | cons b r ih =>
    cases r with
    | nil =>
      rw [List.mem_singleton.mp ha] at ht
      exact List.mem_cons_of_mem _ ht
    | cons c r =>
      show t ∈ (b.1 :: b.2) ++ co1 :: P4.inter co1 (c :: r)
      rcases List.mem_cons.mp ha with rfl | ha
      · exact List.mem_append_left _ (List.mem_cons_of_mem _ ht)
      · exact List.mem_append_right _ (List.mem_cons_of_mem _ (ih ha))
theorem ats_few : ∀ (fuel a k : Nat) (r : List Str) (l : List (Str × List Str)), a < 8 → atsW4 fuel a k r = .inr l → l.length + a ≤ 8
  | 0, a, k, r, l, ha, h => by cases h
  | fuel + 1, a, k, r, l, ha, h => by
    cases eP : atW k r with
    | inl j =>
      rw [show atsW4 (fuel + 1) a k r = .inl j from P4.ats_bad eP] at h
      cases h
    | inr b =>
      rw [show atsW4 (fuel + 1) a k r = _ from P4.ats_good (w := b.1) (ts := b.2) eP] at h
      cases hd : r.drop (1 + b.2.length) with
      | nil =>
        rw [hd] at h
        injection h with h
        subst h
        show 1 + a ≤ 8
        (first | lia | omega)
      | cons x r3 =>
        rw [hd, P4.behind] at h
        split at h
        · cases h
        · rename_i hc
          have n8 : a + 1 ≠ 8 := fun e => hc (.inr e)
          cases e3 : P4.atsP isVal isTerm co1 fuel (a + 1) (k + 1 + b.2.length + 1) r3 with
          | inl j =>
            rw [e3] at h
            cases h
          | inr l2 =>
            rw [e3] at h
            injection h with h
            subst h
            have := ats_few fuel (a + 1) _ r3 l2 (by (first | lia | omega)) e3
            rw [List.length_cons]
            (first | lia | omega)
noncomputable def spRead4 (c4 c0 : Addr) : Sp := fun vs H Q E => ∃ z : Str, vs = [.str z] ∧ z.length ≤ 90000 ∧ (match resW (Txt.split z P4.bl1) with
  | .text n => errTo E H c4 "at" (.int (n : Int))
  | .loose u => errTo E H c0 "unknown" (.str u)
  | .quest hz ats => ∀ (r : Addr) (H' : Hp), Same H H' → QAt H' (.ref r) hz ats → Q (.ref r) H')
section
variable {P : Program} {w : World} {K : PySem.W.Frag} {mg : Str → Option Value} {base : Heap} {c4 c0 : Addr}
structure De4 (P : Program) (w : World) (K : PySem.W.Frag) (mg : Str → Option Value) (base : Heap) (c4 c0 : Addr) : Prop extends De3 P w K mg base c4 c0 where
  read_atoms : DefOkE P w K mg base 5 "read_atoms" ["words", "at"] (spAtoms4 c4)
  loose_unknowns : DefOk P w K mg base 4 "loose_unknowns" ["question"] spLooseG
theorem sc_read : FnScope ["text", "words", "head", "question", "loose"] ["text"] (defScope s_read) := ⟨rfl, rfl, rfl, by decide +kernel, rfl, by decide +kernel, by decide +kernel⟩
theorem ok_read {f : Addr} {fd : FuncData} (F : Fun K "read" "read" s_read f fd) (T : Txt K mg) (D : De4 P w K mg base c4 c0) : FnOk P w K mg base (CXE P w) 6 f fd ["text"] (spRead4 c4 c0) := by
  have DE := D.toDe3.toDe2.toDe
  refine F.okE sc_read (fun vs H Q E h => ?_) (fun cdv A outer s H vs Q E hr h => ?_)
  · obtain ⟨a, rfl, _⟩ := h
    rfl
  obtain ⟨z, rfl, hz, k⟩ := h
  obtain ⟨lws, lw⟩ := split_at hz
  refine ⟨_, (pss_cons (ps_set (i := 1) sc_read.nd rfl (Or.inl rfl) (pe_bm PySem.F.plainAttrs_str PySem.F.slot_str_split PySem.F.type_str_split mt_split (pv 0) (pa_cons pe_str pa_nil)))
      (pss_cons (ps_set (i := 2) sc_read.nd rfl (Or.inl rfl) (clE D.read_head hr lets_cx (pa_cons (pv 1) pa_nil)))
      (pss_cons (ps_set (i := 3) sc_read.nd rfl (Or.inl rfl) (pe_tup (pa_cons (pv 2) (pa_cons (clE D.read_atoms hr lets_cx (pa_cons (pv 1) (pa_cons (pe_op op_add (pe_callB call_len rfl T.n_len PySem.boot_len (pa_cons (pv 2) pa_nil)) pe_int) pa_nil))) pa_nil))))
      (pss_cons (ps_set (i := 4) sc_read.nd rfl (Or.inl rfl) (cl D.loose_unknowns hr (pa_cons (pv 3) pa_nil)))
      (pss_cons (ps_if (pt_truth (pv 4) (fun _ => rfl)) (pss_one (ps_raise (pe_loose (D := DE) hr (pa_cons (pe_ix ix_list (pv 4) pe_int (fun _ _ => rfl)) pa_nil)) lets_cx hr.hd)) pss_nil)
      (pss_one (ps_ret (pv 3)))))))), ?_⟩
  refine ⟨_, rfl, rfl, _, P4.bl1, rfl, rfl, by decide +kernel, ?_, fun wl hwl => ?_⟩
  · refine Nat.le_trans (show z.length + 2 ≤ 1000000 by (first | lia | omega)) ?_
    rw [sizeLine_eq]
    decide
  generalize Txt.split z P4.bl1 = ws at k lws lw ⊢
  have hw : upd H wl (.lst (ws.map V.str)) wl = some (.lst (ws.map V.str)) := upd_same
  have sm1 : Same H (upd H wl (.lst (ws.map V.str))) := same_new hwl _
  generalize upd H wl (.lst (ws.map V.str)) = H1 at hw sm1 ⊢
  refine ⟨_, rfl, wl, ws, rfl, ⟨hw, lws, lw⟩, ?_⟩
  unfold resW at k
  cases hhd : hdW 0 ws with
  | inl j =>
    rw [hhd] at k
    exact errTo.mono k sm1
  | inr j =>
  rw [hhd] at k
  obtain ⟨j4, jl, jc, jt⟩ := P4.hd_is T_cl ws hhd
  have lt : (ws.take j).length = j := by rw [List.length_take]; (first | lia | omega)
  intro hd H2 sm2 hhd2
  refine ⟨_, rfl, _, rfl, _, rfl, _, _, rfl, .inr ⟨_, SqT.of hhd2, rfl⟩, _, _, rfl, rfl, wl, ws, _, j + 1, rfl, by rw [List.length_map, lt]; rfl, jl, ⟨sm2 _ _ hw, lws, lw⟩, ?_⟩
  have k : (match resA (ws.take j) (atsW4 (ws.length + 1) 0 (j + 1) (ws.drop (j + 1))) with
    | .text n => errTo E H c4 "at" (.int (n : Int))
    | .loose u => errTo E H c0 "unknown" (.str u)
    | .quest hz ats => ∀ (r : Addr) (H' : Hp), Same H H' → QAt H' (.ref r) hz ats → Q (.ref r) H') := k
  cases hats : atsW4 (ws.length + 1) 0 (j + 1) (ws.drop (j + 1)) with
  | inl i =>
    rw [hats] at k
    exact errTo.mono k (sm1.trans sm2)
  | inr l =>
  rw [hats] at k
  obtain ⟨ew, hl0, good⟩ := P4.ats_words _ _ _ _ _ hats
  intro p avs H3 sm3 hp hav
  refine ⟨(by show 2 ≤ sizeLine; decide), fun q hq => ?_⟩
  have sm4 := (Same.refl H3).trans (same_new hq (.tup [.ref hd, .ref p]))
  have hQ : QAt (upd H3 q (.tup [.ref hd, .ref p])) (.ref q) (ws.take j) l := ⟨q, hd, p, avs, rfl, upd_same, sm4 _ _ (sm3 _ _ hhd2), sm4 _ _ hp, AtomsAt.keep (Tups.of sm4) hav⟩
  have sm := ((sm1.trans sm2).trans sm3).trans sm4
  have gg : GoodG l := fun a ha => ⟨(good a ha).2.2.1, fun t ht => by
    have h1 := (good a ha).2.2.2 t ht
    unfold isTerm at h1
    rw [Bool.or_eq_true] at h1
    rcases h1 with h1 | h1
    · have := val_len h1
      (first | lia | omega)
    · have h2 := mem_inter ha ht
      rw [← ew] at h2
      exact lw t (List.mem_of_mem_drop h2)⟩
  have ll : l.length ≤ 100 := Nat.le_trans (ats_few _ _ _ _ _ (by decide) hats) (by decide : 8 ≤ 100)
  refine ⟨_, rfl, _, ws.take j, l, rfl, hQ, gg, ll, by (first | lia | omega), fun z hz => lw z (List.mem_of_mem_take hz), fun r H5 sm5 _ hr5 => ?_⟩
  have k : (match (match looseL (ws.take j) l with | [] => R4.quest (ws.take j) l | z :: _ => R4.loose z) with
    | .text n => errTo E H c4 "at" (.int (n : Int))
    | .loose u => errTo E H c0 "unknown" (.str u)
    | .quest hz ats => ∀ (r : Addr) (H' : Hp), Same H H' → QAt H' (.ref r) hz ats → Q (.ref r) H') := k
  cases hlo : looseL (ws.take j) l with
  | nil =>
    rw [hlo] at k hr5
    refine ⟨_, rfl, false, .inl ⟨[], SqL.of hr5, rfl⟩, iteF ?_⟩
    exact ⟨_, rfl, k q H5 (sm.trans sm5) (hQ.keep (Tups.of sm5))⟩
  | cons u us =>
    rw [hlo] at k hr5
    have hu : u.length ≤ 1000 := by
      have hm : u ∈ looseL (ws.take j) l := by rw [hlo]; exact List.mem_cons_self
      have h1 := jt u (List.mem_filter.mp hm).1
      exact Nat.le_trans (term_len h1) (by decide)
    refine ⟨_, rfl, true, .inl ⟨_, SqL.of hr5, rfl⟩, iteT ?_⟩
    refine ⟨_, rfl, _, _, _, _, rfl, rfl, SqL.of hr5, atI_nat (j := 0) rfl, ?_⟩
    exact raise_end k (sm.trans sm5) (.inl ⟨_, rfl, hu⟩) DE.q_Loose
end
end K04

set_option Elab.async false
set_option linter.all false
set_option maxRecDepth 100000
set_option maxHeartbeats 4000000
namespace K04
open PySem PySem.Spec PyProof.Rows L2
seal L2.PE L2.PT L2.PW L2.PA L2.PS L2.PSs L2.PI L2.PO L2.PPs L2.PG L2.PGs
/-! ## the law's own reading: words, terms, states -/
theorem first_q (z : Str) : decide (V.str (Txt.slice z none (some 1)) = V.str "?") = Txt.startswith z "?" := by
  have lz : z.cps.toList.length = z.length := by simp [Str.length]
  cases e : z.cps.toList with
  | nil =>
    rw [starts_none (by rw [e]; rfl)]
    refine decide_eq_false fun h => ?_
    injection h with h
    have h1 := Txt.slice_le z none (some 1)
    rw [h] at h1
    have h2 : ("?" : Str).length = 1 := by decide +kernel
    rw [e, List.length_nil] at lz
    (first | lia | omega)
  | cons c r =>
    have e0 : z.cps.toList[0]? = some c := by rw [e]; rfl
    rw [e, List.length_cons] at lz
    have h1 := eq_of_beq (slice_closes_toL (x := z) (j := 1) (by decide) (by (first | lia | omega)))
    have h2 : ((z.cps.toList.drop (0 : Int).toNat).take ((1 : Int) - 0).toNat).toArray = #[c] := by
      rw [e]
      rfl
    rw [h1, h2, starts_q e0, Bool.eq_iff_iff, decide_eq_true_iff, decide_eq_true_iff]
    exact ⟨fun h => by injection h, fun h => by rw [h]⟩
section
variable {P : Program} {w : World} {K : PySem.W.Frag} {mg : Str → Option Value} {base : Heap}
theorem sc_l_word : FnScope ["_law_word_here"] ["_law_word_here"] (defScope s_l_word) := ⟨rfl, rfl, rfl, by decide +kernel, rfl, by decide +kernel, by decide +kernel⟩
theorem ok_word {f : Addr} {fd : FuncData} (F : Fun K "_law_word" "_law_word" s_l_word f fd) (T : Txt K mg) : FnOk P w K mg base CX0 1 f fd ["_law_word_here"] spVal := by
  refine F.ok sc_l_word (fun vs H Q E h => ?_) (fun cdv A outer s H vs Q E hr h => ?_)
  · obtain ⟨a, rfl, _⟩ := h
    rfl
  obtain ⟨z, rfl, hz, k⟩ := h
  refine ⟨_, (pss_cons (ps_if (PW.pt (pw_or (pt_cmpR op_lt (pe_callB call_len rfl T.n_len PySem.boot_len (pa_cons (pv 0) pa_nil)) pe_int (nomark _)) (pw_or1 (pt_cmpR op_gt (pe_callB call_len rfl T.n_len PySem.boot_len (pa_cons (pv 0) pa_nil)) pe_int (nomark _))))) (pss_one (ps_ret pe_bl)) pss_nil)
      (pss_one (ps_ret (pe_cmpR (op_eqN hr.units0) (pe_compIf rfl (compSc_mk (fs := []) (fr := [])) (pi_str (pv 0)) (fun _ _ _ _ => (pt_cmpR op_notIn_str (pv 0) pe_str (by with_unfolding_all rfl))) (fun _ _ _ _ => (pv 0))) (pe_lst pa_nil) (nomark _))))), ?_⟩
  have hz' : z.length ≤ sizeLine := Nat.le_of_lt (small5000 hz)
  have q := k H (Same.refl H)
  refine ⟨_, rfl, _, _, rfl, ⟨hz', rfl⟩, _, _, rfl, rfl, _, rfl, ?_⟩
  refine ite2 (fun c1 => ?_) (fun c1 => ?_)
  · have ev : isVal z = false := by
      have c1 := of_decide_eq_true c1
      unfold isVal
      rw [decide_eq_false (by (first | lia | omega)), Bool.false_and]
    rw [ev] at q
    exact q
  · refine ⟨_, rfl, _, _, rfl, ⟨hz', rfl⟩, _, _, rfl, rfl, _, rfl, ?_⟩
    refine ite2 (fun c2 => ?_) (fun c2 => ?_)
    · have ev : isVal z = false := by
        have c2 := of_decide_eq_true c2
        unfold isVal
        rw [decide_eq_false (p := (z.length : Int) ≤ 8) (by (first | lia | omega)), Bool.false_and, Bool.and_false]
      rw [ev] at q
      exact q
    · have d1 : ¬ ((z.length : Int) < 1) := fun h => c1 (decide_eq_true h)
      have d2 : ¬ ((z.length : Int) > 8) := fun h => c2 (decide_eq_true h)
      have ev : isVal z = (z.cps.toList.map sgn).all id := by
        unfold isVal
        rw [decide_eq_true (by (first | lia | omega)), decide_eq_true (by (first | lia | omega)), Bool.true_and, Bool.true_and]
      refine ⟨_, rfl, _, rfl, comp_str (fun i ys H2 => H2 = H ∧ i ≤ z.cps.size ∧ ys = ((z.cps.toList.take i).filter fun c => !sgn c).map fun c => V.str ⟨#[c]⟩) (small5000 (show z.length ≤ 100000 by (first | lia | omega))) ⟨rfl, Nat.zero_le _, rfl⟩ ?_ ?_ ?_⟩
      · rintro i ys H2 hi ⟨rfl, _, rfl⟩
        rw [List.length_map]
        refine Nat.le_trans (List.length_filter_le _ _) ?_
        rw [List.length_take]
        (first | lia | omega)
      · rintro i c ys H2 N hc ⟨rfl, hi, rfl⟩ hN
        have hlt : i < z.cps.size := (Array.getElem?_eq_some_iff.mp hc).1
        have hc' : z.cps.toList[i]? = some c := by simpa using hc
        refine ⟨_, rfl, _, _, rfl, rfl, _, rfl, ?_⟩
        refine ite2 (fun c3 => ?_) (fun c3 => ?_)
        · refine ⟨_, rfl, hN _ _ ⟨rfl, hlt, ?_⟩⟩
          have c3 : (!sgn c) = true := c3
          rw [filter_take hc', if_pos c3, List.map_append]
          rfl
        · refine hN _ _ ⟨rfl, hlt, ?_⟩
          have c3 : ¬ (!sgn c) = true := c3
          rw [filter_take hc', if_neg c3, List.append_nil]
      · rintro ys H2 ⟨rfl, _, rfl⟩ l hl'
        have et : z.cps.toList.take z.cps.size = z.cps.toList := List.take_of_length_le (by simp)
        rw [et]
        refine ⟨(by show 0 ≤ sizeLine; decide), fun l2 hl2 => ?_⟩
        refine ⟨_, _, _, rfl, rfl, SqL.of (by rw [upd_ne (ne_of_none upd_same hl2)]; exact upd_same), SqL.of upd_same, ?_⟩
        have q := k _ ((same_new hl' _).trans (same_new hl2 (.lst [])))
        rw [ev, ← all_filter, ← isEmpty_map (fun c => V.str ⟨#[c]⟩)] at q
        exact q
structure Lw (P : Program) (w : World) (K : PySem.W.Frag) (mg : Str → Option Value) (base : Heap) : Prop where
  l_word : DefOk P w K mg base 1 "_law_word" ["_law_word_here"] spVal
theorem sc_l_term : FnScope ["_law_word_here"] ["_law_word_here"] (defScope s_l_term) := ⟨rfl, rfl, rfl, by decide +kernel, rfl, by decide +kernel, by decide +kernel⟩
theorem ok_term {f : Addr} {fd : FuncData} (F : Fun K "_law_term" "_law_term" s_l_term f fd) (T : Txt K mg) (D : Lw P w K mg base) : FnOk P w K mg base CX0 2 f fd ["_law_word_here"] spTrm := by
  refine F.ok sc_l_term (fun vs H Q E h => ?_) (fun cdv A outer s H vs Q E hr h => ?_)
  · obtain ⟨a, rfl, _⟩ := h
    rfl
  obtain ⟨z, rfl, hz, k⟩ := h
  have hz' : z.length ≤ sizeLine := Nat.le_of_lt (small5000 hz)
  refine ⟨_, (pss_one (ps_ret (pe_or (cl D.l_word hr (pa_cons (pv 0) pa_nil)) (pe_one (pe_and (pe_cmpR op_eq (pe_slice sl_str (pv 0) po_none (po_some pe_int)) pe_str (nomark _)) (pe_one (cl D.l_word hr (pa_cons (pe_slice sl_str (pv 0) (po_some pe_int) po_none) pa_nil)))))))), ?_⟩
  refine ⟨_, rfl, z, rfl, hz, fun H1 sm1 => ⟨_, rfl, ?_⟩⟩
  refine ite2 (fun c2 => ?_) (fun c2 => ?_)
  · have c2 : isVal z = true := c2
    have q := k H1 sm1
    rw [val_term c2] at q
    exact q
  · have c2 : ¬ isVal z = true := c2
    have eu : isTerm z = (Txt.startswith z "?" && isVal (Txt.slice z (some 1) none)) := by
      unfold isTerm
      rw [Bool.eq_false_iff.mpr c2, Bool.false_or]
      rfl
    refine ⟨_, rfl, noPart ⟨_, rfl, _, rfl, hz', rfl, _, rfl, ?_⟩⟩
    rw [first_q]
    refine ite2 (fun c3 => ?_) (fun c3 => ?_)
    · refine ⟨_, rfl, _, rfl, _, rfl, hz', _, rfl, Nat.le_trans (Txt.slice_le z _ _) hz, fun H2 sm2 => ?_⟩
      have q := k H2 (sm1.trans sm2)
      rw [eu, c3, Bool.true_and] at q
      exact q
    · have q := k H1 sm1
      rw [eu, Bool.eq_false_iff.mpr c3, Bool.false_and] at q
      exact q
noncomputable def stV : P4.S4 → List V
  | .head n => [.str "head", .int (n : Int), .int 0]
  | .name a => [.str "name", .int 0, .int (a : Int)]
  | .terms n a => [.str "terms", .int (n : Int), .int (a : Int)]
noncomputable abbrev mayW (z : Str) (st : P4.S4) : Option P4.S4 := P4.may isVal isTerm cl1 co1 z st
noncomputable def spMay : Sp := fun vs H Q _ => ∃ (z : Str) (p : Addr) (st : P4.S4), vs = [.str z, .ref p] ∧ z.length ≤ 100000 ∧ H p = some (.tup (stV st)) ∧ (match mayW z st with
  | none => ∀ H', Same H H' → Q .non H'
  | some st' => ∀ (r : Addr) (H' : Hp), Same H H' → H' r = some (.tup (stV st')) → Q (.ref r) H')
structure Lm (P : Program) (w : World) (K : PySem.W.Frag) (mg : Str → Option Value) (base : Heap) : Prop extends Lw P w K mg base where
  l_term : DefOk P w K mg base 2 "_law_term" ["_law_word_here"] spTrm
theorem sc_l_may : FnScope ["_law_words_here", "_law_state", "_law_where", "_law_terms", "_law_atoms"] ["_law_words_here", "_law_state"] (defScope s_l_may) := ⟨rfl, rfl, rfl, by decide +kernel, rfl, by decide +kernel, by decide +kernel⟩
theorem ok_may {f : Addr} {fd : FuncData} (F : Fun K "_law_may" "_law_may" s_l_may f fd) (T : Txt K mg) (D : Lm P w K mg base) : FnOk P w K mg base CX0 3 f fd ["_law_words_here", "_law_state"] spMay := by
  refine F.ok sc_l_may (fun vs H Q E h => ?_) (fun cdv A outer s H vs Q E hr h => ?_)
  · obtain ⟨a, b, c, rfl, _⟩ := h
    rfl
  obtain ⟨z, p, st, rfl, hz, hp, k⟩ := h
  refine ⟨_, (pss_cons (ps_asg (pv 1) (pg_tup rfl (pgs_cons (pg_name (i := 2) sc_l_may.nd rfl (Or.inl rfl)) (pgs_cons (pg_name (i := 3) sc_l_may.nd rfl (Or.inl rfl)) (pgs_cons (pg_name (i := 4) sc_l_may.nd rfl (Or.inl rfl)) pgs_nil)))))
      (pss_cons (ps_if (pt_cmpR op_eq (pv 2) pe_str (nomark _)) (pss_cons (ps_if (pt_cmpR op_eq (pv 0) pe_str (nomark _)) (pss_one (ps_ret (pe_tup (pa_cons pe_str (pa_cons pe_int (pa_cons pe_int pa_nil)))))) pss_nil)
      (pss_one (ps_if (PW.pt (pw_and (pt_val (cl D.l_term hr (pa_cons (pv 0) pa_nil))) (pw_and1 (pt_cmpR op_lt (pv 3) pe_int (nomark _))))) (pss_one (ps_ret (pe_tup (pa_cons pe_str (pa_cons (pe_op op_add (pv 3) pe_int) (pa_cons pe_int pa_nil)))))) pss_nil))) pss_nil)
      (pss_cons (ps_if (PW.pt (pw_and (pt_cmpR op_eq (pv 2) pe_str (nomark _)) (pw_and1 (pt_val (cl D.l_word hr (pa_cons (pv 0) pa_nil)))))) (pss_one (ps_ret (pe_tup (pa_cons pe_str (pa_cons pe_int (pa_cons (pe_op op_add (pv 4) pe_int) pa_nil)))))) pss_nil)
      (pss_cons (ps_if (pt_cmpR op_eq (pv 2) pe_str (nomark _)) (pss_cons (ps_if (PW.pt (pw_and (pt_cmpR op_eq (pv 0) pe_str (nomark _)) (pw_and (pt_cmpR op_gt (pv 3) pe_int (nomark _)) (pw_and1 (pt_cmpR op_lt (pv 4) pe_int (nomark _)))))) (pss_one (ps_ret (pe_tup (pa_cons pe_str (pa_cons pe_int (pa_cons (pv 4) pa_nil)))))) pss_nil)
      (pss_one (ps_if (PW.pt (pw_and (pt_val (cl D.l_term hr (pa_cons (pv 0) pa_nil))) (pw_and1 (pt_cmpR op_lt (pv 3) pe_int (nomark _))))) (pss_one (ps_ret (pe_tup (pa_cons pe_str (pa_cons (pe_op op_add (pv 3) pe_int) (pa_cons (pv 4) pa_nil)))))) pss_nil))) pss_nil)
      (pss_one (ps_ret pe_non)))))), ?_⟩
  cases st with
  | head n =>
    have hp : H p = some (.tup [.str "head", .int (n : Int), .int 0]) := hp
    refine ⟨_, rfl, p, _, rfl, SqT.of hp, rfl, _, _, rfl, _, _, rfl, _, _, rfl, rfl, ?_⟩
    refine ⟨_, rfl, rfl, _, rfl, iteT ?_⟩
    refine ⟨_, rfl, rfl, _, rfl, ?_⟩
    refine ite2 (fun c => ?_) (fun c => ?_)
    · have c' : V.str z = V.str ":" := of_decide_eq_true c
      injection c' with c'
      have em : mayW z (.head n) = some (.name 0) := if_pos c'
      rw [em] at k
      exact ⟨(by show 3 ≤ sizeLine; decide), fun r hr' => k r _ (same_new hr' _) upd_same⟩
    have nz : z ≠ cl1 := fun e => c (decide_eq_true (by rw [e]))
    refine ⟨_, rfl, z, rfl, hz, fun H1 sm1 => ⟨_, rfl, ?_⟩⟩
    have out : ∀ H2, Same H H2 → (¬ (isTerm z = true ∧ n < 4)) → Q .non H2 := fun H2 sm2 hn => by
      have em : mayW z (.head n) = none := (if_neg nz).trans (if_neg hn)
      rw [em] at k
      exact k H2 sm2
    refine ite2 (fun c2 => ?_) (fun c2 => ?_)
    · have c2 : isTerm z = true := c2
      refine ⟨_, rfl, _, _, rfl, rfl, _, rfl, ?_⟩
      refine ite2 (fun c3 => ?_) (fun c3 => ?_)
      · have c3 := of_decide_eq_true c3
        have em : mayW z (.head n) = some (.head (n + 1)) := (if_neg nz).trans (if_pos ⟨c2, by (first | lia | omega)⟩)
        rw [em] at k
        exact ⟨_, rfl, _, _, rfl, rfl, (by show 3 ≤ sizeLine; decide), fun r hr' => k r _ (sm1.trans (same_new hr' _)) upd_same⟩
      · refine ⟨_, rfl, rfl, _, rfl, iteF ?_⟩
        refine iteF ⟨_, rfl, rfl, _, rfl, iteF ?_⟩
        exact out H1 sm1 fun h => c3 (decide_eq_true (by (first | lia | omega)))
    · refine iteF ⟨_, rfl, rfl, _, rfl, iteF ?_⟩
      refine iteF ⟨_, rfl, rfl, _, rfl, iteF ?_⟩
      exact out H1 sm1 fun h => c2 h.1
  | name a =>
    have hp : H p = some (.tup [.str "name", .int 0, .int (a : Int)]) := hp
    refine ⟨_, rfl, p, _, rfl, SqT.of hp, rfl, _, _, rfl, _, _, rfl, _, _, rfl, rfl, ?_⟩
    refine ⟨_, rfl, rfl, _, rfl, iteF ?_⟩
    refine ⟨_, rfl, rfl, _, rfl, iteT ?_⟩
    refine ⟨_, rfl, z, rfl, hz, fun H1 sm1 => ⟨_, rfl, ?_⟩⟩
    refine ite2 (fun c2 => ?_) (fun c2 => ?_)
    · have c2 : isVal z = true := c2
      have em : mayW z (.name a) = some (.terms 0 (a + 1)) := if_pos c2
      rw [em] at k
      exact ⟨_, rfl, _, _, rfl, rfl, (by show 3 ≤ sizeLine; decide), fun r hr' => k r _ (sm1.trans (same_new hr' _)) upd_same⟩
    · have c2 : ¬ isVal z = true := c2
      have em : mayW z (.name a) = none := if_neg c2
      rw [em] at k
      refine ⟨_, rfl, rfl, _, rfl, iteF ?_⟩
      exact k H1 sm1
  | terms n a =>
    have hp : H p = some (.tup [.str "terms", .int (n : Int), .int (a : Int)]) := hp
    refine ⟨_, rfl, p, _, rfl, SqT.of hp, rfl, _, _, rfl, _, _, rfl, _, _, rfl, rfl, ?_⟩
    refine ⟨_, rfl, rfl, _, rfl, iteF ?_⟩
    refine ⟨_, rfl, rfl, _, rfl, iteF (iteF ?_)⟩
    refine ⟨_, rfl, rfl, _, rfl, iteT ?_⟩
    refine ⟨_, rfl, rfl, _, rfl, ?_⟩
    refine ite2 (fun c => ?_) (fun c => ?_)
    · have c' : V.str z = V.str "," := of_decide_eq_true c
      injection c' with c'
      have tz : isTerm z = false := by rw [c']; exact T_co
      have no : ¬ (0 < n ∧ a < 8) → ∀ H2, Same H H2 → Q .non H2 := fun hn H2 sm2 => by
        have em : mayW z (.terms n a) = none := (if_neg fun h => hn h.2).trans (if_neg fun h => by rw [tz] at h; exact Bool.false_ne_true h.1)
        rw [em] at k
        exact k H2 sm2
      refine ⟨_, rfl, _, _, rfl, rfl, _, rfl, ?_⟩
      refine ite2 (fun c2 => ?_) (fun c2 => ?_)
      · have c2 := of_decide_eq_true c2
        refine ⟨_, rfl, _, _, rfl, rfl, _, rfl, ?_⟩
        refine ite2 (fun c3 => ?_) (fun c3 => ?_)
        · have c3 := of_decide_eq_true c3
          have em : mayW z (.terms n a) = some (.name a) := if_pos ⟨c', by (first | lia | omega), by (first | lia | omega)⟩
          rw [em] at k
          exact ⟨_, rfl, (by show 3 ≤ sizeLine; decide), fun r hr' => k r _ (same_new hr' _) upd_same⟩
        · refine ⟨_, rfl, z, rfl, hz, fun H1 sm1 => ⟨_, rfl, ?_⟩⟩
          rw [tz]
          exact iteF (iteF (no (fun h => c3 (decide_eq_true (by (first | lia | omega)))) H1 sm1))
      · refine iteF ⟨_, rfl, z, rfl, hz, fun H1 sm1 => ⟨_, rfl, ?_⟩⟩
        rw [tz]
        exact iteF (iteF (no (fun h => c2 (decide_eq_true (by (first | lia | omega)))) H1 sm1))
    · have nz : ¬ (z = co1 ∧ 0 < n ∧ a < 8) := fun h => c (decide_eq_true (by rw [h.1]))
      refine iteF ⟨_, rfl, z, rfl, hz, fun H1 sm1 => ⟨_, rfl, ?_⟩⟩
      have out : ¬ (isTerm z = true ∧ n < 4) → Q .non H1 := fun hn => by
        have em : mayW z (.terms n a) = none := (if_neg nz).trans (if_neg hn)
        rw [em] at k
        exact k H1 sm1
      refine ite2 (fun c2 => ?_) (fun c2 => ?_)
      · have c2 : isTerm z = true := c2
        refine ⟨_, rfl, _, _, rfl, rfl, _, rfl, ?_⟩
        refine ite2 (fun c3 => ?_) (fun c3 => ?_)
        · have c3 := of_decide_eq_true c3
          have em : mayW z (.terms n a) = some (.terms (n + 1) a) := (if_neg nz).trans (if_pos ⟨c2, by (first | lia | omega)⟩)
          rw [em] at k
          exact ⟨_, rfl, _, _, rfl, rfl, _, rfl, (by show 3 ≤ sizeLine; decide), fun r hr' => k r _ (sm1.trans (same_new hr' _)) upd_same⟩
        · exact out fun h => c3 (decide_eq_true (by (first | lia | omega)))
      · exact iteF (out fun h => c2 h.1)
end
end K04

set_option Elab.async false
set_option linter.all false
set_option maxRecDepth 100000
set_option maxHeartbeats 4000000
namespace K04
open PySem PySem.Spec PyProof.Rows L2
seal L2.PE L2.PT L2.PW L2.PA L2.PS L2.PSs L2.PI L2.PO L2.PPs L2.PG L2.PGs
/-! ## what is due of a text -/
noncomputable abbrev runW (st : P4.S4) (r : List Str) (k : Nat) : Nat ⊕ P4.S4 := P4.run isVal isTerm cl1 co1 st r k
theorem res_of (ws : List Str) : match P4.dueP isVal isTerm cl1 co1 ws with
    | some n => resW ws = .text n
    | none => ∃ j l, hdW 0 ws = .inr j ∧ atsW4 (ws.length + 1) 0 (j + 1) (ws.drop (j + 1)) = .inr l := by
  cases hh : hdW 0 ws with
  | inl j =>
    rw [P4.due_hd T_cl ws hh]
    show resW ws = .text j
    unfold resW
    rw [hh]
  | inr j =>
    have e : P4.dueP isVal isTerm cl1 co1 ws = P4.toO (atsW4 (ws.length + 1) 0 (j + 1) (ws.drop (j + 1))) := P4.due_toO T_cl T_co ws hh
    cases ha : atsW4 (ws.length + 1) 0 (j + 1) (ws.drop (j + 1)) with
    | inl i =>
      rw [e, ha]
      show resW ws = .text i
      unfold resW
      rw [hh]
      show resA _ (atsW4 (ws.length + 1) 0 (j + 1) (ws.drop (j + 1))) = _
      rw [ha]
      rfl
    | inr l =>
      rw [e, ha]
      exact ⟨j, l, rfl, ha⟩
theorem res_q {ws : List Str} {j : Nat} {l : List (Str × List Str)} (hh : hdW 0 ws = .inr j) (ha : atsW4 (ws.length + 1) 0 (j + 1) (ws.drop (j + 1)) = .inr l) : resW ws = (match looseL (ws.take j) l with | [] => .quest (ws.take j) l | z :: _ => .loose z) := by
  unfold resW
  rw [hh]
  show resA _ (atsW4 (ws.length + 1) 0 (j + 1) (ws.drop (j + 1))) = _
  rw [ha]
  rfl
noncomputable def AnsAt (H : Hp) (r : Addr) : R4 → Prop
  | .text n => H r = some (.tup [.str "text", .int (n : Int)])
  | .loose u => H r = some (.tup [.str "loose", .str u])
  | .quest hz ats => ∃ q, H r = some (.tup [.str "question", .ref q]) ∧ QAt H (.ref q) hz ats
noncomputable def spAns : Sp := fun vs H Q _ => ∃ z : Str, vs = [.str z] ∧ z.length ≤ 90000 ∧ ∀ (r : Addr) (H' : Hp), Same H H' → AnsAt H' r (resW (Txt.split z P4.bl1)) → Q (.ref r) H'
theorem inter1 (b : Str × List Str) : P4.inter co1 [b] = b.1 :: b.2 := rfl
theorem inter2 (b c : Str × List Str) (l : List (Str × List Str)) : P4.inter co1 (b :: c :: l) = (b.1 :: b.2) ++ P4.cm1 :: P4.inter co1 (c :: l) := rfl
theorem inter_len {l : List (Str × List Str)} (good : ∀ b ∈ l, P4.GoodA isVal isTerm b) : ∀ z ∈ P4.inter co1 l, z.length ≤ 9 := by
  induction l with
  | nil => intro z h; cases h
  | cons b r ih =>
    have gb := good b List.mem_cons_self
    have hb : ∀ z ∈ b.1 :: b.2, z.length ≤ 9 := fun z hz => by
      rcases List.mem_cons.mp hz with rfl | hz
      · have := val_len gb.1
        (first | assumption | exact Nat.le_trans (by assumption) (by decide) | exact Nat.lt_of_lt_of_le (by assumption) (by decide) | lia | omega)
      · exact term_len (gb.2.2.2 z hz)
    cases r with
    | nil => exact hb
    | cons c r =>
      intro z hz
      have hz : z ∈ (b.1 :: b.2) ++ co1 :: P4.inter co1 (c :: r) := hz
      rcases List.mem_append.mp hz with hz | hz
      · exact hb z hz
      · rcases List.mem_cons.mp hz with rfl | hz
        · decide +kernel
        · exact ih (fun x hx => good x (List.mem_cons_of_mem _ hx)) z hz
theorem sum_le9 : ∀ {ws : List Str}, (∀ z ∈ ws, z.length ≤ 9) → (ws.map (·.length)).sum ≤ 9 * ws.length
  | [], _ => Nat.le_refl _
  | a :: r, h => by
    have h1 := sum_le9 (ws := r) fun z hz => h z (List.mem_cons_of_mem _ hz)
    have h2 := h a List.mem_cons_self
    simp only [List.map_cons, List.sum_cons, List.length_cons]
    (first | assumption | exact Nat.le_trans (by assumption) (by decide) | exact Nat.lt_of_lt_of_le (by assumption) (by decide) | lia | omega)
theorem row_split {b : Str × List Str} (g : P4.GoodA isVal isTerm b) : Txt.split (P4.rowT b) P4.bl1 = b.1 :: b.2 := by
  have e : P4.bl1 = ⟨#[32]⟩ := by decide +kernel
  have e2 : P4.rowT b = Txt.join ⟨#[32]⟩ (b.1 :: b.2) := by
    unfold P4.rowT
    rw [e]
    exact (StrLaws.glued_eq_join _ _).symm
  rw [e2, e]
  refine split_join (by simp) fun p hp => ?_
  rcases List.mem_cons.mp hp with rfl | hp
  · exact (term_free (val_term g.1)).2
  · exact (term_free (g.2.2.2 p hp)).2
theorem row_len {b : Str × List Str} (g : P4.GoodA isVal isTerm b) : (P4.rowT b).length ≤ 1000 := by
  have h3 := StrLaws.join_length_le P4.bl1 (b.1 :: b.2)
  have h4 : P4.bl1.length = 1 := by decide +kernel
  have h5 := sum_le9 (ws := b.1 :: b.2) fun z hz => by
    rcases List.mem_cons.mp hz with rfl | hz
    · have := val_len g.1
      (first | assumption | exact Nat.le_trans (by assumption) (by decide) | exact Nat.lt_of_lt_of_le (by assumption) (by decide) | lia | omega)
    · exact term_len (g.2.2.2 z hz)
  have h6 := g.2.2.1
  rw [h4] at h3
  rw [List.length_cons] at h5 h3
  unfold P4.rowT
  (first | assumption | exact Nat.le_trans (by assumption) (by decide) | exact Nat.lt_of_lt_of_le (by assumption) (by decide) | lia | omega)
theorem cut_one (a : Str) (r : List Str) : cutV ((a :: r).map V.str) (some 1) none = r.map V.str := by
  rw [show (1 : Int) = ((1 : Nat) : Int) from rfl, cut_from]
  rfl
theorem filt_first {g : Str → Bool} {l : List Str} {i : Nat} {y : Str} (h : (l.take i).filter g = []) (hy : l[i]? = some y) (hg : g y = true) : ∃ r, l.filter g = y :: r := by
  refine ⟨(l.drop (i + 1)).filter g, ?_⟩
  conv => lhs; rw [← List.take_append_drop i l]
  rw [List.filter_append, h, List.nil_append, drop_at hy, List.filter_cons, if_pos hg]
section
variable {P : Program} {w : World} {K : PySem.W.Frag} {mg : Str → Option Value} {base : Heap}
structure Ld (P : Program) (w : World) (K : PySem.W.Frag) (mg : Str → Option Value) (base : Heap) : Prop where
  l_may : DefOk P w K mg base 3 "_law_may" ["_law_words_here", "_law_state"] spMay
theorem sc_l_due : FnScope ["_law_text", "_law_words_here", "_law_state", "_law_k", "_law_at", "_law_known", "_law_rows", "_law_row", "_law_word_here", "_law_atoms"] ["_law_text"] (defScope s_l_due) := ⟨rfl, rfl, rfl, by decide +kernel, rfl, by decide +kernel, by decide +kernel⟩
theorem ok_due {f : Addr} {fd : FuncData} (F : Fun K "_law_due" "_law_due" s_l_due f fd) (T : Txt K mg) (D : Ld P w K mg base) : FnOk P w K mg base CX0 4 f fd ["_law_text"] spAns := by
  refine F.ok sc_l_due (fun vs H Q E h => ?_) (fun cdv A outer s H vs Q E hr h => ?_)
  · obtain ⟨a, rfl, _⟩ := h
    rfl
  obtain ⟨z, rfl, hz, k⟩ := h
  obtain ⟨lws, lw⟩ := split_at hz
  refine ⟨_, (pss_cons (ps_set (i := 1) sc_l_due.nd rfl (Or.inl rfl) (pe_bm PySem.F.plainAttrs_str PySem.F.slot_str_split PySem.F.type_str_split mt_split (pv 0) (pa_cons pe_str pa_nil)))
      (pss_cons (ps_set (i := 2) sc_l_due.nd rfl (Or.inl rfl) (pe_tup (pa_cons pe_str (pa_cons pe_int (pa_cons pe_int pa_nil)))))
      (pss_cons (ps_for PassesOwn.never rfl (pi_range1 rfl T.n_range (pa_cons (pe_callB call_len rfl T.n_len PySem.boot_len (pa_cons (pv 1) pa_nil)) pa_nil)) (pg_name (i := 3) sc_l_due.nd rfl (Or.inl rfl))
      (pss_cons (ps_set (i := 2) sc_l_due.nd rfl (Or.inl rfl) (cl D.l_may hr (pa_cons (pe_ix ix_list (pv 1) (pv 3) (fun _ _ => rfl)) (pa_cons (pv 2) pa_nil))))
      (pss_one (ps_if (pt_cmpR op_isN (pv 2) pe_non (nomark _)) (pss_one (ps_ret (pe_tup (pa_cons pe_str (pa_cons (pv 3) pa_nil))))) pss_nil))))
      (pss_cons (ps_if (PW.pt (pw_or (pt_cmpR op_ne (pe_ix ix_tup (pv 2) pe_int (fun _ _ => rfl)) pe_str (nomark _)) (pw_or1 (pt_cmpR op_eq (pe_ix ix_tup (pv 2) pe_int (fun _ _ => rfl)) pe_int (nomark _))))) (pss_one (ps_ret (pe_tup (pa_cons pe_str (pa_cons (pe_callB call_len rfl T.n_len PySem.boot_len (pa_cons (pv 1) pa_nil)) pa_nil))))) pss_nil)
      (pss_cons (ps_set (i := 4) sc_l_due.nd rfl (Or.inl rfl) (pe_bm PySem.F.plainAttrs_list PySem.F.slot_list_index PySem.F.type_list_index mt_indexS (pv 1) (pa_cons pe_str pa_nil)))
      (pss_cons (ps_set (i := 5) sc_l_due.nd rfl (Or.inl rfl) (pe_lst pa_nil))
      (pss_cons (ps_set (i := 6) sc_l_due.nd rfl (Or.inl rfl) (pe_bm PySem.F.plainAttrs_str PySem.F.slot_str_split PySem.F.type_str_split mt_split (pe_bm PySem.F.plainAttrs_str PySem.F.slot_str_join PySem.F.type_str_join mt_join pe_str (pa_cons (pe_slice sl_list (pv 1) (po_some (pe_op op_add (pv 4) pe_int)) po_none) pa_nil)) (pa_cons pe_str pa_nil)))
      (pss_cons (ps_for PassesOwn.never rfl (pi_list (pv 6)) (pg_name (i := 7) sc_l_due.nd rfl (Or.inl rfl))
      (pss_one (ps_set (i := 5) sc_l_due.nd rfl (Or.inl rfl) (pe_op op_cat (pv 5) (pe_slice sl_list (pe_bm PySem.F.plainAttrs_str PySem.F.slot_str_split PySem.F.type_str_split mt_split (pv 7) (pa_cons pe_str pa_nil)) (po_some pe_int) po_none)))))
      (pss_cons (ps_for PassesOwn.never rfl (pi_list (pe_slice sl_list (pv 1) po_none (po_some (pv 4)))) (pg_name (i := 8) sc_l_due.nd rfl (Or.inl rfl))
      (pss_one (ps_if (PW.pt (pw_and (pt_cmpR op_eq (pe_ix ix_str (pv 8) pe_int (fun _ _ => rfl)) pe_str (nomark _)) (pw_and1 (pt_cmpR op_notIn_seq (pv 8) (pv 5) (by with_unfolding_all rfl))))) (pss_one (ps_ret (pe_tup (pa_cons pe_str (pa_cons (pv 8) pa_nil))))) pss_nil)))
      (pss_cons (ps_setComp (j := 9) sc_l_due.nd rfl rfl rfl (compSc_mk (fs := []) (fr := [])) (pi_list (pv 6)) (fun _ _ _ _ => (pe_tup (pa_cons (pe_ix (ix_listK (K := K)) (pe_bmK (K := K) PySem.F.plainAttrs_str PySem.F.slot_str_split PySem.F.type_str_split mt_split (pv 0) (pa_cons pe_str pa_nil)) pe_int (fun _ _ => rfl)) (pa_cons (pe_callTy (call_tuple_ofK (K := K)) rfl T.n_tuple (by decide +kernel) (pa_cons (pe_slice (sl_listK (K := K)) (pe_bmK (K := K) PySem.F.plainAttrs_str PySem.F.slot_str_split PySem.F.type_str_split mt_split (pv 0) (pa_cons pe_str pa_nil)) (po_some pe_int) po_none) pa_nil)) pa_nil)))))
      (pss_one (ps_ret (pe_tup (pa_cons pe_str (pa_cons (pe_tup (pa_cons (pe_callTy call_tuple_of rfl T.n_tuple (by decide +kernel) (pa_cons (pe_slice sl_list (pv 1) po_none (po_some (pv 4))) pa_nil)) (pa_cons (pe_callTy call_tuple_of rfl T.n_tuple (by decide +kernel) (pa_cons (pv 9) pa_nil)) pa_nil))) pa_nil))))))))))))))), ?_⟩
  refine seq_hide fun T1 e1 => ?_
  refine ⟨_, rfl, rfl, _, P4.bl1, rfl, rfl, by decide +kernel, ?_, fun wl hwl => ?_⟩
  · refine Nat.le_trans (show z.length + 2 ≤ 1000000 by (first | assumption | exact Nat.le_trans (by assumption) (by decide) | exact Nat.lt_of_lt_of_le (by assumption) (by decide) | lia | omega)) ?_
    rw [sizeLine_eq]
    decide
  generalize Txt.split z P4.bl1 = ws at k lws lw ⊢
  have hres := res_of ws
  have hw : upd H wl (.lst (ws.map V.str)) wl = some (.lst (ws.map V.str)) := upd_same
  have sm1 : Same H (upd H wl (.lst (ws.map V.str))) := same_new hwl _
  generalize upd H wl (.lst (ws.map V.str)) = H1 at hw sm1 ⊢
  have lm : (ws.map V.str).length = ws.length := List.length_map _
  show T1 _ _ _
  subst e1
  refine seq_hide fun T2 e2 => ?_
  refine ⟨(by show 3 ≤ sizeLine; decide), fun st0 hst0 => ?_⟩
  have smA : Same H1 (upd H1 st0 (.tup [.str "head", .int 0, .int 0])) := same_new hst0 _
  have hs0 : upd H1 st0 (.tup [.str "head", .int 0, .int 0]) st0 = some (.tup (stV (.head 0))) := upd_same
  generalize upd H1 st0 (.tup [.str "head", .int 0, .int 0]) = H2 at smA hs0 ⊢
  have sm2 := sm1.trans smA
  have hw2 := smA _ _ hw
  have en : (((ws.map V.str).length : Nat) : Int).toNat = ws.length := by (first | assumption | exact Nat.le_trans (by assumption) (by decide) | exact Nat.lt_of_lt_of_le (by assumption) (by decide) | lia | omega)
  show T2 _ _ _
  subst e2
  refine seq_hide fun T3 e3 => ?_
  refine ⟨_, rfl, _, _, rfl, .inl ⟨_, SqL.of hw2, rfl⟩, (((ws.map V.str).length : Nat) : Int), rfl, by (first | assumption | exact Nat.le_trans (by assumption) (by decide) | exact Nat.lt_of_lt_of_le (by assumption) (by decide) | lia | omega), by (first | assumption | exact Nat.le_trans (by assumption) (by decide) | exact Nat.lt_of_lt_of_le (by assumption) (by decide) | lia | omega), for_range (lo := 0) (n := (((ws.map V.str).length : Nat) : Int).toNat)
    (fun i σ H3 => ∃ (x3 : Option V) (sp : Addr) (st : P4.S4), σ = [some (.str z), some (.ref wl), some (.ref sp), x3, none, none, none, none, none, none] ∧ Same H H3 ∧ H3 wl = some (.lst (ws.map V.str)) ∧ H3 sp = some (.tup (stV st)) ∧ runW (.head 0) ws 0 = runW st (ws.drop i) i) ⟨none, st0, .head 0, rfl, sm2, hw2, hs0, rfl⟩ ?_ ?_⟩
  · rintro i σ H3 hi ⟨x3, sp, st, rfl, sm3, hw3, hsp, hrun⟩
    rw [en] at hi
    have hat : ws[i]? = some ws[i] := List.getElem?_eq_getElem hi
    generalize ws[i] = y at hat
    rw [drop_at hat] at hrun
    refine seq_hide fun T4 e4 => ?_
    refine ⟨_, rfl, _, rfl, _, _, _, _, rfl, rfl, SqL.of hw3, at_idx (k := i) (by (first | assumption | exact Nat.le_trans (by assumption) (by decide) | exact Nat.lt_of_lt_of_le (by assumption) (by decide) | lia | omega)) hat, _, rfl, y, sp, st, rfl, lw y (List.mem_of_getElem? hat), hsp, ?_⟩
    cases hm : mayW y st with
    | none =>
      intro H4 sm4
      have e1 : runW st (y :: ws.drop (i + 1)) i = .inl i := P4.run_none hm
      rw [e1] at hrun
      have ed : P4.dueP isVal isTerm cl1 co1 ws = some i := by
        show P4.fin ws.length (runW (.head 0) ws 0) = _
        rw [hrun]
        rfl
      rw [ed] at hres
      have hres : resW ws = .text i := hres
      show T4 _ _ _
      subst e4
      refine ⟨_, rfl, rfl, _, rfl, ?_⟩
      refine ite2 (fun c => ?_) (fun c => absurd (decide_eq_true rfl) c)
      refine ⟨_, rfl, (by show 2 ≤ sizeLine; decide), fun r hr' => k r _ ((sm3.trans sm4).trans (same_new hr' _)) ?_⟩
      rw [hres]
      show upd H4 r _ r = _
      rw [upd_same, Int.zero_add]
    | some st' =>
      intro r H4 sm4 hr4
      have e1 : runW st (y :: ws.drop (i + 1)) i = runW st' (ws.drop (i + 1)) (i + 1) := P4.run_some hm
      rw [e1] at hrun
      show T4 _ _ _
      subst e4
      refine ⟨_, rfl, rfl, _, rfl, ?_⟩
      refine ite2 (fun c => ?_) (fun c => ?_)
      · have c : V.ref r = V.non := of_decide_eq_true c
        cases c
      · exact ⟨_, r, st', rfl, sm3.trans sm4, sm4 _ _ hw3, hr4, hrun⟩
  rintro σ H3 ⟨x3, sp, st, rfl, sm3, hw3, hsp, hrun⟩
  rw [en, List.drop_length] at hrun
  have hrun : runW (.head 0) ws 0 = .inr st := hrun
  have ed : P4.dueP isVal isTerm cl1 co1 ws = if P4.okS st = true then none else some ws.length := by
    show P4.fin ws.length (runW (.head 0) ws 0) = _
    rw [hrun]
    rfl
  have bad : P4.okS st = false → ∀ (r : Addr), H3 r = none → Q (.ref r) (upd H3 r (.tup [.str "text", .int ((ws.map V.str).length : Int)])) := fun hb r hr' => by
    rw [ed, if_neg (by rw [hb]; exact Bool.false_ne_true)] at hres
    have hres : resW ws = .text ws.length := hres
    refine k r _ (sm3.trans (same_new hr' _)) ?_
    rw [hres]
    show upd H3 r _ r = _
    rw [upd_same, lm]
  show T3 _ _ _
  subst e3
  refine seq_hide fun T5 e5 => ?_
  cases st with
  | head n =>
    refine ⟨_, rfl, _, _, _, _, rfl, rfl, SqT.of hsp, rfl, rfl, _, rfl, ?_⟩
    refine ite2 (fun c => ?_) (fun c => absurd rfl c)
    exact ⟨_, rfl, _, _, rfl, .inl ⟨_, SqL.of hw3, rfl⟩, (by show 2 ≤ sizeLine; decide), bad rfl⟩
  | name a =>
    refine ⟨_, rfl, _, _, _, _, rfl, rfl, SqT.of hsp, rfl, rfl, _, rfl, ?_⟩
    refine ite2 (fun c => ?_) (fun c => absurd rfl c)
    exact ⟨_, rfl, _, _, rfl, .inl ⟨_, SqL.of hw3, rfl⟩, (by show 2 ≤ sizeLine; decide), bad rfl⟩
  | terms n a =>
    refine ⟨_, rfl, _, _, _, _, rfl, rfl, SqT.of hsp, rfl, rfl, _, rfl, ?_⟩
    refine ite2 (fun c => absurd c (by decide +kernel)) (fun c => ?_)
    refine ⟨_, rfl, _, _, _, _, rfl, rfl, SqT.of hsp, rfl, rfl, _, rfl, ?_⟩
    refine ite2 (fun c2 => ?_) (fun c2 => ?_)
    · have c2 : V.int (n : Int) = V.int 0 := of_decide_eq_true c2
      injection c2 with c2
      exact ⟨_, rfl, _, _, rfl, .inl ⟨_, SqL.of hw3, rfl⟩, (by show 2 ≤ sizeLine; decide), bad (decide_eq_false (by (first | assumption | exact Nat.le_trans (by assumption) (by decide) | exact Nat.lt_of_lt_of_le (by assumption) (by decide) | lia | omega)))⟩
    have n0 : 0 < n := by
      refine Nat.pos_of_ne_zero fun e => c2 (decide_eq_true ?_)
      rw [e]
      rfl
    rw [ed, if_pos (show P4.okS (.terms n a) = true from decide_eq_true n0)] at hres
    obtain ⟨j, l, hh, ha⟩ := hres
    have hk := res_q hh ha
    obtain ⟨j4, jl, jc, jt⟩ := P4.hd_is T_cl ws hh
    obtain ⟨ew, hl0, good⟩ := P4.ats_words _ _ _ _ _ ha
    have l8 : l.length ≤ 8 := ats_few _ _ _ _ _ (by decide) ha
    -- at
    show T5 _ _ _
    subst e5
    refine seq_hide fun T6 e6 => ?_
    refine ⟨_, rfl, .inl ⟨rfl, _, SqL.of hw3⟩, wl, ws, ":", j, rfl, rfl, hw3, jc, fun m hm e => ?_, ?_⟩
    · have hmem : cl1 ∈ ws.take j := List.mem_of_getElem? (by rw [List.getElem?_take_of_lt hm]; exact e)
      have := jt _ hmem
      rw [T_cl] at this
      cases this
    -- known
    show T6 _ _ _
    subst e6
    refine seq_hide fun T7 e7 => ?_
    refine ⟨(by show 0 ≤ sizeLine; decide), fun kl hkl => ?_⟩
    have smB : Same H3 (upd H3 kl (.lst [])) := same_new hkl _
    have hk4 : upd H3 kl (.lst []) kl = some (.lst ((flatA (l.take 0)).map V.str)) := upd_same
    generalize upd H3 kl (.lst []) = H4 at smB hk4 ⊢
    have sm4 := sm3.trans smB
    have hw4 := smB _ _ hw3
    -- rows
    show T7 _ _ _
    subst e7
    refine seq_hide fun T8 e8 => ?_
    refine ⟨rfl, _, rfl, _, rfl, _, _, rfl, rfl, ?_⟩
    refine ⟨_, rfl, noPart ⟨_, _, rfl, SqL.of hw4, fun l2 hl2 => ?_⟩⟩
    have ec : cutV (ws.map V.str) (some ((j : Int) + 1)) none = (P4.inter co1 l).map V.str := by
      rw [show ((j : Int) + 1) = ((j + 1 : Nat) : Int) by (first | assumption | exact Nat.le_trans (by assumption) (by decide) | exact Nat.lt_of_lt_of_le (by assumption) (by decide) | lia | omega), cut_from, ← List.map_drop, ew]
    rw [ec]
    have h9 := inter_len good
    have li : (P4.inter co1 l).length ≤ 95000 := by
      rw [← ew, List.length_drop]
      (first | assumption | exact Nat.le_trans (by assumption) (by decide) | exact Nat.lt_of_lt_of_le (by assumption) (by decide) | lia | omega)
    have s9 := sum_le9 h9
    have ej : Txt.join P4.bl1 (P4.inter co1 l) = Str.join P4.bl1 (P4.inter co1 l) := StrLaws.glued_eq_join _ _
    refine ⟨P4.bl1, l2, P4.inter co1 l, rfl, rfl, SqL.of upd_same, joinOk_of_weight (by (first | assumption | exact Nat.le_trans (by assumption) (by decide) | exact Nat.lt_of_lt_of_le (by assumption) (by decide) | lia | omega)) (by decide +kernel), rfl, _, P4.cut3, rfl, rfl, by decide +kernel, ?_, fun rl hrl => ?_⟩
    · rw [ej]
      have h3 := StrLaws.join_length_le P4.bl1 (P4.inter co1 l)
      have h4 : P4.bl1.length = 1 := by decide +kernel
      rw [h4] at h3
      refine Nat.le_trans (show (Str.join P4.bl1 (P4.inter co1 l)).length + 2 ≤ 1000000 by (first | assumption | exact Nat.le_trans (by assumption) (by decide) | exact Nat.lt_of_lt_of_le (by assumption) (by decide) | lia | omega)) ?_
      rw [sizeLine_eq]
      decide
    have free44 : ∀ b ∈ l, ∀ y ∈ b.1 :: b.2, 44 ∉ y.cps.toList := fun b hb y hy => by
      rcases List.mem_cons.mp hy with rfl | hy
      · exact (term_free (val_term (good b hb).1)).1
      · exact (term_free ((good b hb).2.2.2 y hy)).1
    rw [ej, P4.split_inter inter1 inter2 hl0 free44]
    have sm5 : Same H4 (upd (upd H4 l2 (.lst ((P4.inter co1 l).map V.str))) rl (.lst ((l.map P4.rowT).map V.str))) := (same_new hl2 _).trans (same_new hrl _)
    have hr5 : upd (upd H4 l2 (.lst ((P4.inter co1 l).map V.str))) rl (.lst ((l.map P4.rowT).map V.str)) rl = some (.lst ((l.map P4.rowT).map V.str)) := upd_same
    generalize upd (upd H4 l2 (.lst ((P4.inter co1 l).map V.str))) rl (.lst ((l.map P4.rowT).map V.str)) = H5 at sm5 hr5 ⊢
    have hk5 := sm5 _ _ hk4
    have hw5 := sm5 _ _ hw4
    have smH := sm4.trans sm5
    have lr : ((l.map P4.rowT).map V.str).length = l.length := by rw [List.length_map, List.length_map]
    -- walk rows
    show T8 _ _ _
    subst e8
    refine seq_hide fun T9 e9 => ?_
    refine ⟨_, rfl, rl, rfl, ⟨_, SqL.of hr5⟩, for_list (K := K) (a := rl) (xs := (l.map P4.rowT).map V.str)
      (fun i σ H6 => ∃ (x7 : Option V) (kn : Addr), σ = [some (.str z), some (.ref wl), some (.ref sp), x3, some (.int (j : Int)), some (.ref kn), some (.ref rl), x7, none, none] ∧ Same H H6 ∧ H6 wl = some (.lst (ws.map V.str)) ∧ H6 rl = some (.lst ((l.map P4.rowT).map V.str)) ∧ i ≤ l.length ∧ H6 kn = some (.lst ((flatA (l.take i)).map V.str)))
      ⟨none, kl, rfl, smH, hw5, hr5, Nat.zero_le _, hk5⟩ (fun i σ H6 _ hq => by (obtain ⟨_, _, _, _, _, hr6, _⟩ := hq; exact SqL.of hr6)) ?_ ?_⟩
    · rintro i x σ H6 hx ⟨x7, kn, rfl, sm6, hw6, hr6, hil, hk6⟩
      obtain ⟨rw', hrw, rfl⟩ := at_strs hx
      rw [List.getElem?_map] at hrw
      obtain ⟨b, hb, rfl⟩ := Option.map_eq_some_iff.mp hrw
      have gb := good b (List.mem_of_getElem? hb)
      have hlt : i < l.length := (List.getElem?_eq_some_iff.mp hb).1
      have lf := len_all (l.take i) fun a ha => (good a (List.mem_of_mem_take ha)).2.2.1
      have lti : (l.take i).length ≤ 8 := by rw [List.length_take]; (first | assumption | exact Nat.le_trans (by assumption) (by decide) | exact Nat.lt_of_lt_of_le (by assumption) (by decide) | lia | omega)
      refine ⟨_, rfl, _, rfl, rfl, _, P4.bl1, rfl, rfl, by decide +kernel, ?_, fun p1 hp1 => ?_⟩
      · have := row_len gb
        refine Nat.le_trans (show (P4.rowT b).length + 2 ≤ 1000000 by (first | assumption | exact Nat.le_trans (by assumption) (by decide) | exact Nat.lt_of_lt_of_le (by assumption) (by decide) | lia | omega)) ?_
        rw [sizeLine_eq]
        decide
      rw [row_split gb]
      have smC : Same H6 (upd H6 p1 (.lst ((b.1 :: b.2).map V.str))) := same_new hp1 _
      have hp7 : upd H6 p1 (.lst ((b.1 :: b.2).map V.str)) p1 = some (.lst ((b.1 :: b.2).map V.str)) := upd_same
      generalize upd H6 p1 (.lst ((b.1 :: b.2).map V.str)) = H7 at smC hp7 ⊢
      refine ⟨_, rfl, noPart ⟨_, _, rfl, SqL.of hp7, fun p2 hp2 => ?_⟩⟩
      rw [cut_one]
      have smD : Same H7 (upd H7 p2 (.lst (b.2.map V.str))) := same_new hp2 _
      have hp8 : upd H7 p2 (.lst (b.2.map V.str)) p2 = some (.lst (b.2.map V.str)) := upd_same
      generalize upd H7 p2 (.lst (b.2.map V.str)) = H8 at smD hp8 ⊢
      have sm68 := smC.trans smD
      refine ⟨_, _, _, _, rfl, rfl, sm68 _ _ hk6, hp8, ?_, fun p3 hp3 => ?_⟩
      · rw [List.length_map, List.length_map]
        have := gb.2.2.1
        exact Nat.le_of_lt (small1000 (by (first | assumption | exact Nat.le_trans (by assumption) (by decide) | exact Nat.lt_of_lt_of_le (by assumption) (by decide) | lia | omega)))
      have smE := same_new hp3 (.lst ((flatA (l.take i)).map V.str ++ b.2.map V.str))
      refine ⟨_, p3, rfl, (sm6.trans sm68).trans smE, smE _ _ (sm68 _ _ hw6), smE _ _ (sm68 _ _ hr6), hlt, ?_⟩
      rw [upd_same, flatA_take hb, List.map_append]
    rintro σ H6 ⟨x7, kn, rfl, sm6, hw6, hr6, _, hk6⟩
    rw [lr, List.take_length] at hk6
    -- walk words
    show T9 _ _ _
    subst e9
    refine seq_hide fun T10 e10 => ?_
    refine ⟨_, rfl, noPart ⟨_, rfl, _, rfl, _, _, rfl, SqL.of hw6, fun hl hhl => ?_⟩⟩
    have ltj : (ws.take j).length = j := by rw [List.length_take]; (first | assumption | exact Nat.le_trans (by assumption) (by decide) | exact Nat.lt_of_lt_of_le (by assumption) (by decide) | lia | omega)
    have ec2 : cutV (ws.map V.str) none (some (j : Int)) = (ws.take j).map V.str := by
      have := cut_first (ws := ws) (xs := ws.take j) (rest := ws.drop j) (List.take_append_drop j ws).symm
      rwa [ltj] at this
    rw [ec2]
    have smF : Same H6 (upd H6 hl (.lst ((ws.take j).map V.str))) := same_new hhl _
    have hh7 : upd H6 hl (.lst ((ws.take j).map V.str)) hl = some (.lst ((ws.take j).map V.str)) := upd_same
    generalize upd H6 hl (.lst ((ws.take j).map V.str)) = H7 at smF hh7 ⊢
    have lh : ((ws.take j).map V.str).length = j := by rw [List.length_map, ltj]
    refine ⟨hl, rfl, ⟨_, SqL.of hh7⟩, for_list (K := K) (a := hl) (xs := (ws.take j).map V.str)
      (fun i σ H8 => ∃ x8 : Option V, σ = [some (.str z), some (.ref wl), some (.ref sp), x3, some (.int (j : Int)), some (.ref kn), some (.ref rl), x7, x8, none] ∧ Same H7 H8 ∧ i ≤ j ∧ ((ws.take j).take i).filter (looseB l) = [])
      ⟨none, rfl, Same.refl _, Nat.zero_le _, rfl⟩ (fun i σ H8 _ hq => by (obtain ⟨_, _, sm8, _⟩ := hq; exact SqL.of (sm8 _ _ hh7))) ?_ ?_⟩
    · rintro i x σ H8 hx ⟨x8, rfl, sm8, hij, hfil⟩
      obtain ⟨y, hy, rfl⟩ := at_strs hx
      have hym := List.mem_of_getElem? hy
      have hyt := jt y hym
      obtain ⟨c, hc⟩ := term_fst hyt
      have hy9 := term_len hyt
      have hlt : i < j := by
        have := (List.getElem?_eq_some_iff.mp hy).1
        (first | assumption | exact Nat.le_trans (by assumption) (by decide) | exact Nat.lt_of_lt_of_le (by assumption) (by decide) | lia | omega)
      have e0 : atI y.cps.toList 0 = some c := atI_nat (j := 0) hc
      refine ⟨_, rfl, _, _, _, rfl, rfl, Nat.le_of_lt (small1000 (by (first | assumption | exact Nat.le_trans (by assumption) (by decide) | exact Nat.lt_of_lt_of_le (by assumption) (by decide) | lia | omega))), e0, rfl, _, rfl, ?_⟩
      rw [term_ask hyt hc]
      have fstep := filt_take (g := looseB l) hy
      rw [hfil, List.nil_append] at fstep
      refine ite2 (fun c1 => ?_) (fun c1 => ?_)
      · refine ⟨_, rfl, _, rfl, kn, _, rfl, .inl (SqL.of (sm8 _ _ (smF _ _ hk6))), rfl, flat_strs _, _, rfl, ?_⟩
        show if (!inV (.str y) ((flatA l).map V.str)) = true then _ else _
        rw [inV_str]
        refine ite2 (fun c2 => ?_) (fun c2 => ?_)
        · have lb : looseB l y = true := by
            unfold looseB
            rw [c1, c2]
            rfl
          obtain ⟨rs, ers⟩ := filt_first hfil hy lb
          have hk : resW ws = .loose y := by
            rw [hk]
            unfold looseL
            rw [ers]
          refine ⟨_, rfl, (by show 2 ≤ sizeLine; decide), fun r hr' => k r _ (((sm6.trans smF).trans sm8).trans (same_new hr' _)) ?_⟩
          rw [hk]
          exact upd_same
        · refine ⟨_, rfl, sm8, hlt, ?_⟩
          rw [fstep, if_neg]
          unfold looseB
          rw [c1, Bool.true_and]
          exact c2
      · refine iteF ⟨_, rfl, sm8, hlt, ?_⟩
        rw [fstep, if_neg]
        unfold looseB
        rw [Bool.eq_false_iff.mpr c1, Bool.false_and]
        exact Bool.false_ne_true
    rintro σ H8 ⟨x8, rfl, sm8, _, hfil⟩
    rw [lh, List.take_of_length_le (by rw [ltj]; exact Nat.le_refl _)] at hfil
    have hk : resW ws = .quest (ws.take j) l := by
      rw [hk]
      unfold looseL
      rw [hfil]
    have sm68 := smF.trans sm8
    show T10 _ _ _
    subst e10
    refine seq_hide fun T11 e11 => ?_
    refine ⟨_, rfl, rl, rfl, ⟨_, SqL.of (sm68 _ _ hr6)⟩, comp_list (K := K) (a := rl) (xs := (l.map P4.rowT).map V.str) (fun i ys H9 => Same H8 H9 ∧ i ≤ l.length ∧ AtomsAt H9 ys (l.take i)) (by rw [lr]; exact small1000 (by (first | assumption | exact Nat.le_trans (by assumption) (by decide) | exact Nat.lt_of_lt_of_le (by assumption) (by decide) | lia | omega))) ⟨Same.refl _, Nat.zero_le _, .nil⟩ ?_ ?_ ?_⟩
    · rintro i ys H9 hi ⟨sm9, hi2, hA⟩
      refine ⟨SqL.of (sm9 _ _ (sm68 _ _ hr6)), ?_⟩
      have := Paired.length hA
      rw [List.length_take] at this
      (first | assumption | exact Nat.le_trans (by assumption) (by decide) | exact Nat.lt_of_lt_of_le (by assumption) (by decide) | lia | omega)
    · rintro i x ys H9 N hc ⟨sm9, hi, hA⟩ hN
      obtain ⟨rw', hrw, rfl⟩ := at_strs hc
      rw [List.getElem?_map] at hrw
      obtain ⟨b, hb, rfl⟩ := Option.map_eq_some_iff.mp hrw
      have gb := good b (List.mem_of_getElem? hb)
      have hlt : i < l.length := (List.getElem?_eq_some_iff.mp hb).1
      have lz : (P4.rowT b).length + 2 ≤ sizeLine := by
        have := row_len gb
        refine Nat.le_trans (show (P4.rowT b).length + 2 ≤ 1000000 by (first | assumption | exact Nat.le_trans (by assumption) (by decide) | exact Nat.lt_of_lt_of_le (by assumption) (by decide) | lia | omega)) ?_
        rw [sizeLine_eq]
        decide
      refine rd_true ?_
      refine ⟨_, rfl, rfl, _, P4.bl1, rfl, rfl, by decide +kernel, lz, fun p1 hp1 => ?_⟩
      rw [row_split gb]
      have smC : Same H9 (upd H9 p1 (.lst ((b.1 :: b.2).map V.str))) := same_new hp1 _
      have hp7 : upd H9 p1 (.lst ((b.1 :: b.2).map V.str)) p1 = some (.lst ((b.1 :: b.2).map V.str)) := upd_same
      generalize upd H9 p1 (.lst ((b.1 :: b.2).map V.str)) = Ha at smC hp7 ⊢
      refine ⟨_, _, _, _, rfl, rfl, SqL.of hp7, atI_nat (j := 0) rfl, ?_⟩
      refine ⟨_, rfl, rfl, _, P4.bl1, rfl, rfl, by decide +kernel, lz, fun p2 hp2 => ?_⟩
      rw [row_split gb]
      have smD : Same Ha (upd Ha p2 (.lst ((b.1 :: b.2).map V.str))) := same_new hp2 _
      have hp8 : upd Ha p2 (.lst ((b.1 :: b.2).map V.str)) p2 = some (.lst ((b.1 :: b.2).map V.str)) := upd_same
      generalize upd Ha p2 (.lst ((b.1 :: b.2).map V.str)) = Hb at smD hp8 ⊢
      refine ⟨_, rfl, noPart ⟨_, _, rfl, SqL.of hp8, fun p3 hp3 => ?_⟩⟩
      rw [cut_one]
      have smE : Same Hb (upd Hb p3 (.lst (b.2.map V.str))) := same_new hp3 _
      have hp9 : upd Hb p3 (.lst (b.2.map V.str)) p3 = some (.lst (b.2.map V.str)) := upd_same
      generalize upd Hb p3 (.lst (b.2.map V.str)) = Hc at smE hp9 ⊢
      refine ⟨p3, _, rfl, .inl ⟨SqL.of hp9, fun t ht => ?_⟩⟩
      have smG : Same Hc (upd Hc t (.tup (b.2.map V.str))) := same_new ht _
      have ht2 : upd Hc t (.tup (b.2.map V.str)) t = some (.tup (b.2.map V.str)) := upd_same
      generalize upd Hc t (.tup (b.2.map V.str)) = Hd at smG ht2 ⊢
      refine ⟨(by show 2 ≤ sizeLine; decide), fun p hp => ?_⟩
      have smI : Same Hd (upd Hd p (.tup [.str b.1, .ref t])) := same_new hp _
      have sm9d := smC.trans (smD.trans (smE.trans (smG.trans smI)))
      refine hN _ _ ⟨sm9.trans sm9d, hlt, ?_⟩
      rw [List.take_add_one, hb]
      exact Paired.snoc' (AtomsAt.keep (Tups.of sm9d) hA) ⟨p, t, rfl, upd_same, smI _ _ ht2⟩
    · rintro ys H9 ⟨sm9, _, hA⟩ al hal
      rw [lr, List.take_length] at hA
      have smJ : Same H9 (upd H9 al (.lst ys)) := same_new hal _
      have ha2 : upd H9 al (.lst ys) al = some (.lst ys) := upd_same
      generalize upd H9 al (.lst ys) = Ha at smJ ha2 ⊢
      have sm6a := sm68.trans (sm9.trans smJ)
      show T11 _ _ _
      subst e11
      refine ⟨_, rfl, noPart ⟨_, rfl, _, rfl, _, _, rfl, SqL.of (sm6a _ _ hw6), fun h2 hh2 => ?_⟩⟩
      rw [ec2]
      have smK : Same Ha (upd Ha h2 (.lst ((ws.take j).map V.str))) := same_new hh2 _
      have hh3 : upd Ha h2 (.lst ((ws.take j).map V.str)) h2 = some (.lst ((ws.take j).map V.str)) := upd_same
      generalize upd Ha h2 (.lst ((ws.take j).map V.str)) = Hb at smK hh3 ⊢
      refine ⟨h2, _, rfl, .inl ⟨SqL.of hh3, fun t1 ht1 => ?_⟩⟩
      have smL : Same Hb (upd Hb t1 (.tup ((ws.take j).map V.str))) := same_new ht1 _
      have ht3 : upd Hb t1 (.tup ((ws.take j).map V.str)) t1 = some (.tup ((ws.take j).map V.str)) := upd_same
      generalize upd Hb t1 (.tup ((ws.take j).map V.str)) = Hc at smL ht3 ⊢
      refine ⟨_, rfl, al, _, rfl, .inl ⟨SqL.of (smL _ _ (smK _ _ ha2)), fun t2 ht2 => ?_⟩⟩
      have smM : Same Hc (upd Hc t2 (.tup ys)) := same_new ht2 _
      have ht4 : upd Hc t2 (.tup ys) t2 = some (.tup ys) := upd_same
      generalize upd Hc t2 (.tup ys) = Hd at smM ht4 ⊢
      refine ⟨(by show 2 ≤ sizeLine; decide), fun q hq => ?_⟩
      have smN : Same Hd (upd Hd q (.tup [.ref t1, .ref t2])) := same_new hq _
      have hq2 : upd Hd q (.tup [.ref t1, .ref t2]) q = some (.tup [.ref t1, .ref t2]) := upd_same
      generalize upd Hd q (.tup [.ref t1, .ref t2]) = He at smN hq2 ⊢
      refine ⟨(by show 2 ≤ sizeLine; decide), fun r hr' => k r _ ?_ ?_⟩
      · exact (sm6.trans (sm6a.trans (smK.trans (smL.trans (smM.trans smN))))).trans (same_new hr' _)
      · rw [hk]
        have smO := same_new hr' (.tup [.str "question", .ref q])
        refine ⟨q, upd_same, q, t1, t2, ys, rfl, smO _ _ hq2, smO _ _ (smN _ _ (smM _ _ ht3)), smO _ _ (smN _ _ ht4), ?_⟩
        exact AtomsAt.keep (Tups.of (smJ.trans (smK.trans (smL.trans (smM.trans (smN.trans smO)))))) hA
end
end K04

set_option Elab.async false
set_option linter.all false
set_option maxRecDepth 100000
set_option maxHeartbeats 4000000
namespace K04
open PySem PySem.Spec PyProof.Rows L2
seal L2.PE L2.PT L2.PW L2.PA L2.PS L2.PSs L2.PI L2.PO L2.PPs L2.PG L2.PGs
/-! ## what read tells, caught -/
noncomputable def EHt (c4 c0 : Addr) (H : Hp) (res : R4) : XK := fun cls dd H' => Same H H' ∧ ∃ d, dd = some d ∧ ((∃ n : Nat, res = .text n ∧ cls = .ref c4 ∧ H' d = some (.xd [("at", .int (n : Int))])) ∨ ∃ u : Str, res = .loose u ∧ cls = .ref c0 ∧ H' d = some (.xd [("unknown", .str u)]))
section
variable {P : Program} {w : World} {K : PySem.W.Frag} {mg : Str → Option Value} {base : Heap} {A0 c0 c1 c2 c3 c4 c5 c6 c7 : Addr}
structure Lt (P : Program) (w : World) (K : PySem.W.Frag) (mg : Str → Option Value) (base : Heap) (A0 c0 c1 c2 c3 c4 c5 c6 c7 : Addr) : Prop where
  read : DefOkE P w K mg base 6 "read" ["text"] (spRead4 c4 c0)
  m_AskError : mg "AskError" = some (.ref A0)
  q_AskError : excInI K A0 bmV "ValueError.__new__" = true
  m_Loose : mg "Loose" = some (.ref c0)
  m_NoAsk : mg "NoAsk" = some (.ref c1)
  m_NoHeld : mg "NoHeld" = some (.ref c2)
  m_NoRow : mg "NoRow" = some (.ref c3)
  m_NoText : mg "NoText" = some (.ref c4)
  m_NoView : mg "NoView" = some (.ref c5)
  m_TooMany : mg "TooMany" = some (.ref c6)
  m_Twice : mg "Twice" = some (.ref c7)
  e4 : ExcK K c4
  e0 : ExcK K c0
  r4 : PySem.W.mroIn K c4 (.ref A0) = some true
  r0 : PySem.W.mroIn K c0 (.ref A0) = some true
  g4 : PySem.W.findIn K (.ref c4) "at" = some none
  g0 : PySem.W.findIn K (.ref c0) "unknown" = some none
  v4 : PySem.W.kitOne K (.ref c4) (.type "ValueError") = some true
  v0 : PySem.W.kitOne K (.ref c0) (.type "ValueError") = some true
  t40 : PySem.W.kitOne K (.ref c4) (.ref c0) = some false
  t04 : PySem.W.kitOne K (.ref c0) (.ref c4) = some false
  a4 : PySem.W.kitAny K (.ref c4) [.ref c1, .ref c2, .ref c3, .ref c5, .ref c6, .ref c7] = some false
  a0 : PySem.W.kitAny K (.ref c0) [.ref c1, .ref c2, .ref c3, .ref c5, .ref c6, .ref c7] = some false
theorem kit_self (t : Value) : PySem.W.kitOne K t t = some true := by
  unfold PySem.W.kitOne
  rw [if_pos (beq_self_eq_true t)]
theorem _root_.L2.ErrG.keep {H H' : Hp} {a C : Addr} {fs : List (Str × V)} (h : ErrG H a C fs) (s : Same H H') : ErrG H' a C fs := by
  obtain ⟨d, h1, h2⟩ := h
  exact ⟨d, s _ _ h1, s _ _ h2⟩
theorem sc_l_told : FnScope ["_law_text", "_law_found", "e", "_law_others"] ["_law_text"] (defScope s_l_told) := ⟨rfl, rfl, rfl, by decide +kernel, rfl, by decide +kernel, by decide +kernel⟩
theorem ok_told {f : Addr} {fd : FuncData} (F : Fun K "_law_told" "_law_told" s_l_told f fd) (T : Txt K mg) (D : Lt P w K mg base A0 c0 c1 c2 c3 c4 c5 c6 c7) : FnOk P w K mg base CX0 7 f fd ["_law_text"] spAns := by
  refine F.ok sc_l_told (fun vs H Q E h => ?_) (fun cdv A outer s H vs Q E hr h => ?_)
  · obtain ⟨a, rfl, _⟩ := h
    rfl
  obtain ⟨z, rfl, hz, k⟩ := h
  generalize hres : resW (Txt.split z P4.bl1) = res at k
  have isR : ∀ {c : Addr} (u' : Value), RelV (.ref c) u' → u' = Value.ref c := fun _ h => h
  have isT : ∀ (u' : Value), RelV (.ty "ValueError") u' → u' = Value.type "ValueError" := fun _ h => h
  obtain ⟨EH, hEH⟩ : ∃ EH : XK, EH = EHt c4 c0 H res := ⟨_, rfl⟩
  refine ⟨_, (pss_cons (ps_set (i := 1) sc_l_told.nd rfl (Or.inl rfl) (pe_tup (pa_cons pe_str (pa_cons pe_non pa_nil))))
      (pss_cons (ps_try (i := 2) (EH := EH) sc_l_told.nd rfl rfl rfl D.m_AskError D.q_AskError rfl rfl (fun _ _ L => (pss_one (ps_set (i := 1) sc_l_told.nd rfl (Or.inl rfl) (pe_tup (pa_cons pe_str (pa_cons (clE D.read hr L (pa_cons (pv 0) pa_nil)) pa_nil))))))
      (fun _ => (pss_cons (ps_set (i := 3) sc_l_told.nd rfl (Or.inl rfl) (pe_or (pe_callB (call_isinstTK (K := K)) rfl T.n_isinstance (by decide +kernel) (pa_cons (pv 2) (pa_cons (pe_tup (pa_cons (pe_globR rfl D.m_NoAsk) (pa_cons (pe_globR rfl D.m_NoHeld) (pa_cons (pe_globR rfl D.m_NoRow) (pa_cons (pe_globR rfl D.m_NoView) (pa_cons (pe_globR rfl D.m_TooMany) (pa_cons (pe_globR rfl D.m_Twice) pa_nil))))))) pa_nil))) (pe_one (pe_not (pe_callB (call_isinstGK (K := K)) rfl T.n_isinstance (by decide +kernel) (pa_cons (pv 2) (pa_cons (pe_ty (n := "ValueError") rfl T.n_ValueError (by decide +kernel)) pa_nil)))))))
      (pss_cons (ps_set (i := 1) sc_l_told.nd rfl (Or.inl rfl) (pe_tup (pa_cons pe_str (pa_cons pe_non pa_nil))))
      (pss_cons (ps_if (PW.pt (pw_and (pt_val (pe_callB (call_isinstGK (K := K)) rfl T.n_isinstance (by decide +kernel) (pa_cons (pv 2) (pa_cons (pe_globR rfl D.m_NoText) pa_nil)))) (pw_and (pt_not (pt_val (pe_callB (call_isinstGK (K := K)) rfl T.n_isinstance (by decide +kernel) (pa_cons (pv 2) (pa_cons (pe_globR rfl D.m_Loose) pa_nil))))) (pw_and (pt_not (pt_val (pv 3))) (pw_and1 (pt_not (pt_val (pe_callB (call_isinstK (K := K)) rfl T.n_isinstance (by decide +kernel) (pa_cons ((pe_exgetGK (K := K)) (pv 2)) (pa_cons (pe_ty (n := "bool") rfl T.n_bool (by decide +kernel)) pa_nil)))))))))) (pss_one (ps_set (i := 1) sc_l_told.nd rfl (Or.inl rfl) (pe_tup (pa_cons pe_str (pa_cons ((pe_exgetGK (K := K)) (pv 2)) pa_nil))))) pss_nil)
      (pss_one (ps_if (PW.pt (pw_and (pt_val (pe_callB (call_isinstGK (K := K)) rfl T.n_isinstance (by decide +kernel) (pa_cons (pv 2) (pa_cons (pe_globR rfl D.m_Loose) pa_nil)))) (pw_and (pt_not (pt_val (pe_callB (call_isinstGK (K := K)) rfl T.n_isinstance (by decide +kernel) (pa_cons (pv 2) (pa_cons (pe_globR rfl D.m_NoText) pa_nil))))) (pw_and1 (pt_not (pt_val (pv 3))))))) (pss_one (ps_set (i := 1) sc_l_told.nd rfl (Or.inl rfl) (pe_tup (pa_cons pe_str (pa_cons ((pe_exgetGK (K := K)) (pv 2)) pa_nil))))) pss_nil)))))))
      (pss_one (ps_ret (pv 1))))), ?_⟩
  refine ⟨(by show 2 ≤ sizeLine; decide), fun p0 hp0 => ?_⟩
  have sm1 : Same H (upd H p0 (.tup [.str "none", .non])) := same_new hp0 _
  generalize upd H p0 (.tup [.str "none", .non]) = H1 at sm1 ⊢
  refine ⟨?_, ?_⟩
  · refine ⟨_, rfl, z, rfl, hz, ?_⟩
    rw [hres]
    cases res with
    | text n =>
      intro d H' sm hd
      rw [hEH]
      exact ⟨sm1.trans sm, d, rfl, .inl ⟨n, rfl, rfl, hd⟩⟩
    | loose u =>
      intro d H' sm hd
      rw [hEH]
      exact ⟨sm1.trans sm, d, rfl, .inr ⟨u, rfl, rfl, hd⟩⟩
    | quest hz ats =>
      intro r H2 sm2 hQ
      refine ⟨(by show 2 ≤ sizeLine; decide), fun p hp => ?_⟩
      have sm3 := same_new hp (.tup [.str "question", .ref r])
      exact ⟨_, rfl, k p _ ((sm1.trans sm2).trans sm3) ⟨r, upd_same, hQ.keep (Tups.of sm3)⟩⟩
  · intro e C dd H2 he hE
    rw [hEH] at hE
    obtain ⟨sm2, d, rfl, ⟨n, rfl, hC, hd⟩ | ⟨u, rfl, hC, hd⟩⟩ := hE
    · cases hC
      have eG : ErrG H2 e c4 [("at", .int (n : Int))] := ⟨d, he, hd⟩
      refine ⟨D.r4, ?_⟩
      refine ⟨_, rfl, (by show 6 ≤ sizeLine; decide), fun p1 hp1 => ?_⟩
      have smA : Same H2 (upd H2 p1 (.tup [.ref c1, .ref c2, .ref c3, .ref c5, .ref c6, .ref c7])) := same_new hp1 _
      have hp2 : upd H2 p1 (.tup [.ref c1, .ref c2, .ref c3, .ref c5, .ref c6, .ref c7]) p1 = some (.tup [.ref c1, .ref c2, .ref c3, .ref c5, .ref c6, .ref c7]) := upd_same
      generalize upd H2 p1 (.tup [.ref c1, .ref c2, .ref c3, .ref c5, .ref c6, .ref c7]) = H3 at smA hp2 ⊢
      have eG3 := eG.keep smA
      refine ⟨e, c4, p1, _, [c1, c2, c3, c5, c6, c7], false, rfl, eG3, D.e4, hp2, D.a4, _, rfl, iteF ?_⟩
      refine ⟨_, rfl, e, c4, _, _, _, _, rfl, eG3, D.e4, isT, D.v4, _, rfl, ?_⟩
      refine ⟨(by show 2 ≤ sizeLine; decide), fun p3 hp3 => ?_⟩
      have smB : Same H3 (upd H3 p3 (.tup [.str "other", .non])) := same_new hp3 _
      generalize upd H3 p3 (.tup [.str "other", .non]) = H4 at smB ⊢
      have eG4 := eG3.keep smB
      refine ⟨_, rfl, e, c4, _, _, _, _, rfl, eG4, D.e4, isR, kit_self _, _, rfl, iteT ?_⟩
      refine ⟨_, rfl, e, c4, _, _, _, _, rfl, eG4, D.e4, isR, D.t40, _, rfl, iteT ?_⟩
      refine ⟨_, rfl, _, rfl, iteT ?_⟩
      refine ⟨_, rfl, e, c4, _, _, rfl, eG4, D.e4, D.g4, rfl, _, _, _, false, rfl, TyOf.int _, by rfl, _, rfl, iteT ?_⟩
      refine ⟨_, rfl, e, c4, _, _, rfl, eG4, D.e4, D.g4, rfl, (by show 2 ≤ sizeLine; decide), fun p5 hp5 => ?_⟩
      have smC : Same H4 (upd H4 p5 (.tup [.str "text", .int (n : Int)])) := same_new hp5 _
      have hp6 : upd H4 p5 (.tup [.str "text", .int (n : Int)]) p5 = some (.tup [.str "text", .int (n : Int)]) := upd_same
      generalize upd H4 p5 (.tup [.str "text", .int (n : Int)]) = H5 at smC hp6 ⊢
      have eG5 := eG4.keep smC
      refine ⟨_, rfl, e, c4, _, _, _, _, rfl, eG5, D.e4, isR, D.t40, _, rfl, iteF ?_⟩
      exact ⟨_, rfl, k p5 H5 (sm2.trans (smA.trans (smB.trans smC))) hp6⟩
    · cases hC
      have eG : ErrG H2 e c0 [("unknown", .str u)] := ⟨d, he, hd⟩
      refine ⟨D.r0, ?_⟩
      refine ⟨_, rfl, (by show 6 ≤ sizeLine; decide), fun p1 hp1 => ?_⟩
      have smA : Same H2 (upd H2 p1 (.tup [.ref c1, .ref c2, .ref c3, .ref c5, .ref c6, .ref c7])) := same_new hp1 _
      have hp2 : upd H2 p1 (.tup [.ref c1, .ref c2, .ref c3, .ref c5, .ref c6, .ref c7]) p1 = some (.tup [.ref c1, .ref c2, .ref c3, .ref c5, .ref c6, .ref c7]) := upd_same
      generalize upd H2 p1 (.tup [.ref c1, .ref c2, .ref c3, .ref c5, .ref c6, .ref c7]) = H3 at smA hp2 ⊢
      have eG3 := eG.keep smA
      refine ⟨e, c0, p1, _, [c1, c2, c3, c5, c6, c7], false, rfl, eG3, D.e0, hp2, D.a0, _, rfl, iteF ?_⟩
      refine ⟨_, rfl, e, c0, _, _, _, _, rfl, eG3, D.e0, isT, D.v0, _, rfl, ?_⟩
      refine ⟨(by show 2 ≤ sizeLine; decide), fun p3 hp3 => ?_⟩
      have smB : Same H3 (upd H3 p3 (.tup [.str "other", .non])) := same_new hp3 _
      generalize upd H3 p3 (.tup [.str "other", .non]) = H4 at smB ⊢
      have eG4 := eG3.keep smB
      refine ⟨_, rfl, e, c0, _, _, _, _, rfl, eG4, D.e0, isR, D.t04, _, rfl, iteF ?_⟩
      refine ⟨_, rfl, e, c0, _, _, _, _, rfl, eG4, D.e0, isR, kit_self _, _, rfl, iteT ?_⟩
      refine ⟨_, rfl, e, c0, _, _, _, _, rfl, eG4, D.e0, isR, D.t04, _, rfl, iteT ?_⟩
      refine ⟨_, rfl, _, rfl, iteT ?_⟩
      refine ⟨_, rfl, e, c0, _, _, rfl, eG4, D.e0, D.g0, rfl, (by show 2 ≤ sizeLine; decide), fun p5 hp5 => ?_⟩
      have smC : Same H4 (upd H4 p5 (.tup [.str "loose", .str u])) := same_new hp5 _
      exact ⟨_, rfl, k p5 _ (sm2.trans (smA.trans (smB.trans smC))) upd_same⟩
end
end K04

set_option Elab.async false
set_option linter.all false
set_option maxRecDepth 100000
set_option maxHeartbeats 4000000
namespace K04
open PySem PySem.Spec PyProof.Rows L2
seal L2.PE L2.PT L2.PW L2.PA L2.PS L2.PSs L2.PI L2.PO L2.PPs L2.PG L2.PGs
noncomputable def dA (a : Str × List Str) : PyData := .tuple [.str a.1, .tuple (a.2.map PyData.str)]
noncomputable def dQ (hz : List Str) (ats : List (Str × List Str)) : PyData := .tuple [.tuple (hz.map PyData.str), .tuple (ats.map dA)]
theorem dt_ats {K : PySem.W.Frag} {H : Hp} : ∀ {avs : List V} {ats : List (Str × List Str)}, AtomsAt H avs ats → DtAll K H (ats.map dA) avs
  | _, _, .nil => by rw [List.map_nil, DtAll]
  | _, _, .cons h t => by
    rw [List.map_cons, DtAll]
    refine ⟨_, _, rfl, ?_, dt_ats t⟩
    obtain ⟨p, t, rfl, hp, ht⟩ := h
    unfold dA
    rw [Dt]
    refine ⟨p, _, rfl, SqT.of hp, ?_⟩
    rw [DtAll]
    refine ⟨_, _, rfl, by rw [Dt], ?_⟩
    rw [DtAll]
    refine ⟨_, _, rfl, ?_, by rw [DtAll]⟩
    rw [Dt]
    exact ⟨t, _, rfl, SqT.of ht, dtAll_strs _⟩
theorem dt_q {K : PySem.W.Frag} {H : Hp} {v : V} {hz : List Str} {ats : List (Str × List Str)} (h : QAt H v hz ats) : Dt K H (dQ hz ats) v := by
  obtain ⟨q, hd, aa, avs, rfl, hq, hhd, haa, hats⟩ := h
  unfold dQ
  rw [Dt]
  refine ⟨q, _, rfl, SqT.of hq, ?_⟩
  rw [DtAll]
  refine ⟨_, _, rfl, ?_, ?_⟩
  · rw [Dt]
    exact ⟨hd, _, rfl, SqT.of hhd, dtAll_strs hz⟩
  · rw [DtAll]
    refine ⟨_, _, rfl, ?_, by rw [DtAll]⟩
    rw [Dt]
    exact ⟨aa, avs, rfl, SqT.of haa, dt_ats hats⟩
theorem depth_ats : ∀ ats : List (Str × List Str), PyData.depthAll (ats.map dA) ≤ 2
  | [] => by simp [PyData.depthAll]
  | a :: r => by
    have h := depth_ats r
    simp only [dA, List.map_cons, PyData.depthAll, PyData.depth, depth_strs]
    (first | lia | omega)
theorem Feed.same {K : PySem.W.Frag} {f : Addr} {H H' : Hp} (h : Feed K f H) (sm : Same H H') : Feed K f H' := by
  obtain ⟨a, ns, x, y, z, hf, h1, h2, h3, hS, hn⟩ := h
  refine ⟨a, ns, x, y, z, sm _ _ hf, h1, h2, h3, ?_, hn⟩
  rcases hS with ⟨o, q⟩ | q
  · exact .inl ⟨o, sm _ _ q⟩
  · exact .inr q
/-! ## answers as data -/
noncomputable def dR : R4 → PyData
  | .text n => .tuple [.str "text", .int (n : Int)]
  | .loose u => .tuple [.str "loose", .str u]
  | .quest hz ats => .tuple [.str "question", dQ hz ats]
noncomputable def TermsR : R4 → Prop
  | .text _ => True
  | .loose u => isTerm u = true
  | .quest hz ats => (∀ z ∈ hz, isTerm z = true) ∧ ∀ a ∈ ats, isVal a.1 = true ∧ ∀ z ∈ a.2, isTerm z = true
theorem res_terms (ws : List Str) : TermsR (resW ws) := by
  cases hh : hdW 0 ws with
  | inl j =>
    have : resW ws = .text j := by
      unfold resW
      rw [hh]
    rw [this]
    trivial
  | inr j =>
    obtain ⟨_, _, _, jt⟩ := P4.hd_is T_cl ws hh
    cases ha : atsW4 (ws.length + 1) 0 (j + 1) (ws.drop (j + 1)) with
    | inl i =>
      have : resW ws = .text i := by
        unfold resW
        rw [hh]
        show resA _ (atsW4 (ws.length + 1) 0 (j + 1) (ws.drop (j + 1))) = _
        rw [ha]
        rfl
      rw [this]
      trivial
    | inr l =>
      obtain ⟨_, _, good⟩ := P4.ats_words _ _ _ _ _ ha
      rw [res_q hh ha]
      cases hl : looseL (ws.take j) l with
      | nil => exact ⟨jt, fun a h => ⟨(good a h).1, (good a h).2.2.2⟩⟩
      | cons u us =>
        have hm : u ∈ looseL (ws.take j) l := by rw [hl]; exact List.mem_cons_self
        exact jt u (List.mem_filter.mp hm).1
theorem dt_str {K : PySem.W.Frag} {H : Hp} (z : Str) : Dt K H (.str z) (.str z) := by rw [Dt]
theorem dt_int {K : PySem.W.Frag} {H : Hp} (i : Int) : Dt K H (.int i) (.int i) := by rw [Dt]
theorem dt_two {K : PySem.W.Frag} {H : Hp} {r : Addr} {x y : V} {d e : PyData} (h : H r = some (.tup [x, y])) (h1 : Dt K H d x) (h2 : Dt K H e y) : Dt K H (.tuple [d, e]) (.ref r) := by
  rw [Dt]
  refine ⟨r, _, rfl, SqT.of h, ?_⟩
  rw [DtAll]
  refine ⟨_, _, rfl, h1, ?_⟩
  rw [DtAll]
  exact ⟨_, _, rfl, h2, by rw [DtAll]⟩
theorem dt_ans {K : PySem.W.Frag} {H : Hp} {r : Addr} {res : R4} (h : AnsAt H r res) : Dt K H (dR res) (.ref r) := by
  cases res with
  | text n => exact dt_two h (dt_str _) (dt_int _)
  | loose u => exact dt_two h (dt_str _) (dt_str _)
  | quest hz ats =>
    obtain ⟨q, h1, h2⟩ := h
    exact dt_two h1 (dt_str _) (dt_q h2)
theorem lay_a4 : ∀ {ats : List (Str × List Str)}, (∀ a ∈ ats, isVal a.1 = true ∧ ∀ z ∈ a.2, isTerm z = true) → PyData.canLayAll0 (ats.map dA) = true
  | [], _ => rfl
  | a :: r, g => by
    have h1 := lay_a4 (ats := r) fun b hb => g b (List.mem_cons_of_mem _ hb)
    have h2 := g a List.mem_cons_self
    have h3 := lay_strs a.2 fun z hz => term_ok (h2.2 z hz)
    have h4 := term_ok (val_term h2.1)
    simp [dA, PyData.canLayAll0, PyData.canLay0, h1, h3, h4]
theorem lay_R {res : R4} (h : TermsR res) : (dR res).canLay0 = true := by
  cases res with
  | text n =>
    have : PyData.strOk "text" = true := by decide +kernel
    simp [dR, PyData.canLayAll0, PyData.canLay0, this]
  | loose u =>
    have h1 : PyData.strOk "loose" = true := by decide +kernel
    have h2 := term_ok h
    simp [dR, PyData.canLayAll0, PyData.canLay0, h1, h2]
  | quest hz ats =>
    have h1 : PyData.strOk "question" = true := by decide +kernel
    have h2 := lay_a4 h.2
    have h3 := lay_strs hz fun z hz' => term_ok (h.1 z hz')
    simp [dR, dQ, PyData.canLayAll0, PyData.canLay0, h1, h2, h3]
theorem shaped_R {res : R4} (h : TermsR res) : SeqAt.shaped (dR res) = true := by
  unfold SeqAt.shaped
  rw [lay_R h, Bool.true_and]
  refine decide_eq_true ?_
  cases res with
  | text n => simp [dR, PyData.depth, PyData.depthAll]
  | loose u => simp [dR, PyData.depth, PyData.depthAll]
  | quest hz ats =>
    have h1 := depth_ats ats
    simp only [dR, dQ, PyData.depth, PyData.depthAll, depth_strs]
    (first | lia | omega)
theorem eqv_R {res : R4} (h : TermsR res) : PyData.eqv (dR res) (dR res) = true := PySem.SeqAt.eqv_refl _ (lay_R h)
theorem AnsAt.keep {H H' : Hp} {r : Addr} {res : R4} (s : Same H H') (h : AnsAt H r res) : AnsAt H' r res := by
  cases res with
  | text n => exact s _ _ h
  | loose u => exact s _ _ h
  | quest hz ats =>
    obtain ⟨q, h1, h2⟩ := h
    exact ⟨q, s _ _ h1, h2.keep (Tups.of s)⟩
/-! ## how much words weigh -/
noncomputable def wt (ws : List Str) : Nat := (ws.map (·.length)).sum + ws.length
theorem wt_app (a b : List Str) : wt (a ++ b) = wt a + wt b := by
  unfold wt
  rw [List.map_append, List.sum_append, List.length_append]
  (first | lia | omega)
theorem wt_cons (a : Str) (r : List Str) : wt (a :: r) = a.length + 1 + wt r := by
  unfold wt
  rw [List.map_cons, List.sum_cons, List.length_cons]
  (first | lia | omega)
theorem wt_split (ws : List Str) (i : Nat) : wt (ws.take i) + wt (ws.drop i) = wt ws := by
  rw [← wt_app, List.take_append_drop]
theorem join_wt : ∀ {ws : List Str}, ws ≠ [] → (Str.join P4.bl1 ws).length + 1 = wt ws
  | [], h => absurd rfl h
  | [a], _ => by
    rw [wt_cons]
    rfl
  | a :: b :: r, _ => by
    have e := congrArg List.length (P4.join_two P4.bl1 a b r)
    rw [List.length_append, List.length_append, P4.bl1_cps] at e
    have l1 : ∀ x : Str, x.cps.toList.length = x.length := fun x => by simp [Str.length]
    rw [l1, l1, l1] at e
    have ih := join_wt (ws := b :: r) (by simp)
    have e1 : ([32] : List Nat).length = 1 := rfl
    rw [e1] at e
    rw [wt_cons]
    (first | lia | omega)
theorem join_le (ws : List Str) : (Txt.join P4.bl1 ws).length ≤ wt ws := by
  have e : Txt.join P4.bl1 ws = Str.join P4.bl1 ws := StrLaws.glued_eq_join _ _
  rw [e]
  cases ws with
  | nil => exact Nat.zero_le _
  | cons a r =>
    have := join_wt (ws := a :: r) (by simp)
    (first | lia | omega)
theorem split_wt (z : Str) : wt (Txt.split z P4.bl1) ≤ z.length + 1 := by
  cases e : Txt.split z P4.bl1 with
  | nil => exact Nat.zero_le _
  | cons a r =>
    have h1 := join_wt (ws := a :: r) (by simp)
    have h2 := StrLaws.join_split z P4.bl1
    rw [e] at h2
    rw [h2] at h1
    (first | lia | omega)
theorem cut_two (xs : List V) (j : Nat) : cutV xs (some (j : Int)) (some ((j + 1 : Nat) : Int)) = (xs.drop j).take 1 := by
  unfold cutV
  rw [HT.sIx_nat, HT.sIx_nat]
  by_cases h : j < xs.length
  · rw [Nat.min_eq_left (by (first | lia | omega)), Nat.min_eq_left (by (first | lia | omega)), show j + 1 - j = 1 by (first | lia | omega)]
  · rw [Nat.min_eq_right (by (first | lia | omega)), Nat.min_eq_right (by (first | lia | omega)), Nat.sub_self, List.take_zero, List.drop_eq_nil_of_le (by (first | lia | omega))]
    rfl
/-! ## words spoilt -/
noncomputable def odd30 : List Str := ["", ":", ",", "?", "??x", "x?", "A", "?A", "abcdefghi", "?abcdefghi", "a-b", ".", "?x", "x", "r", "12", "?12", "abcdefgh", "?abcdefgh", "?qq", ": :", ", ,", "?x ?x", "a , b ?x", ", r x", "0", "a:b", "(r)", "x,", "Zz"]
theorem odd_len : (odd30.all fun z => decide (z.length ≤ 10)) = true := by decide +kernel
noncomputable def spSpoilt4 (K : PySem.W.Frag) : Sp := fun vs H Q _ => ∃ (f wl : Addr) (ws : List Str), vs = [.ref f, .ref wl] ∧ Feed K f H ∧ wl ≠ f ∧ H wl = some (.lst (ws.map V.str)) ∧ wt ws ≤ 20000 ∧
  ∀ (r : Addr) (zs : List Str) (H' : Hp), Feed K f H' → Ext f H H' → r ≠ f → H' r = some (.lst (zs.map V.str)) → wt zs ≤ 2 * wt ws + 20 → Q (.ref r) H'
theorem len_wt (ws : List Str) : ws.length ≤ wt ws := Nat.le_add_left _ _
section
variable {P : Program} {w : World} {K : PySem.W.Frag} {mg : Str → Option Value} {base : Heap}
theorem rd_slS {H : Hp} {wl : Addr} {ws zs : List Str} {lo hi : Option Int} {Q : VK} (h : H wl = some (.lst (ws.map V.str))) (e : cutV (ws.map V.str) lo hi = zs.map V.str) (k : ∀ l, H l = none → Q (.ref l) (upd H l (.lst (zs.map V.str)))) : rSlL K (.ref wl) lo hi H Q :=
  ⟨_, _, rfl, SqL.of h, fun l hl => by rw [e]; exact k l hl⟩
theorem rd_catS {H : Hp} {l1 l2 : Addr} {xs ys : List Str} {Q : VK} (h1 : H l1 = some (.lst (xs.map V.str))) (h2 : H l2 = some (.lst (ys.map V.str))) (hz : wt xs + wt ys ≤ 60000) (k : ∀ r, H r = none → Q (.ref r) (upd H r (.lst ((xs ++ ys).map V.str)))) : rCat (.ref l1) (.ref l2) H Q := by
  have a1 := len_wt xs
  have a2 := len_wt ys
  refine ⟨_, _, _, _, rfl, rfl, h1, h2, ?_, fun r hr => ?_⟩
  · rw [List.length_map, List.length_map]
    exact Nat.le_of_lt (small5000 (by (first | lia | omega)))
  · rw [← List.map_append]
    exact k r hr
structure Lx (P : Program) (w : World) (K : PySem.W.Frag) (mg : Str → Option Value) (base : Heap) : Prop where
  l_draw : DefOk P w K mg base 1 "_law_draw" ["_law_feed_here", "_law_many"] (spDraw K)
theorem sc_l_spoilt : FnScope ["_law_feed_here", "_law_words_here", "_law_odd", "_law_word_here", "_law_at", "_law_way"] ["_law_feed_here", "_law_words_here"] (defScope s_l_spoilt) := ⟨rfl, rfl, rfl, by decide +kernel, rfl, by decide +kernel, by decide +kernel⟩
theorem ok_spoilt {f : Addr} {fd : FuncData} (F : Fun K "_law_spoilt" "_law_spoilt" s_l_spoilt f fd) (T : Txt K mg) (D : Lx P w K mg base) : FnOk P w K mg base CX0 2 f fd ["_law_feed_here", "_law_words_here"] (spSpoilt4 K) := by
  refine F.ok sc_l_spoilt (fun vs H Q E h => ?_) (fun cdv A outer s H vs Q E hr h => ?_)
  · obtain ⟨a, b, c, rfl, _⟩ := h
    rfl
  obtain ⟨fe, wl, ws, rfl, hF, nwl, hw, hwt, k⟩ := h
  refine ⟨_, (pss_cons (ps_set (i := 2) sc_l_spoilt.nd rfl (Or.inl rfl) (pe_lst (pa_cons pe_str (pa_cons pe_str (pa_cons pe_str (pa_cons pe_str (pa_cons pe_str (pa_cons pe_str (pa_cons pe_str (pa_cons pe_str (pa_cons pe_str (pa_cons pe_str (pa_cons pe_str (pa_cons pe_str (pa_cons pe_str (pa_cons pe_str (pa_cons pe_str pa_nil)))))))))))))))))
      (pss_cons (ps_set (i := 2) sc_l_spoilt.nd rfl (Or.inl rfl) (pe_op op_cat (pv 2) (pe_lst (pa_cons pe_str (pa_cons pe_str (pa_cons pe_str (pa_cons pe_str (pa_cons pe_str (pa_cons pe_str (pa_cons pe_str (pa_cons pe_str (pa_cons pe_str (pa_cons pe_str pa_nil)))))))))))))
      (pss_cons (ps_set (i := 2) sc_l_spoilt.nd rfl (Or.inl rfl) (pe_op op_cat (pv 2) (pe_lst (pa_cons pe_str (pa_cons pe_str (pa_cons pe_str (pa_cons pe_str (pa_cons pe_str pa_nil))))))))
      (pss_cons (ps_set (i := 3) sc_l_spoilt.nd rfl (Or.inl rfl) (pe_ix ix_list (pv 2) (cl D.l_draw hr (pa_cons (pv 0) (pa_cons pe_int pa_nil))) (fun _ _ => rfl)))
      (pss_cons (ps_set (i := 4) sc_l_spoilt.nd rfl (Or.inl rfl) (cl D.l_draw hr (pa_cons (pv 0) (pa_cons (pe_op op_add (pe_callB call_len rfl T.n_len PySem.boot_len (pa_cons (pv 1) pa_nil)) pe_int) pa_nil))))
      (pss_cons (ps_set (i := 5) sc_l_spoilt.nd rfl (Or.inl rfl) (cl D.l_draw hr (pa_cons (pv 0) (pa_cons pe_int pa_nil))))
      (pss_cons (ps_if (pt_cmpR op_eq (pv 5) pe_int (nomark _)) (pss_one (ps_ret (pe_op op_cat (pe_slice sl_list (pv 1) po_none (po_some (pv 4))) (pe_slice sl_list (pv 1) (po_some (pe_op op_add (pv 4) pe_int)) po_none)))) pss_nil)
      (pss_cons (ps_if (pt_cmpR op_eq (pv 5) pe_int (nomark _)) (pss_one (ps_ret (pe_op op_cat (pe_op op_cat (pe_slice sl_list (pv 1) po_none (po_some (pv 4))) (pe_slice sl_list (pv 1) (po_some (pv 4)) (po_some (pe_op op_add (pv 4) pe_int)))) (pe_slice sl_list (pv 1) (po_some (pv 4)) po_none)))) pss_nil)
      (pss_cons (ps_if (pt_cmpR op_eq (pv 5) pe_int (nomark _)) (pss_one (ps_ret (pe_op op_cat (pe_op op_cat (pe_slice sl_list (pv 1) po_none (po_some (pv 4))) (pe_lst (pa_cons (pv 3) pa_nil))) (pe_slice sl_list (pv 1) (po_some (pv 4)) po_none)))) pss_nil)
      (pss_cons (ps_if (pt_cmpR op_eq (pv 5) pe_int (nomark _)) (pss_one (ps_ret (pe_op op_cat (pe_op op_cat (pe_slice sl_list (pv 1) po_none (po_some (pv 4))) (pe_lst (pa_cons (pv 3) pa_nil))) (pe_slice sl_list (pv 1) (po_some (pe_op op_add (pv 4) pe_int)) po_none)))) pss_nil)
      (pss_one (ps_ret (pe_slice sl_list (pv 1) po_none (po_some (pv 4))))))))))))))), ?_⟩
  have lw := len_wt ws
  have lm : (ws.map V.str).length = ws.length := List.length_map _
  refine seq_hide fun T1 e1 => ?_
  refine ⟨(by show 15 ≤ sizeLine; decide), fun o1 ho1 => ?_⟩
  have fA := hF.new ho1 (.lst [.str "", .str ":", .str ",", .str "?", .str "??x", .str "x?", .str "A", .str "?A", .str "abcdefghi", .str "?abcdefghi", .str "a-b", .str ".", .str "?x", .str "x", .str "r"])
  have xA := (Ext.refl fe H).new ho1 (.lst [.str "", .str ":", .str ",", .str "?", .str "??x", .str "x?", .str "A", .str "?A", .str "abcdefghi", .str "?abcdefghi", .str "a-b", .str ".", .str "?x", .str "x", .str "r"])
  have hA : upd H o1 (.lst [.str "", .str ":", .str ",", .str "?", .str "??x", .str "x?", .str "A", .str "?A", .str "abcdefghi", .str "?abcdefghi", .str "a-b", .str ".", .str "?x", .str "x", .str "r"]) o1 = some (.lst [.str "", .str ":", .str ",", .str "?", .str "??x", .str "x?", .str "A", .str "?A", .str "abcdefghi", .str "?abcdefghi", .str "a-b", .str ".", .str "?x", .str "x", .str "r"]) := upd_same
  have nA := hF.nef ho1
  generalize upd H o1 (.lst [.str "", .str ":", .str ",", .str "?", .str "??x", .str "x?", .str "A", .str "?A", .str "abcdefghi", .str "?abcdefghi", .str "a-b", .str ".", .str "?x", .str "x", .str "r"]) = HA at fA xA hA ⊢
  show T1 _ _ _
  subst e1
  refine seq_hide fun T2 e2 => ?_
  refine ⟨_, rfl, (by show 10 ≤ sizeLine; decide), fun o2 ho2 => ?_⟩
  have fB := fA.new ho2 (.lst [.str "12", .str "?12", .str "abcdefgh", .str "?abcdefgh", .str "?qq", .str ": :", .str ", ,", .str "?x ?x", .str "a , b ?x", .str ", r x"])
  have xB := xA.new ho2 (.lst [.str "12", .str "?12", .str "abcdefgh", .str "?abcdefgh", .str "?qq", .str ": :", .str ", ,", .str "?x ?x", .str "a , b ?x", .str ", r x"])
  have hB : upd HA o2 (.lst [.str "12", .str "?12", .str "abcdefgh", .str "?abcdefgh", .str "?qq", .str ": :", .str ", ,", .str "?x ?x", .str "a , b ?x", .str ", r x"]) o2 = some (.lst [.str "12", .str "?12", .str "abcdefgh", .str "?abcdefgh", .str "?qq", .str ": :", .str ", ,", .str "?x ?x", .str "a , b ?x", .str ", r x"]) := upd_same
  have hA2 : upd HA o2 (.lst [.str "12", .str "?12", .str "abcdefgh", .str "?abcdefgh", .str "?qq", .str ": :", .str ", ,", .str "?x ?x", .str "a , b ?x", .str ", r x"]) o1 = some (.lst [.str "", .str ":", .str ",", .str "?", .str "??x", .str "x?", .str "A", .str "?A", .str "abcdefghi", .str "?abcdefghi", .str "a-b", .str ".", .str "?x", .str "x", .str "r"]) := by rw [upd_ne (ne_of_none hA ho2)]; exact hA
  generalize upd HA o2 (.lst [.str "12", .str "?12", .str "abcdefgh", .str "?abcdefgh", .str "?qq", .str ": :", .str ", ,", .str "?x ?x", .str "a , b ?x", .str ", r x"]) = HB at fB xB hB hA2 ⊢
  refine ⟨_, _, _, _, rfl, rfl, hA2, hB, (by show 25 ≤ sizeLine; decide), fun o3 ho3 => ?_⟩
  have fC := fB.new ho3 (.lst ([.str "", .str ":", .str ",", .str "?", .str "??x", .str "x?", .str "A", .str "?A", .str "abcdefghi", .str "?abcdefghi", .str "a-b", .str ".", .str "?x", .str "x", .str "r"] ++ [.str "12", .str "?12", .str "abcdefgh", .str "?abcdefgh", .str "?qq", .str ": :", .str ", ,", .str "?x ?x", .str "a , b ?x", .str ", r x"]))
  have xC := xB.new ho3 (.lst ([.str "", .str ":", .str ",", .str "?", .str "??x", .str "x?", .str "A", .str "?A", .str "abcdefghi", .str "?abcdefghi", .str "a-b", .str ".", .str "?x", .str "x", .str "r"] ++ [.str "12", .str "?12", .str "abcdefgh", .str "?abcdefgh", .str "?qq", .str ": :", .str ", ,", .str "?x ?x", .str "a , b ?x", .str ", r x"]))
  have hC : upd HB o3 (.lst ([.str "", .str ":", .str ",", .str "?", .str "??x", .str "x?", .str "A", .str "?A", .str "abcdefghi", .str "?abcdefghi", .str "a-b", .str ".", .str "?x", .str "x", .str "r"] ++ [.str "12", .str "?12", .str "abcdefgh", .str "?abcdefgh", .str "?qq", .str ": :", .str ", ,", .str "?x ?x", .str "a , b ?x", .str ", r x"])) o3 = some (.lst ([.str "", .str ":", .str ",", .str "?", .str "??x", .str "x?", .str "A", .str "?A", .str "abcdefghi", .str "?abcdefghi", .str "a-b", .str ".", .str "?x", .str "x", .str "r"] ++ [.str "12", .str "?12", .str "abcdefgh", .str "?abcdefgh", .str "?qq", .str ": :", .str ", ,", .str "?x ?x", .str "a , b ?x", .str ", r x"])) := upd_same
  generalize upd HB o3 (.lst ([.str "", .str ":", .str ",", .str "?", .str "??x", .str "x?", .str "A", .str "?A", .str "abcdefghi", .str "?abcdefghi", .str "a-b", .str ".", .str "?x", .str "x", .str "r"] ++ [.str "12", .str "?12", .str "abcdefgh", .str "?abcdefgh", .str "?qq", .str ": :", .str ", ,", .str "?x ?x", .str "a , b ?x", .str ", r x"])) = HC at fC xC hC ⊢
  show T2 _ _ _
  subst e2
  refine seq_hide fun T3 e3 => ?_
  refine ⟨_, rfl, (by show 5 ≤ sizeLine; decide), fun o4 ho4 => ?_⟩
  have fD := fC.new ho4 (.lst [.str "0", .str "a:b", .str "(r)", .str "x,", .str "Zz"])
  have xD := xC.new ho4 (.lst [.str "0", .str "a:b", .str "(r)", .str "x,", .str "Zz"])
  have hD : upd HC o4 (.lst [.str "0", .str "a:b", .str "(r)", .str "x,", .str "Zz"]) o4 = some (.lst [.str "0", .str "a:b", .str "(r)", .str "x,", .str "Zz"]) := upd_same
  have hC2 : upd HC o4 (.lst [.str "0", .str "a:b", .str "(r)", .str "x,", .str "Zz"]) o3 = some (.lst ([.str "", .str ":", .str ",", .str "?", .str "??x", .str "x?", .str "A", .str "?A", .str "abcdefghi", .str "?abcdefghi", .str "a-b", .str ".", .str "?x", .str "x", .str "r"] ++ [.str "12", .str "?12", .str "abcdefgh", .str "?abcdefgh", .str "?qq", .str ": :", .str ", ,", .str "?x ?x", .str "a , b ?x", .str ", r x"])) := by rw [upd_ne (ne_of_none hC ho4)]; exact hC
  generalize upd HC o4 (.lst [.str "0", .str "a:b", .str "(r)", .str "x,", .str "Zz"]) = HD at fD xD hD hC2 ⊢
  refine ⟨_, _, _, _, rfl, rfl, hC2, hD, (by show 30 ≤ sizeLine; decide), fun o5 ho5 => ?_⟩
  have hF1 := fD.new ho5 (.lst ([.str "", .str ":", .str ",", .str "?", .str "??x", .str "x?", .str "A", .str "?A", .str "abcdefghi", .str "?abcdefghi", .str "a-b", .str ".", .str "?x", .str "x", .str "r"] ++ [.str "12", .str "?12", .str "abcdefgh", .str "?abcdefgh", .str "?qq", .str ": :", .str ", ,", .str "?x ?x", .str "a , b ?x", .str ", r x"] ++ [.str "0", .str "a:b", .str "(r)", .str "x,", .str "Zz"]))
  have ex1 := xD.new ho5 (.lst ([.str "", .str ":", .str ",", .str "?", .str "??x", .str "x?", .str "A", .str "?A", .str "abcdefghi", .str "?abcdefghi", .str "a-b", .str ".", .str "?x", .str "x", .str "r"] ++ [.str "12", .str "?12", .str "abcdefgh", .str "?abcdefgh", .str "?qq", .str ": :", .str ", ,", .str "?x ?x", .str "a , b ?x", .str ", r x"] ++ [.str "0", .str "a:b", .str "(r)", .str "x,", .str "Zz"]))
  have hO : upd HD o5 (.lst ([.str "", .str ":", .str ",", .str "?", .str "??x", .str "x?", .str "A", .str "?A", .str "abcdefghi", .str "?abcdefghi", .str "a-b", .str ".", .str "?x", .str "x", .str "r"] ++ [.str "12", .str "?12", .str "abcdefgh", .str "?abcdefgh", .str "?qq", .str ": :", .str ", ,", .str "?x ?x", .str "a , b ?x", .str ", r x"] ++ [.str "0", .str "a:b", .str "(r)", .str "x,", .str "Zz"])) o5 = some (.lst (odd30.map V.str)) := upd_same
  have no5 := fD.nef ho5
  generalize upd HD o5 (.lst ([.str "", .str ":", .str ",", .str "?", .str "??x", .str "x?", .str "A", .str "?A", .str "abcdefghi", .str "?abcdefghi", .str "a-b", .str ".", .str "?x", .str "x", .str "r"] ++ [.str "12", .str "?12", .str "abcdefgh", .str "?abcdefgh", .str "?qq", .str ": :", .str ", ,", .str "?x ?x", .str "a , b ?x", .str ", r x"] ++ [.str "0", .str "a:b", .str "(r)", .str "x,", .str "Zz"])) = H1 at hF1 ex1 hO ⊢
  show T3 _ _ _
  subst e3
  refine seq_hide fun T4 e4 => ?_
  -- word
  refine ⟨_, rfl, _, rfl, fe, 30, rfl, hF1, by decide, by decide, fun i2 H2 a0 a1 hF2 ex2 => ?_⟩
  obtain ⟨od, hod, eod⟩ := pick_str (zs := odd30) a0 (by show i2 < 30; exact a1)
  have lod : od.length ≤ 10 := of_decide_eq_true (List.all_eq_true.mp odd_len od hod)
  refine ⟨_, _, _, _, rfl, rfl, SqL.of (ex2 _ _ no5 hO), eod, ?_⟩
  have ex02 := ex1.trans ex2
  have hw2 := ex02 _ _ nwl hw
  show T4 _ _ _
  subst e4
  refine seq_hide fun T5 e5 => ?_
  -- at
  refine ⟨_, rfl, _, rfl, _, _, rfl, .inl ⟨_, SqL.of hw2, rfl⟩, _, _, rfl, rfl, fe, _, rfl, hF2, by (first | lia | omega), by (first | lia | omega), fun i3 H3 b0 b1 hF3 ex3 => ?_⟩
  have ex03 := ex02.trans ex3
  have hw3 := ex03 _ _ nwl hw
  show T5 _ _ _
  subst e5
  refine seq_hide fun T6 e6 => ?_
  -- way
  refine ⟨_, rfl, fe, 5, rfl, hF3, by decide, by decide, fun i4 H4 d0 d1 hF4 ex4 => ?_⟩
  have ex04 := ex03.trans ex4
  have hw4 := ex04 _ _ nwl hw
  obtain ⟨j, ej⟩ : ∃ j : Nat, i3 = (j : Int) := ⟨i3.toNat, by (first | lia | omega)⟩
  subst ej
  have wj := wt_split ws j
  have wj1 := wt_split ws (j + 1)
  have wod : wt [od] ≤ 12 := by
    rw [wt_cons]
    show od.length + 1 + 0 ≤ 12
    (first | lia | omega)
  have cT : cutV (ws.map V.str) none (some (j : Int)) = (ws.take j).map V.str := by rw [cut_to, List.map_take]
  have cF : cutV (ws.map V.str) (some (j : Int)) none = (ws.drop j).map V.str := by rw [cut_from, List.map_drop]
  have cF1 : cutV (ws.map V.str) (some ((j : Int) + 1)) none = (ws.drop (j + 1)).map V.str := by rw [show (j : Int) + 1 = ((j + 1 : Nat) : Int) by (first | lia | omega), cut_from, List.map_drop]
  have c1 : cutV (ws.map V.str) (some (j : Int)) (some ((j : Int) + 1)) = ((ws.drop j).take 1).map V.str := by rw [show (j : Int) + 1 = ((j + 1 : Nat) : Int) by (first | lia | omega), cut_two, List.map_take, List.map_drop]
  have w1 := wt_split (ws.drop j) 1
  have fin : ∀ (H5 : Hp) (xs ys : List Str) (r : Addr), Feed K fe H5 → Ext fe H H5 → wt xs + wt ys ≤ 2 * wt ws + 20 → H5 r = none → Q (.ref r) (upd H5 r (.lst ((xs ++ ys).map V.str))) := fun H5 xs ys r f5 x5 hz hr5 => k r _ _ (f5.new hr5 _) (x5.new hr5 _) (f5.nef hr5) upd_same (by rw [wt_app]; exact hz)
  have get : ∀ {H5 : Hp} {l : Addr} {o u : HO} {r : Addr}, H5 l = some o → H5 r = none → upd H5 r u l = some o := fun h5 hr5 => by rw [upd_ne (ne_of_none h5 hr5)]; exact h5
  -- the five ways
  show T6 _ _ _
  subst e6
  refine seq_hide fun T7 e7 => ?_
  refine ⟨_, rfl, rfl, _, rfl, ?_⟩
  refine ite2 (fun _ => ?_) (fun _ => ?_)
  · refine ⟨_, rfl, noPart ⟨_, rfl, _, rfl, rd_slS hw4 cT fun l1 hl1 => ?_⟩⟩
    have f5 := hF4.new hl1 (.lst ((ws.take j).map V.str))
    have x5 := ex04.new hl1 (.lst ((ws.take j).map V.str))
    refine ⟨_, rfl, _, rfl, _, _, rfl, rfl, _, rfl, noPart (rd_slS (get hw4 hl1) cF1 fun l2 hl2 => ?_)⟩
    exact rd_catS (get upd_same hl2) upd_same (by (first | lia | omega)) fun r hr' => fin _ _ _ r (f5.new hl2 _) (x5.new hl2 _) (by (first | lia | omega)) hr'
  show T7 _ _ _
  subst e7
  refine seq_hide fun T8 e8 => ?_
  refine ⟨_, rfl, rfl, _, rfl, ?_⟩
  refine ite2 (fun _ => ?_) (fun _ => ?_)
  · refine ⟨_, rfl, noPart ⟨_, rfl, _, rfl, rd_slS hw4 cT fun l1 hl1 => ?_⟩⟩
    have f5 := hF4.new hl1 (.lst ((ws.take j).map V.str))
    have x5 := ex04.new hl1 (.lst ((ws.take j).map V.str))
    refine ⟨_, rfl, _, rfl, _, rfl, _, rfl, _, _, rfl, rfl, _, rfl, rd_slS (get hw4 hl1) c1 fun l2 hl2 => ?_⟩
    have f6 := f5.new hl2 (.lst (((ws.drop j).take 1).map V.str))
    have x6 := x5.new hl2 (.lst (((ws.drop j).take 1).map V.str))
    refine rd_catS (get upd_same hl2) upd_same (by (first | lia | omega)) fun l3 hl3 => ?_
    have f7 := f6.new hl3 (.lst ((ws.take j ++ (ws.drop j).take 1).map V.str))
    have x7 := x6.new hl3 (.lst ((ws.take j ++ (ws.drop j).take 1).map V.str))
    refine ⟨_, rfl, _, rfl, _, rfl, noPart (rd_slS (get (get (get hw4 hl1) hl2) hl3) cF fun l4 hl4 => ?_)⟩
    have w2 := wt_app (ws.take j) ((ws.drop j).take 1)
    exact rd_catS (get upd_same hl4) upd_same (by (first | lia | omega)) fun r hr' => fin _ _ _ r (f7.new hl4 _) (x7.new hl4 _) (by (first | lia | omega)) hr'
  show T8 _ _ _
  subst e8
  refine seq_hide fun T9 e9 => ?_
  refine ⟨_, rfl, rfl, _, rfl, ?_⟩
  refine ite2 (fun _ => ?_) (fun _ => ?_)
  · refine ⟨_, rfl, noPart ⟨_, rfl, _, rfl, rd_slS hw4 cT fun l1 hl1 => ?_⟩⟩
    have f5 := hF4.new hl1 (.lst ((ws.take j).map V.str))
    have x5 := ex04.new hl1 (.lst ((ws.take j).map V.str))
    refine ⟨_, rfl, (by show 1 ≤ sizeLine; decide), fun l2 hl2 => ?_⟩
    have f6 := f5.new hl2 (.lst (([od] : List Str).map V.str))
    have x6 := x5.new hl2 (.lst (([od] : List Str).map V.str))
    refine rd_catS (ys := [od]) (get upd_same hl2) upd_same (by (first | lia | omega)) fun l3 hl3 => ?_
    have f7 := f6.new hl3 (.lst ((ws.take j ++ [od]).map V.str))
    have x7 := x6.new hl3 (.lst ((ws.take j ++ [od]).map V.str))
    refine ⟨_, rfl, _, rfl, _, rfl, noPart (rd_slS (get (get (get hw4 hl1) hl2) hl3) cF fun l4 hl4 => ?_)⟩
    have w2 := wt_app (ws.take j) [od]
    exact rd_catS (get upd_same hl4) upd_same (by (first | lia | omega)) fun r hr' => fin _ _ _ r (f7.new hl4 _) (x7.new hl4 _) (by (first | lia | omega)) hr'
  show T9 _ _ _
  subst e9
  refine seq_hide fun T10 e10 => ?_
  refine ⟨_, rfl, rfl, _, rfl, ?_⟩
  refine ite2 (fun _ => ?_) (fun _ => ?_)
  · refine ⟨_, rfl, noPart ⟨_, rfl, _, rfl, rd_slS hw4 cT fun l1 hl1 => ?_⟩⟩
    have f5 := hF4.new hl1 (.lst ((ws.take j).map V.str))
    have x5 := ex04.new hl1 (.lst ((ws.take j).map V.str))
    refine ⟨_, rfl, (by show 1 ≤ sizeLine; decide), fun l2 hl2 => ?_⟩
    have f6 := f5.new hl2 (.lst (([od] : List Str).map V.str))
    have x6 := x5.new hl2 (.lst (([od] : List Str).map V.str))
    refine rd_catS (ys := [od]) (get upd_same hl2) upd_same (by (first | lia | omega)) fun l3 hl3 => ?_
    have f7 := f6.new hl3 (.lst ((ws.take j ++ [od]).map V.str))
    have x7 := x6.new hl3 (.lst ((ws.take j ++ [od]).map V.str))
    refine ⟨_, rfl, _, rfl, _, _, rfl, rfl, _, rfl, noPart (rd_slS (get (get (get hw4 hl1) hl2) hl3) cF1 fun l4 hl4 => ?_)⟩
    have w2 := wt_app (ws.take j) [od]
    exact rd_catS (get upd_same hl4) upd_same (by (first | lia | omega)) fun r hr' => fin _ _ _ r (f7.new hl4 _) (x7.new hl4 _) (by (first | lia | omega)) hr'
  show T10 _ _ _
  subst e10
  refine ⟨_, rfl, noPart ⟨_, rfl, _, rfl, rd_slS hw4 cT fun l1 hl1 => ?_⟩⟩
  exact k l1 _ _ (hF4.new hl1 _) (ex04.new hl1 _) (hF4.nef hl1) upd_same (by (first | lia | omega))
end
end K04

set_option Elab.async false
set_option linter.all false
set_option maxRecDepth 100000
set_option maxHeartbeats 4000000
namespace K04
open PySem PySem.Spec PyProof.Rows L2
seal L2.PE L2.PT L2.PW L2.PA L2.PS L2.PSs L2.PI L2.PO L2.PPs L2.PG L2.PGs
/-! ## words drawn -/
noncomputable def spWords4 (K : PySem.W.Frag) : Sp := fun vs H Q _ => ∃ (f : Addr), vs = [.ref f] ∧ Feed K f H ∧
  ∀ (r : Addr) (zs : List Str) (H' : Hp), Feed K f H' → Ext f H H' → r ≠ f → H' r = some (.lst (zs.map V.str)) → wt zs ≤ 1500 → Q (.ref r) H'
noncomputable def rowJ (a : Str × List Str) : Str := Txt.join P4.bl1 (a.1 :: a.2)
theorem choose38 {i : Int} (h0 : 0 ≤ i) (h1 : i < 2) : ∃ m : Int, atI [V.int 3, V.int 8] i = some (.int m) ∧ 1 ≤ m ∧ m ≤ 8 := by
  have c : i = 0 ∨ i = 1 := by (first | assumption | exact Nat.le_trans (by assumption) (by decide) | exact Nat.lt_of_lt_of_le (by assumption) (by decide) | lia | omega)
  rcases c with rfl | rfl
  · exact ⟨3, rfl, by decide, by decide⟩
  · exact ⟨8, rfl, by decide, by decide⟩
theorem choose6 {i : Int} (h0 : 0 ≤ i) (h1 : i < 6) : ∃ m : Int, atI [V.int 0, V.int 0, V.int 0, V.int 1, V.int 5, V.int 9] i = some (.int m) ∧ 0 ≤ m ∧ m ≤ 9 := by
  have c : i = 0 ∨ i = 1 ∨ i = 2 ∨ i = 3 ∨ i = 4 ∨ i = 5 := by (first | assumption | exact Nat.le_trans (by assumption) (by decide) | exact Nat.lt_of_lt_of_le (by assumption) (by decide) | lia | omega)
  rcases c with rfl | rfl | rfl | rfl | rfl | rfl
  · exact ⟨0, rfl, by decide, by decide⟩
  · exact ⟨0, rfl, by decide, by decide⟩
  · exact ⟨0, rfl, by decide, by decide⟩
  · exact ⟨1, rfl, by decide, by decide⟩
  · exact ⟨5, rfl, by decide, by decide⟩
  · exact ⟨9, rfl, by decide, by decide⟩
noncomputable def heads4 : List Str := ["?x", "?qq", "?r", "b"]
theorem heads_len : (heads4.all fun z => decide (z.length ≤ 9)) = true := by decide +kernel
theorem all_len : (allTerms.all fun z => decide (z.length ≤ 9)) = true := by decide +kernel
theorem nam_len : (allNames.all fun z => decide (z.length ≤ 9)) = true := by decide +kernel
theorem le9 {l : List Str} (h : (l.all fun z => decide (z.length ≤ 9)) = true) {z : Str} (hz : z ∈ l) : z.length ≤ 9 := of_decide_eq_true (List.all_eq_true.mp h z hz)
theorem wt_le9 : ∀ {ws : List Str} {m : Nat}, (∀ z ∈ ws, z.length ≤ m) → wt ws ≤ (m + 1) * ws.length
  | [], _, _ => Nat.zero_le _
  | a :: r, m, h => by
    have h1 := wt_le9 (ws := r) fun z hz => h z (List.mem_cons_of_mem _ hz)
    have h2 := h a List.mem_cons_self
    rw [wt_cons, List.length_cons, Nat.mul_add]
    (first | assumption | exact Nat.le_trans (by assumption) (by decide) | exact Nat.lt_of_lt_of_le (by assumption) (by decide) | lia | omega)
theorem row_le {a : Str × List Str} (h1 : a.1.length ≤ 9) (h2 : ∀ z ∈ a.2, z.length ≤ 9) (h3 : a.2.length ≤ 4) : (rowJ a).length ≤ 60 ∧ wt (a.1 :: a.2) ≤ 50 := by
  have h4 := wt_le9 (ws := a.1 :: a.2) (m := 9) fun z hz => by
    rcases List.mem_cons.mp hz with rfl | hz
    · exact h1
    · exact h2 z hz
  rw [List.length_cons] at h4
  have h5 := join_le (a.1 :: a.2)
  unfold rowJ
  (first | assumption | exact Nat.le_trans (by assumption) (by decide) | exact Nat.lt_of_lt_of_le (by assumption) (by decide) | lia | omega)
theorem joinOk4 {sep : Str} {ys : List Str} (h : wt ys ≤ 1000000) (hs : sep.length ≤ 16) : JoinOk sep ys = true := joinOk_of_weight (by unfold wt at h; (first | assumption | exact Nat.le_trans (by assumption) (by decide) | exact Nat.lt_of_lt_of_le (by assumption) (by decide) | lia | omega)) hs
section
variable {P : Program} {w : World} {K : PySem.W.Frag} {mg : Str → Option Value} {base : Heap}
structure Ly (P : Program) (w : World) (K : PySem.W.Frag) (mg : Str → Option Value) (base : Heap) : Prop where
  l_draw : DefOk P w K mg base 1 "_law_draw" ["_law_feed_here", "_law_many"] (spDraw K)
  l_names : DefOk P w K mg base 3 "_law_names" ["_law_feed_here"] (spSome K namesPool 3)
  l_values : DefOk P w K mg base 3 "_law_values" ["_law_feed_here"] (spSome K valuesPool 4)
  l_question : DefOk P w K mg base 3 "_law_question" ["_law_feed_here", "_law_names_here", "_law_values_here", "_law_most"] (spQuestion K)
theorem sc_l_words : FnScope ["_law_feed_here", "_law_question_here", "_law_head", "_law_rows", "_law_k"] ["_law_feed_here"] (defScope s_l_words) := ⟨rfl, rfl, rfl, by decide +kernel, rfl, by decide +kernel, by decide +kernel⟩
theorem ok_words {f : Addr} {fd : FuncData} (F : Fun K "_law_words" "_law_words" s_l_words f fd) (T : Txt K mg) (D : Ly P w K mg base) : FnOk P w K mg base CX0 4 f fd ["_law_feed_here"] (spWords4 K) := by
  refine F.ok sc_l_words (fun vs H Q E h => ?_) (fun cdv A outer s H vs Q E hr h => ?_)
  · obtain ⟨a, rfl, _⟩ := h
    rfl
  obtain ⟨fe, rfl, hF, k⟩ := h
  have get : ∀ {H5 : Hp} {l : Addr} {o u : HO} {r : Addr}, H5 l = some o → H5 r = none → upd H5 r u l = some o := fun h5 hr5 => by rw [upd_ne (ne_of_none h5 hr5)]; exact h5
  refine cut 3 (fun σ H2 => ∃ (q hl : Addr) (hs hz : List Str) (ats : List (Str × List Str)), σ = [some (.ref fe), some (.ref q), some (.ref hl), none, none] ∧ Feed K fe H2 ∧ Ext fe H H2 ∧ hl ≠ fe ∧ H2 hl = some (.lst (hs.map V.str)) ∧ hs.length ≤ 5 ∧ (∀ z ∈ hs, z.length ≤ 9) ∧ QAt H2 (.ref q) hz ats ∧ Good ats ∧ 1 ≤ ats.length ∧ ats.length ≤ 8) ⟨_, (pss_cons (ps_setCompT (j := 3) sc_l_words.nd rfl rfl rfl (compScT_mk (more := ["_law_terms"]) (fs := []) (fr := [])) (pi_tup (pe_ix ix_tup (pv 1) pe_int (fun _ _ => rfl))) (fun _ _ _ _ => (pg_tupK (K := K) (n := 2) rfl (pgs_cons (pg_nameC (i := 0)) (pgs_cons (pg_nameC (i := 1)) pgs_nil)))) (fun _ _ _ _ => (pe_bmK (K := K) PySem.F.plainAttrs_str PySem.F.slot_str_join PySem.F.type_str_join (mt_joinK (K := K)) pe_str (pa_cons (pe_op op_cat (pe_lst (pa_cons (pv 0) pa_nil)) (pe_callTy (call_list_ofK (K := K)) rfl T.n_list (by decide +kernel) (pa_cons (pv 1) pa_nil))) pa_nil))))
      (pss_cons (ps_for PassesOwn.never rfl (pi_range1 rfl T.n_range (pa_cons (pe_ix ix_list (pe_lst (pa_cons pe_int (pa_cons pe_int (pa_cons pe_int (pa_cons pe_int (pa_cons pe_int (pa_cons pe_int pa_nil))))))) (cl D.l_draw hr (pa_cons (pv 0) (pa_cons pe_int pa_nil))) (fun _ _ => rfl)) pa_nil)) (pg_name (i := 4) sc_l_words.nd rfl (Or.inl rfl))
      (pss_one (ps_expr (pe_bm PySem.F.plainAttrs_list PySem.F.slot_list_append PySem.F.type_list_append mt_append (pv 3) (pa_cons (pe_ix ix_list (pv 3) pe_int (fun _ _ => rfl)) pa_nil)))))
      (pss_one (ps_ret (pe_bm PySem.F.plainAttrs_str PySem.F.slot_str_split PySem.F.type_str_split mt_split (pe_bm PySem.F.plainAttrs_str PySem.F.slot_str_join PySem.F.type_str_join mt_join pe_str (pa_cons (pe_op op_cat (pv 2) (pe_lst (pa_cons pe_str (pa_cons (pe_bm PySem.F.plainAttrs_str PySem.F.slot_str_join PySem.F.type_str_join mt_join pe_str (pa_cons (pv 3) pa_nil)) pa_nil)))) pa_nil)) (pa_cons pe_str pa_nil)))))), ?_⟩ (fun t2 ht => ⟨_, (pss_cons (ps_set (i := 1) sc_l_words.nd rfl (Or.inl rfl) (cl D.l_question hr (pa_cons (pv 0) (pa_cons (cl D.l_names hr (pa_cons (pv 0) pa_nil)) (pa_cons (cl D.l_values hr (pa_cons (pv 0) pa_nil)) (pa_cons (pe_ix ix_list (pe_lst (pa_cons pe_int (pa_cons pe_int pa_nil))) (cl D.l_draw hr (pa_cons (pv 0) (pa_cons pe_int pa_nil))) (fun _ _ => rfl)) pa_nil))))))
      (pss_cons (ps_set (i := 2) sc_l_words.nd rfl (Or.inl rfl) (pe_callTy call_list_of rfl T.n_list (by decide +kernel) (pa_cons (pe_ix ix_tup (pv 1) pe_int (fun _ _ => rfl)) pa_nil)))
      (pss_cons (ps_if (pt_cmpR op_eq (cl D.l_draw hr (pa_cons (pv 0) (pa_cons pe_int pa_nil))) pe_int (nomark _)) (pss_one (ps_setComp (j := 2) sc_l_words.nd rfl rfl rfl (compSc_mk (fs := ["_law_feed_here"]) (fr := [0])) (pi_range1 rfl T.n_range (pa_cons (pe_op op_add pe_int (cl D.l_draw hr (pa_cons (pv 0) (pa_cons pe_int pa_nil)))) pa_nil)) (fun _ _ _ _ => (pe_ix (ix_listK (K := K)) (pe_lst (pa_cons pe_str (pa_cons pe_str (pa_cons pe_str (pa_cons pe_str pa_nil))))) (cl D.l_draw hr (pa_cons (pv 1) (pa_cons pe_int pa_nil))) (fun _ _ => rfl))))) pss_nil) ht))), fun tl => ?_⟩)
  · rintro σ H2 ⟨q, hl, hs, hz, ats, rfl, f2, x2, nhl, hhl, lhs, h9, hQ, good, la1, la8⟩
    obtain ⟨q', hd, aa, avs, e, hq, hhd, haa, hats⟩ := hQ
    injection e with e
    subst e
    have lav : avs.length = ats.length := Paired.length hats
    refine seq_hide fun T1 e1 => ?_
    refine ⟨_, rfl, _, _, _, _, rfl, rfl, SqT.of hq, rfl, aa, rfl, ⟨_, SqT.of haa⟩, comp2_tup (K := K) (a := aa) (xs := avs) (fun i ys H3 => Same H2 H3 ∧ i ≤ ats.length ∧ ys = ((ats.take i).map rowJ).map V.str) (small1000 (by (first | assumption | exact Nat.le_trans (by assumption) (by decide) | exact Nat.lt_of_lt_of_le (by assumption) (by decide) | lia | omega))) ⟨Same.refl _, Nat.zero_le _, rfl⟩ ?_ ?_ ?_⟩
    · rintro i ys H3 hi ⟨sm3, _, rfl⟩
      refine ⟨SqT.of (sm3 _ _ haa), ?_⟩
      rw [List.length_map, List.length_map, List.length_take]
      (first | assumption | exact Nat.le_trans (by assumption) (by decide) | exact Nat.lt_of_lt_of_le (by assumption) (by decide) | lia | omega)
    · rintro i x ys H3 N hc ⟨sm3, hi, rfl⟩ hN
      obtain ⟨a, hta, p, tt, rfl, hp, htt⟩ := Paired.at hats hc
      have ga := good a (List.mem_of_getElem? hta)
      have hlt : i < ats.length := (List.getElem?_eq_some_iff.mp hta).1
      obtain ⟨r60, w50⟩ := row_le (le9 nam_len ga.2.2.2) (fun z hz => le9 all_len (ga.2.1 z hz)) ga.1
      rw [wt_cons] at w50
      refine ⟨p, _, _, rfl, SqT.of (sm3 _ _ hp), rd_true ?_⟩
      refine ⟨rfl, _, rfl, (by show 1 ≤ sizeLine; decide), fun l1 hl1 => ?_⟩
      refine ⟨_, rfl, tt, _, rfl, .inr (SqT.of (get (sm3 _ _ htt) hl1)), fun l2 hl2 => ?_⟩
      refine rd_catS (xs := [a.1]) (ys := a.2) (get upd_same hl2) upd_same (by rw [wt_cons]; show a.1.length + 1 + 0 + wt a.2 ≤ 60000; (first | assumption | exact Nat.le_trans (by assumption) (by decide) | exact Nat.lt_of_lt_of_le (by assumption) (by decide) | lia | omega)) fun r hr' => ?_
      refine ⟨P4.bl1, r, a.1 :: a.2, rfl, rfl, SqL.of upd_same, joinOk4 (by rw [wt_cons]; (first | assumption | exact Nat.le_trans (by assumption) (by decide) | exact Nat.lt_of_lt_of_le (by assumption) (by decide) | lia | omega)) (by decide +kernel), ?_⟩
      refine hN _ _ ⟨((sm3.trans (same_new hl1 _)).trans (same_new hl2 _)).trans (same_new hr' _), hlt, ?_⟩
      rw [List.take_add_one, hta, List.map_append, List.map_append]
      rfl
    rintro ys H3 ⟨sm3, _, rfl⟩ rl hrl
    rw [lav, List.take_length]
    have f3 := f2.same sm3
    have nrl0 := f3.nef hrl
    have f4 := f3.new hrl (.lst ((ats.map rowJ).map V.str))
    have x3 : Ext fe H H3 := x2.trans fun b o _ h => sm3 b o h
    have x4 := x3.new hrl (.lst ((ats.map rowJ).map V.str))
    have hrlH := x3.none nrl0 hrl
    have nrl := f3.nef hrl
    have h4 : upd H3 rl (.lst ((ats.map rowJ).map V.str)) rl = some (.lst ((ats.map rowJ).map V.str)) := upd_same
    have hh4 : upd H3 rl (.lst ((ats.map rowJ).map V.str)) hl = some (.lst (hs.map V.str)) := get (sm3 _ _ hhl) hrl
    have nhr : hl ≠ rl := ne_of_none (sm3 _ _ hhl) hrl
    generalize upd H3 rl (.lst ((ats.map rowJ).map V.str)) = H4 at f4 x4 h4 hh4 ⊢
    show T1 _ _ _
    subst e1
    refine seq_hide fun T2 e2 => ?_
    refine ⟨(by show 6 ≤ sizeLine; decide), fun l5 hl5 => ?_⟩
    have f5 := f4.new hl5 (.lst [.int 0, .int 0, .int 0, .int 1, .int 5, .int 9])
    have x5 := x4.new hl5 (.lst [.int 0, .int 0, .int 0, .int 1, .int 5, .int 9])
    have n5 := f4.nef hl5
    refine ⟨_, rfl, fe, 6, rfl, f5, by decide, by decide, fun i6 H6 a0 a1 f6 e6 => ?_⟩
    obtain ⟨more, ev, m0, m9⟩ := choose6 a0 a1
    refine ⟨_, _, _, _, rfl, rfl, SqL.of (e6 _ _ n5 upd_same), ev, ?_⟩
    have x6 := x5.trans e6
    have h6 := e6 _ _ nrl (get h4 hl5)
    have hh6 := e6 _ _ nhl (get hh4 hl5)
    refine ⟨more, rfl, by (first | assumption | exact Nat.le_trans (by assumption) (by decide) | exact Nat.lt_of_lt_of_le (by assumption) (by decide) | lia | omega), by (first | assumption | exact Nat.le_trans (by assumption) (by decide) | exact Nat.lt_of_lt_of_le (by assumption) (by decide) | lia | omega), for_range (lo := 0) (n := more.toNat)
      (fun i σ H7 => ∃ (x4 : Option V) (rs : List Str), σ = [some (.ref fe), some (.ref q), some (.ref hl), some (.ref rl), x4] ∧ Feed K fe H7 ∧ Ext fe H H7 ∧ H7 hl = some (.lst (hs.map V.str)) ∧ H7 rl = some (.lst (rs.map V.str)) ∧ 1 ≤ rs.length ∧ rs.length ≤ 8 + i ∧ ∀ z ∈ rs, z.length ≤ 60)
      ⟨none, ats.map rowJ, rfl, f6, x6, hh6, h6, by rw [List.length_map]; exact la1, by rw [List.length_map]; (first | assumption | exact Nat.le_trans (by assumption) (by decide) | exact Nat.lt_of_lt_of_le (by assumption) (by decide) | lia | omega), fun z hz => ?_⟩ ?_ ?_⟩
    · obtain ⟨a, ha, rfl⟩ := List.mem_map.mp hz
      have ga := good a ha
      exact (row_le (le9 nam_len ga.2.2.2) (fun z hz => le9 all_len (ga.2.1 z hz)) ga.1).1
    · rintro i σ H7 hi ⟨x4, rs, rfl, f7, x7, hh7, h7, r1, r8, r60⟩
      cases rs with
      | nil => exact absurd r1 (by decide)
      | cons r0 rs =>
      refine ⟨_, rfl, .inl ⟨rfl, _, SqL.of h7⟩, _, rfl, _, _, _, _, rfl, rfl, SqL.of h7, atI_nat (j := 0) rfl, _, _, _, rfl, rfl, h7, by rw [List.length_map]; exact small1000 (by (first | assumption | exact Nat.le_trans (by assumption) (by decide) | exact Nat.lt_of_lt_of_le (by assumption) (by decide) | lia | omega)), ?_⟩
      refine ⟨_, r0 :: rs ++ [r0], rfl, f7.lst h7 nrl _, x7.own hrlH _, by rw [upd_ne nhr]; exact hh7, by rw [upd_same, List.map_append]; rfl, by simp, by simp at r8 ⊢; (first | assumption | exact Nat.le_trans (by assumption) (by decide) | exact Nat.lt_of_lt_of_le (by assumption) (by decide) | lia | omega), fun z hz => ?_⟩
      rcases List.mem_append.mp hz with hz | hz
      · exact r60 z hz
      · rw [List.mem_singleton.mp hz]
        exact r60 r0 List.mem_cons_self
    · rintro σ H7 ⟨x4, rs, rfl, f7, x7, hh7, h7, r1, r8, r60⟩
      have wr := wt_le9 (m := 60) r60
      have wh := wt_le9 (m := 9) h9
      have hrs : rs.length ≤ 17 := by (first | assumption | exact Nat.le_trans (by assumption) (by decide) | exact Nat.lt_of_lt_of_le (by assumption) (by decide) | lia | omega)
      have hj3 : (Txt.join P4.cut3 rs).length ≤ 1100 := by
        have e : Txt.join P4.cut3 rs = Str.join P4.cut3 rs := StrLaws.glued_eq_join _ _
        have h3 := StrLaws.join_length_le P4.cut3 rs
        rw [P4.cut3_len] at h3
        unfold wt at wr
        rw [e]
        (first | assumption | exact Nat.le_trans (by assumption) (by decide) | exact Nat.lt_of_lt_of_le (by assumption) (by decide) | lia | omega)
      show T2 _ _ _
      subst e2
      refine ⟨rfl, _, rfl, rfl, _, rfl, P4.cut3, rl, rs, rfl, rfl, SqL.of h7, joinOk4 (by (first | assumption | exact Nat.le_trans (by assumption) (by decide) | exact Nat.lt_of_lt_of_le (by assumption) (by decide) | lia | omega)) (by decide +kernel), (by show 2 ≤ sizeLine; decide), fun l8 hl8 => ?_⟩
      have w2 : wt [":", Txt.join P4.cut3 rs] ≤ 1110 := by
        rw [wt_cons, wt_cons]
        have : (":" : Str).length = 1 := by decide +kernel
        show _ + (_ + 1 + 0) ≤ 1110
        (first | assumption | exact Nat.le_trans (by assumption) (by decide) | exact Nat.lt_of_lt_of_le (by assumption) (by decide) | lia | omega)
      refine rd_catS (xs := hs) (ys := [":", Txt.join P4.cut3 rs]) (get hh7 hl8) upd_same (by (first | assumption | exact Nat.le_trans (by assumption) (by decide) | exact Nat.lt_of_lt_of_le (by assumption) (by decide) | lia | omega)) fun l9 hl9 => ?_
      have w3 := wt_app hs [":", Txt.join P4.cut3 rs]
      have jl := join_le (hs ++ ([":", Txt.join P4.cut3 rs] : List Str))
      refine ⟨P4.bl1, l9, hs ++ ([":", Txt.join P4.cut3 rs] : List Str), rfl, rfl, SqL.of upd_same, joinOk4 (by (first | assumption | exact Nat.le_trans (by assumption) (by decide) | exact Nat.lt_of_lt_of_le (by assumption) (by decide) | lia | omega)) (by decide +kernel), rfl, _, P4.bl1, rfl, rfl, by decide +kernel, ?_, fun r hr' => ?_⟩
      · refine Nat.le_trans (show (Txt.join P4.bl1 (hs ++ ([":", Txt.join P4.cut3 rs] : List Str))).length + 2 ≤ 1000000 by (first | assumption | exact Nat.le_trans (by assumption) (by decide) | exact Nat.lt_of_lt_of_le (by assumption) (by decide) | lia | omega)) ?_
        rw [sizeLine_eq]
        decide
      have sw := split_wt (Txt.join P4.bl1 (hs ++ ([":", Txt.join P4.cut3 rs] : List Str)))
      exact k r _ _ (((f7.new hl8 _).new hl9 _).new hr' _) (((x7.new hl8 _).new hl9 _).new hr' _) (((f7.new hl8 _).new hl9 _).nef hr') upd_same (by (first | assumption | exact Nat.le_trans (by assumption) (by decide) | exact Nat.lt_of_lt_of_le (by assumption) (by decide) | lia | omega))
  refine seq_hide fun T3 e3 => ?_
  refine ⟨_, rfl, _, rfl, fe, rfl, hF, fun nl nys H3 hF3 ex3 nnl hnl ln1 ln2 hny => ?_⟩
  refine ⟨_, rfl, fe, rfl, hF3, fun vl vys H4 hF4 ex4 nvl hvl lv1 lv2 hvy => ?_⟩
  obtain ⟨nms, rfl, hnm⟩ := strs_of hny
  obtain ⟨vls, rfl, hvs⟩ := strs_of hvy
  rw [List.length_map] at ln1 ln2 lv1 lv2
  refine ⟨(by show 2 ≤ sizeLine; decide), fun p5 hp5 => ?_⟩
  have np5 := hF4.nef hp5
  refine ⟨_, rfl, fe, 2, rfl, hF4.new hp5 _, by decide, by decide, fun i5 H5 j0 j1 hF5 ex5 => ?_⟩
  obtain ⟨most, ev, m1, m2⟩ := choose38 j0 j1
  have ex45 : Ext fe H4 H5 := ((Ext.refl fe H4).new hp5 _).trans ex5
  refine ⟨_, _, _, _, rfl, rfl, SqL.of (ex5 _ _ np5 upd_same), ev, ?_⟩
  refine ⟨fe, nl, vl, most, nms, vls, rfl, hF5, nnl, nvl, ex45 _ _ nnl (ex4 _ _ nnl hnl), ln1, by (first | assumption | exact Nat.le_trans (by assumption) (by decide) | exact Nat.lt_of_lt_of_le (by assumption) (by decide) | lia | omega), fun z hz => List.mem_append_left _ (hnm z hz), ⟨ex45 _ _ nvl hvl, lv1, by (first | assumption | exact Nat.le_trans (by assumption) (by decide) | exact Nat.lt_of_lt_of_le (by assumption) (by decide) | lia | omega), fun z hz => List.mem_append_left _ (List.mem_append_right _ (hvs z hz))⟩, hvs, m1, m2, fun q6 hz6 ats6 H6 hF6 ex6 hQ6 l6a l6 good6 hh6 => ?_⟩
  have ex06 : Ext fe H H6 := (ex3.trans ex4).trans (ex45.trans ex6)
  obtain ⟨q, hd, aa, avs, e, hq, hhd, haa, hats⟩ := id hQ6
  injection e with e
  subst e
  show T3 _ _ _
  subst e3
  refine seq_hide fun T4 e4 => ?_
  refine ⟨_, rfl, _, _, _, _, rfl, rfl, SqT.of hq, rfl, hd, _, rfl, .inr (SqT.of hhd), fun hl hhl => ?_⟩
  have f7 := hF6.new hhl (.lst (hz6.map V.str))
  have x7 := ex06.new hhl (.lst (hz6.map V.str))
  have n7 := hF6.nef hhl
  have h7 : upd H6 hl (.lst (hz6.map V.str)) hl = some (.lst (hz6.map V.str)) := upd_same
  have Q7 := hQ6.keep (Tups.of (same_new hhl (.lst (hz6.map V.str))))
  generalize upd H6 hl (.lst (hz6.map V.str)) = H7 at f7 x7 h7 Q7 ⊢
  show T4 _ _ _
  subst e4
  refine ⟨_, rfl, fe, 4, rfl, f7, by decide, by decide, fun i8 H8 a0 a1 f8 e8 => ⟨rfl, _, rfl, ?_⟩⟩
  have x8 := x7.trans e8
  have Q8 := Q7.keep (f7.tups e8)
  refine ite2 (fun _ => ?_) (fun _ => ?_)
  · refine ⟨_, rfl, fe, 5, rfl, f8, by decide, by decide, fun i9 H9 b0 b1 f9 e9 => ?_⟩
    refine ⟨_, _, rfl, rfl, 1 + i9, rfl, by (first | assumption | exact Nat.le_trans (by assumption) (by decide) | exact Nat.lt_of_lt_of_le (by assumption) (by decide) | lia | omega), by (first | assumption | exact Nat.le_trans (by assumption) (by decide) | exact Nat.lt_of_lt_of_le (by assumption) (by decide) | lia | omega), fun j m ys H10 => ∃ zs : List Str, ys = zs.map V.str ∧ zs.length = j ∧ (∀ z ∈ zs, z.length ≤ 9) ∧ j ≤ (1 + i9).toNat ∧ m = (1 + i9).toNat - j ∧ Feed K fe H10 ∧ Ext fe H9 H10, ⟨_, [], rfl, rfl, (fun z hz => by cases hz), Nat.zero_le _, rfl, f9, Ext.refl _ _⟩, ?_⟩
    rintro j m ys H10 ⟨zs, rfl, hzl, hz9, hj, rfl, f10, x10⟩
    have lz : (zs.map V.str).length = j := by rw [List.length_map, hzl]
    by_cases hlt : j < (1 + i9).toNat
    · refine .inr ⟨hlt, by rw [lz]; exact small1000 (by (first | assumption | exact Nat.le_trans (by assumption) (by decide) | exact Nat.lt_of_lt_of_le (by assumption) (by decide) | lia | omega)), ?_⟩
      rintro v H11 ⟨rfl, rfl⟩
      refine rd_true ?_
      refine ⟨(by show 4 ≤ sizeLine; decide), fun p1 hp1 => ?_⟩
      have f12 := f10.new hp1 (.lst (heads4.map V.str))
      have x12 := x10.new hp1 (.lst (heads4.map V.str))
      have n12 := f10.nef hp1
      refine ⟨_, rfl, fe, 4, rfl, f12, by decide, by decide, fun i13 H13 c0 c1 f13 e13 => ?_⟩
      obtain ⟨od, hod, eod⟩ := pick_str (zs := heads4) c0 (by show i13 < 4; exact c1)
      refine ⟨_, _, _, _, rfl, rfl, SqL.of (e13 _ _ n12 upd_same), eod, ?_⟩
      refine ⟨(1 + i9).toNat - (j + 1), by (first | assumption | exact Nat.le_trans (by assumption) (by decide) | exact Nat.lt_of_lt_of_le (by assumption) (by decide) | lia | omega), zs ++ [od], by rw [List.map_append]; rfl, by rw [List.length_append, hzl]; rfl, fun z hz => ?_, hlt, rfl, f13, x12.trans e13⟩
      rcases List.mem_append.mp hz with hz | hz
      · exact hz9 z hz
      · rw [List.mem_singleton.mp hz]
        exact le9 heads_len hod
    · refine .inl ⟨by show (1 + i9).toNat ≤ j; (first | assumption | exact Nat.le_trans (by assumption) (by decide) | exact Nat.lt_of_lt_of_le (by assumption) (by decide) | lia | omega), by rw [lz]; exact Nat.le_of_lt (small1000 (by (first | assumption | exact Nat.le_trans (by assumption) (by decide) | exact Nat.lt_of_lt_of_le (by assumption) (by decide) | lia | omega))), fun l hl' => ?_⟩
      have x9 := x8.trans (e9.trans x10)
      exact tl _ _ ⟨q6, l, zs, hz6, ats6, rfl, f10.new hl' _, x9.new hl' _, f10.nef hl', upd_same, by (first | assumption | exact Nat.le_trans (by assumption) (by decide) | exact Nat.lt_of_lt_of_le (by assumption) (by decide) | lia | omega), hz9, (Q8.keep (f8.tups (e9.trans x10))).keep (Tups.of (same_new hl' _)), good6, l6a, l6⟩
  · exact tl _ _ ⟨q6, hl, hz6, hz6, ats6, rfl, f8, x8, n7, e8 _ _ n7 h7, by have := hh6.1; (first | assumption | exact Nat.le_trans (by assumption) (by decide) | exact Nat.lt_of_lt_of_le (by assumption) (by decide) | lia | omega), fun z hz => le9 all_len (hh6.2 z hz).1, Q8, good6, l6a, l6⟩
end
end K04

set_option Elab.async false
set_option linter.all false
set_option maxRecDepth 100000
set_option maxHeartbeats 4000000
namespace K04
open PySem PySem.Spec PyProof.Rows L2
seal L2.PE L2.PT L2.PW L2.PA L2.PS L2.PSs L2.PI L2.PO L2.PPs L2.PG L2.PGs
/-! ## the law -/
noncomputable def spLaw (K : PySem.W.Frag) : Sp := fun vs H Q _ => ∃ (a : Addr) (ns : List Int), vs = [.ref a] ∧ Scr K H a (ns.map V.int) ∧ ns.length ≤ 63 ∧ ∀ H', Q (.bl true) H'
noncomputable def spFeed (K : PySem.W.Frag) : Sp := fun vs H Q _ => ∃ (a : Addr) (ns : List Int), vs = [.ref a] ∧ Scr K H a (ns.map V.int) ∧ ns.length ≤ 63 ∧ ∀ (r : Addr) (H' : Hp), Feed K r H' → Same H H' → H r = none → Q (.ref r) H'
noncomputable def texts12 : List Str := ["", " ", ":", ": ", ": r", "?x : r ?x ,", "r : x", "?x", ": r ?x : s ?x", "?x  : r ?x", " : r a", ": r a "]
theorem texts_len : (texts12.all fun z => decide (z.length ≤ 20)) = true := by decide +kernel
theorem choose5 {i : Int} (h0 : 0 ≤ i) (h1 : i < 5) : ∃ m : Int, atI [V.int 0, V.int 1, V.int 1, V.int 2, V.int 3] i = some (.int m) ∧ 0 ≤ m ∧ m ≤ 3 := by
  have c : i = 0 ∨ i = 1 ∨ i = 2 ∨ i = 3 ∨ i = 4 := by (first | lia | omega)
  rcases c with rfl | rfl | rfl | rfl | rfl
  · exact ⟨0, rfl, by decide, by decide⟩
  · exact ⟨1, rfl, by decide, by decide⟩
  · exact ⟨1, rfl, by decide, by decide⟩
  · exact ⟨2, rfl, by decide, by decide⟩
  · exact ⟨3, rfl, by decide, by decide⟩
theorem pow8 {i : Nat} (h : i ≤ 3) : 1520 * 2 ^ i ≤ 12160 := by
  have c : i = 0 ∨ i = 1 ∨ i = 2 ∨ i = 3 := by (first | lia | omega)
  rcases c with rfl | rfl | rfl | rfl <;> decide
section
variable {P : Program} {w : World} {K : PySem.W.Frag} {mg : Str → Option Value} {base : Heap}
structure Lz (P : Program) (w : World) (K : PySem.W.Frag) (mg : Str → Option Value) (base : Heap) : Prop where
  l_feed : DefOk P w K mg base 1 "_law_feed" ["_law_script"] (spFeed K)
  l_draw : DefOk P w K mg base 1 "_law_draw" ["_law_feed_here", "_law_many"] (spDraw K)
  l_words : DefOk P w K mg base 4 "_law_words" ["_law_feed_here"] (spWords4 K)
  l_spoilt : DefOk P w K mg base 2 "_law_spoilt" ["_law_feed_here", "_law_words_here"] (spSpoilt4 K)
  l_told : DefOk P w K mg base 7 "_law_told" ["_law_text"] spAns
  l_due : DefOk P w K mg base 4 "_law_due" ["_law_text"] spAns
theorem sc_law : FnScope ["_law_script", "_law_feed_here", "_law_k", "_law_words_here", "_law_j", "_law_text", "_law_some"] ["_law_script"] (defScope s_law) := ⟨rfl, rfl, rfl, by decide +kernel, rfl, by decide +kernel, by decide +kernel⟩
theorem ok_law {f : Addr} {fd : FuncData} (F : Fun K "law" "law" s_law f fd) (T : Txt K mg) (D : Lz P w K mg base) : FnOk P w K mg base CX0 8 f fd ["_law_script"] (spLaw K) := by
  refine F.ok sc_law (fun vs H Q E h => ?_) (fun cdv A outer s H vs Q E hr h => ?_)
  · obtain ⟨a, b, rfl, _⟩ := h
    rfl
  obtain ⟨a, ns, rfl, hS, hn, k⟩ := h
  have get : ∀ {H5 : Hp} {l : Addr} {o u : HO} {r : Addr}, H5 l = some o → H5 r = none → upd H5 r u l = some o := fun h5 hr5 => by rw [upd_ne (ne_of_none h5 hr5)]; exact h5
  refine ⟨_, (pss_cons (ps_set (i := 1) sc_law.nd rfl (Or.inl rfl) (cl D.l_feed hr (pa_cons (pv 0) pa_nil)))
      (pss_cons (ps_for PassesOwn.never rfl (pi_range1 rfl T.n_range (pa_cons pe_int pa_nil)) (pg_name (i := 2) sc_law.nd rfl (Or.inl rfl))
      (pss_cons (ps_set (i := 3) sc_law.nd rfl (Or.inl rfl) (cl D.l_words hr (pa_cons (pv 1) pa_nil)))
      (pss_cons (ps_for PassesOwn.never rfl (pi_range1 rfl T.n_range (pa_cons (pe_ix ix_list (pe_lst (pa_cons pe_int (pa_cons pe_int (pa_cons pe_int (pa_cons pe_int (pa_cons pe_int pa_nil)))))) (cl D.l_draw hr (pa_cons (pv 1) (pa_cons pe_int pa_nil))) (fun _ _ => rfl)) pa_nil)) (pg_name (i := 4) sc_law.nd rfl (Or.inl rfl))
      (pss_one (ps_set (i := 3) sc_law.nd rfl (Or.inl rfl) (cl D.l_spoilt hr (pa_cons (pv 1) (pa_cons (pv 3) pa_nil))))))
      (pss_cons (ps_set (i := 5) sc_law.nd rfl (Or.inl rfl) (pe_bm PySem.F.plainAttrs_str PySem.F.slot_str_join PySem.F.type_str_join mt_join pe_str (pa_cons (pv 3) pa_nil)))
      (pss_one (ps_if (pt_cmpR (op_neD hr.units) (cl D.l_told hr (pa_cons (pv 5) pa_nil)) (cl D.l_due hr (pa_cons (pv 5) pa_nil)) (nomark _)) (pss_one (ps_ret pe_bl)) pss_nil))))))
      (pss_cons (ps_set (i := 6) sc_law.nd rfl (Or.inl rfl) (pe_lst (pa_cons pe_str (pa_cons pe_str (pa_cons pe_str (pa_cons pe_str (pa_cons pe_str (pa_cons pe_str (pa_cons pe_str (pa_cons pe_str (pa_cons pe_str (pa_cons pe_str (pa_cons pe_str pa_nil)))))))))))))
      (pss_cons (ps_for PassesOwn.never rfl (pi_list (pe_op op_cat (pv 6) (pe_lst (pa_cons pe_str pa_nil)))) (pg_name (i := 5) sc_law.nd rfl (Or.inl rfl))
      (pss_one (ps_if (pt_cmpR (op_neD hr.units) (cl D.l_told hr (pa_cons (pv 5) pa_nil)) (cl D.l_due hr (pa_cons (pv 5) pa_nil)) (nomark _)) (pss_one (ps_ret pe_bl)) pss_nil)))
      (pss_one (ps_ret pe_bl)))))), ?_⟩
  refine seq_hide fun T1 eT1 => ?_
  refine ⟨_, rfl, a, ns, rfl, hS, hn, fun fe H1 hF1 sm1 hfe => ?_⟩
  show T1 _ _ _
  subst eT1
  refine seq_hide fun T2 eT2 => ?_
  refine ⟨20, rfl, by decide, by decide, for_range (lo := 0) (n := 20) (fun i σ H2 => ∃ (x2 x3 x4 x5 : Option V), σ = [some (.ref a), some (.ref fe), x2, x3, x4, x5, none] ∧ Feed K fe H2) ⟨none, none, none, none, rfl, hF1⟩ ?_ ?_⟩
  · rintro i σ H2 hi ⟨x2, x3, x4, x5, rfl, hF2⟩
    refine seq_hide fun B1 eB1 => ?_
    refine ⟨_, rfl, fe, rfl, hF2, fun wl ws H3 hF3 ex3 nwl hw wtw => ?_⟩
    show B1 _ _ _
    subst eB1
    refine seq_hide fun B2 eB2 => ?_
    refine ⟨(by show 5 ≤ sizeLine; decide), fun l4 hl4 => ?_⟩
    have f4 := hF3.new hl4 (.lst [.int 0, .int 1, .int 1, .int 2, .int 3])
    have n4 := hF3.nef hl4
    refine ⟨_, rfl, fe, 5, rfl, f4, by decide, by decide, fun i5 H5 a0 a1 f5 e5 => ?_⟩
    obtain ⟨m, ev, m0, m3⟩ := choose5 a0 a1
    refine ⟨_, _, _, _, rfl, rfl, SqL.of (e5 _ _ n4 upd_same), ev, ?_⟩
    refine ⟨m, rfl, by (first | lia | omega), by (first | lia | omega), for_range (lo := 0) (n := m.toNat) (fun j σ H6 => ∃ (y4 : Option V) (wl : Addr) (ws : List Str), σ = [some (.ref a), some (.ref fe), some (.int (0 + (i : Int))), some (.ref wl), y4, x5, none] ∧ Feed K fe H6 ∧ wl ≠ fe ∧ H6 wl = some (.lst (ws.map V.str)) ∧ wt ws + 20 ≤ 1520 * 2 ^ j) ⟨x4, wl, ws, rfl, f5, nwl, e5 _ _ nwl (get hw hl4), by (first | lia | omega)⟩ ?_ ?_⟩
    · rintro j σ H6 hj ⟨y4, wl, ws, rfl, f6, nw6, hw6, wt6⟩
      have p8 := pow8 (i := j) (by (first | lia | omega))
      refine ⟨_, rfl, _, rfl, fe, wl, ws, rfl, f6, nw6, hw6, by (first | lia | omega), fun r zs H7 f7 e7 nr hr7 wt7 => ?_⟩
      refine ⟨_, r, zs, rfl, f7, nr, hr7, ?_⟩
      rw [Nat.pow_succ]
      (first | lia | omega)
    · rintro σ H6 ⟨y4, wl, ws, rfl, f6, nw6, hw6, wt6⟩
      have p8 := pow8 (i := m.toNat) (by (first | lia | omega))
      have jl := join_le ws
      show B2 _ _ _
      subst eB2
      refine seq_hide fun B3 eB3 => ?_
      refine ⟨rfl, _, rfl, P4.bl1, wl, ws, rfl, rfl, SqL.of hw6, joinOk4 (by (first | lia | omega)) (by decide +kernel), ?_⟩
      generalize Txt.join P4.bl1 ws = z at jl
      have tr := res_terms (Txt.split z P4.bl1)
      show B3 _ _ _
      subst eB3
      refine ⟨_, rfl, z, rfl, by (first | lia | omega), fun r1 H7 sm7 an1 => ?_⟩
      refine ⟨_, rfl, z, rfl, by (first | lia | omega), fun r2 H8 sm8 an2 => ?_⟩
      refine ⟨dR (resW (Txt.split z P4.bl1)), dR (resW (Txt.split z P4.bl1)), dt_ans (AnsAt.keep sm8 an1), dt_ans an2, shaped_R tr, shaped_R tr, _, rfl, ?_⟩
      show if (!PyData.eqv (dR (resW (Txt.split z P4.bl1))) (dR (resW (Txt.split z P4.bl1)))) = true then _ else _
      rw [eqv_R tr]
      exact iteF ⟨_, _, _, _, rfl, (f6.same sm7).same sm8⟩
  rintro σ H2 ⟨x2, x3, x4, x5, rfl, hF2⟩
  show T2 _ _ _
  subst eT2
  refine seq_hide fun T3 eT3 => ?_
  refine ⟨(by show 11 ≤ sizeLine; decide), fun l3 hl3 => ?_⟩
  show T3 _ _ _
  subst eT3
  refine seq_hide fun T4 eT4 => ?_
  refine ⟨_, rfl, (by show 1 ≤ sizeLine; decide), fun l4 hl4 => ?_⟩
  refine ⟨_, _, _, _, rfl, rfl, get upd_same hl4, upd_same, (by show 12 ≤ sizeLine; decide), fun l5 hl5 => ?_⟩
  refine ⟨l5, rfl, ⟨_, SqL.of upd_same⟩, for_list (K := K) (a := l5) (xs := texts12.map V.str)
    (fun i σ H6 => ∃ x5 : Option V, σ = [some (.ref a), some (.ref fe), x2, x3, x4, x5, some (.ref l3)] ∧ H6 l5 = some (.lst (texts12.map V.str)))
    ⟨x5, rfl, upd_same⟩ (fun i σ H6 _ hq => by (obtain ⟨_, _, h6⟩ := hq; exact SqL.of h6)) ?_ ?_⟩
  · rintro i x σ H6 hx ⟨x5, rfl, h6⟩
    obtain ⟨z, hz, rfl⟩ := at_strs hx
    have lz : z.length ≤ 20 := of_decide_eq_true (List.all_eq_true.mp texts_len z (List.mem_of_getElem? hz))
    have tr := res_terms (Txt.split z P4.bl1)
    refine ⟨_, rfl, z, rfl, by (first | lia | omega), fun r1 H7 sm7 an1 => ?_⟩
    refine ⟨_, rfl, z, rfl, by (first | lia | omega), fun r2 H8 sm8 an2 => ?_⟩
    refine ⟨dR (resW (Txt.split z P4.bl1)), dR (resW (Txt.split z P4.bl1)), dt_ans (AnsAt.keep sm8 an1), dt_ans an2, shaped_R tr, shaped_R tr, _, rfl, ?_⟩
    show if (!PyData.eqv (dR (resW (Txt.split z P4.bl1))) (dR (resW (Txt.split z P4.bl1)))) = true then _ else _
    rw [eqv_R tr]
    exact iteF ⟨_, rfl, sm8 _ _ (sm7 _ _ h6)⟩
  · rintro σ H6 ⟨x5, rfl, h6⟩
    show T4 _ _ _
    subst eT4
    exact k H6
end
end K04

set_option Elab.async false
set_option linter.all false
set_option maxRecDepth 100000
set_option maxHeartbeats 4000000
namespace K04
open PySem PySem.Spec PyProof.Rows L2
theorem scr_of {K : PySem.W.Frag} {H : Hp} {a : Addr} {xs : List V} (hO : Only H) (h : SqL K H a xs) : Scr K H a xs := by
  rcases h with (h | h) | h
  · rcases hO a with e | ⟨o, ys, e⟩
    · rw [e] at h; cases h
    · rw [e] at h; cases h
  · exact .inl h
  · exact .inr h
theorem len1 {α : Type} {us : List α} (h : us.length = 1) : ∃ a, us = [a] := List.length_eq_one_iff.mp h
theorem len2 {α : Type} {us : List α} (h : us.length = 2) : ∃ a b, us = [a, b] := by
  obtain ⟨a, t, rfl⟩ : ∃ a t, us = a :: t := List.exists_cons_of_length_eq_add_one h
  obtain ⟨b, rfl⟩ := len1 (Nat.succ.inj h)
  exact ⟨a, b, rfl⟩
theorem len3 {α : Type} {us : List α} (h : us.length = 3) : ∃ a b c, us = [a, b, c] := by
  obtain ⟨a, t, rfl⟩ : ∃ a t, us = a :: t := List.exists_cons_of_length_eq_add_one h
  obtain ⟨b, c, rfl⟩ := len2 (Nat.succ.inj h)
  exact ⟨a, b, c, rfl⟩
theorem len4 {α : Type} {us : List α} (h : us.length = 4) : ∃ a b c d, us = [a, b, c, d] := by
  obtain ⟨a, t, rfl⟩ : ∃ a t, us = a :: t := List.exists_cons_of_length_eq_add_one h
  obtain ⟨b, c, d, rfl⟩ := len3 (Nat.succ.inj h)
  exact ⟨a, b, c, d, rfl⟩
theorem all_mk {l : PySem.W.OpenLaw} {w : World} {K : PySem.W.Frag} {h : Heap} {mg : Str → Option Value} {fa A0 c0 c1 c2 c3 c4 c5 c6 c7 f0 f4 g1 g2 g3 g4 g5 g6 g7 g8 g9 g10 g11 g12 g13 g14 g15 g16 g17 g18 g19 g20 g21 g22 g23 g24 : Addr} (X : K.In h) (G : h.Ns mainGlobals mg) (hfa : mg "law" = some (.ref fa))
    {od1 od2 od3 od4 od5 od6 od7 od8 od9 od10 od11 od12 od13 od14 od15 od16 od17 od18 od19 od20 od21 od22 od23 od24 an1 an2 an3 an4 an5 an6 an7 an8 an9 an10 an11 an12 an13 an14 an15 an16 an17 an18 an19 an20 an21 an22 an23 an24 iod0 iod4 ian0 ian4 : Option Addr} {sl1 sl2 sl3 sl4 sl5 sl6 sl7 sl8 sl9 sl10 sl11 sl12 sl13 sl14 sl15 sl16 sl17 sl18 sl19 sl20 sl21 sl22 sl23 sl24 isl0 isl4 : Array (Option Value)} {oc1 oc2 oc3 oc4 oc5 oc6 oc7 oc8 oc9 oc10 oc11 oc12 oc13 oc14 oc15 oc16 oc17 oc18 oc19 oc20 oc21 oc22 oc23 oc24 kV1 kV2 kV3 kV4 kV5 kV6 kV7 kV8 kV9 kV10 kV11 kV12 kV13 kV14 kV15 kV16 kV17 kV18 kV19 kV20 kV21 kV22 kV23 kV24 dc1 dc2 dc3 dc4 dc5 dc6 dc7 dc8 dc9 dc10 dc11 dc12 dc13 dc14 dc15 dc16 dc17 dc18 dc19 dc20 dc21 dc22 dc23 dc24 pm1 pm2 pm3 pm4 pm5 pm6 pm7 pm8 pm9 pm10 pm11 pm12 pm13 pm14 pm15 pm16 pm17 pm18 pm19 pm20 pm21 pm22 pm23 pm24 cd1 cd2 cd3 cd4 cd5 cd6 cd7 cd8 cd9 cd10 cd11 cd12 cd13 cd14 cd15 cd16 cd17 cd18 cd19 cd20 cd21 cd22 cd23 cd24 ct1 ct2 ct3 ct4 ct5 ct6 ct7 ct8 ct9 ct10 ct11 ct12 ct13 ct14 ct15 ct16 ct17 ct18 ct19 ct20 ct21 ct22 ct23 ct24 : Value} {ioc0 ioc4 ikV0 ikV4 idc0 idc4 ipm0 ipm4 icd0 icd4 ict0 ict4 : Value} {t0 t1 t2 t3 : Tok}
    (a1 : PySem.W.nsIn K mainGlobals "is_value" = some (some (.ref g1)))
    (l1 : K.lookup g1 = some ⟨oc1, od1, .func (PySem.W.fnOf "is_value" "is_value" (defArgs s_is_value) (defBody s_is_value) (defScope s_is_value) .none kV1 dc1 pm1 an1 cd1 ct1), sl1⟩)
    (k1 : PySem.W.codeIn K cd1 "is_value" = true)
    (p1 : PySem.W.keepIn K (.ref g1) = true)
    (a2 : PySem.W.nsIn K mainGlobals "is_unknown" = some (some (.ref g2)))
    (l2 : K.lookup g2 = some ⟨oc2, od2, .func (PySem.W.fnOf "is_unknown" "is_unknown" (defArgs s_is_unknown) (defBody s_is_unknown) (defScope s_is_unknown) .none kV2 dc2 pm2 an2 cd2 ct2), sl2⟩)
    (k2 : PySem.W.codeIn K cd2 "is_unknown" = true)
    (p2 : PySem.W.keepIn K (.ref g2) = true)
    (a3 : PySem.W.nsIn K mainGlobals "is_term" = some (some (.ref g3)))
    (l3 : K.lookup g3 = some ⟨oc3, od3, .func (PySem.W.fnOf "is_term" "is_term" (defArgs s_is_term) (defBody s_is_term) (defScope s_is_term) .none kV3 dc3 pm3 an3 cd3 ct3), sl3⟩)
    (k3 : PySem.W.codeIn K cd3 "is_term" = true)
    (p3 : PySem.W.keepIn K (.ref g3) = true)
    (a4 : PySem.W.nsIn K mainGlobals "unknowns_of" = some (some (.ref g4)))
    (l4 : K.lookup g4 = some ⟨oc4, od4, .func (PySem.W.fnOf "unknowns_of" "unknowns_of" (defArgs s_unknowns_of) (defBody s_unknowns_of) (defScope s_unknowns_of) .none kV4 dc4 pm4 an4 cd4 ct4), sl4⟩)
    (k4 : PySem.W.codeIn K cd4 "unknowns_of" = true)
    (p4 : PySem.W.keepIn K (.ref g4) = true)
    (a5 : PySem.W.nsIn K mainGlobals "loose_unknowns" = some (some (.ref g5)))
    (l5 : K.lookup g5 = some ⟨oc5, od5, .func (PySem.W.fnOf "loose_unknowns" "loose_unknowns" (defArgs s_loose_unknowns) (defBody s_loose_unknowns) (defScope s_loose_unknowns) .none kV5 dc5 pm5 an5 cd5 ct5), sl5⟩)
    (k5 : PySem.W.codeIn K cd5 "loose_unknowns" = true)
    (p5 : PySem.W.keepIn K (.ref g5) = true)
    (a6 : PySem.W.nsIn K mainGlobals "read" = some (some (.ref g6)))
    (l6 : K.lookup g6 = some ⟨oc6, od6, .func (PySem.W.fnOf "read" "read" (defArgs s_read) (defBody s_read) (defScope s_read) .none kV6 dc6 pm6 an6 cd6 ct6), sl6⟩)
    (k6 : PySem.W.codeIn K cd6 "read" = true)
    (p6 : PySem.W.keepIn K (.ref g6) = true)
    (a7 : PySem.W.nsIn K mainGlobals "read_head" = some (some (.ref g7)))
    (l7 : K.lookup g7 = some ⟨oc7, od7, .func (PySem.W.fnOf "read_head" "read_head" (defArgs s_read_head) (defBody s_read_head) (defScope s_read_head) .none kV7 dc7 pm7 an7 cd7 ct7), sl7⟩)
    (k7 : PySem.W.codeIn K cd7 "read_head" = true)
    (p7 : PySem.W.keepIn K (.ref g7) = true)
    (a8 : PySem.W.nsIn K mainGlobals "read_atoms" = some (some (.ref g8)))
    (l8 : K.lookup g8 = some ⟨oc8, od8, .func (PySem.W.fnOf "read_atoms" "read_atoms" (defArgs s_read_atoms) (defBody s_read_atoms) (defScope s_read_atoms) .none kV8 dc8 pm8 an8 cd8 ct8), sl8⟩)
    (k8 : PySem.W.codeIn K cd8 "read_atoms" = true)
    (p8 : PySem.W.keepIn K (.ref g8) = true)
    (a9 : PySem.W.nsIn K mainGlobals "read_atom" = some (some (.ref g9)))
    (l9 : K.lookup g9 = some ⟨oc9, od9, .func (PySem.W.fnOf "read_atom" "read_atom" (defArgs s_read_atom) (defBody s_read_atom) (defScope s_read_atom) .none kV9 dc9 pm9 an9 cd9 ct9), sl9⟩)
    (k9 : PySem.W.codeIn K cd9 "read_atom" = true)
    (p9 : PySem.W.keepIn K (.ref g9) = true)
    (a10 : PySem.W.nsIn K mainGlobals "_law_feed" = some (some (.ref g10)))
    (l10 : K.lookup g10 = some ⟨oc10, od10, .func (PySem.W.fnOf "_law_feed" "_law_feed" (defArgs s_l_feed) (defBody s_l_feed) (defScope s_l_feed) .none kV10 dc10 pm10 an10 cd10 ct10), sl10⟩)
    (k10 : PySem.W.codeIn K cd10 "_law_feed" = true)
    (p10 : PySem.W.keepIn K (.ref g10) = true)
    (a11 : PySem.W.nsIn K mainGlobals "_law_draw" = some (some (.ref g11)))
    (l11 : K.lookup g11 = some ⟨oc11, od11, .func (PySem.W.fnOf "_law_draw" "_law_draw" (defArgs s_l_draw) (defBody s_l_draw) (defScope s_l_draw) .none kV11 dc11 pm11 an11 cd11 ct11), sl11⟩)
    (k11 : PySem.W.codeIn K cd11 "_law_draw" = true)
    (p11 : PySem.W.keepIn K (.ref g11) = true)
    (a12 : PySem.W.nsIn K mainGlobals "_law_pool" = some (some (.ref g12)))
    (l12 : K.lookup g12 = some ⟨oc12, od12, .func (PySem.W.fnOf "_law_pool" "_law_pool" (defArgs s_l_pool) (defBody s_l_pool) (defScope s_l_pool) .none kV12 dc12 pm12 an12 cd12 ct12), sl12⟩)
    (k12 : PySem.W.codeIn K cd12 "_law_pool" = true)
    (p12 : PySem.W.keepIn K (.ref g12) = true)
    (a13 : PySem.W.nsIn K mainGlobals "_law_names" = some (some (.ref g13)))
    (l13 : K.lookup g13 = some ⟨oc13, od13, .func (PySem.W.fnOf "_law_names" "_law_names" (defArgs s_l_names) (defBody s_l_names) (defScope s_l_names) .none kV13 dc13 pm13 an13 cd13 ct13), sl13⟩)
    (k13 : PySem.W.codeIn K cd13 "_law_names" = true)
    (p13 : PySem.W.keepIn K (.ref g13) = true)
    (a14 : PySem.W.nsIn K mainGlobals "_law_values" = some (some (.ref g14)))
    (l14 : K.lookup g14 = some ⟨oc14, od14, .func (PySem.W.fnOf "_law_values" "_law_values" (defArgs s_l_values) (defBody s_l_values) (defScope s_l_values) .none kV14 dc14 pm14 an14 cd14 ct14), sl14⟩)
    (k14 : PySem.W.codeIn K cd14 "_law_values" = true)
    (p14 : PySem.W.keepIn K (.ref g14) = true)
    (a15 : PySem.W.nsIn K mainGlobals "_law_length" = some (some (.ref g15)))
    (l15 : K.lookup g15 = some ⟨oc15, od15, .func (PySem.W.fnOf "_law_length" "_law_length" (defArgs s_l_length) (defBody s_l_length) (defScope s_l_length) .none kV15 dc15 pm15 an15 cd15 ct15), sl15⟩)
    (k15 : PySem.W.codeIn K cd15 "_law_length" = true)
    (p15 : PySem.W.keepIn K (.ref g15) = true)
    (a16 : PySem.W.nsIn K mainGlobals "_law_question" = some (some (.ref g16)))
    (l16 : K.lookup g16 = some ⟨oc16, od16, .func (PySem.W.fnOf "_law_question" "_law_question" (defArgs s_l_question) (defBody s_l_question) (defScope s_l_question) .none kV16 dc16 pm16 an16 cd16 ct16), sl16⟩)
    (k16 : PySem.W.codeIn K cd16 "_law_question" = true)
    (p16 : PySem.W.keepIn K (.ref g16) = true)
    (a17 : PySem.W.nsIn K mainGlobals "_law_word" = some (some (.ref g17)))
    (l17 : K.lookup g17 = some ⟨oc17, od17, .func (PySem.W.fnOf "_law_word" "_law_word" (defArgs s_l_word) (defBody s_l_word) (defScope s_l_word) .none kV17 dc17 pm17 an17 cd17 ct17), sl17⟩)
    (k17 : PySem.W.codeIn K cd17 "_law_word" = true)
    (p17 : PySem.W.keepIn K (.ref g17) = true)
    (a18 : PySem.W.nsIn K mainGlobals "_law_term" = some (some (.ref g18)))
    (l18 : K.lookup g18 = some ⟨oc18, od18, .func (PySem.W.fnOf "_law_term" "_law_term" (defArgs s_l_term) (defBody s_l_term) (defScope s_l_term) .none kV18 dc18 pm18 an18 cd18 ct18), sl18⟩)
    (k18 : PySem.W.codeIn K cd18 "_law_term" = true)
    (p18 : PySem.W.keepIn K (.ref g18) = true)
    (a19 : PySem.W.nsIn K mainGlobals "_law_may" = some (some (.ref g19)))
    (l19 : K.lookup g19 = some ⟨oc19, od19, .func (PySem.W.fnOf "_law_may" "_law_may" (defArgs s_l_may) (defBody s_l_may) (defScope s_l_may) .none kV19 dc19 pm19 an19 cd19 ct19), sl19⟩)
    (k19 : PySem.W.codeIn K cd19 "_law_may" = true)
    (p19 : PySem.W.keepIn K (.ref g19) = true)
    (a20 : PySem.W.nsIn K mainGlobals "_law_due" = some (some (.ref g20)))
    (l20 : K.lookup g20 = some ⟨oc20, od20, .func (PySem.W.fnOf "_law_due" "_law_due" (defArgs s_l_due) (defBody s_l_due) (defScope s_l_due) .none kV20 dc20 pm20 an20 cd20 ct20), sl20⟩)
    (k20 : PySem.W.codeIn K cd20 "_law_due" = true)
    (p20 : PySem.W.keepIn K (.ref g20) = true)
    (a21 : PySem.W.nsIn K mainGlobals "_law_told" = some (some (.ref g21)))
    (l21 : K.lookup g21 = some ⟨oc21, od21, .func (PySem.W.fnOf "_law_told" "_law_told" (defArgs s_l_told) (defBody s_l_told) (defScope s_l_told) .none kV21 dc21 pm21 an21 cd21 ct21), sl21⟩)
    (k21 : PySem.W.codeIn K cd21 "_law_told" = true)
    (p21 : PySem.W.keepIn K (.ref g21) = true)
    (a22 : PySem.W.nsIn K mainGlobals "_law_spoilt" = some (some (.ref g22)))
    (l22 : K.lookup g22 = some ⟨oc22, od22, .func (PySem.W.fnOf "_law_spoilt" "_law_spoilt" (defArgs s_l_spoilt) (defBody s_l_spoilt) (defScope s_l_spoilt) .none kV22 dc22 pm22 an22 cd22 ct22), sl22⟩)
    (k22 : PySem.W.codeIn K cd22 "_law_spoilt" = true)
    (p22 : PySem.W.keepIn K (.ref g22) = true)
    (a23 : PySem.W.nsIn K mainGlobals "_law_words" = some (some (.ref g23)))
    (l23 : K.lookup g23 = some ⟨oc23, od23, .func (PySem.W.fnOf "_law_words" "_law_words" (defArgs s_l_words) (defBody s_l_words) (defScope s_l_words) .none kV23 dc23 pm23 an23 cd23 ct23), sl23⟩)
    (k23 : PySem.W.codeIn K cd23 "_law_words" = true)
    (p23 : PySem.W.keepIn K (.ref g23) = true)
    (a24 : PySem.W.nsIn K mainGlobals "law" = some (some (.ref g24)))
    (l24 : K.lookup g24 = some ⟨oc24, od24, .func (PySem.W.fnOf "law" "law" (defArgs s_law) (defBody s_law) (defScope s_law) .none kV24 dc24 pm24 an24 cd24 ct24), sl24⟩)
    (k24 : PySem.W.codeIn K cd24 "law" = true)
    (p24 : PySem.W.keepIn K (.ref g24) = true)
    (z0 : PySem.W.nsIn K mainGlobals "len" = some none)
    (z1 : PySem.W.nsIn K mainGlobals "abs" = some none)
    (z2 : PySem.W.nsIn K mainGlobals "range" = some none)
    (z3 : PySem.W.nsIn K mainGlobals "tuple" = some none)
    (z4 : PySem.W.nsIn K mainGlobals "list" = some none)
    (z5 : PySem.W.nsIn K mainGlobals "isinstance" = some none)
    (z6 : PySem.W.nsIn K mainGlobals "all" = some none)
    (z7 : PySem.W.nsIn K mainGlobals "str" = some none)
    (z8 : PySem.W.nsIn K mainGlobals "enumerate" = some none)
    (z9 : PySem.W.nsIn K mainGlobals "bool" = some none)
    (z10 : PySem.W.nsIn K mainGlobals "ValueError" = some none)
    (mc0 : PySem.W.nsIn K mainGlobals "SIGNS" = some (some (.str "abcdefghijklmnopqrstuvwxyz0123456789" t0)))
    (mc1 : PySem.W.nsIn K mainGlobals "MOST_SIGNS" = some (some (.int 8 t1)))
    (mc2 : PySem.W.nsIn K mainGlobals "MOST_TERMS" = some (some (.int 4 t2)))
    (mc3 : PySem.W.nsIn K mainGlobals "MOST_ATOMS" = some (some (.int 8 t3)))
    (aA : PySem.W.nsIn K mainGlobals "AskError" = some (some (.ref A0)))
    (bs : PySem.W.specialIn K (.ref A0) "__getattribute__" = some (some (.builtin "type.__getattribute__")))
    (br : PySem.W.readsIn K A0 (.type "type") = true)
    (bf : PySem.W.findCls K (.ref A0) (.type "type") "__init__" = some (.val (.builtin "ValueError.__init__")))
    (qA : excInI K A0 bmV "ValueError.__new__" = true)
    (xg : PySem.W.specialIn K (.builtin "object.__class__") "__get__" = some (some (.builtin "getset_descriptor.__get__")))
    (xt : PySem.W.takesIn K (.builtin "object.__class__") = some true)
    (m0 : PySem.W.nsIn K mainGlobals "Loose" = some (some (.ref c0)))
    (m1 : PySem.W.nsIn K mainGlobals "NoAsk" = some (some (.ref c1)))
    (m2 : PySem.W.nsIn K mainGlobals "NoHeld" = some (some (.ref c2)))
    (m3 : PySem.W.nsIn K mainGlobals "NoRow" = some (some (.ref c3)))
    (m4 : PySem.W.nsIn K mainGlobals "NoText" = some (some (.ref c4)))
    (m5 : PySem.W.nsIn K mainGlobals "NoView" = some (some (.ref c5)))
    (m6 : PySem.W.nsIn K mainGlobals "TooMany" = some (some (.ref c6)))
    (m7 : PySem.W.nsIn K mainGlobals "Twice" = some (some (.ref c7)))
    (kp0 : PySem.W.keepIn K (.ref c0) = true)
    (xa0 : PySem.W.findIn K (.ref c0) "__getattribute__" = some (some (.builtin "BaseException.__getattribute__")))
    (xb0 : PySem.W.findIn K (.ref c0) "__getattr__" = some none)
    (xc0 : PySem.W.findIn K (.ref c0) "__setattr__" = some (some (.builtin "object.__setattr__")))
    (xd0 : PySem.W.mroIn K c0 (.type "BaseException") = some true)
    (xe0 : PySem.W.mroIn K c0 (.type "object") = some true)
    (xf0 : PySem.W.hasDictIn K c0 = true)
    (xh0 : (PySem.W.clsIn K c0).any (fun cd => exTail cd.mro) = true)
    (xi0 : PySem.W.findIn K (.ref c0) "__class__" = some (some (.builtin "object.__class__")))
    (q0 : excInI K c0 bmV "ValueError.__new__" = true)
    (ii0 : PySem.W.findIn K (.ref c0) "__init__" = some (some (.ref f0)))
    (if0 : PySem.W.isFn K (.ref f0) = true)
    (il0 : K.lookup f0 = some ⟨ioc0, iod0, .func (PySem.W.fnOf "__init__" "Loose.__init__" (defArgs i_Loose) (defBody i_Loose) (defScope i_Loose) .none ikV0 idc0 ipm0 ian0 icd0 ict0), isl0⟩)
    (ic0 : PySem.W.codeIn K icd0 "Loose.__init__" = true)
    (ik0 : PySem.W.keepIn K (.ref f0) = true)
    (ig0 : PySem.W.findIn K (.ref c0) "unknown" = some none)
    (mr0 : PySem.W.mroIn K c0 (.ref A0) = some true)
    (tv0 : PySem.W.kitOne K (.ref c0) (.type "ValueError") = some true)
    (t01 : PySem.W.kitOne K (.ref c0) (.ref c1) = some false)
    (t02 : PySem.W.kitOne K (.ref c0) (.ref c2) = some false)
    (t03 : PySem.W.kitOne K (.ref c0) (.ref c3) = some false)
    (t04 : PySem.W.kitOne K (.ref c0) (.ref c4) = some false)
    (t05 : PySem.W.kitOne K (.ref c0) (.ref c5) = some false)
    (t06 : PySem.W.kitOne K (.ref c0) (.ref c6) = some false)
    (t07 : PySem.W.kitOne K (.ref c0) (.ref c7) = some false)
    (kp4 : PySem.W.keepIn K (.ref c4) = true)
    (xa4 : PySem.W.findIn K (.ref c4) "__getattribute__" = some (some (.builtin "BaseException.__getattribute__")))
    (xb4 : PySem.W.findIn K (.ref c4) "__getattr__" = some none)
    (xc4 : PySem.W.findIn K (.ref c4) "__setattr__" = some (some (.builtin "object.__setattr__")))
    (xd4 : PySem.W.mroIn K c4 (.type "BaseException") = some true)
    (xe4 : PySem.W.mroIn K c4 (.type "object") = some true)
    (xf4 : PySem.W.hasDictIn K c4 = true)
    (xh4 : (PySem.W.clsIn K c4).any (fun cd => exTail cd.mro) = true)
    (xi4 : PySem.W.findIn K (.ref c4) "__class__" = some (some (.builtin "object.__class__")))
    (q4 : excInI K c4 bmV "ValueError.__new__" = true)
    (ii4 : PySem.W.findIn K (.ref c4) "__init__" = some (some (.ref f4)))
    (if4 : PySem.W.isFn K (.ref f4) = true)
    (il4 : K.lookup f4 = some ⟨ioc4, iod4, .func (PySem.W.fnOf "__init__" "NoText.__init__" (defArgs i_NoText) (defBody i_NoText) (defScope i_NoText) .none ikV4 idc4 ipm4 ian4 icd4 ict4), isl4⟩)
    (ic4 : PySem.W.codeIn K icd4 "NoText.__init__" = true)
    (ik4 : PySem.W.keepIn K (.ref f4) = true)
    (ig4 : PySem.W.findIn K (.ref c4) "at" = some none)
    (mr4 : PySem.W.mroIn K c4 (.ref A0) = some true)
    (tv4 : PySem.W.kitOne K (.ref c4) (.type "ValueError") = some true)
    (t40 : PySem.W.kitOne K (.ref c4) (.ref c0) = some false)
    (t41 : PySem.W.kitOne K (.ref c4) (.ref c1) = some false)
    (t42 : PySem.W.kitOne K (.ref c4) (.ref c2) = some false)
    (t43 : PySem.W.kitOne K (.ref c4) (.ref c3) = some false)
    (t45 : PySem.W.kitOne K (.ref c4) (.ref c5) = some false)
    (t46 : PySem.W.kitOne K (.ref c4) (.ref c6) = some false)
    (t47 : PySem.W.kitOne K (.ref c4) (.ref c7) = some false)
    : ∃ fd : FuncData, (∀ (s : Shared) (v : Value), BindsTo s fd ⟨[v], []⟩ [("_law_script", v)]) ∧ ∀ base : Heap, K.In base → base.Ns mainGlobals mg → FnOk l.prog w K mg base CX0 8 fa fd ["_law_script"] (spLaw K) := by
  have e := hfa.symm.trans (PySem.W.mg_of X G a24)
  cases e
  have T : Txt K mg := ⟨PySem.W.mg_none_of X G z0, PySem.W.mg_none_of X G z1, PySem.W.mg_none_of X G z2, PySem.W.mg_none_of X G z3, PySem.W.mg_none_of X G z4, PySem.W.mg_none_of X G z5, PySem.W.mg_none_of X G z6, PySem.W.mg_none_of X G z7, PySem.W.mg_none_of X G z8, PySem.W.mg_none_of X G z9, PySem.W.mg_none_of X G z10, ⟨_, PySem.W.mg_of X G mc0⟩, ⟨_, PySem.W.mg_of X G mc1⟩, ⟨_, PySem.W.mg_of X G mc2⟩, ⟨_, PySem.W.mg_of X G mc3⟩⟩
  have B : Ba K mg A0 := ⟨PySem.W.mg_of X G aA, bs, br, bf⟩
  have F_is_value := fun_mk (st := s_is_value) l1 k1 p1
  have b_is_value := F_is_value.binds (ps := ["thing"]) fun _ _ _ _ _ _ us hl => by (obtain ⟨a, rfl⟩ := len1 hl; rfl)
  have F_is_unknown := fun_mk (st := s_is_unknown) l2 k2 p2
  have b_is_unknown := F_is_unknown.binds (ps := ["thing"]) fun _ _ _ _ _ _ us hl => by (obtain ⟨a, rfl⟩ := len1 hl; rfl)
  have F_is_term := fun_mk (st := s_is_term) l3 k3 p3
  have b_is_term := F_is_term.binds (ps := ["thing"]) fun _ _ _ _ _ _ us hl => by (obtain ⟨a, rfl⟩ := len1 hl; rfl)
  have F_unknowns_of := fun_mk (st := s_unknowns_of) l4 k4 p4
  have b_unknowns_of := F_unknowns_of.binds (ps := ["question"]) fun _ _ _ _ _ _ us hl => by (obtain ⟨a, rfl⟩ := len1 hl; rfl)
  have F_loose_unknowns := fun_mk (st := s_loose_unknowns) l5 k5 p5
  have b_loose_unknowns := F_loose_unknowns.binds (ps := ["question"]) fun _ _ _ _ _ _ us hl => by (obtain ⟨a, rfl⟩ := len1 hl; rfl)
  have F_read := fun_mk (st := s_read) l6 k6 p6
  have b_read := F_read.binds (ps := ["text"]) fun _ _ _ _ _ _ us hl => by (obtain ⟨a, rfl⟩ := len1 hl; rfl)
  have F_read_head := fun_mk (st := s_read_head) l7 k7 p7
  have b_read_head := F_read_head.binds (ps := ["words"]) fun _ _ _ _ _ _ us hl => by (obtain ⟨a, rfl⟩ := len1 hl; rfl)
  have F_read_atoms := fun_mk (st := s_read_atoms) l8 k8 p8
  have b_read_atoms := F_read_atoms.binds (ps := ["words", "at"]) fun _ _ _ _ _ _ us hl => by (obtain ⟨a, b, rfl⟩ := len2 hl; rfl)
  have F_read_atom := fun_mk (st := s_read_atom) l9 k9 p9
  have b_read_atom := F_read_atom.binds (ps := ["words", "at"]) fun _ _ _ _ _ _ us hl => by (obtain ⟨a, b, rfl⟩ := len2 hl; rfl)
  have F_l_feed := fun_mk (st := s_l_feed) l10 k10 p10
  have b_l_feed := F_l_feed.binds (ps := ["_law_script"]) fun _ _ _ _ _ _ us hl => by (obtain ⟨a, rfl⟩ := len1 hl; rfl)
  have F_l_draw := fun_mk (st := s_l_draw) l11 k11 p11
  have b_l_draw := F_l_draw.binds (ps := ["_law_feed_here", "_law_many"]) fun _ _ _ _ _ _ us hl => by (obtain ⟨a, b, rfl⟩ := len2 hl; rfl)
  have F_l_pool := fun_mk (st := s_l_pool) l12 k12 p12
  have b_l_pool := F_l_pool.binds (ps := ["_law_feed_here", "_law_pool_here", "_law_many"]) fun _ _ _ _ _ _ us hl => by (obtain ⟨a, b, c, rfl⟩ := len3 hl; rfl)
  have F_l_names := fun_mk (st := s_l_names) l13 k13 p13
  have b_l_names := F_l_names.binds (ps := ["_law_feed_here"]) fun _ _ _ _ _ _ us hl => by (obtain ⟨a, rfl⟩ := len1 hl; rfl)
  have F_l_values := fun_mk (st := s_l_values) l14 k14 p14
  have b_l_values := F_l_values.binds (ps := ["_law_feed_here"]) fun _ _ _ _ _ _ us hl => by (obtain ⟨a, rfl⟩ := len1 hl; rfl)
  have F_l_length := fun_mk (st := s_l_length) l15 k15 p15
  have b_l_length := F_l_length.binds (ps := ["_law_feed_here", "_law_name"]) fun _ _ _ _ _ _ us hl => by (obtain ⟨a, b, rfl⟩ := len2 hl; rfl)
  have F_l_question := fun_mk (st := s_l_question) l16 k16 p16
  have b_l_question := F_l_question.binds (ps := ["_law_feed_here", "_law_names_here", "_law_values_here", "_law_most"]) fun _ _ _ _ _ _ us hl => by (obtain ⟨a, b, c, d, rfl⟩ := len4 hl; rfl)
  have F_l_word := fun_mk (st := s_l_word) l17 k17 p17
  have b_l_word := F_l_word.binds (ps := ["_law_word_here"]) fun _ _ _ _ _ _ us hl => by (obtain ⟨a, rfl⟩ := len1 hl; rfl)
  have F_l_term := fun_mk (st := s_l_term) l18 k18 p18
  have b_l_term := F_l_term.binds (ps := ["_law_word_here"]) fun _ _ _ _ _ _ us hl => by (obtain ⟨a, rfl⟩ := len1 hl; rfl)
  have F_l_may := fun_mk (st := s_l_may) l19 k19 p19
  have b_l_may := F_l_may.binds (ps := ["_law_words_here", "_law_state"]) fun _ _ _ _ _ _ us hl => by (obtain ⟨a, b, rfl⟩ := len2 hl; rfl)
  have F_l_due := fun_mk (st := s_l_due) l20 k20 p20
  have b_l_due := F_l_due.binds (ps := ["_law_text"]) fun _ _ _ _ _ _ us hl => by (obtain ⟨a, rfl⟩ := len1 hl; rfl)
  have F_l_told := fun_mk (st := s_l_told) l21 k21 p21
  have b_l_told := F_l_told.binds (ps := ["_law_text"]) fun _ _ _ _ _ _ us hl => by (obtain ⟨a, rfl⟩ := len1 hl; rfl)
  have F_l_spoilt := fun_mk (st := s_l_spoilt) l22 k22 p22
  have b_l_spoilt := F_l_spoilt.binds (ps := ["_law_feed_here", "_law_words_here"]) fun _ _ _ _ _ _ us hl => by (obtain ⟨a, b, rfl⟩ := len2 hl; rfl)
  have F_l_words := fun_mk (st := s_l_words) l23 k23 p23
  have b_l_words := F_l_words.binds (ps := ["_law_feed_here"]) fun _ _ _ _ _ _ us hl => by (obtain ⟨a, rfl⟩ := len1 hl; rfl)
  have F_law := fun_mk (st := s_law) l24 k24 p24
  have E0 : ExcK K c0 := ⟨xa0, xb0, xc0, xd0, xe0, xf0, xh0, xi0, xg, xt⟩
  have FI0 := fun_mk (st := i_Loose) il0 ic0 ik0
  have BI0 := FI0.binds (ps := ["self", "unknown"]) fun _ _ _ _ _ _ us hl => by (obtain ⟨a, b, rfl⟩ := len2 hl; rfl)
  have AN0 : PySem.W.kitAny K (.ref c0) [.ref c1, .ref c2, .ref c3, .ref c5, .ref c6, .ref c7] = some false := by simp [PySem.W.kitAny, t01, t02, t03, t05, t06, t07]
  have E4 : ExcK K c4 := ⟨xa4, xb4, xc4, xd4, xe4, xf4, xh4, xi4, xg, xt⟩
  have FI4 := fun_mk (st := i_NoText) il4 ic4 ik4
  have BI4 := FI4.binds (ps := ["self", "at"]) fun _ _ _ _ _ _ us hl => by (obtain ⟨a, b, rfl⟩ := len2 hl; rfl)
  have AN4 : PySem.W.kitAny K (.ref c4) [.ref c1, .ref c2, .ref c3, .ref c5, .ref c6, .ref c7] = some false := by simp [PySem.W.kitAny, t41, t42, t43, t45, t46, t47]
  refine ⟨PySem.W.fnOf "law" "law" (defArgs s_law) (defBody s_law) (defScope s_law) .none kV24 dc24 pm24 an24 cd24 ct24, fun s v => .of_eq rfl, fun base _ _ => ?_⟩
  have OI0 : FnOk l.prog w K mg base CX0 1 f0 _ ["self", "unknown"] (spInit c0 "unknown") := ok_i_Loose FI0 B q0 E0 ig0
  have OI4 : FnOk l.prog w K mg base CX0 1 f4 _ ["self", "at"] (spInit c4 "at") := ok_i_NoText FI4 B q4 E4 ig4
  have d_is_value : DefOk l.prog w K mg base 1 "is_value" ["thing"] spVal := ⟨_, _, ok_is_value F_is_value T, PySem.W.mg_of X G a1, p1, b_is_value⟩
  have d_is_unknown : DefOk l.prog w K mg base 2 "is_unknown" ["thing"] spUnk := ⟨_, _, ok_is_unknown F_is_unknown T ⟨d_is_value⟩, PySem.W.mg_of X G a2, p2, b_is_unknown⟩
  have d_is_term : DefOk l.prog w K mg base 3 "is_term" ["thing"] spTrm := ⟨_, _, ok_is_term F_is_term ⟨⟨d_is_value⟩, d_is_unknown⟩, PySem.W.mg_of X G a3, p3, b_is_term⟩
  have d_unknowns_of : DefOk l.prog w K mg base 3 "unknowns_of" ["question"] spUnkG := ⟨_, _, ok_unknowns_of F_unknowns_of T ⟨⟨d_is_value⟩, d_is_unknown⟩, PySem.W.mg_of X G a4, p4, b_unknowns_of⟩
  have d_loose_unknowns : DefOk l.prog w K mg base 4 "loose_unknowns" ["question"] spLooseG := ⟨_, _, ok_loose F_loose_unknowns T ⟨⟨⟨d_is_value⟩, d_is_unknown⟩, d_unknowns_of⟩, PySem.W.mg_of X G a5, p5, b_loose_unknowns⟩
  have DE : De l.prog w K mg base c4 c0 := ⟨⟨⟨d_is_value⟩, d_is_unknown⟩, d_is_term, PySem.W.mg_of X G m4, kp4, q4, ⟨_, _, ii4, if4, OI4, BI4⟩, PySem.W.mg_of X G m0, kp0, q0, ⟨_, _, ii0, if0, OI0, BI0⟩⟩
  have d_read_head : DefOkE l.prog w K mg base 4 "read_head" ["words"] (spHead4 c4) := ⟨_, _, ok_read_head F_read_head T DE, PySem.W.mg_of X G a7, p7, b_read_head⟩
  have d_read_atom : DefOkE l.prog w K mg base 4 "read_atom" ["words", "at"] (spAtom4 c4) := ⟨_, _, ok_read_atom F_read_atom T DE, PySem.W.mg_of X G a9, p9, b_read_atom⟩
  have d_read_atoms : DefOkE l.prog w K mg base 5 "read_atoms" ["words", "at"] (spAtoms4 c4) := ⟨_, _, ok_read_atoms F_read_atoms T ⟨⟨DE, d_read_head⟩, d_read_atom⟩, PySem.W.mg_of X G a8, p8, b_read_atoms⟩
  have d_read : DefOkE l.prog w K mg base 6 "read" ["text"] (spRead4 c4 c0) := ⟨_, _, ok_read F_read T ⟨⟨⟨DE, d_read_head⟩, d_read_atom⟩, d_read_atoms, d_loose_unknowns⟩, PySem.W.mg_of X G a6, p6, b_read⟩
  have d_l_feed : DefOk l.prog w K mg base 1 "_law_feed" ["_law_script"] (spFeed K) := ⟨_, _, ok_feed F_l_feed, PySem.W.mg_of X G a10, p10, b_l_feed⟩
  have d_l_draw : DefOk l.prog w K mg base 1 "_law_draw" ["_law_feed_here", "_law_many"] (spDraw K) := ⟨_, _, ok_draw F_l_draw T, PySem.W.mg_of X G a11, p11, b_l_draw⟩
  have d_l_pool : DefOk l.prog w K mg base 2 "_law_pool" ["_law_feed_here", "_law_pool_here", "_law_many"] (spPool K) := ⟨_, _, ok_pool F_l_pool T ⟨d_l_draw⟩, PySem.W.mg_of X G a12, p12, b_l_pool⟩
  have d_l_names : DefOk l.prog w K mg base 3 "_law_names" ["_law_feed_here"] (spSome K namesPool 3) := ⟨_, _, ok_names F_l_names T ⟨⟨d_l_draw⟩, d_l_pool⟩, PySem.W.mg_of X G a13, p13, b_l_names⟩
  have d_l_values : DefOk l.prog w K mg base 3 "_law_values" ["_law_feed_here"] (spSome K valuesPool 4) := ⟨_, _, ok_values F_l_values T ⟨⟨d_l_draw⟩, d_l_pool⟩, PySem.W.mg_of X G a14, p14, b_l_values⟩
  have d_l_length : DefOk l.prog w K mg base 2 "_law_length" ["_law_feed_here", "_law_name"] (spLength K) := ⟨_, _, ok_length F_l_length T ⟨d_l_draw⟩, PySem.W.mg_of X G a15, p15, b_l_length⟩
  have d_l_question : DefOk l.prog w K mg base 3 "_law_question" ["_law_feed_here", "_law_names_here", "_law_values_here", "_law_most"] (spQuestion K) := ⟨_, _, ok_question F_l_question T ⟨⟨⟨d_l_draw⟩, d_l_pool⟩, d_l_length⟩, PySem.W.mg_of X G a16, p16, b_l_question⟩
  have d_l_word : DefOk l.prog w K mg base 1 "_law_word" ["_law_word_here"] spVal := ⟨_, _, ok_word F_l_word T, PySem.W.mg_of X G a17, p17, b_l_word⟩
  have d_l_term : DefOk l.prog w K mg base 2 "_law_term" ["_law_word_here"] spTrm := ⟨_, _, ok_term F_l_term T ⟨d_l_word⟩, PySem.W.mg_of X G a18, p18, b_l_term⟩
  have d_l_may : DefOk l.prog w K mg base 3 "_law_may" ["_law_words_here", "_law_state"] spMay := ⟨_, _, ok_may F_l_may T ⟨⟨d_l_word⟩, d_l_term⟩, PySem.W.mg_of X G a19, p19, b_l_may⟩
  have d_l_due : DefOk l.prog w K mg base 4 "_law_due" ["_law_text"] spAns := ⟨_, _, ok_due F_l_due T ⟨d_l_may⟩, PySem.W.mg_of X G a20, p20, b_l_due⟩
  have LT : Lt l.prog w K mg base A0 c0 c1 c2 c3 c4 c5 c6 c7 := ⟨d_read, PySem.W.mg_of X G aA, qA, PySem.W.mg_of X G m0, PySem.W.mg_of X G m1, PySem.W.mg_of X G m2, PySem.W.mg_of X G m3, PySem.W.mg_of X G m4, PySem.W.mg_of X G m5, PySem.W.mg_of X G m6, PySem.W.mg_of X G m7, E4, E0, mr4, mr0, ig4, ig0, tv4, tv0, t40, t04, AN4, AN0⟩
  have d_l_told : DefOk l.prog w K mg base 7 "_law_told" ["_law_text"] spAns := ⟨_, _, ok_told F_l_told T LT, PySem.W.mg_of X G a21, p21, b_l_told⟩
  have d_l_spoilt : DefOk l.prog w K mg base 2 "_law_spoilt" ["_law_feed_here", "_law_words_here"] (spSpoilt4 K) := ⟨_, _, ok_spoilt F_l_spoilt T ⟨d_l_draw⟩, PySem.W.mg_of X G a22, p22, b_l_spoilt⟩
  have d_l_words : DefOk l.prog w K mg base 4 "_law_words" ["_law_feed_here"] (spWords4 K) := ⟨_, _, ok_words F_l_words T ⟨d_l_draw, d_l_names, d_l_values, d_l_question⟩, PySem.W.mg_of X G a23, p23, b_l_words⟩
  exact ok_law F_law T ⟨d_l_feed, d_l_draw, d_l_words, d_l_spoilt, d_l_told, d_l_due⟩
theorem walk {l : PySem.W.OpenLaw} {q : Program} {loose : List Str} {XP : (Str → Option Value) → Heap → Prop} {YP : World → Heap → Prop} {d : DefRec} {K : Params → PySem.W.Frag} (hn : l.most = some 63) (hdf : d.params.defaults = [])
    (hY : ∀ (w : World) (h : Heap), YP w h → (K w.params).In h)
    (F : ∀ (w : World) (mg : Str → Option Value) (fa : Addr) (h : Heap), (K w.params).In h → h.Ns mainGlobals mg → mg d.name = some (.ref fa) →
      ∃ fd : FuncData, (∀ (s : Shared) (u : Value), BindsTo s fd ⟨[u], []⟩ [("_law_script", u)]) ∧ ∀ base : Heap, (K w.params).In base → base.Ns mainGlobals mg → FnOk l.prog w (K w.params) mg base CX0 8 fa fd ["_law_script"] (spLaw (K w.params))) :
    PySem.W.WalkO q loose XP YP l.row.toRowW d [] (fun f vs => PySem.call f vs) :=
  L2.walk_of (n := 63) (k := 8) (x := "_law_script") (CX := fun _ => CX0) (sp := fun w => spLaw (K w.params)) hn (by decide) hdf ⟨rfl, by decide, by decide⟩ hY F (fun _ H a ns hl hO hS => ⟨a, ns, rfl, scr_of hO hS, hl, fun _ => rfl⟩) fun _ _ _ _ _ z => z
end K04
open PySem PySem.W PyProof.Rows
set_option maxRecDepth 100000 in
set_option maxHeartbeats 0 in
theorem PySem.Challenge.cw_askviews_k04_texts_refused_holds : PySem.Challenge.rw_askviews_k04_texts_refused.Holds := by
  w_on; o_law; k_head; (case hw => w_witness2)
  k_fill
  refine K04.walk (l := PySem.Challenge.rw_askviews_k04_texts_refused) rfl rfl (fun w h Y => PySem.W.kIn_of Y) ?F
  case F =>
    intro w mg fa h KX G hmg
    refine' K04.all_mk KX G hmg ?a1 ?l1 ?k1 ?p1 ?a2 ?l2 ?k2 ?p2 ?a3 ?l3 ?k3 ?p3 ?a4 ?l4 ?k4 ?p4 ?a5 ?l5 ?k5 ?p5 ?a6 ?l6 ?k6 ?p6 ?a7 ?l7 ?k7 ?p7 ?a8 ?l8 ?k8 ?p8 ?a9 ?l9 ?k9 ?p9 ?a10 ?l10 ?k10 ?p10 ?a11 ?l11 ?k11 ?p11 ?a12 ?l12 ?k12 ?p12 ?a13 ?l13 ?k13 ?p13 ?a14 ?l14 ?k14 ?p14 ?a15 ?l15 ?k15 ?p15 ?a16 ?l16 ?k16 ?p16 ?a17 ?l17 ?k17 ?p17 ?a18 ?l18 ?k18 ?p18 ?a19 ?l19 ?k19 ?p19 ?a20 ?l20 ?k20 ?p20 ?a21 ?l21 ?k21 ?p21 ?a22 ?l22 ?k22 ?p22 ?a23 ?l23 ?k23 ?p23 ?a24 ?l24 ?k24 ?p24 ?z0 ?z1 ?z2 ?z3 ?z4 ?z5 ?z6 ?z7 ?z8 ?z9 ?z10 ?mc0 ?mc1 ?mc2 ?mc3 ?aA ?bs ?br ?bf ?qA ?xg ?xt ?m0 ?m1 ?m2 ?m3 ?m4 ?m5 ?m6 ?m7 ?kp0 ?xa0 ?xb0 ?xc0 ?xd0 ?xe0 ?xf0 ?xh0 ?xi0 ?q0 ?ii0 ?if0 ?il0 ?ic0 ?ik0 ?ig0 ?mr0 ?tv0 ?t01 ?t02 ?t03 ?t04 ?t05 ?t06 ?t07 ?kp4 ?xa4 ?xb4 ?xc4 ?xd4 ?xe4 ?xf4 ?xh4 ?xi4 ?q4 ?ii4 ?if4 ?il4 ?ic4 ?ik4 ?ig4 ?mr4 ?tv4 ?t40 ?t41 ?t42 ?t43 ?t45 ?t46 ?t47
    (case a1 => k_is)
    (case l1 => k_is)
    (case k1 => k_is)
    (case p1 => k_is)
    (case a2 => k_is)
    (case l2 => k_is)
    (case k2 => k_is)
    (case p2 => k_is)
    (case a3 => k_is)
    (case l3 => k_is)
    (case k3 => k_is)
    (case p3 => k_is)
    (case a4 => k_is)
    (case l4 => k_is)
    (case k4 => k_is)
    (case p4 => k_is)
    (case a5 => k_is)
    (case l5 => k_is)
    (case k5 => k_is)
    (case p5 => k_is)
    (case a6 => k_is)
    (case l6 => k_is)
    (case k6 => k_is)
    (case p6 => k_is)
    (case a7 => k_is)
    (case l7 => k_is)
    (case k7 => k_is)
    (case p7 => k_is)
    (case a8 => k_is)
    (case l8 => k_is)
    (case k8 => k_is)
    (case p8 => k_is)
    (case a9 => k_is)
    (case l9 => k_is)
    (case k9 => k_is)
    (case p9 => k_is)
    (case a10 => k_is)
    (case l10 => k_is)
    (case k10 => k_is)
    (case p10 => k_is)
    (case a11 => k_is)
    (case l11 => k_is)
    (case k11 => k_is)
    (case p11 => k_is)
    (case a12 => k_is)
    (case l12 => k_is)
    (case k12 => k_is)
    (case p12 => k_is)
    (case a13 => k_is)
    (case l13 => k_is)
    (case k13 => k_is)
    (case p13 => k_is)
    (case a14 => k_is)
    (case l14 => k_is)
    (case k14 => k_is)
    (case p14 => k_is)
    (case a15 => k_is)
    (case l15 => k_is)
    (case k15 => k_is)
    (case p15 => k_is)
    (case a16 => k_is)
    (case l16 => k_is)
    (case k16 => k_is)
    (case p16 => k_is)
    (case a17 => k_is)
    (case l17 => k_is)
    (case k17 => k_is)
    (case p17 => k_is)
    (case a18 => k_is)
    (case l18 => k_is)
    (case k18 => k_is)
    (case p18 => k_is)
    (case a19 => k_is)
    (case l19 => k_is)
    (case k19 => k_is)
    (case p19 => k_is)
    (case a20 => k_is)
    (case l20 => k_is)
    (case k20 => k_is)
    (case p20 => k_is)
    (case a21 => k_is)
    (case l21 => k_is)
    (case k21 => k_is)
    (case p21 => k_is)
    (case a22 => k_is)
    (case l22 => k_is)
    (case k22 => k_is)
    (case p22 => k_is)
    (case a23 => k_is)
    (case l23 => k_is)
    (case k23 => k_is)
    (case p23 => k_is)
    (case a24 => k_is)
    (case l24 => k_is)
    (case k24 => k_is)
    (case p24 => k_is)
    (case z0 => k_is)
    (case z1 => k_is)
    (case z2 => k_is)
    (case z3 => k_is)
    (case z4 => k_is)
    (case z5 => k_is)
    (case z6 => k_is)
    (case z7 => k_is)
    (case z8 => k_is)
    (case z9 => k_is)
    (case z10 => k_is)
    (case mc0 => k_is)
    (case mc1 => k_is)
    (case mc2 => k_is)
    (case mc3 => k_is)
    (case aA => k_is)
    (case bs => k_is)
    (case br => k_is)
    (case bf => k_is)
    (case qA => kernel_rfl)
    (case xg => k_is)
    (case xt => k_is)
    (case m0 => k_is)
    (case m1 => k_is)
    (case m2 => k_is)
    (case m3 => k_is)
    (case m4 => k_is)
    (case m5 => k_is)
    (case m6 => k_is)
    (case m7 => k_is)
    (case kp0 => k_is)
    (case xa0 => k_is)
    (case xb0 => k_is)
    (case xc0 => k_is)
    (case xd0 => k_is)
    (case xe0 => k_is)
    (case xf0 => k_is)
    (case xh0 => kernel_rfl)
    (case xi0 => k_is)
    (case q0 => kernel_rfl)
    (case ii0 => k_is)
    (case if0 => k_is)
    (case il0 => k_is)
    (case ic0 => k_is)
    (case ik0 => k_is)
    (case ig0 => k_is)
    (case mr0 => k_is)
    (case tv0 => kit_is)
    (case t01 => kit_is)
    (case t02 => kit_is)
    (case t03 => kit_is)
    (case t04 => kit_is)
    (case t05 => kit_is)
    (case t06 => kit_is)
    (case t07 => kit_is)
    (case kp4 => k_is)
    (case xa4 => k_is)
    (case xb4 => k_is)
    (case xc4 => k_is)
    (case xd4 => k_is)
    (case xe4 => k_is)
    (case xf4 => k_is)
    (case xh4 => kernel_rfl)
    (case xi4 => k_is)
    (case q4 => kernel_rfl)
    (case ii4 => k_is)
    (case if4 => k_is)
    (case il4 => k_is)
    (case ic4 => k_is)
    (case ik4 => k_is)
    (case ig4 => k_is)
    (case mr4 => k_is)
    (case tv4 => kit_is)
    (case t40 => kit_is)
    (case t41 => kit_is)
    (case t42 => kit_is)
    (case t43 => kit_is)
    (case t45 => kit_is)
    (case t46 => kit_is)
    (case t47 => kit_is)

