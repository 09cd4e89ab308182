import PyProof.Rows.All
import Wide.All
import OpenK.AllK
import Wide.FinOn
import Lean
import PyProof.EqAt
import PyProof.EqKinds
import PyProof.TupleCall
import PySem.Challenge.RW_askviews_k40_what_are_views
set_option Elab.async false
set_option linter.all false
set_option maxRecDepth 100000
namespace L2
open PySem PySem.Spec PyProof.Rows

/-- a key: an int or a str -/
abbrev Key := Sum Int Str
def keyIs : Key → Value → Bool
  | .inl k, v => Value.isInt k v
  | .inr x, v => Value.isStrOf x v
def keyH (w : World) : Key → Int
  | .inl k => hashInt k
  | .inr x => hashStr w x
theorem keyIs_shape : ∀ {k : Key} {v : Value}, keyIs k v = true → (∃ i t, k = Sum.inl i ∧ v = Value.int i t) ∨ (∃ x t, k = Sum.inr x ∧ v = Value.str x t)
  | .inl i, v, h => by
    obtain ⟨t, e⟩ := Value.isInt_shape (k := i) (v := v) h
    exact .inl ⟨i, t, rfl, e⟩
  | .inr x, v, h => by
    obtain ⟨t, e⟩ := Value.isStrOf_shape (x := x) (v := v) h
    exact .inr ⟨x, t, rfl, e⟩
theorem keyIs_int (i : Int) (t : Tok) : keyIs (.inl i) (.int i t) = true := by simp [keyIs, Value.isInt]
theorem keyIs_str (x : Str) (t : Tok) : keyIs (.inr x) (.str x t) = true := by simp [keyIs, Value.isStrOf]
theorem key_ll (a b : Int) : decide ((Sum.inl a : Key) = Sum.inl b) = (a == b) := by
  by_cases e : a = b
  · subst e; simp
  · have h : ¬ (Sum.inl a : Key) = Sum.inl b := fun q => e (Sum.inl.inj q)
    rw [decide_eq_false h]
    exact (beq_eq_false_iff_ne.mpr e).symm
theorem key_rr (a b : Str) : decide ((Sum.inr a : Key) = Sum.inr b) = decide (a = b) := by
  by_cases e : a = b
  · subst e; simp
  · have h : ¬ (Sum.inr a : Key) = Sum.inr b := fun q => e (Sum.inr.inj q)
    rw [decide_eq_false h, decide_eq_false e]
theorem key_lr (a : Int) (b : Str) : decide ((Sum.inl a : Key) = Sum.inr b) = false := decide_eq_false (fun q => nomatch q)
theorem key_rl (a : Str) (b : Int) : decide ((Sum.inr a : Key) = Sum.inl b) = false := decide_eq_false (fun q => nomatch q)

def mixKind (prog : Program) (w : World) : PySem.KeyKind prog w Key where
  is := keyIs
  hash := keyH w
  inj := fun v a b ha hb => by
    rcases keyIs_shape ha with ⟨i, t, rfl, rfl⟩ | ⟨x, t, rfl, rfl⟩
    · rcases keyIs_shape hb with ⟨j, u, rfl, e⟩ | ⟨y, u, rfl, e⟩
      · injection e with e1 _; rw [e1]
      · exact nomatch e
    · rcases keyIs_shape hb with ⟨j, u, rfl, e⟩ | ⟨y, u, rfl, e⟩
      · exact nomatch e
      · injection e with e1 _; rw [e1]
  byValue := fun k v h => by
    rcases keyIs_shape h with ⟨i, t, rfl, rfl⟩ | ⟨x, t, rfl, rfl⟩ <;> rfl
  pyHash := fun hv h => by
    rcases keyIs_shape hv with ⟨i, t, rfl, rfl⟩ | ⟨x, t, rfl, rfl⟩
    · exact wpAny_pyHash_int h
    · exact wpAny_pyHash_str h
  eqBool := fun hu hv h => by
    rcases keyIs_shape hu with ⟨i, t, rfl, rfl⟩ | ⟨x, t, rfl, rfl⟩
    · rcases keyIs_shape hv with ⟨j, u, rfl, rfl⟩ | ⟨y, u, rfl, rfl⟩
      · rw [key_ll] at h; exact wpAny_eqBool_int h
      · rw [key_lr] at h; exact SeqAt.EqAt.int_str i t y u _ _ _ _ h
    · rcases keyIs_shape hv with ⟨j, u, rfl, rfl⟩ | ⟨y, u, rfl, rfl⟩
      · rw [key_rl] at h; exact SeqAt.EqAt.str_int x t j u _ _ _ _ h
      · rw [key_rr] at h; exact wpAny_eqBool_str h
  «strs» := fun k x t v h => by
    rcases keyIs_shape h with ⟨i, u, rfl, e⟩ | ⟨y, u, rfl, e⟩
    · exact nomatch e
    · injection e with e1 _
      subst e1
      cases v <;> rfl

theorem mixKind_is (prog : Program) (w : World) (k : Key) (v : Value) : (mixKind prog w).is k v = keyIs k v := rfl
theorem mixKind_int (prog : Program) (w : World) (i : Int) (t : Tok) : (mixKind prog w).is (.inl i) (.int i t) = true := keyIs_int i t
theorem mixKind_str (prog : Program) (w : World) (x : Str) (t : Tok) : (mixKind prog w).is (.inr x) (.str x t) = true := keyIs_str x t
end L2

namespace L2
open PySem PySem.Spec PyProof.Rows

/-- a value, without the heap -/
inductive V where
  | non | bl (b : Bool) | int (i : Int) | str (x : Str) | byt (b : Array UInt8) | flt (b : UInt64) | ref (a : Addr) | ty (n : String)
  deriving DecidableEq

def RelV : V → Value → Prop
  | .non, u => u = Value.none
  | .bl b, u => u = Value.bool b
  | .int i, u => ∃ t, u = Value.int i t
  | .str x, u => ∃ t, u = Value.str x t
  | .byt b, u => ∃ t, u = Value.bytes b t
  | .flt b, u => ∃ t, u = Value.float b t
  | .ref a, u => u = Value.ref a
  | .ty n, u => u = Value.type n

abbrev Vals : List V → List Value → Prop := Paired RelV
theorem Vals.length {xs : List V} {us : List Value} (r : Vals xs us) : xs.length = us.length := Paired.length r
theorem Vals.get : ∀ {xs : List V} {us : List Value} {i : Nat} {x : V}, Vals xs us → xs[i]? = some x → ∃ u, us[i]? = some u ∧ RelV x u
  | _, _, _, _, .nil, e => by simp at e
  | _, _, 0, _, .cons r _, e => by simp at e; subst e; exact ⟨_, rfl, r⟩
  | _, _, i + 1, x, .cons _ t, e => by
    obtain ⟨u, h1, h2⟩ := Vals.get (i := i) (x := x) t (by simpa using e)
    exact ⟨u, by simpa using h1, h2⟩
theorem Vals.set {x : V} {u : Value} (r : RelV x u) : ∀ {xs : List V} {us : List Value} (i : Nat), Vals xs us → Vals (xs.set i x) (us.set i u)
  | _, _, _, .nil => .nil
  | _, _, 0, .cons _ t => .cons r t
  | _, _, i + 1, .cons q t => .cons q (Vals.set r i t)
theorem Vals.append : ∀ {xs ys : List V} {us ws : List Value}, Vals xs us → Vals ys ws → Vals (xs ++ ys) (us ++ ws)
  | _, _, _, _, .nil, s => s
  | _, _, _, _, .cons r t, s => .cons r (Vals.append t s)
theorem Vals.take : ∀ {xs : List V} {us : List Value} (n : Nat), Vals xs us → Vals (xs.take n) (us.take n)
  | _, _, 0, _ => .nil
  | _, _, _ + 1, .nil => .nil
  | _, _, n + 1, .cons r t => .cons r (Vals.take n t)
theorem Vals.drop : ∀ {xs : List V} {us : List Value} (n : Nat), Vals xs us → Vals (xs.drop n) (us.drop n)
  | _, _, 0, r => r
  | _, _, _ + 1, .nil => .nil
  | _, _, n + 1, .cons _ t => Vals.drop n t
theorem Vals.none_of : ∀ {xs : List V} {us : List Value} {i : Nat}, Vals xs us → xs[i]? = none → us[i]? = none := fun {xs us i} r e => by
  have h1 := r.length
  have h2 : xs.length ≤ i := List.getElem?_eq_none_iff.mp e
  exact List.getElem?_eq_none_iff.mpr (by omega)

def RelO : Option V → Option Value → Prop
  | some v, some u => RelV v u
  | none, none => True
  | _, _ => False
def KV {κ : Type} : List (κ × V) → List (κ × Value) → Prop := Paired fun (p : κ × V) (q : κ × Value) => p.1 = q.1 ∧ RelV p.2 q.2

/-- a key of a dict (00_mix): an int or a text -/
def kV : Key → V
  | .inl i => .int i
  | .inr x => .str x

/-- what stands at a tracked address -/
inductive HO where
  /-- a list -/
  | lst (xs : List V)
  /-- a tuple (never changes) -/
  | tup (xs : List V)
  /-- a dict whose keys are ints and texts; one whose keys are tuples of ints and texts (the empty one is both) -/
  | dK (kvs : List (Key × V)) | dT (kvs : List (List Key × V))
  /-- a set of ints: its members, its size -/
  | set (S : Int → Bool) (n : Nat)
  /-- an instance of the class at C, its dict at dx, its attributes -/
  | ins (C dx : Addr) (fs : List (Str × V))
  /-- the dict of the instance at x -/
  | own (x : Addr)
  /-- the dict of an exception -/
  | xd (fs : List (Str × V))
  /-- a bound method, f of x -/
  | met (f x : Addr)
  /-- a range object lo, lo + 1, .. below hi -/
  | rng (lo hi : Int)
  /-- a thing that is known to the object (the script; a dict while a loop walks it): read, never written while it is so -/
  | frz (o : Obj) (u : HO)
  /-- a code object's table -/
  | tbl (ps : Array Value)
  /-- any other thing, by what is true of its one object (a def of one's own: SetO a S n := HO.ext fun h => ..) -/
  | ext (φ : Heap → Prop)

abbrev Hp := Addr → Option HO
def upd (H : Hp) (a : Addr) (o : HO) : Hp := fun b => if b = a then some o else H b
theorem upd_same {H : Hp} {a : Addr} {o : HO} : upd H a o a = some o := by unfold upd; rw [if_pos rfl]
theorem upd_ne {H : Hp} {a b : Addr} {o : HO} (h : b ≠ a) : upd H a o b = H b := by unfold upd; rw [if_neg h]
theorem upd_upd {H : Hp} {a : Addr} {o u : HO} : upd (upd H a o) a u = upd H a u := by
  funext b; unfold upd; split <;> rfl
/-- two objects of different content stand apart -/
theorem ne_of {H : Hp} {a b : Addr} {o u : HO} (h : H a = some o) (h' : H b = some u) (d : o ≠ u) : a ≠ b := by
  intro e; subst e; rw [h] at h'; exact d (Option.some.inj h')
theorem ne_of_none {H : Hp} {a b : Addr} {o : HO} (h : H a = some o) (h' : H b = none) : a ≠ b := by
  intro e; subst e; rw [h] at h'; cases h'

section
variable (P : Program) (w : World)
def ObjOk (H : Hp) (h : Heap) (a : Addr) : HO → Prop
  | .lst xs => xs.length ≤ sizeLine ∧ ∃ (its : List Value) (n : Nat), Vals xs its ∧ h.get? a = some { cls := .type "list", data := .seq its.toArray n }
  | .tup xs => xs.length ≤ sizeLine ∧ ∃ its : List Value, Vals xs its ∧ IsTup h a its.toArray
  | .dK kvs => kvs.length ≤ sizeLine ∧ (a == sysModules) = false ∧ ∃ vs, KV kvs vs ∧ h.DictOf (mixKind P w) a vs
  | .dT kvs => kvs.length ≤ sizeLine ∧ (a == sysModules) = false ∧ ∃ xs : List (List Key × Addr × Value),
      Paired (fun (p : List Key × V) (q : List Key × Addr × Value) => p.1 = q.1 ∧ H q.2.1 = some (.tup (p.1.map kV)) ∧ RelV p.2 q.2.2) kvs xs ∧
      ∃ o es ep, h.get? a = some o ∧ o.ExactDict ∧ o.data = .dict es ep ∧ es.toList = xs.map (entryOfKey (tupleKind (mixKind P w))) ∧ (xs.map (·.1)).Nodup
  | .set S n => h.SetOf (intKind P w) a S n
  | .ins C dx fs => H dx = some (.own a) ∧ fs.length ≤ 1000 ∧ dx ≠ a ∧ h.get? a = some (PySem.W.instObj C dx) ∧
      ∃ mA, h.Ns1 dx mA ∧ (∀ f, RelO (fs.lookup f) (mA f)) ∧ PySem.Within mA (fs.map (·.1))
  | .own _ => ∃ o, h.get? a = some o
  | .xd fs => ∃ mA, h.Ns1 a mA ∧ ∀ f, RelO (fs.lookup f) (mA f)
  | .rng lo hi => ∃ t u v, h.get? a = some { cls := .type "range", data := .fields #[.int lo t, .int hi u, .int 1 v] }
  | .frz o u => h.get? a = some o ∧ ObjOk H h a u
  | .tbl ps => h.get? a = some { cls := .none, data := .fields ps }
  | .met f x => h.get? a = some (PySem.W.methodObj (.ref f) (.ref x))
  | .ext φ => φ h ∧ (∃ o, h.get? a = some o) ∧ ∀ h1 h2 : Heap, φ h1 → (∀ o, h1.get? a = some o → h2.get? a = some o) → φ h2
/-- the abstract heap is held -/
def HOk (H : Hp) (h : Heap) : Prop := ∀ a o, H a = some o → ObjOk P w H h a o
end

section
variable {P : Program} {w : World} {H H' : Hp} {h h' : Heap} {a : Addr} {o : HO}
theorem ObjOk.lt (x : ObjOk P w H h a o) : a < h.objs.size := by
  cases o with
  | lst xs => obtain ⟨_, _, _, _, e⟩ := x; exact Heap.lt_size e
  | tup xs => obtain ⟨_, _, _, p⟩ := x; exact p.lt
  | dK kvs => obtain ⟨_, _, _, _, o, _, _, e, _⟩ := x; exact Heap.lt_size e
  | dT kvs => obtain ⟨_, _, _, _, o, _, _, e, _⟩ := x; exact Heap.lt_size e
  | set S n => obtain ⟨o, _, _, _, e, _⟩ := x; exact Heap.lt_size e
  | ins C dx fs => obtain ⟨_, _, _, e, _⟩ := x; exact Heap.lt_size e
  | own y => obtain ⟨_, e⟩ := x; exact Heap.lt_size e
  | xd fs => obtain ⟨_, ⟨_, _, _, e, _⟩, _⟩ := x; exact Heap.lt_size e
  | rng lo hi => obtain ⟨_, _, _, e⟩ := x; exact Heap.lt_size e
  | frz ob u => obtain ⟨e, _⟩ := x; exact Heap.lt_size e
  | tbl ps => exact Heap.lt_size (show h.get? a = some _ from x)
  | met f y => exact Heap.lt_size (show h.get? a = some _ from x)
  | ext φ => obtain ⟨_, ⟨_, e⟩, _⟩ := x; exact Heap.lt_size e
theorem Paired.mapP {α β : Type} {F G : α → β → Prop} : ∀ {l₁ : List α} {l₂ : List β}, Paired F l₁ l₂ → (∀ a b, F a b → G a b) → Paired G l₁ l₂
  | _, _, .nil, _ => .nil
  | _, _, .cons r t, f => .cons (f _ _ r) (Paired.mapP t f)
theorem Paired.imp' {α β : Type} {F G : α → β → Prop} (f : ∀ a b, F a b → G a b) {l₁ : List α} {l₂ : List β} (r : Paired F l₁ l₂) : Paired G l₁ l₂ := Paired.mapP r f
/-- what an object's description leans on: its own object, its own dict, the tuples -/
theorem ObjOk.stay (x : ObjOk P w H h a o) (k : ∀ b u, (b = a ∨ H b = some (.own a)) → h.get? b = some u → h'.get? b = some u)
    (ho : ∀ b, H b = some (.own a) → H' b = some (.own a)) (ht : ∀ b xs, H b = some (.tup xs) → H' b = some (.tup xs)) : ObjOk P w H' h' a o := by
  induction o with
  | lst xs => obtain ⟨z, its, n, r, e⟩ := x; exact ⟨z, its, n, r, k _ _ (.inl rfl) e⟩
  | tup xs => obtain ⟨z, its, r, ob, e, c⟩ := x; exact ⟨z, its, r, ob, k _ _ (.inl rfl) e, c⟩
  | dK kvs => obtain ⟨z, y, vs, r, ob, es, ep, e, c⟩ := x; exact ⟨z, y, vs, r, ob, es, ep, k _ _ (.inl rfl) e, c⟩
  | dT kvs =>
    obtain ⟨z, y, xs, r, ob, es, ep, e, c⟩ := x
    exact ⟨z, y, xs, Paired.mapP r fun p q z => ⟨z.1, ht _ _ z.2.1, z.2.2⟩, ob, es, ep, k _ _ (.inl rfl) e, c⟩
  | set S n => obtain ⟨ob, es, ep, t, e, c⟩ := x; exact ⟨ob, es, ep, t, k _ _ (.inl rfl) e, c⟩
  | ins C dx fs =>
    obtain ⟨d, z, ne, e, mA, ⟨od, es, ep, e2, c⟩, r⟩ := x
    exact ⟨ho _ d, z, ne, k _ _ (.inl rfl) e, mA, ⟨od, es, ep, k _ _ (.inr d) e2, c⟩, r⟩
  | own y => obtain ⟨ob, e⟩ := x; exact ⟨ob, k _ _ (.inl rfl) e⟩
  | xd fs => obtain ⟨mA, ⟨od, es, ep, e, c⟩, r⟩ := x; exact ⟨mA, ⟨od, es, ep, k _ _ (.inl rfl) e, c⟩, r⟩
  | rng lo hi => obtain ⟨t, u, v, e⟩ := x; exact ⟨t, u, v, k _ _ (.inl rfl) e⟩
  | frz ob u ih => obtain ⟨e, q⟩ := x; exact ⟨k _ _ (.inl rfl) e, ih q⟩
  | tbl ps =>
    have e : h.get? a = some { cls := .none, data := .fields ps } := x
    show h'.get? a = some { cls := .none, data := .fields ps }
    exact k a _ (.inl rfl) e
  | met f y =>
    have e : h.get? a = some (PySem.W.methodObj (.ref f) (.ref y)) := x
    show h'.get? a = some (PySem.W.methodObj (.ref f) (.ref y))
    exact k a _ (.inl rfl) e
  | ext φ => obtain ⟨p, ⟨o, e⟩, st⟩ := x; exact ⟨st _ _ p fun o q => k _ _ (.inl rfl) q, ⟨o, k _ _ (.inl rfl) e⟩, st⟩
theorem HOk.lt (x : HOk P w H h) (e : H a = some o) : a < h.objs.size := (x a o e).lt
theorem HOk.fresh (x : HOk P w H h) (e : h.objs.size ≤ a) : H a = none := by
  cases q : H a with
  | none => rfl
  | some u => exact absurd (Nat.lt_of_lt_of_le (x.lt q) e) (Nat.lt_irrefl _)
/-- every object of the heap is kept -/
theorem HOk.kept (x : HOk P w H h) (k : ∀ b u, h.get? b = some u → h'.get? b = some u) : HOk P w H h' := fun a o e =>
  (x a o e).stay (fun b u _ q => k b u q) (fun _ q => q) fun _ _ q => q
/-- a new object is laid and tracked -/
theorem HOk.laid (x : HOk P w H h) (k : ∀ b u, h.get? b = some u → h'.get? b = some u) (hp : h.objs.size ≤ a) (new : ObjOk P w (upd H a o) h' a o) : HOk P w (upd H a o) h' := fun b u e => by
  have hn := x.fresh hp
  by_cases hb : b = a
  · subst hb; rw [upd_same] at e; cases e; exact new
  · rw [upd_ne hb] at e
    exact (x b u e).stay (fun c v _ q => k c v q) (fun c q => by rw [upd_ne (ne_of_none q hn)]; exact q) fun c xs q => by rw [upd_ne (ne_of_none q hn)]; exact q
end

/-- what may be read as u: it is u, or a known u -/
def Rd (H : Hp) (a : Addr) (u : HO) : Prop := H a = some u ∨ ∃ o, H a = some (.frz o u)
theorem Rd.of {H : Hp} {a : Addr} {u : HO} (h : H a = some u) : Rd H a u := .inl h
theorem Rd.ok {P : Program} {w : World} {H : Hp} {h : Heap} {a : Addr} {u : HO} (r : Rd H a u) (x : HOk P w H h) : ObjOk P w H h a u := by
  rcases r with r | ⟨o, r⟩
  · exact x a u r
  · obtain ⟨_, q⟩ := x a _ r
    exact q
/-- what may be written -/
def Mut : Option HO → Prop
  | some (.lst _) => True
  | some (.dK _) => True
  | some (.dT _) => True
  | some (.set _ _) => True
  | some (.ins _ _ _) => True
  | some (.ext _) => True
  | _ => False
section
variable {P : Program} {w : World} {H : Hp} {h h' : Heap} {x e : Addr} {o' : HO}
/-- the object at e is changed: x itself, or the dict of the instance x -/
theorem HOk.write (ok : HOk P w H h) (mu : Mut (H x)) (he : e = x ∨ H e = some (.own x)) (k : ∀ b u, b ≠ e → h.get? b = some u → h'.get? b = some u) (heo : ∃ u, h'.get? e = some u)
    (new : ObjOk P w (upd H x o') h' x o') : HOk P w (upd H x o') h' := fun b u q => by
  have nown : ∀ c y, H c = some (.own y) → c ≠ x := fun c y r z => by subst z; rw [r] at mu; exact mu
  have ntup : ∀ c xs, H c = some (.tup xs) → c ≠ x := fun c xs r z => by subst z; rw [r] at mu; exact mu
  by_cases hb : b = x
  · subst hb; rw [upd_same] at q; cases q; exact new
  · rw [upd_ne hb] at q
    by_cases hbe : b = e
    · have q' : H b = some (.own x) := by
        rcases he with z | z
        · exact absurd (hbe.trans z) hb
        · rw [hbe]; exact z
      rw [q] at q'; cases q'
      obtain ⟨v, hv⟩ := heo
      exact ⟨v, by rw [hbe]; exact hv⟩
    · refine (ok b u q).stay (fun c v hc r => k c v ?_ r) (fun c r => by rw [upd_ne (nown c b r)]; exact r) fun c xs r => by rw [upd_ne (ntup c xs r)]; exact r
      rcases hc with rfl | hc
      · exact hbe
      · rintro rfl
        rcases he with z | z
        · exact nown c b hc z
        · rw [hc] at z; cases z; exact hb rfl
end

/-! ### kept unless tracked; of the frames at fs (the callers') the slots may change (an exception that passes writes there); of the records at ex (iterators) nothing is said -/
structure Un (fs ex : List Addr) (H H' : Hp) (h h' : Heap) : Prop where
  keep : ∀ b o, h.get? b = some o → H b = none → b ∉ fs → b ∉ ex → h'.get? b = some o
  slot : ∀ b o, h.get? b = some o → H b = none → b ∈ fs → b ∉ ex → ∃ sl, h'.get? b = some { o with slots := sl }
  free : ∀ b o, h.get? b = some o → H b = none → b ∉ ex → H' b = none
  there : ∀ b o, h.get? b = some o → b ∉ ex → ∃ o', h'.get? b = some o'
  tups : ∀ b xs, H b = some (.tup xs) → H' b = some (.tup xs)
  frzs : ∀ b o u, H b = some (.frz o u) → H' b = some (.frz o u)
  tbls : ∀ b ps, H b = some (.tbl ps) → ∃ more, H' b = some (.tbl (ps ++ more))
section
variable {fs fs' ex ex' : List Addr} {H H1 H2 : Hp} {h h1 h2 h' : Heap} {a x e : Addr} {o : HO}
theorem Un.any (u : Un fs ex H H1 h h1) {b : Addr} {ob : Obj} (q : h.get? b = some ob) (n : H b = none) (hx : b ∉ ex) : ∃ sl, h1.get? b = some { ob with slots := sl } := by
  by_cases hb : b ∈ fs
  · exact u.slot b ob q n hb hx
  · exact ⟨ob.slots, u.keep b ob q n hb hx⟩
theorem Un.trans (a : Un fs ex H H1 h h1) (b : Un fs ex H1 H2 h1 h2) : Un fs ex H H2 h h2 where
  keep := fun c ob q n hc hx => b.keep c ob (a.keep c ob q n hc hx) (a.free c ob q n hx) hc hx
  slot := fun c ob q n hc hx => by
    obtain ⟨sl, e1⟩ := a.slot c ob q n hc hx
    obtain ⟨sl', e2⟩ := b.slot c _ e1 (a.free c ob q n hx) hc hx
    exact ⟨sl', e2⟩
  free := fun c ob q n hx => by
    obtain ⟨o', e1⟩ := a.there c ob q hx
    exact b.free c o' e1 (a.free c ob q n hx) hx
  there := fun c ob q hx => by
    obtain ⟨o', e1⟩ := a.there c ob q hx
    exact b.there c o' e1 hx
  tups := fun c xs q => b.tups c xs (a.tups c xs q)
  frzs := fun c ob xs q => b.frzs c ob xs (a.frzs c ob xs q)
  tbls := fun c ps q => by
    obtain ⟨m1, e1⟩ := a.tbls c ps q
    obtain ⟨m2, e2⟩ := b.tbls c _ e1
    exact ⟨m1 ++ m2, by rw [e2, Array.append_assoc]⟩
theorem Un.kept (k : ∀ b u, h.get? b = some u → h'.get? b = some u) : Un fs ex H H h h' :=
  ⟨fun b ob q _ _ _ => k b ob q, fun b ob q _ _ _ => ⟨ob.slots, k b ob q⟩, fun _ _ _ n _ => n, fun b ob q _ => ⟨ob, k b ob q⟩, fun _ _ q => q, fun _ _ _ q => q, fun _ ps q => ⟨#[], by rw [q]; simp⟩⟩
theorem Un.refl : Un fs ex H H h h := Un.kept fun _ _ q => q
theorem Un.laid (k : ∀ b u, h.get? b = some u → h'.get? b = some u) (hp : h.objs.size ≤ a) (hn : H a = none) : Un fs ex H (upd H a o) h h' where
  keep := fun b u q _ _ _ => k b u q
  slot := fun b u q _ _ _ => ⟨u.slots, k b u q⟩
  free := fun b u q n _ => by rw [upd_ne (Nat.ne_of_lt (Nat.lt_of_lt_of_le (Heap.lt_size q) hp))]; exact n
  there := fun b u q _ => ⟨u, k b u q⟩
  tups := fun b xs q => by rw [upd_ne (ne_of_none q hn)]; exact q
  frzs := fun b u xs q => by rw [upd_ne (ne_of_none q hn)]; exact q
  tbls := fun b ps q => ⟨#[], by rw [upd_ne (ne_of_none q hn), q]; simp⟩
theorem Un.write (mu : Mut (H x)) (he : e = x ∨ H e = some (.own x)) (k : ∀ b u, b ≠ e → h.get? b = some u → h'.get? b = some u) (heo : ∃ u, h'.get? e = some u) : Un fs ex H (upd H x o) h h' := by
  have hx : ∀ b, H b = none → b ≠ x := fun b n z => by subst z; rw [n] at mu; exact mu
  have hb : ∀ b, H b = none → b ≠ e := fun b n z => by
    subst z
    rcases he with r | r
    · exact hx b n r
    · rw [n] at r; cases r
  have hm : ∀ b u, H b = some u → ¬ Mut (some u) → b ≠ x := fun b u q nm z => by subst z; rw [q] at mu; exact nm mu
  refine ⟨fun b u q n _ _ => k b u (hb b n) q, fun b u q n _ _ => ⟨u.slots, k b u (hb b n) q⟩, fun b u q n _ => by rw [upd_ne (hx b n)]; exact n, fun b u q _ => ?_,
    fun b xs q => by rw [upd_ne (hm b _ q fun z => z)]; exact q, fun b u xs q => by rw [upd_ne (hm b _ q fun z => z)]; exact q, fun b ps q => ⟨#[], by rw [upd_ne (hm b _ q fun z => z), q]; simp⟩⟩
  by_cases hbe : b = e
  · subst hbe; exact heo
  · exact ⟨u, k b u hbe q⟩
theorem Un.mono (u : Un fs ex H H1 h h1) (hs : ∀ b ∈ fs, b ∈ fs') (hx : ∀ b ∈ ex, b ∈ ex') : Un fs' ex' H H1 h h1 :=
  ⟨fun b ob q n hb he => u.keep b ob q n (fun z => hb (hs b z)) fun z => he (hx b z), fun _ _ q n _ he => u.any q n fun z => he (hx _ z), fun b ob q n he => u.free b ob q n fun z => he (hx b z), fun b ob q he => u.there b ob q fun z => he (hx b z), u.tups, u.frzs, u.tbls⟩
end

/-! ### the heap without what is tracked -/
def trk (h : Heap) (H : Hp) : List Addr := (List.range h.objs.size).filter fun a => (H a).isSome
def hidT (h : Heap) (H : Hp) : Heap := PySem.W.hideAll h (trk h H)
theorem hidT_size (h : Heap) (H : Hp) : (hidT h H).objs.size = h.objs.size := PySem.W.hideAll_size _ _
theorem hidT_get {h : Heap} {H : Hp} {b : Addr} {o : Obj} (e : h.get? b = some o) (n : H b = none) : (hidT h H).get? b = some o :=
  PySem.W.hideAll_get _ e fun hm => by
    have q : (H b).isSome = true := (List.mem_filter.mp hm).2
    rw [n] at q; simp at q
theorem of_hidT {h : Heap} {H : Hp} {b : Addr} {o : Obj} (e : (hidT h H).get? b = some o) : h.get? b = some o ∧ H b = none := by
  have e' : h.get? b = some o := PySem.W.of_hideAll (trk h H) e
  refine ⟨e', ?_⟩
  cases q : H b with
  | none => rfl
  | some x =>
    have hm : b ∈ trk h H := List.mem_filter.mpr ⟨List.mem_range.mpr (Heap.lt_size e'), by simp [q]⟩
    have z : (hidT h H).get? b = none := PySem.W.hideAll_none (trk h H) hm
    rw [z] at e; cases e

/-! ### OpenK's ledger, filled with every new object but one -/
def allNews (g h : Heap) (L : Addr) : List (Addr × Obj) := (List.range h.objs.size).filterMap fun a => if a = L ∨ (g.get? a).isSome = true then none else (h.get? a).map fun o => (a, o)
theorem mem_allNews {g h : Heap} {L a : Addr} {o : Obj} (h1 : a ≠ L) (h2 : g.get? a = none) (h3 : h.get? a = some o) : (a, o) ∈ allNews g h L :=
  List.mem_filterMap.mpr ⟨a, List.mem_range.mpr (Heap.lt_size h3), by simp [h1, h2, h3]⟩
theorem of_mem_allNews {g h : Heap} {L : Addr} {p : Addr × Obj} (hp : p ∈ allNews g h L) : p.1 ≠ L ∧ g.get? p.1 = none ∧ h.get? p.1 = some p.2 := by
  obtain ⟨b, _, e⟩ := List.mem_filterMap.mp hp
  split at e
  · cases e
  · rename_i hn
    cases q : h.get? b with
    | none => rw [q] at e; simp at e
    | some u =>
      rw [q] at e
      simp only [Option.map_some, Option.some.injEq] at e
      subst e
      refine ⟨fun z => hn (.inl z), ?_, q⟩
      show g.get? b = none
      cases r : g.get? b with
      | none => rfl
      | some v => exact (hn (.inr (by simp [r]))).elim
def rest (g h : Heap) (L d : Addr) : List (Addr × Obj) := (allNews g h L).filter fun p => decide (p.1 ≠ d)
theorem rest_ne {g h : Heap} {L d : Addr} : ∀ p ∈ rest g h L d, p.1 ≠ d := fun p hp => of_decide_eq_true (List.mem_filter.mp hp).2
theorem mem_rest {g h : Heap} {L d a : Addr} {o : Obj} (h1 : a ≠ L) (h2 : g.get? a = none) (h3 : h.get? a = some o) (h4 : a ≠ d) : (a, o) ∈ rest g h L d :=
  List.mem_filter.mpr ⟨mem_allNews h1 h2 h3, decide_eq_true h4⟩
theorem news_all {g h : Heap} {L : Addr} : News g L h (allNews g h L) := fun p hp => let ⟨a, b, c⟩ := of_mem_allNews hp; ⟨c, a, b⟩
theorem news_at {g h : Heap} {L d : Addr} {o : Obj} (h1 : d ≠ L) (h2 : g.get? d = none) (h3 : h.get? d = some o) : News g L h ((d, o) :: rest g h L d) := fun p hp => by
  rcases List.mem_cons.mp hp with rfl | hp
  · exact ⟨h3, h1, h2⟩
  · exact news_all p (List.mem_filter.mp hp).1
/-- behind a rule that changed d alone: all else but the frame is kept -/
theorem kept_of_news {g h h' : Heap} {L d : Addr} {m : Str → Option Value} (k : ∀ b o, g.get? b = some o → h.get? b = some o) (F : Fr g L h' m) (N : News g L h' (rest g h L d)) :
    ∀ b o, b ≠ L → b ≠ d → h.get? b = some o → h'.get? b = some o := fun b o h1 h2 e => by
  cases q : g.get? b with
  | some u =>
    have := k b u q
    rw [e] at this; cases this
    exact F.keep b _ q
  | none => exact (N (b, o) (mem_rest h1 q e h2)).1
end L2

namespace L2
open PySem PySem.Spec PyProof.Rows

/-- the module's facts, over the base: the heap at the law's entry without what is tracked there -/
structure Mod (K : PySem.W.Frag) (mg : Str → Option Value) (base : Heap) : Prop where
  kin : K.In base
  glob : base.Ns mainGlobals mg
  blt : ∃ mb, base.Ns builtinsNs mb ∧ ∀ x : Str, x ≠ "__name__" → mb x = bootBuiltins x
  nolimit : base.NoLimit

/-- the context: a def's body (or a comprehension's block) running. base: fixed through the whole law; s₀, H₀: the entry; outer: the frames whose slots others may change (a def's callers); stack: all frames that run;
   ex: iterators that were made ahead of the entry and are walked here (a comprehension's); fn: the names whose cells were made at the entry (a def: all; a comprehension's block: its own); calm: not within an except suite; pn: pins that every state bears; xe: what is wanted of an exception that leaves the code -/
structure Cx where
  prog : Program
  w : World
  K : PySem.W.Frag
  mg : Str → Option Value
  base : Heap
  A : Around
  N : List Str
  s₀ : Shared
  H₀ : Hp
  env : Env
  outer : List Env
  stack : List Env
  ex : List Addr
  fn : Str → Bool
  calm : Bool
  pn : List (Addr × Obj)
  xe : Value → Shared → Prop
/-- the callers' frames -/
def frs (l : List Env) : List Addr := l.filterMap (·.frame)
abbrev Cx.fs (X : Cx) : List Addr := frs X.outer

def Vis (sc : Scope) (x : Str) : Prop := sc.names.lookup x = some .local ∨ sc.names.lookup x = some .cell ∨ sc.names.lookup x = some .free
def Loc (sc : Scope) (x : Str) : Prop := sc.names.lookup x = some .local ∨ sc.names.lookup x = some .cell
def Look (env : Env) (h : Heap) (m : Str → Option Value) (x : Str) (u : Value) : Prop :=
  (env.kindOf x = some .local ∧ m x = some u) ∨ ((env.kindOf x = some .cell ∨ env.kindOf x = some .free) ∧ ∃ c, env.cells.lookup x = some c ∧ h.IsCell c (some u))

structure Cx.Ok (X : Cx) : Prop where
  mod : Mod X.K X.mg X.base
  kind : X.env.scope.kind = .function
  glob : X.env.globals = mainGlobals
  blt : X.env.builtins = builtinsNs
  above : X.s₀.heap.objs.size ≤ X.env.locals
  inj : ∀ x y c, X.env.cells.lookup x = some c → X.env.cells.lookup y = some c → x = y
  has : ∀ x, (X.env.kindOf x = some .cell ∨ X.env.kindOf x = some .free) → ∃ c, X.env.cells.lookup x = some c
  cab : ∀ x c, X.fn x = true → X.env.cells.lookup x = some c → X.s₀.heap.objs.size ≤ c
  hd : X.calm = true → X.A.handled = none
  frames : X.A.frames = some X.stack
  stk : X.stack = X.outer ∨ (X.stack = X.env :: X.outer ∧ X.env.frame = some X.env.locals)
  exf : ∀ b ∈ X.ex, b ≠ X.env.locals ∧ ∀ x c, X.env.cells.lookup x = some c → c ≠ b
  bs : ∀ b o, X.base.get? b = some o → X.s₀.heap.get? b = some o ∧ X.H₀ b = none
  bsz : X.base.objs.size ≤ X.s₀.heap.objs.size
  noex : ∀ b o, X.base.get? b = some o → b ∉ X.ex
  exfs : ∀ b ∈ X.ex, b ∉ X.fs
  funs : X.s₀.heap.FunFrames X.base X.outer
  frf : ∀ b ∈ X.fs, X.H₀ b = none

structure Inv (X : Cx) (pins : List (Addr × Obj)) (σ : List (Option V)) (H : Hp) (s : Shared) : Prop where
  ok : X.Ok
  os : s.os = X.s₀.os
  bare : AllBare s.gens
  base : Un X.fs X.ex X.H₀ H X.s₀.heap s.heap
  loc : ∃ m, s.heap.Ns X.env.locals m ∧ ∀ (i : Nat) (x : Str) (v : V), X.N[i]? = some x → σ[i]? = some (some v) → Vis X.env.scope x → ∃ u, RelV v u ∧ Look X.env s.heap m x u
  cell : ∀ x c, X.env.cells.lookup x = some c → ∃ v, s.heap.IsCell c v
  free : H X.env.locals = none
  freeC : ∀ x c, X.env.cells.lookup x = some c → H c = none
  pin : ∀ p ∈ X.pn ++ pins, s.heap.get? p.1 = some p.2 ∧ H p.1 = none ∧ p.1 ≠ X.env.locals ∧ p.1 ∉ X.fs ∧ ∀ v, p.2.data ≠ .cell v
  hok : HOk X.prog X.w H s.heap
  len : σ.length = X.N.length

section
variable {X : Cx} {pins : List (Addr × Obj)} {σ : List (Option V)} {H H' : Hp} {s : Shared} {h' : Heap}

theorem Cx.Ok.nofr (ok : X.Ok) {b : Addr} {o : Obj} (e : X.base.get? b = some o) : b ∉ X.fs := fun hb => by
  have := (ok.funs.mem hb).1
  rw [e] at this; cases this
theorem Inv.bs (I : Inv X pins σ H s) : ∀ b o, X.base.get? b = some o → s.heap.get? b = some o ∧ H b = none := fun b o e =>
  ⟨I.base.keep b o (I.ok.bs b o e).1 (I.ok.bs b o e).2 (I.ok.nofr e) (I.ok.noex b o e), I.base.free b o (I.ok.bs b o e).1 (I.ok.bs b o e).2 (I.ok.noex b o e)⟩
theorem Inv.bk (I : Inv X pins σ H s) : ∀ b o, X.base.get? b = some o → s.heap.get? b = some o := fun b o e => (I.bs b o e).1
theorem Inv.mod (I : Inv X pins σ H s) : Mod X.K X.mg X.base := I.ok.mod
theorem Inv.kIn (I : Inv X pins σ H s) : X.K.In s.heap := I.ok.mod.kin.keeps I.bk
theorem Inv.nolimit (I : Inv X pins σ H s) : s.heap.NoLimit := I.ok.mod.nolimit.keeps I.bk
/-- the frame over the base: for OpenK's rules (K.In X.base is I.mod.kin) -/
theorem Inv.fr (I : Inv X pins σ H s) : ∃ m, Fr X.base X.env.locals s.heap m :=
  let ⟨m, hn, _⟩ := I.loc
  ⟨m, hn, I.bk, Nat.le_trans I.ok.bsz I.ok.above⟩
theorem Inv.lt (I : Inv X pins σ H s) : X.env.locals < s.heap.objs.size := let ⟨_, hn, _⟩ := I.loc; hn.lt
theorem Inv.sz (I : Inv X pins σ H s) : X.s₀.heap.objs.size ≤ s.heap.objs.size := Nat.le_trans I.ok.above (Nat.le_of_lt I.lt)
theorem Inv.nofs (I : Inv X pins σ H s) {a : Addr} (h : s.heap.objs.size ≤ a) : a ∉ X.fs := fun hb => by
  obtain ⟨_, o, ho, _⟩ := I.ok.funs.mem hb
  exact absurd (Nat.lt_of_lt_of_le (Heap.lt_size ho) (Nat.le_trans I.sz h)) (Nat.lt_irrefl _)
theorem Inv.cne (I : Inv X pins σ H s) : ∀ x c, X.env.cells.lookup x = some c → c ≠ X.env.locals := fun x c e z => by
  obtain ⟨v, o, ho, hd⟩ := I.cell x c e
  obtain ⟨m, ⟨o', es, ep, ho', hd', _⟩, _⟩ := I.loc
  rw [z, ho'] at ho; cases ho; rw [hd'] at hd; cases hd
theorem Inv.funs (I : Inv X pins σ H s) : s.heap.FunFrames X.base X.outer := by
  have all : ∀ (l : List Env), (∀ b ∈ frs l, b ∈ X.fs) → X.s₀.heap.FunFrames X.base l → s.heap.FunFrames X.base l := by
    intro l
    induction l with
    | nil => intro _ _; trivial
    | cons env r ih =>
      intro hs hl
      obtain ⟨hk, ⟨L, o, hf, hn, ho, hd⟩, hr⟩ := hl
      have hL : L ∈ X.fs := hs L (by unfold frs; rw [List.filterMap_cons, hf]; exact List.mem_cons_self)
      obtain ⟨sl, e⟩ := I.base.slot L o ho (I.ok.frf L hL) hL fun z => I.ok.exfs L z hL
      exact ⟨hk, ⟨L, _, hf, hn, e, hd⟩, ih (fun b hb => hs b (by unfold frs; rw [List.filterMap_cons, hf]; exact List.mem_cons_of_mem _ hb)) hr⟩
  exact all X.outer (fun _ hb => hb) I.ok.funs

/-- the frames that run, for a call -/
theorem Inv.stack (I : Inv X pins σ H s) : s.heap.FunFrames X.base X.stack := by
  rcases I.ok.stk with e | ⟨e, hf⟩
  · rw [e]; exact I.funs
  · rw [e]
    obtain ⟨m, hn, _⟩ := I.loc
    refine .cons (by rw [I.ok.kind]; decide) hf hn ?_ I.funs
    exact Heap.get?_none_of_le (Nat.le_trans I.ok.bsz I.ok.above)
theorem Inv.stkSub (I : Inv X pins σ H s) : ∀ b ∈ frs X.stack, b ∈ X.env.locals :: X.fs := fun b hb => by
  rcases I.ok.stk with e | ⟨e, hf⟩
  · rw [e] at hb; exact List.mem_cons_of_mem _ hb
  · rw [e] at hb
    unfold frs at hb
    rw [List.filterMap_cons, hf] at hb
    exact hb
theorem Inv.stkFree (I : Inv X pins σ H s) : ∀ b ∈ frs X.stack, H b = none := fun b hb => by
  rcases List.mem_cons.mp (I.stkSub b hb) with e | hb
  · rw [e]; exact I.free
  · obtain ⟨_, o, ho, _⟩ := I.ok.funs.mem hb
    exact I.base.free b o ho (I.ok.frf b hb) fun z => I.ok.exfs b z hb

/-- THE STEP: the untracked objects but the frame and the records at ch are kept (the callers' frames up to slots), the frame's map is kept, the new abstract heap is held -/
theorem Inv.step {g' : Array GenState} {t' : Nat} {d' : Drawn} {ch : List Addr} (I : Inv X pins σ H s)
    (hch : ∀ b ∈ ch, (b ∈ X.ex ∨ X.s₀.heap.objs.size ≤ b) ∧ b ≠ X.env.locals ∧ (∀ x c, X.env.cells.lookup x = some c → c ≠ b) ∧ ∀ p ∈ X.pn ++ pins, p.1 ≠ b)
    (keep : ∀ b o, b ≠ X.env.locals → b ∉ X.fs → b ∉ ch → s.heap.get? b = some o → H b = none → h'.get? b = some o)
    (slot : ∀ b o, b ≠ X.env.locals → b ∈ X.fs → b ∉ ch → s.heap.get? b = some o → H b = none → ∃ sl, h'.get? b = some { o with slots := sl }) (free : ∀ b o, b ∉ ch → s.heap.get? b = some o → H b = none → H' b = none)
    (there : ∀ b o, b ∉ ch → s.heap.get? b = some o → ∃ o', h'.get? b = some o')
    (tups : ∀ b xs, H b = some (.tup xs) → H' b = some (.tup xs)) (frzs : ∀ b o u, H b = some (.frz o u) → H' b = some (.frz o u)) (tbls : ∀ b ps, H b = some (.tbl ps) → ∃ more, H' b = some (.tbl (ps ++ more)))
    (ns : ∀ m, s.heap.Ns X.env.locals m → h'.Ns X.env.locals m) (hok : HOk X.prog X.w H' h') (hg : AllBare g') :
    Inv X pins σ H' { s with heap := h', gens := g', drawn := d', toks := t' } := by
  have neL : ∀ b o, X.s₀.heap.get? b = some o → b ≠ X.env.locals := fun b o e => Nat.ne_of_lt (Nat.lt_of_lt_of_le (Heap.lt_size e) I.ok.above)
  have neC : ∀ b o, X.s₀.heap.get? b = some o → b ∉ X.ex → b ∉ ch := fun b o e hx hb => by
    rcases (hch b hb).1 with z | z
    · exact hx z
    · exact absurd (Nat.lt_of_lt_of_le (Heap.lt_size e) z) (Nat.lt_irrefl _)
  have cellK : ∀ x c, X.env.cells.lookup x = some c → ∀ v, s.heap.IsCell c v → h'.IsCell c v := fun x c e v ⟨o, ho, hd⟩ => by
    have nch : c ∉ ch := fun z => (hch c z).2.2.1 x c e rfl
    by_cases hc : c ∈ X.fs
    · obtain ⟨sl, q⟩ := slot c o (I.cne x c e) hc nch ho (I.freeC x c e)
      exact ⟨_, q, hd⟩
    · exact ⟨o, keep c o (I.cne x c e) hc nch ho (I.freeC x c e), hd⟩
  refine ⟨I.ok, I.os, hg, ⟨fun b o e n hb hx => ?_, fun b o e n hb hx => ?_, fun b o e n hx => ?_, fun b o e hx => ?_, fun b xs e => tups b xs (I.base.tups b xs e), fun b o xs e => frzs b o xs (I.base.frzs b o xs e), fun b ps e => ?_⟩, ?_, fun x c e => ?_, ?_, fun x c e => ?_, fun p hp => ?_, hok, I.len⟩
  · exact keep b o (neL b o e) hb (neC b o e hx) (I.base.keep b o e n hb hx) (I.base.free b o e n hx)
  · obtain ⟨sl, e1⟩ := I.base.slot b o e n hb hx
    obtain ⟨sl', e2⟩ := slot b _ (neL b o e) hb (neC b o e hx) e1 (I.base.free b o e n hx)
    exact ⟨sl', e2⟩
  · obtain ⟨o', e1⟩ := I.base.there b o e hx
    exact free b o' (neC b o e hx) e1 (I.base.free b o e n hx)
  · obtain ⟨o', e1⟩ := I.base.there b o e hx
    exact there b o' (neC b o e hx) e1
  · obtain ⟨m1, e1⟩ := I.base.tbls b ps e
    obtain ⟨m2, e2⟩ := tbls b _ e1
    exact ⟨m1 ++ m2, by rw [e2, Array.append_assoc]⟩
  · obtain ⟨m, hn, hl⟩ := I.loc
    refine ⟨m, ns m hn, fun i x v e1 e2 e3 => ?_⟩
    obtain ⟨u, r, l⟩ := hl i x v e1 e2 e3
    refine ⟨u, r, ?_⟩
    rcases l with l | ⟨k, c, e, z⟩
    · exact .inl l
    · exact .inr ⟨k, c, e, cellK x c e _ z⟩
  · obtain ⟨v, z⟩ := I.cell x c e
    exact ⟨v, cellK x c e v z⟩
  · obtain ⟨m, ⟨o, _, _, ho, _⟩, _⟩ := I.loc
    exact free _ o (fun z => (hch _ z).2.1 rfl) ho I.free
  · obtain ⟨v, o, ho, hd⟩ := I.cell x c e
    exact free c o (fun z => (hch c z).2.2.1 x c e rfl) ho (I.freeC x c e)
  · obtain ⟨e, n, ne, nf, d⟩ := I.pin p hp
    have nch : p.1 ∉ ch := fun z => (hch p.1 z).2.2.2 p hp rfl
    exact ⟨keep p.1 p.2 ne nf nch e n, free p.1 p.2 nch e n, ne, nf, d⟩
/-- .. where the frame's own object is kept too -/
theorem Inv.un {t' : Nat} (I : Inv X pins σ H s) (u : Un X.fs [] H H' s.heap h') (hok : HOk X.prog X.w H' h') : Inv X pins σ H' { s with heap := h', toks := t' } := by
  obtain ⟨m, ⟨o, es, ep, ho, r⟩, _⟩ := id I.loc
  obtain ⟨sl, hL⟩ := u.any ho I.free (by simp)
  exact I.step (g' := s.gens) (d' := s.drawn) (ch := []) (fun _ z => nomatch z) (fun b o _ hb _ e n => u.keep b o e n hb (by simp)) (fun b o _ hb _ e n => u.slot b o e n hb (by simp)) (fun b o _ e n => u.free b o e n (by simp)) (fun b o _ e => u.there b o e (by simp)) u.tups u.frzs u.tbls (fun m' hm => by
    obtain ⟨o', es', ep', ho', r'⟩ := hm
    rw [ho] at ho'; cases ho'
    exact ⟨_, es', ep', hL, r'⟩) hok I.bare
/-- behind a call (or a comprehension's block): the slots of this frame may have changed too, the records at ch may have turned -/
theorem Inv.call {g' : Array GenState} {t' : Nat} {d' : Drawn} {ch : List Addr} (I : Inv X pins σ H s) (u : Un (frs X.stack) ch H H' s.heap h') (hok : HOk X.prog X.w H' h') (hg : AllBare g')
    (hch : ∀ b ∈ ch, (b ∈ X.ex ∨ X.s₀.heap.objs.size ≤ b) ∧ b ≠ X.env.locals ∧ (∀ x c, X.env.cells.lookup x = some c → c ≠ b) ∧ ∀ p ∈ X.pn ++ pins, p.1 ≠ b) :
    Inv X pins σ H' { s with heap := h', gens := g', drawn := d', toks := t' } := by
  obtain ⟨m, ⟨o, es, ep, ho, r⟩, _⟩ := id I.loc
  obtain ⟨sl, hL⟩ := u.any ho I.free fun z => (hch _ z).2.1 rfl
  exact I.step (ch := ch) hch (fun b o hL hb hc e n => u.keep b o e n (fun z => (List.mem_cons.mp (I.stkSub b z)).elim hL hb) hc) (fun b o _ _ hc e n => u.any e n hc) (fun b o hc e n => u.free b o e n hc) (fun b o hc e => u.there b o e hc) u.tups u.frzs u.tbls (fun m' hm => by
    obtain ⟨o', es', ep', ho', r'⟩ := hm
    rw [ho] at ho'; cases ho'
    exact ⟨_, es', ep', hL, r'⟩) hok hg
/-- an untracked record of ours (an iterator) has turned -/
theorem Inv.turned {t' : Nat} {it : Addr} (I : Inv X pins σ H s) (k : ∀ b o, b ≠ it → s.heap.get? b = some o → h'.get? b = some o) (hn : H it = none) (hL : it ≠ X.env.locals)
    (h1 : it ∈ X.ex ∨ X.s₀.heap.objs.size ≤ it) (h2 : ∀ x c, X.env.cells.lookup x = some c → c ≠ it) (h3 : ∀ p ∈ X.pn ++ pins, p.1 ≠ it) : Inv X pins σ H { s with heap := h', toks := t' } := by
  have nit : ∀ b u, H b = some u → b ≠ it := fun b u e z => by rw [z, hn] at e; cases e
  refine I.step (g' := s.gens) (d' := s.drawn) (ch := [it]) (fun b hb => ?_) (fun b o _ _ hc e _ => k b o (fun z => hc (by simp [z])) e) (fun b o _ _ hc e _ => ⟨o.slots, k b o (fun z => hc (by simp [z])) e⟩) (fun _ _ _ _ n => n)
    (fun b o hc e => ⟨o, k b o (fun z => hc (by simp [z])) e⟩) (fun _ _ e => e) (fun _ _ _ e => e) (fun b ps e => ⟨#[], by rw [e]; simp⟩) (fun m hm => ?_) (fun b u e => ?_) I.bare
  · have e : b = it := by simpa using hb
    subst e
    exact ⟨h1, hL, h2, h3⟩
  · obtain ⟨o, es, ep, ho, r⟩ := hm
    exact ⟨o, es, ep, k _ o (Ne.symm hL) ho, r⟩
  · refine (I.hok b u e).stay (fun c v hc q => k c v ?_ q) (fun _ q => q) fun _ _ q => q
    rcases hc with z | z
    · rw [z]; exact nit b u e
    · exact nit c _ z
theorem Inv.tok (I : Inv X pins σ H s) (t : Nat) : Inv X pins σ H { s with toks := t } := I.un (h' := s.heap) (t' := t) Un.refl I.hok
/-- all objects kept -/
theorem Inv.kept {t' : Nat} (I : Inv X pins σ H s) (k : ∀ b u, s.heap.get? b = some u → h'.get? b = some u) : Inv X pins σ H { s with heap := h', toks := t' } := I.un (Un.kept k) (I.hok.kept k)
/-- a new object laid and tracked -/
theorem Inv.laid {a : Addr} {o : HO} {t' : Nat} (I : Inv X pins σ H s) (k : ∀ b u, s.heap.get? b = some u → h'.get? b = some u) (hp : s.heap.objs.size ≤ a) (new : ObjOk X.prog X.w (upd H a o) h' a o) :
    Inv X pins σ (upd H a o) { s with heap := h', toks := t' } := I.un (Un.laid k hp (I.hok.fresh hp)) (I.hok.laid k hp new)
/-- an object written -/
theorem Inv.write {x e : Addr} {o : HO} {t' : Nat} (I : Inv X pins σ H s) (mu : Mut (H x)) (he : e = x ∨ H e = some (.own x)) (k : ∀ b u, b ≠ e → s.heap.get? b = some u → h'.get? b = some u) (heo : ∃ u, h'.get? e = some u)
    (new : ObjOk X.prog X.w (upd H x o) h' x o) : Inv X pins σ (upd H x o) { s with heap := h', toks := t' } := I.un (Un.write mu he k heo) (I.hok.write mu he k heo new)
/-- forgetting slots, pins -/
theorem Inv.weak {σ' : List (Option V)} (I : Inv X pins σ H s) (hl : σ'.length = σ.length) (w : ∀ (i : Nat) v, σ'[i]? = some (some v) → σ[i]? = some (some v)) : Inv X pins σ' H s :=
  ⟨I.ok, I.os, I.bare, I.base, let ⟨m, hn, hl'⟩ := I.loc; ⟨m, hn, fun i x v e1 e2 e3 => hl' i x v e1 (w i v e2) e3⟩, I.cell, I.free, I.freeC, I.pin, I.hok, hl.trans I.len⟩
theorem Inv.pins_of {pins' : List (Addr × Obj)} (I : Inv X pins σ H s) (h : ∀ p ∈ pins', s.heap.get? p.1 = some p.2 ∧ H p.1 = none ∧ p.1 ≠ X.env.locals ∧ p.1 ∉ X.fs ∧ ∀ v, p.2.data ≠ .cell v) : Inv X pins' σ H s :=
  ⟨I.ok, I.os, I.bare, I.base, I.loc, I.cell, I.free, I.freeC, fun p hp => (List.mem_append.mp hp).elim (fun z => I.pin p (List.mem_append_left _ z)) (h p), I.hok, I.len⟩

theorem nodup_ix {N : List Str} (hN : N.Nodup) {i j : Nat} {x : Str} (a : N[i]? = some x) (b : N[j]? = some x) : i = j := by
  obtain ⟨h1, e1⟩ := List.getElem?_eq_some_iff.mp a
  obtain ⟨h2, e2⟩ := List.getElem?_eq_some_iff.mp b
  exact (List.getElem_inj hN).mp (e1.trans e2.symm)

/-- a name is stored; what changed -/
theorem store_ok2 {M : Model} {A : Around} {E : Value → Shared → Prop} {i : Nat} {x : Str} {v : V} {u : Value} {Q : Unit → Shared → Prop} (I : Inv X pins σ H s) (hN : X.N.Nodup) (hi : X.N[i]? = some x) (hx : Loc X.env.scope x) (r : RelV v u)
    (h : ∀ s', Inv X pins (σ.set i (some v)) H s' → (∃ a, Heap.SameBut a s.heap s'.heap ∧ (a = X.env.locals ∨ X.env.cells.lookup x = some a)) → Q () s') (hf : X.fn x = true ∨ X.env.scope.names.lookup x = some .local := by first | exact .inl rfl | exact .inr rfl | assumption) : wpAny M A (storeName X.env x u) Q E s := by
  obtain ⟨m, hn, hl⟩ := id I.loc
  have hcls : (X.env.scope.kind == .class || (X.env.scope.kind == .module && X.env.locals != X.env.globals)) = false := by rw [I.ok.kind]; rfl
  have hiσ : i < σ.length := by rw [I.len]; exact (List.getElem?_eq_some_iff.mp hi).1
  have cne := I.cne
  have tracked : ∀ {a : Addr} {h' : Heap}, (∃ o, s.heap.get? a = some o ∧ H a = none) → Heap.SameBut a s.heap h' → HOk X.prog X.w H h' := fun {a h'} ha hs b ob e => by
    obtain ⟨_, _, hfree⟩ := ha
    refine (I.hok b ob e).stay (fun c w' hc q => (hs.2 c ?_).trans q) (fun _ q => q) fun _ _ q => q
    rintro rfl
    rcases hc with rfl | hc
    · rw [hfree] at e; cases e
    · rw [hfree] at hc; cases hc
  rcases hx with hk | hk
  · refine wpAny_storeName_local hk hn (fun h' hn' hs => ?_) hcls
    obtain ⟨oL, _, _, hoL, _⟩ := id hn
    refine h _ ⟨I.ok, I.os, I.bare, ⟨fun b o e n hb hx => ?_, fun b o e n hb hx => ?_, I.base.free, fun b o e hx => ?_, I.base.tups, I.base.frzs, I.base.tbls⟩, ⟨_, hn', fun j y v' e1 e2 e3 => ?_⟩, fun y c e => ?_, I.free, I.freeC, fun p hp => ?_, tracked ⟨oL, hoL, I.free⟩ hs, by simpa using I.len⟩ ⟨_, hs, .inl rfl⟩
    · exact (hs.2 b (Nat.ne_of_lt (Nat.lt_of_lt_of_le (Heap.lt_size e) I.ok.above))).trans (I.base.keep b o e n hb hx)
    · obtain ⟨sl, e1⟩ := I.base.slot b o e n hb hx
      exact ⟨sl, (hs.2 b (Nat.ne_of_lt (Nat.lt_of_lt_of_le (Heap.lt_size e) I.ok.above))).trans e1⟩
    · obtain ⟨o', e1⟩ := I.base.there b o e hx
      exact ⟨o', (hs.2 b (Nat.ne_of_lt (Nat.lt_of_lt_of_le (Heap.lt_size e) I.ok.above))).trans e1⟩
    · by_cases hj : j = i
      · subst hj
        rw [hi] at e1; cases e1
        rw [List.getElem?_set_self hiσ] at e2
        cases e2
        exact ⟨u, r, .inl ⟨hk, by simp⟩⟩
      · rw [List.getElem?_set_ne (Ne.symm hj)] at e2
        obtain ⟨u', r', q⟩ := hl j y v' e1 e2 e3
        refine ⟨u', r', ?_⟩
        rcases q with ⟨k, e⟩ | ⟨k, c, e, z⟩
        · refine .inl ⟨k, ?_⟩
          have : y ≠ x := fun e => hj (nodup_ix hN e1 (e ▸ hi))
          simp [this, e]
        · exact .inr ⟨k, c, e, z.sameBut hs (cne y c e)⟩
    · obtain ⟨w', z⟩ := I.cell y c e
      exact ⟨w', z.sameBut hs (cne y c e)⟩
    · obtain ⟨e, n, ne, nf, d⟩ := I.pin p hp
      exact ⟨(hs.2 p.1 ne).trans e, n, ne, nf, d⟩
  · have hfn : X.fn x = true := by
      rcases hf with z | z
      · exact z
      · rw [z] at hk; cases hk
    obtain ⟨c, hc⟩ := I.ok.has x (.inl hk)
    obtain ⟨w', z⟩ := I.cell x c hc
    refine wpAny_storeName_cell I.ok.kind hk hc z (fun h' hc' hs => ?_)
    obtain ⟨oc, hoc, hocd⟩ := id z
    refine h { s with heap := h' } ⟨I.ok, I.os, I.bare, ⟨fun b o e n hb hx => ?_, fun b o e n hb hx => ?_, I.base.free, fun b o e hx => ?_, I.base.tups, I.base.frzs, I.base.tbls⟩, ⟨m, hn.sameBut hs (Ne.symm (cne x c hc)), fun j y v' e1 e2 e3 => ?_⟩, fun y c' e => ?_, I.free, I.freeC, fun p hp => ?_, tracked ⟨oc, hoc, I.freeC x c hc⟩ hs, by simpa using I.len⟩ ⟨c, hs, .inr hc⟩
    · exact (hs.2 b (Nat.ne_of_lt (Nat.lt_of_lt_of_le (Heap.lt_size e) (I.ok.cab x c hfn hc)))).trans (I.base.keep b o e n hb hx)
    · obtain ⟨sl, e1⟩ := I.base.slot b o e n hb hx
      exact ⟨sl, (hs.2 b (Nat.ne_of_lt (Nat.lt_of_lt_of_le (Heap.lt_size e) (I.ok.cab x c hfn hc)))).trans e1⟩
    · obtain ⟨o', e1⟩ := I.base.there b o e hx
      exact ⟨o', (hs.2 b (Nat.ne_of_lt (Nat.lt_of_lt_of_le (Heap.lt_size e) (I.ok.cab x c hfn hc)))).trans e1⟩
    · by_cases hj : j = i
      · subst hj
        rw [hi] at e1; cases e1
        rw [List.getElem?_set_self hiσ] at e2
        cases e2
        exact ⟨u, r, .inr ⟨.inl hk, c, hc, hc'⟩⟩
      · rw [List.getElem?_set_ne (Ne.symm hj)] at e2
        obtain ⟨u', r', q⟩ := hl j y v' e1 e2 e3
        refine ⟨u', r', ?_⟩
        rcases q with q | ⟨k, c', e, z'⟩
        · exact .inl q
        · refine .inr ⟨k, c', e, z'.sameBut hs ?_⟩
          rintro rfl
          exact hj (nodup_ix hN e1 (I.ok.inj _ _ _ e hc ▸ hi))
    · by_cases hcc : c' = c
      · subst hcc; exact ⟨_, hc'⟩
      · obtain ⟨w2, z2⟩ := I.cell y c' e
        exact ⟨w2, z2.sameBut hs hcc⟩
    · obtain ⟨e, n, ne, nf, d⟩ := I.pin p hp
      refine ⟨(hs.2 p.1 ?_).trans e, n, ne, nf, d⟩
      intro q
      rw [q, hoc] at e
      have q' : oc = p.2 := Option.some.inj e
      exact d w' (by rw [← q']; exact hocd)
theorem store_ok {M : Model} {A : Around} {E : Value → Shared → Prop} {i : Nat} {x : Str} {v : V} {u : Value} {Q : Unit → Shared → Prop} (I : Inv X pins σ H s) (hN : X.N.Nodup) (hi : X.N[i]? = some x) (hx : Loc X.env.scope x) (r : RelV v u)
    (h : ∀ s', Inv X pins (σ.set i (some v)) H s' → Q () s') (hf : X.fn x = true ∨ X.env.scope.names.lookup x = some .local := by first | exact .inl rfl | exact .inr rfl | assumption) : wpAny M A (storeName X.env x u) Q E s :=
  store_ok2 I hN hi hx r (fun s' I' _ => h s' I') hf
/-- behind a call or a block, the state as it is -/
theorem Inv.call' {s' : Shared} {ch : List Addr} (I : Inv X pins σ H s) (ho : s'.os = s.os) (u : Un (frs X.stack) ch H H' s.heap s'.heap) (hok : HOk X.prog X.w H' s'.heap) (hg : AllBare s'.gens)
    (hch : ∀ b ∈ ch, (b ∈ X.ex ∨ X.s₀.heap.objs.size ≤ b) ∧ b ≠ X.env.locals ∧ (∀ x c, X.env.cells.lookup x = some c → c ≠ b) ∧ ∀ p ∈ X.pn ++ pins, p.1 ≠ b) : Inv X pins σ H' s' := by
  obtain ⟨h', g', d', t', o'⟩ := s'
  have e : o' = s.os := ho
  subst e
  exact I.call (g' := g') (t' := t') (d' := d') u hok hg hch
end

/-! ### the judgements -/
/-- an exception: its class, its own dict's address (where it has one), the abstract heap behind it -/
abbrev XK := Value → Option Addr → Hp → Prop
abbrev St := List (Option V)
abbrev VK := V → Hp → Prop
/-- an expression's reading; a test's; an argument list's -/
abbrev TE := St → Hp → VK → Prop
abbrev TT := St → Hp → (Bool → Hp → Prop) → Prop
abbrev TA := St → Hp → (List V → Hp → Prop) → Prop
/-- what is wanted behind a statement -/
structure Ends where
  nx : St → Hp → Prop
  rt : VK
  bk : St → Hp → Prop := fun _ _ => False
  ct : St → Hp → Prop := fun _ _ => False
abbrev TS := Ends → St → Hp → Prop

def EP (X : Cx) (pins : List (Addr × Obj)) (σ : St) (Q : VK) (u : Value) (s' : Shared) : Prop := ∃ v H', Inv X pins σ H' s' ∧ RelV v u ∧ Q v H'
def TP (X : Cx) (pins : List (Addr × Obj)) (σ : St) (Q : Bool → Hp → Prop) (b : Bool) (s' : Shared) : Prop := ∃ H', Inv X pins σ H' s' ∧ Q b H'
def AP (X : Cx) (pins : List (Addr × Obj)) (σ : St) (Q : List V → Hp → Prop) (us : List Value) (s' : Shared) : Prop := ∃ vs H', Inv X pins σ H' s' ∧ Vals vs us ∧ Q vs H'
def SP (X : Cx) (pins : List (Addr × Obj)) (D : Ends) (f : Flow) (s' : Shared) : Prop :=
  match f with
  | .next => ∃ σ' H', Inv X pins σ' H' s' ∧ D.nx σ' H'
  | .brk => ∃ σ' H', Inv X pins σ' H' s' ∧ D.bk σ' H'
  | .cont => ∃ σ' H', Inv X pins σ' H' s' ∧ D.ct σ' H'
  | .ret u => ∃ v σ' H', Inv X pins σ' H' s' ∧ RelV v u ∧ D.rt v H'

def PE (X : Cx) (e : Expr) (t : TE) : Prop :=
  ∀ (pins : List (Addr × Obj)) (s : Shared) (σ : St) (H : Hp) (Q : VK), Inv X pins σ H s → t σ H Q → wpAny (model X.prog X.w) X.A (eval e X.env) (EP X pins σ Q) X.xe s
def PT (X : Cx) (e : Expr) (t : TT) : Prop :=
  ∀ (pins : List (Addr × Obj)) (s : Shared) (σ : St) (H : Hp) (Q : Bool → Hp → Prop), Inv X pins σ H s → t σ H Q → wpAny (model X.prog X.w) X.A (isTrue e X.env (eval e X.env)) (TP X pins σ Q) X.xe s
/-- a test whatever its 'whole' is (and, or) -/
def PW (X : Cx) (e : Expr) (t : TT) : Prop :=
  ∀ (whole : Sem Value) (pins : List (Addr × Obj)) (s : Shared) (σ : St) (H : Hp) (Q : Bool → Hp → Prop), Inv X pins σ H s → t σ H Q → wpAny (model X.prog X.w) X.A (isTrue e X.env whole) (TP X pins σ Q) X.xe s
theorem PW.pt {X : Cx} {e : Expr} {t : TT} (h : PW X e t) : PT X e t := h _
/-- an argument list (no star), from the left -/
def PA (X : Cx) (es : List Expr) (t : TA) : Prop :=
  ∀ (pos : Pos) (pins : List (Addr × Obj)) (s : Shared) (σ : St) (H : Hp) (Q : List V → Hp → Prop), Inv X pins σ H s → t σ H Q → wpAny (model X.prog X.w) X.A (spliced (backTo pos (starEach es X.env))) (AP X pins σ Q) X.xe s
def PS (X : Cx) (st : Stmt) (t : TS) : Prop :=
  ∀ (pins : List (Addr × Obj)) (s : Shared) (σ : St) (H : Hp) (D : Ends), Inv X pins σ H s → t D σ H → wpAny (model X.prog X.w) X.A (exec st X.env) (SP X pins D) X.xe s
def PSs (X : Cx) (st : List Stmt) (t : TS) : Prop :=
  ∀ (pins : List (Addr × Obj)) (s : Shared) (σ : St) (H : Hp) (D : Ends), Inv X pins σ H s → t D σ H → wpAny (model X.prog X.w) X.A (execs st X.env) (SP X pins D) X.xe s
/-- weaken the end -/
theorem thn {α : Type} {t : Sem α} {Q Q' : α → Shared → Prop} {M : Model} {A : Around} {E : Value → Shared → Prop} {s : Shared} (h : wpAny M A t Q E s) (hQ : ∀ a s, Q a s → Q' a s) : wpAny M A t Q' E s := wpAny_mono h hQ fun _ _ x => x
end L2

namespace L2
open PySem PySem.Spec PyProof.Rows
section
variable {X : Cx}

/-- two expressions in a row -/
theorem bin {a b : Expr} {ta tb : TE} (ha : PE X a ta) (hb : PE X b tb) {pins : List (Addr × Obj)} {s : Shared} {σ : St} {H : Hp} {R : V → V → Hp → Prop} (I : Inv X pins σ H s) (h : ta σ H fun x H1 => tb σ H1 fun y H2 => R x y H2)
    {α : Type} {Q : α → Shared → Prop} {f : Value → Value → Sem α}
    (hf : ∀ v u s2 x y H2, Inv X pins σ H2 s2 → RelV x v → RelV y u → R x y H2 → wpAny (model X.prog X.w) X.A (f v u) Q X.xe s2) :
    wpAny (model X.prog X.w) X.A (eval a X.env) (fun v s₁ => wpAny (model X.prog X.w) X.A (eval b X.env) (fun u s₂ => wpAny (model X.prog X.w) X.A (f v u) Q X.xe s₂) X.xe s₁) X.xe s := by
  refine thn (ha pins s σ H _ I h) fun v s1 ⟨x, H1, I1, r1, q1⟩ => ?_
  refine thn (hb pins s1 σ H1 _ I1 q1) fun u s2 ⟨y, H2, I2, r2, q2⟩ => ?_
  exact hf v u s2 x y H2 I2 r1 r2 q2

/-! ### names and constants -/
def tVar (i : Nat) : TE := fun σ H Q => ∃ v, σ[i]? = some (some v) ∧ Q v H
def tC (v : V) : TE := fun _ H Q => Q v H
theorem pe_var {i : Nat} {x : Str} {pos : Pos} (hN : X.N[i]? = some x) (hv : Vis X.env.scope x) (hd : (x == ("__debug__" : Str)) = false := by decide) (hcd : (x == ("__classdict__" : Str)) = false := by decide) : PE X (.Name x pos) (tVar i) := by
  intro pins s σ H Q I h
  obtain ⟨v, e, h⟩ := h
  obtain ⟨m, hn, hl⟩ := I.loc
  obtain ⟨u, r, l⟩ := hl i x v hN e hv
  have fin : EP X pins σ Q u s := ⟨v, H, I, r, h⟩
  rcases l with ⟨hk, hm⟩ | ⟨hk, c, hc, hcell⟩
  · exact wpAny_Name (wpAny_loadName_local I.ok.kind hk hn hm fin) hd
  · rcases hk with hk | hk
    · exact wpAny_Name (wpAny_loadName_cell I.ok.kind hk hc hcell fin) hd
    · exact wpAny_Name (wpAny_loadName_free I.ok.kind hk hc hcell fin hcd) hd
theorem pe_int {i j pos} : PE X (.Constant (.int i) j pos) (tC (.int i)) := fun _ _ _ H _ I h => wpAny_Constant_int ⟨.int i, H, I.tok _, ⟨_, rfl⟩, h⟩
theorem pe_bl {b j pos} : PE X (.Constant (.bool b) j pos) (tC (.bl b)) := fun _ _ _ H _ I h => Constant_bool ⟨.bl b, H, I, rfl, h⟩
theorem pe_non {j pos} : PE X (.Constant .none j pos) (tC .non) := fun _ _ _ H _ I h => Constant_none ⟨.non, H, I, rfl, h⟩
theorem pe_str {x j pos} : PE X (.Constant (.str x) j pos) (tC (.str x)) := fun _ _ _ H _ I h => Calls.Constant_str ⟨.str x, H, I.tok _, ⟨_, rfl⟩, h⟩

/-- a global name of the def -/
def Gl (X : Cx) (x : Str) : Prop := X.env.kindOf x = some .globalImplicit
theorem ld_glob {E : Value → Shared → Prop} {pins : List (Addr × Obj)} {s : Shared} {σ : St} {H : Hp} {x : Str} {u : Value} {pos : Pos} {Q : Value → Shared → Prop} (I : Inv X pins σ H s) (hg : Gl X x) (hm : X.mg x = some u) (h : Q u s)
    (hd : (x == ("__debug__" : Str)) = false := by decide) : wpAny (model X.prog X.w) X.A (eval (.Name x pos) X.env) Q E s :=
  Calls.Name_function_global I.ok.kind hg (Calls.loadGlobal_global (by rw [I.ok.glob]; exact I.mod.glob.keeps I.bk) hm h) hd
theorem ld_blt {E : Value → Shared → Prop} {pins : List (Addr × Obj)} {s : Shared} {σ : St} {H : Hp} {x : Str} {u : Value} {pos : Pos} {Q : Value → Shared → Prop} (I : Inv X pins σ H s) (hg : Gl X x) (hm : X.mg x = none) (hv : bootBuiltins x = some u) (h : Q u s)
    (hn : x ≠ "__name__" := by decide) (hd : (x == ("__debug__" : Str)) = false := by decide) : wpAny (model X.prog X.w) X.A (eval (.Name x pos) X.env) Q E s := by
  obtain ⟨mb, h1, h2⟩ := I.mod.blt
  exact Calls.Name_function_global I.ok.kind hg (Calls.loadGlobal_builtin (by rw [I.ok.glob]; exact I.mod.glob.keeps I.bk) hm (by rw [I.ok.blt]; exact h1.keeps I.bk) ((h2 x hn).trans hv) h) hd
/-- a module's constant, a class, a function, as a value -/
theorem pe_glob {x : Str} {v : V} {u : Value} {pos : Pos} (hg : Gl X x) (hm : X.mg x = some u) (r : RelV v u) (hd : (x == ("__debug__" : Str)) = false := by decide) : PE X (.Name x pos) (tC v) :=
  fun _ _ _ H _ I h => ld_glob I hg hm ⟨v, H, I, r, h⟩ hd
theorem pe_bltn {x : Str} {v : V} {u : Value} {pos : Pos} (hg : Gl X x) (hm : X.mg x = none) (hv : bootBuiltins x = some u) (r : RelV v u) (hn : x ≠ "__name__" := by decide) (hd : (x == ("__debug__" : Str)) = false := by decide) : PE X (.Name x pos) (tC v) :=
  fun _ _ _ H _ I h => ld_blt I hg hm hv ⟨v, H, I, r, h⟩ hn hd

/-! ### arithmetic -/
/-- two ints -/
def t2I (ta tb : TE) (k : Int → Int → Hp → Prop) : St → Hp → Prop := fun σ H => ta σ H fun x H1 => tb σ H1 fun y H2 => ∃ i j, x = .int i ∧ y = .int j ∧ k i j H2
def tAdd (ta tb : TE) : TE := fun σ H Q => t2I ta tb (fun i j H2 => Q (.int (i + j)) H2) σ H
def tSub (ta tb : TE) : TE := fun σ H Q => t2I ta tb (fun i j H2 => Q (.int (i - j)) H2) σ H
/-- the left factor below 2^64 -/
def tMul (ta tb : TE) : TE := fun σ H Q => t2I ta tb (fun i j H2 => (-(2 ^ 64) < i ∧ i < 2 ^ 64) ∧ Q (.int (i * j)) H2) σ H
variable {a b : Expr} {ta tb : TE} {pos : Pos}
theorem pe_add (ha : PE X a ta) (hb : PE X b tb) : PE X (.BinOp a .Add b pos) (tAdd ta tb) := by
  intro pins s σ H Q I h
  refine wpAny_BinOp (bin ha hb I h fun v u s2 x y H2 I2 rx ry q => ?_)
  obtain ⟨i, j, rfl, rfl, q⟩ := q
  obtain ⟨t, rfl⟩ := rx
  obtain ⟨t', rfl⟩ := ry
  exact add_int ⟨.int _, H2, I2.tok _, ⟨_, rfl⟩, q⟩
theorem pe_sub (ha : PE X a ta) (hb : PE X b tb) : PE X (.BinOp a .Sub b pos) (tSub ta tb) := by
  intro pins s σ H Q I h
  refine wpAny_BinOp (bin ha hb I h fun v u s2 x y H2 I2 rx ry q => ?_)
  obtain ⟨i, j, rfl, rfl, q⟩ := q
  obtain ⟨t, rfl⟩ := rx
  obtain ⟨t', rfl⟩ := ry
  exact sub_int ⟨.int _, H2, I2.tok _, ⟨_, rfl⟩, q⟩
theorem pe_mul (ha : PE X a ta) (hb : PE X b tb) : PE X (.BinOp a .Mult b pos) (tMul ta tb) := by
  intro pins s σ H Q I h
  refine wpAny_BinOp (bin ha hb I h fun v u s2 x y H2 I2 rx ry q => ?_)
  obtain ⟨i, j, rfl, rfl, ⟨q1, q2⟩, q⟩ := q
  obtain ⟨t, rfl⟩ := rx
  obtain ⟨t', rfl⟩ := ry
  exact mul_int ⟨.int _, H2, I2.tok _, ⟨_, rfl⟩, q⟩ (.of_left (intBits_le_64 q1 q2))

/-! ### comparisons -/
def PC (X : Cx) (op : CmpOp) (a b : Expr) (t : TE) : Prop :=
  ∀ (pins : List (Addr × Obj)) (s : Shared) (σ : St) (H : Hp) (Q : VK), Inv X pins σ H s → t σ H Q →
    wpAny (model X.prog X.w) X.A (eval a X.env) (fun v s₁ => wpAny (model X.prog X.w) X.A (eval b X.env) (fun u s₂ => wpAny (model X.prog X.w) X.A (compareOp op v u) (EP X pins σ Q) X.xe s₂) X.xe s₁) X.xe s
theorem nobehind (b : Expr) {op : CmpOp} (h : op ≠ .In) (h2 : op ≠ .NotIn) : behindInMarks op b = false := by
  have e1 : (op == CmpOp.In) = false := by cases op <;> first | rfl | exact absurd rfl h
  have e2 : (op == CmpOp.NotIn) = false := by cases op <;> first | rfl | exact absurd rfl h2
  cases b <;> simp [behindInMarks, e1, e2]
def tCmp (p : Int → Int → Bool) (ta tb : TE) : TE := fun σ H Q => t2I ta tb (fun i j H2 => Q (.bl (p i j)) H2) σ H
abbrev tLt : TE → TE → TE := tCmp fun i j => decide (i < j)
abbrev tLe : TE → TE → TE := tCmp fun i j => decide (i ≤ j)
abbrev tGt : TE → TE → TE := tCmp fun i j => decide (j < i)
abbrev tGe : TE → TE → TE := tCmp fun i j => decide (j ≤ i)
abbrev tEqI : TE → TE → TE := tCmp fun i j => decide (i = j)
abbrev tNeI : TE → TE → TE := tCmp fun i j => !decide (i = j)
/-- a comparison of two ints, by its rule -/
theorem pc_int {op : CmpOp} {p : Int → Int → Bool} (ha : PE X a ta) (hb : PE X b tb)
    (rule : ∀ (i j : Int) (t u : Tok) (Q : Value → Shared → Prop) (s : Shared), Q (.bool (p i j)) s → wpAny (model X.prog X.w) X.A (compareOp op (.int i t) (.int j u)) Q X.xe s) : PC X op a b (tCmp p ta tb) := by
  intro pins s σ H Q I h
  refine bin ha hb I h fun v u s2 x y H2 I2 rx ry q => ?_
  obtain ⟨i, j, rfl, rfl, q⟩ := q
  obtain ⟨t, rfl⟩ := rx
  obtain ⟨t', rfl⟩ := ry
  exact rule i j t t' _ s2 ⟨.bl _, H2, I2, rfl, q⟩
theorem pc_lt (ha : PE X a ta) (hb : PE X b tb) : PC X .Lt a b (tLt ta tb) := pc_int ha hb fun _ _ _ _ _ _ h => lt_int h
theorem pc_le (ha : PE X a ta) (hb : PE X b tb) : PC X .LtE a b (tLe ta tb) := pc_int ha hb fun _ _ _ _ _ _ h => le_int h
theorem pc_gt (ha : PE X a ta) (hb : PE X b tb) : PC X .Gt a b (tGt ta tb) := pc_int ha hb fun _ _ _ _ _ _ h => gt_int h
theorem pc_ge (ha : PE X a ta) (hb : PE X b tb) : PC X .GtE a b (tGe ta tb) := pc_int ha hb fun _ _ _ _ _ _ h => ge_int h
theorem pc_eqI (ha : PE X a ta) (hb : PE X b tb) : PC X .Eq a b (tEqI ta tb) := pc_int ha hb fun _ _ _ _ _ _ h => eq_int (by rw [Bool.beq_eq_decide_eq]; exact h)
theorem pc_neI (ha : PE X a ta) (hb : PE X b tb) : PC X .NotEq a b (tNeI ta tb) := pc_int ha hb fun _ _ _ _ _ _ h => ne_int (by rw [bne, Bool.beq_eq_decide_eq]; exact h)
/-- is None -/
def tIsN (ta : TE) : TE := fun σ H Q => ta σ H fun x H1 => Q (.bl (decide (x = .non))) H1
def tNotN (ta : TE) : TE := fun σ H Q => ta σ H fun x H1 => Q (.bl (!decide (x = .non))) H1
theorem RelV.none_iff {x : V} {v : Value} (r : RelV x v) : (v == Value.none) = decide (x = .non) := by
  cases x with
  | non => cases r; rfl
  | bl _ => cases r; rfl
  | int _ => obtain ⟨t, rfl⟩ := r; rfl
  | str _ => obtain ⟨t, rfl⟩ := r; rfl
  | byt _ => obtain ⟨t, rfl⟩ := r; rfl
  | flt _ => obtain ⟨t, rfl⟩ := r; rfl
  | ref _ => cases r; rfl
  | ty _ => cases r; rfl
theorem pc_isN {j pos'} (ha : PE X a ta) : PC X .Is a (.Constant .none j pos') (tIsN ta) := by
  intro pins s σ H Q I h
  refine thn (ha pins s σ H _ I h) fun v s1 ⟨x, H1, I1, r1, q1⟩ => ?_
  exact Constant_none (is_none_gen ⟨.bl _, H1, I1, by rw [r1.none_iff]; rfl, q1⟩)
theorem pc_notN {j pos'} (ha : PE X a ta) : PC X .IsNot a (.Constant .none j pos') (tNotN ta) := by
  intro pins s σ H Q I h
  refine thn (ha pins s σ H _ I h) fun v s1 ⟨x, H1, I1, r1, q1⟩ => ?_
  exact Constant_none (isnot_none_gen ⟨.bl _, H1, I1, by rw [r1.none_iff]; rfl, q1⟩)
/-- a comparison as a value, as a test -/
def tB (t : TE) : TT := fun σ H Q => t σ H fun x H1 => ∃ c, x = .bl c ∧ Q c H1
theorem pe_cmp {op : CmpOp} {t : TE} (h : PC X op a b t) (h1 : behindInMarks op b = false := by first | exact nobehind _ (by decide) (by decide) | rfl) : PE X (.Compare a [op] [b] pos) t := fun pins s σ H Q I hw => wpAny_Compare1 (h pins s σ H Q I hw) h1
theorem pt_cmp {op : CmpOp} {t : TE} (h : PC X op a b t) (h1 : behindInMarks op b = false := by first | exact nobehind _ (by decide) (by decide) | rfl) : PT X (.Compare a [op] [b] pos) (tB t) := by
  intro pins s σ H Q I hw
  refine wpAny_isTrue_Compare1 (thn (h pins s σ H _ I hw) fun v s1 h1 => thn h1 fun u s2 h2 => thn h2 fun c s3 ⟨x, H1, I1, r1, q1⟩ => ?_) h1
  obtain ⟨d, rfl, q⟩ := q1
  cases r1
  exact wpAny_truthy_bool ⟨H1, I1, q⟩
/-- an expression whose value is a bool, as a test -/
theorem pt_val {e : Expr} {t : TE} (h : PE X e t) (he : ∀ whole, isTrue e X.env whole = (do let v ← whole; standAt e.pos; holding [v] (truthy v)) := by intro _; rfl) : PT X e (tB t) := by
  intro pins s σ H Q I hw
  refine isTrue_plain (thn (h pins s σ H _ I hw) fun v s1 ⟨x, H1, I1, r1, q1⟩ => ?_) (he _)
  obtain ⟨d, rfl, q⟩ := q1
  cases r1
  exact wpAny_truthy_bool ⟨H1, I1, q⟩

/-! ### and, or, not -/
variable {tA tB' : TT} {rest : List Expr}
def tAnd (t u : TT) : TT := fun σ H Q => t σ H fun c H1 => if c = true then u σ H1 Q else Q false H1
def tOr (t u : TT) : TT := fun σ H Q => t σ H fun c H1 => if c = true then Q true H1 else u σ H1 Q
def tNot (t : TT) : TT := fun σ H Q => t σ H fun c H1 => Q (!c) H1
theorem pw_and1 (ha : PT X a tA) : PW X (.BoolOp .And [a] pos) tA := by
  intro wh pins s σ H Q I h
  refine isTrue_and (thn (ha pins s σ H Q I h) fun c s1 e => ?_)
  cases c with
  | true => exact isTrue_and_nil e
  | false => exact e
theorem pw_or1 (ha : PT X a tA) : PW X (.BoolOp .Or [a] pos) tA := by
  intro wh pins s σ H Q I h
  refine isTrue_or (thn (ha pins s σ H Q I h) fun c s1 e => ?_)
  cases c with
  | false => exact isTrue_or_nil e
  | true => exact e
theorem pw_and (ha : PT X a tA) (hb : PW X (.BoolOp .And (b :: rest) pos) tB') : PW X (.BoolOp .And (a :: b :: rest) pos) (tAnd tA tB') := by
  intro wh pins s σ H Q I h
  refine isTrue_and (thn (ha pins s σ H _ I h) fun c s1 ⟨H1, I1, q1⟩ => ?_)
  cases c with
  | true => exact hb wh pins s1 σ H1 Q I1 q1
  | false => exact ⟨H1, I1, q1⟩
theorem pw_or (ha : PT X a tA) (hb : PW X (.BoolOp .Or (b :: rest) pos) tB') : PW X (.BoolOp .Or (a :: b :: rest) pos) (tOr tA tB') := by
  intro wh pins s σ H Q I h
  refine isTrue_or (thn (ha pins s σ H _ I h) fun c s1 ⟨H1, I1, q1⟩ => ?_)
  cases c with
  | true => exact ⟨H1, I1, q1⟩
  | false => exact hb wh pins s1 σ H1 Q I1 q1
theorem pt_not (ha : PT X a tA) : PT X (.UnaryOp .Not a pos) (tNot tA) := by
  intro pins s σ H Q I h
  exact isTrue_not (ha pins s σ H (fun c H1 => Q (!c) H1) I h)
/-- .. as values (bools) -/
def tAndV (ta tb : TE) : TE := fun σ H Q => ta σ H fun x H1 => ∃ c, x = .bl c ∧ if c = true then tb σ H1 Q else Q (.bl false) H1
def tOrV (ta tb : TE) : TE := fun σ H Q => ta σ H fun x H1 => ∃ c, x = .bl c ∧ if c = true then Q (.bl true) H1 else tb σ H1 Q
def tNotV (ta : TE) : TE := fun σ H Q => ta σ H fun x H1 => ∃ c, x = .bl c ∧ Q (.bl (!c)) H1
theorem pe_one {op} {t : TE} (h : PE X a t) : PE X (.BoolOp op [a] pos) t := fun pins s σ H Q I hw => BoolOp_one (h pins s σ H Q I hw)
theorem pe_and (ha : PE X a ta) (hb : PE X (.BoolOp .And (b :: rest) pos) tb) : PE X (.BoolOp .And (a :: b :: rest) pos) (tAndV ta tb) := by
  intro pins s σ H Q I h
  refine BoolOp_and (thn (ha pins s σ H _ I h) fun v s1 ⟨x, H1, I1, r1, q1⟩ => ?_)
  obtain ⟨c, rfl, q1⟩ := q1
  cases r1
  refine wpAny_truthy_bool ?_
  cases c with
  | true => exact hb pins s1 σ H1 Q I1 q1
  | false => exact ⟨.bl false, H1, I1, rfl, q1⟩
theorem pe_or (ha : PE X a ta) (hb : PE X (.BoolOp .Or (b :: rest) pos) tb) : PE X (.BoolOp .Or (a :: b :: rest) pos) (tOrV ta tb) := by
  intro pins s σ H Q I h
  refine BoolOp_or (thn (ha pins s σ H _ I h) fun v s1 ⟨x, H1, I1, r1, q1⟩ => ?_)
  obtain ⟨c, rfl, q1⟩ := q1
  cases r1
  refine wpAny_truthy_bool ?_
  cases c with
  | false => exact hb pins s1 σ H1 Q I1 q1
  | true => exact ⟨.bl true, H1, I1, rfl, q1⟩
theorem pe_not (ha : PE X a ta) : PE X (.UnaryOp .Not a pos) (tNotV ta) := by
  intro pins s σ H Q I h
  refine UnaryOp_ (thn (ha pins s σ H _ I h) fun v s1 ⟨x, H1, I1, r1, q1⟩ => ?_)
  obtain ⟨c, rfl, q1⟩ := q1
  cases r1
  exact not_of (wpAny_truthy_bool ⟨.bl (!c), H1, I1, rfl, q1⟩)
/-- a if t else b -/
def tIf (t : TT) (ta tb : TE) : TE := fun σ H Q => t σ H fun c H1 => if c = true then ta σ H1 Q else tb σ H1 Q
theorem pe_ifExp {c : Expr} (hc : PT X c tA) (ha : PE X a ta) (hb : PE X b tb) : PE X (.IfExp c a b pos) (tIf tA ta tb) := by
  intro pins s σ H Q I h
  refine wpAny_IfExp (thn (hc pins s σ H _ I h) fun d s1 ⟨H1, I1, q1⟩ => ?_)
  cases d with
  | true => exact ha pins s1 σ H1 Q I1 q1
  | false => exact hb pins s1 σ H1 Q I1 q1
end
end L2

namespace L2
open PySem PySem.Spec PyProof.Rows

/-! ### a list, a tuple that is read: tracked, frozen, or an object of the module -/
def SqL (K : PySem.W.Frag) (H : Hp) (a : Addr) (xs : List V) : Prop :=
  Rd H a (.lst xs) ∨
    ∃ (o : Obj) (its : Array Value) (n : Nat), K.lookup a = some o ∧ o.cls = .type "list" ∧ o.dict = none ∧ o.data = .seq its n ∧ its.size ≤ sizeLine ∧ Vals xs its.toList
def SqT (K : PySem.W.Frag) (H : Hp) (a : Addr) (xs : List V) : Prop :=
  Rd H a (.tup xs) ∨
    ∃ (o : Obj) (its : Array Value) (n : Nat), K.lookup a = some o ∧ o.cls = .type "tuple" ∧ o.data = .seq its n ∧ its.size ≤ sizeLine ∧ Vals xs its.toList
def absV : Value → Option V
  | .none => some .non
  | .bool b => some (.bl b)
  | .int i _ => some (.int i)
  | .str x _ => some (.str x)
  | .bytes b _ => some (.byt b)
  | .float b _ => some (.flt b)
  | .ref a => some (.ref a)
  | .type n => some (.ty n)
  | _ => none
theorem RelV.abs {x : V} {u : Value} (r : RelV x u) : absV u = some x := by
  cases x with
  | non => cases r; rfl
  | bl _ => cases r; rfl
  | int _ => obtain ⟨t, rfl⟩ := r; rfl
  | str _ => obtain ⟨t, rfl⟩ := r; rfl
  | byt _ => obtain ⟨t, rfl⟩ := r; rfl
  | flt _ => obtain ⟨t, rfl⟩ := r; rfl
  | ref _ => cases r; rfl
  | ty _ => cases r; rfl
theorem RelV.inj {x y : V} {u : Value} (r : RelV x u) (q : RelV y u) : x = y := Option.some.inj (r.abs.symm.trans q.abs)
theorem Vals.inj : ∀ {xs ys : List V} {us : List Value}, Vals xs us → Vals ys us → xs = ys
  | _, _, _, .nil, .nil => rfl
  | _, _, _, .cons r t, .cons r' t' => by rw [r.inj r', Vals.inj t t']
section
variable {X : Cx} {pins : List (Addr × Obj)} {σ : St} {H : Hp} {s : Shared} {a : Addr} {xs ys : List V}
theorem SqL.of {K : PySem.W.Frag} (h : H a = some (.lst xs)) : SqL K H a xs := .inl (.inl h)
theorem SqT.of {K : PySem.W.Frag} (h : H a = some (.tup xs)) : SqT K H a xs := .inl (.inl h)
theorem Inv.list (I : Inv X pins σ H s) (h : SqL X.K H a xs) : ∃ its : List Value, Vals xs its ∧ PlainL s.heap a its.toArray ∧ xs.length ≤ sizeLine := by
  rcases h with h | ⟨o, its, n, hk, hc, hd, hs, hz, r⟩
  · obtain ⟨z, its, n, r, e⟩ := h.ok I.hok
    exact ⟨its, r, ⟨_, n, e, rfl, rfl, rfl⟩, z⟩
  · refine ⟨its.toList, r, ⟨o, n, I.kIn a o hk, hc, hd, by simpa using hs⟩, ?_⟩
    have e := r.length
    simp only [Array.length_toList] at e
    omega
theorem Inv.tuple (I : Inv X pins σ H s) (h : SqT X.K H a xs) : ∃ its : List Value, Vals xs its ∧ IsTup s.heap a its.toArray ∧ xs.length ≤ sizeLine := by
  rcases h with h | ⟨o, its, n, hk, hc, hs, hz, r⟩
  · obtain ⟨z, its, r, p⟩ := h.ok I.hok
    exact ⟨its, r, p, z⟩
  · refine ⟨its.toList, r, ⟨o, I.kIn a o hk, hc, n, by simpa using hs⟩, ?_⟩
    have e := r.length
    simp only [Array.length_toList] at e
    omega
theorem Inv.list_inj (I : Inv X pins σ H s) (h : SqL X.K H a xs) (h' : SqL X.K H a ys) : xs = ys := by
  obtain ⟨its, r, ⟨o, n, e, _, _, d⟩, _⟩ := I.list h
  obtain ⟨its', r', ⟨o', n', e', _, _, d'⟩, _⟩ := I.list h'
  rw [e] at e'; cases e'
  rw [d] at d'
  injection d' with d1 _
  have : its = its' := by simpa using congrArg Array.toList d1
  subst this
  exact r.inj r'
theorem Inv.tuple_inj (I : Inv X pins σ H s) (h : SqT X.K H a xs) (h' : SqT X.K H a ys) : xs = ys := by
  obtain ⟨its, r, ⟨o, e, _, n, d⟩, _⟩ := I.tuple h
  obtain ⟨its', r', ⟨o', e', _, n', d'⟩, _⟩ := I.tuple h'
  rw [e] at e'; cases e'
  rw [d] at d'
  injection d' with d1 _
  have : its = its' := by simpa using congrArg Array.toList d1
  subst this
  exact r.inj r'
end

/-! ### another wish about exceptions -/
abbrev Cx.wish (X : Cx) (E : Value → Shared → Prop) : Cx := { X with xe := E }
/-- no exception leaves -/
abbrev Cx.nox (X : Cx) : Cx := X.wish fun _ _ => False
theorem Cx.Ok.wish {X : Cx} (ok : X.Ok) (E : Value → Shared → Prop) : (X.wish E).Ok :=
  ⟨ok.mod, ok.kind, ok.glob, ok.blt, ok.above, ok.inj, ok.has, ok.cab, ok.hd, ok.frames, ok.stk, ok.exf, ok.bs, ok.bsz, ok.noex, ok.exfs, ok.funs, ok.frf⟩
theorem Cx.Ok.unwish {X : Cx} {E : Value → Shared → Prop} (ok : (X.wish E).Ok) : X.Ok :=
  ⟨ok.mod, ok.kind, ok.glob, ok.blt, ok.above, ok.inj, ok.has, ok.cab, ok.hd, ok.frames, ok.stk, ok.exf, ok.bs, ok.bsz, ok.noex, ok.exfs, ok.funs, ok.frf⟩
section
variable {X : Cx} {pins : List (Addr × Obj)} {σ : St} {H : Hp} {s : Shared} {E : Value → Shared → Prop}
theorem Inv.wish (I : Inv X pins σ H s) (E : Value → Shared → Prop) : Inv (X.wish E) pins σ H s := ⟨I.ok.wish E, I.os, I.bare, I.base, I.loc, I.cell, I.free, I.freeC, I.pin, I.hok, I.len⟩
theorem Inv.unwish (I : Inv (X.wish E) pins σ H s) : Inv X pins σ H s := ⟨I.ok.unwish, I.os, I.bare, I.base, I.loc, I.cell, I.free, I.freeC, I.pin, I.hok, I.len⟩
theorem SP.unwish {D : Ends} {f : Flow} {s' : Shared} (h : SP (X.wish E) pins D f s') : SP X pins D f s' := by
  cases f with
  | next => obtain ⟨σ', H', I, q⟩ := h; exact ⟨σ', H', I.unwish, q⟩
  | brk => obtain ⟨σ', H', I, q⟩ := h; exact ⟨σ', H', I.unwish, q⟩
  | cont => obtain ⟨σ', H', I, q⟩ := h; exact ⟨σ', H', I.unwish, q⟩
  | ret u => obtain ⟨v, σ', H', I, r, q⟩ := h; exact ⟨v, σ', H', I.unwish, r, q⟩
theorem PE.nox {e : Expr} {t : TE} (h : PE X.nox e t) : PE X e t := fun pins s σ H Q I hw =>
  wpAny_mono (h pins s σ H Q (I.wish _) hw) (fun _ _ ⟨v, H', I', r, q⟩ => ⟨v, H', I'.unwish, r, q⟩) fun _ _ z => False.elim z
theorem PT.nox {e : Expr} {t : TT} (h : PT X.nox e t) : PT X e t := fun pins s σ H Q I hw =>
  wpAny_mono (h pins s σ H Q (I.wish _) hw) (fun _ _ ⟨H', I', q⟩ => ⟨H', I'.unwish, q⟩) fun _ _ z => False.elim z
theorem PSs.nox {st : List Stmt} {t : TS} (h : PSs X.nox st t) : PSs X st t := fun pins s σ H D I hw =>
  wpAny_mono (h pins s σ H D (I.wish _) hw) (fun _ _ q => q.unwish) fun _ _ z => False.elim z
end

/-! ### blocks and small statements -/
section
variable {X : Cx} {st : Stmt} {rest : List Stmt} {t u : TS} {e : Expr} {te : TE} {pos : Pos}
def tNext : TS := fun D σ H => D.nx σ H
def tSeq (t u : TS) : TS := fun D σ H => t { D with nx := u D } σ H
theorem pss_nil : PSs X [] tNext := fun _ _ σ H _ I h => wpAny_execs_nil ⟨σ, H, I, h⟩
theorem pss_cons (h1 : PS X st t) (h2 : PSs X rest u) : PSs X (st :: rest) (tSeq t u) := by
  intro pins s σ H D I h
  refine wpAny_execs_cons (thn (h1 pins s σ H { D with nx := u D } I h) fun f s1 q => ?_)
  cases f with
  | next =>
    obtain ⟨σ', H', I', q⟩ := q
    exact h2 pins s1 σ' H' D I' q
  | ret v => exact q
  | brk => exact q
  | cont => exact q
theorem pss_one (h1 : PS X st t) : PSs X [st] t := by
  intro pins s σ H D I h
  refine wpAny_execs_cons (thn (h1 pins s σ H D I h) fun f s1 q => ?_)
  cases f with
  | next => exact wpAny_execs_nil q
  | ret v => exact q
  | brk => exact q
  | cont => exact q
def tBreak : TS := fun D σ H => D.bk σ H
def tCont : TS := fun D σ H => D.ct σ H
theorem ps_pass : PS X (.Pass pos) tNext := fun _ _ σ H _ I h => wpAny_Pass ⟨σ, H, I, h⟩
theorem ps_break : PS X (.Break pos) tBreak := fun _ _ σ H _ I h => wpAny_Break ⟨σ, H, I, h⟩
theorem ps_continue : PS X (.Continue pos) tCont := fun _ _ σ H _ I h => wpAny_Continue ⟨σ, H, I, h⟩
/-- in a def's body nothing is shown -/
theorem Inv.quiet {pins : List (Addr × Obj)} {σ : St} {H : Hp} {s : Shared} (I : Inv X pins σ H s) : interactive X.env = false := by simp [interactive, I.ok.kind]
/-- a docstring -/
theorem ps_doc {x j pos pos'} : PS X (.Expr (.Constant (.str x) j pos) pos') tNext := fun _ s σ H _ I h => wpAny_Expr (Calls.Constant_str (show SP X _ _ .next { s with toks := s.toks + 1 } from ⟨σ, H, I.tok _, h⟩)) I.quiet
/-- an expression whose value is dropped -/
def tDrop (te : TE) : TS := fun D σ H => te σ H fun _ H1 => D.nx σ H1
theorem ps_expr (he : PE X e te) (hs : swapsWith e none pos.line X.env = pure false := by rfl) : PS X (.Expr e pos) (tDrop te) := by
  intro pins s σ H D I h
  exact wpAny_Expr_any (thn (he pins s σ H _ I h) fun v s1 ⟨x, H1, I1, r1, q1⟩ => ⟨σ, H1, I1, q1⟩) I.quiet hs
def tRet (te : TE) : TS := fun D σ H => te σ H D.rt
theorem ps_ret (he : PE X e te) : PS X (.Return (some e) pos) (tRet te) := by
  intro pins s σ H D I h
  exact wpAny_Return_some (thn (he pins s σ H _ I h) fun v s1 ⟨x, H1, I1, r1, q1⟩ => ⟨x, σ, H1, I1, r1, q1⟩)
def tRetN : TS := fun D _ H => D.rt .non H
theorem ps_retN : PS X (.Return none pos) tRetN := fun _ _ σ H _ I h => wpAny_Return_none ⟨.non, σ, H, I, rfl, h⟩
def tIfS (c : TT) (t u : TS) : TS := fun D σ H => c σ H fun b H1 => if b = true then t D σ H1 else u D σ H1
theorem ps_if {c : Expr} {a b : List Stmt} {tc : TT} (hc : PT X c tc) (ha : PSs X a t) (hb : PSs X b u) : PS X (.If c a b pos) (tIfS tc t u) := by
  intro pins s σ H D I h
  refine wpAny_If (thn (hc pins s σ H _ I h) fun d s1 ⟨H1, I1, q1⟩ => ?_)
  cases d with
  | true => exact ha pins s1 σ H1 D I1 q1
  | false => exact hb pins s1 σ H1 D I1 q1
/-- code that the proof never comes to -/
def tNever : TS := fun _ _ _ => False
theorem ps_never : PS X st tNever := fun _ _ _ _ _ _ h => h.elim
theorem pss_never {sts : List Stmt} : PSs X sts tNever := fun _ _ _ _ _ _ h => h.elim
end

/-! ### targets -/
abbrev TG := V → St → Hp → (St → Hp → Prop) → Prop
abbrev TGs := List V → St → Hp → (St → Hp → Prop) → Prop
def PG (X : Cx) (target : Expr) (t : TG) : Prop :=
  ∀ (pins : List (Addr × Obj)) (s : Shared) (σ : St) (H : Hp) (v : V) (u : Value) (Q : St → Hp → Prop), Inv X pins σ H s → RelV v u → t v σ H Q →
    wpAny (model X.prog X.w) X.A (assign target X.env u) (fun _ s' => ∃ σ' H', Inv X pins σ' H' s' ∧ Q σ' H') X.xe s
/-- several targets, one after another -/
def PGs (X : Cx) (ts : List Expr) (t : TGs) : Prop :=
  ∀ (pins : List (Addr × Obj)) (s : Shared) (σ : St) (H : Hp) (vs : List V) (us : List Value) (Q : St → Hp → Prop), Inv X pins σ H s → Vals vs us → t vs σ H Q →
    wpAny (model X.prog X.w) X.A (assignInOrder ((assignEach ts X.env).map (·.2)) us) (fun _ s' => ∃ σ' H', Inv X pins σ' H' s' ∧ Q σ' H') X.xe s
/-- o[i] = v, by values -/
abbrev TSet := V → V → V → Hp → (Hp → Prop) → Prop
def PSet (X : Cx) (t : TSet) : Prop :=
  ∀ (pins : List (Addr × Obj)) (s : Shared) (σ : St) (H : Hp) (o i v : V) (ov iv u : Value) (Q : Hp → Prop), Inv X pins σ H s → RelV o ov → RelV i iv → RelV v u → t o i v H Q →
    wpAny (model X.prog X.w) X.A (setItem ov iv u) (fun _ s' => ∃ H', Inv X pins σ H' s' ∧ Q H') X.xe s
/-- a op= b, by values -/
abbrev TIp := V → V → Hp → VK → Prop
def PIp (X : Cx) (op : Operator) (t : TIp) : Prop :=
  ∀ (pins : List (Addr × Obj)) (s : Shared) (σ : St) (H : Hp) (x y : V) (v u : Value) (Q : VK), Inv X pins σ H s → RelV x v → RelV y u → t x y H Q →
    wpAny (model X.prog X.w) X.A (inplaceOp op v u) (EP X pins σ Q) X.xe s
section
variable {X : Cx} {pos : Pos}
def gName (i : Nat) : TG := fun v σ H Q => Q (σ.set i (some v)) H
theorem pg_name {i : Nat} {x : Str} (hN : X.N.Nodup) (hi : X.N[i]? = some x) (hx : Loc X.env.scope x) (hf : X.fn x = true ∨ X.env.scope.names.lookup x = some .local := by first | exact .inl rfl | exact .inr rfl | assumption) : PG X (.Name x pos) (gName i) := by
  intro pins s σ H v u Q I r h
  exact wpAny_assign_Name (store_ok I hN hi hx r (fun s' I' => ⟨_, H, I', h⟩) hf)
def gNil : TGs := fun vs σ H Q => vs = [] ∧ Q σ H
def gCons (t : TG) (u : TGs) : TGs := fun vs σ H Q => ∃ v r, vs = v :: r ∧ t v σ H fun σ' H' => u r σ' H' Q
theorem pgs_nil : PGs X [] gNil := by
  intro pins s σ H vs us Q I r h
  obtain ⟨e, h⟩ := h
  subst e
  cases r
  exact assignInOrder_nil ⟨σ, H, I, h⟩
theorem pgs_cons {e : Expr} {es : List Expr} {t : TG} {u : TGs} (h1 : PG X e t) (h2 : PGs X es u)
    (hs : (assignEach (e :: es) X.env).map (·.2) = assign e X.env :: (assignEach es X.env).map (·.2) := by rfl) : PGs X (e :: es) (gCons t u) := by
  intro pins s σ H vs us Q I r h
  obtain ⟨v, vr, e1, h⟩ := h
  subst e1
  cases r with
  | cons r rr =>
    rw [hs]
    refine assignInOrder_cons (thn (h1 pins s σ H _ _ _ I r h) fun _ s1 ⟨σ1, H1, I1, q1⟩ => ?_)
    exact h2 pins s1 σ1 H1 _ _ Q I1 rr q1
/-- (a, b, ..) = a tuple of that length -/
def gTup (K : PySem.W.Frag) (n : Nat) (t : TGs) : TG := fun v σ H Q => ∃ a xs, v = .ref a ∧ SqT K H a xs ∧ xs.length = n ∧ t xs σ H Q
theorem pg_tup {es : List Expr} {k : Nat} {t : TGs} {n : Nat} (hc : X.calm = true) (h : PGs X es t)
    (hn : (assignEach es X.env).length = n := by rfl) (hst : (assignEach es X.env).findIdx? (·.1) = none := by rfl) : PG X (.Tuple es k pos) (gTup X.K n t) := by
  intro pins s σ H v u Q I r hw
  obtain ⟨a, xs, e1, hq, hl, hw⟩ := hw
  subst e1
  cases r
  obtain ⟨its, rv, ht, hz⟩ := I.tuple hq
  refine assign_Tuple_tuple (I.ok.hd hc) ht (by simp [hn, ← hl, rv.length]) hst fun h' hx => ?_
  have I1 : Inv X pins σ H { s with heap := h' } := I.kept (t' := s.toks) fun b o e => hx b o (Nat.ne_of_lt (Heap.lt_size e)) e
  exact h pins _ σ H xs _ Q I1 (by simpa using rv) hw
/-- o[i] = .. -/
def gSub (to ti : TE) (t : TSet) : TG := fun v σ H Q => to σ H fun o H1 => ti σ H1 fun i H2 => t o i v H2 fun H3 => Q σ H3
theorem pg_sub {o i : Expr} {to ti : TE} {t : TSet} (ho : PE X o to) (hi : PE X i ti) (hs : PSet X t)
    (ha : ∀ v, assign (.Subscript o i pos) X.env v = (do
      let ov ← holding [v] (eval o X.env)
      let iv ← holding [v, ov] (eval i X.env)
      standAt pos
      holding [v, ov, iv] (setItem ov iv v)
      release [v, ov, iv] []) := by intro _; rfl) : PG X (.Subscript o i pos) (gSub to ti t) := by
  intro pins s σ H v u Q I r h
  rw [ha]
  refine wpAny_bind (wpAny_holding (thn (ho pins s σ H _ I h) fun ov s1 ⟨x, H1, I1, r1, q1⟩ => ?_))
  refine wpAny_bind (wpAny_holding (thn (hi pins s1 σ H1 _ I1 q1) fun iv s2 ⟨y, H2, I2, r2, q2⟩ => ?_))
  refine wpAny_bind (wpAny_standAt (wpAny_bind (wpAny_holding (thn (hs pins s2 σ H2 x y v ov iv u _ I2 r1 r2 r q2) fun _ s3 ⟨H3, I3, q3⟩ => ?_))))
  exact wpAny_release ⟨σ, H3, I3, q3⟩
/-- target = value -/
def tAsg (te : TE) (g : TG) : TS := fun D σ H => te σ H fun x H1 => g x σ H1 D.nx
theorem ps_asg {tg e : Expr} {te : TE} {g : TG} (he : PE X e te) (hg : PG X tg g) (hs : swapsWithSole [tg] e pos.line X.env = pure false := by rfl) (hw : swappedStores [tg] e X.env = pure none := by rfl)
    (h1 : (assignEach [tg] X.env).map (·.2) = [assign tg X.env] := by rfl) : PS X (.Assign [tg] e pos) (tAsg te g) := by
  intro pins s σ H D I h
  refine wpAny_Assign_stores (thn (he pins s σ H _ I h) fun v s1 ⟨x, H1, I1, r1, q1⟩ => ?_) hs hw
  rw [h1]
  exact thn (hg pins s1 σ H1 x v _ I1 r1 q1) fun _ s2 q => q
/-- name = value -/
theorem ps_set {i : Nat} {x : Str} {e : Expr} {te : TE} {pos' : Pos} (hN : X.N.Nodup) (hi : X.N[i]? = some x) (hx : Loc X.env.scope x) (he : PE X e te) (hs : swapsWith e (some (.Name x pos')) pos.line X.env = pure false := by rfl) (hf : X.fn x = true ∨ X.env.scope.names.lookup x = some .local := by first | exact .inl rfl | exact .inr rfl | assumption) :
    PS X (.Assign [.Name x pos'] e pos) (tAsg te (gName i)) := by
  intro pins s σ H D I h
  refine wpAny_Assign_Name (thn (he pins s σ H _ I h) fun v s1 ⟨y, H1, I1, r1, q1⟩ => ?_) hs
  exact store_ok I1 hN hi hx r1 (fun s2 I2 => ⟨_, H1, I2, q1⟩) hf
/-- a, b = x, y with plain local names: stored from the right; the pair itself is not tracked (the opening rows as in PyProof/Rows/TupAssign.lean:23) -/
def tPar (i j : Nat) (ta : TA) : TS := fun D σ H => ta σ H fun vs H1 => ∃ v w, vs = [v, w] ∧ D.nx ((σ.set i (some v)).set j (some w)) H1
theorem ps_par {i j : Nat} {x y : Str} {a b : Expr} {ta : TA} {px py pt : Pos} {kt k2 pt2} (hc : X.calm = true) (hN : X.N.Nodup) (hi : X.N[i]? = some x) (hj : X.N[j]? = some y) (hij : i ≠ j)
    (hx : X.env.scope.names.lookup x = some .local) (hy : X.env.scope.names.lookup y = some .local) (ha : PA X [a, b] ta)
    (hw : swappedStores [.Tuple [.Name x px, .Name y py] kt pt] (.Tuple [a, b] k2 pt2) X.env = pure (some [x, y]))
    (hs : swapsWithSole [.Tuple [.Name x px, .Name y py] kt pt] (.Tuple [a, b] k2 pt2) pos.line X.env = pure false := by rfl) :
    PS X (.Assign [.Tuple [.Name x px, .Name y py] kt pt] (.Tuple [a, b] k2 pt2) pos) (tPar i j ta) := by
  intro pins s σ H D I h
  rw [exec_Assign_arm]
  refine wpAny_bind (wpAny_standAt ?_)
  rw [hs]
  refine wpAny_bind (wpAny_pure ?_)
  rw [if_neg (by decide)]
  refine wpAny_bind (Tuple_ (thn (ha _ pins s σ H _ I h) fun us s1 ⟨vs, H1, I1, r1, q1⟩ => ?_))
  obtain ⟨v, w, e1, q1⟩ := q1
  subst e1
  obtain ⟨u1, u2, rfl, rv, rw'⟩ : ∃ u1 u2, us = [u1, u2] ∧ RelV v u1 ∧ RelV w u2 := by
    cases r1 with
    | cons p q =>
      cases q with
      | cons p' q' =>
        cases q'
        exact ⟨_, _, rfl, p, p'⟩
  refine wpAny_newObj_type ?_ (by show 2 ≤ sizeLine; decide)
  have I2 : Inv X pins σ H1 { s1 with heap := s1.heap.push { cls := .type "tuple", data := .seq [u1, u2].toArray } } := I1.kept (t' := s1.toks) fun b o e => Heap.get?_push_of_some _ e
  rw [hw]
  refine wpAny_bind (wpAny_pure ?_)
  show wpAny (model X.prog X.w) X.A (do rule "assign.swapped-stores"; let items ← unpackItems (.ref s1.heap.objs.size) 2 none; assignInOrder [fun v => bindName X.env y v, fun v => bindName X.env x v] items.reverse; pure Flow.next) _ _ _
  refine wpAny_bind (wpAny_rule (wpAny_bind (unpackItems_tuple (items := #[u1, u2]) (I.ok.hd hc) (IsTup.new s1.heap _) fun h' hx' => ?_)))
  have I3 := I2.kept (h' := h') (t' := s1.toks) fun b o e => hx' b o (Nat.ne_of_lt (Heap.lt_size e)) e
  show wpAny _ _ (assignInOrder [fun v => bindName X.env y v, fun v => bindName X.env x v] [u2, u1] >>= fun _ => pure Flow.next) _ _ _
  refine wpAny_bind (assignInOrder_cons (wpAny_bindName (store_ok I3 hN hj (.inl hy) rw' (fun s2 I4 => ?_) (.inr hy))))
  refine assignInOrder_cons (wpAny_bindName (store_ok I4 hN hi (.inl hx) rv (fun s3 I5 => assignInOrder_nil (wpAny_pure ?_)) (.inr hx)))
  rw [List.set_comm _ _ (Ne.symm hij)] at I5
  exact ⟨_, H1, I5, q1⟩
/-- name op= e -/
def tAug (i : Nat) (te : TE) (ti : TIp) : TS := fun D σ H => ∃ x, σ[i]? = some (some x) ∧ te σ H fun y H1 => ti x y H1 fun z H2 => D.nx (σ.set i (some z)) H2
theorem ps_aug {i : Nat} {x : Str} {e : Expr} {te : TE} {op : Operator} {ti : TIp} {pos' : Pos} (hN : X.N.Nodup) (hi : X.N[i]? = some x) (hx : Loc X.env.scope x) (he : PE X e te) (ho : PIp X op ti) (hf : X.fn x = true ∨ X.env.scope.names.lookup x = some .local := by first | exact .inl rfl | exact .inr rfl | assumption) :
    PS X (.AugAssign (.Name x pos') op e pos) (tAug i te ti) := by
  intro pins s σ H D I h
  obtain ⟨v, e1, h⟩ := h
  obtain ⟨m, hn, hl⟩ := I.loc
  have vis : Vis X.env.scope x := by rcases hx with k | k; exact .inl k; exact .inr (.inl k)
  obtain ⟨u, r, l⟩ := hl i x v hi e1 vis
  refine wpAny_AugAssign_Name ?_
  have go : wpAny (model X.prog X.w) X.A (eval e X.env) (fun w s₂ => wpAny (model X.prog X.w) X.A (inplaceOp op u w) (fun r s₃ => wpAny (model X.prog X.w) X.A (storeName X.env x r) (fun _ => SP X pins D .next) X.xe s₃) X.xe s₂) X.xe s := by
    refine thn (he pins s σ H _ I h) fun w s1 ⟨y, H1, I1, r1, q1⟩ => ?_
    refine thn (ho pins s1 σ H1 v y u w _ I1 r r1 q1) fun z s2 ⟨zv, H2, I2, r2, q2⟩ => ?_
    exact store_ok I2 hN hi hx r2 (fun s3 I3 => ⟨_, H2, I3, q2⟩) hf
  rcases l with ⟨hk, hm⟩ | ⟨hk, c, hc, hcell⟩
  · exact wpAny_loadName_local I.ok.kind hk hn hm go
  · rcases hk with hk | hk
    · exact wpAny_loadName_cell I.ok.kind hk hc hcell go
    · rcases hx with k | k
      · have : X.env.scope.names.lookup x = some .free := hk
        rw [k] at this; cases this
      · have : X.env.scope.names.lookup x = some .free := hk
        rw [k] at this; cases this
/-- o[i] op= e -/
def tAugS (to ti te : TE) (tget : V → V → Hp → VK → Prop) (tip : TIp) (tset : TSet) : TS := fun D σ H => to σ H fun o H1 => ti σ H1 fun i H2 => tget o i H2 fun x H3 => te σ H3 fun y H4 => tip x y H4 fun z H5 => tset o i z H5 fun H6 => D.nx σ H6
/-- o[i], by values -/
def PGet (X : Cx) (t : V → V → Hp → VK → Prop) : Prop :=
  ∀ (pins : List (Addr × Obj)) (s : Shared) (σ : St) (H : Hp) (o i : V) (ov iv : Value) (Q : VK), Inv X pins σ H s → RelV o ov → RelV i iv → t o i H Q →
    wpAny (model X.prog X.w) X.A (getItem ov iv) (EP X pins σ Q) X.xe s
theorem ps_augS {o i e : Expr} {to ti te : TE} {tget : V → V → Hp → VK → Prop} {tip : TIp} {tset : TSet} {op : Operator} {tpos : Pos} (ho : PE X o to) (hi : PE X i ti) (hg : PGet X tget) (he : PE X e te) (hp : PIp X op tip) (hs : PSet X tset)
    (ha : ∀ ov iv new, augStore i ov iv new = (do holding [new, ov, iv] (setItem ov iv new); release [new, ov, iv] []; pure .next) := by intros; rfl) : PS X (.AugAssign (.Subscript o i tpos) op e pos) (tAugS to ti te tget tip tset) := by
  intro pins s σ H D I h
  refine wpAny_AugAssign_SubscriptAny (thn (ho pins s σ H _ I h) fun ov s1 ⟨x1, H1, I1, r1, q1⟩ => ?_) ha
  refine thn (hi pins s1 σ H1 _ I1 q1) fun iv s2 ⟨x2, H2, I2, r2, q2⟩ => ?_
  refine thn (hg pins s2 σ H2 x1 x2 ov iv _ I2 r1 r2 q2) fun old s3 ⟨x3, H3, I3, r3, q3⟩ => ?_
  refine thn (he pins s3 σ H3 _ I3 q3) fun v s4 ⟨x4, H4, I4, r4, q4⟩ => ?_
  refine thn (hp pins s4 σ H4 x3 x4 old v _ I4 r3 r4 q4) fun new s5 ⟨x5, H5, I5, r5, q5⟩ => ?_
  exact thn (hs pins s5 σ H5 x1 x2 x5 ov iv new _ I5 r1 r2 r5 q5) fun _ s6 ⟨H6, I6, q6⟩ => ⟨σ, H6, I6, q6⟩
/-- ints -/
def ipI (f : Int → Int → Int) : TIp := fun x y H Q => ∃ i j, x = .int i ∧ y = .int j ∧ Q (.int (f i j)) H
theorem ip_add : PIp X .Add (ipI fun i j => i + j) := by
  intro pins s σ H x y v u Q I r1 r2 h
  obtain ⟨i, j, e1, e2, q⟩ := h
  subst e1; subst e2
  obtain ⟨t, rfl⟩ := r1
  obtain ⟨t', rfl⟩ := r2
  exact iadd_int ⟨.int _, H, I.tok _, ⟨_, rfl⟩, q⟩
theorem ip_sub : PIp X .Sub (ipI fun i j => i - j) := by
  intro pins s σ H x y v u Q I r1 r2 h
  obtain ⟨i, j, e1, e2, q⟩ := h
  subst e1; subst e2
  obtain ⟨t, rfl⟩ := r1
  obtain ⟨t', rfl⟩ := r2
  exact isub_int ⟨.int _, H, I.tok _, ⟨_, rfl⟩, q⟩
end

/-! ### while -/
section
variable {X : Cx} {pos : Pos}
/-- the invariant W with its measure -/
def tWhile (c : TT) (tb : TS) : TS := fun D σ H => ∃ W : Nat → St → Hp → Prop, (∃ m, W m σ H) ∧ ∀ m σ H, W m σ H →
  c σ H fun b H1 => if b = true then ∃ N : St → Hp → Prop, (∀ σ' H', N σ' H' → ∃ m', m' < m ∧ W m' σ' H') ∧ tb { D with nx := N, ct := N, bk := D.nx } σ H1 else D.nx σ H1
theorem ps_while {c : Expr} {body : List Stmt} {tc : TT} {tb : TS} (hp : PassesOwn (model X.prog X.w) X.A X.env X.xe) (hc : PT X c tc) (hb : PSs X body tb) : PS X (.While c body [] pos) (tWhile tc tb) := by
  intro pins s σ H D I h
  obtain ⟨W, ⟨m0, w0⟩, turn⟩ := h
  refine wpAny_While (codeAny_whileLoop (fun n s' => ∃ σ' H', Inv X pins σ' H' s' ∧ W n σ' H') ?_ m0 ⟨σ, H, I, w0⟩)
  rintro n s1 ⟨σ1, H1, I1, w1⟩
  refine wpAny_passesOwn hp (thn (hc pins s1 σ1 H1 _ I1 (turn n σ1 H1 w1)) fun b s2 ⟨H2, I2, q2⟩ => ?_)
  cases b with
  | true =>
    obtain ⟨N, hN, q2⟩ := q2
    rw [if_pos rfl]
    refine wpAny_passesOwn hp (thn (hb pins s2 σ1 H2 _ I2 q2) fun f s3 q3 => ?_)
    cases f with
    | next =>
      obtain ⟨σ3, H3, I3, n3⟩ := q3
      obtain ⟨m', hm, w3⟩ := hN σ3 H3 n3
      exact ⟨m', hm, σ3, H3, I3, w3⟩
    | cont =>
      obtain ⟨σ3, H3, I3, n3⟩ := q3
      obtain ⟨m', hm, w3⟩ := hN σ3 H3 n3
      exact ⟨m', hm, σ3, H3, I3, w3⟩
    | brk => exact q3
    | ret v => exact q3
  | false =>
    rw [if_neg Bool.false_ne_true]
    exact wpAny_execs_nil ⟨σ1, H2, I2, q2⟩
end

/-! ### what a loop or a comprehension walks -/
/-- at turn i: it yields x (the heap may grow), or it stops -/
structure It where
  go : Nat → Hp → Prop
  yld : Nat → Hp → V → Hp → Prop
  stop : Nat → Hp → Prop
/-- the iterator's own objects may turn: they are not the frame's, not pinned, younger than the entry (or a comprehension's own) -/
def FpOk (X : Cx) (pins : List (Addr × Obj)) (H : Hp) (b : Addr) : Prop :=
  H b = none ∧ b ≠ X.env.locals ∧ b ∉ X.fs ∧ (b ∈ X.ex ∨ X.s₀.heap.objs.size ≤ b) ∧ (∀ x c, X.env.cells.lookup x = some c → c ≠ b) ∧ ∀ p ∈ X.pn ++ pins, p.1 ≠ b
theorem Inv.fpOk {X : Cx} {pins : List (Addr × Obj)} {σ : St} {H H' : Hp} {s : Shared} {b : Addr} (I : Inv X pins σ H s) (hb : s.heap.objs.size ≤ b) (hn : H' b = none) : FpOk X pins H' b := by
  refine ⟨hn, Nat.ne_of_gt (Nat.lt_of_lt_of_le I.lt hb), I.nofs hb, .inr (Nat.le_trans I.sz hb), fun x c e z => ?_, fun p hp z => ?_⟩
  · obtain ⟨v, q⟩ := I.cell x c e
    exact absurd (Nat.lt_of_lt_of_le q.lt (by rw [z]; exact hb)) (Nat.lt_irrefl _)
  · exact absurd (Nat.lt_of_lt_of_le (Heap.lt_size (I.pin p hp).1) (by rw [z]; exact hb)) (Nat.lt_irrefl _)
structure Turn (P : Program) (w : World) (K : PySem.W.Frag) (tg : Expr) (J : It) (fp : List Addr) (it : Addr) (tn : Nat → Heap → Prop) : Prop where
  mem : it ∈ fp
  obj : ∀ i h, tn i h → ∀ b ∈ fp, ∃ o, h.get? b = some o ∧ ∀ v, o.data ≠ .cell v
  keep : ∀ i h h', tn i h → (∀ b ∈ fp, ∀ o, h.get? b = some o → h'.get? b = some o) → tn i h'
  item : ∀ (X : Cx), X.prog = P → X.w = w → X.K = K → X.calm = true → ∀ (i : Nat) (pins : List (Addr × Obj)) (s : Shared) (σ : St) (H : Hp) (E : Value → Shared → Prop), Inv X pins σ H s → (∀ b ∈ fp, FpOk X pins H b) → tn i s.heap → J.go i H →
    wpAny (model P w) X.A (pyNext (.ref it)) (fun r s1 => ∃ u, r = some u ∧
      wpAny (model P w) X.A (letOwnedTupleGo tg (.ref it) u) (fun _ s2 => ∃ x H', Inv X pins σ H' s2 ∧ RelV x u ∧ J.yld i H x H' ∧ tn (i + 1) s2.heap ∧ ∀ b ∈ fp, H' b = none) E s1) E s
  done : ∀ (X : Cx), X.prog = P → X.w = w → X.K = K → X.calm = true → ∀ (i : Nat) (pins : List (Addr × Obj)) (s : Shared) (σ : St) (H : Hp) (E : Value → Shared → Prop), Inv X pins σ H s → (∀ b ∈ fp, FpOk X pins H b) → tn i s.heap → J.stop i H →
    wpAny (model P w) X.A (pyNext (.ref it)) (fun r s1 => r = none ∧ Inv X pins σ H s1) E s
  self : ∀ (A : Around) (i : Nat) (s : Shared) (Q : Value → Shared → Prop) (E : Value → Shared → Prop), tn i s.heap → Q (.ref it) s → wpAny (model P w) A (pyIter (.ref it)) Q E s
abbrev TI := St → Hp → (It → Hp → Prop) → Prop
/-- an iterator has come -/
def PIE (X : Cx) (pins : List (Addr × Obj)) (σ : St) (tg : Expr) (R : It → Hp → Prop) (itv : Value) (s2 : Shared) : Prop :=
  ∃ (it : Addr) (fp : List Addr) (tn : Nat → Heap → Prop) (J : It) (H' : Hp), itv = .ref it ∧ Inv X pins σ H' s2 ∧ Turn X.prog X.w X.K tg J fp it tn ∧ tn 0 s2.heap ∧ (∀ b ∈ fp, FpOk X pins H' b) ∧ R J H'
def PI (X : Cx) (tg iter : Expr) (wi : TI) : Prop :=
  ∀ (pins : List (Addr × Obj)) (s : Shared) (σ : St) (H : Hp) (R : It → Hp → Prop), Inv X pins σ H s → wi σ H R →
    wpAny (model X.prog X.w) X.A (eval iter X.env) (fun v s1 => wpAny (model X.prog X.w) X.A (pyIter v) (PIE X pins σ tg R) X.xe s1) X.xe s

/-- the step ahead of the store is nothing for an iterator that keeps no tuple -/
theorem go_of {M : Model} {A : Around} {E : Value → Shared → Prop} {s : Shared} {tg : Expr} {it : Addr} {u : Value} {o : Obj} {n : String} {vs : Array Value} {Q : Unit → Shared → Prop} (ho : s.heap.get? it = some o) (hc : o.cls = .type n) (hd : o.data = .fields vs)
    (hn : ["enumerate", "zip", "dict_itemiterator", "dict_reverseitemiterator", "odict_iterator", "itertools.zip_longest", "itertools.pairwise"].contains n = false) (hQ : Q () s) : wpAny M A (letOwnedTupleGo tg (.ref it) u) Q E s := by
  unfold letOwnedTupleGo
  cases tg <;> first
    | exact wpAny_pure hQ
    | (cases u <;> first
        | exact wpAny_pure hQ
        | (refine wpAny_bind (wpAny_load ho ?_)
           rw [hc, hd]
           show wpAny M A (if (["enumerate", "zip", "dict_itemiterator", "dict_reverseitemiterator", "odict_iterator", "itertools.zip_longest", "itertools.pairwise"].contains n && vs[0]? == some (rawInt _)) = true then _ else _) Q E s
           rw [if_neg (by intro h; rw [hn, Bool.false_and] at h; cases h)]
           exact wpAny_pure hQ))

/-- the list at a, as it stands at each turn (a loop may append to it) -/
def Itl (K : PySem.W.Frag) (a : Addr) : It :=
  ⟨fun i H => ∃ xs x, SqL K H a xs ∧ xs[i]? = some x, fun i H x H' => H' = H ∧ ∀ xs, SqL K H a xs → xs[i]? = some x, fun i H => ∃ xs, SqL K H a xs ∧ xs.length ≤ i⟩
def Itt (K : PySem.W.Frag) (a : Addr) : It :=
  ⟨fun i H => ∃ xs x, SqT K H a xs ∧ xs[i]? = some x, fun i H x H' => H' = H ∧ ∀ xs, SqT K H a xs → xs[i]? = some x, fun i H => ∃ xs, SqT K H a xs ∧ xs.length ≤ i⟩
/-- lo, lo + 1, .. (n of them) -/
def Itr (lo : Int) (n : Nat) : It := ⟨fun i _ => i < n, fun i H x H' => H' = H ∧ x = .int (lo + i), fun i _ => n ≤ i⟩
theorem turn_list {P : Program} {w : World} {K : PySem.W.Frag} {tg : Expr} (a it : Addr) : Turn P w K tg (Itl K a) [it] it (fun i h => h.IsListIter it a i) where
  mem := by simp
  obj := fun i h st b hb => by
    have e : b = it := by simpa using hb
    subst e
    obtain ⟨o, e, c, d⟩ := st
    exact ⟨o, e, fun v z => by rw [d] at z; cases z⟩
  keep := fun i h h' st k => st.at fun o e => k it (by simp) o e
  item := by
    intro X hP hw hK hc i pins s σ H E I hf st hg
    subst hP hw hK
    obtain ⟨xs, x, hq, hx⟩ := hg
    obtain ⟨its, rv, p, hz⟩ := I.list hq
    obtain ⟨u, hu, ru⟩ := rv.get hx
    obtain ⟨f0, f1, f2, f3, f4, f5⟩ := hf it (by simp)
    refine wpAny_pyNext_list_item st p.isList (x := u) (by simpa using hu) fun h' st' sb => ?_
    have I1 : Inv X pins σ H { s with heap := h' } := I.turned (t' := s.toks) (fun b o hb e => (sb.2 b hb).trans e) f0 f1 f3 f4 f5
    obtain ⟨o, e, c, d⟩ := id st'
    exact ⟨u, rfl, go_of (s := { s with heap := h' }) e c d (by decide) ⟨x, H, I1, ru, ⟨rfl, fun ys hy => by rw [I.list_inj hy hq]; exact hx⟩, st', fun b hb => (hf b hb).1⟩⟩
  done := by
    intro X hP hw hK hc i pins s σ H E I hf st hg
    subst hP hw hK
    obtain ⟨xs, hq, hx⟩ := hg
    obtain ⟨its, rv, p, hz⟩ := I.list hq
    obtain ⟨f0, f1, f2, f3, f4, f5⟩ := hf it (by simp)
    have hl := rv.length
    exact wpAny_pyNext_list_end (I.ok.hd hc) st p.isList (by simp; omega) fun h' eb => ⟨rfl, I.turned (t' := s.toks) (fun b o hb e => eb b o hb e) f0 f1 f3 f4 f5⟩
  self := fun _ _ _ _ _ st h => wpAny_pyIter_listiter st h
theorem turn_tuple {P : Program} {w : World} {K : PySem.W.Frag} {tg : Expr} (a it : Addr) : Turn P w K tg (Itt K a) [it] it (fun i h => h.IsTupleIter it a i) where
  mem := by simp
  obj := fun i h st b hb => by
    have e : b = it := by simpa using hb
    subst e
    obtain ⟨o, e, c, d⟩ := st
    exact ⟨o, e, fun v z => by rw [d] at z; cases z⟩
  keep := fun i h h' st k => st.at fun o e => k it (by simp) o e
  item := by
    intro X hP hw hK hc i pins s σ H E I hf st hg
    subst hP hw hK
    obtain ⟨xs, x, hq, hx⟩ := hg
    obtain ⟨its, rv, p, hz⟩ := I.tuple hq
    obtain ⟨u, hu, ru⟩ := rv.get hx
    obtain ⟨f0, f1, f2, f3, f4, f5⟩ := hf it (by simp)
    refine wpAny_pyNext_tuple_item st (show s.heap.IsTuple a its.toArray from p) (x := u) (by simpa using hu) fun h' st' sb => ?_
    have I1 : Inv X pins σ H { s with heap := h' } := I.turned (t' := s.toks) (fun b o hb e => (sb.2 b hb).trans e) f0 f1 f3 f4 f5
    obtain ⟨o, e, c, d⟩ := id st'
    exact ⟨u, rfl, go_of (s := { s with heap := h' }) e c d (by decide) ⟨x, H, I1, ru, ⟨rfl, fun ys hy => by rw [I.tuple_inj hy hq]; exact hx⟩, st', fun b hb => (hf b hb).1⟩⟩
  done := by
    intro X hP hw hK hc i pins s σ H E I hf st hg
    subst hP hw hK
    obtain ⟨xs, hq, hx⟩ := hg
    obtain ⟨its, rv, p, hz⟩ := I.tuple hq
    obtain ⟨f0, f1, f2, f3, f4, f5⟩ := hf it (by simp)
    have hl := rv.length
    exact wpAny_pyNext_tuple_end (I.ok.hd hc) st (show s.heap.IsTuple a its.toArray from p) (by simp; omega) fun h' eb => ⟨rfl, I.turned (t' := s.toks) (fun b o hb e => eb b o hb e) f0 f1 f3 f4 f5⟩
  self := fun _ _ _ _ _ st h => wpAny_pyIter_tupleiter st h
theorem turn_range {P : Program} {w : World} {K : PySem.W.Frag} {tg : Expr} (it : Addr) (lo : Int) (n : Nat) : Turn P w K tg (Itr lo n) [it] it (fun i h => IsRangeIter h it (lo + (i : Nat) * 1) ((n : Int) - (i : Nat)) 1) where
  mem := by simp
  obj := fun i h st b hb => by
    have e : b = it := by simpa using hb
    subst e
    exact ⟨_, st, fun v z => by
      have z' : Data.fields _ = Data.cell v := z
      cases z'⟩
  keep := fun i h h' st k => k it (by simp) _ st
  item := by
    intro X hP hw hK hc i pins s σ H E I hf st hg
    subst hP hw hK
    obtain ⟨f0, f1, f2, f3, f4, f5⟩ := hf it (by simp)
    have W := Walks.range (prog := X.prog) (w := X.w) (I.ok.hd hc) it lo 1 n
    refine W.item i s _ _ hg st fun v h' tk hv st' kk => ?_
    obtain ⟨t, rfl⟩ := hv
    have I1 : Inv X pins σ H { s with heap := h', toks := tk } := I.turned (fun b o hb e => kk b o (by simpa using hb) e) f0 f1 f3 f4 f5
    refine ⟨_, rfl, go_of (s := { s with heap := h', toks := tk }) (n := "range_iterator") st' rfl rfl (by decide) ⟨.int (lo + i), H, I1, ⟨t, ?_⟩, ⟨rfl, rfl⟩, st', fun b hb => (hf b hb).1⟩⟩
    rw [Int.mul_one]
  done := by
    intro X hP hw hK hc i pins s σ H E I hf st hg
    subst hP hw hK
    obtain ⟨f0, f1, f2, f3, f4, f5⟩ := hf it (by simp)
    exact wpAny_pyNext_range_end (I.ok.hd hc) st (by have : n ≤ i := hg; omega) fun h' eb => ⟨rfl, I.turned (t' := s.toks) (fun b o hb e => eb b o hb e) f0 f1 f3 f4 f5⟩
  self := fun _ _ _ _ _ st h => wpAny_pyIter_rangeiter st h
end L2

namespace L2
open PySem PySem.Spec PyProof.Rows
section
variable {X : Cx} {tg : Expr}
def iList (K : PySem.W.Frag) (tl : TE) : TI := fun σ H R => tl σ H fun x H1 => ∃ a, x = .ref a ∧ (∃ xs, SqL K H1 a xs) ∧ R (Itl K a) H1
def iTup (K : PySem.W.Frag) (tl : TE) : TI := fun σ H R => tl σ H fun x H1 => ∃ a, x = .ref a ∧ (∃ xs, SqT K H1 a xs) ∧ R (Itt K a) H1
theorem pi_list {l : Expr} {tl : TE} (hl : PE X l tl) : PI X tg l (iList X.K tl) := by
  intro pins s σ H R I h
  refine thn (hl pins s σ H _ I h) fun v s1 ⟨x, H1, I1, r1, q1⟩ => ?_
  obtain ⟨a, e, ⟨xs, hq⟩, q⟩ := q1
  subst e
  cases r1
  obtain ⟨its, rv, p, hz⟩ := I1.list hq
  refine wpAny_pyIter_list p.isList ?_
  refine ⟨s1.heap.objs.size, [s1.heap.objs.size], _, _, H1, rfl, I1.kept (t' := s1.toks) fun b o e => Heap.get?_push_of_some _ e, turn_list a _, ⟨_, Heap.get?_push_size _ rfl, rfl, rfl⟩, fun b hb => ?_, q⟩
  have e : b = s1.heap.objs.size := by simpa using hb
  subst e
  exact I1.fpOk (Nat.le_refl _) (I1.hok.fresh (Nat.le_refl _))
theorem pi_tup {l : Expr} {tl : TE} (hl : PE X l tl) : PI X tg l (iTup X.K tl) := by
  intro pins s σ H R I h
  refine thn (hl pins s σ H _ I h) fun v s1 ⟨x, H1, I1, r1, q1⟩ => ?_
  obtain ⟨a, e, ⟨xs, hq⟩, q⟩ := q1
  subst e
  cases r1
  obtain ⟨its, rv, p, hz⟩ := I1.tuple hq
  refine wpAny_pyIter_tuple (show s1.heap.IsTuple a its.toArray from p) ?_
  refine ⟨s1.heap.objs.size, [s1.heap.objs.size], _, _, H1, rfl, I1.kept (t' := s1.toks) fun b o e => Heap.get?_push_of_some _ e, turn_tuple a _, ⟨_, Heap.get?_push_size _ rfl, rfl, rfl⟩, fun b hb => ?_, q⟩
  have e : b = s1.heap.objs.size := by simpa using hb
  subst e
  exact I1.fpOk (Nat.le_refl _) (I1.hok.fresh (Nat.le_refl _))
/-- a range object just made, walked -/
theorem range_it {pins : List (Addr × Obj)} {σ : St} {H : Hp} {s : Shared} {R : It → Hp → Prop} {E : Value → Shared → Prop} {lo hi : Int} {t u v : Tok} {tk : Nat} (I : Inv X pins σ H s) (h1 : -(2 ^ 62) ≤ lo) (h2 : lo < 2 ^ 62) (h3 : -(2 ^ 62) ≤ hi) (h4 : hi < 2 ^ 62)
    (q : R (Itr lo (hi - lo).toNat) H) : wpAny (model X.prog X.w) X.A (pyIter (.ref s.heap.objs.size)) (PIE X pins σ tg R) E { s with heap := s.heap.push { cls := .type "range", data := .fields #[.int lo t, .int hi u, .int 1 v] }, toks := tk } := by
  refine wpAny_pyIter_range (IsRange.new ..) (small_one h1 h2 h3 h4) ?_
  have I1 : Inv X pins σ H { s with heap := s.heap.push { cls := .type "range", data := .fields #[.int lo t, .int hi u, .int 1 v] }, toks := tk } := I.kept fun b o e => Heap.get?_push_of_some _ e
  refine ⟨(s.heap.push { cls := .type "range", data := .fields #[.int lo t, .int hi u, .int 1 v] }).objs.size, [(s.heap.push { cls := .type "range", data := .fields #[.int lo t, .int hi u, .int 1 v] }).objs.size], _, _, H, rfl,
    I1.kept (t' := tk) fun b o e => Heap.get?_push_of_some _ e, turn_range _ lo (hi - lo).toNat, ?_, fun b hb => ?_, q⟩
  · have e1 : lo + ((0 : Nat) : Int) * 1 = lo := by simp
    have e2 : (((hi - lo).toNat : Nat) : Int) - ((0 : Nat) : Int) = Builtin.Range.rangeSize lo hi 1 := by rw [rangeSize_one]; split <;> omega
    show IsRangeIter _ _ (lo + ((0 : Nat) : Int) * 1) ((((hi - lo).toNat : Nat) : Int) - ((0 : Nat) : Int)) 1
    rw [e1, e2]
    exact Heap.get?_push_size _ rfl
  · have e : b = (s.heap.push { cls := .type "range", data := .fields #[.int lo t, .int hi u, .int 1 v] }).objs.size := by simpa using hb
    subst e
    exact I1.fpOk (Nat.le_refl _) (I1.hok.fresh (Nat.le_refl _))
def iRng1 (ta : TA) : TI := fun σ H R => ta σ H fun vs H1 => ∃ j : Int, vs = [.int j] ∧ -(2 ^ 62) ≤ j ∧ j < 2 ^ 62 ∧ R (Itr 0 j.toNat) H1
def iRng2 (ta : TA) : TI := fun σ H R => ta σ H fun vs H1 => ∃ i j : Int, vs = [.int i, .int j] ∧ (-(2 ^ 62) ≤ i ∧ i < 2 ^ 62 ∧ -(2 ^ 62) ≤ j ∧ j < 2 ^ 62) ∧ R (Itr i (j - i).toNat) H1
theorem pi_range1 {a : Expr} {ta : TA} {p pos : Pos} (hg : Gl X "range") (hm : X.mg "range" = none) (ha : PA X [a] ta) (hs : starEach [a] X.env = [(false, eval a X.env)] := by rfl) : PI X tg (.Call (.Name "range" p) [a] [] pos) (iRng1 ta) := by
  intro pins s σ H R I h
  refine Call_ (ld_blt I hg hm boot_range (PyProof.Rows.callWith_type1 (thn (ha pos pins s σ H _ I h) fun us s1 ⟨vs, H1, I1, r1, q1⟩ => ?_) hs rfl))
  obtain ⟨j, e, q1, q2, q⟩ := q1
  subst e
  cases r1 with
  | cons r rr =>
    cases rr
    obtain ⟨t, rfl⟩ := r
    exact call_range_1 (range_it I1 (by omega) (by omega) q1 q2 (by simpa using q))
theorem pi_range2 {a b : Expr} {ta : TA} {p pos : Pos} (hg : Gl X "range") (hm : X.mg "range" = none) (ha : PA X [a, b] ta) (hs : starEach [a, b] X.env = [(false, eval a X.env), (false, eval b X.env)] := by rfl) (hs2 : starEach [b] X.env = [(false, eval b X.env)] := by rfl) :
    PI X tg (.Call (.Name "range" p) [a, b] [] pos) (iRng2 ta) := by
  intro pins s σ H R I h
  refine Call_ (ld_blt I hg hm boot_range (PyProof.Rows.callWith_type1 (thn (ha pos pins s σ H _ I h) fun us s1 ⟨vs, H1, I1, r1, q1⟩ => ?_) (by rw [hs, hs2]) (by rw [hs2]; rfl)))
  obtain ⟨i, j, e, ⟨q1, q2, q3, q4⟩, q⟩ := q1
  subst e
  cases r1 with
  | cons r rr =>
    cases rr with
    | cons r' rr =>
      cases rr
      obtain ⟨t, rfl⟩ := r
      obtain ⟨t', rfl⟩ := r'
      exact call_range_2 (range_it I1 q1 q2 q3 q4 q)

/-! ### for -/
/-- W: the invariant by the turn and a measure; N: what the body is to reach -/
def tFor (wi : TI) (g : TG) (tb : TS) : TS := fun D σ H => wi σ H fun J H1 => ∃ W : Nat → Nat → St → Hp → Prop, (∃ m, W 0 m σ H1) ∧ ∀ i m σ H, W i m σ H →
  (J.stop i H ∧ D.nx σ H) ∨ (J.go i H ∧ ∃ N : St → Hp → Prop, (∀ σ' H', N σ' H' → ∃ m', m' < m ∧ W (i + 1) m' σ' H') ∧ ∀ x H', J.yld i H x H' → g x σ H' fun σ2 H2 => tb { D with nx := N, ct := N, bk := D.nx } σ2 H2)
/-- the records at fp as they stand -/
def pinsAt (fp : List Addr) (h : Heap) : List (Addr × Obj) := fp.filterMap fun b => (h.get? b).map fun o => (b, o)
theorem mem_pinsAt {fp : List Addr} {h : Heap} {b : Addr} {o : Obj} (hb : b ∈ fp) (e : h.get? b = some o) : (b, o) ∈ pinsAt fp h := List.mem_filterMap.mpr ⟨b, hb, by rw [e]; rfl⟩
theorem of_pinsAt {fp : List Addr} {h : Heap} {p : Addr × Obj} (hp : p ∈ pinsAt fp h) : p.1 ∈ fp ∧ h.get? p.1 = some p.2 := by
  obtain ⟨b, hb, e⟩ := List.mem_filterMap.mp hp
  cases q : h.get? b with
  | none => rw [q] at e; cases e
  | some o =>
    rw [q] at e
    have e' : (b, o) = p := Option.some.inj e
    subst e'
    exact ⟨hb, q⟩
theorem Inv.pinned {pins : List (Addr × Obj)} {σ : St} {H : Hp} {s : Shared} {fp : List Addr} (I : Inv X pins σ H s) (hf : ∀ b ∈ fp, FpOk X pins H b) (ho : ∀ b ∈ fp, ∃ o, s.heap.get? b = some o ∧ ∀ v, o.data ≠ .cell v) : Inv X (pins ++ pinsAt fp s.heap) σ H s :=
  I.pins_of fun p hp => (List.mem_append.mp hp).elim (fun z => I.pin p (List.mem_append_right _ z)) fun z => by
    obtain ⟨hb, e⟩ := of_pinsAt z
    obtain ⟨f0, f1, f2, _⟩ := hf p.1 hb
    obtain ⟨o, e', d⟩ := ho p.1 hb
    rw [e] at e'; cases e'
    exact ⟨e, f0, f1, f2, d⟩
theorem Inv.unpinned {pins pl : List (Addr × Obj)} {σ : St} {H : Hp} {s : Shared} (I : Inv X (pins ++ pl) σ H s) : Inv X pins σ H s := I.pins_of fun p hp => I.pin p (List.mem_append_right _ (List.mem_append_left _ hp))
theorem ps_for {iter : Expr} {body : List Stmt} {wi : TI} {g : TG} {tb : TS} {pos : Pos} (hp : PassesOwn (model X.prog X.w) X.A X.env X.xe) (hc : X.calm = true) (hi : PI X tg iter wi) (hg : PG X tg g) (hb : PSs X body tb)
    (hs : ∀ x, foldedSetIterable iter X.env x = pure x := by intro _; rfl) : PS X (.For tg iter body [] pos) (tFor wi g tb) := by
  intro pins s σ H D I h
  refine wpAny_For (thn (hi pins s σ H _ I h) fun v s1 h1 => thn h1 fun itv s2 h2 => ?_) hs
  obtain ⟨it, fp, tn, J, H2, e, I2, T, st2, f2, W, ⟨m0, w0⟩, turn⟩ := h2
  subst e
  -- what stays true of the iterator's objects through the loop
  have stat : ∀ {H' : Hp}, (∀ b ∈ fp, H' b = none) → ∀ b ∈ fp, FpOk X pins H' b := fun hn b hb => ⟨hn b hb, (f2 b hb).2⟩
  refine codeAny_forLoop_any (fun n s' => ∃ i σ' H', Inv X pins σ' H' s' ∧ tn i s'.heap ∧ (∀ b ∈ fp, H' b = none) ∧ W i n σ' H') ?_ m0 ⟨0, σ, H2, I2, st2, fun b hb => (f2 b hb).1, w0⟩
  rintro n s3 ⟨i, σ3, H3, I3, st3, fr3, w3⟩
  rcases turn i n σ3 H3 w3 with ⟨stop, qn⟩ | ⟨go, N, hN, step⟩
  · refine wpAny_passesOwn hp (thn (T.done X rfl rfl rfl hc i pins s3 σ3 H3 X.xe I3 (stat fr3) st3 stop) fun r s4 ⟨hr, I4⟩ => ?_)
    subst hr
    exact wpAny_execs_nil ⟨σ3, H3, I4, qn⟩
  · refine wpAny_passesOwn hp (thn (T.item X rfl rfl rfl hc i pins s3 σ3 H3 X.xe I3 (stat fr3) st3 go) fun r s4 ⟨u, hr, h4⟩ => ?_)
    subst hr
    refine wpAny_passesOwn hp (thn h4 fun _ s5 ⟨x, H5, I5, r5, y5, st5, fr5⟩ => ?_)
    have I5' := I5.pinned (stat fr5) (T.obj _ _ st5)
    refine wpAny_passesOwn hp (thn (hg _ s5 σ3 H5 x u _ I5' r5 (step x H5 y5)) fun _ s6 ⟨σ6, H6, I6, q6⟩ => ?_)
    refine wpAny_passesOwn hp (thn (hb _ s6 σ6 H6 _ I6 q6) fun f s7 q7 => ?_)
    have again : ∀ {σ7 : St} {H7 : Hp}, Inv X (pins ++ pinsAt fp s5.heap) σ7 H7 s7 → N σ7 H7 → ∃ m, m < n ∧ ∃ i σ' H', Inv X pins σ' H' s7 ∧ tn i s7.heap ∧ (∀ b ∈ fp, H' b = none) ∧ W i m σ' H' := fun {σ7 H7} I7 n7 => by
      obtain ⟨m', hm, w7⟩ := hN σ7 H7 n7
      refine ⟨m', hm, i + 1, σ7, H7, I7.unpinned, T.keep _ _ _ st5 fun b hb o e => (I7.pin (b, o) (List.mem_append_right _ (List.mem_append_right _ (mem_pinsAt hb e)))).1, fun b hb => ?_, w7⟩
      obtain ⟨o, e, d⟩ := T.obj _ _ st5 b hb
      exact (I7.pin (b, o) (List.mem_append_right _ (List.mem_append_right _ (mem_pinsAt hb e)))).2.1
    cases f with
    | next => obtain ⟨σ7, H7, I7, n7⟩ := q7; exact again I7 n7
    | cont => obtain ⟨σ7, H7, I7, n7⟩ := q7; exact again I7 n7
    | brk => obtain ⟨σ7, H7, I7, q7⟩ := q7; exact ⟨σ7, H7, I7.unpinned, q7⟩
    | ret v => obtain ⟨x7, σ7, H7, I7, r7, q7⟩ := q7; exact ⟨x7, σ7, H7, I7.unpinned, r7, q7⟩
end

/-! ### the forms one uses -/
/-- over a list that the body leaves as it is -/
theorem for_list {K : PySem.W.Frag} {a : Addr} {xs : List V} {g : TG} {tb : TS} {D : Ends} {σ : St} {H : Hp} (Pv : Nat → St → Hp → Prop) (h0 : Pv 0 σ H) (hl : ∀ i σ H, i ≤ xs.length → Pv i σ H → SqL K H a xs)
    (hs : ∀ i x σ H, xs[i]? = some x → Pv i σ H → g x σ H fun σ2 H2 => tb { D with nx := Pv (i + 1), ct := Pv (i + 1), bk := D.nx } σ2 H2) (hd : ∀ σ H, Pv xs.length σ H → D.nx σ H) :
    ∃ W : Nat → Nat → St → Hp → Prop, (∃ m, W 0 m σ H) ∧ ∀ i m σ H, W i m σ H →
      ((Itl K a).stop i H ∧ D.nx σ H) ∨ ((Itl K a).go i H ∧ ∃ N : St → Hp → Prop, (∀ σ' H', N σ' H' → ∃ m', m' < m ∧ W (i + 1) m' σ' H') ∧ ∀ x H', (Itl K a).yld i H x H' → g x σ H' fun σ2 H2 => tb { D with nx := N, ct := N, bk := D.nx } σ2 H2) := by
  refine ⟨fun i m σ H => m = xs.length - i ∧ i ≤ xs.length ∧ Pv i σ H, ⟨xs.length, by simp, Nat.zero_le _, h0⟩, ?_⟩
  rintro i m σ H ⟨rfl, hi, p⟩
  have q := hl i σ H hi p
  by_cases hlt : i < xs.length
  · refine .inr ⟨⟨xs, xs[i], q, by simp [hlt]⟩, Pv (i + 1), fun σ' H' p' => ⟨xs.length - (i + 1), by omega, rfl, hlt, p'⟩, fun x H' y => ?_⟩
    obtain ⟨e, y⟩ := y
    subst e
    exact hs i x σ _ (y xs q) p
  · have e : i = xs.length := by omega
    subst e
    exact .inl ⟨⟨xs, q, Nat.le_refl _⟩, hd σ H p⟩
theorem for_tup {K : PySem.W.Frag} {a : Addr} {xs : List V} {g : TG} {tb : TS} {D : Ends} {σ : St} {H : Hp} (Pv : Nat → St → Hp → Prop) (h0 : Pv 0 σ H) (hl : ∀ i σ H, i ≤ xs.length → Pv i σ H → SqT K H a xs)
    (hs : ∀ i x σ H, xs[i]? = some x → Pv i σ H → g x σ H fun σ2 H2 => tb { D with nx := Pv (i + 1), ct := Pv (i + 1), bk := D.nx } σ2 H2) (hd : ∀ σ H, Pv xs.length σ H → D.nx σ H) :
    ∃ W : Nat → Nat → St → Hp → Prop, (∃ m, W 0 m σ H) ∧ ∀ i m σ H, W i m σ H →
      ((Itt K a).stop i H ∧ D.nx σ H) ∨ ((Itt K a).go i H ∧ ∃ N : St → Hp → Prop, (∀ σ' H', N σ' H' → ∃ m', m' < m ∧ W (i + 1) m' σ' H') ∧ ∀ x H', (Itt K a).yld i H x H' → g x σ H' fun σ2 H2 => tb { D with nx := N, ct := N, bk := D.nx } σ2 H2) := by
  refine ⟨fun i m σ H => m = xs.length - i ∧ i ≤ xs.length ∧ Pv i σ H, ⟨xs.length, by simp, Nat.zero_le _, h0⟩, ?_⟩
  rintro i m σ H ⟨rfl, hi, p⟩
  have q := hl i σ H hi p
  by_cases hlt : i < xs.length
  · refine .inr ⟨⟨xs, xs[i], q, by simp [hlt]⟩, Pv (i + 1), fun σ' H' p' => ⟨xs.length - (i + 1), by omega, rfl, hlt, p'⟩, fun x H' y => ?_⟩
    obtain ⟨e, y⟩ := y
    subst e
    exact hs i x σ _ (y xs q) p
  · have e : i = xs.length := by omega
    subst e
    exact .inl ⟨⟨xs, q, Nat.le_refl _⟩, hd σ H p⟩
theorem for_range {lo : Int} {n : Nat} {g : TG} {tb : TS} {D : Ends} {σ : St} {H : Hp} (Pv : Nat → St → Hp → Prop) (h0 : Pv 0 σ H)
    (hs : ∀ i σ H, i < n → Pv i σ H → g (.int (lo + i)) σ H fun σ2 H2 => tb { D with nx := Pv (i + 1), ct := Pv (i + 1), bk := D.nx } σ2 H2) (hd : ∀ σ H, Pv n σ H → D.nx σ H) :
    ∃ W : Nat → Nat → St → Hp → Prop, (∃ m, W 0 m σ H) ∧ ∀ i m σ H, W i m σ H →
      ((Itr lo n).stop i H ∧ D.nx σ H) ∨ ((Itr lo n).go i H ∧ ∃ N : St → Hp → Prop, (∀ σ' H', N σ' H' → ∃ m', m' < m ∧ W (i + 1) m' σ' H') ∧ ∀ x H', (Itr lo n).yld i H x H' → g x σ H' fun σ2 H2 => tb { D with nx := N, ct := N, bk := D.nx } σ2 H2) := by
  refine ⟨fun i m σ H => m = n - i ∧ i ≤ n ∧ Pv i σ H, ⟨n, by simp, Nat.zero_le _, h0⟩, ?_⟩
  rintro i m σ H ⟨rfl, hi, p⟩
  by_cases hlt : i < n
  · refine .inr ⟨hlt, Pv (i + 1), fun σ' H' p' => ⟨n - (i + 1), by omega, rfl, hlt, p'⟩, fun x H' y => ?_⟩
    obtain ⟨e, y⟩ := y
    subst e y
    exact hs i σ _ hlt p
  · have e : i = n := by omega
    subst e
    exact .inl ⟨Nat.le_refl _, hd σ H p⟩
/-- while, by a word and a measure of the state -/
theorem while_by {c : TT} {tb : TS} {D : Ends} {σ : St} {H : Hp} (Pv : St → Hp → Prop) (μ : St → Hp → Nat) (h0 : Pv σ H)
    (hs : ∀ σ H, Pv σ H → c σ H fun b H1 => if b = true then tb { D with nx := fun σ' H' => Pv σ' H' ∧ μ σ' H' < μ σ H, ct := fun σ' H' => Pv σ' H' ∧ μ σ' H' < μ σ H, bk := D.nx } σ H1 else D.nx σ H1)
    (mono : ∀ σ H Q Q', (∀ b H1, Q b H1 → Q' b H1) → c σ H Q → c σ H Q') : tWhile c tb D σ H := by
  refine ⟨fun m σ H => m = μ σ H ∧ Pv σ H, ⟨_, rfl, h0⟩, ?_⟩
  rintro m σ H ⟨rfl, p⟩
  refine mono σ H _ _ (fun b H1 q => ?_) (hs σ H p)
  cases b with
  | true => exact ⟨_, fun σ' H' ⟨p', l⟩ => ⟨_, l, rfl, p'⟩, q⟩
  | false => exact q
end L2

namespace L2
open PySem PySem.Spec PyProof.Rows

abbrev R2 := V → V → Hp → VK → Prop
/-- a two-place operation on values: f is binaryOp op, inplaceOp op or compareOp op -/
def OpR (X : Cx) (f : Value → Value → Sem Value) (r : R2) : Prop :=
  ∀ (pins : List (Addr × Obj)) (s : Shared) (σ : St) (H : Hp) (x y : V) (v u : Value) (Q : VK), Inv X pins σ H s → RelV x v → RelV y u → r x y H Q →
    wpAny (model X.prog X.w) X.A (f v u) (EP X pins σ Q) X.xe s
/-- a one-place operation -/
def UnR (X : Cx) (f : Value → Sem Value) (r : V → Hp → VK → Prop) : Prop :=
  ∀ (pins : List (Addr × Obj)) (s : Shared) (σ : St) (H : Hp) (x : V) (v : Value) (Q : VK), Inv X pins σ H s → RelV x v → r x H Q →
    wpAny (model X.prog X.w) X.A (f v) (EP X pins σ Q) X.xe s
/-- a call of a value that is known (a builtin, a type) with values -/
def CallR (X : Cx) (f : Value) (r : List V → Hp → VK → Prop) : Prop :=
  ∀ (pins : List (Addr × Obj)) (s : Shared) (σ : St) (H : Hp) (xs : List V) (us : List Value) (Q : VK), Inv X pins σ H s → Vals xs us → r xs H Q →
    wpAny (model X.prog X.w) X.A (call f us) (EP X pins σ Q) X.xe s
/-- a value's truth -/
def TruR (X : Cx) (r : V → Hp → (Bool → Hp → Prop) → Prop) : Prop :=
  ∀ (pins : List (Addr × Obj)) (s : Shared) (σ : St) (H : Hp) (x : V) (v : Value) (Q : Bool → Hp → Prop), Inv X pins σ H s → RelV x v → r x H Q →
    wpAny (model X.prog X.w) X.A (truthy v) (TP X pins σ Q) X.xe s

def tOp (r : R2) (ta tb : TE) : TE := fun σ H Q => ta σ H fun x H1 => tb σ H1 fun y H2 => r x y H2 Q
def tUn (r : V → Hp → VK → Prop) (ta : TE) : TE := fun σ H Q => ta σ H fun x H1 => r x H1 Q
/-- ints in, under C, and a value out -/
def rI (C : Int → Int → Prop) (g : Int → Int → V) : R2 := fun x y H Q => ∃ i j, x = .int i ∧ y = .int j ∧ C i j ∧ Q (g i j) H
def rI0 (g : Int → Int → V) : R2 := fun x y H Q => ∃ i j, x = .int i ∧ y = .int j ∧ Q (g i j) H
def rU (g : Int → V) : V → Hp → VK → Prop := fun x H Q => ∃ i, x = .int i ∧ Q (g i) H

section
variable {X : Cx} {a b c : Expr} {ta tb tc : TE} {pos : Pos}

theorem binT (ha : PE X a ta) (hb : PE X b tb) {pins : List (Addr × Obj)} {s : Shared} {σ : St} {H : Hp} {R : V → V → Hp → Prop} (I : Inv X pins σ H s)
    (h : ta σ H fun x H1 => tb σ H1 fun y H2 => R x y H2) {Q : Value → Shared → Prop} {f : Value → Value → Sem Value}
    (hf : ∀ v u s2 x y H2, Inv X pins σ H2 s2 → RelV x v → RelV y u → R x y H2 → wpAny (model X.prog X.w) X.A (f v u) Q X.xe s2) :
    wpAny (model X.prog X.w) X.A (eval a X.env) (fun v s₁ => wpAny (model X.prog X.w) X.A (eval b X.env) (fun u s₂ => wpAny (model X.prog X.w) X.A (f v u) Q X.xe s₂) X.xe s₁) X.xe s := by
  refine thn (ha pins s σ H _ I h) fun v s1 ⟨x, H1, I1, r1, q1⟩ => ?_
  refine thn (hb pins s1 σ H1 _ I1 q1) fun u s2 ⟨y, H2, I2, r2, q2⟩ => ?_
  exact hf v u s2 x y H2 I2 r1 r2 q2

theorem pe_op {op : Operator} {r : R2} (ho : OpR X (binaryOp op) r) (ha : PE X a ta) (hb : PE X b tb) : PE X (.BinOp a op b pos) (tOp r ta tb) := by
  intro pins s σ H Q I h
  exact wpAny_BinOp (binT ha hb I h fun v u s2 x y H2 I2 rx ry q => ho pins s2 σ H2 x y v u Q I2 rx ry q)
theorem pe_un {op : UnaryOp} {r : V → Hp → VK → Prop} (ho : UnR X (unaryOp op) r) (ha : PE X a ta) : PE X (.UnaryOp op a pos) (tUn r ta) := by
  intro pins s σ H Q I h
  exact UnaryOp_ (thn (ha pins s σ H _ I h) fun v s1 ⟨x, H1, I1, r1, q1⟩ => ho pins s1 σ H1 x v Q I1 r1 q1)
/-- a op= e at a name: the name's slot i -/
theorem augR {op : Operator} {r : R2} (ho : OpR X (inplaceOp op) r) {pins : List (Addr × Obj)} {s : Shared} {σ : St} {H : Hp} {x y : V} {v u : Value} {Q : VK} (I : Inv X pins σ H s)
    (rx : RelV x v) (ry : RelV y u) (q : r x y H Q) : wpAny (model X.prog X.w) X.A (inplaceOp op v u) (EP X pins σ Q) X.xe s := ho pins s σ H x y v u Q I rx ry q

/-! ### ints -/
theorem opI {f : Value → Value → Sem Value} {C : Int → Int → Prop} {g : Int → Int → Int}
    (rule : ∀ (i j : Int) (t u : Tok) (s : Shared) (Q : Value → Shared → Prop) (E : Value → Shared → Prop), C i j → Q (.int (g i j) s.toks) { s with toks := s.toks + 1 } → wpAny (model X.prog X.w) X.A (f (.int i t) (.int j u)) Q E s) :
    OpR X f (rI C fun i j => .int (g i j)) := by
  intro pins s σ H x y v u Q I rx ry h
  obtain ⟨i, j, rfl, rfl, hc, q⟩ := h
  obtain ⟨t, rfl⟩ := rx
  obtain ⟨t', rfl⟩ := ry
  exact rule i j t t' s _ _ hc ⟨.int (g i j), H, I.tok _, ⟨_, rfl⟩, q⟩
theorem opI0 {f : Value → Value → Sem Value} {g : Int → Int → Int}
    (rule : ∀ (i j : Int) (t u : Tok) (s : Shared) (Q : Value → Shared → Prop) (E : Value → Shared → Prop), Q (.int (g i j) s.toks) { s with toks := s.toks + 1 } → wpAny (model X.prog X.w) X.A (f (.int i t) (.int j u)) Q E s) :
    OpR X f (rI0 fun i j => .int (g i j)) := by
  intro pins s σ H x y v u Q I rx ry h
  obtain ⟨i, j, rfl, rfl, q⟩ := h
  obtain ⟨t, rfl⟩ := rx
  obtain ⟨t', rfl⟩ := ry
  exact rule i j t t' s _ _ ⟨.int (g i j), H, I.tok _, ⟨_, rfl⟩, q⟩
theorem opB0 {f : Value → Value → Sem Value} {g : Int → Int → Bool}
    (rule : ∀ (i j : Int) (t u : Tok) (s : Shared) (Q : Value → Shared → Prop) (E : Value → Shared → Prop), Q (.bool (g i j)) s → wpAny (model X.prog X.w) X.A (f (.int i t) (.int j u)) Q E s) :
    OpR X f (rI0 fun i j => .bl (g i j)) := by
  intro pins s σ H x y v u Q I rx ry h
  obtain ⟨i, j, rfl, rfl, q⟩ := h
  obtain ⟨t, rfl⟩ := rx
  obtain ⟨t', rfl⟩ := ry
  exact rule i j t t' s _ _ ⟨.bl (g i j), H, I, rfl, q⟩

def CDiv (i j : Int) : Prop := 0 < j ∧ j < 1073741824
def CDivN (i j : Int) : Prop := j ≠ 0 ∧ j.natAbs < 1073741824
def CPow (i j : Int) : Prop := 0 ≤ j ∧ j ≤ 1000000 ∧ i.natAbs < 2 ^ 64
def CMul (i j : Int) : Prop := (-(2 ^ 64) < i ∧ i < 2 ^ 64) ∨ (-(2 ^ 64) < j ∧ j < 2 ^ 64)
theorem CMul.ok {i j : Int} (h : CMul i j) : IntMulOk i j := by
  rcases h with ⟨h1, h2⟩ | ⟨h1, h2⟩
  · exact .of_left (intBits_le_64 h1 h2)
  · exact .of_right (intBits_le_64 h1 h2)
theorem two_pow_nn (k : Nat) : (0 : Int) ≤ 2 ^ k := by
  rw [two_pow_cast]
  exact Int.natCast_nonneg _

theorem op_add : OpR X (binaryOp .Add) (rI0 fun i j => .int (i + j)) := opI0 fun _ _ _ _ _ _ _ q => add_int q
theorem op_sub : OpR X (binaryOp .Sub) (rI0 fun i j => .int (i - j)) := opI0 fun _ _ _ _ _ _ _ q => sub_int q
theorem op_mul : OpR X (binaryOp .Mult) (rI CMul fun i j => .int (i * j)) := opI fun _ _ _ _ _ _ _ hc q => mul_int q hc.ok
/-- // by a positive divisor -/
theorem op_fdiv : OpR X (binaryOp .FloorDiv) (rI CDiv fun i j => .int (i / j)) := opI fun i j _ _ _ _ _ hc q => by
  have h1 : (0 : Int) < j := hc.1
  have h2 : j < 1073741824 := hc.2
  exact floordiv_int (by omega) (by rw [Int.fdiv_eq_ediv_of_nonneg i (by omega)]; exact q) (.inl (PyProof.noPylong_small (by omega)))
theorem op_fdivN : OpR X (binaryOp .FloorDiv) (rI CDivN fun i j => .int (i.fdiv j)) := opI fun _ _ _ _ _ _ _ hc q => floordiv_int hc.1 q (.inl (PyProof.noPylong_small hc.2))
/-- % by a positive divisor of any size -/
theorem op_mod : OpR X (binaryOp .Mod) (rI (fun _ j => 0 < j) fun i j => .int (i % j)) := opI fun i j _ _ _ _ _ hc q => by
  have h1 : (0 : Int) < j := hc
  exact mod_int' (by omega) (by rw [Int.fmod_eq_emod_of_nonneg i (by omega)]; exact q)
theorem op_modN : OpR X (binaryOp .Mod) (rI (fun _ j => j ≠ 0) fun i j => .int (i.fmod j)) := opI fun _ _ _ _ _ _ _ hc q => mod_int' hc q
theorem op_pow : OpR X (binaryOp .Pow) (rI CPow fun i j => .int (i ^ j.toNat)) := opI fun _ _ _ _ _ _ _ hc q => pow_int_small hc.1 hc.2.1 hc.2.2 q
theorem op_shl : OpR X (binaryOp .LShift) (rI CPow fun i j => .int (i * 2 ^ j.toNat)) := opI fun _ _ _ _ _ _ _ hc q => lshift_int_small hc.1 hc.2.1 hc.2.2 q
theorem op_shr : OpR X (binaryOp .RShift) (rI (fun _ j => 0 ≤ j) fun i j => .int (i / 2 ^ j.toNat)) := opI fun i j _ _ _ _ _ hc q =>
  rshift_int hc (by rw [Int.fdiv_eq_ediv_of_nonneg i (two_pow_nn _)]; exact q)
theorem op_and : OpR X (binaryOp .BitAnd) (rI0 fun i j => .int (Builtin.bitAnd i j)) := opI0 fun _ _ _ _ _ _ _ q => and_int q
theorem op_or : OpR X (binaryOp .BitOr) (rI0 fun i j => .int (Builtin.bitOr i j)) := opI0 fun _ _ _ _ _ _ _ q => or_int q
theorem op_xor : OpR X (binaryOp .BitXor) (rI0 fun i j => .int (Builtin.bitXor i j)) := opI0 fun _ _ _ _ _ _ _ q => xor_int q

theorem iop_add : OpR X (inplaceOp .Add) (rI0 fun i j => .int (i + j)) := opI0 fun _ _ _ _ _ _ _ q => iadd_int q
theorem iop_sub : OpR X (inplaceOp .Sub) (rI0 fun i j => .int (i - j)) := opI0 fun _ _ _ _ _ _ _ q => isub_int q
theorem iop_mul : OpR X (inplaceOp .Mult) (rI CMul fun i j => .int (i * j)) := opI fun _ _ _ _ _ _ _ hc q => imul_int q hc.ok
theorem iop_fdiv : OpR X (inplaceOp .FloorDiv) (rI CDiv fun i j => .int (i / j)) := opI fun i j _ _ _ _ _ hc q => by
  have h1 : (0 : Int) < j := hc.1
  have h2 : j < 1073741824 := hc.2
  exact ifloordiv_int (by omega) (by rw [Int.fdiv_eq_ediv_of_nonneg i (by omega)]; exact q) (.inl (PyProof.noPylong_small (by omega)))
theorem iop_mod : OpR X (inplaceOp .Mod) (rI (fun _ j => 0 < j) fun i j => .int (i % j)) := opI fun i j _ _ _ _ _ hc q => by
  have h1 : (0 : Int) < j := hc
  exact imod_int (by omega) (by rw [Int.fmod_eq_emod_of_nonneg i (by omega)]; exact q)
theorem iop_shl : OpR X (inplaceOp .LShift) (rI CPow fun i j => .int (i * 2 ^ j.toNat)) := opI fun _ _ _ _ _ _ _ hc q => ilshift_int_small hc.1 hc.2.1 hc.2.2 q
theorem iop_shr : OpR X (inplaceOp .RShift) (rI (fun _ j => 0 ≤ j) fun i j => .int (i / 2 ^ j.toNat)) := opI fun i j _ _ _ _ _ hc q =>
  irshift_int hc (by rw [Int.fdiv_eq_ediv_of_nonneg i (two_pow_nn _)]; exact q)
theorem iop_and : OpR X (inplaceOp .BitAnd) (rI0 fun i j => .int (Builtin.bitAnd i j)) := opI0 fun _ _ _ _ _ _ _ q => iand_int q
theorem iop_or : OpR X (inplaceOp .BitOr) (rI0 fun i j => .int (Builtin.bitOr i j)) := opI0 fun _ _ _ _ _ _ _ q => ior_int q
theorem iop_xor : OpR X (inplaceOp .BitXor) (rI0 fun i j => .int (Builtin.bitXor i j)) := opI0 fun _ _ _ _ _ _ _ q => ixor_int q

theorem unI {f : Value → Sem Value} {g : Int → Int}
    (rule : ∀ (i : Int) (t : Tok) (s : Shared) (Q : Value → Shared → Prop) (E : Value → Shared → Prop), Q (.int (g i) s.toks) { s with toks := s.toks + 1 } → wpAny (model X.prog X.w) X.A (f (.int i t)) Q E s) :
    UnR X f (rU fun i => .int (g i)) := by
  intro pins s σ H x v Q I rx h
  obtain ⟨i, rfl, q⟩ := h
  obtain ⟨t, rfl⟩ := rx
  exact rule i t s _ _ ⟨.int (g i), H, I.tok _, ⟨_, rfl⟩, q⟩
theorem un_neg : UnR X (unaryOp .USub) (rU fun i => .int (-i)) := unI fun _ _ _ _ _ q => neg_int q
theorem un_inv : UnR X (unaryOp .Invert) (rU fun i => .int (Builtin.bitNot i)) := unI fun _ _ _ _ _ q => invert_int q

/-! ### bools among ints: n += (a < b) -/
theorem op_add_ib : OpR X (binaryOp .Add) (fun x y H Q => ∃ i k, x = .int i ∧ y = .bl k ∧ Q (.int (i + b2i k)) H) := by
  intro pins s σ H x y v u Q I rx ry h
  obtain ⟨i, k, rfl, rfl, q⟩ := h
  obtain ⟨t, rfl⟩ := rx
  cases ry
  exact add_int_bool ⟨.int (i + b2i k), H, I.tok _, ⟨_, rfl⟩, q⟩
end

/-! ### comparisons -/
/-- the scalars that == tells apart as data does -/
def scal : V → V → Bool
  | .non, .non => true | .non, .int _ => true | .int _, .non => true | .non, .bl _ => true | .bl _, .non => true | .non, .str _ => true | .str _, .non => true
  | .int _, .int _ => true | .bl _, .bl _ => true | .str _, .str _ => true | .byt _, .byt _ => true
  | .int _, .str _ => true | .str _, .int _ => true | .bl _, .str _ => true | .str _, .bl _ => true
  | _, _ => false
def rEq : R2 := fun x y H Q => scal x y = true ∧ Q (.bl (decide (x = y))) H
def rNe : R2 := fun x y H Q => scal x y = true ∧ Q (.bl (!decide (x = y))) H

theorem dec_int {i j : Int} : decide (V.int i = V.int j) = (i == j) := by
  rw [Bool.eq_iff_iff]
  simp
theorem dec_bl {i j : Bool} : decide (V.bl i = V.bl j) = (i == j) := by
  rw [Bool.eq_iff_iff]
  simp
theorem dec_str {i j : Str} : decide (V.str i = V.str j) = (i == j) := by
  rw [Bool.eq_iff_iff]
  simp
theorem dec_byt {i j : Array UInt8} : decide (V.byt i = V.byt j) = (i.toList == j.toList) := by
  rw [Bool.eq_iff_iff]
  cases i
  cases j
  simp

section
variable {X : Cx} {a b c : Expr} {ta tb tc : TE} {pos : Pos}
theorem fin_bl {pins : List (Addr × Obj)} {σ : St} {H : Hp} {s : Shared} {Q : VK} {k k' : Bool} (I : Inv X pins σ H s) (q : Q (.bl k) H) (e : k = k') : EP X pins σ Q (.bool k') s := by
  subst e
  exact ⟨.bl k, H, I, rfl, q⟩
theorem op_eq : OpR X (compareOp .Eq) rEq := by
  intro pins s σ H x y v u Q I rx ry h
  obtain ⟨hs, q⟩ := h
  cases x with
  | non =>
    cases rx
    cases y with
    | non => cases ry; exact PySem.EqNone.eq_none_none (fin_bl I q (by simp))
    | bl j => cases ry; exact PySem.EqNone.eq_none_bool (fin_bl I q (by simp))
    | int j => obtain ⟨t', rfl⟩ := ry; exact PySem.EqNone.eq_none_int (fin_bl I q (by simp))
    | str j => obtain ⟨t', rfl⟩ := ry; exact PySem.EqNone.eq_none_str (fin_bl I q (by simp))
    | _ => exact absurd (show false = true from hs) Bool.false_ne_true
  | bl i =>
    cases rx
    cases y with
    | non => cases ry; exact PySem.EqNone.eq_bool_none (fin_bl I q (by simp))
    | bl j => cases ry; exact eq_bool (fin_bl I q dec_bl)
    | str j => obtain ⟨t', rfl⟩ := ry; exact PySem.EqMixed.eq_bool_str (fin_bl I q (by simp))
    | _ => exact absurd (show false = true from hs) Bool.false_ne_true
  | int i =>
    obtain ⟨t, rfl⟩ := rx
    cases y with
    | non => cases ry; exact PySem.EqNone.eq_int_none (fin_bl I q (by simp))
    | int j => obtain ⟨t', rfl⟩ := ry; exact eq_int (fin_bl I q dec_int)
    | str j => obtain ⟨t', rfl⟩ := ry; exact PySem.EqMixed.eq_int_str (fin_bl I q (by simp))
    | _ => exact absurd (show false = true from hs) Bool.false_ne_true
  | str i =>
    obtain ⟨t, rfl⟩ := rx
    cases y with
    | non => cases ry; exact PySem.EqNone.eq_str_none (fin_bl I q (by simp))
    | bl j => cases ry; exact PySem.EqMixed.eq_str_bool (fin_bl I q (by simp))
    | int j => obtain ⟨t', rfl⟩ := ry; exact PySem.EqMixed.eq_str_int (fin_bl I q (by simp))
    | str j => obtain ⟨t', rfl⟩ := ry; exact eq_str (fin_bl I q dec_str)
    | _ => exact absurd (show false = true from hs) Bool.false_ne_true
  | byt i =>
    obtain ⟨t, rfl⟩ := rx
    cases y with
    | byt j => obtain ⟨t', rfl⟩ := ry; exact PySem.W.eq_bytes (fin_bl I q dec_byt)
    | _ => exact absurd (show false = true from hs) Bool.false_ne_true
  | _ => cases y <;> exact absurd (show false = true from hs) Bool.false_ne_true
theorem op_ne : OpR X (compareOp .NotEq) rNe := by
  intro pins s σ H x y v u Q I rx ry h
  obtain ⟨hs, q⟩ := h
  cases x with
  | non =>
    cases rx
    cases y with
    | non => cases ry; exact PySem.EqNone.ne_none_none (fin_bl I q (by simp))
    | bl j => cases ry; exact PySem.EqNone.ne_none_bool (fin_bl I q (by simp))
    | int j => obtain ⟨t', rfl⟩ := ry; exact PySem.EqNone.ne_none_int (fin_bl I q (by simp))
    | str j => obtain ⟨t', rfl⟩ := ry; exact PySem.EqNone.ne_none_str (fin_bl I q (by simp))
    | _ => exact absurd (show false = true from hs) Bool.false_ne_true
  | bl i =>
    cases rx
    cases y with
    | non => cases ry; exact PySem.EqNone.ne_bool_none (fin_bl I q (by simp))
    | bl j => cases ry; exact ne_bool (fin_bl I q (congrArg not dec_bl))
    | str j => obtain ⟨t', rfl⟩ := ry; exact PySem.EqMixed.ne_bool_str (fin_bl I q (by simp))
    | _ => exact absurd (show false = true from hs) Bool.false_ne_true
  | int i =>
    obtain ⟨t, rfl⟩ := rx
    cases y with
    | non => cases ry; exact PySem.EqNone.ne_int_none (fin_bl I q (by simp))
    | int j => obtain ⟨t', rfl⟩ := ry; exact ne_int (fin_bl I q (congrArg not dec_int))
    | str j => obtain ⟨t', rfl⟩ := ry; exact PySem.EqMixed.ne_int_str (fin_bl I q (by simp))
    | _ => exact absurd (show false = true from hs) Bool.false_ne_true
  | str i =>
    obtain ⟨t, rfl⟩ := rx
    cases y with
    | non => cases ry; exact PySem.EqNone.ne_str_none (fin_bl I q (by simp))
    | bl j => cases ry; exact PySem.EqMixed.ne_str_bool (fin_bl I q (by simp))
    | int j => obtain ⟨t', rfl⟩ := ry; exact PySem.EqMixed.ne_str_int (fin_bl I q (by simp))
    | str j => obtain ⟨t', rfl⟩ := ry; exact ne_str (fin_bl I q (congrArg not dec_str))
    | _ => exact absurd (show false = true from hs) Bool.false_ne_true
  | byt i =>
    obtain ⟨t, rfl⟩ := rx
    cases y with
    | byt j => obtain ⟨t', rfl⟩ := ry; exact PySem.W.ne_bytes (fin_bl I q (congrArg not dec_byt))
    | _ => exact absurd (show false = true from hs) Bool.false_ne_true
  | _ => cases y <;> exact absurd (show false = true from hs) Bool.false_ne_true

theorem op_lt : OpR X (compareOp .Lt) (rI0 fun i j => .bl (decide (i < j))) := opB0 fun _ _ _ _ _ _ _ q => lt_int q
theorem op_le : OpR X (compareOp .LtE) (rI0 fun i j => .bl (decide (i ≤ j))) := opB0 fun _ _ _ _ _ _ _ q => le_int q
theorem op_gt : OpR X (compareOp .Gt) (rI0 fun i j => .bl (decide (j < i))) := opB0 fun _ _ _ _ _ _ _ q => gt_int q
theorem op_ge : OpR X (compareOp .GtE) (rI0 fun i j => .bl (decide (j ≤ i))) := opB0 fun _ _ _ _ _ _ _ q => ge_int q
theorem op_lt_str : OpR X (compareOp .Lt) (fun x y H Q => ∃ i j, x = .str i ∧ y = .str j ∧ Q (.bl (decide (i.cps.toList < j.cps.toList))) H) := by
  intro pins s σ H x y v u Q I rx ry h
  obtain ⟨i, j, rfl, rfl, q⟩ := h
  obtain ⟨t, rfl⟩ := rx
  obtain ⟨t', rfl⟩ := ry
  exact lt_str (fin_bl I q rfl)
/-- the one string within the other -/
theorem op_in_str : OpR X (compareOp .In) (fun x y H Q => ∃ i j, x = .str i ∧ y = .str j ∧ Q (.bl (!(Builtin.Str.occurrences j i 0 j.length 1).isEmpty)) H) := by
  intro pins s σ H x y v u Q I rx ry h
  obtain ⟨i, j, rfl, rfl, q⟩ := h
  obtain ⟨t, rfl⟩ := rx
  obtain ⟨t', rfl⟩ := ry
  exact in_str (fin_bl I q rfl)

/-- is None, is not None: the right side a value none -/
theorem op_isN : OpR X (compareOp .Is) (fun x y H Q => y = .non ∧ Q (.bl (decide (x = .non))) H) := by
  intro pins s σ H x y v u Q I rx ry h
  obtain ⟨rfl, q⟩ := h
  cases ry
  refine is_none_gen (fin_bl I q ?_)
  cases x <;> first
    | (cases rx; rfl)
    | (obtain ⟨t, rfl⟩ := rx; rfl)
theorem op_notN : OpR X (compareOp .IsNot) (fun x y H Q => y = .non ∧ Q (.bl (!decide (x = .non))) H) := by
  intro pins s σ H x y v u Q I rx ry h
  obtain ⟨rfl, q⟩ := h
  cases ry
  refine isnot_none_gen (fin_bl I q ?_)
  cases x <;> first
    | (cases rx; rfl)
    | (obtain ⟨t, rfl⟩ := rx; rfl)

theorem op_notin_str : OpR X (compareOp .NotIn) (fun x y H Q => ∃ i j, x = .str i ∧ y = .str j ∧ Q (.bl (!(!(Builtin.Str.occurrences j i 0 j.length 1).isEmpty))) H) := by
  intro pins s σ H x y v u Q I rx ry h
  obtain ⟨i, j, rfl, rfl, q⟩ := h
  obtain ⟨t, rfl⟩ := rx
  obtain ⟨t', rfl⟩ := ry
  exact notIn_str (fin_bl I q rfl)
/-- is, is not of two objects that are tracked lists or instances -/
def isObj : HO → Bool
  | .lst _ => true
  | .ins _ _ _ => true
  | _ => false
theorem obj_there {pins : List (Addr × Obj)} {s : Shared} {σ : St} {H : Hp} {a : Addr} {o : HO} (I : Inv X pins σ H s) (h : H a = some o) (p : isObj o = true) : ∃ ob, s.heap.get? a = some ob ∧ ob.cls ≠ .type "tuple" := by
  cases o with
  | lst xs =>
    obtain ⟨_, its, n, _, e⟩ : xs.length ≤ sizeLine ∧ ∃ (its : List Value) (n : Nat), Vals xs its ∧ s.heap.get? a = some { cls := .type "list", data := .seq its.toArray n } := I.hok a _ h
    exact ⟨_, e, (by show Value.type "list" ≠ .type "tuple"; decide +kernel)⟩
  | ins C dx fs =>
    have x := I.hok a _ h
    obtain ⟨_, _, _, e, _⟩ := x
    exact ⟨_, e, (by show Value.ref C ≠ .type "tuple"; exact fun z => by cases z)⟩
  | _ => exact absurd (show false = true from p) Bool.false_ne_true
theorem op_is_ref : OpR X (compareOp .Is) (fun x y H Q => ∃ a b oa ob, x = .ref a ∧ y = .ref b ∧ H a = some oa ∧ isObj oa = true ∧ H b = some ob ∧ isObj ob = true ∧ Q (.bl (decide (a = b))) H) := by
  intro pins s σ H x y v u Q I rx ry h
  obtain ⟨a, b, oa, ob, rfl, rfl, ha, pa, hb, pb, q⟩ := h
  cases rx
  cases ry
  obtain ⟨o1, e1, n1⟩ := obj_there I ha pa
  obtain ⟨o2, e2, _⟩ := obj_there I hb pb
  by_cases z : a = b
  · subst z
    exact wpAny_is_ref_self (fin_bl I q (by simp))
  · exact wpAny_is_ref_other z e1 e2 n1 (fin_bl I q (by simp [z]))
theorem op_isnot_ref : OpR X (compareOp .IsNot) (fun x y H Q => ∃ a b oa ob, x = .ref a ∧ y = .ref b ∧ H a = some oa ∧ isObj oa = true ∧ H b = some ob ∧ isObj ob = true ∧ Q (.bl (!decide (a = b))) H) := by
  intro pins s σ H x y v u Q I rx ry h
  obtain ⟨a, b, oa, ob, rfl, rfl, ha, pa, hb, pb, q⟩ := h
  cases rx
  cases ry
  obtain ⟨o1, e1, n1⟩ := obj_there I ha pa
  obtain ⟨o2, e2, _⟩ := obj_there I hb pb
  by_cases z : a = b
  · subst z
    exact wpAny_isNot_ref_self (fin_bl I q (by simp))
  · exact wpAny_isNot_ref_other z e1 e2 n1 (fin_bl I q (by simp [z]))

/-- two rules for one operation: by cases -/
theorem OpR.or {f : Value → Value → Sem Value} {r r' : R2} (h : OpR X f r) (h' : OpR X f r') : OpR X f (fun x y H Q => r x y H Q ∨ r' x y H Q) := by
  intro pins s σ H x y v u Q I rx ry q
  rcases q with q | q
  · exact h pins s σ H x y v u Q I rx ry q
  · exact h' pins s σ H x y v u Q I rx ry q

theorem nomark (b : Expr) {op : CmpOp} (h : op ≠ .In := by decide) (h2 : op ≠ .NotIn := by decide) : behindInMarks op b = false := by
  have e1 : (op == CmpOp.In) = false := by cases op <;> first | rfl | exact absurd rfl h
  have e2 : (op == CmpOp.NotIn) = false := by cases op <;> first | rfl | exact absurd rfl h2
  cases b <;> simp [behindInMarks, e1, e2]
/-- a comparison as a value; hm: nomark b, or (for in, not in) by with_unfolding_all rfl -/
theorem pe_cmpR {op : CmpOp} {r : R2} (ho : OpR X (compareOp op) r) (ha : PE X a ta) (hb : PE X b tb) (hm : behindInMarks op b = false) : PE X (.Compare a [op] [b] pos) (tOp r ta tb) := by
  intro pins s σ H Q I h
  exact wpAny_Compare1 (binT ha hb I h fun v u s2 x y H2 I2 rx ry q => ho pins s2 σ H2 x y v u Q I2 rx ry q) hm
/-- a reading of a value as a test -/
def tTest (t : TE) : TT := fun σ H Q => t σ H fun x H' => ∃ k, x = .bl k ∧ Q k H'
theorem pt_cmpR {op : CmpOp} {r : R2} (ho : OpR X (compareOp op) r) (ha : PE X a ta) (hb : PE X b tb) (hm : behindInMarks op b = false) : PT X (.Compare a [op] [b] pos) (tTest (tOp r ta tb)) := by
  intro pins s σ H Q I h
  refine wpAny_isTrue_Compare1 (thn (ha pins s σ H _ I h) fun v s1 ⟨x, H1, I1, r1, q1⟩ => thn (hb pins s1 σ H1 _ I1 q1) fun u s2 ⟨y, H2, I2, r2, q2⟩ =>
    thn (ho pins s2 σ H2 x y v u _ I2 r1 r2 q2) fun c s3 ⟨z, H3, I3, r3, k, e, q3⟩ => ?_) hm
  subst e
  cases r3
  exact wpAny_truthy_bool ⟨H3, I3, q3⟩
/-- a op1 b op2 c -/
def tChain (r r' : R2) (ta tb tc : TE) : TE := fun σ H Q => ta σ H fun x H1 => tb σ H1 fun y H2 => r x y H2 fun z H3 => ∃ k, z = .bl k ∧
  (if k = true then tc σ H3 fun w' H4 => r' y w' H4 Q else Q (.bl false) H3)
theorem pe_chain {op op' : CmpOp} {r r' : R2} (ho : OpR X (compareOp op) r) (ho' : OpR X (compareOp op') r') (ha : PE X a ta) (hb : PE X b tb) (hc : PE X c tc)
    (hm : lastMarks [op, op'] [b, c] = false := by with_unfolding_all rfl) : PE X (.Compare a [op, op'] [b, c] pos) (tChain r r' ta tb tc) := by
  intro pins s σ H Q I h
  refine Compare_chain (thn (ha pins s σ H _ I h) fun v s1 ⟨x, H1, I1, r1, q1⟩ => chain_link (thn (hb pins s1 σ H1 _ I1 q1) fun u s2 ⟨y, H2, I2, r2, q2⟩ =>
    thn (ho pins s2 σ H2 x y v u _ I2 r1 r2 q2) fun d s3 ⟨z, H3, I3, r3, k, e, q3⟩ => ?_)) hm
  subst e
  cases r3
  refine wpAny_truthy_bool ?_
  cases k with
  | false => exact ite_ff ⟨.bl false, H3, I3, rfl, q3⟩
  | true => exact ite_tt (chain_last (thn (hc pins s3 σ H3 _ I3 q3) fun w' s4 ⟨z', H4, I4, r4, q4⟩ => ho' pins s4 σ H4 y z' u w' Q I4 r2 r4 q4))
theorem pt_chain {op op' : CmpOp} {r r' : R2} (ho : OpR X (compareOp op) r) (ho' : OpR X (compareOp op') r') (ha : PE X a ta) (hb : PE X b tb) (hc : PE X c tc)
    (hm : lastMarks [op, op'] [b, c] = false := by with_unfolding_all rfl) : PT X (.Compare a [op, op'] [b, c] pos) (tTest (tChain r r' ta tb tc)) := by
  intro pins s σ H Q I h
  refine isTrue_chain (thn (ha pins s σ H _ I h) fun v s1 ⟨x, H1, I1, r1, q1⟩ => test_link (thn (hb pins s1 σ H1 _ I1 q1) fun u s2 ⟨y, H2, I2, r2, q2⟩ =>
    thn (ho pins s2 σ H2 x y v u _ I2 r1 r2 q2) fun d s3 ⟨z, H3, I3, r3, k, e, q3⟩ => ?_)) hm
  subst e
  cases r3
  refine wpAny_truthy_bool ?_
  cases k with
  | false =>
    obtain ⟨k', e', q'⟩ := q3
    cases e'
    exact ite_ff ⟨H3, I3, q'⟩
  | true =>
    refine ite_tt (test_last (thn (hc pins s3 σ H3 _ I3 q3) fun w' s4 ⟨z', H4, I4, r4, q4⟩ => thn (ho' pins s4 σ H4 y z' u w' _ I4 r2 r4 q4) fun d' s5 ⟨z2, H5, I5, r5, k2, e2, q5⟩ => ?_))
    subst e2
    cases r5
    exact wpAny_truthy_bool ⟨H5, I5, q5⟩

/-! ### truth -/
/-- a value's truth by the abstract heap -/
def TruV (K : PySem.W.Frag) (x : V) (H : Hp) (k : Bool) : Prop :=
  match x with
  | .non => k = false
  | .bl b => k = b
  | .int i => k = (i != 0)
  | .str y => y.length ≤ sizeLine ∧ k = ((y.length : Int) != 0)
  | .byt y => y.size ≤ sizeLine ∧ k = ((y.size : Int) != 0)
  | .ref p => (∃ xs, SqL K H p xs ∧ k = !xs.isEmpty) ∨ (∃ xs, SqT K H p xs ∧ k = !xs.isEmpty) ∨ ∃ kvs, H p = some (.dK kvs) ∧ k = !kvs.isEmpty
  | _ => False
theorem isEmpty_kv {κ : Type} {kvs : List (κ × V)} {vs : List (κ × Value)} (r : KV kvs vs) : (!vs.isEmpty) = !kvs.isEmpty := by
  cases r <;> rfl
theorem isEmpty_of {xs : List V} {its : List Value} (r : Vals xs its) : (!its.toArray.isEmpty) = !xs.isEmpty := by
  cases r <;> simp
theorem line63 : (sizeLine : Nat) < 2 ^ 63 := by rw [sizeLine_eq]; decide
theorem tru_ok : TruR X (fun x H Q => ∃ k, TruV X.K x H k ∧ Q k H) := by
  intro pins s σ H x v Q I rx h
  obtain ⟨k, e, q⟩ := h
  have hl := line63
  have hs : sizeLine = 16777216 := sizeLine_eq
  cases x with
  | non =>
    cases rx
    have e' : k = false := e
    subst e'
    exact truthy_none ⟨H, I, q⟩
  | bl b =>
    cases rx
    have e' : k = b := e
    subst e'
    exact wpAny_truthy_bool ⟨H, I, q⟩
  | int i =>
    obtain ⟨t, rfl⟩ := rx
    have e' : k = (i != 0) := e
    subst e'
    exact PySem.P.truthy_int ⟨H, I, q⟩
  | str y =>
    obtain ⟨t, rfl⟩ := rx
    obtain ⟨hy, e'⟩ : y.length ≤ sizeLine ∧ k = ((y.length : Int) != 0) := e
    subst e'
    exact PySem.P.truthy_str (by omega) ⟨H, I.tok _, q⟩
  | byt y =>
    obtain ⟨t, rfl⟩ := rx
    obtain ⟨hy, e'⟩ : y.size ≤ sizeLine ∧ k = ((y.size : Int) != 0) := e
    subst e'
    exact PySem.W.truthy_bytes (by omega) ⟨H, I.tok _, q⟩
  | ref p =>
    cases rx
    have e' : (∃ xs, SqL X.K H p xs ∧ k = !xs.isEmpty) ∨ (∃ xs, SqT X.K H p xs ∧ k = !xs.isEmpty) ∨ ∃ kvs, H p = some (.dK kvs) ∧ k = !kvs.isEmpty := e
    rcases e' with ⟨xs, hx, e'⟩ | ⟨xs, hx, e'⟩ | ⟨kvs, hx, e'⟩
    · subst e'
      obtain ⟨its, r, pl, hz⟩ := I.list hx
      have hlen := r.length
      exact wpAny_truthy_list pl.isList (by simp only [List.size_toArray]; omega) ⟨H, I.tok _, by rw [isEmpty_of r]; exact q⟩
    · subst e'
      obtain ⟨its, r, pl, hz⟩ := I.tuple hx
      have hlen := r.length
      exact truthy_tuple pl (by simp only [List.size_toArray]; omega) ⟨H, I.tok _, by rw [isEmpty_of r]; exact q⟩
    · subst e'
      obtain ⟨hz, hS, vs, r, m⟩ : kvs.length ≤ sizeLine ∧ (p == sysModules) = false ∧ ∃ vs, KV kvs vs ∧ s.heap.DictOf (mixKind X.prog X.w) p vs := I.hok p _ hx
      have hlen : kvs.length = vs.length := Paired.length r
      exact wpAny_truthy_dict hS m (by omega) ⟨H, I.tok _, by rw [isEmpty_kv r]; exact q⟩
  | _ => exact (show False from e).elim
/-- any expression whose test is its value's truth (a name, a call, a subscript, a field ..: he by fun _ => rfl) -/
theorem pt_truth (ha : PE X a ta) (he : ∀ whole, isTrue a X.env whole = (do let v ← whole; standAt a.pos; holding [v] (truthy v))) :
    PT X a (fun σ H Q => ta σ H fun x H' => ∃ k, TruV X.K x H' k ∧ Q k H') := by
  intro pins s σ H Q I h
  exact isTrue_plain (thn (ha pins s σ H _ I h) fun v s1 ⟨x, H1, I1, r1, q1⟩ => tru_ok pins s1 σ H1 x v Q I1 r1 q1) (he _)

/-! ### strs and bytes -/
theorem pe_byt {x : List UInt8} {k : Nat} : PE X (.Constant (.bytes x) k pos) (fun _ H Q => Q (.byt x.toArray) H) := fun _ _ _ H _ I h => PySem.W.Constant_bytes ⟨.byt x.toArray, H, I.tok _, ⟨_, rfl⟩, h⟩
theorem op_add_str : OpR X (binaryOp .Add) (fun x y H Q => ∃ i j, x = .str i ∧ y = .str j ∧ i.length + j.length ≤ sizeLine ∧ Q (.str (i ++ j)) H) := by
  intro pins s σ H x y v u Q I rx ry h
  obtain ⟨i, j, rfl, rfl, hz, q⟩ := h
  obtain ⟨t, rfl⟩ := rx
  obtain ⟨t', rfl⟩ := ry
  exact add_str (fun t' tk => ⟨.str (i ++ j), H, I.tok _, ⟨_, rfl⟩, q⟩) hz
theorem iop_add_str : OpR X (inplaceOp .Add) (fun x y H Q => ∃ i j, x = .str i ∧ y = .str j ∧ i.length + j.length ≤ sizeLine ∧ Q (.str (i ++ j)) H) := by
  intro pins s σ H x y v u Q I rx ry h
  obtain ⟨i, j, rfl, rfl, hz, q⟩ := h
  obtain ⟨t, rfl⟩ := rx
  obtain ⟨t', rfl⟩ := ry
  exact iadd_str (fun t' tk => ⟨.str (i ++ j), H, I.tok _, ⟨_, rfl⟩, q⟩) hz
theorem op_add_byt : OpR X (binaryOp .Add) (fun x y H Q => ∃ i j, x = .byt i ∧ y = .byt j ∧ i.size + j.size ≤ 16777216 ∧ Q (.byt (i ++ j)) H) := by
  intro pins s σ H x y v u Q I rx ry h
  obtain ⟨i, j, rfl, rfl, hz, q⟩ := h
  obtain ⟨t, rfl⟩ := rx
  obtain ⟨t', rfl⟩ := ry
  exact PySem.W.KBy.add_bytes hz (fun t' tk => ⟨.byt (i ++ j), H, I.tok _, ⟨_, rfl⟩, q⟩)

def PlainIxT (b : Expr) : Prop := ∀ o i, subscripted b false o i = operate [o, i] (getItem o i)
/-- s[i], 0 ≤ i < len -/
theorem pe_item_str (ha : PE X a ta) (hb : PE X b tb) (hs : PlainIxT b) :
    PE X (.Subscript a b pos) (tOp (fun x y H Q => ∃ z i c, x = .str z ∧ y = .int i ∧ 0 ≤ i ∧ i < 2 ^ 63 ∧ i < z.length ∧ z.cps[i.toNat]? = some c ∧ Q (.str ⟨#[c]⟩) H) ta tb) := by
  intro pins s σ H Q I h
  refine Subscript_ (binT ha hb I h fun v u s2 x y H2 I2 rx ry q => ?_)
  obtain ⟨z, i, c, rfl, rfl, h0, h63, h1, hc, q⟩ := q
  obtain ⟨t, rfl⟩ := rx
  obtain ⟨t', rfl⟩ := ry
  have e : seqIndex? i z.length = some i.toNat := PySem.StrLaws.seqIndex_nonneg h0 h1
  exact tail_any (typeIs_str s2 z t) slot_str_getitem.lookup (getItem_str (c := c) (by
    have e1 : decide (i < -(2 ^ 63 : Int)) = false := decide_eq_false (by omega)
    have e2 : decide (i ≥ 2 ^ 63) = false := decide_eq_false (by omega)
    rw [e1, e2] <;> rfl) (by rw [e]; exact hc) ⟨.str ⟨#[c]⟩, H2, I2.tok _, ⟨_, rfl⟩, q⟩) (hs _ _)
/-- b[i], 0 ≤ i < len -/
theorem pe_item_byt (ha : PE X a ta) (hb : PE X b tb) (hs : PlainIxT b) :
    PE X (.Subscript a b pos) (tOp (fun x y H Q => ∃ (z : List UInt8) (i : Int), x = .byt z.toArray ∧ y = .int i ∧ z.length ≤ sizeLine ∧ 0 ≤ i ∧ i < z.length ∧ Q (.int ((z.getD i.toNat 0).toNat : Nat)) H) ta tb) := by
  intro pins s σ H Q I h
  refine Subscript_ (binT ha hb I h fun v u s2 x y H2 I2 rx ry q => ?_)
  obtain ⟨z, i, rfl, rfl, hz, h0, h1, q⟩ := q
  obtain ⟨t, rfl⟩ := rx
  obtain ⟨t', rfl⟩ := ry
  have hl : sizeLine = 16777216 := sizeLine_eq
  exact tail_any (PySem.W.typeIs_bytes s2 z.toArray t) PySem.W.FB.slot_bytes_getitem.lookup (PySem.W.getItem_bytes (by omega) h0 h1 ⟨.int ((z.getD i.toNat 0).toNat : Nat), H2, I2.tok _, ⟨_, rfl⟩, q⟩) (hs _ _)

/-! ### scalar builtins, by CallR -/
theorem vals1 {x : V} {us : List Value} (r : Vals [x] us) : ∃ u, us = [u] ∧ RelV x u := by
  cases r with
  | cons r1 r2 => cases r2; exact ⟨_, rfl, r1⟩
theorem vals2 {x y : V} {us : List Value} (r : Vals [x, y] us) : ∃ u w', us = [u, w'] ∧ RelV x u ∧ RelV y w' := by
  cases r with
  | cons r1 r2 =>
    cases r2 with
    | cons r3 r4 => cases r4; exact ⟨_, _, rfl, r1, r3⟩
theorem call_abs : CallR X (.builtin "abs") (fun xs H Q => ∃ i, xs = [.int i] ∧ Q (.int (if i < 0 then -i else i)) H) := by
  intro pins s σ H xs us Q I r h
  obtain ⟨i, rfl, q⟩ := h
  obtain ⟨u, rfl, t, rfl⟩ := vals1 r
  exact call_abs_int fun u tk => ⟨.int (if i < 0 then -i else i), H, I.tok _, ⟨_, rfl⟩, q⟩
theorem call_max2 (hc : X.calm = true) : CallR X (.builtin "max") (fun xs H Q => ∃ i j, xs = [.int i, .int j] ∧ Q (.int (if j > i then j else i)) H) := by
  intro pins s σ H xs us Q I r h
  obtain ⟨i, j, rfl, q⟩ := h
  obtain ⟨u, w', rfl, ⟨t, rfl⟩, ⟨t', rfl⟩⟩ := vals2 r
  refine max_two_ints (I.ok.hd hc) fun h' tk k => ⟨_, H, I.kept k, ?_, q⟩
  by_cases hj : j > i
  · rw [if_pos hj, if_pos hj]; exact ⟨_, rfl⟩
  · rw [if_neg hj, if_neg hj]; exact ⟨_, rfl⟩
theorem call_min2 (hc : X.calm = true) : CallR X (.builtin "min") (fun xs H Q => ∃ i j, xs = [.int i, .int j] ∧ Q (.int (if j < i then j else i)) H) := by
  intro pins s σ H xs us Q I r h
  obtain ⟨i, j, rfl, q⟩ := h
  obtain ⟨u, w', rfl, ⟨t, rfl⟩, ⟨t', rfl⟩⟩ := vals2 r
  refine min_two_ints (I.ok.hd hc) fun h' tk k => ⟨_, H, I.kept k, ?_, q⟩
  by_cases hj : j < i
  · rw [if_pos hj, if_pos hj]; exact ⟨_, rfl⟩
  · rw [if_neg hj, if_neg hj]; exact ⟨_, rfl⟩
theorem call_int1 : CallR X (.type "int") (fun xs H Q => (∃ i, xs = [.int i] ∧ Q (.int i) H) ∨ ∃ k, xs = [.bl k] ∧ Q (.int (if k then 1 else 0)) H) := by
  intro pins s σ H xs us Q I r h
  rcases h with ⟨i, rfl, q⟩ | ⟨k, rfl, q⟩
  · obtain ⟨u, rfl, t, rfl⟩ := vals1 r
    exact call_int_int ⟨.int i, H, I, ⟨_, rfl⟩, q⟩
  · obtain ⟨u, rfl, r1⟩ := vals1 r
    cases r1
    exact call_int_bool ⟨.int (if k then 1 else 0), H, I.tok _, ⟨_, rfl⟩, q⟩
theorem call_bool1 : CallR X (.type "bool") (fun xs H Q => (∃ i, xs = [.int i] ∧ Q (.bl (i != 0)) H) ∨ ∃ k, xs = [.bl k] ∧ Q (.bl k) H) := by
  intro pins s σ H xs us Q I r h
  rcases h with ⟨i, rfl, q⟩ | ⟨k, rfl, q⟩
  · obtain ⟨u, rfl, t, rfl⟩ := vals1 r
    exact call_bool_int ⟨.bl (i != 0), H, I, rfl, q⟩
  · obtain ⟨u, rfl, r1⟩ := vals1 r
    cases r1
    exact call_bool_bool ⟨.bl k, H, I, rfl, q⟩
theorem call_str_int : CallR X (.type "str") (fun xs H Q => ∃ i, xs = [.int i] ∧ i.natAbs.log2 < 1920 ∧ Q (.str (toString i)) H) := by
  intro pins s σ H xs us Q I r h
  obtain ⟨i, rfl, hz, q⟩ := h
  obtain ⟨u, rfl, t, rfl⟩ := vals1 r
  exact PySem.P.str_of_int hz ⟨.str _, H, I.tok _, ⟨_, rfl⟩, q⟩
theorem call_ord : CallR X (.builtin "ord") (fun xs H Q => ∃ x, xs = [.str x] ∧ x.length = 1 ∧ Q (.int (x.cps.getD 0 0 : Nat)) H) := by
  intro pins s σ H xs us Q I r h
  obtain ⟨x, rfl, hz, q⟩ := h
  obtain ⟨u, rfl, t, rfl⟩ := vals1 r
  exact ord_of_one hz ⟨.int _, H, I.tok _, ⟨_, rfl⟩, q⟩
theorem call_chr : CallR X (.builtin "chr") (fun xs H Q => ∃ i, xs = [.int i] ∧ 0 ≤ i ∧ i ≤ 1114111 ∧ Q (.str ⟨#[i.toNat]⟩) H) := by
  intro pins s σ H xs us Q I r h
  obtain ⟨i, rfl, h0, h1, q⟩ := h
  obtain ⟨u, rfl, t, rfl⟩ := vals1 r
  exact chr_of_range h0 h1 ⟨.str _, H, I.tok _, ⟨_, rfl⟩, q⟩
/-- len of a str, a bytes, a list, a tuple -/
def LenV (K : PySem.W.Frag) (x : V) (H : Hp) (n : Nat) : Prop :=
  match x with
  | .str y => y.length ≤ sizeLine ∧ n = y.length
  | .byt y => y.size ≤ sizeLine ∧ n = y.size
  | .ref p => (∃ xs, SqL K H p xs ∧ n = xs.length) ∨ ∃ xs, SqT K H p xs ∧ n = xs.length
  | _ => False
theorem call_len : CallR X (.builtin "len") (fun xs H Q => ∃ x n, xs = [x] ∧ LenV X.K x H n ∧ Q (.int n) H) := by
  intro pins s σ H xs us Q I r h
  obtain ⟨x, n, rfl, e, q⟩ := h
  obtain ⟨u, rfl, rx⟩ := vals1 r
  have hl := line63
  have hs : sizeLine = 16777216 := sizeLine_eq
  cases x with
  | str y =>
    obtain ⟨t, rfl⟩ := rx
    obtain ⟨hy, e'⟩ : y.length ≤ sizeLine ∧ n = y.length := e
    subst e'
    exact len_str (by omega) ⟨.int _, H, I.tok _, ⟨_, rfl⟩, q⟩
  | byt y =>
    obtain ⟨t, rfl⟩ := rx
    obtain ⟨hy, e'⟩ : y.size ≤ sizeLine ∧ n = y.size := e
    subst e'
    exact PySem.W.len_bytes (by omega) ⟨.int _, H, I.tok _, ⟨_, rfl⟩, q⟩
  | ref p =>
    cases rx
    have e' : (∃ xs, SqL X.K H p xs ∧ n = xs.length) ∨ ∃ xs, SqT X.K H p xs ∧ n = xs.length := e
    rcases e' with ⟨xs, hx, e'⟩ | ⟨xs, hx, e'⟩
    · subst e'
      obtain ⟨its, r', pl, hz⟩ := I.list hx
      have hlen := r'.length
      exact Calls.call_len_list pl.isList (by simp only [List.size_toArray]; omega) ⟨.int xs.length, H, I.tok _, ⟨_, by simp only [List.size_toArray]; rw [hlen]⟩, q⟩
    · subst e'
      obtain ⟨its, r', pl, hz⟩ := I.tuple hx
      have hlen := r'.length
      exact len_tuple pl (by simp only [List.size_toArray]; omega) ⟨.int xs.length, H, I.tok _, ⟨_, by simp only [List.size_toArray]; rw [hlen]⟩, q⟩
  | _ => exact (show False from e).elim
/-- divmod: a new tuple -/
theorem call_divmod : CallR X (.builtin "divmod") (fun xs H Q => ∃ i j, xs = [.int i, .int j] ∧ CDiv i j ∧ ∀ p, H p = none → Q (.ref p) (upd H p (.tup [.int (i / j), .int (i % j)]))) := by
  intro pins s σ H xs us Q I r h
  obtain ⟨i, j, rfl, ⟨h1, h2⟩, q⟩ := h
  obtain ⟨u, w', rfl, ⟨t, rfl⟩, ⟨t', rfl⟩⟩ := vals2 r
  refine divmod_int (by omega) ?_ (.inl (PyProof.noPylong_small (by omega)))
  rw [Int.fdiv_eq_ediv_of_nonneg i (by omega), Int.fmod_eq_emod_of_nonneg i (by omega)]
  have hn : H s.heap.objs.size = none := I.hok.fresh (Nat.le_refl _)
  refine ⟨.ref s.heap.objs.size, _, ?_, rfl, q _ hn⟩
  refine I.laid (fun b o e => Heap.get?_push_of_some _ e) (Nat.le_refl _) ⟨by simp only [List.length_cons, List.length_nil]; rw [sizeLine_eq]; decide, [.int (i / j) s.toks, .int (i % j) (s.toks + 1)], .cons ⟨_, rfl⟩ (.cons ⟨_, rfl⟩ .nil), ?_⟩
  exact ⟨_, Heap.get?_push_size s.heap rfl, rfl, 0, rfl⟩
end
end L2

namespace L2
open PySem PySem.Spec PyProof.Rows

/-! ### an instance, its attributes a map -/
structure ObjM (h : Heap) (x dx C : Addr) (mA : Str → Option Value) : Prop where
  obj : h.get? x = some (PySem.W.instObj C dx)
  ns : h.Ns1 dx mA
  ne : dx ≠ x

theorem lookIn_ns {h : Heap} {dx : Addr} {mA : Str → Option Value} (n : h.Ns1 dx mA) : ∃ od, h.get? dx = some od ∧ ∀ name, PySem.W.lookIn name od = some (mA name) := by
  obtain ⟨o, es, ep, ho, hd, hk, _, hm⟩ := n
  refine ⟨o, ho, fun name => ?_⟩
  have e := hm name
  unfold nsFind findBy at e
  rw [← Array.find?_toList] at e
  unfold PySem.W.lookIn
  rw [hd]
  dsimp only
  split
  · rename_i y q
    rw [q] at e
    exact congrArg some e
  · rename_i q
    rw [q] at e
    have a : es.toList.any (·.refKey) = false := by
      rw [List.any_eq_false]
      intro y hy
      obtain ⟨z, t, hkey⟩ := hk y (Array.mem_toList_iff.mp hy)
      simp [DictEntry.refKey, hkey]
    have a' : ¬ es.toList.any (·.refKey) = true := by rw [a]; exact Bool.false_ne_true
    rw [if_neg a']
    exact congrArg some e

theorem ObjM.look {h : Heap} {x dx C : Addr} {mA : Str → Option Value} (I : ObjM h x dx C mA) : ∃ od, PySem.W.InstAt h x (PySem.W.instObj C dx) C (some od) ∧ ∀ name, PySem.W.lookIn name od = some (mA name) :=
  let ⟨od, ho, hl⟩ := lookIn_ns I.ns
  ⟨od, ⟨I.obj, rfl, rfl, ho⟩, hl⟩

section
variable {prog : Program} {w : World} {A : Around} {E : Value → Shared → Prop} {s : Shared} {K : PySem.W.Frag} {x dx C f : Addr} {mA : Str → Option Value} {name : Str} {v : Value}

theorem get_map {expr : Bool} {Q : Value → Shared → Prop} (X : K.In s.heap) (I : ObjM s.heap x dx C mA) (hg : PySem.W.plainGet K C name = true) (hh : PySem.W.hasDictIn K C = true)
    (ha : PySem.W.findIn K (.ref C) name = some none) (hv : mA name = some v) (hv' : PySem.W.handedIn v = true) (h : Q v { s with toks := s.toks + 1 }) :
    wpAny (model prog w) A (getAttr (.ref x) name expr) Q E s := by
  obtain ⟨od, J, hl⟩ := I.look
  exact PySem.W.get_value X J (PySem.W.plainGet_of hg).1 (PySem.W.findObj_own hh ha rfl (by rw [hl, hv])) hv' h

theorem get_const {expr : Bool} {a : Value} {Q : Value → Shared → Prop} (X : K.In s.heap) (I : ObjM s.heap x dx C mA) (hg : PySem.W.plainGet K C name = true) (hh : PySem.W.hasDictIn K C = true)
    (ha : PySem.W.findIn K (.ref C) name = some (some a)) (hn : PySem.W.specialIn K a "__get__" = some none) (hc : PySem.W.copiedNames.contains name = false) (hv : mA name = none) (hv' : PySem.W.handedIn a = true)
    (h : Q a { s with toks := s.toks + 1 }) : wpAny (model prog w) A (getAttr (.ref x) name expr) Q E s := by
  obtain ⟨od, J, hl⟩ := I.look
  exact PySem.W.get_value X J (PySem.W.plainGet_of hg).1 (PySem.W.findObj_cls hh ha hn hv' hc (by rw [hl, hv])) hv' h

theorem get_meth {pl : Sem Bool} {Q : Value × List Value → Shared → Prop} (X : K.In s.heap) (I : ObjM s.heap x dx C mA) (hg : PySem.W.plainGet K C name = true)
    (hf : PySem.W.findIn K (.ref C) name = some (some (.ref f))) (ht : PySem.W.isFn K (.ref f) = true) (hv : mA name = none) (h : Q (.ref f, [.ref x]) s) :
    wpAny (model prog w) A (getMethod (.ref x) name pl) Q E s := by
  obtain ⟨od, J, hl⟩ := I.look
  exact PySem.W.method_fn X J (PySem.W.plainGet_of hg).1 (PySem.W.plainGet_of hg).2 hf (beq_iff_eq.mp ht) (by show (PySem.W.lookIn name od).map (·.isSome) = some false; rw [hl, hv]; rfl) h

theorem set_map {ns : List Str} {Q : Unit → Shared → Prop} (X : K.In s.heap) (I : ObjM s.heap x dx C mA)
    (hs : PySem.W.findIn K (.ref C) "__setattr__" = some (some (.builtin "object.__setattr__"))) (hp : PySem.W.plainOver K C = true) (ht : PySem.W.takerIn K C name = some none) (hh : PySem.W.hasDictIn K C = true)
    (hw : PySem.Within mA ns) (hsz : ns.length ≤ sizeLine)
    (h : ∀ h', ObjM h' x dx C (fun y => if y = name then some v else mA y) → Heap.SameBut dx s.heap h' → Q () { s with heap := h', toks := s.toks + 2 }) :
    wpAny (model prog w) A (setAttr (.ref x) name v) Q E s := by
  obtain ⟨od, J, hl⟩ := I.look
  refine PySem.W.set_plain X J hs (PySem.W.osa_open (s := { s with toks := s.toks + 1 }) (r := none) X J hp ht fun b => ?_)
  obtain ⟨cd, hc, hd'⟩ := PySem.W.any_some hh
  have hx : s.heap.get? x = some ⟨.ref C, some dx, .plain, #[]⟩ := I.obj
  refine wpAny_bind (wpAny_pure (wpAny_bind (wpAny_bind (wpAny_loadPart hx (wpAny_bind (PySem.W.Looks.here (s := { s with toks := s.toks + 1 }) (PySem.W.looks_clsIn X hc) ?_))))))
  rw [hd']
  refine wpAny_pure (a := some dx) (wpAny_bind (wpAny_pure (wpAny_bind ?_)))
  refine wpAny_nsSet1 (s := { s with toks := s.toks + 1 }) I.ns fun h' hn2 hs2 => ?_
  obtain ⟨oD, esD, epD, hoD, hdD, hcD⟩ := hn2.count (PySem.Within.cons name v hw)
  refine wpAny_bind (wpAny_lookBehind hoD (by rw [hdD]; exact pastItsLine_dict (Nat.le_trans hcD (by rw [List.length_cons]; omega))) ?_)
  exact wpAny_pure (h _ ⟨(hs2.2 _ (Ne.symm I.ne)).trans I.obj, hn2, I.ne⟩ hs2)

/-- C(..): the dict at the heap's end, the instance behind it; then its __init__ -/
theorem make_map {R : Result → Shared → Prop} {vs : List Value} {kw : List (Str × Value)} (X : K.In s.heap) (hm : PySem.W.makesIn K C = true)
    (hi : PySem.W.findIn K (.ref C) "__init__" = some (some (.ref f))) (hf : PySem.W.typeIn K (.ref f) = some (.type "function"))
    (h : codeAny (model prog w) (A.under (.builtin "type.__call__" ⟨.ref C :: vs, kw⟩)) (.call (.ref f) ⟨.ref (s.heap.objs.size + 1) :: vs, kw⟩) (PySem.W.InitBack (s.heap.objs.size + 1) R)
      { s with heap := (s.heap.push PySem.W.emptyDict).push (PySem.W.instObj C s.heap.objs.size) }) :
    codeAny (model prog w) A (.call (.ref C) ⟨vs, kw⟩) R s := by
  obtain ⟨hh, g, d, t, os⟩ := s
  exact PySem.W.make_core (PySem.W.makes_of X hm) (PySem.W.looks_findIn X hi) (fun self => PySem.W.bind_fn X self hf) (.inl rfl) h
/-- C() where there is no __init__ but object's -/
theorem make_map0 {R : Result → Shared → Prop} (X : K.In s.heap) (hm : PySem.W.makesIn K C = true)
    (hi : PySem.W.findIn K (.ref C) "__init__" = some (some (.builtin "object.__init__")))
    (hb : ∀ self, PySem.W.Looks (model prog w) s.heap (bindSpecial (.builtin "object.__init__") self) (.builtin "object.__init__", [self]))
    (h : codeAny (model prog w) (A.under (.builtin "type.__call__" ⟨[.ref C], []⟩)) (.call (.builtin "object.__init__") ⟨[.ref (s.heap.objs.size + 1)], []⟩) (PySem.W.InitBack (s.heap.objs.size + 1) R)
      { s with heap := (s.heap.push PySem.W.emptyDict).push (PySem.W.instObj C s.heap.objs.size) }) :
    codeAny (model prog w) A (.call (.ref C) ⟨[], []⟩) R s := by
  obtain ⟨hh, g, d, t, os⟩ := s
  exact PySem.W.make_core (PySem.W.makes_of X hm) (PySem.W.looks_findIn X hi) hb (.inr ⟨rfl, rfl⟩) h
end

/-! ### the attributes as a list of pairs -/
def putF (f : Str) (v : V) : List (Str × V) → List (Str × V)
  | [] => [(f, v)]
  | (g, x) :: r => if g = f then (g, v) :: r else (g, x) :: putF f v r
theorem lookup_putF (f g : Str) (v : V) : ∀ fs : List (Str × V), (putF f v fs).lookup g = if g = f then some v else fs.lookup g
  | [] => by
    show List.lookup g [(f, v)] = _
    by_cases h : g = f
    · have hb : (g == f) = true := beq_iff_eq.mpr h
      simp only [List.lookup, hb, if_pos h]
    · have hb : (g == f) = false := beq_eq_false_iff_ne.mpr h
      simp only [List.lookup, hb, if_neg h]
  | (k, x) :: r => by
    have ih := lookup_putF f g v r
    rw [show putF f v ((k, x) :: r) = (if k = f then (k, v) :: r else (k, x) :: putF f v r) from rfl]
    by_cases hk : k = f
    · rw [if_pos hk]
      by_cases h : g = k
      · have hb : (g == k) = true := beq_iff_eq.mpr h
        simp only [List.lookup, hb, if_pos (h.trans hk)]
      · have hb : (g == k) = false := beq_eq_false_iff_ne.mpr h
        simp only [List.lookup, hb, if_neg (fun e : g = f => h (e.trans hk.symm))]
    · rw [if_neg hk]
      by_cases h : g = k
      · have hb : (g == k) = true := beq_iff_eq.mpr h
        simp only [List.lookup, hb, if_neg (fun e : g = f => hk (h.symm.trans e))]
      · have hb : (g == k) = false := beq_eq_false_iff_ne.mpr h
        simp only [List.lookup, hb]
        exact ih
theorem keys_putF (f : Str) (v : V) : ∀ fs : List (Str × V), f ∈ (putF f v fs).map (·.1) ∧ ∀ g, g ∈ fs.map (·.1) → g ∈ (putF f v fs).map (·.1)
  | [] => ⟨by simp [putF], fun g h => by simp at h⟩
  | (k, x) :: r => by
    obtain ⟨i1, i2⟩ := keys_putF f v r
    rw [show putF f v ((k, x) :: r) = (if k = f then (k, v) :: r else (k, x) :: putF f v r) from rfl]
    by_cases hk : k = f
    · rw [if_pos hk]
      subst hk
      exact ⟨by simp, fun g h => by simpa using h⟩
    · rw [if_neg hk]
      refine ⟨?_, fun g h => ?_⟩
      · rw [List.map_cons]
        exact List.mem_cons_of_mem _ i1
      · rw [List.map_cons] at h ⊢
        rcases List.mem_cons.mp h with e | e
        · exact List.mem_cons.mpr (.inl e)
        · exact List.mem_cons_of_mem _ (i2 g e)
theorem length_putF (f : Str) (v : V) : ∀ fs : List (Str × V), (putF f v fs).length ≤ fs.length + 1
  | [] => by simp [putF]
  | (k, x) :: r => by
    have ih := length_putF f v r
    rw [show putF f v ((k, x) :: r) = (if k = f then (k, v) :: r else (k, x) :: putF f v r) from rfl]
    by_cases hk : k = f
    · rw [if_pos hk, List.length_cons, List.length_cons]; omega
    · rw [if_neg hk, List.length_cons, List.length_cons]; omega

theorem RelO.some_of {v : V} {o : Option Value} (r : RelO (some v) o) : ∃ u, o = some u ∧ RelV v u := by
  cases o with
  | none => exact (show False from r).elim
  | some u => exact ⟨u, rfl, r⟩
theorem RelO.none_of {o : Option Value} (r : RelO none o) : o = none := by
  cases o with
  | none => rfl
  | some u => exact (show False from r).elim
theorem handed_of {v : V} {u : Value} (r : RelV v u) : PySem.W.handedIn u = true := by
  cases v with
  | non => cases (show u = Value.none from r); rfl
  | bl b => cases (show u = Value.bool b from r); rfl
  | int i => obtain ⟨t, e⟩ := (show ∃ t, u = Value.int i t from r); cases e; rfl
  | str x => obtain ⟨t, e⟩ := (show ∃ t, u = Value.str x t from r); cases e; rfl
  | byt b => obtain ⟨t, e⟩ := (show ∃ t, u = Value.bytes b t from r); cases e; rfl
  | flt b => obtain ⟨t, e⟩ := (show ∃ t, u = Value.float b t from r); cases e; rfl
  | ref a => cases (show u = Value.ref a from r); rfl
  | ty n => cases (show u = Value.type n from r); rfl

section
variable {P : Program} {w : World} {H H' : Hp} {h h' : Heap} {a C dx : Addr} {fs fs' : List (Str × V)}
theorem ins_get (hok : HOk P w H h) (e : H a = some (.ins C dx fs)) : ∃ mA, ObjM h a dx C mA ∧ (∀ f, RelO (fs.lookup f) (mA f)) ∧ PySem.Within mA (fs.map (·.1)) ∧ fs.length ≤ 1000 ∧ H dx = some (.own a) := by
  obtain ⟨d, z, ne, ob, mA, n, r, q⟩ := (show ObjOk P w H h a (.ins C dx fs) from hok a _ e)
  exact ⟨mA, ⟨ob, n, ne⟩, r, q, z, d⟩
end

/-! ### what of the text a class must have -/
structure Cls (K : PySem.W.Frag) (C : Addr) : Prop where
  pg : PySem.W.plainGet K C Str.empty = true
  hd : PySem.W.hasDictIn K C = true
  po : PySem.W.plainOver K C = true
  sa : PySem.W.findIn K (.ref C) "__setattr__" = some (some (.builtin "object.__setattr__"))
theorem Cls.get {K : PySem.W.Frag} {C : Addr} (c : Cls K C) (f : Str) : PySem.W.plainGet K C f = true := c.pg
/-- no class of it has the name -/
def NoAttr (K : PySem.W.Frag) (C : Addr) (f : Str) : Prop := PySem.W.findIn K (.ref C) f = some none
theorem NoAttr.taker {K : PySem.W.Frag} {C : Addr} {f : Str} (n : NoAttr K C f) : PySem.W.takerIn K C f = some none := by
  unfold PySem.W.takerIn
  rw [show PySem.W.findIn K (.ref C) f = some none from n]
  rfl
/-- a constant of the class -/
structure Con (K : PySem.W.Frag) (C : Addr) (f : Str) (v : V) (u : Value) : Prop where
  at_ : PySem.W.findIn K (.ref C) f = some (some u)
  rel : RelV v u
  get : PySem.W.specialIn K u "__get__" = some none
  cp : PySem.W.copiedNames.contains f = false
/-- a method: a plain def of the class or of one above it -/
structure Meth (K : PySem.W.Frag) (C : Addr) (m : Str) (f : Addr) : Prop where
  at_ : PySem.W.findIn K (.ref C) m = some (some (.ref f))
  fn : PySem.W.isFn K (.ref f) = true
  kp : PySem.W.keepIn K (.ref f) = true

section
variable {X : Cx} {pins : List (Addr × Obj)} {σ : St} {H : Hp} {s : Shared} {a C dx : Addr} {fs : List (Str × V)} {f : Str} {v : V} {A : Around} {E : Value → Shared → Prop}

theorem getattr_ok {b : Bool} {Q : Value → Shared → Prop} (I : Inv X pins σ H s) (e : H a = some (.ins C dx fs)) (c : Cls X.K C) (n : NoAttr X.K C f) (l : fs.lookup f = some v)
    (h : ∀ u s', Inv X pins σ H s' → RelV v u → Q u s') : wpAny (model X.prog X.w) A (getAttr (.ref a) f b) Q E s := by
  obtain ⟨mA, O, r, _, _, _⟩ := ins_get I.hok e
  obtain ⟨u, hu, ru⟩ := RelO.some_of (v := v) (o := mA f) (by rw [← l]; exact r f)
  exact get_map I.kIn O (c.get f) c.hd n hu (handed_of ru) (h u _ (I.tok _) ru)

theorem getcon_ok {b : Bool} {u : Value} {Q : Value → Shared → Prop} (I : Inv X pins σ H s) (e : H a = some (.ins C dx fs)) (c : Cls X.K C) (k : Con X.K C f v u) (l : fs.lookup f = none)
    (h : ∀ s', Inv X pins σ H s' → Q u s') : wpAny (model X.prog X.w) A (getAttr (.ref a) f b) Q E s := by
  obtain ⟨mA, O, r, _, _, _⟩ := ins_get I.hok e
  have hn : mA f = none := RelO.none_of (by rw [← l]; exact r f)
  exact get_const I.kIn O (c.get f) c.hd k.at_ k.get k.cp hn (handed_of k.rel) (h _ (I.tok _))

theorem getmeth_ok {m : Str} {g : Addr} {pl : Sem Bool} {Q : Value × List Value → Shared → Prop} (I : Inv X pins σ H s) (e : H a = some (.ins C dx fs)) (c : Cls X.K C) (k : Meth X.K C m g) (l : fs.lookup m = none)
    (h : Q (.ref g, [.ref a]) s) : wpAny (model X.prog X.w) A (getMethod (.ref a) m pl) Q E s := by
  obtain ⟨mA, O, r, _, _, _⟩ := ins_get I.hok e
  have hn : mA m = none := RelO.none_of (by rw [← l]; exact r m)
  exact get_meth I.kIn O (c.get m) k.at_ k.fn hn h

theorem setattr_ok {y : V} {u : Value} {Q : Unit → Shared → Prop} (I : Inv X pins σ H s) (e : H a = some (.ins C dx fs)) (c : Cls X.K C) (n : NoAttr X.K C f) (hl : fs.length < 1000) (ry : RelV y u)
    (h : ∀ s', Inv X pins σ (upd H a (.ins C dx (putF f y fs))) s' → Q () s') : wpAny (model X.prog X.w) A (setAttr (.ref a) f u) Q E s := by
  obtain ⟨mA, O, r, wi, _, ho⟩ := ins_get I.hok e
  have hz : (fs.map (·.1)).length ≤ sizeLine := by rw [List.length_map, sizeLine_eq]; omega
  refine set_map I.kIn O c.sa c.po n.taker c.hd wi hz fun h' O' sb => h _ ?_
  have hd : ∃ o, h'.get? dx = some o := let ⟨o, _, _, e', _⟩ := O'.ns; ⟨o, e'⟩
  refine I.write (x := a) (e := dx) (by rw [e]; exact True.intro) (.inr ho) (fun b q hb z => (sb.2 b hb).trans z) hd ?_
  refine ⟨by rw [upd_ne O.ne]; exact ho, ?_, O.ne, O'.obj, _, O'.ns, fun g => ?_, fun g hg => ?_⟩
  · have := length_putF f y fs; omega
  · show RelO ((putF f y fs).lookup g) (if g = f then some u else mA g)
    rw [lookup_putF]
    by_cases q : g = f
    · rw [if_pos q, if_pos q]; exact ry
    · rw [if_neg q, if_neg q]; exact r g
  · by_cases q : g = f
    · rw [q]; exact (keys_putF f y fs).1
    · refine (keys_putF f y fs).2 g (wi g fun z => hg ?_)
      show (if g = f then some u else mA g) = none
      rw [if_neg q]; exact z

/-- a new instance, tracked, without attributes -/
theorem Inv.made (I : Inv X pins σ H s) : Inv X pins σ (upd (upd H s.heap.objs.size (.own (s.heap.objs.size + 1))) (s.heap.objs.size + 1) (.ins C s.heap.objs.size []))
    { s with heap := (s.heap.push PySem.W.emptyDict).push (PySem.W.instObj C s.heap.objs.size) } := by
  have e1 : (s.heap.push PySem.W.emptyDict).get? s.heap.objs.size = some PySem.W.emptyDict := Heap.get?_push_size s.heap rfl
  have e2 : ((s.heap.push PySem.W.emptyDict).push (PySem.W.instObj C s.heap.objs.size)).get? (s.heap.objs.size + 1) = some (PySem.W.instObj C s.heap.objs.size) := by
    have := Heap.get?_push_size (s.heap.push PySem.W.emptyDict) (o := PySem.W.instObj C s.heap.objs.size) rfl
    rwa [Heap.size_push] at this
  have e3 : (s.heap.push PySem.W.emptyDict).Ns s.heap.objs.size (fun _ => none) := ⟨PySem.W.emptyDict, #[], _, e1, rfl, (fun e he => absurd he (by simp)), fun _ => rfl⟩
  have I1 := I.laid (a := s.heap.objs.size) (o := .own (s.heap.objs.size + 1)) (h' := s.heap.push PySem.W.emptyDict) (t' := s.toks) (fun b u q => Heap.get?_push_of_some _ q) (Nat.le_refl _) ⟨_, e1⟩
  refine I1.laid (a := s.heap.objs.size + 1) (o := .ins C s.heap.objs.size []) (t' := s.toks) (fun b u q => Heap.get?_push_of_some _ q) (Nat.le_of_eq (Heap.size_push _ _)) ?_
  have ne : s.heap.objs.size ≠ s.heap.objs.size + 1 := Nat.ne_of_lt (Nat.lt_succ_self _)
  refine ⟨by rw [upd_ne ne, upd_same], Nat.zero_le _, ne, e2, fun _ => none, (Heap.Ns1.of_empty e3).at fun o q => Heap.get?_push_of_some _ q, fun _ => True.intro, fun y hy => absurd rfl hy⟩

/-- e.f where nothing but the object is asked: through attributeBase (super) and the last hold -/
theorem attr_of {prog : Program} {w : World} {env : Env} {e : Expr} {f : Str} {pos : Pos} {s : Shared} {Q : Value → Shared → Prop} (hb : attributeBase e f env (eval e env) = eval e env)
    (h : wpAny (model prog w) A (eval e env) (fun o s₁ => wpAny (model prog w) A (getAttr o f true) Q E s₁) E s) : wpAny (model prog w) A (eval (.Attribute e f pos) env) Q E s :=
  Attribute_any_ h (by rw [arm_eval_Attribute, hb])
end

/-! ### readings and rules -/
/-- e.f, an attribute of the instance -/
def tFld (K : PySem.W.Frag) (ta : TE) (f : Str) : TE := fun σ H Q => ta σ H fun x H1 => ∃ a C dx fs v, x = .ref a ∧ H1 a = some (.ins C dx fs) ∧ Cls K C ∧ NoAttr K C f ∧ fs.lookup f = some v ∧ Q v H1
/-- e.f, a constant of the class -/
def tCon (K : PySem.W.Frag) (ta : TE) (f : Str) : TE := fun σ H Q => ta σ H fun x H1 => ∃ a C dx fs v u, x = .ref a ∧ H1 a = some (.ins C dx fs) ∧ Cls K C ∧ Con K C f v u ∧ fs.lookup f = none ∧ Q v H1
/-- e.f = value -/
def sFld (K : PySem.W.Frag) (ta tv : TE) (f : Str) : TS := fun D σ H => tv σ H fun y H1 => ta σ H1 fun x H2 => ∃ a C dx fs, x = .ref a ∧ H2 a = some (.ins C dx fs) ∧ Cls K C ∧ NoAttr K C f ∧ fs.length < 1000 ∧
  D.nx σ (upd H2 a (.ins C dx (putF f y fs)))
/-- an augmented operator on two values -/
def InOp (X : Cx) (op : Operator) (rd : V → V → Hp → VK → Prop) : Prop :=
  ∀ (pins : List (Addr × Obj)) (s : Shared) (σ : St) (H : Hp) (x y : V) (u v : Value) (Q : VK), Inv X pins σ H s → RelV x u → RelV y v → rd x y H Q → wpAny (model X.prog X.w) X.A (inplaceOp op u v) (EP X pins σ Q) X.xe s
/-- e.f op= value -/
def sFldAug (K : PySem.W.Frag) (ta tv : TE) (rd : V → V → Hp → VK → Prop) (f : Str) : TS := fun D σ H => ta σ H fun x H1 => ∃ a C dx fs v, x = .ref a ∧ H1 a = some (.ins C dx fs) ∧ Cls K C ∧ NoAttr K C f ∧ fs.lookup f = some v ∧
  tv σ H1 fun y H2 => rd v y H2 fun z H3 => ∃ dx' fs', H3 a = some (.ins C dx' fs') ∧ fs'.length < 1000 ∧ D.nx σ (upd H3 a (.ins C dx' (putF f z fs')))

section
variable {X : Cx} {o e value : Expr} {f : Str} {pos pos' tpos : Pos} {ta tv : TE}
theorem pe_fld (he : PE X e ta) (hb : attributeBase e f X.env (eval e X.env) = eval e X.env) : PE X (.Attribute e f pos) (tFld X.K ta f) := by
  intro pins s σ H Q I h
  refine attr_of hb (thn (he pins s σ H _ I h) fun u s1 ⟨x, H1, I1, rx, a, C, dx, fs, v, ex, ea, c, n, l, q⟩ => ?_)
  subst ex
  obtain rfl : u = Value.ref a := rx
  exact getattr_ok I1 ea c n l fun u' s2 I2 ru => ⟨v, H1, I2, ru, q⟩
theorem pe_con (he : PE X e ta) (hb : attributeBase e f X.env (eval e X.env) = eval e X.env) : PE X (.Attribute e f pos) (tCon X.K ta f) := by
  intro pins s σ H Q I h
  refine attr_of hb (thn (he pins s σ H _ I h) fun u s1 ⟨x, H1, I1, rx, a, C, dx, fs, v, u0, ex, ea, c, k, l, q⟩ => ?_)
  subst ex
  obtain rfl : u = Value.ref a := rx
  exact getcon_ok I1 ea c k l fun s2 I2 => ⟨v, H1, I2, k.rel, q⟩
theorem ps_fld (ha : PE X o ta) (hv : PE X value tv) (hs : swapsWith value (some (.Attribute o f pos')) pos.line X.env = pure false) : PS X (.Assign [.Attribute o f pos'] value pos) (sFld X.K ta tv f) := by
  intro pins s σ H D I h
  refine plainObj_wpAny_Assign_Attribute (thn (hv pins s σ H _ I h) fun u s1 ⟨y, H1, I1, ry, q⟩ => thn (ha pins s1 σ H1 _ I1 q) fun ov s2 ⟨x, H2, I2, rx, a, C, dx, fs, ex, ea, c, n, l, q2⟩ => ?_) hs
  subst ex
  obtain rfl : ov = Value.ref a := rx
  exact setattr_ok I2 ea c n l ry fun s3 I3 => ⟨σ, _, I3, q2⟩
theorem ps_fldaug {op : Operator} {rd : V → V → Hp → VK → Prop} (ha : PE X o ta) (hv : PE X value tv) (hop : InOp X op rd) : PS X (.AugAssign (.Attribute o f tpos) op value pos) (sFldAug X.K ta tv rd f) := by
  intro pins s σ H D I h
  refine wpAny_AugAssign_AttributeAny (thn (ha pins s σ H _ I h) fun ov s1 ⟨x, H1, I1, rx, a, C, dx, fs, v, ex, ea, c, n, l, q⟩ => ?_)
  subst ex
  obtain rfl : ov = Value.ref a := rx
  refine getattr_ok I1 ea c n l fun u s2 I2 ru => thn (hv pins s2 σ H1 _ I2 q) fun w3 s3 ⟨y, H2, I3, ry, q3⟩ => thn (hop pins s3 σ H2 v y u w3 _ I3 ru ry q3) fun w4 s4 ⟨z, H3, I4, rz, dx', fs', ea', l', q4⟩ => ?_
  exact setattr_ok I4 ea' c n l' rz fun s5 I5 => ⟨σ, _, I5, q4⟩
def rAdd : V → V → Hp → VK → Prop := fun x y H Q => ∃ i j, x = .int i ∧ y = .int j ∧ Q (.int (i + j)) H
def rSub : V → V → Hp → VK → Prop := fun x y H Q => ∃ i j, x = .int i ∧ y = .int j ∧ Q (.int (i - j)) H
theorem in_add : InOp X .Add rAdd := by
  rintro pins s σ H x y u v Q I rx ry ⟨i, j, rfl, rfl, q⟩
  obtain ⟨t, rfl⟩ := (show ∃ t, u = Value.int i t from rx)
  obtain ⟨t', rfl⟩ := (show ∃ t', v = Value.int j t' from ry)
  exact PyProof.Rows.iadd_int ⟨.int (i + j), H, I.tok _, ⟨_, rfl⟩, q⟩
theorem in_sub : InOp X .Sub rSub := by
  rintro pins s σ H x y u v Q I rx ry ⟨i, j, rfl, rfl, q⟩
  obtain ⟨t, rfl⟩ := (show ∃ t, u = Value.int i t from rx)
  obtain ⟨t', rfl⟩ := (show ∃ t', v = Value.int j t' from ry)
  exact PyProof.Rows.isub_int ⟨.int (i - j), H, I.tok _, ⟨_, rfl⟩, q⟩

/-- what is between an instance and its method: the tree of a method call -/
theorem methcall_of {pl : Sem Bool} {m : Str} {apos : Pos} {args : List Expr} {pins : List (Addr × Obj)} {s : Shared} {σ : St} {H : Hp} {Q : Value → Shared → Prop} {te : TE} (he : PE X e te) (I : Inv X pins σ H s)
    (h : te σ H fun x H1 => ∃ a C dx fs g, x = .ref a ∧ H1 a = some (.ins C dx fs) ∧ Cls X.K C ∧ Meth X.K C m g ∧ fs.lookup m = none ∧
      ∀ s1, Inv X pins σ H1 s1 → wpAny (model X.prog X.w) X.A (callWith pos (.ref g) [.ref a] (backTo pos (starEach args X.env)) (backToKw pos (keywordEach [] X.env))) Q X.xe s1)
    (ht : eval (.Call (.Attribute e m apos) args [] pos) X.env = (do
      let ov ← eval e X.env
      standAt apos.atName
      let (f, first) ← holding [ov] (getMethod ov m pl)
      callWith pos f first (backTo pos (starEach args X.env)) (backToKw pos (keywordEach [] X.env)))) :
    wpAny (model X.prog X.w) X.A (eval (.Call (.Attribute e m apos) args [] pos) X.env) Q X.xe s := by
  refine PySem.W.methodCall_KW (pl := pl) (thn (he pins s σ H _ I h) fun u s1 ⟨x, H1, I1, rx, a, C, dx, fs, g, ex, ea, c, k, l, q⟩ => ?_) ht
  subst ex
  obtain rfl : u = Value.ref a := rx
  exact getmeth_ok I1 ea c k l (q s1 I1)
end

/-! ### isinstance -/
section
variable {X : Cx} {pins : List (Addr × Obj)} {σ : St} {H : Hp} {s : Shared} {A : Around} {E : Value → Shared → Prop} {Q : Value → Shared → Prop} {c : Value} {b : Bool}
/-- the type of a value, as the fragment's deciders take it; for an instance its class -/
inductive TyOf (K : PySem.W.Frag) (H : Hp) : V → Value → Prop where
  | non : TyOf K H .non (.type "NoneType")
  | bl (x : Bool) : TyOf K H (.bl x) (.type "bool")
  | int (i : Int) : TyOf K H (.int i) (.type "int")
  | str (x : Str) : TyOf K H (.str x) (.type "str")
  | flt (x : UInt64) : TyOf K H (.flt x) (.type "float")
  | lst {a : Addr} {xs : List V} (e : H a = some (.lst xs)) : TyOf K H (.ref a) (.type "list")
  | frz {a : Addr} {o : Obj} {xs : List V} (e : H a = some (.frz o (.lst xs))) : TyOf K H (.ref a) (.type "list")
  | tup {a : Addr} {xs : List V} (e : H a = some (.tup xs)) : TyOf K H (.ref a) (.type "tuple")
  | dK {a : Addr} {kvs : List (Key × V)} (e : H a = some (.dK kvs)) : TyOf K H (.ref a) (.type "dict")
  | dT {a : Addr} {kvs : List (List Key × V)} (e : H a = some (.dT kvs)) : TyOf K H (.ref a) (.type "dict")
  | ins {a C dx : Addr} {fs : List (Str × V)} (e : H a = some (.ins C dx fs)) (cl : Cls K C) (ha : PySem.W.findIn K (.ref C) "__class__" = some (some (.builtin "object.__class__")))
      (hn : PySem.W.specialIn K (.builtin "object.__class__") "__get__" = some (some (.builtin "getset_descriptor.__get__"))) (htk : PySem.W.takesIn K (.builtin "object.__class__") = some true)
      (hm : PySem.W.mroIn K C (.type "object") = some true) : TyOf K H (.ref a) (.ref C)
/-- isinstance(x, c) for one class c, a built-in or an own one: kitOne's answer -/
theorem isinst_ok {x : V} {u t : Value} (I : Inv X pins σ H s) (rx : RelV x u) (ty : TyOf X.K H x t) (e : PySem.W.kitOne X.K t c = some b) (h : ∀ tk, Q (.bool b) { s with toks := tk }) :
    wpAny (model X.prog X.w) A (call (.builtin "isinstance") [u, c]) Q E s := by
  cases ty with
  | non => cases (show u = Value.none from rx); exact PySem.W.kia_one PySem.W.kitx_none I.kIn True.intro e (fun z => nomatch z) h
  | bl y => cases (show u = Value.bool y from rx); exact PySem.W.kia_one PySem.W.kitx_bool I.kIn True.intro e (fun z => nomatch z) h
  | int i => obtain ⟨t, q⟩ := (show ∃ t, u = Value.int i t from rx); cases q; exact PySem.W.kia_one PySem.W.kitx_int I.kIn True.intro e (fun z => nomatch z) h
  | str y => obtain ⟨t, q⟩ := (show ∃ t, u = Value.str y t from rx); cases q; exact PySem.W.kia_one PySem.W.kitx_str I.kIn True.intro e (fun z => nomatch z) h
  | flt y => obtain ⟨t, q⟩ := (show ∃ t, u = Value.float y t from rx); cases q; exact PySem.W.kia_one PySem.W.kitx_float I.kIn True.intro e (fun z => nomatch z) h
  | @lst a xs ea =>
    cases (show u = Value.ref a from rx)
    obtain ⟨_, _, n, _, h1⟩ := (show ObjOk X.prog X.w H s.heap a (.lst xs) from I.hok a _ ea)
    exact PySem.W.kia_one PySem.W.kitx_list I.kIn ⟨_, h1, rfl⟩ e (fun z => nomatch z) h
  | @frz a ob xs ea =>
    cases (show u = Value.ref a from rx)
    obtain ⟨_, _, _, n, _, h1⟩ := (show ObjOk X.prog X.w H s.heap a (.frz ob (.lst xs)) from I.hok a _ ea)
    exact PySem.W.kia_one PySem.W.kitx_list I.kIn ⟨_, h1, rfl⟩ e (fun z => nomatch z) h
  | @tup a xs ea =>
    cases (show u = Value.ref a from rx)
    obtain ⟨_, _, _, p⟩ := (show ObjOk X.prog X.w H s.heap a (.tup xs) from I.hok a _ ea)
    obtain ⟨o, h1, h2, _⟩ := p
    exact PySem.W.kia_one PySem.W.kitx_tuple I.kIn ⟨o, h1, h2⟩ e (fun z => nomatch z) h
  | @dK a kvs ea =>
    cases (show u = Value.ref a from rx)
    obtain ⟨_, _, vs, _, p⟩ := (show ObjOk X.prog X.w H s.heap a (.dK kvs) from I.hok a _ ea)
    obtain ⟨o, es, ep, h1, h2, _⟩ := p
    exact PySem.W.kia_one PySem.W.kitx_dict I.kIn ⟨o, h1, h2.1⟩ e (fun z => nomatch z) h
  | @dT a kvs ea =>
    cases (show u = Value.ref a from rx)
    obtain ⟨_, _, xs, _, o, es, ep, h1, h2, _⟩ := (show ObjOk X.prog X.w H s.heap a (.dT kvs) from I.hok a _ ea)
    exact PySem.W.kia_one PySem.W.kitx_dict I.kIn ⟨o, h1, h2.1⟩ e (fun z => nomatch z) h
  | @ins a C dx fs ea cl ha hn htk hm =>
    cases (show u = Value.ref a from rx)
    obtain ⟨mA, O, _⟩ := ins_get I.hok ea
    obtain ⟨od, J, _⟩ := O.look
    exact PySem.W.kia_one (PySem.W.kitx_own (cl.get _) cl.hd ha hn htk hm) I.kIn J e (fun z => nomatch z) h
end
end L2

namespace L2
open PySem PySem.Spec PyProof.Rows

/-! ### room -/
structure Room (k : Nat) (A : Around) : Prop where
  hd : A.handled = none
  dp : A.depth + 3 * k + 5 < recursionLimit
  un : A.units + 16 * k + 200 < cLine
theorem Room.mono {j k : Nat} {A : Around} (r : Room k A) (h : j ≤ k) : Room j A := ⟨r.hd, by have := r.dp; omega, by have := r.un; omega⟩
theorem Room.deeper {k : Nat} {A : Around} (r : Room (k + 1) A) (env : Env) : Room k (A.deeper env) :=
  ⟨r.hd, by have := r.dp; show A.depth + 1 + 3 * k + 5 < _; omega, by have := r.un; show A.units + 3 + 16 * k + 200 < _; omega⟩
theorem Room.in1 {k : Nat} {A : Around} (r : Room (k + 1) A) : Room k A.in1 :=
  ⟨r.hd, by have := r.dp; show A.depth + 3 * k + 5 < _; omega, by have := r.un; show A.units + 1 + 16 * k + 200 < _; omega⟩
theorem make_depth {A : Around} {C : Addr} {us : List Value} {kw : List (Str × Value)} : (A.under (.builtin "type.__call__" ⟨.ref C :: us, kw⟩)).depth = A.depth + 1 := by
  first | rfl | simp [Around.under, Code.weight, Code.isCreation, Code.isGuard, Code.isCaller, Code.frames, Code.isFrame, guardIds]
theorem make_units {A : Around} {C : Addr} {us : List Value} {kw : List (Str × Value)} : (A.under (.builtin "type.__call__" ⟨.ref C :: us, kw⟩)).units = A.units + 1 := by
  first | rfl | simp [Around.under, Code.cUnits, Code.frames, Code.isFrame]
theorem Room.make {k : Nat} {A : Around} (r : Room (k + 1) A) (C : Addr) (us : List Value) (kw : List (Str × Value)) : Room k (A.under (.builtin "type.__call__" ⟨.ref C :: us, kw⟩)) :=
  ⟨r.hd, by have := r.dp; rw [make_depth]; omega, by have := r.un; rw [make_units]; omega⟩
theorem Room.depth {k : Nat} {A : Around} (r : Room k A) : A.depth < recursionLimit := by have := r.dp; omega
theorem Room.units {k : Nat} {A : Around} (r : Room k A) : A.units + 64 < cLine := by have := r.un; omega
theorem Room.units0 {k : Nat} {A : Around} (r : Room k A) : A.units < cLine := by have := r.un; omega

/-! ### argument lists and displays -/
def tNil : TA := fun _ H Q => Q [] H
def tCons (ta : TE) (tr : TA) : TA := fun σ H Q => ta σ H fun x H1 => tr σ H1 fun xs H2 => Q (x :: xs) H2
section
variable {X : Cx} {e : Expr} {es : List Expr} {te : TE} {t : TA} {pos : Pos}
theorem pa_nil : PA X [] tNil := fun _ _ _ _ H Q I h => Calls.spliced_nil ⟨[], H, I, .nil, h⟩
theorem pa_cons (ha : PE X e te) (hr : PA X es t) (hs : starEach (e :: es) X.env = (false, eval e X.env) :: starEach es X.env := by rfl) : PA X (e :: es) (tCons te t) := by
  intro pos pins s σ H Q I h
  rw [hs]
  show wpAny _ _ (spliced ((false, eval e X.env) :: backTo pos (starEach es X.env))) _ _ s
  refine Calls.spliced_cons (thn (ha pins s σ H _ I h) fun u s1 ⟨x, H1, I1, r1, q1⟩ => ?_)
  exact thn (hr pos pins s1 σ H1 _ I1 q1) fun us s2 ⟨xs, H2, I2, r2, q2⟩ => ⟨x :: xs, H2, I2, .cons r1 r2, q2⟩

/-- a tuple, a list of written items -/
def tTup (t : TA) : TE := fun σ H Q => t σ H fun xs H1 => xs.length ≤ sizeLine ∧ ∀ p, H1 p = none → Q (.ref p) (upd H1 p (.tup xs))
def tLst (t : TA) : TE := fun σ H Q => t σ H fun xs H1 => xs.length ≤ sizeLine ∧ ∀ p, H1 p = none → Q (.ref p) (upd H1 p (.lst xs))
theorem pe_tup {x1} (h : PA X es t) : PE X (.Tuple es x1 pos) (tTup t) := by
  intro pins s σ H Q I hq
  refine wpAny_Tuple_spliced (thn (h pos pins s σ H _ I hq) fun us s1 ⟨xs, H1, I1, r, z, q⟩ => ⟨by rw [← r.length]; exact z, ?_⟩)
  have hf : H1 s1.heap.objs.size = none := I1.hok.fresh (Nat.le_refl _)
  refine ⟨.ref s1.heap.objs.size, upd H1 s1.heap.objs.size (.tup xs), I1.laid (t' := s1.toks) (fun b u e => Heap.get?_push_of_some _ e) (Nat.le_refl _) ?_, rfl, q _ hf⟩
  exact ⟨z, us, r, ⟨_, Heap.get?_push_size _ rfl, rfl, _, rfl⟩⟩
theorem pe_lst (h : PA X es t) : PE X (.List es pos) (tLst t) := by
  intro pins s σ H Q I hq
  refine wpAny_List_spliced (thn (h pos pins s σ H _ I hq) fun us s1 ⟨xs, H1, I1, r, z, q⟩ => ⟨by rw [← r.length]; exact z, ?_⟩)
  have hf : H1 s1.heap.objs.size = none := I1.hok.fresh (Nat.le_refl _)
  refine ⟨.ref s1.heap.objs.size, upd H1 s1.heap.objs.size (.lst xs), I1.laid (t' := s1.toks) (fun b u e => Heap.get?_push_of_some _ e) (Nat.le_refl _) ?_, rfl, q _ hf⟩
  exact ⟨z, us, 0, r, Heap.get?_push_size _ rfl⟩
end

/-! ### what a def promises -/
/-- a def's promise: the bound arguments in the parameters' order, the heap, the wanted end, the wanted exception -/
abbrev Sp := List V → Hp → VK → XK → Prop
/-- how an exception lies behind a call (file 08 gives it): the callers' frames, abstract heap and state ahead of the call, the wish, the exception, the state -/
abbrev CXT := List Env → Hp → Shared → XK → Value → Shared → Prop

/-- the state at a call -/
structure Env0 (P : Program) (w : World) (K : PySem.W.Frag) (mg : Str → Option Value) (base : Heap) (A : Around) (outer : List Env) (s : Shared) (H : Hp) : Prop where
  frames : A.frames = some outer
  mod : Mod K mg base
  bs : ∀ b o, base.get? b = some o → s.heap.get? b = some o ∧ H b = none
  bsz : base.objs.size ≤ s.heap.objs.size
  funs : s.heap.FunFrames base outer
  frf : ∀ b ∈ frs outer, H b = none
  hok : HOk P w H s.heap
  bare : AllBare s.gens
/-- a call's end -/
def CE (outer : List Env) (P : Program) (w : World) (H : Hp) (s : Shared) (Q : VK) (u : Value) (s' : Shared) : Prop :=
  ∃ v H', s'.os = s.os ∧ AllBare s'.gens ∧ Un (frs outer) [] H H' s.heap s'.heap ∧ HOk P w H' s'.heap ∧ RelV v u ∧ Q v H'
def CR (CX : CXT) (outer : List Env) (P : Program) (w : World) (H : Hp) (s : Shared) (Q : VK) (E : XK) (r : Result) (s' : Shared) : Prop :=
  match r with
  | .ok (.ret u) => CE outer P w H s Q u s'
  | .ok _ => False
  | .error e => CX outer H s E e s'
structure FnOk (P : Program) (w : World) (K : PySem.W.Frag) (mg : Str → Option Value) (base : Heap) (CX : CXT) (k : Nat) (f : Addr) (fd : FuncData) (ps : List Str) (sp : Sp) : Prop where
  len : ∀ vs H Q E, sp vs H Q E → vs.length = ps.length
  run : ∀ (A : Around) (outer : List Env) (s : Shared) (H : Hp) (args : Args) (us : List Value) (vs : List V) (Q : VK) (E : XK), Room k A → Env0 P w K mg base A outer s H → BindsTo s fd args (ps.zip us) → Vals vs us → sp vs H Q E →
    codeAny (model P w) A (.call (.ref f) args) (CR CX outer P w H s Q E) s
theorem FnOk.mono {P : Program} {w : World} {K : PySem.W.Frag} {mg : Str → Option Value} {base : Heap} {CX : CXT} {j k : Nat} {f : Addr} {fd : FuncData} {ps : List Str} {sp : Sp} (F : FnOk P w K mg base CX j f fd ps sp) (h : j ≤ k) :
    FnOk P w K mg base CX k f fd ps sp := ⟨F.len, fun A outer s H args us vs Q E hr => F.run A outer s H args us vs Q E (hr.mono h)⟩
/-- a weaker promise -/
theorem FnOk.imp {P : Program} {w : World} {K : PySem.W.Frag} {mg : Str → Option Value} {base : Heap} {CX : CXT} {k : Nat} {f : Addr} {fd : FuncData} {ps : List Str} {sp sp' : Sp} (F : FnOk P w K mg base CX k f fd ps sp)
    (h : ∀ vs H Q E, sp' vs H Q E → sp vs H Q E) : FnOk P w K mg base CX k f fd ps sp' :=
  ⟨fun vs H Q E q => F.len vs H Q E (h _ _ _ _ q), fun A outer s H args us vs Q E hr he hb hv hs => F.run A outer s H args us vs Q E hr he hb hv (h _ _ _ _ hs)⟩

theorem Env0.make {P : Program} {w : World} {K : PySem.W.Frag} {mg : Str → Option Value} {base : Heap} {A : Around} {outer : List Env} {s : Shared} {H : Hp} (e : Env0 P w K mg base A outer s H) (C : Addr) (us : List Value) (kw : List (Str × Value)) :
    Env0 P w K mg base (A.under (.builtin "type.__call__" ⟨.ref C :: us, kw⟩)) outer s H := ⟨by first | exact e.frames | (simpa [Around.under, Code.envs, Code.isFrame, pushEnvs] using e.frames), e.mod, e.bs, e.bsz, e.funs, e.frf, e.hok, e.bare⟩
theorem Env0.in1 {P : Program} {w : World} {K : PySem.W.Frag} {mg : Str → Option Value} {base : Heap} {A : Around} {outer : List Env} {s : Shared} {H : Hp} (e : Env0 P w K mg base A outer s H) :
    Env0 P w K mg base A.in1 outer s H := ⟨e.frames, e.mod, e.bs, e.bsz, e.funs, e.frf, e.hok, e.bare⟩

section
variable {X : Cx} {pins : List (Addr × Obj)} {σ : St} {H : Hp} {s s' : Shared}
/-- from a body: what a callee wants -/
theorem Inv.env0 (I : Inv X pins σ H s) : Env0 X.prog X.w X.K X.mg X.base X.A X.stack s H :=
  ⟨I.ok.frames, I.ok.mod, I.bs, Nat.le_trans I.ok.bsz I.sz, I.stack, I.stkFree, I.hok, I.bare⟩
/-- behind a call -/
theorem Inv.after {Q : VK} {u : Value} (I : Inv X pins σ H s) (h : CE X.stack X.prog X.w H s Q u s') : EP X pins σ Q u s' := by
  obtain ⟨v, H', os, bare, un, hok, r, q⟩ := h
  obtain ⟨hh, g, d, t, os'⟩ := s'
  obtain rfl : os' = s.os := os
  exact ⟨v, H', I.call (h' := hh) (g' := g) (d' := d) (t' := t) (ch := []) un hok bare (fun b z => absurd z (by simp)), r, q⟩
end

/-! ### calls -/
/-- f(..): the written arguments, then the defaults dvs; E: what is wanted of an exception -/
def tCall (sp : Sp) (dvs : List V) (E : XK) (t : TA) : TE := fun σ H Q => t σ H fun vs H1 => sp (vs ++ dvs) H1 Q E
/-- o.m(..) of an instance of the class at C -/
def tMeth (C : Addr) (m : Str) (sp : Sp) (dvs : List V) (E : XK) (ta : TE) (t : TA) : TE := fun σ H Q => ta σ H fun x H1 => ∃ a dx fs, x = .ref a ∧ H1 a = some (.ins C dx fs) ∧ fs.lookup m = none ∧
  t σ H1 fun vs H2 => sp (x :: (vs ++ dvs)) H2 Q E
/-- C(..): a new instance and its dict, then __init__ -/
def tMake (C : Addr) (sp : Sp) (dvs : List V) (E : XK) (t : TA) : TE := fun σ H Q => t σ H fun vs H1 => ∀ x dx, H1 x = none → H1 dx = none → dx ≠ x →
  sp (.ref x :: (vs ++ dvs)) (upd (upd H1 dx (.own x)) x (.ins C dx [])) (fun v H2 => v = .non ∧ Q (.ref x) H2) E

/-- how the parameters are bound: us the positional arguments, kw the keywords' values by name, ds the defaults that fill up -/
def Binds (K : PySem.W.Frag) (fd : FuncData) (ps : List Str) (ds : List Value) : Prop :=
  ∀ (s : Shared) (us : List Value), K.In s.heap → (us ++ ds).length = ps.length → BindsTo s fd ⟨us, []⟩ (ps.zip (us ++ ds))
/-- every parameter is given -/
theorem Binds.all {K : PySem.W.Frag} {fd : FuncData} {ps : List Str} (h : ∀ us : List Value, us.length = ps.length → bindArgs fd ⟨us, []⟩ = pure (ps.zip us)) : Binds K fd ps [] := fun s us _ hl => by
  rw [List.append_nil] at hl ⊢
  exact .of_eq (h us hl)

/-- an exception of a callee reaches what this body wants of exceptions -/
def Passes (CX : CXT) (X : Cx) (E : XK) : Prop := ∀ (pins : List (Addr × Obj)) (σ : St) (H : Hp) (s : Shared) (e : Value) (s' : Shared), Inv X pins σ H s → CX X.stack H s E e s' → X.xe e s'

section
variable {X : Cx} {CX : CXT} {k : Nat} {f C : Addr} {fd : FuncData} {ps : List Str} {sp : Sp} {dvs : List V} {ds : List Value} {E : XK} {x m : Str} {p pos apos : Pos} {e o : Expr} {es : List Expr} {ta : TE} {t : TA}

/-- the callee runs -/
theorem run_fn {pins : List (Addr × Obj)} {σ : St} {H : Hp} {s : Shared} {Q : VK} {us : List Value} {vs : List V} (F : FnOk X.prog X.w X.K X.mg X.base CX k f fd ps sp) (hr : Room k X.A) (hb : Binds X.K fd ps ds) (hd : Vals dvs ds) (hx : Passes CX X E)
    (I : Inv X pins σ H s) (r : Vals vs us) (h : sp (vs ++ dvs) H Q E) : wpAny (model X.prog X.w) X.A (call (.ref f) us) (EP X pins σ Q) X.xe s := by
  have r2 : Vals (vs ++ dvs) (us ++ ds) := r.append hd
  have hl : (us ++ ds).length = ps.length := by rw [← r2.length]; exact F.len _ _ _ _ h
  refine wpAny_call (codeAny_mono (F.run X.A X.stack s H ⟨us, []⟩ (us ++ ds) (vs ++ dvs) Q E hr I.env0 (hb s us I.kIn hl) r2 h) fun r s' hq => ?_)
  cases r with
  | error e => exact hx pins σ H s e s' I hq
  | ok fl =>
    cases fl with
    | ret u => exact I.after hq
    | next => exact False.elim hq
    | brk => exact False.elim hq
    | cont => exact False.elim hq

theorem pe_call (F : FnOk X.prog X.w X.K X.mg X.base CX k f fd ps sp) (hr : Room k X.A) (hg : Gl X x) (hm : X.mg x = some (.ref f)) (hk : PySem.W.keepIn X.K (.ref f) = true) (hb : Binds X.K fd ps ds) (hd : Vals dvs ds) (hx : Passes CX X E)
    (ha : PA X (e :: es) t) (hdb : (x == ("__debug__" : Str)) = false := by decide) (he : starEach (e :: es) X.env = (false, eval e X.env) :: starEach es X.env := by rfl) (hpl : (backTo pos (starEach es X.env)).any (·.1) = false := by rfl) :
    PE X (.Call (.Name x p) (e :: es) [] pos) (tCall sp dvs E t) := by
  intro pins s σ H Q I h
  refine wpAny_Call_Name_kw (ld_glob I hg hm ?_ hdb)
  refine PySem.W.callWith_K (h₀ := X.base) I.ok.mod.kin hk (thn (ha pos pins s σ H _ I h) fun us s1 ⟨vs, H1, I1, r, q⟩ => ⟨I1.kIn, ?_⟩) he hpl
  exact run_fn F hr hb hd hx I1 r q
theorem pe_call0 (F : FnOk X.prog X.w X.K X.mg X.base CX k f fd ps sp) (hr : Room k X.A) (hg : Gl X x) (hm : X.mg x = some (.ref f)) (hk : PySem.W.keepIn X.K (.ref f) = true) (hb : Binds X.K fd ps ds) (hd : Vals dvs ds) (hx : Passes CX X E)
    (hdb : (x == ("__debug__" : Str)) = false := by decide) : PE X (.Call (.Name x p) [] [] pos) (tCall sp dvs E tNil) := by
  intro pins s σ H Q I h
  refine wpAny_Call_Name_kw (ld_glob I hg hm ?_ hdb)
  exact PySem.W.callWith_K0 I.kIn hk (run_fn (us := []) F hr hb hd hx I .nil h)

/-- o.m(e, ..) -/
theorem pe_meth {pl : Sem Bool} (he : PE X o ta) (c : Cls X.K C) (hm : Meth X.K C m f) (F : FnOk X.prog X.w X.K X.mg X.base CX k f fd ps sp) (hr : Room k X.A) (hb : Binds X.K fd ps ds) (hd : Vals dvs ds) (hx : Passes CX X E) (ha : PA X (e :: es) t)
    (hst : starEach (e :: es) X.env = (false, eval e X.env) :: starEach es X.env := by rfl) (hpl : (backTo pos (starEach es X.env)).any (·.1) = false := by rfl)
    (ht : eval (.Call (.Attribute o m apos) (e :: es) [] pos) X.env = (do
      let ov ← eval o X.env
      standAt apos.atName
      let (f, first) ← holding [ov] (getMethod ov m pl)
      callWith pos f first (backTo pos (starEach (e :: es) X.env)) (backToKw pos (keywordEach [] X.env))) := by rfl) :
    PE X (.Call (.Attribute o m apos) (e :: es) [] pos) (tMeth C m sp dvs E ta t) := by
  intro pins s σ H Q I h
  refine PySem.W.methodCall_KW (pl := pl) (thn (he pins s σ H _ I h) fun u s1 ⟨x, H1, I1, rx, a, dx, fs, ex, ea, l, q⟩ => ?_) ht
  subst ex
  obtain rfl : u = Value.ref a := rx
  refine getmeth_ok I1 ea c hm l ?_
  refine PySem.W.callWith_K (first := [.ref a]) (h₀ := X.base) I.ok.mod.kin hm.kp (thn (ha pos pins s1 σ H1 _ I1 q) fun us s2 ⟨vs, H2, I2, r, q2⟩ => ⟨I2.kIn, ?_⟩) hst hpl
  exact run_fn (us := .ref a :: us) (vs := .ref a :: vs) F hr hb hd hx I2 (.cons rfl r) q2
/-- o.m() -/
theorem pe_meth0 {pl : Sem Bool} (he : PE X o ta) (c : Cls X.K C) (hm : Meth X.K C m f) (F : FnOk X.prog X.w X.K X.mg X.base CX k f fd ps sp) (hr : Room k X.A) (hb : Binds X.K fd ps ds) (hd : Vals dvs ds) (hx : Passes CX X E)
    (ht : eval (.Call (.Attribute o m apos) [] [] pos) X.env = (do
      let ov ← eval o X.env
      standAt apos.atName
      let (f, first) ← holding [ov] (getMethod ov m pl)
      callWith pos f first (backTo pos (starEach [] X.env)) (backToKw pos (keywordEach [] X.env))) := by rfl) :
    PE X (.Call (.Attribute o m apos) [] [] pos) (tMeth C m sp dvs E ta tNil) := by
  intro pins s σ H Q I h
  refine PySem.W.methodCall_KW (pl := pl) (thn (he pins s σ H _ I h) fun u s1 ⟨x, H1, I1, rx, a, dx, fs, ex, ea, l, q⟩ => ?_) ht
  subst ex
  obtain rfl : u = Value.ref a := rx
  refine getmeth_ok I1 ea c hm l ?_
  exact PySem.W.callWith_K0 (first := [.ref a]) I1.kIn hm.kp (run_fn (us := [.ref a]) (vs := [.ref a]) F hr hb hd hx I1 (.cons rfl .nil) q)

/-- what a class must have to be made -/
structure Mk (K : PySem.W.Frag) (C f : Addr) : Prop where
  makes : PySem.W.makesIn K C = true
  init : PySem.W.findIn K (.ref C) "__init__" = some (some (.ref f))
  fn : PySem.W.isFn K (.ref f) = true
  kp : PySem.W.keepIn K (.ref C) = true

theorem run_make {pins : List (Addr × Obj)} {σ : St} {H : Hp} {s : Shared} {Q : VK} {us : List Value} {vs : List V} (M : Mk X.K C f) (F : FnOk X.prog X.w X.K X.mg X.base CX k f fd ps sp) (hr : Room (k + 1) X.A) (hb : Binds X.K fd ps ds) (hd : Vals dvs ds)
    (hx : Passes CX X E) (I : Inv X pins σ H s) (r : Vals vs us)
    (h : ∀ x dx, H x = none → H dx = none → dx ≠ x → sp (.ref x :: (vs ++ dvs)) (upd (upd H dx (.own x)) x (.ins C dx [])) (fun v H2 => v = .non ∧ Q (.ref x) H2) E) :
    wpAny (model X.prog X.w) X.A (call (.ref C) us) (EP X pins σ Q) X.xe s := by
  have hq := h (s.heap.objs.size + 1) s.heap.objs.size (I.hok.fresh (Nat.le_succ _)) (I.hok.fresh (Nat.le_refl _)) (Nat.ne_of_lt (Nat.lt_succ_self _))
  have I2 := Inv.made (C := C) I
  have r2 : Vals (V.ref (s.heap.objs.size + 1) :: (vs ++ dvs)) (Value.ref (s.heap.objs.size + 1) :: (us ++ ds)) := .cons rfl (r.append hd)
  have hl : (Value.ref (s.heap.objs.size + 1) :: us ++ ds).length = ps.length := by
    have e := r2.length
    rw [F.len _ _ _ _ hq] at e
    exact e.symm
  refine wpAny_call (make_map (f := f) I.kIn M.makes M.init (beq_iff_eq.mp M.fn) (codeAny_mono (F.run _ X.stack _ _ ⟨Value.ref (s.heap.objs.size + 1) :: us, []⟩ (Value.ref (s.heap.objs.size + 1) :: (us ++ ds)) _ _ E (hr.make C us [])
    (I2.env0.make C us []) (hb _ (Value.ref (s.heap.objs.size + 1) :: us) I2.kIn hl) r2 hq) fun r s' hq' => ?_))
  cases r with
  | error e => exact hx pins σ _ _ e s' I2 hq'
  | ok fl =>
    cases fl with
    | ret u =>
      obtain ⟨v, H', I3, rv, ev, q3⟩ := I2.after hq'
      subst ev
      exact ⟨rv, ⟨V.ref (s.heap.objs.size + 1), H', I3, rfl, q3⟩⟩
    | next => exact False.elim hq'
    | brk => exact False.elim hq'
    | cont => exact False.elim hq'
theorem pe_make (M : Mk X.K C f) (F : FnOk X.prog X.w X.K X.mg X.base CX k f fd ps sp) (hr : Room (k + 1) X.A) (hg : Gl X x) (hm : X.mg x = some (.ref C)) (hb : Binds X.K fd ps ds) (hd : Vals dvs ds) (hx : Passes CX X E)
    (ha : PA X (e :: es) t) (hdb : (x == ("__debug__" : Str)) = false := by decide) (he : starEach (e :: es) X.env = (false, eval e X.env) :: starEach es X.env := by rfl) (hpl : (backTo pos (starEach es X.env)).any (·.1) = false := by rfl) :
    PE X (.Call (.Name x p) (e :: es) [] pos) (tMake C sp dvs E t) := by
  intro pins s σ H Q I h
  refine wpAny_Call_Name_kw (ld_glob I hg hm ?_ hdb)
  refine PySem.W.callWith_K (h₀ := X.base) I.ok.mod.kin M.kp (thn (ha pos pins s σ H _ I h) fun us s1 ⟨vs, H1, I1, r, q⟩ => ⟨I1.kIn, ?_⟩) he hpl
  exact run_make M F hr hb hd hx I1 r q
theorem pe_make0 (M : Mk X.K C f) (F : FnOk X.prog X.w X.K X.mg X.base CX k f fd ps sp) (hr : Room (k + 1) X.A) (hg : Gl X x) (hm : X.mg x = some (.ref C)) (hb : Binds X.K fd ps ds) (hd : Vals dvs ds) (hx : Passes CX X E)
    (hdb : (x == ("__debug__" : Str)) = false := by decide) : PE X (.Call (.Name x p) [] [] pos) (tMake C sp dvs E tNil) := by
  intro pins s σ H Q I h
  refine wpAny_Call_Name_kw (ld_glob I hg hm ?_ hdb)
  exact PySem.W.callWith_K0 I.kIn M.kp (run_make (us := []) M F hr hb hd hx I .nil h)
end

/-! ### keywords -/
/-- the values of the keywords, from the left -/
def PK (X : Cx) (kws : List Keyword) (t : TA) : Prop :=
  ∀ (pos : Pos) (pins : List (Addr × Obj)) (s : Shared) (σ : St) (H : Hp) (Q : List V → Hp → Prop), Inv X pins σ H s → t σ H Q → wpAny (model X.prog X.w) X.A (evalAll ((backToKw pos (keywordEach kws X.env)).map (·.2))) (AP X pins σ Q) X.xe s
section
variable {X : Cx} {CX : CXT} {k : Nat} {f C : Addr} {fd : FuncData} {ps ks : List Str} {sp : Sp} {E : XK} {x m : Str} {p pos apos kpos : Pos} {e o : Expr} {es : List Expr} {kws : List Keyword} {te ta : TE} {t tk : TA} {nm : Option Str}
theorem pk_nil : PK X [] tNil := fun _ _ _ _ H Q I h => wpAny_evalAll_nil ⟨[], H, I, .nil, h⟩
theorem pk_cons (ha : PE X e te) (hr : PK X kws t) : PK X (⟨nm, e, kpos⟩ :: kws) (tCons te t) := by
  intro pos pins s σ H Q I h
  show wpAny _ _ (evalAll ((do let v ← eval e X.env; standAt pos; pure v) :: (backToKw pos (keywordEach kws X.env)).map (·.2))) _ _ s
  refine wpAny_evalAll_cons (wpAny_bind (thn (ha pins s σ H _ I h) fun u s1 ⟨x, H1, I1, r1, q1⟩ => wpAny_bind (wpAny_standAt (wpAny_pure ?_))))
  exact thn (hr pos pins s1 σ H1 _ I1 q1) fun us s2 ⟨xs, H2, I2, r2, q2⟩ => ⟨x :: xs, H2, I2, .cons r1 r2, q2⟩

/-- how a call with keywords binds: g puts the positional values us and the keywords' values ws (names ks) in the parameters' order, defaults among them -/
structure KBinds (K : PySem.W.Frag) (fd : FuncData) (ps ks : List Str) (g : List Value → List Value → List Value) (gV : List V → List V → List V) : Prop where
  to : ∀ (s : Shared) (us ws : List Value), K.In s.heap → (g us ws).length = ps.length → BindsTo s fd ⟨us, ks.zip ws⟩ (ps.zip (g us ws))
  rel : ∀ {vs : List V} {us : List Value} {zs : List V} {ws : List Value}, Vals vs us → Vals zs ws → Vals (gV vs zs) (g us ws)
def tCallK (sp : Sp) (gV : List V → List V → List V) (E : XK) (t tk : TA) : TE := fun σ H Q => t σ H fun vs H1 => tk σ H1 fun zs H2 => sp (gV vs zs) H2 Q E
variable {g : List Value → List Value → List Value} {gV : List V → List V → List V}
theorem run_fnk {pins : List (Addr × Obj)} {σ : St} {H : Hp} {s : Shared} {Q : VK} {us ws : List Value} {vs zs : List V} (F : FnOk X.prog X.w X.K X.mg X.base CX k f fd ps sp) (hr : Room k X.A) (hb : KBinds X.K fd ps ks g gV) (hx : Passes CX X E)
    (I : Inv X pins σ H s) (r : Vals vs us) (rz : Vals zs ws) (h : sp (gV vs zs) H Q E) : wpAny (model X.prog X.w) X.A (call (.ref f) us (ks.zip ws)) (EP X pins σ Q) X.xe s := by
  have r2 := hb.rel r rz
  have hl : (g us ws).length = ps.length := by rw [← r2.length]; exact F.len _ _ _ _ h
  refine wpAny_call (codeAny_mono (F.run X.A X.stack s H ⟨us, ks.zip ws⟩ (g us ws) (gV vs zs) Q E hr I.env0 (hb.to s us ws I.kIn hl) r2 h) fun r s' hq => ?_)
  cases r with
  | error e => exact hx pins σ H s e s' I hq
  | ok fl =>
    cases fl with
    | ret u => exact I.after hq
    | next => exact False.elim hq
    | brk => exact False.elim hq
    | cont => exact False.elim hq
/-- f(e, .., k = v, ..) -/
theorem pe_callK (F : FnOk X.prog X.w X.K X.mg X.base CX k f fd ps sp) (hr : Room k X.A) (hg : Gl X x) (hm : X.mg x = some (.ref f)) (hk : PySem.W.keepIn X.K (.ref f) = true) (hb : KBinds X.K fd ps ks g gV) (hx : Passes CX X E)
    (ha : PA X (e :: es) t) (hkw : PK X kws tk) (hall : (backToKw pos (keywordEach kws X.env)).all (·.1.isSome) = true := by rfl) (hks : (backToKw pos (keywordEach kws X.env)).filterMap (·.1) = ks := by rfl)
    (hdb : (x == ("__debug__" : Str)) = false := by decide) (he : starEach (e :: es) X.env = (false, eval e X.env) :: starEach es X.env := by rfl)
    (hpl : ((backTo pos (starEach (e :: es) X.env)).any (·.1) || (backToKw pos (keywordEach kws X.env)).any (·.1.isNone)) = false := by rfl) :
    PE X (.Call (.Name x p) (e :: es) kws pos) (tCallK sp gV E t tk) := by
  intro pins s σ H Q I h
  refine wpAny_Call_Name_kw (ld_glob I hg hm ?_ hdb)
  refine PySem.W.callWith_KW (h₀ := X.base) I.ok.mod.kin hk hall (thn (ha pos pins s σ H _ I h) fun us s1 ⟨vs, H1, I1, r, q⟩ => ?_) hpl he
  refine thn (hkw pos pins s1 σ H1 _ I1 q) fun ws s2 ⟨zs, H2, I2, rz, q2⟩ => ⟨I2.kIn, ?_⟩
  rw [hks]
  exact run_fnk F hr hb hx I2 r rz q2
end

/-! ### a def's body keeps its promise -/
/-- names: the parameters first -/
structure FnScope (N P : List Str) (sc : Scope) : Prop where
  kind : sc.kind = .function
  co : sc.isCoroutine = false
  gen : sc.isGenerator = false
  nd : N.Nodup
  pre : N.take P.length = P
  par : ∀ x ∈ P, sc.names.lookup x = some .local ∨ sc.names.lookup x = some .cell
  nofree : ∀ y ∈ sc.names, y.2 ≠ .free

theorem bindL_out {kindOf : Str → Option NameKind} {x : Str} : ∀ {binds : List (Str × Value)} {m : Str → Option Value}, (∀ v, (x, v) ∉ binds) → bindL kindOf binds m x = m x
  | [], _, _ => rfl
  | (n, v) :: r, m, h => by
    unfold bindL
    rw [bindL_out fun w hw => h w (List.mem_cons_of_mem _ hw)]
    split
    · have : x ≠ n := by rintro rfl; exact h v List.mem_cons_self
      simp [this]
    · rfl
theorem bindC_out {kindOf : Str → Option NameKind} {x : Str} : ∀ {binds : List (Str × Value)} {m : Str → Option Value}, (∀ v, (x, v) ∉ binds) → bindC kindOf binds m x = m x
  | [], _, _ => rfl
  | (n, v) :: r, m, h => by
    unfold bindC
    rw [bindC_out fun w hw => h w (List.mem_cons_of_mem _ hw)]
    split
    · rfl
    · have : x ≠ n := by rintro rfl; exact h v List.mem_cons_self
      simp [this]
theorem bindL_get {kindOf : Str → Option NameKind} {x : Str} {v : Value} : ∀ {P : List Str} {vs : List Value} {i : Nat} {m : Str → Option Value}, P.Nodup → P[i]? = some x → vs[i]? = some v → kindOf x = some .local →
    bindL kindOf (P.zip vs) m x = some v
  | [], _, _, _, _, h, _, _ => by simp at h
  | _ :: _, [], _, _, _, _, h, _ => by simp at h
  | p :: P, w :: vs, 0, m, nd, h1, h2, hk => by
    simp at h1 h2; subst h1; subst h2
    show bindL kindOf ((p, w) :: P.zip vs) m p = _
    unfold bindL
    rw [bindL_out fun v hv => (List.nodup_cons.mp nd).1 (List.of_mem_zip hv).1, if_pos hk]
    simp
  | p :: P, w :: vs, i + 1, m, nd, h1, h2, hk => by
    show bindL kindOf ((p, w) :: P.zip vs) m x = _
    unfold bindL
    exact bindL_get (i := i) (List.nodup_cons.mp nd).2 (by simpa using h1) (by simpa using h2) hk
theorem bindC_get {kindOf : Str → Option NameKind} {x : Str} {v : Value} : ∀ {P : List Str} {vs : List Value} {i : Nat} {m : Str → Option Value}, P.Nodup → P[i]? = some x → vs[i]? = some v → kindOf x ≠ some .local →
    bindC kindOf (P.zip vs) m x = some v
  | [], _, _, _, _, h, _, _ => by simp at h
  | _ :: _, [], _, _, _, _, h, _ => by simp at h
  | p :: P, w :: vs, 0, m, nd, h1, h2, hk => by
    simp at h1 h2; subst h1; subst h2
    show bindC kindOf ((p, w) :: P.zip vs) m p = _
    unfold bindC
    rw [bindC_out fun v hv => (List.nodup_cons.mp nd).1 (List.of_mem_zip hv).1, if_neg hk]
    simp
  | p :: P, w :: vs, i + 1, m, nd, h1, h2, hk => by
    show bindC kindOf ((p, w) :: P.zip vs) m x = _
    unfold bindC
    exact bindC_get (i := i) (List.nodup_cons.mp nd).2 (by simpa using h1) (by simpa using h2) hk

/-- the names' values at the entry -/
def start (N : List Str) (vs : List V) : St := vs.map some ++ List.replicate (N.length - vs.length) none

/-- the context of a def's body, at its entry; an exception leaves the frame, then lies as CX says -/
def cxOf (CX : CXT) (P : Program) (w : World) (K : PySem.W.Frag) (mg : Str → Option Value) (base : Heap) (N : List Str) (qual : Str) (scope : Scope) (f : Addr) (cd : Value) (A : Around) (outer : List Env) (s : Shared) (H : Hp) (E : XK) : Cx where
  prog := P
  w := w
  K := K
  mg := mg
  base := base
  A := A.deeper (envOfC qual scope s.heap.objs.size f cd)
  N := N
  s₀ := s
  H₀ := H
  env := envOfC qual scope s.heap.objs.size f cd
  outer := outer
  stack := envOfC qual scope s.heap.objs.size f cd :: outer
  ex := []
  calm := true
  fn := fun _ => true
  pn := []
  xe := fun e s' => wpAny (model P w) (A.deeper (envOfC qual scope s.heap.objs.size f cd)) (leaving (envOfC qual scope s.heap.objs.size f cd) e) (fun _ s'' => CX outer H s E e s'') (fun e' s'' => CX outer H s E e' s'') s'

theorem cell_has {sc : Scope} {n : Nat} {x : Str} (h : sc.names.lookup x = some .cell) : ∃ c, (cellsFrom n sc.names []).lookup x = some c := by
  have q := PySem.W.cellsFrom_some sc.names n [] (.inl h)
  exact Option.isSome_iff_exists.mp q

theorem inv_start {CX : CXT} {P : Program} {w : World} {K : PySem.W.Frag} {mg : Str → Option Value} {base : Heap} {N ps : List Str} {qual : Str} {scope : Scope} {f : Addr} {cd : Value} {A : Around} {outer : List Env} {s s1 : Shared} {H : Hp} {E : XK} {us : List Value} {vs : List V}
    (S : FnScope N ps scope) (hd : A.handled = none) (e0 : Env0 P w K mg base A outer s H) (hl : vs.length = ps.length) (r : Vals vs us)
    (x : InCallC s s.heap.objs.size (bindL (envOfC qual scope s.heap.objs.size f cd).kindOf (ps.zip us) fun _ => none) (cellsFrom (s.heap.objs.size + 1) scope.names []) (bindC (envOfC qual scope s.heap.objs.size f cd).kindOf (ps.zip us) fun _ => none) s1) :
    Inv (cxOf CX P w K mg base N qual scope f cd A outer s H E) [] (start N vs) H s1 := by
  have hpl : ps.length ≤ N.length := by have := congrArg List.length S.pre; rw [List.length_take] at this; omega
  obtain ⟨h1, tk, rfl, hk⟩ := x.done
  have noA : ∀ b : Addr, b ∉ (cxOf CX P w K mg base N qual scope f cd A outer s H E).ex := fun b z => absurd (show b ∈ ([] : List Addr) from z) (by simp)
  refine ⟨⟨e0.mod, S.kind, rfl, rfl, Nat.le_refl _, fun y z c h1 h2 => ?_, fun y hy => ?_, fun y c _ h => ?_, fun _ => hd, Around.frames_deeper e0.frames, .inr ⟨rfl, rfl⟩, fun b z => absurd z (noA b), e0.bs, e0.bsz, fun b _ _ => noA b, fun b z => absurd z (noA b), e0.funs, e0.frf⟩,
    rfl, e0.bare, Un.kept hk, ⟨_, x.toInCall.ns, fun i y v h1 h2 h3 => ?_⟩, fun y c h => ⟨_, x.cell y c h⟩, e0.hok.fresh (Nat.le_refl _), fun y c h => ?_, fun p hp => absurd (show p ∈ ([] : List (Addr × Obj)) from hp) (by simp), e0.hok.kept hk, ?_⟩
  · exact name_of_addr x.apart (PySem.mem_of_lookup h1) (PySem.mem_of_lookup h2)
  · have hy : scope.names.lookup y = some .cell ∨ scope.names.lookup y = some .free := hy
    rcases hy with hy | hy
    · exact cell_has hy
    · exact absurd rfl (S.nofree _ (PySem.mem_of_lookup hy))
  · exact Nat.le_of_lt (x.above y c (PySem.mem_of_lookup h))
  · have hi : i < vs.length := by
      unfold start at h2
      by_cases hi : i < vs.length
      · exact hi
      · rw [List.getElem?_append_right (by simpa using hi)] at h2
        rw [List.getElem?_replicate] at h2
        split at h2 <;> cases h2
    have ha : vs[i]? = some v := by
      unfold start at h2
      rw [List.getElem?_append_left (by simpa using hi), List.getElem?_map] at h2
      cases e : vs[i]? with
      | none => rw [e] at h2; cases h2
      | some a => rw [e] at h2; cases h2; rfl
    obtain ⟨u, hu, rv⟩ := r.get ha
    have hp : ps[i]? = some y := by
      rw [← S.pre, List.getElem?_take_of_lt (by omega)]; exact h1
    have ndP : ps.Nodup := by rw [← S.pre]; exact S.nd.sublist (List.take_sublist _ _)
    refine ⟨u, rv, ?_⟩
    rcases S.par y (List.mem_of_getElem? hp) with k | k
    · exact .inl ⟨k, bindL_get ndP hp hu k⟩
    · obtain ⟨c, e⟩ := cell_has (n := s.heap.objs.size + 1) k
      refine .inr ⟨.inl k, c, e, ?_⟩
      have q := x.cell y c e
      rw [bindC_get ndP hp hu (by show scope.names.lookup y ≠ _; rw [k]; decide)] at q
      exact q
  · exact e0.hok.fresh (Nat.le_of_lt (x.above y c (PySem.mem_of_lookup h)))
  · unfold start
    show _ = N.length
    rw [List.length_append, List.length_map, List.length_replicate]
    omega

/-- THE RULE: a def (or a method) of the text, by its body. The body's reading t is chosen for each entry; it is run at the parameters' values -/
theorem fn_of {CX : CXT} {P : Program} {w : World} {K : PySem.W.Frag} {mg : Str → Option Value} {base : Heap} {k : Nat} {f : Addr} {name qual : Str} {params : Arguments} {body : List Stmt} {scope : Scope} {dV kV doc pm cdv ct oc : Value} {an od : Option Addr}
    {osl : Array (Option Value)} {N ps : List Str} {sp : Sp} (lk : K.lookup f = some ⟨oc, od, .func (PySem.W.fnOf name qual params body scope dV kV doc pm an cdv ct), osl⟩) (hcd : PySem.W.codeIn K cdv qual = true) (S : FnScope N ps scope)
    (len : ∀ vs H Q E, sp vs H Q E → vs.length = ps.length)
    (hbody : ∀ (A : Around) (outer : List Env) (s : Shared) (H : Hp) (vs : List V) (Q : VK) (E : XK), Room k (A.deeper (envOfC qual scope s.heap.objs.size f cdv)) → sp vs H Q E →
      ∃ t, PSs (cxOf CX P w K mg base N qual scope f cdv A outer s H E) body t ∧ t { nx := fun _ H' => Q .non H', rt := Q } (start N vs) H) :
    FnOk P w K mg base CX (k + 1) f (PySem.W.fnOf name qual params body scope dV kV doc pm an cdv ct) ps sp := by
  refine ⟨len, fun A outer s H args us vs Q E hr e0 hb r hsp => ?_⟩
  have hl := len _ _ _ _ hsp
  have KX : K.In s.heap := e0.mod.kin.keeps fun b o e => (e0.bs b o e).1
  have lim : s.heap.NoLimit := e0.mod.nolimit.keeps fun b o e => (e0.bs b o e).1
  have hkind : ∀ y ∈ ps.zip us, scope.names.lookup y.1 = some .local ∨ (scope.names.lookup y.1 = some .cell ∧ ((cellsFrom (s.heap.objs.size + 1) scope.names []).lookup y.1).isSome = true) := fun ⟨n, v⟩ hy => by
    rcases S.par n (List.of_mem_zip hy).1 with q | q
    · exact .inl q
    · exact .inr ⟨q, PySem.W.cellsFrom_some _ _ _ (.inl q)⟩
  refine codeAny_call_function hr.depth (KX _ _ lk) rfl S.co S.gen rfl (PySem.W.codeRec_of KX hcd) (hb _ _ _ _ ?_)
  refine wpAny_newFunctionEnv_cells S.kind hkind fun env he s1 x => ?_
  subst he
  refine ⟨lim.keeps x.toInCall.keep, codeAny_func ?_⟩
  obtain ⟨t, ht, hq⟩ := hbody A outer s H vs Q E (hr.deeper _) hsp
  have I : Inv (cxOf CX P w K mg base N qual scope f cdv A outer s H E) [] (start N vs) H s1 := inv_start S hr.hd e0 hl r x
  refine wpAny_mono (ht [] s1 (start N vs) H _ I hq) (fun fl s' hs => ?_) fun e s' hs => hs
  have fin : ∀ {σ' : St} {H' : Hp} {v : V} {u : Value}, Inv (cxOf CX P w K mg base N qual scope f cdv A outer s H E) [] σ' H' s' → RelV v u → Q v H' → CE outer P w H s Q u s' :=
    fun {σ' H' v u} J rv q => ⟨v, H', J.os, J.bare, J.base, J.hok, rv, q⟩
  cases fl with
  | ret u =>
    obtain ⟨v, σ', H', J, rv, q⟩ := hs
    exact fin J rv q
  | next =>
    obtain ⟨σ', H', J, q⟩ := hs
    exact fin (v := V.non) (u := Value.none) J rfl q
  | brk =>
    obtain ⟨_, _, _, q⟩ := hs
    exact False.elim q
  | cont =>
    obtain ⟨_, _, _, q⟩ := hs
    exact False.elim q
end L2

namespace L2
open PySem PySem.Spec PyProof.Rows
section
variable {X : Cx} {x : Str} {p pos : Pos} {e : Expr} {es : List Expr} {t : TA} {id T : String} {r : List V → Hp → VK → Prop}

def tCB (r : List V → Hp → VK → Prop) (t : TA) : TE := fun σ H Q => t σ H fun vs H1 => r vs H1 Q
/-- f(e, ..), f a built-in function -/
theorem pe_callB (hc : CallR X (.builtin id) r) (hg : Gl X x) (hm : X.mg x = none) (hv : bootBuiltins x = some (.builtin id)) (ha : PA X (e :: es) t) (hn : x ≠ "__name__" := by decide) (hdb : (x == ("__debug__" : Str)) = false := by decide)
    (he : starEach (e :: es) X.env = (false, eval e X.env) :: starEach es X.env := by rfl) (hpl : (backTo pos (starEach es X.env)).any (·.1) = false := by rfl) : PE X (.Call (.Name x p) (e :: es) [] pos) (tCB r t) := by
  intro pins s σ H Q I h
  refine wpAny_Call_Name_kw (ld_blt I hg hm hv ?_ hn hdb)
  exact PyProof.Rows.callWith_builtin1 (thn (ha pos pins s σ H _ I h) fun us s1 ⟨vs, H1, I1, r1, q1⟩ => hc pins s1 σ H1 vs us Q I1 r1 q1) he hpl
/-- T(e, ..), T a built-in type -/
theorem pe_callTy (hc : CallR X (.type T) r) (hg : Gl X x) (hm : X.mg x = none) (hv : bootBuiltins x = some (.type T)) (ha : PA X (e :: es) t) (hn : x ≠ "__name__" := by decide) (hdb : (x == ("__debug__" : Str)) = false := by decide)
    (he : starEach (e :: es) X.env = (false, eval e X.env) :: starEach es X.env := by rfl) (hpl : (backTo pos (starEach es X.env)).any (·.1) = false := by rfl) : PE X (.Call (.Name x p) (e :: es) [] pos) (tCB r t) := by
  intro pins s σ H Q I h
  refine wpAny_Call_Name_kw (ld_blt I hg hm hv ?_ hn hdb)
  exact PyProof.Rows.callWith_type1 (thn (ha pos pins s σ H _ I h) fun us s1 ⟨vs, H1, I1, r1, q1⟩ => hc pins s1 σ H1 vs us Q I1 r1 q1) he hpl
/-- T() -/
theorem pe_callTy0 (hc : CallR X (.type T) r) (hg : Gl X x) (hm : X.mg x = none) (hv : bootBuiltins x = some (.type T)) (hn : x ≠ "__name__" := by decide) (hdb : (x == ("__debug__" : Str)) = false := by decide) :
    PE X (.Call (.Name x p) [] [] pos) (tCB r tNil) := by
  intro pins s σ H Q I h
  refine wpAny_Call_Name_kw (ld_blt I hg hm hv ?_ hn hdb)
  exact PyProof.Rows.callWith_type0 (hc pins s σ H [] [] Q I .nil h)
end
end L2

namespace HT
open PySem PyProof.Rows

/-- t < u of tuples of ints -/
def lexLt : List Int → List Int → Bool
  | [], [] => false
  | [], _ :: _ => true
  | _ :: _, [] => false
  | x :: xs, y :: ys => if x = y then lexLt xs ys else decide (x < y)
theorem lexLt_cons (x y : Int) (xs ys : List Int) : lexLt (x :: xs) (y :: ys) = if x = y then lexLt xs ys else decide (x < y) := rfl
theorem lexLt_nil_nil : lexLt [] [] = false := rfl
theorem lexLt_nil_cons (y : Int) (ys : List Int) : lexLt [] (y :: ys) = true := rfl
theorem lexLt_cons_nil (x : Int) (xs : List Int) : lexLt (x :: xs) [] = false := rfl

theorem eqAt_int (A : Around) (s : Shared) (a : Int) (t : Tok) (c : Int) (u : Tok) : ∃ e, SeqAt.EqAt A s (.int a t) (.int c u) e ∧ (e = true ↔ a = c) :=
  ⟨(a == c), SeqAt.EqAt.int_int a t c u, by simp⟩
theorem rcLt_int (A : Around) (s : Shared) (a : Int) (t : Tok) (c : Int) (u : Tok) (prog : Program) (w : World) (E : Value → Shared → Prop) (Q : Value → Shared → Prop) (h : Q (.bool (decide (a < c))) s) :
    wpAny (model prog w) A (richCompare .Lt (.int a t) (.int c u)) Q E s :=
  (PyProof.Rows.lt_int h : wpAny (model prog w) A (compareOp .Lt (.int a t) (.int c u)) Q E s)

section
open PySem.SeqAt
open PySem.AutoSeq1 (wpAny_loadPart')
open PySem.MeetsSeq PySem.MeetsSeq2 PySem.MeetsSeq3

theorem tuple_lt_ints (l b : Addr) (items items2 : Array Value) (n n2 : Nat) (dd dd2 : Option Addr) (sl sl2 : Array (Option Value)) (ns ms : List Int) (hi : IntsAre items.toList ns) (hj : IntsAre items2.toList ms) :
    Meets (Builtin.«tuple.__lt__» ⟨[.ref l, .ref b], []⟩)
      (fun _ R s => s.heap.get? l = some { cls := .type "tuple", dict := dd, data := .seq items n, slots := sl } ∧ s.heap.get? b = some { cls := .type "tuple", dict := dd2, data := .seq items2 n2, slots := sl2 } ∧
        R (.ok (.ret (.bool (lexLt ns ms)))) s) :=
  .of_wp fun prog w A R s h => by
    obtain ⟨hp, g, d, tk, os⟩ := s; obtain ⟨hl, hb, h⟩ := h
    have f2 := AutoSeq1.sub_tuple_tuple
    have z1 : items.size = ns.length := by rw [← hi.length]; simp
    have z2 : items2.size = ms.length := by rw [← hj.length]; simp
    wp_walk using wpAny_loadPart' hl, wpAny_loadPart' hb, wpAny_forIn_list _ (fun rest b s' => b.1 = none ∧ s' = ⟨hp, g, d, tk, os⟩ ∧ ∃ (vs ws : List Value) (ns' ms' : List Int), rest = vs.zip ws ∧
      IntsAre vs ns' ∧ IntsAre ws ms' ∧ ns'.length + items2.size = ms'.length + items.size ∧ R (.ok (.ret (.bool (lexLt ns' ms')))) ⟨hp, g, d, tk, os⟩) _
    case turn =>
      rintro ⟨y, x⟩ rest b s' ⟨hb', rfl, vs, ws, ns', ms', hz, hvi, hwi, hlen, hR⟩
      cases hvi with
      | nil => rw [List.zip_nil_left] at hz; cases hz
      | cons a t hvi' =>
        cases hwi with
        | nil => rw [List.zip_nil_right] at hz; cases hz
        | cons c u hwi' =>
          rw [List.zip_cons_cons] at hz
          injection hz with hyx hrest
          injection hyx with hy hx
          subst hy hx
          rw [lexLt_cons] at hR
          simp only [List.length_cons] at hlen
          obtain ⟨e, he, hiff⟩ := eqAt_int A.in1 ⟨hp, g, d, tk, os⟩ a t c u
          refine wpAny_bind (he prog w _ _ ?_)
          cases e with
          | true =>
            rw [if_pos (hiff.mp rfl)] at hR
            wp_walk
            exact ⟨rfl, rfl, _, _, _, _, hrest, hvi', hwi', by omega, hR⟩
          | false =>
            rw [if_neg (fun q => absurd (hiff.mpr q) Bool.false_ne_true)] at hR
            have hri := rcLt_int A.in1 ⟨hp, g, d, tk, os⟩ a t c u prog w
            wp_walk using hri
            exact ⟨_, rfl, by simpa using hR⟩
    case fin =>
      rintro ⟨b1, b2⟩ s' ⟨hb', rfl, vs, ws, ns', ms', hz, hvi, hwi, hlen, hR⟩
      simp only at hb'
      subst hb'
      have hv : lexLt ns' ms' = decide (items.size < items2.size) := by
        cases hvi with
        | nil =>
          cases hwi with
          | nil =>
            simp only [List.length_nil] at hlen
            rw [lexLt_nil_nil]
            exact (decide_eq_false (by omega)).symm
          | cons c u hw =>
            simp only [List.length_nil, List.length_cons] at hlen
            rw [lexLt_nil_cons]
            exact (decide_eq_true (by omega)).symm
        | cons a t hv =>
          cases hwi with
          | nil =>
            simp only [List.length_nil, List.length_cons] at hlen
            rw [lexLt_cons_nil]
            exact (decide_eq_false (by omega)).symm
          | cons c u hw =>
            rw [List.zip_cons_cons] at hz
            cases hz
      rw [hv] at hR
      wp_walk
      exact ⟨_, rfl, by simpa [Builtin.Tuple.tupleCompareSizes] using hR⟩
    case h =>
      exact ⟨rfl, rfl, items.toList, items2.toList, ns, ms, rfl, hi, hj, by omega, h⟩
end

section
variable {prog : Program} {w : World} {A : Around} {E : Value → Shared → Prop} {s : Shared}

theorem lt_tupInts {l b : Addr} {items items2 : Array Value} {ns ms : List Int} {Q : Value → Shared → Prop} (hl : IsTup s.heap l items) (hb : IsTup s.heap b items2) (hi : IntsAre items.toList ns) (hj : IntsAre items2.toList ms)
    (hu : A.units < cLine) (h : Q (.bool (lexLt ns ms)) s) : wpAny (model prog w) A (compareOp .Lt (.ref l) (.ref b)) Q E s := by
  obtain ⟨⟨cls, dd, data, sl⟩, ho, hc, n, hd⟩ := id hl
  obtain ⟨⟨cls2, dd2, data2, sl2⟩, ho2, hc2, n2, hd2⟩ := id hb
  simp only at hc hd hc2 hd2
  subst hc hd hc2 hd2
  exact richCompare_meets_room (op := .Lt) ⟨_, ho, rfl⟩ ⟨_, ho2, rfl⟩ PySem.F.slot_tuple_lt PySem.F.entry_tuple_lt (PySem.F.args_tuple_lt_2 _ _) (tuple_lt_ints l b items items2 n n2 dd dd2 sl sl2 ns ms hi hj)
    ⟨ho, ho2, show Value.bool (lexLt ns ms) ≠ Value.notImplemented ∧ Q (.bool (lexLt ns ms)) s from ⟨(fun x => nomatch x), h⟩⟩ hu

/-- t + u, t not empty -/
theorem cat_tup {t b : Addr} {vs ws : List Value} {Q : Value → Shared → Prop} (ht : IsTup s.heap t vs.toArray) (hb : IsTup s.heap b ws.toArray) (hv : vs ≠ [])
    (h1 : ws = [] → Q (.ref t) s) (h2 : ws ≠ [] → Q (.ref s.heap.objs.size) { s with heap := s.heap.push { cls := .type "tuple", data := .seq (vs ++ ws).toArray } })
    (hsz : vs.length + ws.length ≤ sizeLine) : wpAny (model prog w) A (binaryOp .Add (.ref t) (.ref b)) Q E s := by
  obtain ⟨⟨cls, dd, data, sl⟩, ho, hc, n, hd⟩ := id ht
  obtain ⟨⟨cls2, dd2, data2, sl2⟩, ho2, hc2, n2, hd2⟩ := id hb
  simp only at hc hd hc2 hd2
  subst hc hd hc2 hd2
  have e : vs.toArray ++ ws.toArray = (vs ++ ws).toArray := by simp
  by_cases hw : ws = []
  · exact concat_meets ⟨_, ho, rfl⟩ ⟨_, ho2, rfl⟩ noFill_tuple_add seq_tuple_add PySem.F.slot_tuple_add PySem.F.entry_tuple_add (PySem.F.args_tuple_add_2 _ _)
      (tuple_addW1 t b vs.toArray ws.toArray n n2 dd dd2 sl sl2 (by simpa using hv) (by simp [hw])) ⟨ho, ho2, h1 hw⟩
  · refine concat_meets ⟨_, ho, rfl⟩ ⟨_, ho2, rfl⟩ noFill_tuple_add seq_tuple_add PySem.F.slot_tuple_add PySem.F.entry_tuple_add (PySem.F.args_tuple_add_2 _ _)
      (tuple_addW2 t b vs.toArray ws.toArray n n2 dd dd2 sl sl2 (by simpa using hv) (by simpa using hw) (by rw [List.size_toArray, List.size_toArray]; exact hsz)) ⟨ho, ho2, ?_⟩
    rw [e]
    exact h2 hw

/-! ### t[a:b], not the whole -/
/-- a slice's bound as a place among n (d where it is left out) -/
def sIx (n d : Nat) : Option Int → Nat
  | none => d
  | some v => if v < 0 then (v + (n : Int)).toNat else min v.toNat n
theorem sIx_none (n d : Nat) : sIx n d none = d := rfl
theorem sIx_nat (n d k : Nat) : sIx n d (some (k : Int)) = min k n := by
  show (if (k : Int) < 0 then ((k : Int) + (n : Int)).toNat else min (k : Int).toNat n) = min k n
  rw [if_neg (by omega), Int.toNat_natCast]
theorem sIx_le (n d : Nat) (hd : d ≤ n) (o : Option Int) : sIx n d o ≤ n := by
  cases o with
  | none => exact hd
  | some v =>
    show (if v < 0 then (v + (n : Int)).toNat else min v.toNat n) ≤ n
    by_cases hv : v < 0
    · rw [if_pos hv]; omega
    · rw [if_neg hv]; exact Nat.min_le_right _ _
theorem clip_eq (v : Int) (n d : Nat) : (if v < 0 then max (v + (n : Int)) 0 else min v (n : Int)) = ((sIx n d (some v) : Nat) : Int) := by
  show (if v < 0 then max (v + (n : Int)) 0 else min v (n : Int)) = (((if v < 0 then (v + (n : Int)).toNat else min v.toNat n) : Nat) : Int)
  by_cases hv : v < 0
  · simp only [if_pos hv]; omega
  · simp only [if_neg hv]; omega
theorem adjust_gen (lo hi : Option Int) (n : Nat) : Builtin.Slice.sliceAdjust lo hi 1 (n : Int) = (((sIx n 0 lo : Nat) : Int), ((sIx n n hi : Nat) : Int)) := by
  have h1 : ¬ ((1 : Int) < 0) := by omega
  unfold Builtin.Slice.sliceAdjust
  simp only [h1, if_false]
  refine Prod.ext ?_ ?_
  · cases lo with
    | none => rfl
    | some v => exact clip_eq v n 0
  · cases hi with
    | none => rfl
    | some v => exact clip_eq v n n
theorem places_gen (i j : Nat) : Builtin.Slice.slicePlaces (i : Int) (j : Int) 1 = j - i := by
  unfold Builtin.Slice.slicePlaces
  have h1 : (1 : Int) > 0 := by omega
  simp only [h1, if_true, Int.ediv_one]
  split <;> omega
theorem slicePart_ {v : Value} {o : Option Int} {Q : Option Int → Shared → Prop} (p : IsPart v o) (h : Q o s) : wpAny (model prog w) A (Builtin.Slice.slicePartIndex v) Q E s := by
  cases p with
  | none => exact slicePart_none h
  | int i t => exact slicePart_int h
theorem sliceApplied_gen {sl : Addr} {vl vu : Value} {lo hi : Option Int} {n : Nat} {Q : Int × Int × Nat → Shared → Prop} (hs : s.heap.IsSliceOf sl vl vu .none) (pl : IsPart vl lo) (pu : IsPart vu hi)
    (h : Q (((sIx n 0 lo : Nat) : Int), 1, sIx n n hi - sIx n 0 lo) s) : wpAny (model prog w) A (Builtin.Slice.sliceApplied (.ref sl) (pure (n : Int))) Q E s := by
  obtain ⟨os, hos, hcs, hds⟩ := id hs
  unfold Builtin.Slice.sliceApplied Builtin.Slice.sliceFields
  refine wpAny_bind (wpAny_bind (wpAny_field hos hds (x := vl) rfl (wpAny_bind (wpAny_field hos hds (x := vu) rfl (wpAny_bind (wpAny_field hos hds (x := .none) rfl (wpAny_pure ?_)))))))
  refine wpAny_bind (slicePart_none ?_)
  show wpAny _ _ (if ((1 : Int) == 0) = true then _ else _) _ _ s
  rw [if_neg (by decide)]
  refine wpAny_bind (slicePart_ pl (wpAny_bind (slicePart_ pu (wpAny_bind (wpAny_pure ?_)))))
  show wpAny _ _ (match Builtin.Slice.sliceAdjust lo hi 1 (n : Int) with | (lo, hi) => pure (lo, (1 : Int), Builtin.Slice.slicePlaces lo hi 1)) _ _ s
  rw [adjust_gen lo hi n]
  show wpAny _ _ (pure (((sIx n 0 lo : Nat) : Int), (1 : Int), Builtin.Slice.slicePlaces ((sIx n 0 lo : Nat) : Int) ((sIx n n hi : Nat) : Int) 1)) _ _ s
  rw [places_gen]
  exact wpAny_pure h
theorem pick_gen (xs : Array Value) (i k : Nat) : ((List.range k).filterMap fun (m : Nat) => xs[((i : Int) + (m : Int) * 1).toNat]?).toArray = ((xs.toList.drop i).take k).toArray := by
  have e : (fun (m : Nat) => xs[((i : Int) + (m : Int) * 1).toNat]?) = fun m => xs[i + m]? := by
    funext m
    have : ((i : Int) + (m : Int) * 1).toNat = i + m := by omega
    rw [this]
  rw [e]
  have := pick_run xs i k
  rw [List.filterMap_map] at this
  have e2 : ((fun x => xs[x]?) ∘ fun x => i + x) = fun m => xs[i + m]? := rfl
  rw [e2] at this
  rw [this]

theorem getItem_tuple_cut {t sl : Addr} {items : Array Value} {vl vu : Value} {lo hi : Option Int} {Q : Value → Shared → Prop} (ht : IsTup s.heap t items) (hs : s.heap.IsSliceOf sl vl vu .none) (pl : IsPart vl lo) (pu : IsPart vu hi)
    (hw : ¬ (sIx items.size 0 lo = 0 ∧ sIx items.size items.size hi = items.size))
    (h : Q (.ref s.heap.objs.size) { s with heap := s.heap.push { cls := .type "tuple", data := .seq ((items.toList.drop (sIx items.size 0 lo)).take (sIx items.size items.size hi - sIx items.size 0 lo)).toArray } })
    (hsz : items.size ≤ sizeLine) : wpAny (model prog w) A (getItem (.ref t) (.ref sl)) Q E s := by
  have htake : sizeOk (.seq ((items.toList.drop (sIx items.size 0 lo)).take (sIx items.size items.size hi - sIx items.size 0 lo)).toArray) := by
    show ((items.toList.drop (sIx items.size 0 lo)).take (sIx items.size items.size hi - sIx items.size 0 lo)).toArray.size ≤ sizeLine
    rw [List.size_toArray, List.length_take, List.length_drop, Array.length_toList]
    omega
  have hj : sIx items.size items.size hi ≤ items.size := sIx_le _ _ (Nat.le_refl _) hi
  obtain ⟨os, hos, hcs, hds⟩ := id hs
  have hTs : s.TypeIs (.ref sl) "slice" := ⟨os, hos, hcs⟩
  unfold getItem
  try with_reducible refine wpAny_holding ?_
  first | refine wpAny_bind (wpAny_pure ?_) | skip
  refine wpAny_bind (wpAny_sequenceKey ht.typeIs (by decide) ?_)
  refine wpAny_bind (wpAny_callSpecial?_slot (name := Str.ofString "__getitem__") ht.typeIs PyProof.Rows.slot_tuple_getitem
    (wpAny_call_entry PyProof.Rows.slot_tuple_getitem ht.typeIs entry_tuple_getitem ?_ (args_tuple_getitem _ _)))
  show wpAny _ _ (Builtin.Tuple.tupleItemsOf (.ref t) >>= _) _ _ s
  refine wpAny_bind (tupleItemsOf_ ht ?_)
  refine wpAny_bind (wpAny_typeOf hTs ?_)
  rw [if_pos (by decide)]
  refine wpAny_bind (sliceApplied_gen hs pl pu ?_)
  have hno : ¬ ((((sIx items.size 0 lo : Nat) : Int) == 0 && (1 : Int) == 1 && (sIx items.size items.size hi - sIx items.size 0 lo) == items.size) = true) := by
    intro q
    rw [Bool.and_eq_true, Bool.and_eq_true] at q
    have q1 : ((sIx items.size 0 lo : Nat) : Int) = 0 := eq_of_beq q.1.1
    have q2 : sIx items.size items.size hi - sIx items.size 0 lo = items.size := eq_of_beq q.2
    exact hw ⟨by omega, by omega⟩
  show wpAny _ _ (if (((sIx items.size 0 lo : Nat) : Int) == 0 && (1 : Int) == 1 && (sIx items.size items.size hi - sIx items.size 0 lo) == items.size) = true then _ else _) _ _ s
  rw [if_neg hno, pick_gen]
  first
    | exact wpAny_bind (m := Builtin.Tuple.tupleExact _) (wpAny_newObj_type (wpAny_pure ⟨_, rfl, wpAny_pure h⟩) htake)
    | exact wpAny_bind (m := Builtin.Tuple.tupleExact _) (wpAny_newObj_type (wpAny_bind (wpAny_pure (wpAny_pure ⟨_, rfl, wpAny_pure h⟩))) htake)
    | exact wpAny_bind (wpAny_bind (m := Builtin.Tuple.tupleExact _) (wpAny_newObj_type (wpAny_pure (wpAny_pure ⟨_, rfl, wpAny_pure h⟩)) htake))
    | exact wpAny_bind (wpAny_bind (m := Builtin.Tuple.tupleExact _) (wpAny_newObj_type (wpAny_pure ⟨_, rfl, wpAny_pure h⟩) htake))
end
end HT

namespace L2
open PySem PySem.Spec PyProof.Rows

/-! ### the parts of a slice -/
abbrev TO := St → Hp → (Option Int → Hp → Prop) → Prop
/-- a slice's part (left out, or an int) -/
def PO (X : Cx) (e : Option Expr) (t : TO) : Prop :=
  ∀ (pins : List (Addr × Obj)) (s : Shared) (σ : St) (H : Hp) (Q : Option Int → Hp → Prop), Inv X pins σ H s → t σ H Q →
    wpAny (model X.prog X.w) X.A (evalPart e X.env) (fun u s' => ∃ o H', Inv X pins σ H' s' ∧ IsPart u o ∧ Q o H') X.xe s
def tNoPart : TO := fun _ H Q => Q none H
def tPart (t : TE) : TO := fun σ H Q => t σ H fun x H1 => ∃ i, x = .int i ∧ Q (some i) H1

theorem intsAre_of {ns : List Int} : ∀ {us : List Value}, Vals (ns.map V.int) us → IntsAre us ns := by
  induction ns with
  | nil => intro us r; rw [List.map_nil] at r; cases r; exact .nil
  | cons n ns ih =>
    intro us r
    rw [List.map_cons] at r
    cases r with
    | cons r1 r2 =>
      obtain ⟨t, e⟩ := r1
      subst e
      exact .cons n t (ih r2)

section
variable {X : Cx} {e : Expr} {te : TE} {lo hi : Option Expr} {tl th : TO} {pos p2 : Pos}

theorem po_none : PO X none tNoPart := by
  intro pins s σ H Q I h
  rw [evalPart_none]
  exact wpAny_pure ⟨none, H, I, .none, h⟩
theorem po_some (h : PE X e te) : PO X (some e) (tPart te) := by
  intro pins s σ H Q I hw
  rw [evalPart_some]
  refine thn (h pins s σ H _ I hw) fun u s1 ⟨x, H1, I1, r1, q1⟩ => ?_
  obtain ⟨i, rfl, q⟩ := q1
  obtain ⟨t, rfl⟩ := r1
  exact ⟨some i, H1, I1, .int i t, q⟩

/-- what a slice of a value is, by values: the slice object stands at sl -/
def SlR (X : Cx) (r : V → Option Int → Option Int → Hp → VK → Prop) : Prop :=
  ∀ (pins : List (Addr × Obj)) (s : Shared) (σ : St) (H : Hp) (x : V) (v vl vu : Value) (lo hi : Option Int) (sl : Addr) (Q : VK), Inv X pins σ H s → RelV x v → s.heap.IsSliceOf sl vl vu .none → IsPart vl lo → IsPart vu hi → r x lo hi H Q →
    ∃ T id, typeLookup (.type T) "__getitem__" = pure (some (.builtin id)) ∧ s.TypeIs v T ∧ wpAny (model X.prog X.w) X.A (getItem v (.ref sl)) (EP X pins σ Q) X.xe s
theorem SlR.or {r r' : V → Option Int → Option Int → Hp → VK → Prop} (h : SlR X r) (h' : SlR X r') : SlR X (fun x lo hi H Q => r x lo hi H Q ∨ r' x lo hi H Q) := by
  intro pins s σ H x v vl vu lo hi sl Q I rx hs pl pu q
  rcases q with q | q
  · exact h pins s σ H x v vl vu lo hi sl Q I rx hs pl pu q
  · exact h' pins s σ H x v vl vu lo hi sl Q I rx hs pl pu q
def tSl (r : V → Option Int → Option Int → Hp → VK → Prop) (te : TE) (tl th : TO) : TE := fun σ H Q => te σ H fun x H1 => tl σ H1 fun l H2 => th σ H2 fun u H3 => r x l u H3 Q
/-- a[lo:hi], any a -/
theorem pe_slice {r : V → Option Int → Option Int → Hp → VK → Prop} (hr : SlR X r) (he : PE X e te) (hl : PO X lo tl) (hu : PO X hi th) : PE X (.Subscript e (.Slice lo hi none p2) pos) (tSl r te tl th) := by
  intro pins s σ H Q I h
  refine Subscript_ (thn (he pins s σ H _ I h) fun v s1 ⟨x, H1, I1, r1, q1⟩ => ?_)
  refine wpAny_Slice (thn (hl pins s1 σ H1 _ I1 q1) fun vl s2 ⟨l, H2, I2, pl, q2⟩ => thn (hu pins s2 σ H2 _ I2 q2) fun vu s3 ⟨u, H3, I3, pu, q3⟩ => ?_)
  rw [evalPart_none]
  refine wpAny_pure ?_
  have I4 : Inv X pins σ H3 { s3 with heap := s3.heap.push { cls := .type "slice", data := .fields #[vl, vu, .none] } } := I3.kept (t' := s3.toks) fun b ob q => Heap.get?_push_of_some _ q
  obtain ⟨T, id, hT, ht, hg⟩ := hr pins { s3 with heap := s3.heap.push { cls := .type "slice", data := .fields #[vl, vu, .none] } } σ H3 x v vl vu l u s3.heap.objs.size Q I4 r1 (Heap.IsSliceOf.new ..) pl pu q3
  show wpAny (model X.prog X.w) X.A (subscriptTail e (.Slice lo hi none p2) v (.ref s3.heap.objs.size)) (EP X pins σ Q) X.xe { s3 with heap := s3.heap.push { cls := .type "slice", data := .fields #[vl, vu, .none] } }
  exact tail_any (ops := [.ref s3.heap.objs.size, v]) ht hT hg (by with_unfolding_all rfl)

/-- the items of xs[lo:hi] -/
def cutV (xs : List V) (lo hi : Option Int) : List V := (xs.drop (HT.sIx xs.length 0 lo)).take (HT.sIx xs.length xs.length hi - HT.sIx xs.length 0 lo)
theorem cutV_length (xs : List V) (lo hi : Option Int) : (cutV xs lo hi).length ≤ xs.length := by
  unfold cutV
  rw [List.length_take, List.length_drop]
  omega
/-- t[lo:hi], not the whole of it (the whole would be t itself) -/
def rSlT (K : PySem.W.Frag) : V → Option Int → Option Int → Hp → VK → Prop := fun x lo hi H Q => ∃ a xs, x = .ref a ∧ SqT K H a xs ∧
  ¬ (HT.sIx xs.length 0 lo = 0 ∧ HT.sIx xs.length xs.length hi = xs.length) ∧ ∀ p, H p = none → Q (.ref p) (upd H p (.tup (cutV xs lo hi)))
theorem sl_tup : SlR X (rSlT X.K) := by
  intro pins s σ H x v vl vu lo hi sl Q I rx hs pl pu h
  obtain ⟨a, xs, rfl, hx, hw, q⟩ := h
  cases rx
  obtain ⟨its, r, ht, hz⟩ := I.tuple hx
  have hlen : its.toArray.size = xs.length := by rw [List.size_toArray]; exact r.length.symm
  refine ⟨"tuple", _, PyProof.Rows.slot_tuple_getitem.lookup, ht.typeIs, ?_⟩
  refine HT.getItem_tuple_cut ht hs pl pu (by rw [hlen]; exact hw) ?_ (by rw [hlen]; exact hz)
  rw [hlen]
  refine ⟨.ref s.heap.objs.size, _, I.laid (t' := s.toks) (o := .tup (cutV xs lo hi)) (fun b ob q => Heap.get?_push_of_some _ q) (Nat.le_refl _) ?_, rfl, q _ (I.hok.fresh (Nat.le_refl _))⟩
  exact ⟨Nat.le_trans (cutV_length xs lo hi) hz, _, (r.drop (HT.sIx xs.length 0 lo)).take (HT.sIx xs.length xs.length hi - HT.sIx xs.length 0 lo), IsTup.new _ _⟩

/-! ### t < u, t + u -/
def rLtT (K : PySem.W.Frag) : R2 := fun x y H Q => ∃ a b ns ms, x = .ref a ∧ y = .ref b ∧ SqT K H a (ns.map V.int) ∧ SqT K H b (ms.map V.int) ∧ Q (.bl (HT.lexLt ns ms)) H
theorem op_ltT (hu : X.A.units < cLine) : OpR X (compareOp .Lt) (rLtT X.K) := by
  intro pins s σ H x y v u Q I rx ry h
  obtain ⟨a, b, ns, ms, rfl, rfl, ha, hb, q⟩ := h
  cases rx
  cases ry
  obtain ⟨its, r1, p1, _⟩ := I.tuple ha
  obtain ⟨its2, r2, p2, _⟩ := I.tuple hb
  have i1 : IntsAre its.toArray.toList ns := intsAre_of r1
  have i2 : IntsAre its2.toArray.toList ms := intsAre_of r2
  exact HT.lt_tupInts p1 p2 i1 i2 hu ⟨.bl (HT.lexLt ns ms), H, I, rfl, q⟩
/-- t + u, t not empty: u empty gives t itself -/
def rCatT (K : PySem.W.Frag) : R2 := fun x y H Q => ∃ a b xs ys, x = .ref a ∧ y = .ref b ∧ SqT K H a xs ∧ SqT K H b ys ∧ xs ≠ [] ∧ xs.length + ys.length ≤ sizeLine ∧
  (ys = [] → Q (.ref a) H) ∧ (ys ≠ [] → ∀ p, H p = none → Q (.ref p) (upd H p (.tup (xs ++ ys))))
theorem Vals.nil_iff {xs : List V} {us : List Value} (r : Vals xs us) : us = [] ↔ xs = [] := by
  cases r with
  | nil => simp
  | cons _ _ => simp
theorem op_catT : OpR X (binaryOp .Add) (rCatT X.K) := by
  intro pins s σ H x y v u Q I rx ry h
  obtain ⟨a, b, xs, ys, rfl, rfl, ha, hb, hx, hz, q1, q2⟩ := h
  cases rx
  cases ry
  obtain ⟨its, r1, p1, _⟩ := I.tuple ha
  obtain ⟨its2, r2, p2, _⟩ := I.tuple hb
  refine HT.cat_tup p1 p2 (fun z => hx (r1.nil_iff.mp z)) (fun z => ⟨.ref a, H, I, rfl, q1 (r2.nil_iff.mp z)⟩) (fun z => ?_) (by rw [← r1.length, ← r2.length]; exact hz)
  refine ⟨.ref s.heap.objs.size, _, I.laid (t' := s.toks) (o := .tup (xs ++ ys)) (fun b ob q => Heap.get?_push_of_some _ q) (Nat.le_refl _) ?_, rfl, q2 (fun w => z (r2.nil_iff.mpr w)) _ (I.hok.fresh (Nat.le_refl _))⟩
  exact ⟨by rw [List.length_append]; exact hz, _, r1.append r2, IsTup.new _ _⟩
/-- tuple(t) -/
theorem call_tupleT : CallR X (.type "tuple") (fun xs H Q => ∃ a ys, xs = [.ref a] ∧ SqT X.K H a ys ∧ Q (.ref a) H) := by
  intro pins s σ H xs us Q I r h
  obtain ⟨a, ys, rfl, ha, q⟩ := h
  obtain ⟨u, rfl, ru⟩ := vals1 r
  cases ru
  obtain ⟨its, _, p1, _⟩ := I.tuple ha
  exact call_tuple_same (items := its.toArray) p1 ⟨.ref a, H, I, rfl, q⟩
end
end L2

namespace L2
open PySem PySem.Spec PyProof.Rows

/-! ### places -/
/-- the place that an index of any sign means -/
def ixN (n : Nat) (i : Int) : Option Nat := if 0 ≤ i then (if i < n then some i.toNat else none) else if -(n : Int) ≤ i then some (i + n).toNat else none
def atI {α : Type} (xs : List α) (i : Int) : Option α := (ixN xs.length i).bind fun j => xs[j]?
theorem ixN_seq {n : Nat} {i : Int} {j : Nat} (h : ixN n i = some j) : seqIndex? i n = some j ∧ j < n ∧ -(n : Int) ≤ i ∧ i < n := by
  unfold ixN at h
  by_cases h0 : 0 ≤ i
  · rw [if_pos h0] at h
    by_cases h1 : i < n
    · rw [if_pos h1] at h
      have e : i.toNat = j := Option.some.inj h
      exact ⟨by rw [seqIndex_of h0 h1, e], by omega, by omega, h1⟩
    · rw [if_neg h1] at h; cases h
  · rw [if_neg h0] at h
    by_cases h1 : -(n : Int) ≤ i
    · rw [if_pos h1] at h
      have e : (i + n).toNat = j := Option.some.inj h
      exact ⟨by rw [seqIndex_neg (by omega) h1, e], by omega, h1, by omega⟩
    · rw [if_neg h1] at h; cases h
theorem atI_get {α : Type} {xs : List α} {i : Int} {v : α} (h : atI xs i = some v) : ∃ j, seqIndex? i xs.length = some j ∧ xs[j]? = some v ∧ j < xs.length ∧ -(xs.length : Int) ≤ i ∧ i < xs.length := by
  unfold atI at h
  cases e : ixN xs.length i with
  | none => rw [e] at h; cases h
  | some j =>
    rw [e] at h
    obtain ⟨h1, h2, h3, h4⟩ := ixN_seq e
    exact ⟨j, h1, h, h2, h3, h4⟩
theorem atI_nat {α : Type} {xs : List α} {j : Nat} {v : α} (h : xs[j]? = some v) : atI xs (j : Int) = some v := by
  have hj : j < xs.length := (List.getElem?_eq_some_iff.mp h).1
  have e : ixN xs.length (j : Int) = some j := by
    unfold ixN
    rw [if_pos (by omega), if_pos (by omega)]; simp
  unfold atI; rw [e]; exact h
theorem atI_last {α : Type} (xs : List α) (v : α) : atI (xs ++ [v]) (-1) = some v := by
  have hl : (xs ++ [v]).length = xs.length + 1 := by simp
  have e : ixN (xs ++ [v]).length (-1) = some xs.length := by
    unfold ixN
    rw [hl, if_neg (by decide), if_pos (by omega)]
    congr 1
    omega
  unfold atI
  rw [e]
  show (xs ++ [v])[xs.length]? = some v
  simp

/-! ### what may be subscripted -/
/-- what stands as an index of a plain subscript -/
def PlainIx (b : Expr) : Prop := ∀ o i, subscripted b false o i = operate [o, i] (getItem o i)
/-- a subscript by values -/
def IxR (X : Cx) (r : R2) : Prop :=
  ∀ (value slice : Expr) (pins : List (Addr × Obj)) (s : Shared) (σ : St) (H : Hp) (x y : V) (v u : Value) (Q : VK), Inv X pins σ H s → RelV x v → RelV y u → r x y H Q →
    subscripted slice false v u = operate [v, u] (getItem v u) → wpAny (model X.prog X.w) X.A (subscriptTail value slice v u) (EP X pins σ Q) X.xe s
/-- a call of a builtin's method by values: the receiver, the arguments -/
def MtR (X : Cx) (id : String) (r : V → List V → Hp → VK → Prop) : Prop :=
  ∀ (pins : List (Addr × Obj)) (s : Shared) (σ : St) (H : Hp) (x : V) (xs : List V) (v : Value) (us : List Value) (Q : VK), Inv X pins σ H s → RelV x v → Vals xs us → r x xs H Q →
    wpAny (model X.prog X.w) X.A (call (.builtin id) (v :: us)) (EP X pins σ Q) X.xe s
section
variable {X : Cx} {a b : Expr} {ta tb : TE} {pos : Pos}
theorem IxR.or {r r' : R2} (h : IxR X r) (h' : IxR X r') : IxR X (fun x y H Q => r x y H Q ∨ r' x y H Q) := by
  intro value slice pins s σ H x y v u Q I rx ry q hs
  rcases q with q | q
  · exact h value slice pins s σ H x y v u Q I rx ry q hs
  · exact h' value slice pins s σ H x y v u Q I rx ry q hs
theorem MtR.or {id : String} {r r' : V → List V → Hp → VK → Prop} (h : MtR X id r) (h' : MtR X id r') : MtR X id (fun x xs H Q => r x xs H Q ∨ r' x xs H Q) := by
  intro pins s σ H x xs v us Q I rx rs q
  rcases q with q | q
  · exact h pins s σ H x xs v us Q I rx rs q
  · exact h' pins s σ H x xs v us Q I rx rs q
/-- a[b] -/
theorem pe_ix {r : R2} (hr : IxR X r) (ha : PE X a ta) (hb : PE X b tb) (hs : PlainIx b) : PE X (.Subscript a b pos) (tOp r ta tb) := by
  intro pins s σ H Q I h
  exact Subscript_ (binT ha hb I h fun v u s2 x y H2 I2 rx ry q => hr a b pins s2 σ H2 x y v u Q I2 rx ry q (hs _ _))

def rIxL (K : PySem.W.Frag) : R2 := fun x y H Q => ∃ p xs i v, x = .ref p ∧ y = .int i ∧ SqL K H p xs ∧ atI xs i = some v ∧ Q v H
def rIxT (K : PySem.W.Frag) : R2 := fun x y H Q => ∃ p xs i v, x = .ref p ∧ y = .int i ∧ SqT K H p xs ∧ atI xs i = some v ∧ Q v H
def rIxS : R2 := fun x y H Q => ∃ z i c, x = .str z ∧ y = .int i ∧ z.length ≤ sizeLine ∧ atI z.cps.toList i = some c ∧ Q (.str ⟨#[c]⟩) H
theorem ix_list : IxR X (rIxL X.K) := by
  intro value slice pins s σ H x y v u Q I rx ry h hs
  obtain ⟨p, xs, i, z, rfl, rfl, hq, he, q⟩ := h
  cases rx
  obtain ⟨t, rfl⟩ := ry
  obtain ⟨its, r, pl, hz⟩ := I.list hq
  obtain ⟨j, h1, h2, h3, h4, h5⟩ := atI_get he
  obtain ⟨w, ew, rw'⟩ := r.get h2
  have hl := r.length
  have hn := line63
  have fin : EP X pins σ Q w s := ⟨z, H, I, rw', q⟩
  by_cases h0 : 0 ≤ i
  · have hj : i.toNat = j := by
      rw [seqIndex_of h0 h5] at h1
      exact Option.some.inj h1
    exact item_listR pl.isList h0 (by omega) (by rw [hj]; simpa using ew) fin hs
  · have hj : (i + (its.toArray.size : Int)).toNat = j := by
      rw [seqIndex_neg (by omega) h4] at h1
      rw [List.size_toArray, ← hl]
      exact Option.some.inj h1
    exact subscriptTail_builtinR (x := w) pl.isList.typeIs slot_list_getitem.lookup
      (wpAny_getItem_list_neg (Q := fun r s' => r = w ∧ EP X pins σ Q r s') pl.isList (by omega) (by rw [List.size_toArray] <;> omega) (by omega) (by rw [hj]; simpa using ew) ⟨rfl, fin⟩) hs
theorem ix_tup : IxR X (rIxT X.K) := by
  intro value slice pins s σ H x y v u Q I rx ry h hs
  obtain ⟨p, xs, i, z, rfl, rfl, hq, he, q⟩ := h
  cases rx
  obtain ⟨t, rfl⟩ := ry
  obtain ⟨its, r, pl, hz⟩ := I.tuple hq
  obtain ⟨j, h1, h2, h3, h4, h5⟩ := atI_get he
  obtain ⟨w, ew, rw'⟩ := r.get h2
  have hl := r.length
  have hn := line63
  have fin : EP X pins σ Q w s := ⟨z, H, I, rw', q⟩
  exact subscriptTail_builtinR (x := w) pl.typeIs slot_tuple_getitem.lookup
    (getItem_tuple (j := j) (Q := fun r s' => r = w ∧ EP X pins σ Q r s') pl (by omega) (by omega) (by rw [List.size_toArray, ← hl]; exact h1) (by simpa using ew) ⟨rfl, fin⟩) hs
theorem ix_str : IxR X rIxS := by
  intro value slice pins s σ H x y v u Q I rx ry h hs
  obtain ⟨z, i, c, rfl, rfl, hz, he, q⟩ := h
  obtain ⟨t, rfl⟩ := rx
  obtain ⟨t', rfl⟩ := ry
  obtain ⟨j, h1, h2, h3, h4, h5⟩ := atI_get he
  have hl : z.cps.toList.length = z.length := by simp [Str.length]
  rw [hl] at h1 h4 h5
  have hn := line63
  exact tail_any (typeIs_str s z t) slot_str_getitem.lookup (getItem_str (c := c) (by
    have e1 : decide (i < -(2 ^ 63 : Int)) = false := decide_eq_false (by omega)
    have e2 : decide (i ≥ 2 ^ 63) = false := decide_eq_false (by omega)
    rw [e1, e2, Bool.or_false]) (by rw [h1]; simpa using h2) ⟨.str ⟨#[c]⟩, H, I.tok _, ⟨_, rfl⟩, q⟩) hs
/-- list, tuple or str -/
def rIx (K : PySem.W.Frag) : R2 := fun x y H Q => rIxL K x y H Q ∨ rIxT K x y H Q ∨ rIxS x y H Q
theorem ix_seq : IxR X (rIx X.K) := ix_list.or (ix_tup.or ix_str)

/-! ### xs[i] = v, any sign -/
/-- the list's object behind a store -/
theorem mapSeq_set (its : List Value) (n j : Nat) (u : Value) : Obj.mapSeq (·.setIfInBounds j u) { cls := .type "list", data := .seq its.toArray n } = { cls := .type "list", data := .seq (its.set j u).toArray n } := by
  simp [Obj.mapSeq]
theorem Inv.lst {pins : List (Addr × Obj)} {σ : St} {H : Hp} {s : Shared} {p : Addr} {xs : List V} (I : Inv X pins σ H s) (h : H p = some (.lst xs)) :
    ∃ (its : List Value) (n : Nat), Vals xs its ∧ s.heap.get? p = some { cls := .type "list", data := .seq its.toArray n } ∧ xs.length ≤ sizeLine := by
  obtain ⟨z, its, n, r, e⟩ := I.hok p _ h
  exact ⟨its, n, r, e, z⟩
/-- the list at p is written by an update of its object -/
theorem Inv.lstUpd {pins : List (Addr × Obj)} {σ : St} {H : Hp} {s : Shared} {p : Addr} {xs ys : List V} {its its' : List Value} {n n' : Nat} {f : Obj → Obj} (I : Inv X pins σ H s) (h : H p = some (.lst xs))
    (ho : s.heap.get? p = some { cls := .type "list", data := .seq its.toArray n }) (hf : f { cls := .type "list", data := .seq its.toArray n } = { cls := .type "list", data := .seq its'.toArray n' }) (r : Vals ys its') (hz : ys.length ≤ sizeLine) (t : Nat) :
    Inv X pins σ (upd H p (.lst ys)) { s with heap := s.heap.update p f, toks := t } := by
  have e : (s.heap.update p f).get? p = some { cls := .type "list", data := .seq its'.toArray n' } := by
    rw [Heap.get?_update_self f ho (by rw [hf] <;> rfl), hf]
  refine I.write (x := p) (e := p) (by rw [h]; trivial) (.inl rfl) (fun b u hb q => (Heap.get?_update_other _ _ (Ne.symm hb)).trans q) ⟨_, e⟩ ?_
  exact ⟨hz, its', n', r, e⟩
def rSetL : V → V → V → Hp → (Hp → Prop) → Prop := fun o i v H Q => ∃ p xs k j, o = .ref p ∧ i = .int k ∧ H p = some (.lst xs) ∧ ixN xs.length k = some j ∧ Q (upd H p (.lst (xs.set j v)))
theorem set_list : PSet X rSetL := by
  intro pins s σ H o i v ov iv u Q I ro ri rv h
  obtain ⟨p, xs, k, j, rfl, rfl, hp, hj, q⟩ := h
  cases ro
  obtain ⟨t, rfl⟩ := ri
  obtain ⟨its, n, r, ho, hz⟩ := I.lst hp
  obtain ⟨h1, h2, h3, h4⟩ := ixN_seq hj
  have hl := r.length
  have hn := line63
  have I' : Inv X pins σ (upd H p (.lst (xs.set j v))) { s with heap := s.heap.update p (Obj.mapSeq (·.setIfInBounds j u)) } :=
    I.lstUpd hp ho (mapSeq_set its n j u) (r.set rv j) (by rw [List.length_set]; exact hz) s.toks
  by_cases h0 : 0 ≤ k
  · have hk : k.toNat = j := by
      rw [seqIndex_of h0 h4] at h1
      exact Option.some.inj h1
    exact PySem.W.ki_setAt ho h0 (by omega) (by rw [List.size_toArray, ← hl]; exact h4) (by rw [hk]; exact ⟨_, I', q⟩)
  · have hk : (k + (its.toArray.size : Int)).toNat = j := by
      rw [seqIndex_neg (by omega) h3] at h1
      rw [List.size_toArray, ← hl]
      exact Option.some.inj h1
    exact PySem.W.ki_setBack ho (by omega) (by rw [List.size_toArray, ← hl]; exact h3) (by omega) (by rw [hk]; exact ⟨_, I', q⟩)

/-! ### slices -/
theorem slice_bounds (lo hi : Option Int) (n : Nat) : (sliceBounds lo hi none n).1 = ((HT.sIx n 0 lo : Nat) : Int) ∧ (sliceBounds lo hi none n).2.1 = ((HT.sIx n n hi : Nat) : Int) ∧ (sliceBounds lo hi none n).2.2 = 1 := by
  refine ⟨?_, ?_, rfl⟩
  · cases lo with
    | none => simp [sliceBounds, HT.sIx]
    | some i =>
      simp only [sliceBounds, HT.sIx, Option.getD_none, show (1 : Int) > 0 by decide, if_true]
      by_cases h : i < 0
      · simp only [h, if_true] <;> omega
      · simp only [h, if_false] <;> omega
  · cases hi with
    | none => simp [sliceBounds, HT.sIx]
    | some i =>
      simp only [sliceBounds, HT.sIx, Option.getD_none, show (1 : Int) > 0 by decide, if_true]
      by_cases h : i < 0
      · simp only [h, if_true] <;> omega
      · simp only [h, if_false] <;> omega
theorem slicePick_cut (its : List Value) (lo hi : Option Int) : slicePick its.toArray lo hi none = ((its.drop (HT.sIx its.length 0 lo)).take (HT.sIx its.length its.length hi - HT.sIx its.length 0 lo)).toArray := by
  obtain ⟨h1, h2, h3⟩ := slice_bounds lo hi its.toArray.size
  unfold slicePick
  rw [h1, h2, h3]
  simp only [sliceRange_one, pick_run, List.size_toArray] <;> rfl
/-- xs[lo:hi] of a list: a new list -/
def rSlL (K : PySem.W.Frag) : V → Option Int → Option Int → Hp → VK → Prop := fun x lo hi H Q => ∃ a xs, x = .ref a ∧ SqL K H a xs ∧ ∀ p, H p = none → Q (.ref p) (upd H p (.lst (cutV xs lo hi)))
theorem sl_list : SlR X (rSlL X.K) := by
  intro pins s σ H x v vl vu lo hi sl Q I rx hs pl pu h
  obtain ⟨a, xs, rfl, hx, q⟩ := h
  cases rx
  obtain ⟨its, r, ht, hz⟩ := I.list hx
  have hlen := r.length
  refine ⟨"list", _, slot_list_getitem.lookup, ht.isList.typeIs, ?_⟩
  refine wpAny_getItem_list_slice ht.isList hs pl pu .none (by simp) ?_ (by rw [List.size_toArray] <;> omega)
  rw [slicePick_cut, ← hlen]
  refine ⟨.ref s.heap.objs.size, _, I.laid (t' := s.toks) (o := .lst (cutV xs lo hi)) (fun b ob q => Heap.get?_push_of_some _ q) (Nat.le_refl _) ?_, rfl, q _ (I.hok.fresh (Nat.le_refl _))⟩
  exact ⟨Nat.le_trans (cutV_length xs lo hi) hz, _, 0, (r.drop (HT.sIx xs.length 0 lo)).take (HT.sIx xs.length xs.length hi - HT.sIx xs.length 0 lo), Heap.get?_push_size _ rfl⟩

/-! ### in, not in: flat items -/
def flatV : V → Bool
  | .non => true
  | .bl _ => true
  | .int _ => true
  | .str _ => true
  | _ => false
/-- == of flat values -/
def eqV : V → V → Bool
  | .non, .non => true
  | .bl a, .bl b => a == b
  | .bl a, .int b => (if a then 1 else 0) == b
  | .int a, .bl b => a == (if b then 1 else 0)
  | .int a, .int b => a == b
  | .str a, .str b => a == b
  | _, _ => false
theorem eqAt_V {A : Around} {s : Shared} {y x : V} {u v : Value} (ry : RelV y u) (rx : RelV x v) (fy : flatV y = true) (fx : flatV x = true) : SeqAt.EqAt A s u v (eqV y x) := by
  cases y with
  | non =>
    cases ry
    cases x with
    | non => cases rx; exact SeqAt.EqAt.same _
    | bl b => cases rx; exact SeqAt.EqAt.none_bool b
    | int b => obtain ⟨t, rfl⟩ := rx; exact SeqAt.EqAt.none_int b t
    | str b => obtain ⟨t, rfl⟩ := rx; exact SeqAt.EqAt.none_str b t
    | _ => exact absurd (show false = true from fx) Bool.false_ne_true
  | bl a =>
    cases ry
    cases x with
    | non => cases rx; exact SeqAt.EqAt.bool_none a
    | bl b => cases rx; exact SeqAt.EqAt.bool_bool a b
    | int b => obtain ⟨t, rfl⟩ := rx; exact SeqAt.EqAt.bool_int a b t
    | str b => obtain ⟨t, rfl⟩ := rx; exact SeqAt.EqAt.bool_str a b t
    | _ => exact absurd (show false = true from fx) Bool.false_ne_true
  | int a =>
    obtain ⟨t', rfl⟩ := ry
    cases x with
    | non => cases rx; exact SeqAt.EqAt.int_none a t'
    | bl b => cases rx; exact SeqAt.EqAt.int_bool a t' b
    | int b => obtain ⟨t, rfl⟩ := rx; exact SeqAt.EqAt.int_int a t' b t
    | str b => obtain ⟨t, rfl⟩ := rx; exact SeqAt.EqAt.int_str a t' b t
    | _ => exact absurd (show false = true from fx) Bool.false_ne_true
  | str a =>
    obtain ⟨t', rfl⟩ := ry
    cases x with
    | non => cases rx; exact SeqAt.EqAt.str_none a t'
    | bl b => cases rx; exact SeqAt.EqAt.str_bool a t' b
    | int b => obtain ⟨t, rfl⟩ := rx; exact SeqAt.EqAt.str_int a t' b t
    | str b => obtain ⟨t, rfl⟩ := rx; exact SeqAt.EqAt.str_str a t' b t
    | _ => exact absurd (show false = true from fx) Bool.false_ne_true
  | _ => exact absurd (show false = true from fy) Bool.false_ne_true
/-- the items' answers, read off the values (a value's own answer does not lean on its token) -/
def eqU (x : V) (u : Value) : Bool := match u with
  | .none => eqV .non x
  | .bool b => eqV (.bl b) x
  | .int i _ => eqV (.int i) x
  | .str z _ => eqV (.str z) x
  | _ => false
theorem eqU_of {x y : V} {u : Value} (r : RelV y u) (f : flatV y = true) : eqU x u = eqV y x := by
  cases y with
  | non => cases r; rfl
  | bl b => cases r; rfl
  | int i => obtain ⟨t, rfl⟩ := r; rfl
  | str z => obtain ⟨t, rfl⟩ := r; rfl
  | _ => exact absurd (show false = true from f) Bool.false_ne_true
theorem any_eqU {x : V} : ∀ {xs : List V} {us : List Value}, Vals xs us → xs.all flatV = true → us.any (eqU x) = xs.any fun y => eqV y x
  | _, _, .nil, _ => rfl
  | y :: xs, u :: us, .cons r t, f => by
    rw [List.all_cons, Bool.and_eq_true] at f
    rw [List.any_cons, List.any_cons, eqU_of r f.1, any_eqU t f.2]
theorem mem_eqAt {A : Around} {s : Shared} {x : V} {v : Value} (rx : RelV x v) (fx : flatV x = true) : ∀ {xs : List V} {us : List Value}, Vals xs us → xs.all flatV = true → ∀ u ∈ us, SeqAt.EqAt A s u v (eqU x u)
  | _, _, .nil, _ => fun u hu => by cases hu
  | y :: xs, u :: us, .cons r t, f => fun u' hu => by
    rw [List.all_cons, Bool.and_eq_true] at f
    rcases List.mem_cons.mp hu with rfl | hu
    · rw [eqU_of r f.1]; exact eqAt_V r rx f.1 fx
    · exact mem_eqAt rx fx t f.2 u' hu
def inV (x : V) (xs : List V) : Bool := xs.any fun y => eqV y x
/-- x in a list or tuple of flat items -/
def rIn (K : PySem.W.Frag) (neg : Bool) : R2 := fun x y H Q => ∃ p xs, y = .ref p ∧ (SqL K H p xs ∨ SqT K H p xs) ∧ flatV x = true ∧ xs.all flatV = true ∧ Q (.bl (if neg then !inV x xs else inV x xs)) H
theorem op_in_seq : OpR X (compareOp .In) (rIn X.K false) := by
  intro pins s σ H x y v u Q I rx ry h
  obtain ⟨p, xs, rfl, hq, fx, fs, q⟩ := h
  cases ry
  rcases hq with hq | hq
  · obtain ⟨its, r, pl, hz⟩ := I.list hq
    refine SeqAt.in_listAt (eqU x) pl.isList (fun w hw => mem_eqAt rx fx r fs w (by simpa using hw)) ⟨.bl _, H, I, rfl, ?_⟩
    rw [show its.toArray.any (eqU x) = its.any (eqU x) by simp, any_eqU r fs]
    exact q
  · obtain ⟨its, r, pl, hz⟩ := I.tuple hq
    refine SeqAt.in_tupleAt (eqU x) pl (fun w hw => mem_eqAt rx fx r fs w (by simpa using hw)) ⟨.bl _, H, I, rfl, ?_⟩
    rw [show its.toArray.any (eqU x) = its.any (eqU x) by simp, any_eqU r fs]
    exact q
theorem op_notIn_seq : OpR X (compareOp .NotIn) (rIn X.K true) := by
  intro pins s σ H x y v u Q I rx ry h
  obtain ⟨p, xs, rfl, hq, fx, fs, q⟩ := h
  cases ry
  rcases hq with hq | hq
  · obtain ⟨its, r, pl, hz⟩ := I.list hq
    refine SeqAt.notIn_listAt (eqU x) pl.isList (fun w hw => mem_eqAt rx fx r fs w (by simpa using hw)) ⟨.bl _, H, I, rfl, ?_⟩
    rw [show its.toArray.any (eqU x) = its.any (eqU x) by simp, any_eqU r fs]
    exact q
  · obtain ⟨its, r, pl, hz⟩ := I.tuple hq
    refine SeqAt.notIn_tupleAt (eqU x) pl (fun w hw => mem_eqAt rx fx r fs w (by simpa using hw)) ⟨.bl _, H, I, rfl, ?_⟩
    rw [show its.toArray.any (eqU x) = its.any (eqU x) by simp, any_eqU r fs]
    exact q
theorem op_notIn_str : OpR X (compareOp .NotIn) (fun x y H Q => ∃ i j, x = .str i ∧ y = .str j ∧ Q (.bl (!(!(Builtin.Str.occurrences j i 0 j.length 1).isEmpty))) H) := by
  intro pins s σ H x y v u Q I rx ry h
  obtain ⟨i, j, rfl, rfl, q⟩ := h
  obtain ⟨t, rfl⟩ := rx
  obtain ⟨t', rfl⟩ := ry
  exact notIn_str ⟨.bl _, H, I, rfl, q⟩

/-! ### len, list(x), tuple(x) of any list or tuple that is read -/
theorem call_len_seq : CallR X (.builtin "len") (fun xs H Q => ∃ p ys, xs = [.ref p] ∧ (SqL X.K H p ys ∨ SqT X.K H p ys) ∧ Q (.int ys.length) H) := by
  intro pins s σ H xs us Q I r h
  obtain ⟨p, ys, rfl, hq, q⟩ := h
  obtain ⟨u, rfl, rx⟩ := vals1 r
  cases rx
  have hn := line63
  rcases hq with hq | hq
  · obtain ⟨its, r', pl, hz⟩ := I.list hq
    have hlen := r'.length
    exact Calls.call_len_list pl.isList (by simp only [List.size_toArray] <;> omega) ⟨.int ys.length, H, I.tok _, ⟨s.toks + 1, by rw [List.size_toArray, hlen]⟩, q⟩
  · obtain ⟨its, r', pl, hz⟩ := I.tuple hq
    have hlen := r'.length
    exact len_tuple pl (by simp only [List.size_toArray] <;> omega) ⟨.int ys.length, H, I.tok _, ⟨s.toks + 1, by rw [List.size_toArray, hlen]⟩, q⟩
theorem call_len_str : CallR X (.builtin "len") (fun xs H Q => ∃ z, xs = [.str z] ∧ z.length ≤ sizeLine ∧ Q (.int z.length) H) := by
  intro pins s σ H xs us Q I r h
  obtain ⟨z, rfl, hz, q⟩ := h
  obtain ⟨u, rfl, t, rfl⟩ := vals1 r
  have hn := line63
  exact len_str (by omega) ⟨.int z.length, H, I.tok _, ⟨_, rfl⟩, q⟩
theorem CallR.or {f : Value} {r r' : List V → Hp → VK → Prop} (h : CallR X f r) (h' : CallR X f r') : CallR X f (fun xs H Q => r xs H Q ∨ r' xs H Q) := by
  intro pins s σ H xs us Q I rs q
  rcases q with q | q
  · exact h pins s σ H xs us Q I rs q
  · exact h' pins s σ H xs us Q I rs q
theorem call_list_of : CallR X (.type "list") (fun xs H Q => ∃ p ys, xs = [.ref p] ∧ (SqL X.K H p ys ∨ SqT X.K H p ys) ∧ ∀ l, H l = none → Q (.ref l) (upd H l (.lst ys))) := by
  intro pins s σ H xs us Q I r h
  obtain ⟨p, ys, rfl, hq, q⟩ := h
  obtain ⟨u, rfl, rx⟩ := vals1 r
  cases rx
  have fin : ∀ (its : List Value), Vals ys its → ys.length ≤ sizeLine → ∀ (h' : Heap) (c' : Nat), (∀ b o', s.heap.get? b = some o' → h'.get? b = some o') →
      h'.get? s.heap.objs.size = some { cls := .type "list", dict := none, data := .seq its.toArray c', slots := #[] } → EP X pins σ Q (.ref s.heap.objs.size) { s with heap := h' } := fun its r' hz h' c' kp e =>
    ⟨.ref s.heap.objs.size, _, I.laid (t' := s.toks) kp (Nat.le_refl _) (show ObjOk X.prog X.w _ h' _ (.lst ys) from ⟨hz, its, c', r', e⟩), rfl, q _ (I.hok.fresh (Nat.le_refl _))⟩
  rcases hq with hq | hq
  · obtain ⟨its, r', pl, hz⟩ := I.list hq
    have hlen := r'.length
    obtain ⟨o, ho, hc, n, hd⟩ := pl.isList
    exact call_list_seq p (.inl rfl) ho hc hd (fun h' c' kp e => fin its r' hz h' c' kp e) (by simp only [List.size_toArray] <;> omega)
  · obtain ⟨its, r', pl, hz⟩ := I.tuple hq
    have hlen := r'.length
    obtain ⟨o, ho, hc, n, hd⟩ := pl
    exact call_list_seq p (.inr rfl) ho hc hd (fun h' c' kp e => fin its r' hz h' c' kp e) (by simp only [List.size_toArray] <;> omega)
theorem call_tuple_of : CallR X (.type "tuple") (fun xs H Q => ∃ p ys, xs = [.ref p] ∧ ((SqL X.K H p ys ∧ ∀ l, H l = none → Q (.ref l) (upd H l (.tup ys))) ∨ (SqT X.K H p ys ∧ Q (.ref p) H))) := by
  intro pins s σ H xs us Q I r h
  obtain ⟨p, ys, rfl, h⟩ := h
  obtain ⟨u, rfl, rx⟩ := vals1 r
  cases rx
  rcases h with ⟨hq, q⟩ | ⟨hq, q⟩
  · obtain ⟨its, r', pl, hz⟩ := I.list hq
    have hlen := r'.length
    refine call_tuple_list pl.isList (fun h' kp => ?_) (by simp only [List.size_toArray] <;> omega)
    have I1 : Inv X pins σ H { s with heap := h' } := I.kept (t' := s.toks) kp
    have I2 : Inv X pins σ (upd H h'.objs.size (.tup ys)) { s with heap := h'.push { cls := .type "tuple", data := .seq its.toArray } } :=
      I1.laid (t' := s.toks) (fun b o e => Heap.get?_push_of_some _ e) (Nat.le_refl _) (show ObjOk X.prog X.w _ _ _ (.tup ys) from ⟨hz, its, r', IsTup.new _ _⟩)
    exact ⟨.ref h'.objs.size, _, I2, rfl, q _ (I1.hok.fresh (Nat.le_refl _))⟩
  · obtain ⟨its, r', pl, hz⟩ := I.tuple hq
    exact call_tuple_same pl ⟨.ref p, H, I, rfl, q⟩

/-! ### the call of a builtin's method: o.m(..) -/
/-- the value is of that builtin type -/
def tyV (K : PySem.W.Frag) (T : String) (x : V) (H : Hp) : Prop := match x with
  | .str _ => T = "str"
  | .int _ => T = "int"
  | .ref p => (T = "list" ∧ ∃ xs, SqL K H p xs) ∨ (T = "tuple" ∧ ∃ o, K.lookup p = some o ∧ o.cls = .type "tuple" ∧ o.dict = none) ∨
      (T = "dict" ∧ ((∃ kvs, H p = some (.dK kvs)) ∨ ∃ kvs, H p = some (.dT kvs))) ∨ (T = "set" ∧ ∃ S n, H p = some (.set S n))
  | _ => False
theorem tyV_is {pins : List (Addr × Obj)} {σ : St} {H : Hp} {s : Shared} {T : String} {x : V} {v : Value} (I : Inv X pins σ H s) (r : RelV x v) (ty : tyV X.K T x H) :
    s.TypeIs v T ∧ ∀ a, v = .ref a → ∃ ob, s.heap.get? a = some ob ∧ ob.dict = none := by
  cases x with
  | str z =>
    obtain ⟨t, rfl⟩ := r
    cases (show T = "str" from ty)
    exact ⟨typeIs_str s z t, fun _ e => nomatch e⟩
  | int i =>
    obtain ⟨t, rfl⟩ := r
    cases (show T = "int" from ty)
    exact ⟨typeIs_int s i t, fun _ e => nomatch e⟩
  | ref p =>
    cases r
    rcases ty with ⟨rfl, xs, hq⟩ | ⟨rfl, o, hk, hc, hd⟩ | ⟨rfl, hk⟩ | ⟨rfl, S, n, hk⟩
    · obtain ⟨its, _, pl, _⟩ := I.list hq
      refine ⟨pl.isList.typeIs, fun a e => ?_⟩
      cases e
      obtain ⟨o, n, e, c, hd, _⟩ := pl
      exact ⟨o, e, hd⟩
    · refine ⟨⟨o, I.kIn p o hk, hc⟩, fun a e => ?_⟩
      cases e
      exact ⟨o, I.kIn _ o hk, hd⟩
    · have z : ∃ o, s.heap.get? p = some o ∧ o.ExactDict := by
        rcases hk with ⟨kvs, hk⟩ | ⟨kvs, hk⟩
        · obtain ⟨_, _, _, _, o, _, _, e, ex, _⟩ := I.hok p _ hk
          exact ⟨o, e, ex⟩
        · obtain ⟨_, _, _, _, o, _, _, e, ex, _⟩ := I.hok p _ hk
          exact ⟨o, e, ex⟩
      obtain ⟨o, e, ex⟩ := z
      refine ⟨⟨o, e, ex.1⟩, fun a e2 => ?_⟩
      cases e2
      exact ⟨o, e, ex.2.1⟩
    · obtain ⟨o, _, _, _, e, ex, _⟩ := I.hok p _ hk
      refine ⟨⟨o, e, ex.1⟩, fun a e2 => ?_⟩
      cases e2
      exact ⟨o, e, ex.2.1⟩
  | _ => exact False.elim ty
def tBM0 (K : PySem.W.Frag) (T : String) (r : V → List V → Hp → VK → Prop) (to : TE) : TE := fun σ H Q => to σ H fun x H1 => tyV K T x H1 ∧ r x [] H1 Q
def tBM (K : PySem.W.Frag) (T : String) (r : V → List V → Hp → VK → Prop) (to : TE) (t : TA) : TE := fun σ H Q => to σ H fun x H1 => tyV K T x H1 ∧ t σ H1 fun xs H2 => r x xs H2 Q
variable {o e : Expr} {es : List Expr} {to : TE} {t : TA} {name : Str} {apos cpos : Pos} {T id : String} {r : V → List V → Hp → VK → Prop}
theorem pe_bm0 (pa : PlainAttrs T) (slot : Slot T name id) (hty : typeOf (.builtin id) = pure (.type "method_descriptor")) (hm : MtR X id r) (ho : PE X o to)
    (hbase : attributeBase o name X.env (eval o X.env) = eval o X.env := by rfl) (hline : (apos.endLine == cpos.line) = true := by rfl) : PE X (.Call (.Attribute o name apos) [] [] cpos) (tBM0 X.K T r to) := by
  intro pins s σ H Q I h
  refine wpAny_Call_method0_late hbase hline (thn (ho pins s σ H _ I h) fun v s1 ⟨x, H1, I1, r1, ty, q1⟩ => ?_)
  obtain ⟨h1, h2⟩ := tyV_is I1 r1 ty
  exact ⟨T, id, pa, slot, hty, h1, h2, Calls.callWith_builtin rfl (PySem.evalArgs_none (hm pins s1 σ H1 x [] v [] Q I1 r1 .nil q1))⟩
theorem pe_bm (pa : PlainAttrs T) (slot : Slot T name id) (hty : typeOf (.builtin id) = pure (.type "method_descriptor")) (hm : MtR X id r) (ho : PE X o to) (ha : PA X (e :: es) t)
    (hbase : attributeBase o name X.env (eval o X.env) = eval o X.env := by rfl)
    (hfew : ((backTo cpos (starEach (e :: es) X.env)).all (fun x => !x.1) && (backToKw cpos (keywordEach [] X.env)).all (fun x => x.1.isSome)
      && decide ((e :: es).length + ([] : List Keyword).length + (if ([] : List Keyword).isEmpty then 0 else 1) < 30)) = true := by rfl)
    (hline : (apos.endLine == cpos.line) = true := by rfl) (hs : starEach (e :: es) X.env = (false, eval e X.env) :: starEach es X.env := by rfl) (hplain : (backTo cpos (starEach es X.env)).any (·.1) = false := by rfl) :
    PE X (.Call (.Attribute o name apos) (e :: es) [] cpos) (tBM X.K T r to t) := by
  intro pins s σ H Q I h
  refine wpAny_Call_method_late hbase hfew hline rfl (thn (ho pins s σ H _ I h) fun v s1 ⟨x, H1, I1, r1, ty, q1⟩ => ?_)
  obtain ⟨h1, h2⟩ := tyV_is I1 r1 ty
  refine ⟨T, id, pa, slot, hty, h1, h2, ?_⟩
  have hA := ha cpos pins s1 σ H1 _ I1 q1
  rw [hs] at hA ⊢
  refine Calls.callWith_builtin (by show (false || (backTo cpos (starEach es X.env)).any (·.1)) = false; rw [hplain] <;> rfl) (Calls.evalArgs_plain ?_)
  exact thn hA fun us s2 ⟨vs, H2, I2, r2, q2⟩ => hm pins s2 σ H2 x vs v us Q I2 r1 r2 q2
/- xs.append(e), list.index on a module's tuple .. are MtR facts of 06m -/
end
end L2

namespace L2
open PySem PySem.Spec PyProof.Rows

def MtM (X : Cx) (id : String) (r : V → List V → Hp → VK → Prop) : Prop :=
  ∀ (pins : List (Addr × Obj)) (s : Shared) (σ : St) (H : Hp) (x : V) (xs : List V) (v : Value) (us : List Value) (Q : VK), Inv X pins σ H s → RelV x v → Vals xs us → r x xs H Q →
    wpAny (model X.prog X.w) X.A (call (.builtin id) (v :: us)) (EP X pins σ Q) X.xe s

/-! ### lists of values -/
theorem Vals.one : ∀ {x : V} {us : List Value}, Vals [x] us → ∃ u, us = [u] ∧ RelV x u
  | _, _, .cons r .nil => ⟨_, rfl, r⟩
theorem Vals.two : ∀ {x y : V} {us : List Value}, Vals [x, y] us → ∃ u v, us = [u, v] ∧ RelV x u ∧ RelV y v
  | _, _, _, .cons r (.cons q .nil) => ⟨_, _, rfl, r, q⟩
theorem Vals.zero : ∀ {us : List Value}, Vals [] us → us = []
  | _, .nil => rfl
theorem Vals.dropLast {xs : List V} {us : List Value} (h : Vals xs us) : Vals xs.dropLast us.dropLast := by
  induction h with
  | nil => exact .nil
  | cons r t ih =>
    cases t with
    | nil => exact .nil
    | cons q t' => exact .cons r ih
theorem Vals.eraseIdx : ∀ {xs : List V} {us : List Value} (i : Nat), Vals xs us → Vals (xs.eraseIdx i) (us.eraseIdx i)
  | _, _, _, .nil => .nil
  | _, _, 0, .cons _ t => t
  | _, _, i + 1, .cons r t => .cons r (Vals.eraseIdx i t)
theorem Vals.reverse {xs : List V} {us : List Value} (h : Vals xs us) : Vals xs.reverse us.reverse := by
  induction h with
  | nil => exact .nil
  | cons r t ih => rw [List.reverse_cons, List.reverse_cons]; exact Vals.append ih (.cons r .nil)
theorem Vals.rep {xs : List V} {us : List Value} (h : Vals xs us) : ∀ k : Nat, Vals (List.replicate k xs).flatten (List.replicate k us).flatten
  | 0 => .nil
  | k + 1 => by
    rw [List.replicate_succ, List.replicate_succ, List.flatten_cons, List.flatten_cons]
    exact Vals.append h (Vals.rep h k)
theorem erase_last {α : Type} (l : List α) : l.eraseIdx (l.length - 1) = l.dropLast := by
  induction l with
  | nil => rfl
  | cons a r ih =>
    cases r with
    | nil => rfl
    | cons b r =>
      have e : (a :: b :: r).length - 1 = ((b :: r).length - 1) + 1 := by
        have h1 : (a :: b :: r).length = r.length + 2 := rfl
        have h2 : (b :: r).length = r.length + 1 := rfl
        omega
      rw [e, List.eraseIdx_cons_succ, ih]
      all_goals rfl
theorem len_erase {α : Type} : ∀ (l : List α) (i : Nat), (l.eraseIdx i).length ≤ l.length
  | [], _ => Nat.le_refl _
  | _ :: _, 0 => Nat.le_succ _
  | _ :: r, i + 1 => Nat.succ_le_succ (len_erase r i)
theorem foldl_rep (its : List Value) : ∀ (k : Nat) (acc : List Value),
    List.foldl (fun x1 x2 => x1 ++ x2) acc.toArray (List.replicate k its.toArray) = (acc ++ (List.replicate k its).flatten).toArray
  | 0, acc => by simp
  | k + 1, acc => by
    have e : acc.toArray ++ its.toArray = (acc ++ its).toArray := by simp
    have e2 : (acc ++ its) ++ (List.replicate k its).flatten = acc ++ (List.replicate (k + 1) its).flatten := by
      rw [List.replicate_succ, List.flatten_cons, List.append_assoc]
    rw [← e2, ← foldl_rep its k (acc ++ its), ← e, List.replicate_succ, List.foldl_cons]

section
variable {X : Cx} {pins : List (Addr × Obj)} {σ : St} {H : Hp} {s : Shared} {l b : Addr} {xs ys zs : List V}

/-! ### the two steps: a tracked list is rewritten, a new list is laid -/
theorem Inv.lset {its its' : List Value} {n : Nat} {f : Array Value → Array Value} {t' : Nat} (I : Inv X pins σ H s) (hH : H l = some (.lst xs))
    (e : s.heap.get? l = some { cls := .type "list", data := .seq its.toArray n }) (hf : f its.toArray = its'.toArray) (hv : Vals ys its') (hz : ys.length ≤ sizeLine) :
    Inv X pins σ (upd H l (.lst ys)) { s with heap := s.heap.update l (Obj.mapSeq f), toks := t' } := by
  have q := PySem.IsL.update e f
  rw [hf] at q
  refine I.write (x := l) (e := l) (by rw [hH]; exact trivial) (.inl rfl) (fun b' u hb hu => (Heap.get?_update_other s.heap (Obj.mapSeq f) (Ne.symm hb)).trans hu) ⟨_, q⟩ ?_
  exact ⟨hz, its', _, hv, q⟩
theorem Inv.lnew {its : List Value} {t' : Nat} (I : Inv X pins σ H s) (hv : Vals ys its) (hz : ys.length ≤ sizeLine) :
    Inv X pins σ (upd H s.heap.objs.size (.lst ys)) { s with heap := s.heap.push { cls := .type "list", data := .seq its.toArray }, toks := t' } :=
  I.laid (fun _ _ q => Heap.get?_push_of_some _ q) (Nat.le_refl _) ⟨hz, its, 0, hv, Heap.get?_push_size _ rfl⟩
theorem Inv.fresh (I : Inv X pins σ H s) : H s.heap.objs.size = none := I.hok.fresh (Nat.le_refl _)
theorem Inv.lstM (I : Inv X pins σ H s) (hH : H l = some (.lst xs)) : xs.length ≤ sizeLine ∧ ∃ (its : List Value) (n : Nat), Vals xs its ∧ xs.length = its.length ∧ s.heap.get? l = some { cls := .type "list", data := .seq its.toArray n } := by
  obtain ⟨z, its, n, r, e⟩ := I.hok l _ hH
  exact ⟨z, its, n, r, r.length, e⟩

theorem notLongL {n : Nat} (h : n ≤ sizeLine) : Builtin.List.listTooLong n = false := by
  unfold Builtin.List.listTooLong
  exact decide_eq_false (by omega)
end

section
variable {X : Cx}

/-! ### methods -/
def rAppend : V → List V → Hp → VK → Prop := fun x vs H Q => ∃ l xs y, x = .ref l ∧ vs = [y] ∧ H l = some (.lst xs) ∧ xs.length < sizeLine ∧ Q .non (upd H l (.lst (xs ++ [y])))
theorem mt_append : MtM X "list.append" rAppend := by
  intro pins s σ H x vs v us Q I rx rv h
  obtain ⟨l, xs, y, rfl, rfl, hH, hz, q⟩ := h
  cases rx
  obtain ⟨u, rfl, ru⟩ := rv.one
  obtain ⟨z, its, n, r, hl, e⟩ := I.lstM hH
  refine call_meets F.slot_list_append ⟨_, e, rfl⟩ F.entry_list_append (F.args_list_append_2 _ _) (PySem.list_append l its.toArray n u (by rw [List.size_toArray]; omega)) ⟨e, ?_⟩
  refine ⟨.non, _, I.lset (its' := its ++ [u]) hH e (by simp) (r.append (.cons ru .nil)) ?_, rfl, q⟩
  rw [List.length_append, List.length_singleton]
  omega

def rExtend : V → List V → Hp → VK → Prop := fun x vs H Q => ∃ l b xs zs, x = .ref l ∧ vs = [.ref b] ∧ H l = some (.lst xs) ∧ H b = some (.lst zs) ∧ xs.length + zs.length ≤ sizeLine ∧ Q .non (upd H l (.lst (xs ++ zs)))
theorem mt_extend : MtM X "list.extend" rExtend := by
  intro pins s σ H x vs v us Q I rx rv h
  obtain ⟨l, b, xs, zs, rfl, rfl, hH, hB, hz, q⟩ := h
  cases rx
  obtain ⟨u, rfl, ru⟩ := rv.one
  cases ru
  obtain ⟨z, its, n, r, hl, e⟩ := I.lstM hH
  obtain ⟨z2, its2, n2, r2, hl2, e2⟩ := I.lstM hB
  have hsz : its.toArray.size + its2.toArray.size ≤ sizeLine := by rw [List.size_toArray, List.size_toArray]; omega
  have hlong : ¬ (!its.toArray.isEmpty && Builtin.List.listTooLong (its.toArray.size + its2.toArray.size)) = true := by
    rw [notLongL hsz, Bool.and_false]
    exact Bool.false_ne_true
  refine call_meets F.slot_list_extend ⟨_, e, rfl⟩ F.entry_list_extend (F.args_list_extend_2 _ _)
    (AutoSeq1.list_extend_list_list_0 l its.toArray n b its2.toArray n2 hlong (by rw [List.size_toArray]; omega) (by omega)) ⟨e, e2, ?_⟩
  refine ⟨.non, _, I.lset (its' := its ++ its2) hH e (by simp) (r.append r2) ?_, rfl, q⟩
  rw [List.length_append]
  omega

def rPop : V → List V → Hp → VK → Prop := fun x vs H Q => ∃ l xs y, x = .ref l ∧ vs = [] ∧ H l = some (.lst xs) ∧ xs[xs.length - 1]? = some y ∧ Q y (upd H l (.lst xs.dropLast))
theorem mt_pop : MtM X "list.pop" rPop := by
  intro pins s σ H x vs v us Q I rx rv h
  obtain ⟨l, xs, y, rfl, rfl, hH, hy, q⟩ := h
  cases rx
  have hus := rv.zero
  subst hus
  obtain ⟨z, its, n, r, hl, e⟩ := I.lstM hH
  obtain ⟨u, hu, ru⟩ := r.get hy
  have hy' : its.toArray[its.toArray.size - 1]? = some u := by
    show its.toArray[its.length - 1]? = some u
    rw [← Array.getElem?_toList, ← hl]
    exact hu
  refine call_meets F.slot_list_pop ⟨_, e, rfl⟩ F.entry_list_pop (F.args_list_pop_1 _) (MeetsSeq.list_pop_last l its.toArray n u hy' (by rw [List.size_toArray]; omega)) ⟨e, ?_⟩
  refine ⟨y, _, I.lset (its' := its.dropLast) hH e ?_ r.dropLast ?_, ru, q⟩
  · show its.toArray.eraseIdxIfInBounds (its.toArray.size - 1) = its.dropLast.toArray
    rw [List.size_toArray, List.eraseIdxIfInBounds_toArray, erase_last]
  · rw [List.length_dropLast]
    omega

def rPopAt : V → List V → Hp → VK → Prop := fun x vs H Q => ∃ l xs i k y, x = .ref l ∧ vs = [.int i] ∧ H l = some (.lst xs) ∧ -(2 ^ 63) ≤ i ∧ i < 2 ^ 63 ∧ seqIndex? i xs.length = some k ∧ xs[k]? = some y ∧ Q y (upd H l (.lst (xs.eraseIdx k)))
theorem mt_popAt : MtM X "list.pop" rPopAt := by
  intro pins s σ H x vs v us Q I rx rv h
  obtain ⟨l, xs, i, k, y, rfl, rfl, hH, h1, h2, hk, hy, q⟩ := h
  cases rx
  obtain ⟨u, rfl, ru⟩ := rv.one
  obtain ⟨t, rfl⟩ := ru
  obtain ⟨z, its, n, r, hl, e⟩ := I.lstM hH
  obtain ⟨w, hw, rw'⟩ := r.get hy
  refine call_meets F.slot_list_pop ⟨_, e, rfl⟩ F.entry_list_pop (F.args_list_pop_2 _ _)
    (MeetsSeq.list_pop_at l its.toArray n i t k w (fitsIndex_both h1 h2) (by rw [List.size_toArray, ← hl]; exact hk) (by rw [← Array.getElem?_toList]; exact hw) (by rw [List.size_toArray]; omega)) ⟨e, ?_⟩
  refine ⟨y, _, I.lset (its' := its.eraseIdx k) hH e ?_ (r.eraseIdx k) ?_, rw', q⟩
  · show its.toArray.eraseIdxIfInBounds k = (its.eraseIdx k).toArray
    rw [List.eraseIdxIfInBounds_toArray]
  · have := len_erase xs k
    omega

def rReverse : V → List V → Hp → VK → Prop := fun x vs H Q => ∃ l xs, x = .ref l ∧ vs = [] ∧ H l = some (.lst xs) ∧ Q .non (upd H l (.lst xs.reverse))
theorem mt_reverse : MtM X "list.reverse" rReverse := by
  intro pins s σ H x vs v us Q I rx rv h
  obtain ⟨l, xs, rfl, rfl, hH, q⟩ := h
  cases rx
  have hus := rv.zero
  subst hus
  obtain ⟨z, its, n, r, hl, e⟩ := I.lstM hH
  refine call_meets F.slot_list_reverse ⟨_, e, rfl⟩ F.entry_list_reverse (F.args_list_reverse_1 _) (AutoSeq1.list_reverse_list_0 l its.toArray n (by rw [List.size_toArray]; omega)) ⟨e, ?_⟩
  refine ⟨.non, _, I.lset (its' := its.reverse) hH e (by simp) r.reverse ?_, rfl, q⟩
  rw [List.length_reverse]
  omega

def rClear : V → List V → Hp → VK → Prop := fun x vs H Q => ∃ l xs, x = .ref l ∧ vs = [] ∧ H l = some (.lst xs) ∧ Q .non (upd H l (.lst []))
theorem mt_clear : MtM X "list.clear" rClear := by
  intro pins s σ H x vs v us Q I rx rv h
  obtain ⟨l, xs, rfl, rfl, hH, q⟩ := h
  cases rx
  have hus := rv.zero
  subst hus
  obtain ⟨z, its, n, r, hl, e⟩ := I.lstM hH
  refine call_meets F.slot_list_clear ⟨_, e, rfl⟩ F.entry_list_clear (F.args_list_clear_1 _) (AutoSeq1.list_clear_list_0 l its.toArray n (by rw [List.size_toArray]; omega)) ⟨e, ?_⟩
  exact ⟨.non, _, I.lset (its' := []) (ys := []) hH e rfl .nil (Nat.zero_le _), rfl, q⟩

/-! ### list + list, list += list, list * int -/
def rCat : R2 := fun x y H Q => ∃ l b xs zs, x = .ref l ∧ y = .ref b ∧ H l = some (.lst xs) ∧ H b = some (.lst zs) ∧ xs.length + zs.length ≤ sizeLine ∧ ∀ p, H p = none → Q (.ref p) (upd H p (.lst (xs ++ zs)))
theorem op_cat : OpR X (binaryOp .Add) rCat := by
  intro pins s σ H x y v u Q I rx ry h
  obtain ⟨l, b, xs, zs, rfl, rfl, hH, hB, hz, q⟩ := h
  cases rx
  cases ry
  obtain ⟨z, its, n, r, hl, e⟩ := I.lstM hH
  obtain ⟨z2, its2, n2, r2, hl2, e2⟩ := I.lstM hB
  refine PySem.P.add_list e e2 ?_ (by rw [List.size_toArray, List.size_toArray]; omega)
  have ea : its.toArray ++ its2.toArray = (its ++ its2).toArray := by simp
  rw [ea]
  exact ⟨.ref _, _, I.lnew (t' := s.toks) (r.append r2) (by rw [List.length_append]; omega), rfl, q _ I.fresh⟩
/-- a list times an int (a negative one is nothing) -/
def rRep : R2 := fun x y H Q => ∃ l k xs, x = .ref l ∧ y = .int k ∧ H l = some (.lst xs) ∧ -(2 ^ 63) ≤ k ∧ k < 2 ^ 63 ∧ xs.length * k.toNat ≤ sizeLine ∧
  ∀ p, H p = none → Q (.ref p) (upd H p (.lst (List.replicate k.toNat xs).flatten))
theorem len_rep {α : Type} (xs : List α) (k : Nat) : (List.replicate k xs).flatten.length = k * xs.length := by
  induction k with
  | zero => simp
  | succ k ih => rw [List.replicate_succ, List.flatten_cons, List.length_append, ih, Nat.succ_mul, Nat.add_comm]
theorem op_rep : OpR X (binaryOp .Mult) rRep := by
  intro pins s σ H x y v u Q I rx ry h
  obtain ⟨l, k, xs, rfl, rfl, hH, h1, h2, hz, q⟩ := h
  cases rx
  obtain ⟨t, rfl⟩ := ry
  obtain ⟨z, its, n, r, hl, e⟩ := I.lstM hH
  have hlen : its.toArray.size * k.toNat ≤ sizeLine := by rw [List.size_toArray, ← hl]; exact hz
  have hcap : ¬ its.toArray.size * k.toNat > (2 ^ 63 - 1) / 8 := by
    have : (sizeLine : Nat) ≤ (2 ^ 63 - 1) / 8 := by decide
    omega
  have hfit : ¬ (!Builtin.List.listFitsIndex k) = true := by
    rw [fitsIndex_both h1 h2]
    exact Bool.false_ne_true
  have hlong : ¬ Builtin.List.listTooLong (its.toArray.size * k.toNat) = true := by
    rw [notLongL hlen]
    exact Bool.false_ne_true
  have hnew : List.foldl (fun x1 x2 => x1 ++ x2) #[] (List.replicate (if its.toArray.isEmpty = true then 0 else k.toNat) its.toArray) = (List.replicate k.toNat its).flatten.toArray := by
    have f0 : ∀ m : Nat, List.foldl (fun x1 x2 => x1 ++ x2) #[] (List.replicate m its.toArray) = (List.replicate m its).flatten.toArray := fun m => by
      have := foldl_rep its m []
      rw [List.nil_append] at this
      exact this
    rw [f0]
    cases its with
    | nil => simp
    | cons a r' => rw [if_neg (by simp)]
  refine wpAny_binaryOp_repeat_ref (T := "list") (U := "int") (by decide) ⟨_, e, rfl⟩ (fun s' => typeIs_int s' k t) noFill_list_mul F.fills_int_mul F.slot_int_rmul repeat_list F.slot_int_index.lookup
    (call_meets F.slot_int_rmul (typeIs_int s k t) F.entry_int_rmul (F.args_int_rmul_2 _ _) (int___rmul___int_list k t l its.toArray n)
      ⟨e, rfl, ⟨_, e, rfl⟩, call_meets F.slot_list_mul ⟨_, e, rfl⟩ F.entry_list_mul (F.args_list_mul_2 _ _) (AutoListH.list___mul___list_int_3 l its.toArray n k t hfit hcap hlong) ⟨e, ?_⟩⟩)
  rw [hnew]
  exact ⟨.ref _, _, I.lnew (t' := s.toks) (r.rep k.toNat) (by rw [len_rep, Nat.mul_comm]; exact hz), rfl, q _ I.fresh⟩

/-! ### del xs[i] -/
theorem del_list {pins : List (Addr × Obj)} {s : Shared} {σ : St} {H : Hp} {l : Addr} {xs : List V} {i : Int} {t : Tok} {k : Nat} {Q : Unit → Shared → Prop} (I : Inv X pins σ H s) (hH : H l = some (.lst xs))
    (h1 : -(2 ^ 63) ≤ i) (h2 : i < 2 ^ 63) (hk : seqIndex? i xs.length = some k) (h : ∀ s', Inv X pins σ (upd H l (.lst (xs.eraseIdx k))) s' → Q () s') :
    wpAny (model X.prog X.w) X.A (delItem (.ref l) (.int i t)) Q X.xe s := by
  obtain ⟨z, its, n, r, hl, e⟩ := I.lstM hH
  refine PySem.P.delItem_list (k := k) e (fitsIndex_both h1 h2) (by rw [List.size_toArray, ← hl]; exact hk) (h _ ?_) (by rw [List.size_toArray]; omega)
  refine I.lset (its' := its.eraseIdx k) (t' := s.toks) hH e ?_ (r.eraseIdx k) ?_
  · show its.toArray.eraseIdxIfInBounds k = (its.eraseIdx k).toArray
    rw [List.eraseIdxIfInBounds_toArray]
  · have := len_erase xs k
    omega
end

/-! ### xs[a:b] = ys -/
section
variable {prog : Program} {w : World} {A : Around} {E : Value → Shared → Prop} {s : Shared}
theorem splice_eq (its its2 : List Value) (a c : Nat) : its.toArray.extract 0 a ++ its2.toArray ++ its.toArray.extract c its.toArray.size = (its.take a ++ its2 ++ its.drop c).toArray := by
  apply Array.toList_inj.mp
  first
    | (simp
       exact List.take_of_length_le (by simp))
    | simp [List.take_of_length_le]
    | simp
theorem bounds_run {a c n : Nat} (hac : a ≤ c) (hc : c ≤ n) : sliceBounds (some (a : Int)) (some (c : Int)) none n = ((a : Int), (c : Int), 1) := by
  simp only [sliceBounds, Option.getD_none]
  have h1 : ¬ ((a : Int) < 0) := by omega
  have h2 : ¬ ((c : Int) < 0) := by omega
  simp only [h1, h2, if_false, show (1 : Int) > 0 by decide, if_true]
  congr 1
  · omega
  · congr 1; omega
set_option maxRecDepth 100000 in
/-- list.__setitem__ with a slice of step one and another list -/
theorem setItem_slice {l b sl : Addr} {items new : Array Value} {n n2 : Nat} {vl vu : Value} {a c : Nat} {Q : Unit → Shared → Prop}
    (e : s.heap.get? l = some { cls := .type "list", data := .seq items n }) (e2 : s.heap.get? b = some { cls := .type "list", data := .seq new n2 }) (hne : l ≠ b)
    (hs : s.heap.IsSliceOf sl vl vu .none) (pl : IsPart vl (some (a : Int))) (pu : IsPart vu (some (c : Int))) (hac : a ≤ c) (hc : c ≤ items.size)
    (hsz : items.size + new.size ≤ sizeLine) (h : Q () { s with heap := s.heap.update l (Obj.mapSeq fun xs => xs.extract 0 a ++ new ++ xs.extract c xs.size) }) :
    wpAny (model prog w) A (setItem (.ref l) (.ref sl) (.ref b)) Q E s := by
  have hl : s.heap.IsList l items := PySem.IsL.isList e
  have hb : s.heap.IsList b new := PySem.IsL.isList e2
  obtain ⟨os, hos, hcs, hds⟩ := id hs
  have hTs : s.TypeIs (.ref sl) "slice" := ⟨os, hos, hcs⟩
  have hstep : ¬ ((rawPart none == rawInt 0) = true) := Bool.false_ne_true
  have hsame : Builtin.List.listSameRef (.ref l) (.ref b) = false := by
    unfold Builtin.List.listSameRef
    exact beq_eq_false_iff_ne.mpr hne
  have hmax : (max (a : Int) (c : Int)).toNat = c := by omega
  have hz' : ((fun xs : Array Value => xs.extract 0 a ++ new ++ xs.extract c xs.size) items).size ≤ sizeLine + 1 := by
    simp only [Array.size_append, Array.size_extract]
    omega
  unfold setItem
  try with_reducible refine wpAny_holding ?_
  first | refine wpAny_bind (wpAny_pure ?_) | skip
  refine wpAny_bind (wpAny_sequenceKey hl.typeIs (by decide) ?_)
  refine wpAny_bind (wpAny_callSpecial?_slot (name := Str.ofString "__setitem__") hl.typeIs slot_list_setitem
    (wpAny_call_entry slot_list_setitem hl.typeIs entry_list_setitem ?_ (args_list_setitem _ _ _)))
  show wpAny _ _ (Builtin.List.listSubscript? (.ref sl) >>= _) _ _ s
  refine wpAny_bind ?_
  unfold Builtin.List.listSubscript?
  refine wpAny_bind (wpAny_specialOf hTs slice_no_index ?_)
  simp only [Option.isNone_none, if_true]
  refine wpAny_pure ?_
  show wpAny _ _ (typeOf (.ref sl) >>= _) _ _ s
  refine wpAny_bind (wpAny_typeOf hTs ?_)
  first
    | rw [if_neg (by decide)]
    | refine PySem.W.KFB.if_not (by decide) ?_
  rw [listSliceParts_eq]
  refine wpAny_bind (wpAny_bind (wpAny_field hos hds (x := .none) rfl (wpAny_bind (wpAny_listPart .none ?_))))
  rw [if_neg hstep]
  refine wpAny_bind (wpAny_field hos hds (x := vl) rfl (wpAny_bind (wpAny_listPart pl ?_)))
  refine wpAny_bind (wpAny_field hos hds (x := vu) rfl (wpAny_bind (wpAny_listPart pu (wpAny_pure ?_))))
  first
    | simp only [hsame, Bool.false_eq_true, if_false]
    | refine PySem.W.KFB.if_not hsame ?_
    | (dsimp only
       rw [if_neg (by rw [hsame]; exact Bool.false_ne_true)])
  refine wpAny_bind (m := Builtin.List.listAllItems (.ref b) "must assign iterable to extended slice") ?_
  unfold Builtin.List.listAllItems
  refine wpAny_bind (wpAny_typeOf hb.typeIs ?_)
  first
    | refine PySem.W.KFB.if_so (by decide) ?_
    | rw [if_pos (by decide)]
    | simp only [beq_self_eq_true, Bool.true_or, if_true]
  unfold Builtin.List.listItems
  refine wpAny_bind (wpAny_seqItems e2 rfl (wpAny_pure ?_))
  refine wpAny_bind (wpAny_bind (wpAny_seqItems e rfl (wpAny_pure ?_)))
  refine wpAny_bind (wpAny_of_eq ((sliceIndices_raw (some (a : Int)) (some (c : Int)) none items.size (by simp)).trans (congrArg (pure : Int × Int × Int → Sem (Int × Int × Int)) (bounds_run hac hc))) ?_)
  show wpAny _ _ (if ((1 : Int) == 1) = true then _ else _) _ _ s
  rw [if_pos (by decide)]
  refine wpAny_bind (wpAny_rule ?_)
  first
    | simp only [notLongL hsz, Bool.false_eq_true, if_false]
    | refine PySem.W.KFB.if_not (notLongL hsz) ?_
  first | refine wpAny_bind (wpAny_pure ?_) | skip
  show wpAny _ _ (updateSeq l (fun xs => xs.extract 0 ((a : Int)).toNat ++ new ++ xs.extract (max (a : Int) (c : Int)).toNat xs.size) >>= _) _ _ s
  rw [hmax, Int.toNat_natCast]
  refine wpAny_bind (wpAny_updateSeq (hz := Nat.le_trans (Nat.le_add_right _ _) hsz) (_hz' := hz') e rfl ?_)
  refine wpAny_bind (wpAny_letGo ?_)
  first
    | exact wpAny_bind (wpAny_pure (wpAny_pure ⟨.none, rfl, wpAny_pure h⟩))
    | exact wpAny_pure ⟨.none, rfl, wpAny_pure h⟩
end

section
variable {X : Cx}
/-- xs[a:c] = ys of another list, at the value level: sl is the slice object that was just made -/
theorem set_slice {pins : List (Addr × Obj)} {s : Shared} {σ : St} {H : Hp} {l b sl : Addr} {xs ys : List V} {a c : Int} {vl vu : Value} {Q : Unit → Shared → Prop} (I : Inv X pins σ H s)
    (hH : H l = some (.lst xs)) (hB : H b = some (.lst ys)) (hne : l ≠ b) (hs : s.heap.IsSliceOf sl vl vu .none) (ra : RelV (.int a) vl) (rc : RelV (.int c) vu) (h0 : 0 ≤ a) (hac : a ≤ c) (hc : c ≤ xs.length)
    (hz : xs.length + ys.length ≤ sizeLine) (h : ∀ s', Inv X pins σ (upd H l (.lst (xs.take a.toNat ++ ys ++ xs.drop c.toNat))) s' → Q () s') :
    wpAny (model X.prog X.w) X.A (setItem (.ref l) (.ref sl) (.ref b)) Q X.xe s := by
  obtain ⟨ta, rfl⟩ := ra
  obtain ⟨tc, rfl⟩ := rc
  obtain ⟨z, its, n, r, hl, e⟩ := I.lstM hH
  obtain ⟨z2, its2, n2, r2, hl2, e2⟩ := I.lstM hB
  obtain ⟨a', rfl⟩ := Int.eq_ofNat_of_zero_le h0
  obtain ⟨c', rfl⟩ := Int.eq_ofNat_of_zero_le (Int.le_trans h0 hac)
  simp only [Int.toNat_natCast] at h
  refine setItem_slice (a := a') (c := c') e e2 hne hs (.int _ _) (.int _ _) (by omega) (by rw [List.size_toArray]; omega) (by rw [List.size_toArray, List.size_toArray]; omega) (h _ ?_)
  refine I.lset (its' := its.take a' ++ its2 ++ its.drop c') (t' := s.toks) hH e ?_ (Vals.append (Vals.append (r.take _) r2) (r.drop _)) ?_
  · exact splice_eq its its2 a' c'
  · rw [List.length_append, List.length_append, List.length_take, List.length_drop]
    omega
end
end L2

namespace L2
open PySem PySem.Spec PyProof.Rows

/-! ### lists of pairs as tables -/
section
variable {κ : Type} [DecidableEq κ]
def valV (kvs : List (κ × V)) (k : κ) : Option V := (kvs.find? fun kv => decide (kv.1 = k)).map (·.2)
/-- in its place, or at the end -/
def putK (kvs : List (κ × V)) (k : κ) (v : V) : List (κ × V) :=
  if (kvs.any fun kv => decide (kv.1 = k)) = true then kvs.map (fun kv => if kv.1 = k then (kv.1, v) else kv) else kvs ++ [(k, v)]
def dropK (kvs : List (κ × V)) (k : κ) : List (κ × V) := kvs.filter fun kv => decide (kv.1 ≠ k)

theorem valV_nil {k : κ} : valV ([] : List (κ × V)) k = none := rfl
theorem valV_pos {p : κ × V} {r : List (κ × V)} {k : κ} (e : p.1 = k) : valV (p :: r) k = some p.2 := by simp [valV, List.find?_cons, e]
theorem valV_neg {p : κ × V} {r : List (κ × V)} {k : κ} (e : ¬ p.1 = k) : valV (p :: r) k = valV r k := by simp [valV, List.find?_cons, e]
theorem valV_any (k : κ) : ∀ kvs : List (κ × V), (kvs.any fun kv => decide (kv.1 = k)) = (valV kvs k).isSome
  | [] => rfl
  | p :: r => by
    rw [List.any_cons]
    by_cases e : p.1 = k
    · simp only [valV_pos e, decide_eq_true e, Bool.true_or, Option.isSome_some]
    · rw [valV_neg e, decide_eq_false e, Bool.false_or]; exact valV_any k r
theorem valV_map (k j : κ) (y : V) : ∀ kvs : List (κ × V), valV (kvs.map fun kv => if kv.1 = k then (kv.1, y) else kv) j = (valV kvs j).map fun x => if j = k then y else x
  | [] => rfl
  | p :: r => by
    have ih := valV_map k j y r
    rw [List.map_cons]
    by_cases h : p.1 = k
    · rw [if_pos h]
      by_cases e : p.1 = j
      · rw [valV_pos (p := (p.1, y)) e, valV_pos e, Option.map_some, if_pos (e.symm.trans h)]
      · rw [valV_neg (p := (p.1, y)) e, valV_neg e, ih]
    · rw [if_neg h]
      by_cases e : p.1 = j
      · rw [valV_pos (p := p) e, valV_pos e, Option.map_some, if_neg (fun z => h (e.trans z))]
      · rw [valV_neg (p := p) e, valV_neg e, ih]
theorem valV_snoc (k j : κ) (y : V) : ∀ kvs : List (κ × V), valV kvs k = none → valV (kvs ++ [(k, y)]) j = if j = k then some y else valV kvs j
  | [], _ => by
    by_cases e : k = j
    · rw [if_pos e.symm]; exact valV_pos (p := (k, y)) e
    · rw [if_neg (fun z => e z.symm)]; exact valV_neg (p := (k, y)) e
  | p :: r, hn => by
    rw [List.cons_append]
    have hk : ¬ p.1 = k := fun z => by rw [valV_pos z] at hn; cases hn
    rw [valV_neg hk] at hn
    have ih := valV_snoc k j y r hn
    by_cases e : p.1 = j
    · rw [valV_pos e, valV_pos e, if_neg (fun z => hk (e.trans z))]
    · rw [valV_neg e, valV_neg e, ih]
theorem valV_put (kvs : List (κ × V)) (k j : κ) (y : V) : valV (putK kvs k y) j = if j = k then some y else valV kvs j := by
  unfold putK
  by_cases a : (kvs.any fun kv => decide (kv.1 = k)) = true
  · rw [if_pos a, valV_map]
    rw [valV_any] at a
    by_cases e : j = k
    · obtain ⟨x, hx⟩ := Option.isSome_iff_exists.mp a
      rw [if_pos e, e, hx, Option.map_some, if_pos rfl]
    · rw [if_neg e]
      cases valV kvs j with
      | none => rfl
      | some x => rw [Option.map_some, if_neg e]
  · rw [if_neg a]
    refine valV_snoc k j y kvs ?_
    rw [valV_any] at a
    cases q : valV kvs k with
    | none => rfl
    | some x => rw [q] at a; exact (a rfl).elim
theorem length_putK (kvs : List (κ × V)) (k : κ) (v : V) : (putK kvs k v).length ≤ kvs.length + 1 := by
  unfold putK
  split
  · rw [List.length_map]; omega
  · rw [List.length_append, List.length_cons, List.length_nil]; omega
theorem putK_new {kvs : List (κ × V)} {k : κ} (v : V) (h : valV kvs k = none) : putK kvs k v = kvs ++ [(k, v)] := by
  unfold putK
  rw [valV_any, h]
  exact if_neg (by decide)

theorem RelO.isSome_eq {o : Option V} {u : Option Value} (r : RelO o u) : o.isSome = u.isSome := by
  cases o with
  | none => cases u with
    | none => rfl
    | some _ => exact (show False from r).elim
  | some _ => cases u with
    | none => exact (show False from r).elim
    | some _ => rfl
theorem RelO.getD {o : Option V} {u : Option Value} {d : V} {d' : Value} (r : RelO o u) (rd : RelV d d') : RelV (o.getD d) (u.getD d') := by
  cases o with
  | none => cases u with
    | none => exact rd
    | some _ => exact (show False from r).elim
  | some _ => cases u with
    | none => exact (show False from r).elim
    | some _ => exact r

/-- raw tables of the same keys -/
theorem KV.val {kvs : List (κ × V)} {vs : List (κ × Value)} (r : KV kvs vs) (k : κ) : RelO (valV kvs k) (valueAt vs k) := by
  unfold KV at r
  induction r with
  | nil => exact True.intro
  | @cons p q ps qs h t ih =>
    obtain ⟨h1, h2⟩ := h
    by_cases e : p.1 = k
    · have e' : q.1 = k := h1.symm.trans e
      have b : valueAt (q :: qs) k = some q.2 := by simp [valueAt, List.find?_cons, e']
      rw [valV_pos e, b]; exact h2
    · have e' : ¬ q.1 = k := fun z => e (h1.trans z)
      have b : valueAt (q :: qs) k = valueAt qs k := by simp [valueAt, List.find?_cons, e']
      rw [valV_neg e, b]; exact ih
theorem KV.any {kvs : List (κ × V)} {vs : List (κ × Value)} (r : KV kvs vs) (k : κ) : (kvs.any fun kv => decide (kv.1 = k)) = vs.any fun kv => decide (kv.1 = k) := by
  unfold KV at r
  induction r with
  | nil => rfl
  | cons h t ih => rw [List.any_cons, List.any_cons, ih, h.1]
theorem KV.repl {kvs : List (κ × V)} {vs : List (κ × Value)} (r : KV kvs vs) (k : κ) {y : V} {u : Value} (ry : RelV y u) :
    KV (kvs.map fun kv => if kv.1 = k then (kv.1, y) else kv) (vs.map fun kv => if kv.1 = k then (kv.1, u) else kv) := by
  unfold KV at r ⊢
  induction r with
  | nil => exact .nil
  | @cons p q ps qs h t ih =>
    rw [List.map_cons, List.map_cons]
    refine .cons ?_ ih
    obtain ⟨h1, h2⟩ := h
    by_cases e : p.1 = k
    · rw [if_pos e, if_pos (h1.symm.trans e)]; exact ⟨h1, ry⟩
    · rw [if_neg e, if_neg (fun z => e (h1.trans z))]; exact ⟨h1, h2⟩
theorem KV.put {kvs : List (κ × V)} {vs : List (κ × Value)} (r : KV kvs vs) (k : κ) {y : V} {u : Value} (ry : RelV y u) : KV (putK kvs k y) (stored vs k u) := by
  unfold putK stored
  rw [r.any k]
  by_cases e : (vs.any fun kv => decide (kv.1 = k)) = true
  · rw [if_pos e, if_pos e]; exact r.repl k ry
  · rw [if_neg e, if_neg e]; exact Paired.snoc r ⟨rfl, ry⟩
theorem KV.drop {kvs : List (κ × V)} {vs : List (κ × Value)} (r : KV kvs vs) (k : κ) : KV (dropK kvs k) (without vs k) := by
  unfold KV at r ⊢
  unfold dropK without
  induction r with
  | nil => exact .nil
  | @cons p q ps qs h t ih =>
    obtain ⟨h1, h2⟩ := h
    rw [List.filter_cons, List.filter_cons]
    by_cases e : p.1 = k
    · have a : ¬ decide (p.1 ≠ k) = true := by simp [e]
      have b : ¬ decide (q.1 ≠ k) = true := by simp [h1.symm.trans e]
      rw [if_neg a, if_neg b]; exact ih
    · have e' : ¬ q.1 = k := fun z => e (h1.trans z)
      have a : decide (p.1 ≠ k) = true := by simp [e]
      have b : decide (q.1 ≠ k) = true := by simp [e']
      rw [if_pos a, if_pos b]; exact .cons ⟨h1, h2⟩ ih
theorem KV.keys {kvs : List (κ × V)} {vs : List (κ × Value)} (r : KV kvs vs) : kvs.map (·.1) = vs.map (·.1) := by
  unfold KV at r
  induction r with
  | nil => rfl
  | cons h t ih => rw [List.map_cons, List.map_cons, ih, h.1]
theorem KV.length {kvs : List (κ × V)} {vs : List (κ × Value)} (r : KV kvs vs) : kvs.length = vs.length := Paired.length r
theorem dropK_le (kvs : List (κ × V)) (k : κ) : (dropK kvs k).length ≤ kvs.length := List.length_filter_le _ _
end


/-! ### a tracked dict, its keys ints and texts or tuples of these -/
theorem kV_is {P : Program} {w : World} {k : Key} {u : Value} (r : RelV (kV k) u) : (mixKind P w).is k u = true := by
  cases k with
  | inl i => obtain ⟨t, e⟩ := (show ∃ t, u = Value.int i t from r); subst e; exact mixKind_int P w i t
  | inr x => obtain ⟨t, e⟩ := (show ∃ t, u = Value.str x t from r); subst e; exact mixKind_str P w x t
theorem kV_inj {a b : Key} (e : kV a = kV b) : a = b := by
  cases a with
  | inl i => cases b with
    | inl j => have e' : V.int i = V.int j := e; injection e' with e'; rw [e']
    | inr y => exact nomatch (show V.int i = V.str y from e)
  | inr x => cases b with
    | inl j => exact nomatch (show V.str x = V.int j from e)
    | inr y => have e' : V.str x = V.str y := e; injection e' with e'; rw [e']
theorem kVs_inj : ∀ {a b : List Key}, a.map kV = b.map kV → a = b
  | [], [], _ => rfl
  | [], _ :: _, e => by simp at e
  | _ :: _, [], e => by simp at e
  | x :: xs, y :: ys, e => by
    rw [List.map_cons, List.map_cons] at e
    injection e with e1 e2
    rw [kV_inj e1, kVs_inj e2]
theorem items_are {P : Program} {w : World} : ∀ {ks : List Key} {us : List Value}, Vals (ks.map kV) us → ItemsAre (mixKind P w) ks us
  | [], _, r => by rw [List.map_nil] at r; cases r; exact .nil
  | k :: ks, _, r => by
    rw [List.map_cons] at r
    cases r with
    | cons h t => exact .cons (kV_is h) (items_are t)

/-- raw entries of a dict with tuple keys -/
abbrev KT (H : Hp) : List (List Key × V) → List (List Key × Addr × Value) → Prop := Paired fun p q => p.1 = q.1 ∧ H q.2.1 = some (.tup (p.1.map kV)) ∧ RelV p.2 q.2.2
theorem KT.val {H : Hp} {kvs : List (List Key × V)} {xs : List (List Key × Addr × Value)} (r : KT H kvs xs) (k : List Key) : RelO (valV kvs k) ((atKey xs k).map (·.2)) := by
  induction r with
  | nil => exact True.intro
  | @cons p q ps qs h t ih =>
    obtain ⟨h1, _, h2⟩ := h
    by_cases e : p.1 = k
    · have e' : q.1 = k := h1.symm.trans e
      have b : atKey (q :: qs) k = some q.2 := by simp [atKey, List.find?_cons, e']
      rw [valV_pos e, b]; exact h2
    · have e' : ¬ q.1 = k := fun z => e (h1.trans z)
      have b : atKey (q :: qs) k = atKey qs k := by simp [atKey, List.find?_cons, e']
      rw [valV_neg e, b]; exact ih
theorem KT.repl {H : Hp} {kvs : List (List Key × V)} {xs : List (List Key × Addr × Value)} (r : KT H kvs xs) (k : List Key) {y : V} {u : Value} (ry : RelV y u) :
    KT H (kvs.map fun kv => if kv.1 = k then (kv.1, y) else kv) (xs.map (putAt k u)) := by
  induction r with
  | nil => exact .nil
  | @cons p q ps qs h t ih =>
    rw [List.map_cons, List.map_cons]
    refine .cons ?_ ih
    obtain ⟨h1, h2, h3⟩ := h
    unfold putAt
    by_cases e : p.1 = k
    · rw [if_pos e, if_pos (h1.symm.trans e)]; exact ⟨h1, h2, ry⟩
    · rw [if_neg e, if_neg (fun z => e (h1.trans z))]; exact ⟨h1, h2, h3⟩
theorem KT.put {H : Hp} {kvs : List (List Key × V)} {xs : List (List Key × Addr × Value)} (r : KT H kvs xs) (k : List Key) {b : Addr} {y : V} {u : Value} (hb : H b = some (.tup (k.map kV))) (ry : RelV y u) :
    KT H (putK kvs k y) (storedH xs k b u) := by
  have e : (kvs.any fun kv => decide (kv.1 = k)) = (atKey xs k).isSome := by
    rw [valV_any, (r.val k).isSome_eq, Option.isSome_map]
  unfold putK storedH
  rw [e]
  by_cases q : (atKey xs k).isSome = true
  · rw [if_pos q, if_pos q]; exact r.repl k ry
  · rw [if_neg q, if_neg q]; exact Paired.snoc r ⟨rfl, hb, ry⟩
theorem KT.keeps {H H' : Hp} {kvs : List (List Key × V)} {xs : List (List Key × Addr × Value)} (r : KT H kvs xs) (ht : ∀ b ys, H b = some (.tup ys) → H' b = some (.tup ys)) : KT H' kvs xs :=
  Paired.mapP r fun _ _ z => ⟨z.1, ht _ _ z.2.1, z.2.2⟩

section
variable {P : Program} {w : World} {H : Hp} {h : Heap} {a : Addr}
theorem rd_of {u : HO} (ok : HOk P w H h) (e : Rd H a u) : ObjOk P w H h a u := e.ok ok
theorem dk_rd {kvs : List (Key × V)} (ok : HOk P w H h) (e : Rd H a (.dK kvs)) : kvs.length ≤ sizeLine ∧ (a == sysModules) = false ∧ ∃ vs, KV kvs vs ∧ h.DictOf (mixKind P w) a vs :=
  show ObjOk P w H h a (.dK kvs) from rd_of ok e
theorem dk_of {kvs : List (Key × V)} (ok : HOk P w H h) (e : H a = some (.dK kvs)) : kvs.length ≤ sizeLine ∧ (a == sysModules) = false ∧ ∃ vs, KV kvs vs ∧ h.DictOf (mixKind P w) a vs := dk_rd ok (.inl e)
/-- a tracked tuple of ints and texts is a key -/
theorem key_of {ks : List Key} (ok : HOk P w H h) (e : H a = some (.tup (ks.map kV))) : (tupleKind (mixKind P w)).is h ks a := by
  obtain ⟨_, its, r, o, h1, h2, n, h3⟩ := (show ObjOk P w H h a (.tup (ks.map kV)) from ok a _ e)
  exact ⟨o, its.toArray, n, h1, h2, h3, by simpa using items_are r⟩
theorem dt_rd {kvs : List (List Key × V)} (ok : HOk P w H h) (e : Rd H a (.dT kvs)) : kvs.length ≤ sizeLine ∧ (a == sysModules) = false ∧
    ∃ xs, KT H kvs xs ∧ h.DictOfH (tupleKind (mixKind P w)) a xs := by
  obtain ⟨z, y, xs, r, o, es, ep, h1, h2, h3, h4, h5⟩ := (show ObjOk P w H h a (.dT kvs) from rd_of ok e)
  refine ⟨z, y, xs, r, o, es, ep, h1, h2, h3, h4, fun x hx => ?_, h5⟩
  have all : ∀ {l : List (List Key × V)} {m : List (List Key × Addr × Value)}, KT H l m → ∀ x ∈ m, (tupleKind (mixKind P w)).is h x.1 x.2.1 := by
    intro l m q
    induction q with
    | nil => intro x hx; exact nomatch hx
    | @cons p q ps qs hq t ih =>
      intro x hx
      rcases List.mem_cons.mp hx with e | hx
      · subst e
        exact key_of ok (by rw [← hq.1]; exact hq.2.1)
      · exact ih x hx
  exact all r x hx
theorem dt_of {kvs : List (List Key × V)} (ok : HOk P w H h) (e : H a = some (.dT kvs)) : kvs.length ≤ sizeLine ∧ (a == sysModules) = false ∧
    ∃ xs, KT H kvs xs ∧ h.DictOfH (tupleKind (mixKind P w)) a xs := dt_rd ok (.inl e)
end

/-- what the dict at a holds at the key y -/
def DGet (H : Hp) (a : Addr) (y : V) (r : Option V) : Prop :=
  (∃ kvs k, Rd H a (.dK kvs) ∧ y = kV k ∧ r = valV kvs k) ∨ ∃ kvs k b, Rd H a (.dT kvs) ∧ y = .ref b ∧ H b = some (.tup (k.map kV)) ∧ r = valV kvs k
/-- the heap behind a[y] = v -/
def DPut (H : Hp) (a : Addr) (y v : V) (H' : Hp) : Prop :=
  (∃ kvs k, H a = some (.dK kvs) ∧ y = kV k ∧ kvs.length < sizeLine ∧ H' = upd H a (.dK (putK kvs k v))) ∨
  ∃ kvs k b, H a = some (.dT kvs) ∧ y = .ref b ∧ H b = some (.tup (k.map kV)) ∧ kvs.length < sizeLine ∧ H' = upd H a (.dT (putK kvs k v))
theorem DGet.k {H : Hp} {a : Addr} {kvs : List (Key × V)} {k : Key} (e : H a = some (.dK kvs)) : DGet H a (kV k) (valV kvs k) := .inl ⟨kvs, k, .inl e, rfl, rfl⟩
theorem DGet.t {H : Hp} {a b : Addr} {kvs : List (List Key × V)} {k : List Key} (e : H a = some (.dT kvs)) (eb : H b = some (.tup (k.map kV))) : DGet H a (.ref b) (valV kvs k) := .inr ⟨kvs, k, b, .inl e, rfl, eb, rfl⟩
theorem DPut.k {H : Hp} {a : Addr} {kvs : List (Key × V)} {k : Key} {v : V} (e : H a = some (.dK kvs)) (hl : kvs.length < sizeLine) : DPut H a (kV k) v (upd H a (.dK (putK kvs k v))) := .inl ⟨kvs, k, e, rfl, hl, rfl⟩
theorem DPut.t {H : Hp} {a b : Addr} {kvs : List (List Key × V)} {k : List Key} {v : V} (e : H a = some (.dT kvs)) (eb : H b = some (.tup (k.map kV))) (hl : kvs.length < sizeLine) :
    DPut H a (.ref b) v (upd H a (.dT (putK kvs k v))) := .inr ⟨kvs, k, b, e, rfl, eb, hl, rfl⟩


section
variable {X : Cx} {pins : List (Addr × Obj)} {σ : St} {H : Hp} {s : Shared} {a : Addr} {y v : V} {u r : Value} {o : Option V} {A : Around} {E : Value → Shared → Prop}

theorem Inv.big (I : Inv X pins σ H s) : sysModules < s.heap.objs.size := by
  have h : mainGlobals < s.heap.objs.size := (I.mod.glob.keeps I.bk).lt
  exact Nat.lt_trans (by decide) h

/-- d[y], there -/
theorem d_getItem {Q : Value → Shared → Prop} (hu : A.units + 1 < cLine) (I : Inv X pins σ H s) (g : DGet H a y (some v)) (ry : RelV y u) (h : ∀ w' s', Inv X pins σ H s' → RelV v w' → Q w' s') :
    wpAny (model X.prog X.w) A (getItem (.ref a) u) Q E s := by
  rcases g with ⟨kvs, k, e, ey, l⟩ | ⟨kvs, k, b, e, ey, eb, l⟩
  · subst ey
    obtain ⟨z, hd, vs, rel, dd⟩ := dk_rd I.hok e
    obtain ⟨w', hw, rw'⟩ := RelO.some_of (v := v) (o := valueAt vs k) (by rw [l]; exact rel.val k)
    exact wpAny_getItem_of (kV_is ry) dd.mapOf hw (h w' _ (I.tok _) rw')
  · subst ey
    cases (show u = Value.ref b from ry)
    obtain ⟨z, hd, xs, rel, dd⟩ := dt_rd I.hok e
    obtain ⟨w', hw, rw'⟩ := RelO.some_of (v := v) (o := (atKey xs k).map (·.2)) (by rw [l]; exact rel.val k)
    obtain ⟨p, hp, hp2⟩ := Option.map_eq_some_iff.mp hw
    refine wpAny_getItem_heap (tupleKind_room_in1 hu) (key_of I.hok eb) dd hp ?_
    rw [hp2]
    exact h w' _ (I.tok _) rw'
/-- y in d -/
theorem d_in {Q : Value → Shared → Prop} (hu : A.units + 1 < cLine) (I : Inv X pins σ H s) (g : DGet H a y o) (ry : RelV y u) (h : ∀ s', Inv X pins σ H s' → Q (.bool o.isSome) s') :
    wpAny (model X.prog X.w) A (compareOp .In u (.ref a)) Q E s := by
  rcases g with ⟨kvs, k, e, ey, l⟩ | ⟨kvs, k, b, e, ey, eb, l⟩
  · subst ey
    obtain ⟨z, hd, vs, rel, dd⟩ := dk_rd I.hok e
    refine wpAny_in_of (kV_is ry) hd dd.mapOf ?_
    rw [← (rel.val k).isSome_eq, ← l]
    exact h _ (I.tok _)
  · subst ey
    cases (show u = Value.ref b from ry)
    obtain ⟨z, hd, xs, rel, dd⟩ := dt_rd I.hok e
    refine wpAny_in_heap (tupleKind_room_in1 hu) (key_of I.hok eb) hd dd ?_
    have q := (rel.val k).isSome_eq
    rw [Option.isSome_map] at q
    rw [← q, ← l]
    exact h _ (I.tok _)
theorem d_notIn {Q : Value → Shared → Prop} (hu : A.units + 1 < cLine) (I : Inv X pins σ H s) (g : DGet H a y o) (ry : RelV y u) (h : ∀ s', Inv X pins σ H s' → Q (.bool (!o.isSome)) s') :
    wpAny (model X.prog X.w) A (compareOp .NotIn u (.ref a)) Q E s := by
  rcases g with ⟨kvs, k, e, ey, l⟩ | ⟨kvs, k, b, e, ey, eb, l⟩
  · subst ey
    obtain ⟨z, hd, vs, rel, dd⟩ := dk_rd I.hok e
    refine wpAny_notIn_of (kV_is ry) hd dd.mapOf ?_
    rw [← (rel.val k).isSome_eq, ← l]
    exact h _ (I.tok _)
  · subst ey
    cases (show u = Value.ref b from ry)
    obtain ⟨z, hd, xs, rel, dd⟩ := dt_rd I.hok e
    refine wpAny_notIn_heap (tupleKind_room_in1 hu) (key_of I.hok eb) hd dd ?_
    have q := (rel.val k).isSome_eq
    rw [Option.isSome_map] at q
    rw [← q, ← l]
    exact h _ (I.tok _)
/-- a dict's object is replaced -/
theorem d_write {h' : Heap} {t' : Nat} {ob : HO} (I : Inv X pins σ H s) (mu : Mut (H a)) (hs : Heap.SameBut a s.heap h') (he : ∃ q, h'.get? a = some q) (new : ObjOk X.prog X.w (upd H a ob) h' a ob) :
    Inv X pins σ (upd H a ob) { s with heap := h', toks := t' } :=
  I.write (x := a) (e := a) mu (.inl rfl) (fun b q hb z => (hs.2 b hb).trans z) he new
theorem dk_new {P : Program} {w : World} {H' : Hp} {h' : Heap} {kvs : List (Key × V)} {vs : List (Key × Value)} (z : kvs.length ≤ sizeLine) (hd : (a == sysModules) = false) (rel : KV kvs vs) (dd : h'.DictOf (mixKind P w) a vs) :
    ObjOk P w H' h' a (.dK kvs) := ⟨z, hd, vs, rel, dd⟩
/-- d[y] = v -/
theorem d_setItem {H' : Hp} {Q : Unit → Shared → Prop} (hu : A.units + 1 < cLine) (I : Inv X pins σ H s) (g : DPut H a y v H') (ry : RelV y u) (rv : RelV v r) (h : ∀ s', Inv X pins σ H' s' → Q () s') :
    wpAny (model X.prog X.w) A (setItem (.ref a) u r) Q E s := by
  rcases g with ⟨kvs, k, e, ey, l, eH⟩ | ⟨kvs, k, b, e, ey, eb, l, eH⟩
  · subst ey eH
    obtain ⟨z, hd, vs, rel, dd⟩ := dk_of I.hok e
    have hz : vs.length ≤ sizeLine := by rw [← rel.length]; exact z
    have hl : (putK kvs k v).length ≤ sizeLine := by have := length_putK kvs k v; omega
    refine wpAny_setItem_pairs (hsz := hz) (kV_is ry) dd fun h' dd' hs => h _ ?_
    have he : ∃ q, h'.get? a = some q := let ⟨q, _, _, hq, _⟩ := dd'; ⟨q, hq⟩
    exact d_write I (by rw [e]; exact True.intro) hs he (dk_new hl hd (rel.put k rv) dd')
  · subst ey eH
    cases (show u = Value.ref b from ry)
    obtain ⟨z, hd, xs, rel, dd⟩ := dt_of I.hok e
    have hz : xs.length ≤ sizeLine := by rw [← Paired.length rel]; exact z
    have hl : (putK kvs k v).length ≤ sizeLine := by have := length_putK kvs k v; omega
    refine wpAny_setItem_heap (hsz := hz) (tupleKind_room_in1 hu) (key_of I.hok eb) dd fun h' dd' hs => h _ ?_
    obtain ⟨q, es, ep, hq, h2, h3, h4, _, h5⟩ := dd'
    refine d_write I (by rw [e]; exact True.intro) hs ⟨q, hq⟩ ⟨hl, hd, _, (rel.put k eb rv).keeps fun c ys ec => ?_, q, es, ep, hq, h2, h3, h4, h5⟩
    rw [upd_ne (ne_of ec e (fun z => nomatch z))]
    exact ec
end

section
variable {X : Cx} {pins : List (Addr × Obj)} {σ : St} {H : Hp} {s : Shared} {a : Addr} {kvs : List (Key × V)} {k : Key} {u : Value} {A : Around} {E : Value → Shared → Prop}
/-- del d[k] -/
theorem d_delItem {Q : Unit → Shared → Prop} (I : Inv X pins σ H s) (e : H a = some (.dK kvs)) (ry : RelV (kV k) u) (l : (valV kvs k).isSome = true) (h : ∀ s', Inv X pins σ (upd H a (.dK (dropK kvs k))) s' → Q () s') :
    wpAny (model X.prog X.w) A (delItem (.ref a) u) Q E s := by
  obtain ⟨z, hd, vs, rel, dd⟩ := dk_of I.hok e
  refine wpAny_delItem_slot dd.typeIs (by decide) PySem.F.slot_dict_delitem
    (call_meetsIn PySem.F.slot_dict_delitem dd.typeIs PySem.F.entry_dict_delitem (PySem.F.args_dict_delitem_2 _ _) (meets_dict_delitem_pairs (mixKind X.prog X.w) a (kV_is ry)) ⟨vs, dd, by rw [← rel.length]; exact z, by rw [← (rel.val k).isSome_eq]; exact l, fun h' dd' hs => h _ ?_⟩)
  have he : ∃ q, h'.get? a = some q := let ⟨q, _, _, hq, _⟩ := dd'; ⟨q, hq⟩
  exact d_write I (by rw [e]; exact True.intro) hs he (dk_new (Nat.le_trans (dropK_le kvs k) z) hd (rel.drop k) dd')
/-- d.pop(k[, x]), there -/
theorem d_pop {v : V} {more : List Value} {Q : Value → Shared → Prop} (I : Inv X pins σ H s) (e : H a = some (.dK kvs)) (ry : RelV (kV k) u) (l : valV kvs k = some v) (hm : more = [] ∨ ∃ x, more = [x])
    (h : ∀ w' s', Inv X pins σ (upd H a (.dK (dropK kvs k))) s' → RelV v w' → Q w' s') : wpAny (model X.prog X.w) A (call (.builtin "dict.pop") (.ref a :: u :: more)) Q E s := by
  obtain ⟨z, hd, vs, rel, dd⟩ := dk_of I.hok e
  obtain ⟨w', hw, rw'⟩ := RelO.some_of (v := v) (o := valueAt vs k) (by rw [← l]; exact rel.val k)
  have hp : (keyPart u).isSome = true := by
    cases k with
    | inl i => obtain ⟨t, q⟩ := (show ∃ t, u = Value.int i t from ry); subst q; rfl
    | inr x => obtain ⟨t, q⟩ := (show ∃ t, u = Value.str x t from ry); subst q; rfl
  have ha : argsOk "dict.pop" ⟨.ref a :: u :: more, []⟩ := by
    rcases hm with q | ⟨x, q⟩
    · subst q; exact PySem.F.args_dict_pop_2 _ _
    · subst q; exact PySem.F.args_dict_pop_3 _ _ _
  refine call_meetsIn PySem.F.slot_dict_pop dd.typeIs PySem.F.entry_dict_pop ha (meets_dict_pop_there (mixKind X.prog X.w) a (kV_is ry) more hm hp)
    ⟨vs, w', dd, by rw [← rel.length]; exact z, hw, fun h' dd' hs => h w' _ ?_ rw'⟩
  have he : ∃ q, h'.get? a = some q := let ⟨q, _, _, hq, _⟩ := dd'; ⟨q, hq⟩
  exact d_write I (by rw [e]; exact True.intro) hs he (dk_new (Nat.le_trans (dropK_le kvs k) z) hd (rel.drop k) dd')
/-- d.pop(k, x), not there -/
theorem d_popD {r : Value} {Q : Value → Shared → Prop} (I : Inv X pins σ H s) (e : H a = some (.dK kvs)) (ry : RelV (kV k) u) (l : valV kvs k = none) (h : ∀ s', Inv X pins σ H s' → Q r s') :
    wpAny (model X.prog X.w) A (call (.builtin "dict.pop") [.ref a, u, r]) Q E s := by
  obtain ⟨z, hd, vs, rel, dd⟩ := dk_of I.hok e
  have hn : valueAt vs k = none := RelO.none_of (by rw [← l]; exact rel.val k)
  have hp : (keyPart u).isSome = true := by
    cases k with
    | inl i => obtain ⟨t, q⟩ := (show ∃ t, u = Value.int i t from ry); subst q; rfl
    | inr x => obtain ⟨t, q⟩ := (show ∃ t, u = Value.str x t from ry); subst q; rfl
  exact call_meetsIn PySem.F.slot_dict_pop dd.typeIs PySem.F.entry_dict_pop (PySem.F.args_dict_pop_3 _ _ _) (meets_dict_pop_default (mixKind X.prog X.w) a (kV_is ry) hd hp r) ⟨vs, dd, hn, h _ (I.tok _)⟩
/-- d.clear() -/
theorem d_clear {Q : Value → Shared → Prop} (I : Inv X pins σ H s) (e : H a = some (.dK kvs)) (h : ∀ s', Inv X pins σ (upd H a (.dK [])) s' → Q .none s') : wpAny (model X.prog X.w) A (call (.builtin "dict.clear") [.ref a]) Q E s := by
  obtain ⟨z, hd, vs, rel, dd⟩ := dk_of I.hok e
  refine call_meetsIn PySem.F.slot_dict_clear dd.typeIs PySem.F.entry_dict_clear (PySem.F.args_dict_clear_1 _) (meets_dict_clear (mixKind X.prog X.w) a) ⟨vs, dd, by rw [← rel.length]; exact z, fun h' dd' hs => h _ ?_⟩
  have he : ∃ q, h'.get? a = some q := let ⟨q, _, _, hq, _⟩ := dd'; ⟨q, hq⟩
  exact d_write (t' := s.toks) I (by rw [e]; exact True.intro) hs he (dk_new (Nat.zero_le _) hd .nil dd')
/-- len(d) -/
theorem d_len {Q : Value → Shared → Prop} (I : Inv X pins σ H s) (e : Rd H a (.dK kvs)) (h : ∀ t s', Inv X pins σ H s' → Q (.int kvs.length t) s') : wpAny (model X.prog X.w) A (call (.builtin "len") [.ref a]) Q E s := by
  obtain ⟨z, hd, vs, rel, dd⟩ := dk_rd I.hok e
  refine call_len_dict hd dd (by rw [← rel.length]; rw [sizeLine_eq] at z; omega) ?_
  rw [← rel.length]
  exact h _ _ (I.tok _)
/-- if d -/
theorem d_truth {Q : Bool → Shared → Prop} (I : Inv X pins σ H s) (e : Rd H a (.dK kvs)) (h : ∀ s', Inv X pins σ H s' → Q (!kvs.isEmpty) s') : wpAny (model X.prog X.w) A (truthy (.ref a)) Q E s := by
  obtain ⟨z, hd, vs, rel, dd⟩ := dk_rd I.hok e
  refine wpAny_truthy_dict hd dd (by rw [← rel.length]; rw [sizeLine_eq] at z; omega) ?_
  have q : kvs.isEmpty = vs.isEmpty := by cases rel <;> rfl
  rw [← q]
  exact h _ (I.tok _)
end


/-! ### readings and rules -/
/-- the element of a subscription, not a slice -/
def NoSl (i : Expr) : Prop := ∀ ov iv, subscripted i false ov iv = operate [ov, iv] (getItem ov iv)
theorem subD_of {prog : Program} {w : World} {A : Around} {E : Value → Shared → Prop} {s : Shared} {env : Env} {value slice : Expr} {pos : Pos} {T id : String} {Q : Value → Shared → Prop}
    (hl : typeLookup (.type T) "__getitem__" = pure (some (.builtin id))) (hs : NoSl slice)
    (h : wpAny (model prog w) A (eval value env) (fun o s₁ => wpAny (model prog w) A (eval slice env) (fun i s₂ => s₂.TypeIs o T ∧ wpAny (model prog w) A (getItem o i) Q E s₂) E s₁) E s) :
    wpAny (model prog w) A (eval (.Subscript value slice pos) env) Q E s := by
  refine Subscript_ (wpAny_mono h (fun o s₁ h₁ => wpAny_mono h₁ (fun i s₂ h₂ => ?_) fun _ _ x => x) fun _ _ x => x)
  obtain ⟨hT, h₂⟩ := h₂
  unfold subscriptTail
  refine wpAny_bind ?_
  rw [getitemInPython_of_ne hT.not_modules]
  refine wpAny_bind (wpAny_specialOf hT hl ?_)
  have fin : wpAny (model prog w) A (subscripted slice false o i) (fun r s₃ => wpAny (model prog w) A (letTemporaryGo value o r >>= fun _ => pure r) Q E s₃) E s₂ := by
    rw [hs o i]
    exact wpAny_operating (wpAny_mono h₂ (fun r s₃ h₃ => wpAny_bind (wpAny_letTemporaryGo (wpAny_pure h₃))) fun _ _ x => x)
  first
    | exact wpAny_pure (wpAny_bind fin)
    | exact wpAny_bind (wpAny_pure (wpAny_bind fin))
    | exact wpAny_bind fin

theorem dict_typeIs {X : Cx} {pins : List (Addr × Obj)} {σ : St} {H : Hp} {s : Shared} {a : Addr} {y : V} {o : Option V} (I : Inv X pins σ H s) (g : DGet H a y o) : s.TypeIs (.ref a) "dict" := by
  rcases g with ⟨kvs, k, e, _, _⟩ | ⟨kvs, k, b, e, _, _, _⟩
  · obtain ⟨_, _, vs, _, dd⟩ := dk_rd I.hok e
    exact dd.typeIs
  · obtain ⟨_, _, xs, _, dd⟩ := dt_rd I.hok e
    exact dd.typeIs
theorem dict_noDict {X : Cx} {pins : List (Addr × Obj)} {σ : St} {H : Hp} {s : Shared} {a : Addr} {y : V} {o : Option V} (I : Inv X pins σ H s) (g : DGet H a y o) :
    ∀ b, Value.ref a = .ref b → ∃ ob, s.heap.get? b = some ob ∧ ob.dict = none := fun b q => by
  cases q
  rcases g with ⟨kvs, k, e, _, _⟩ | ⟨kvs, k, b, e, _, _, _⟩
  · obtain ⟨_, _, vs, _, ob, _, _, h1, h2, _⟩ := dk_rd I.hok e
    exact ⟨ob, h1, h2.2.1⟩
  · obtain ⟨_, _, xs, _, ob, _, _, h1, h2, _⟩ := dt_rd I.hok e
    exact ⟨ob, h1, h2.2.1⟩

/-- d[y] -/
def tDGet (td ty : TE) : TE := fun σ H Q => td σ H fun x H1 => ty σ H1 fun y H2 => ∃ a v, x = .ref a ∧ DGet H2 a y (some v) ∧ Q v H2
/-- y in d, y not in d -/
def tDIn (ty td : TE) : TE := fun σ H Q => ty σ H fun y H1 => td σ H1 fun x H2 => ∃ a o, x = .ref a ∧ DGet H2 a y o ∧ Q (.bl o.isSome) H2
def tDNotIn (ty td : TE) : TE := fun σ H Q => ty σ H fun y H1 => td σ H1 fun x H2 => ∃ a o, x = .ref a ∧ DGet H2 a y o ∧ Q (.bl (!o.isSome)) H2
/-- d[y] = v -/
def sDPut (td ty tv : TE) : TS := fun D σ H => tv σ H fun v H1 => td σ H1 fun x H2 => ty σ H2 fun y H3 => ∃ a H4, x = .ref a ∧ DPut H3 a y v H4 ∧ D.nx σ H4
/-- d[y] op= v -/
def sDAug (td ty tv : TE) (rd : V → V → Hp → VK → Prop) : TS := fun D σ H => td σ H fun x H1 => ty σ H1 fun y H2 => ∃ a v, x = .ref a ∧ DGet H2 a y (some v) ∧
  tv σ H2 fun y2 H3 => rd v y2 H3 fun z H4 => ∃ H5, DPut H4 a y z H5 ∧ D.nx σ H5
/-- del d[y] -/
def sDDel (td ty : TE) : TS := fun D σ H => td σ H fun x H1 => ty σ H1 fun y H2 => ∃ a kvs k, x = .ref a ∧ H2 a = some (.dK kvs) ∧ y = kV k ∧ (valV kvs k).isSome = true ∧ D.nx σ (upd H2 a (.dK (dropK kvs k)))

section
variable {X : Cx} {o i e value : Expr} {pos pos' tpos : Pos} {td ty tv : TE}
theorem pe_dget (hu : X.A.units + 1 < cLine) (ho : PE X o td) (hi : PE X i ty) (hs : NoSl i) : PE X (.Subscript o i pos) (tDGet td ty) := by
  intro pins s σ H Q I h
  refine subD_of PySem.F.slot_dict_getitem.lookup hs (thn (ho pins s σ H _ I h) fun u s1 ⟨x, H1, I1, rx, q1⟩ => thn (hi pins s1 σ H1 _ I1 q1) fun iv s2 ⟨y, H2, I2, ry, a, v, ex, g, q2⟩ => ?_)
  subst ex
  obtain rfl : u = Value.ref a := rx
  exact ⟨dict_typeIs I2 g, d_getItem hu I2 g ry fun w' s3 I3 rw' => ⟨v, H2, I3, rw', q2⟩⟩
theorem pc_din (hu : X.A.units + 1 < cLine) (hi : PE X i ty) (ho : PE X o td) : PC X .In i o (tDIn ty td) := by
  intro pins s σ H Q I h
  refine thn (hi pins s σ H _ I h) fun iv s1 ⟨y, H1, I1, ry, q1⟩ => thn (ho pins s1 σ H1 _ I1 q1) fun u s2 ⟨x, H2, I2, rx, a, ov, ex, g, q2⟩ => ?_
  subst ex
  obtain rfl : u = Value.ref a := rx
  exact d_in hu I2 g ry fun s3 I3 => ⟨.bl ov.isSome, H2, I3, rfl, q2⟩
theorem pc_dnotin (hu : X.A.units + 1 < cLine) (hi : PE X i ty) (ho : PE X o td) : PC X .NotIn i o (tDNotIn ty td) := by
  intro pins s σ H Q I h
  refine thn (hi pins s σ H _ I h) fun iv s1 ⟨y, H1, I1, ry, q1⟩ => thn (ho pins s1 σ H1 _ I1 q1) fun u s2 ⟨x, H2, I2, rx, a, ov, ex, g, q2⟩ => ?_
  subst ex
  obtain rfl : u = Value.ref a := rx
  exact d_notIn hu I2 g ry fun s3 I3 => ⟨.bl (!ov.isSome), H2, I3, rfl, q2⟩
theorem ps_dput (hu : X.A.units + 1 < cLine) (ho : PE X o td) (hi : PE X i ty) (hv : PE X value tv) (hs : swapsWith value (some (.Subscript o i pos')) pos.line X.env = pure false) :
    PS X (.Assign [.Subscript o i pos'] value pos) (sDPut td ty tv) := by
  intro pins s σ H D I h
  refine wpAny_Assign_Subscript (thn (hv pins s σ H _ I h) fun r s1 ⟨v, H1, I1, rv, q1⟩ => thn (ho pins s1 σ H1 _ I1 q1) fun u s2 ⟨x, H2, I2, rx, q2⟩ => thn (hi pins s2 σ H2 _ I2 q2) fun iv s3 ⟨y, H3, I3, ry, a, H4, ex, g, q3⟩ => ?_) hs
  subst ex
  obtain rfl : u = Value.ref a := rx
  exact d_setItem hu I3 g ry rv fun s4 I4 => ⟨σ, H4, I4, q3⟩
theorem ps_daug {op : Operator} {rd : V → V → Hp → VK → Prop} (hu : X.A.units + 1 < cLine) (ho : PE X o td) (hi : PE X i ty) (hv : PE X value tv) (hop : InOp X op rd)
    (ha : ∀ ov iv new, augStore i ov iv new = (do holding [new, ov, iv] (setItem ov iv new); release [new, ov, iv] []; pure .next)) : PS X (.AugAssign (.Subscript o i tpos) op value pos) (sDAug td ty tv rd) := by
  intro pins s σ H D I h
  refine wpAny_AugAssign_SubscriptAny (thn (ho pins s σ H _ I h) fun u s1 ⟨x, H1, I1, rx, q1⟩ => thn (hi pins s1 σ H1 _ I1 q1) fun iv s2 ⟨y, H2, I2, ry, a, v, ex, g, q2⟩ => ?_) ha
  subst ex
  obtain rfl : u = Value.ref a := rx
  refine d_getItem hu I2 g ry fun w' s3 I3 rw' => thn (hv pins s3 σ H2 _ I3 q2) fun w2 s4 ⟨y2, H3, I4, ry2, q3⟩ => thn (hop pins s4 σ H3 v y2 w' w2 _ I4 rw' ry2 q3) fun w3 s5 ⟨z, H4, I5, rz, H5, g5, q4⟩ => ?_
  exact d_setItem hu I5 g5 ry rz fun s6 I6 => ⟨σ, H5, I6, q4⟩
theorem ps_ddel (ho : PE X o td) (hi : PE X i ty) : PS X (.Delete [.Subscript o i tpos] pos) (sDDel td ty) := by
  intro pins s σ H D I h
  refine wpAny_Delete (wpAny_deleteEach_cons (wpAny_delete_Subscript (thn (ho pins s σ H _ I h) fun u s1 ⟨x, H1, I1, rx, q1⟩ => thn (hi pins s1 σ H1 _ I1 q1) fun iv s2 ⟨y, H2, I2, ry, a, kvs, k, ex, e, ey, l, q2⟩ => ?_)))
  subst ex ey
  obtain rfl : u = Value.ref a := rx
  exact d_delItem I2 e ry l fun s3 I3 => wpAny_deleteEach_nil ⟨σ, _, I3, q2⟩
end


/-! ### displays -/
theorem dk_empty {P : Program} {w : World} {H : Hp} (h : Heap) (hb : sysModules < h.objs.size) : ObjOk P w H (h.push { cls := .type "dict", data := .dict #[] }) h.objs.size (.dK []) :=
  ⟨Nat.zero_le _, beq_eq_false_iff_ne.mpr (Ne.symm (Nat.ne_of_lt hb)), [], .nil, Heap.DictOf.new h⟩
theorem dt_empty {P : Program} {w : World} {H : Hp} (h : Heap) (hb : sysModules < h.objs.size) : ObjOk P w H (h.push { cls := .type "dict", data := .dict #[] }) h.objs.size (.dT []) :=
  ⟨Nat.zero_le _, beq_eq_false_iff_ne.mpr (Ne.symm (Nat.ne_of_lt hb)), [], .nil, _, #[], 0, Heap.get?_push_size _ rfl, ⟨rfl, rfl, rfl⟩, rfl, rfl, List.nodup_nil⟩
/-- {}, to be a dict of the kind that is wanted -/
def tDNewK : TE := fun _ H Q => ∀ p, H p = none → Q (.ref p) (upd H p (.dK []))
def tDNewT : TE := fun _ H Q => ∀ p, H p = none → Q (.ref p) (upd H p (.dT []))
section
variable {X : Cx} {pos : Pos}
theorem pe_dnewK : PE X (.Dict [] [] pos) tDNewK := fun pins s σ H Q I h =>
  wpAny_Dict_empty ⟨.ref s.heap.objs.size, _, I.laid (a := s.heap.objs.size) (o := .dK []) (t' := s.toks) (fun _ _ q => Heap.get?_push_of_some _ q) (Nat.le_refl _) (dk_empty s.heap I.big), rfl, h _ (I.hok.fresh (Nat.le_refl _))⟩
theorem pe_dnewT : PE X (.Dict [] [] pos) tDNewT := fun pins s σ H Q I h =>
  wpAny_Dict_empty ⟨.ref s.heap.objs.size, _, I.laid (a := s.heap.objs.size) (o := .dT []) (t' := s.toks) (fun _ _ q => Heap.get?_push_of_some _ q) (Nat.le_refl _) (dt_empty s.heap I.big), rfl, h _ (I.hok.fresh (Nat.le_refl _))⟩
end

/-- the pairs of a display, from the left -/
def tPairs : List (TE × TE) → St → Hp → (List (V × V) → Hp → Prop) → Prop
  | [], _, H, Q => Q [] H
  | (tk, tv) :: r, σ, H, Q => tk σ H fun x H1 => tv σ H1 fun y H2 => tPairs r σ H2 fun ps H3 => Q ((x, y) :: ps) H3
abbrev VV : List (V × V) → List (Value × Value) → Prop := Paired fun p q => RelV p.1 q.1 ∧ RelV p.2 q.2
def PPs (X : Cx) (pos : Pos) (keys : List (Option Expr)) (values : List Expr) (trs : List (TE × TE)) : Prop :=
  ∀ (pins : List (Addr × Obj)) (s : Shared) (σ : St) (H : Hp) (Q : List (V × V) → Hp → Prop), Inv X pins σ H s → tPairs trs σ H Q →
    wpAny (model X.prog X.w) X.A (evalPairs (pairTrees keys values X.env pos)) (fun vs s' => ∃ ps H', Inv X pins σ H' s' ∧ VV ps vs ∧ Q ps H') X.xe s
theorem pps_nil {X : Cx} {pos : Pos} : PPs X pos [] [] [] := fun pins s σ H Q I h => pairTrees_nil_walk ⟨[], H, I, .nil, h⟩
theorem pps_cons {X : Cx} {pos : Pos} {k v : Expr} {ks : List (Option Expr)} {vs : List Expr} {tk tv : TE} {trs : List (TE × TE)} (hk : PE X k tk) (hv : PE X v tv) (hr : PPs X pos ks vs trs) :
    PPs X pos (some k :: ks) (v :: vs) ((tk, tv) :: trs) := fun pins s σ H Q I h =>
  pairTrees_cons_walk (thn (hk pins s σ H _ I h) fun u s1 ⟨x, H1, I1, rx, q1⟩ => thn (hv pins s1 σ H1 _ I1 q1) fun w2 s2 ⟨y, H2, I2, ry, q2⟩ =>
    thn (hr pins s2 σ H2 _ I2 q2) fun ws s3 ⟨ps, H3, I3, rel, q3⟩ => ⟨(x, y) :: ps, H3, I3, .cons ⟨rx, ry⟩ rel, q3⟩)

def mergeK (kvs more : List (Key × V)) : List (Key × V) := more.foldl (fun acc kv => putK acc kv.1 kv.2) kvs
theorem KV.merge : ∀ {more : List (Key × V)} {rs : List (Key × Value)} {kvs : List (Key × V)} {vs : List (Key × Value)}, KV more rs → KV kvs vs → KV (mergeK kvs more) (merged vs rs) := by
  intro more rs kvs vs r
  unfold KV at r
  induction r generalizing kvs vs with
  | nil => intro q; exact q
  | @cons p q ps qs h t ih =>
    intro r0
    have e : KV (putK kvs p.1 p.2) (stored vs q.1 q.2) := by
      have := r0.put p.1 h.2
      rw [← h.1]; exact this
    exact ih e
theorem length_mergeK : ∀ (more kvs : List (Key × V)), (mergeK kvs more).length ≤ kvs.length + more.length
  | [], kvs => by show kvs.length ≤ kvs.length + 0; omega
  | p :: r, kvs => by
    have h1 := length_mergeK r (putK kvs p.1 p.2)
    have h2 := length_putK kvs p.1 p.2
    show (mergeK (putK kvs p.1 p.2) r).length ≤ _
    rw [List.length_cons]; omega
theorem carries_of {P : Program} {w : World} : ∀ {kvs : List (Key × V)} {ws : List (Value × Value)}, VV (kvs.map fun kv => (kV kv.1, kv.2)) ws → ∃ rs, Carries (mixKind P w) ws rs ∧ KV kvs rs
  | [], _, r => by rw [List.map_nil] at r; cases r; exact ⟨[], True.intro, .nil⟩
  | p :: kvs, _, r => by
    rw [List.map_cons] at r
    cases r with
    | @cons a b as bs h t =>
      obtain ⟨rs, c, q⟩ := carries_of (P := P) (w := w) t
      obtain ⟨b1, b2⟩ := b
      exact ⟨(p.1, b2) :: rs, ⟨kV_is h.1, rfl, c⟩, .cons ⟨rfl, h.2⟩ q⟩
/-- {k: v, ..} with keys ints and texts; the new dict stands empty while the pairs are made -/
def tDisp (trs : List (TE × TE)) : TE := fun σ H Q => ∀ p, H p = none → tPairs trs σ (upd H p (.dK [])) fun ps H2 => H2 p = some (.dK []) ∧ ∃ kvs : List (Key × V), ps = kvs.map (fun kv => (kV kv.1, kv.2)) ∧ kvs.length ≤ 15 ∧ Q (.ref p) (upd H2 p (.dK (mergeK [] kvs)))
theorem pe_disp {X : Cx} {pos : Pos} {keys : List (Option Expr)} {values : List Expr} {trs : List (TE × TE)} (h : PPs X pos keys values trs) (hall : keys.all (·.isSome) = true) (hl : keys.length = values.length) (h0 : keys ≠ [])
    (h15 : keys.length ≤ 15) : PE X (.Dict keys values pos) (tDisp trs) := by
  intro pins s σ H Q I q
  have hn := I.hok.fresh (Nat.le_refl s.heap.objs.size)
  have I1 := I.laid (a := s.heap.objs.size) (o := .dK []) (h' := s.heap.push { cls := .type "dict", data := .dict #[] }) (t' := s.toks) (fun _ _ q => Heap.get?_push_of_some _ q) (Nat.le_refl _) (dk_empty s.heap I.big)
  refine wpAny_Dict_walk (knd := mixKind X.prog X.w) hall hl h0 h15 (thn (h pins _ σ _ _ I1 (q _ hn)) fun ws s2 ⟨ps, H2, I2, rel, e, kvs, ep, lk, q2⟩ => ?_)
  subst ep
  obtain ⟨rs, c, rk⟩ := carries_of (P := X.prog) (w := X.w) rel
  obtain ⟨z, hd, vs0, r0, dd⟩ := dk_of I2.hok e
  cases r0
  refine ⟨rs, c, dd, fun h' dd' hs => ⟨.ref s.heap.objs.size, _, ?_, rfl, q2⟩⟩
  have hz : (mergeK [] kvs).length ≤ sizeLine := by
    have h1 := length_mergeK kvs []
    rw [List.length_nil] at h1
    rw [sizeLine_eq]; omega
  have he : ∃ q, h'.get? s.heap.objs.size = some q := let ⟨q, _, _, hq, _⟩ := dd'; ⟨q, hq⟩
  exact d_write I2 (by rw [e]; exact True.intro) hs he (dk_new hz hd (rk.merge .nil) dd')


/-! ### methods -/
/-- a method call o.m(e) of a built-in, with one argument: what must be seen of the text -/
structure M1 (X : Cx) (o : Expr) (m : Str) (apos : Pos) (e : Expr) (cpos : Pos) : Prop where
  base : attributeBase o m X.env (eval o X.env) = eval o X.env
  few : ((backTo cpos (starEach [e] X.env)).all (fun x => !x.1) && (backToKw cpos (keywordEach [] X.env)).all (fun x => x.1.isSome)
    && decide (([e] : List Expr).length + ([] : List Keyword).length + (if ([] : List Keyword).isEmpty then 0 else 1) < 30)) = true
  line : (apos.endLine == cpos.line) = true
  trees : backTo cpos (starEach [e] X.env) = [(false, eval e X.env)]
structure M2 (X : Cx) (o : Expr) (m : Str) (apos : Pos) (e f : Expr) (cpos : Pos) : Prop where
  base : attributeBase o m X.env (eval o X.env) = eval o X.env
  few : ((backTo cpos (starEach [e, f] X.env)).all (fun x => !x.1) && (backToKw cpos (keywordEach [] X.env)).all (fun x => x.1.isSome)
    && decide (([e, f] : List Expr).length + ([] : List Keyword).length + (if ([] : List Keyword).isEmpty then 0 else 1) < 30)) = true
  line : (apos.endLine == cpos.line) = true
  trees : backTo cpos (starEach [e, f] X.env) = [(false, eval e X.env), (false, eval f X.env)]

/-- a is a dict, whatever its keys -/
def IsD (H : Hp) (a : Addr) : Prop := (∃ kvs, Rd H a (.dK kvs)) ∨ ∃ kvs, Rd H a (.dT kvs)
theorem isD_at {X : Cx} {pins : List (Addr × Obj)} {σ : St} {H : Hp} {s : Shared} {a : Addr} (I : Inv X pins σ H s) (d : IsD H a) :
    s.TypeIs (.ref a) "dict" ∧ (∀ b, Value.ref a = .ref b → ∃ ob, s.heap.get? b = some ob ∧ ob.dict = none) ∧ (a == sysModules) = false := by
  rcases d with ⟨kvs, e⟩ | ⟨kvs, e⟩
  · obtain ⟨_, hd, vs, _, dd⟩ := dk_rd I.hok e
    refine ⟨dd.typeIs, fun b q => ?_, hd⟩
    cases q
    obtain ⟨ob, _, _, h1, h2, _⟩ := dd
    exact ⟨ob, h1, h2.2.1⟩
  · obtain ⟨_, hd, xs, _, dd⟩ := dt_rd I.hok e
    refine ⟨dd.typeIs, fun b q => ?_, hd⟩
    cases q
    obtain ⟨ob, _, _, h1, h2, _⟩ := dd
    exact ⟨ob, h1, h2.2.1⟩

section
variable {X : Cx} {pins : List (Addr × Obj)} {σ : St} {H : Hp} {s : Shared} {a : Addr} {y d : V} {u r : Value} {o : Option V} {A : Around} {E : Value → Shared → Prop}
/-- d.get(y) -/
theorem d_get1 {Q : Value → Shared → Prop} (hu : A.units + 1 < cLine) (I : Inv X pins σ H s) (g : DGet H a y o) (ry : RelV y u) (h : ∀ w' s', Inv X pins σ H s' → RelV (o.getD .non) w' → Q w' s') :
    wpAny (model X.prog X.w) A (call (.builtin "dict.get") [.ref a, u]) Q E s := by
  rcases g with ⟨kvs, k, e, ey, l⟩ | ⟨kvs, k, b, e, ey, eb, l⟩
  · subst ey
    obtain ⟨z, hd, vs, rel, dd⟩ := dk_rd I.hok e
    refine call_meetsIn PySem.F.slot_dict_get dd.typeIs PySem.F.entry_dict_get (PySem.F.args_dict_get_2 _ _) (meets_dict_get (mixKind X.prog X.w) a (kV_is ry) hd) ⟨_, dd.mapOf, h _ _ (I.tok _) ?_⟩
    rw [l]
    exact (rel.val k).getD rfl
  · subst ey
    cases (show u = Value.ref b from ry)
    obtain ⟨z, hd, xs, rel, dd⟩ := dt_rd I.hok e
    refine call_meetsIn PySem.F.slot_dict_get dd.typeIs PySem.F.entry_dict_get (PySem.F.args_dict_get_2 _ _) (meetsH_dict_get (tupleKind (mixKind X.prog X.w)) a b hd) ⟨tupleKind_room_in1 hu, k, xs, key_of I.hok eb, dd, h _ _ (I.tok _) ?_⟩
    rw [l]
    exact (rel.val k).getD rfl
/-- d.get(y, x) -/
theorem d_get2 {Q : Value → Shared → Prop} (hu : A.units + 1 < cLine) (I : Inv X pins σ H s) (g : DGet H a y o) (ry : RelV y u) (rd : RelV d r) (h : ∀ w' s', Inv X pins σ H s' → RelV (o.getD d) w' → Q w' s') :
    wpAny (model X.prog X.w) A (call (.builtin "dict.get") [.ref a, u, r]) Q E s := by
  rcases g with ⟨kvs, k, e, ey, l⟩ | ⟨kvs, k, b, e, ey, eb, l⟩
  · subst ey
    obtain ⟨z, hd, vs, rel, dd⟩ := dk_rd I.hok e
    refine call_meetsIn PySem.F.slot_dict_get dd.typeIs PySem.F.entry_dict_get (PySem.F.args_dict_get_3 _ _ _) (meets_dict_get_default (mixKind X.prog X.w) a (kV_is ry) hd r) ⟨_, dd.mapOf, h _ _ (I.tok _) ?_⟩
    rw [l]
    exact (rel.val k).getD rd
  · subst ey
    cases (show u = Value.ref b from ry)
    obtain ⟨z, hd, xs, rel, dd⟩ := dt_rd I.hok e
    refine call_meetsIn PySem.F.slot_dict_get dd.typeIs PySem.F.entry_dict_get (PySem.F.args_dict_get_3 _ _ _) (meetsH_dict_get_default (tupleKind (mixKind X.prog X.w)) a b hd r) ⟨tupleKind_room_in1 hu, k, xs, key_of I.hok eb, dd, h _ _ (I.tok _) ?_⟩
    rw [l]
    exact (rel.val k).getD rd
end

def tDGet1 (td ty : TE) : TE := fun σ H Q => td σ H fun x H1 => ∃ a, x = .ref a ∧ IsD H1 a ∧ ty σ H1 fun y H2 => ∃ o, DGet H2 a y o ∧ Q (o.getD .non) H2
def tDGet2 (td ty tx : TE) : TE := fun σ H Q => td σ H fun x H1 => ∃ a, x = .ref a ∧ IsD H1 a ∧ ty σ H1 fun y H2 => tx σ H2 fun z H3 => ∃ o, DGet H3 a y o ∧ Q (o.getD z) H3
/-- d.pop(k): there; d.pop(k, x): there or not -/
def tDPop1 (td ty : TE) : TE := fun σ H Q => td σ H fun x H1 => ∃ a, x = .ref a ∧ IsD H1 a ∧ ty σ H1 fun y H2 => ∃ kvs k v, H2 a = some (.dK kvs) ∧ y = kV k ∧ valV kvs k = some v ∧ Q v (upd H2 a (.dK (dropK kvs k)))
def tDPop2 (td ty tx : TE) : TE := fun σ H Q => td σ H fun x H1 => ∃ a, x = .ref a ∧ IsD H1 a ∧ ty σ H1 fun y H2 => tx σ H2 fun z H3 => ∃ kvs k, H3 a = some (.dK kvs) ∧ y = kV k ∧
  (∀ v, valV kvs k = some v → Q v (upd H3 a (.dK (dropK kvs k)))) ∧ (valV kvs k = none → Q z H3)
section
variable {X : Cx} {o e f : Expr} {apos cpos : Pos} {td ty tx : TE}
theorem pe_dget1 (hu : X.A.units + 1 < cLine) (ho : PE X o td) (he : PE X e ty) (m : M1 X o "get" apos e cpos) : PE X (.Call (.Attribute o "get" apos) [e] [] cpos) (tDGet1 td ty) := by
  intro pins s σ H Q I h
  refine wpAny_Call_method m.base m.few m.line PySem.F.plainAttrs_dict PySem.F.slot_dict_get PySem.F.type_dict_get (thn (ho pins s σ H _ I h) fun u s1 ⟨x, H1, I1, rx, a, ex, d, q1⟩ => ?_)
  subst ex
  obtain rfl : u = Value.ref a := rx
  obtain ⟨t1, t2, _⟩ := isD_at I1 d
  refine ⟨t1, t2, ?_⟩
  rw [m.trees]
  refine Calls.callWith_builtin rfl (Calls.evalArgs_plain (Calls.spliced_cons (thn (he pins s1 σ H1 _ I1 q1) fun iv s2 ⟨y, H2, I2, ry, ov, g, q2⟩ => Calls.spliced_nil ?_)))
  exact d_get1 hu I2 g ry fun w' s3 I3 rw' => ⟨_, H2, I3, rw', q2⟩
theorem pe_dget2 (hu : X.A.units + 1 < cLine) (ho : PE X o td) (he : PE X e ty) (hf : PE X f tx) (m : M2 X o "get" apos e f cpos) : PE X (.Call (.Attribute o "get" apos) [e, f] [] cpos) (tDGet2 td ty tx) := by
  intro pins s σ H Q I h
  refine wpAny_Call_method m.base m.few m.line PySem.F.plainAttrs_dict PySem.F.slot_dict_get PySem.F.type_dict_get (thn (ho pins s σ H _ I h) fun u s1 ⟨x, H1, I1, rx, a, ex, d, q1⟩ => ?_)
  subst ex
  obtain rfl : u = Value.ref a := rx
  obtain ⟨t1, t2, _⟩ := isD_at I1 d
  refine ⟨t1, t2, ?_⟩
  rw [m.trees]
  refine Calls.callWith_builtin rfl (Calls.evalArgs_plain (Calls.spliced_cons (thn (he pins s1 σ H1 _ I1 q1) fun iv s2 ⟨y, H2, I2, ry, q2⟩ =>
    Calls.spliced_cons (thn (hf pins s2 σ H2 _ I2 q2) fun fv s3 ⟨z, H3, I3, rz, ov, g, q3⟩ => Calls.spliced_nil ?_))))
  exact d_get2 hu I3 g ry rz fun w' s4 I4 rw' => ⟨_, H3, I4, rw', q3⟩
theorem pe_dpop1 (ho : PE X o td) (he : PE X e ty) (m : M1 X o "pop" apos e cpos) : PE X (.Call (.Attribute o "pop" apos) [e] [] cpos) (tDPop1 td ty) := by
  intro pins s σ H Q I h
  refine wpAny_Call_method m.base m.few m.line PySem.F.plainAttrs_dict PySem.F.slot_dict_pop PySem.F.type_dict_pop (thn (ho pins s σ H _ I h) fun u s1 ⟨x, H1, I1, rx, a, ex, d, q1⟩ => ?_)
  subst ex
  obtain rfl : u = Value.ref a := rx
  obtain ⟨t1, t2, _⟩ := isD_at I1 d
  refine ⟨t1, t2, ?_⟩
  rw [m.trees]
  refine Calls.callWith_builtin rfl (Calls.evalArgs_plain (Calls.spliced_cons (thn (he pins s1 σ H1 _ I1 q1) fun iv s2 ⟨y, H2, I2, ry, kvs, k, v, ea, ey, l, q2⟩ => Calls.spliced_nil ?_)))
  subst ey
  exact d_pop I2 ea ry l (.inl rfl) fun w' s3 I3 rw' => ⟨v, _, I3, rw', q2⟩
theorem pe_dpop2 (ho : PE X o td) (he : PE X e ty) (hf : PE X f tx) (m : M2 X o "pop" apos e f cpos) : PE X (.Call (.Attribute o "pop" apos) [e, f] [] cpos) (tDPop2 td ty tx) := by
  intro pins s σ H Q I h
  refine wpAny_Call_method m.base m.few m.line PySem.F.plainAttrs_dict PySem.F.slot_dict_pop PySem.F.type_dict_pop (thn (ho pins s σ H _ I h) fun u s1 ⟨x, H1, I1, rx, a, ex, d, q1⟩ => ?_)
  subst ex
  obtain rfl : u = Value.ref a := rx
  obtain ⟨t1, t2, _⟩ := isD_at I1 d
  refine ⟨t1, t2, ?_⟩
  rw [m.trees]
  refine Calls.callWith_builtin rfl (Calls.evalArgs_plain (Calls.spliced_cons (thn (he pins s1 σ H1 _ I1 q1) fun iv s2 ⟨y, H2, I2, ry, q2⟩ =>
    Calls.spliced_cons (thn (hf pins s2 σ H2 _ I2 q2) fun fv s3 ⟨z, H3, I3, rz, kvs, k, ea, ey, q3, q4⟩ => Calls.spliced_nil ?_))))
  subst ey
  cases l : valV kvs k with
  | some v => exact d_pop I3 ea ry l (.inr ⟨fv, rfl⟩) fun w' s4 I4 rw' => ⟨v, _, I4, rw', q3 v l⟩
  | none => exact d_popD I3 ea ry l fun s4 I4 => ⟨z, H3, I4, rz, q4 l⟩
end

/-! ### dict(d): a copy -/
section
variable {X : Cx} {pins : List (Addr × Obj)} {σ : St} {H : Hp} {s : Shared} {a : Addr} {kvs : List (Key × V)} {A : Around} {E : Value → Shared → Prop}
theorem d_copyOf {Q : Value → Shared → Prop} (I : Inv X pins σ H s) (e : Rd H a (.dK kvs)) (h : ∀ p s', H p = none → Inv X pins σ (upd H p (.dK kvs)) s' → Q (.ref p) s') : wpAny (model X.prog X.w) A (call (.type "dict") [.ref a]) Q E s := by
  obtain ⟨z, hd, vs, rel, dd⟩ := dk_rd I.hok e
  refine kt_call_dict hd dd (by rw [← rel.length]; exact z) fun h' dd' hs => ?_
  refine h _ _ (I.hok.fresh (Nat.le_refl _)) (I.laid (a := s.heap.objs.size) (o := .dK kvs) (t' := s.toks) (fun b q hq => ?_) (Nat.le_refl _) (dk_new z (beq_eq_false_iff_ne.mpr (Ne.symm (Nat.ne_of_lt I.big))) rel dd'))
  exact (hs.2 b (Nat.ne_of_lt (Heap.lt_size hq))).trans (Heap.get?_push_of_some _ hq)
end


section
variable {X : Cx} {pins : List (Addr × Obj)} {σ : St} {H : Hp} {s : Shared} {a : Addr} {y : V} {u : Value} {A : Around} {E : Value → Shared → Prop}
/-- d[y], not there: a KeyError -/
theorem d_missing {Q : Value → Shared → Prop} (hu : A.units + 1 < cLine) (hh : A.handled = none) (I : Inv X pins σ H s) (g : DGet H a y none) (ry : RelV y u)
    (h : ∀ h' e t', Heap.NewExc s.heap h' e "KeyError" → E (.ref e) { s with heap := h', toks := t' }) : wpAny (model X.prog X.w) A (getItem (.ref a) u) Q E s := by
  rcases g with ⟨kvs, k, e, ey, l⟩ | ⟨kvs, k, b, e, ey, eb, l⟩
  · subst ey
    obtain ⟨z, hd, vs, rel, dd⟩ := dk_rd I.hok e
    have hn : valueAt vs k = none := RelO.none_of (by rw [l]; exact rel.val k)
    exact wpAny_getItem_missing_of (kV_is ry) hd hh dd.mapOf hn fun h' ex ne => h h' ex _ ne
  · subst ey
    cases (show u = Value.ref b from ry)
    obtain ⟨z, hd, xs, rel, dd⟩ := dt_rd I.hok e
    have hn : (atKey xs k).map (·.2) = none := RelO.none_of (by rw [l]; exact rel.val k)
    exact wpAny_getItem_missing_heap (tupleKind_room_in1 hu) (key_of I.hok eb) hd hh dd (Option.map_eq_none_iff.mp hn) fun h' ex ne => h h' ex _ ne
end
end L2

namespace Att
open PySem PySem.W PySem.Calls PyProof.Rows

/-! ### the script -/
theorem ints_of_wellAll {P : Params} {h : Heap} : ∀ (ns : List Int) (vs : List Value), WellAll P h vs (ns.map WData.int) → IntsAre vs ns := by
  intro ns
  induction ns with
  | nil =>
    intro vs w
    rw [List.map_nil] at w
    cases w
    exact .nil
  | cons n ns ih =>
    intro vs w
    rw [List.map_cons] at w
    cases w with
    | cons a b =>
      cases a
      exact .cons _ _ (ih _ b)

theorem script_of {l : OpenLaw} {n : Nat} (hn : l.most = some n) {P : Params} {h : Heap} {args : List WData} {vals : List Value}
    (hpre : l.row.toRowW.claim.pre args = true) (hwl : WellAll P h vals args) :
    ∃ a vs ns, vals = [Value.ref a] ∧ args = [WData.list (ns.map WData.int)] ∧ h.get? a = some { cls := .type "list", data := .seq vs.toArray } ∧ IntsAre vs ns ∧ ns.length ≤ n := by
  have hsh : WShape.hasAll [] args [.list .int] = true := (pre_splitW hpre).1
  have hc : l.pre.holds [] { args := args } = true := (pre_splitW hpre).2
  obtain ⟨d, r, rfl, h1, h2⟩ := hasAllW_cons hsh
  obtain rfl := hasAllW_nil h2
  obtain ⟨xs, rfl, h3⟩ := hasW_list h1
  obtain ⟨ns, rfl⟩ := items_int h3
  have hlen : ns.length ≤ n := by
    unfold OpenLaw.pre at hc
    have h4 : (WTm.not (.lt (.lit (.int (n : Int))) (.len (.arg 0)))).holds [] { args := [.list (ns.map .int)] } = true := by
      have h4 := (holds_andW hc).1
      rw [hn] at h4
      exact h4
    have h5 := condW_of h4 (w_not (w_lt w_lit (w_len_list (w_arg rfl))))
    rw [List.length_map] at h5
    refine Nat.le_of_not_lt fun q => ?_
    have q' : (n : Int) < ((ns.length : Nat) : Int) := by omega
    first
      | (rw [decide_eq_true q'] at h5; exact absurd h5 (by decide))
      | (simp at h5; omega)
  cases hwl with
  | cons w1 w2 =>
    cases w2
    cases w1 with
    | list ho hall => exact ⟨_, _, ns, rfl, rfl, ho, ints_of_wellAll ns _ hall, hlen⟩

theorem post_true (l : OpenLaw) (args : List WData) : l.row.toRowW.claim.post args (.bool true) args = true :=
  postW_of (r := l.row.toRowW) (X := (true == true))
    (show WShape.has [] (.bool true) .bool = true by first | rfl | decide | simp [WShape.has, WShape.arms, WShape.armsAll])
    (show (WTm.eq .res (.lit (.bool true))).value [] { args := args, res := some (.bool true), after := args } = some (.bool (true == true)) from w_eq_bool (w_res rfl) w_lit) rfl

/-! ### the attachment: holds_open's last premise (the goal 'hc' behind k_head) from a wpAny of the law's body -/
theorem attach {l : OpenLaw} {n : Nat} {q : Program} {loose : List Str} {XP : (Str → Option Value) → Heap → Prop} {YP : World → Heap → Prop} {d : DefRec} {x : Str}
    (hn : l.most = some n) (hdf : d.params.defaults = [])
    (hbind : ∀ pm cd doc v : Value, bindArgs (docDef d.name d.params d.body d.scope pm cd doc) ⟨[v], []⟩ = pure [(x, v)])
    (hx : d.scope.names.lookup x = some .local ∨ d.scope.names.lookup x = some .cell)
    (hk : d.scope.kind = .function) (hco : d.scope.isCoroutine = false) (hgen : d.scope.isGenerator = false)
    (body : ∀ (w : World) (s₀ s₁ s : Shared) (mg mb : Str → Option Value) (fa : Addr) (o : Obj) (pm cd doc : Value) (a : Addr) (vs : List Value) (ns : List Int),
      Ground q loose [] XP w s₀ mg mb s₁.heap → YP w s₁.heap →
      s₁.heap.get? fa = some o → o.data = .func (docDef d.name d.params d.body d.scope pm cd doc) → s₁.heap.CodeRec cd d.name → mg d.name = some (.ref fa) →
      s₁.heap.get? a = some { cls := .type "list", data := .seq vs.toArray } → IntsAre vs ns → ns.length ≤ n →
      s.gens = #[] → s.os = s₁.os →
      Fr s₁.heap s₁.heap.objs.size s.heap (bindL (envOfC d.name d.scope s₁.heap.objs.size fa cd).kindOf [(x, .ref a)] fun _ => none) →
      Cl s₁.heap.objs.size (cellsFrom (s₁.heap.objs.size + 1) d.scope.names []) s.heap (bindC (envOfC d.name d.scope s₁.heap.objs.size fa cd).kindOf [(x, .ref a)] fun _ => none) →
      wpAny (model l.prog w) (callerA.deeper (envOfC d.name d.scope s₁.heap.objs.size fa cd)) (execs d.body (envOfC d.name d.scope s₁.heap.objs.size fa cd))
        (fun f s' => f = .ret (.bool true) ∧ OldK s₁.heap s'.heap ∧ s'.os = s₁.os ∧ AllBare s'.gens) (fun _ _ => False) s) :
    WalkO q loose XP YP l.row.toRowW d [] (fun f vs => PySem.call f vs) := by
  intro w s₀ s₁ mg mb G Y fa o pm cd doc dV kV ho hd hcd hD hmg hg args vals as hpre hlay hrd hwl hlo
  obtain rfl : dV = .none := Dflts.none hD hdf
  obtain rfl : kV = .none := Dflts.noKw hD
  obtain ⟨a, vs, ns, rfl, rfl, hobj, hints, hlen⟩ := script_of hn hpre hwl
  refine enter_call ?_
  refine call_cells_ret (o := o) (by rw [depth_caller]; decide) ho (fd_plain hd) G.T.nolimit hcd (hbind pm cd doc (.ref a)) (fun y hy => ?_) (fun h₁ tk F X => ?_) hco hgen hk
  · obtain rfl : y = (x, Value.ref a) := List.mem_singleton.mp hy
    rcases hx with e | e
    · exact .inl e
    · exact .inr ⟨e, cellsFrom_some _ _ _ (.inl e)⟩
  · refine wpAny_mono (body w s₀ s₁ { s₁ with heap := h₁, toks := tk } mg mb fa o pm cd doc a vs ns G Y ho (fd_plain hd) hcd hmg hobj hints hlen hg rfl F X) (fun f s' hq => ?_) (fun _ _ hq => hq)
    obtain ⟨rfl, h2, h3, h4⟩ := hq
    exact ⟨.inl ⟨.bool true, .bool true, [], rfl, fun _ => rfl, .bool true, post_true l _, fun _ => ⟨List.Pairwise.nil, fun _ hm => (nomatch hm)⟩⟩, h2, h3, h4⟩

/-- the same from a codeAny of the CALL (for a layer whose function contracts speak of calls) -/
theorem attach_call {l : OpenLaw} {n : Nat} {q : Program} {loose : List Str} {XP : (Str → Option Value) → Heap → Prop} {YP : World → Heap → Prop} {d : DefRec}
    (hn : l.most = some n) (hdf : d.params.defaults = [])
    (call : ∀ (w : World) (s₀ s₁ : Shared) (mg mb : Str → Option Value) (fa : Addr) (o : Obj) (pm cd doc : Value) (a : Addr) (vs : List Value) (ns : List Int),
      Ground q loose [] XP w s₀ mg mb s₁.heap → YP w s₁.heap →
      s₁.heap.get? fa = some o → o.data = .func (docDef d.name d.params d.body d.scope pm cd doc) → s₁.heap.CodeRec cd d.name → mg d.name = some (.ref fa) →
      s₁.heap.get? a = some { cls := .type "list", data := .seq vs.toArray } → IntsAre vs ns → ns.length ≤ n → s₁.gens = #[] →
      codeAny (model l.prog w) callerA (.call (.ref fa) ⟨[.ref a], []⟩) (fun r s' => r = .ok (.ret (.bool true)) ∧ OldK s₁.heap s'.heap ∧ s'.os = s₁.os ∧ AllBare s'.gens) s₁) :
    WalkO q loose XP YP l.row.toRowW d [] (fun f vs => PySem.call f vs) := by
  intro w s₀ s₁ mg mb G Y fa o pm cd doc dV kV ho hd hcd hD hmg hg args vals as hpre hlay hrd hwl hlo
  obtain rfl : dV = .none := Dflts.none hD hdf
  obtain rfl : kV = .none := Dflts.noKw hD
  obtain ⟨a, vs, ns, rfl, rfl, hobj, hints, hlen⟩ := script_of hn hpre hwl
  refine enter_call (codeAny_mono (call w s₀ s₁ mg mb fa o pm cd doc a vs ns G Y ho (fd_plain hd) hcd hmg hobj hints hlen hg) fun r s' hq => ?_)
  obtain ⟨rfl, h2, h3, h4⟩ := hq
  exact ⟨.inl ⟨.bool true, .bool true, [], rfl, fun _ => rfl, .bool true, post_true l _, fun _ => ⟨List.Pairwise.nil, fun _ hm => (nomatch hm)⟩⟩, h2, h3, h4⟩

/-- the same where the top left finished generators (o_head chose holds_openN): nothing may have changed at all and no generator may be left -/
theorem attachN {l : OpenLaw} {n : Nat} {q : Program} {loose : List Str} {XP : (Str → Option Value) → Heap → Prop} {YP : World → Heap → Prop} {d : DefRec} {x : Str}
    (hn : l.most = some n) (hdf : d.params.defaults = [])
    (hbind : ∀ pm cd doc v : Value, bindArgs (docDef d.name d.params d.body d.scope pm cd doc) ⟨[v], []⟩ = pure [(x, v)])
    (hx : d.scope.names.lookup x = some .local ∨ d.scope.names.lookup x = some .cell)
    (hk : d.scope.kind = .function) (hco : d.scope.isCoroutine = false) (hgen : d.scope.isGenerator = false)
    (body : ∀ (w : World) (s₀ s₁ s : Shared) (mg mb : Str → Option Value) (fa : Addr) (o : Obj) (pm cd doc : Value) (a : Addr) (vs : List Value) (ns : List Int),
      Ground q loose [] XP w s₀ mg mb s₁.heap → YP w s₁.heap →
      s₁.heap.get? fa = some o → o.data = .func (docDef d.name d.params d.body d.scope pm cd doc) → s₁.heap.CodeRec cd d.name → mg d.name = some (.ref fa) →
      s₁.heap.get? a = some { cls := .type "list", data := .seq vs.toArray } → IntsAre vs ns → ns.length ≤ n →
      s.gens = #[] → s.os = s₁.os →
      Fr s₁.heap s₁.heap.objs.size s.heap (bindL (envOfC d.name d.scope s₁.heap.objs.size fa cd).kindOf [(x, .ref a)] fun _ => none) →
      Cl s₁.heap.objs.size (cellsFrom (s₁.heap.objs.size + 1) d.scope.names []) s.heap (bindC (envOfC d.name d.scope s₁.heap.objs.size fa cd).kindOf [(x, .ref a)] fun _ => none) →
      wpAny (model l.prog w) (callerA.deeper (envOfC d.name d.scope s₁.heap.objs.size fa cd)) (execs d.body (envOfC d.name d.scope s₁.heap.objs.size fa cd))
        (fun f s' => f = .ret (.bool true) ∧ (∀ b o, s₁.heap.get? b = some o → s'.heap.get? b = some o) ∧ s'.os = s₁.os ∧ s'.gens = #[]) (fun _ _ => False) s) :
    WalkN q loose XP YP l.row.toRowW d [] (fun f vs => PySem.call f vs) := by
  intro w s₀ s₁ mg mb G Y fa o pm cd doc dV kV ho hd hcd hD hmg hg args vals as hpre hlay hrd hwl hlo
  obtain rfl : dV = .none := Dflts.none hD hdf
  obtain rfl : kV = .none := Dflts.noKw hD
  obtain ⟨a, vs, ns, rfl, rfl, hobj, hints, hlen⟩ := script_of hn hpre hwl
  refine enter_callW ?_
  refine call_cells_ret (o := o) (by rw [depth_caller]; decide) ho (fd_plain hd) G.T.nolimit hcd (hbind pm cd doc (.ref a)) (fun y hy => ?_) (fun h₁ tk F X => ?_) hco hgen hk
  · obtain rfl : y = (x, Value.ref a) := List.mem_singleton.mp hy
    rcases hx with e | e
    · exact .inl e
    · exact .inr ⟨e, cellsFrom_some _ _ _ (.inl e)⟩
  · refine wpAny_mono (body w s₀ s₁ { s₁ with heap := h₁, toks := tk } mg mb fa o pm cd doc a vs ns G Y ho (fd_plain hd) hcd hmg hobj hints hlen hg rfl F X) (fun f s' hq => ?_) (fun _ _ hq => hq)
    obtain ⟨rfl, h2, h3, h4⟩ := hq
    exact ⟨.inl ⟨.bool true, .bool true, [], rfl, fun _ => rfl, .bool true, post_true l _, fun _ => ⟨List.Pairwise.nil, fun _ hm => (nomatch hm)⟩⟩, h2, h3, h4⟩

/-! ### rules over ANY heap (no ledger) from facts about the written part K: the library's own take a ledger (News) for what they write -/
section
variable {prog : Program} {w : World} {A : Around} {E : Value → Shared → Prop} {s : Shared} {K : Frag}

/-- a def of the module, or a method (qual 'C.m'), entered: the frame is the next address; cells behind it -/
theorem call_fn {R : Result → Shared → Prop} {name qual : Str} {params : Arguments} {body : List Stmt} {scope : Scope} {dV kV doc pm cdv ct oc : Value} {an od : Option Addr} {osl : Array (Option Value)} {f : Addr} {args : Args} {binds : List (Str × Value)}
    (X : K.In s.heap) (hlim : s.heap.NoLimit) (ho : K.lookup f = some ⟨oc, od, .func (fnOf name qual params body scope dV kV doc pm an cdv ct), osl⟩) (hcd : codeIn K cdv qual = true) (hroom : A.depth < recursionLimit)
    (hbind : BindsTo s (fnOf name qual params body scope dV kV doc pm an cdv ct) args binds)
    (hkind : (binds.all fun y => scope.names.lookup y.1 == some .local || scope.names.lookup y.1 == some .cell) = true)
    (h : ∀ s₁, InCallC s s.heap.objs.size (bindL (envOfC qual scope s.heap.objs.size f cdv).kindOf binds fun _ => none) (cellsFrom (s.heap.objs.size + 1) scope.names [])
        (bindC (envOfC qual scope s.heap.objs.size f cdv).kindOf binds fun _ => none) s₁ →
      wpAny (model prog w) (A.deeper (envOfC qual scope s.heap.objs.size f cdv)) (execs body (envOfC qual scope s.heap.objs.size f cdv))
        (fun fl s' => R (.ok (.ret (match fl with | .ret v => v | _ => .none))) s')
        (fun e s' => wpAny (model prog w) (A.deeper (envOfC qual scope s.heap.objs.size f cdv)) (leaving (envOfC qual scope s.heap.objs.size f cdv) e) (fun _ s'' => R (.error e) s'') (fun e' s'' => R (.error e') s'') s') s₁)
    (hco : scope.isCoroutine = false) (hgen : scope.isGenerator = false) (hk : scope.kind = .function) : codeAny (model prog w) A (.call (.ref f) args) R s := by
  refine codeAny_call_function hroom (X _ _ ho) rfl hco hgen rfl (codeRec_of X hcd) (hbind _ _ _ _ ?_)
  refine wpAny_newFunctionEnv_cells hk (kindsX hkind _) fun env he s₁ x => ?_
  subst he
  exact ⟨hlim.keeps x.toInCall.keep, codeAny_func (h s₁ x)⟩

/-- C(..): dict at size, instance at size + 1, then __init__ -/
theorem make_obj {R : Result → Shared → Prop} {C fI : Addr} {rest : List Value} {kw : List (Str × Value)}
    (X : K.In s.heap) (hm : makesIn K C = true) (hi : findIn K (.ref C) "__init__" = some (some (.ref fI))) (hf : isFn K (.ref fI) = true)
    (h : codeAny (model prog w) (A.under (.builtin "type.__call__" ⟨.ref C :: rest, kw⟩)) (.call (.ref fI) ⟨.ref (s.heap.objs.size + 1) :: rest, kw⟩) (InitBack (s.heap.objs.size + 1) R)
      { s with heap := (s.heap.push emptyDict).push (instObj C s.heap.objs.size) }) : codeAny (model prog w) A (.call (.ref C) ⟨rest, kw⟩) R s := by
  obtain ⟨hh, g, d, t, os⟩ := s
  exact make_core (makes_of X hm) (looks_findIn X hi) (fun self => bind_fn X self (beq_iff_eq.mp hf)) (.inl rfl) h

/-- x.name where the instance's dict holds the name and the class does not -/
theorem get_field {x C : Addr} {ox : Obj} {es : List DictEntry} {n : Nat} {name : Str} {expr : Bool} {v : Value} {Q : Value → Shared → Prop}
    (X : K.In s.heap) (I : PySem.W.InstAt s.heap x ox C (some (dictOf es n))) (hg : plainGet K C name = true) (hh : hasDictIn K C = true) (ha : findIn K (.ref C) name = some none)
    (hl : getL name es = some (some v)) (hv : handedIn v = true) (h : Q v { s with toks := s.toks + 1 }) : wpAny (model prog w) A (getAttr (.ref x) name expr) Q E s :=
  get_value X I (plainGet_of hg).1 (findObj_own hh ha rfl hl) hv h

/-- x.m(..): the method found in the class -/
theorem get_method {x C f : Addr} {ox : Obj} {es : List DictEntry} {n : Nat} {name : Str} {pl : Sem Bool} {Q : Value × List Value → Shared → Prop}
    (X : K.In s.heap) (I : PySem.W.InstAt s.heap x ox C (some (dictOf es n))) (hg : plainGet K C name = true) (hf : findIn K (.ref C) name = some (some (.ref f))) (ht : isFn K (.ref f) = true)
    (hl : getL name es = some none) (h : Q (.ref f, [.ref x]) s) : wpAny (model prog w) A (getMethod (.ref x) name pl) Q E s :=
  method_fn X I (plainGet_of hg).1 (plainGet_of hg).2 hf (beq_iff_eq.mp ht) (by show (lookIn name (dictOf es n)).map _ = _; rw [lookIn_dict, hl]; rfl) h

/-! the whole heap as the ledger: makes every rule that writes through a ledger a rule over any heap -/
def noObjs (h : Heap) : Heap := { h with objs := #[] }
theorem noObjs_get (h : Heap) (b : Addr) : (noObjs h).get? b = none := by
  cases e : (noObjs h).get? b with
  | none => rfl
  | some o => exact absurd (Heap.lt_size e) (Nat.not_lt_zero _)
def ledger (h : Heap) (L d : Addr) : List (Addr × Obj) := (List.range h.objs.size).filterMap fun a => if a = L ∨ a = d then none else (h.get? a).map fun o => (a, o)
theorem mem_ledger {h : Heap} {L d a : Addr} {o : Obj} : (a, o) ∈ ledger h L d ↔ a ≠ L ∧ a ≠ d ∧ h.get? a = some o := by
  unfold ledger
  rw [List.mem_filterMap]
  constructor
  · rintro ⟨b, _, e⟩
    split at e
    · cases e
    · rename_i hb
      obtain ⟨o', ho, e'⟩ := Option.map_eq_some_iff.mp e
      cases e'
      exact ⟨fun q => hb (.inl q), fun q => hb (.inr q), ho⟩
  · rintro ⟨n1, n2, ho⟩
    refine ⟨a, List.mem_range.mpr (Heap.lt_size ho), ?_⟩
    rw [if_neg (show ¬ (a = L ∨ a = d) from fun q => q.elim n1 n2), ho] <;> rfl
theorem news_ledger {h : Heap} {L d : Addr} {od : Obj} (hne : d ≠ L) (ho : h.get? d = some od) : News (noObjs h) L h ([] ++ (d, od) :: ledger h L d) := by
  rintro ⟨a, o⟩ hp
  rcases List.mem_cons.mp hp with e | hp
  · cases e
    exact ⟨ho, hne, noObjs_get _ _⟩
  · obtain ⟨n1, n2, e⟩ := mem_ledger.mp hp
    exact ⟨e, n1, noObjs_get _ _⟩
theorem fr_all {h : Heap} {L : Addr} {m : Str → Option Value} (n : h.Ns L m) : Fr (noObjs h) L h m :=
  ⟨n, fun b o e => (by rw [noObjs_get] at e; cases e), Nat.zero_le _⟩
/-- Upd of the head entry (for append_K, setItem_K ..) -/
theorem upd_ledger {h : Heap} {L d : Addr} {o o' : Obj} : Upd d o o' ((d, o) :: ledger h L d) ((d, o') :: ledger h L d) :=
  .head fun ⟨_, _⟩ hp => (mem_ledger.mp hp).2.1

/-- x.name = v over any heap: L is any namespace of the heap (the frame's, say): its map stays, its object is not told; all else but the dict stays -/
theorem set_field {x C dx L : Addr} {ox : Obj} {m : Str → Option Value} {es es' : List DictEntry} {n n' : Nat} {name : Str} {v : Value} {Q : Unit → Shared → Prop}
    (X : K.In s.heap) (I : PySem.W.InstAt s.heap x ox C (some (dictOf es n))) (hd : ox.dict = some dx) (hL : s.heap.Ns L m) (hne : dx ≠ L)
    (hs : findIn K (.ref C) "__setattr__" = some (some (.builtin "object.__setattr__"))) (hp : plainOver K C = true) (ht : takerIn K C name = some none) (hh : hasDictIn K C = true) (hl : (getL name es).isSome = true)
    (e : (putL name (PyData.keyHash w.params name) (.str name (s.toks + 1)) v es, putN name es n) = (es', n')) (hz : es'.length ≤ 1000)
    (h : ∀ h' : Heap, h'.Ns L m → h'.get? dx = some (dictOf es' n') → (∀ b o, b ≠ dx → b ≠ L → s.heap.get? b = some o → h'.get? b = some o) → Q () { s with heap := h', toks := s.toks + 2 }) :
    wpAny (model prog w) A (setAttr (.ref x) name v) Q E s := by
  obtain ⟨e1, e2⟩ := Prod.mk.inj e
  have hdx : s.heap.get? dx = some (dictOf es n) := by
    have := I.dict
    rw [hd] at this
    exact this
  refine set_plain X I hs (osa_dict (s := { s with toks := s.toks + 1 }) (h₀ := noObjs s.heap) (L := L) (m := m) (od := dictOf es n) (od' := dictOf es' n') (es := es') (n := n') (pre := []) (post := ledger s.heap L dx)
    (fr_all hL) (news_ledger hne hdx) X I hd hp ht hh hl (fun _ q => nomatch q) (fun ⟨_, _⟩ q => (mem_ledger.mp q).2.1) (by rw [putName_dict, e1, e2]) rfl hz fun h' F' N' => ?_)
  exact h h' F'.ns (N'.get (List.Mem.head _)) fun b o n1 n2 ho => N'.get (List.Mem.tail _ (mem_ledger.mpr ⟨n2, n1, ho⟩))
end
end Att

namespace L2
open PySem PySem.Spec PyProof.Rows

theorem vals_ints : ∀ {vs : List Value} {ns : List Int}, IntsAre vs ns → Vals (ns.map V.int) vs
  | _, _, .nil => .nil
  | _, _, .cons n t h => .cons ⟨t, rfl⟩ (vals_ints h)

/-- nothing is tracked but the script, known to the object (or it is an object of the module) -/
def Only (H : Hp) : Prop := ∀ b, H b = none ∨ ∃ o xs, H b = some (.frz o (.lst xs))

/-- THE HEAD: the law's promise, at the heap behind the top. F, the promise of the law's def, may use that base is part of the heap (so K.In base, base.Ns mainGlobals mg stand in Mod) -/
theorem law_call {P : Program} {w : World} {K : PySem.W.Frag} {mg mb : Str → Option Value} {CX : CXT} {k : Nat} {fa a : Addr} {fd : FuncData} {x : Str} {sp : Sp} {s₁ : Shared} {vs : List Value} {ns : List Int}
    (KX : K.In s₁.heap) (hns : s₁.heap.Ns mainGlobals mg) (hb : s₁.heap.Ns builtinsNs mb) (hbb : ∀ x : Str, x ≠ "__name__" → mb x = bootBuiltins x) (hlim : s₁.heap.NoLimit) (hg : s₁.gens = #[])
    (ha : s₁.heap.get? a = some { cls := .type "list", data := .seq vs.toArray }) (hi : IntsAre vs ns) (hl : ns.length ≤ sizeLine) (hr : Room k callerA)
    (F : ∀ base : Heap, K.In base → base.Ns mainGlobals mg → FnOk P w K mg base CX k fa fd [x] sp) (hbind : ∀ (s : Shared) (u : Value), BindsTo s fd ⟨[u], []⟩ [(x, u)])
    (hsp : ∀ H : Hp, Only H → SqL K H a (ns.map V.int) → sp [.ref a] H (fun v _ => v = .bl true) fun _ _ _ => False)
    (hCX : ∀ H e s', CX [] H s₁ (fun _ _ _ => False) e s' → False) :
    codeAny (model P w) callerA (.call (.ref fa) ⟨[.ref a], []⟩) (fun r s' => r = .ok (.ret (.bool true)) ∧ OldK s₁.heap s'.heap ∧ s'.os = s₁.os ∧ AllBare s'.gens) s₁ := by
  have rv := vals_ints hi
  have lenV := hi.length
  -- from an abstract heap in which nothing but the script may be tracked
  have core : ∀ H : Hp, Only H → SqL K H a (ns.map V.int) → HOk P w H s₁.heap → (∀ b, H b ≠ none → b = a) → (H a ≠ none → K.lookup a = none) →
      codeAny (model P w) callerA (.call (.ref fa) ⟨[.ref a], []⟩) (fun r s' => r = .ok (.ret (.bool true)) ∧ OldK s₁.heap s'.heap ∧ s'.os = s₁.os ∧ AllBare s'.gens) s₁ := by
    intro H hO hS hok hA hK
    have base_of : ∀ {b : Addr} {o : Obj}, s₁.heap.get? b = some o → H b = none → (hidT s₁.heap H).get? b = some o := fun e n => hidT_get e n
    have noA : ∀ {b : Addr} {o : Obj} {es : Array DictEntry} {ep : Nat}, s₁.heap.get? b = some o → o.data = .dict es ep → H b = none := fun {b o es ep} e d => by
      cases q : H b with
      | none => rfl
      | some u =>
        have e' : b = a := hA b (by rw [q]; simp)
        subst e'
        rw [ha] at e; cases e
        have d' : Data.seq vs.toArray _ = Data.dict es ep := d
        cases d'
    have nsK : ∀ {b : Addr} {m : Str → Option Value}, s₁.heap.Ns b m → (hidT s₁.heap H).Ns b m := fun {b m} ⟨o, es, ep, e, d, r⟩ => ⟨o, es, ep, base_of e (noA e d), d, r⟩
    have hKb : K.In (hidT s₁.heap H) := fun b o e => base_of (KX b o e) (by
      cases q : H b with
      | none => rfl
      | some u =>
        have e' : b = a := hA b (by rw [q]; simp)
        subst e'
        rw [hK (by rw [q]; simp)] at e; cases e)
    have hM : Mod K mg (hidT s₁.heap H) := ⟨hKb, nsK hns, ⟨mb, nsK hb, hbb⟩, let ⟨mc, h1, h2⟩ := hlim; ⟨mc, nsK h1, h2⟩⟩
    have e0 : Env0 P w K mg (hidT s₁.heap H) callerA [] s₁ H := ⟨rfl, hM, fun b o e => of_hidT e, Nat.le_of_eq (hidT_size _ _), trivial, fun b hb => absurd (show b ∈ ([] : List Addr) from hb) (by simp), hok, .of_eq hg⟩
    refine codeAny_mono ((F _ hKb (nsK hns)).run callerA [] s₁ H ⟨[.ref a], []⟩ [.ref a] [.ref a] _ _ hr e0 (hbind s₁ (.ref a)) (.cons rfl .nil) (hsp H hO hS)) fun r s' h => ?_
    cases r with
    | error e => exact (hCX H e s' h).elim
    | ok fl =>
      cases fl with
      | next => exact False.elim h
      | brk => exact False.elim h
      | cont => exact False.elim h
      | ret u =>
        obtain ⟨v, H', os, bare, un, hok', r', q⟩ := h
        have q' : v = .bl true := q
        subst q'
        obtain rfl : u = Value.bool true := r'
        refine ⟨rfl, OldK.of_keep fun b o e => ?_, os, bare⟩
        cases q : H b with
        | none => exact un.keep b o e q (by intro z; exact absurd (show b ∈ ([] : List Addr) from z) (by simp)) (by simp)
        | some u =>
          rcases hO b with z | ⟨ob, xs, z⟩
          · rw [q] at z; cases z
          · have z2 := un.frzs b ob _ z
            obtain ⟨e1, _⟩ := hok b _ z
            obtain ⟨e2, _⟩ := hok' b _ z2
            rw [e] at e1; cases e1
            exact e2
  cases hk : K.lookup a with
  | some o =>
    -- the script is one of the module's own objects
    have e := KX a o hk
    rw [ha] at e
    cases e
    refine core (fun _ => none) (fun _ => .inl rfl) (.inr ⟨_, vs.toArray, _, hk, rfl, rfl, rfl, by rw [List.size_toArray, lenV]; exact hl, by simpa using rv⟩) (fun b u z => by have z' : (none : Option HO) = some u := z; cases z') (fun b z => absurd rfl z) fun z => absurd rfl z
  | none =>
    refine core (fun b => if b = a then some (.frz { cls := .type "list", data := .seq vs.toArray } (.lst (ns.map V.int))) else none) (fun b => ?_) (.inl (.inr ⟨{ cls := .type "list", data := .seq vs.toArray }, if_pos rfl⟩)) (fun b u z => ?_) (fun b z => ?_) fun _ => hk
    · by_cases hb : b = a
      · exact .inr ⟨_, _, if_pos hb⟩
      · exact .inl (if_neg hb)
    · by_cases hb : b = a
      · have z' := (if_pos hb).symm.trans z
        cases z'
        subst hb
        exact ⟨ha, by rw [List.length_map]; exact hl, vs, _, rv, ha⟩
      · have z' := (if_neg hb).symm.trans z
        cases z'
    · by_cases hb : b = a
      · exact hb
      · exact absurd (if_neg hb) z
end L2

namespace L2
open PySem PySem.Spec PyProof.Rows

abbrev KOf {K : PySem.W.Frag} {h : Heap} (_ : K.In h) : PySem.W.Frag := K

/-- the goal that k_head leaves (case hc), from the law's promise. F gives the function object fd (K's own) once, then the promise over every base -/
theorem walk_of {l : PySem.W.OpenLaw} {n k : Nat} {q : Program} {loose : List Str} {XP : (Str → Option Value) → Heap → Prop} {YP : World → Heap → Prop} {d : DefRec} {K : Params → PySem.W.Frag} {CX : World → CXT} {sp : World → Sp} {x : Str}
    (hn : l.most = some n) (hn2 : n ≤ sizeLine) (hdf : d.params.defaults = []) (hr : Room k callerA)
    (hY : ∀ (w : World) (h : Heap), YP w h → (K w.params).In h)
    (F : ∀ (w : World) (mg : Str → Option Value) (fa : Addr) (h : Heap), (K w.params).In h → h.Ns mainGlobals mg → mg d.name = some (.ref fa) →
      ∃ fd : FuncData, (∀ (s : Shared) (u : Value), BindsTo s fd ⟨[u], []⟩ [(x, u)]) ∧
        ∀ base : Heap, (K w.params).In base → base.Ns mainGlobals mg → FnOk l.prog w (K w.params) mg base (CX w) k fa fd [x] (sp w))
    (hsp : ∀ (w : World) (H : Hp) (a : Addr) (ns : List Int), ns.length ≤ n → Only H → SqL (K w.params) H a (ns.map V.int) → sp w [.ref a] H (fun v _ => v = .bl true) fun _ _ _ => False)
    (hCX : ∀ (w : World) (H : Hp) (s : Shared) (e : Value) (s' : Shared), CX w [] H s (fun _ _ _ => False) e s' → False) :
    PySem.W.WalkO q loose XP YP l.row.toRowW d [] (fun f vs => PySem.call f vs) := by
  refine Att.attach_call hn hdf fun w s₀ s₁ mg mb fa o pm cd doc a vs ns G Y ho hd hcd hmg hobj hints hlen hg => ?_
  have KX := hY w _ Y
  obtain ⟨fd, hb, hF⟩ := F w mg fa _ KX G.T.g hmg
  exact law_call KX G.T.g G.T.b G.T.builtins G.T.nolimit hg hobj hints (Nat.le_trans hlen hn2) hr hF hb (fun H hO hS => hsp w H a ns hlen hO hS) fun H e s' => hCX w H s₁ e s'
/-- the same where the promise hangs on the written part alone: (sp := My.sp_law), no hole under a binder -/
theorem walk_ofK {l : PySem.W.OpenLaw} {n k : Nat} {q : Program} {loose : List Str} {XP : (Str → Option Value) → Heap → Prop} {YP : World → Heap → Prop} {d : DefRec} {K : Params → PySem.W.Frag} {CX : CXT} {sp : PySem.W.Frag → Sp} {x : Str}
    (hn : l.most = some n) (hn2 : n ≤ sizeLine) (hdf : d.params.defaults = []) (hr : Room k callerA)
    (hY : ∀ (w : World) (h : Heap), YP w h → (K w.params).In h)
    (F : ∀ (w : World) (mg : Str → Option Value) (fa : Addr) (h : Heap), (K w.params).In h → h.Ns mainGlobals mg → mg d.name = some (.ref fa) →
      ∃ fd : FuncData, (∀ (s : Shared) (u : Value), BindsTo s fd ⟨[u], []⟩ [(x, u)]) ∧
        ∀ base : Heap, (K w.params).In base → base.Ns mainGlobals mg → FnOk l.prog w (K w.params) mg base CX k fa fd [x] (sp (K w.params)))
    (hsp : ∀ (K : PySem.W.Frag) (H : Hp) (a : Addr) (ns : List Int), ns.length ≤ n → Only H → SqL K H a (ns.map V.int) → sp K [.ref a] H (fun v _ => v = .bl true) fun _ _ _ => False)
    (hCX : ∀ (H : Hp) (s : Shared) (e : Value) (s' : Shared), CX [] H s (fun _ _ _ => False) e s' → False) :
    PySem.W.WalkO q loose XP YP l.row.toRowW d [] (fun f vs => PySem.call f vs) :=
  walk_of (K := K) (CX := fun _ => CX) (sp := fun w => sp (K w.params)) hn hn2 hdf hr hY F (fun w H a ns h1 h2 h3 => hsp (K w.params) H a ns h1 h2 h3) fun _ H s e s' => hCX H s e s'
end L2

/- THE LAST THEOREM (shape; LID, My.* are yours):
   My.Adr: a structure of the addresses that your layer names (classes, functions); My.Txt K t: a structure (Prop) of the equations over K;
   My.txt_mk : {K} {implicit addresses ..} (e1 : nsIn K mainGlobals "law" = some (some (.ref f))) (e2 : K.lookup f = some ⟨oc, od, .func (fnOf "law" "law" params body scope dV kV doc pm an cdv ct), sl⟩) (e3 : codeIn K cdv "law" = true) .. : ∃ t, My.Txt K t

set_option maxRecDepth 100000 in
set_option maxHeartbeats 0 in
theorem PySem.Challenge.cw_LID_holds : PySem.Challenge.rw_LID.Holds := by
  w_on; o_law; k_head; (case hw => w_witness2)
  k_fill
  refine L2.walk_of (l := PySem.Challenge.rw_LID) (n := 63) (k := 40) (x := "script") (CX := fun w => ..) (sp := fun _ => My.sp_law) rfl (by decide) rfl ⟨rfl, by decide, by decide⟩ (fun w h Y => PySem.W.kIn_of Y) ?F ?S ?C
  case F =>
    intro w mg fa h KX G hmg
    have T : ∃ t, My.Txt (L2.KOf KX) t := by
      dsimp only [L2.KOf]                          -- K must stand as «<heap const> w.params» for k_is
      refine' My.txt_mk ?e1 ?e2 ?e3 ..
      (case e1 => PySem.W.k_is)                    -- in the order: a name -> its address -> its object -> its parts
      (case e2 => PySem.W.k_is)
      ..
    obtain ⟨t, T⟩ := T
    have e0 := hmg.symm.trans (PySem.W.mg_of KX G T.law)
    cases e0                                       -- fa is the law's own address
    exact ⟨_, fun s u => .of_eq rfl, fun base kb nb => My.law_fn T kb nb⟩     -- if «.of_eq rfl» comes too early: refine' ⟨_, ?b, fun base kb nb => My.law_fn T kb nb⟩; exact fun s u => .of_eq rfl
  case S => exact fun w H a ns hl hO hS => ..
  case C => exact ..
(the tactic k_is has no namespace: write k_is) -/

/-! SHORT WORDS over the layer: a def of the text, its body, what a loop and a test want. -/
namespace L2
open PySem PySem.Spec PyProof.Rows

/-! ### the text by places -/
/-- the j-th statement of a class's body -/
def inClass (s : Stmt) (j : Nat) : Stmt := match s with
  | .ClassDef _ _ _ body _ _ _ _ _ _ _ => body.getD j (.Pass ⟨0, 0, 0, 0⟩)
  | _ => .Pass ⟨0, 0, 0, 0⟩
def defArgs (s : Stmt) : Arguments := match s with
  | .FunctionDef _ a _ _ _ _ _ _ _ _ => a
  | _ => { posonlyargs := [], args := [], vararg := none, kwonlyargs := [], kw_defaults := [], kwarg := none, defaults := [] }
def defBody (s : Stmt) : List Stmt := match s with
  | .FunctionDef _ _ b _ _ _ _ _ _ _ => b
  | _ => []
def defScope (s : Stmt) : Scope := match s with
  | .FunctionDef _ _ _ _ _ _ sc _ _ _ => sc
  | _ => { kind := .function, names := [], isGenerator := false, isCoroutine := false }

/-! ### no exception leaves a def -/
abbrev CX0 : CXT := fun _ _ _ _ _ _ => False
abbrev E0 : XK := fun _ _ _ => False
theorem pass0 {X : Cx} : Passes CX0 X E0 := fun _ _ _ _ _ _ _ h => h.elim

/-! ### a def (or method) of the text as it stands behind the top -/
structure Fun (K : PySem.W.Frag) (x qual : Str) (st : Stmt) (f : Addr) (fd : FuncData) : Prop where
  ex : ∃ (oc : Value) (od : Option Addr) (kV doc pm : Value) (an : Option Addr) (cdv ct : Value) (osl : Array (Option Value)),
    fd = PySem.W.fnOf x qual (defArgs st) (defBody st) (defScope st) .none kV doc pm an cdv ct ∧ K.lookup f = some ⟨oc, od, .func fd, osl⟩ ∧ PySem.W.codeIn K cdv qual = true
  kp : PySem.W.keepIn K (.ref f) = true
section
variable {P : Program} {w : World} {K : PySem.W.Frag} {mg : Str → Option Value} {base : Heap}
/-- THE RULE for a def: its body as a term of rules, and the reading of that term -/
theorem Fun.ok {x qual : Str} {st : Stmt} {f : Addr} {fd : FuncData} {N ps : List Str} {k : Nat} {sp : Sp} (F : Fun K x qual st f fd) (S : FnScope N ps (defScope st)) (len : ∀ vs H Q E, sp vs H Q E → vs.length = ps.length)
    (hbody : ∀ (cdv : Value) (A : Around) (outer : List Env) (s : Shared) (H : Hp) (vs : List V) (Q : VK) (E : XK), Room k (A.deeper (envOfC qual (defScope st) s.heap.objs.size f cdv)) → sp vs H Q E →
      ∃ t, PSs (cxOf CX0 P w K mg base N qual (defScope st) f cdv A outer s H E).nox (defBody st) t ∧ t { nx := fun _ H' => Q .non H', rt := Q } (start N vs) H) : FnOk P w K mg base CX0 (k + 1) f fd ps sp := by
  obtain ⟨oc, od, kV, doc, pm, an, cdv, ct, osl, rfl, lk, hcd⟩ := F.ex
  refine fn_of lk hcd S len fun A outer s H vs Q E hr hsp => ?_
  obtain ⟨t, h, q⟩ := hbody cdv A outer s H vs Q E hr hsp
  exact ⟨t, h.nox, q⟩
/-- how its arguments bind (no defaults): h is «fun _ _ _ _ _ _ us hl => match us, hl with | [_, _], _ => rfl», one _ a parameter -/
theorem Fun.binds {x qual : Str} {st : Stmt} {f : Addr} {fd : FuncData} {ps : List Str} (F : Fun K x qual st f fd)
    (h : ∀ (kV doc pm : Value) (an : Option Addr) (cdv ct : Value) (us : List Value), us.length = ps.length → bindArgs (PySem.W.fnOf x qual (defArgs st) (defBody st) (defScope st) .none kV doc pm an cdv ct) ⟨us, []⟩ = pure (ps.zip us)) : Binds K fd ps [] := by
  obtain ⟨oc, od, kV, doc, pm, an, cdv, ct, osl, rfl, lk, hcd⟩ := F.ex
  exact .all (h kV doc pm an cdv ct)
theorem fun_mk {x qual : Str} {st : Stmt} {f : Addr} {oc : Value} {od an : Option Addr} {osl : Array (Option Value)} {kV doc pm cdv ct : Value} (l : K.lookup f = some ⟨oc, od, .func (PySem.W.fnOf x qual (defArgs st) (defBody st) (defScope st) .none kV doc pm an cdv ct), osl⟩)
    (c : PySem.W.codeIn K cdv qual = true) (k : PySem.W.keepIn K (.ref f) = true) : Fun K x qual st f (PySem.W.fnOf x qual (defArgs st) (defBody st) (defScope st) .none kV doc pm an cdv ct) := ⟨⟨oc, od, kV, doc, pm, an, cdv, ct, osl, rfl, l, c⟩, k⟩
end
theorem hu_of {A : Around} {k : Nat} (hr : Room k A) : A.units + 1 < cLine := Nat.lt_of_le_of_lt (Nat.add_le_add_left (by decide : 1 ≤ 64) _) hr.units
theorem small1000 {n : Nat} (h : n ≤ 1000) : n < sizeLine := Nat.lt_of_le_of_lt h (by decide)

/-! ### expressions in short: the name that stands in the i-th slot -/
section
variable {X : Cx}
theorem pv (i : Nat) {x : Str} {pos : Pos} (hN : X.N[i]? = some x := by rfl) (hv : Vis X.env.scope x := by first | exact Or.inl rfl | exact Or.inr (Or.inl rfl) | exact Or.inr (Or.inr rfl)) (hd : (x == ("__debug__" : Str)) = false := by decide)
    (hcd : (x == ("__classdict__" : Str)) = false := by decide) : PE X (.Name x pos) (tVar i) := pe_var hN hv hd hcd
end

/-! ### tests -/
theorem iteF {A B : Prop} (h : B) : if false = true then A else B := by
  rw [if_neg Bool.false_ne_true]
  exact h
theorem iteT {A B : Prop} (h : A) : if true = true then A else B := by
  rw [if_pos rfl]
  exact h
theorem ite2 {c A B : Prop} [Decidable c] (h1 : c → A) (h2 : ¬ c → B) : if c then A else B := by
  by_cases h : c
  · rw [if_pos h]
    exact h1 h
  · rw [if_neg h]
    exact h2 h
theorem iteNS {c A B : Prop} [Decidable c] (hc : c) (h : B) : if (!decide c) = true then A else B := by
  rw [decide_eq_true hc]
  exact iteF h

/-! ### heaps -/
/-- all that was tracked is as it was -/
def Same (H H' : Hp) : Prop := ∀ b o, H b = some o → H' b = some o
theorem Same.refl (H : Hp) : Same H H := fun _ _ h => h
theorem Same.trans {H H1 H2 : Hp} (a : Same H H1) (b : Same H1 H2) : Same H H2 := fun c o h => b c o (a c o h)
theorem Same.free {H H' : Hp} (e : Same H H') {l : Addr} (h : H' l = Option.none) : H l = Option.none := by
  cases q : H l with
  | none => rfl
  | some o =>
    rw [e l o q] at h
    cases h
theorem Same.seq {K : PySem.W.Frag} {H H' : Hp} {a : Addr} {xs : List V} (e : Same H H') (h : SqL K H a xs) : SqL K H' a xs := by
  rcases h with (h | ⟨o, h⟩) | h
  · exact .inl (.inl (e _ _ h))
  · exact .inl (.inr ⟨o, e _ _ h⟩)
  · exact .inr h

end L2

namespace L2
open PySem PySem.Spec PyProof.Rows
section
variable {X : Cx}
theorem call_lenD : CallR X (.builtin "len") (fun xs H Q => ∃ a kvs, xs = [V.ref a] ∧ H a = some (.dK kvs) ∧ Q (.int kvs.length) H) := by
  intro pins s σ H xs us Q I r h
  obtain ⟨a, kvs, rfl, ha, q⟩ := h
  obtain ⟨u, rfl, ru⟩ := vals1 r
  cases ru
  exact d_len I (.inl ha) fun t s' I' => ⟨.int kvs.length, H, I', ⟨t, rfl⟩, q⟩
end
/-! ### a dict's pairs: keys that differ -/
section
variable {κ : Type} [DecidableEq κ]
theorem valV_not {kvs : List (κ × V)} {k : κ} (h : valV kvs k = none) : ¬ k ∈ kvs.map (·.1) := by
  intro m
  obtain ⟨p, hp, e⟩ := List.mem_map.mp m
  have q : (kvs.any fun kv => decide (kv.1 = k)) = true := List.any_eq_true.mpr ⟨p, hp, decide_eq_true e⟩
  rw [valV_any, h] at q
  exact absurd q (by simp)
theorem valV_in {kvs : List (κ × V)} {k : κ} {v : V} (h : valV kvs k = some v) : k ∈ kvs.map (·.1) := by
  have q : (kvs.any fun kv => decide (kv.1 = k)) = true := by
    rw [valV_any, h]
    all_goals rfl
  obtain ⟨p, hp, e⟩ := List.any_eq_true.mp q
  exact List.mem_map.mpr ⟨p, hp, of_decide_eq_true e⟩
theorem nd_snoc : ∀ {l : List κ} {k : κ}, l.Nodup → ¬ k ∈ l → (l ++ [k]).Nodup
  | [], k, _, _ => by simp
  | a :: r, k, h, hk => by
    obtain ⟨h1, h2⟩ := List.nodup_cons.mp h
    show (a :: (r ++ [k])).Nodup
    refine List.nodup_cons.mpr ⟨fun m => ?_, nd_snoc h2 fun m => hk (List.mem_cons.mpr (Or.inr m))⟩
    rcases List.mem_append.mp m with q | q
    · exact h1 q
    · exact hk (List.mem_cons.mpr (Or.inl (List.mem_singleton.mp q).symm))
theorem nd_putK {kvs : List (κ × V)} {k : κ} (v : V) (hn : (kvs.map (·.1)).Nodup) (h : valV kvs k = none) : ((putK kvs k v).map (·.1)).Nodup := by
  rw [putK_new v h, List.map_append]
  exact nd_snoc hn (valV_not h)
theorem dropK_pos {p : κ × V} {r : List (κ × V)} {k : κ} (e : p.1 = k) : dropK (p :: r) k = dropK r k := by
  unfold dropK
  rw [List.filter_cons, if_neg (by simp [e])]
theorem dropK_neg {p : κ × V} {r : List (κ × V)} {k : κ} (e : ¬ p.1 = k) : dropK (p :: r) k = p :: dropK r k := by
  unfold dropK
  rw [List.filter_cons, if_pos (by simp [e])]
theorem dropK_no : ∀ {kvs : List (κ × V)} {k : κ}, ¬ k ∈ kvs.map (·.1) → dropK kvs k = kvs
  | [], _, _ => rfl
  | p :: r, k, h => by
    have h' : ¬ k ∈ r.map (·.1) := fun m => by
      obtain ⟨q, hq, e⟩ := List.mem_map.mp m
      exact h (List.mem_map.mpr ⟨q, List.mem_cons.mpr (Or.inr hq), e⟩)
    rw [dropK_neg fun e => h (List.mem_map.mpr ⟨p, List.mem_cons.mpr (Or.inl rfl), e⟩), dropK_no h']
theorem dropK_mem {kvs : List (κ × V)} {k : κ} {p : κ × V} (h : p ∈ dropK kvs k) : p ∈ kvs := (List.mem_filter.mp h).1
theorem nd_dropK : ∀ {kvs : List (κ × V)} {k : κ}, (kvs.map (·.1)).Nodup → ((dropK kvs k).map (·.1)).Nodup
  | [], _, _ => List.nodup_nil
  | p :: r, k, h => by
    have h : (p.1 :: r.map (·.1)).Nodup := h
    obtain ⟨h1, h2⟩ := List.nodup_cons.mp h
    by_cases e : p.1 = k
    · rw [dropK_pos e]
      exact nd_dropK h2
    · rw [dropK_neg e]
      show (p.1 :: (dropK r k).map (·.1)).Nodup
      refine List.nodup_cons.mpr ⟨fun m => h1 ?_, nd_dropK h2⟩
      obtain ⟨q, hq, eq⟩ := List.mem_map.mp m
      exact List.mem_map.mpr ⟨q, dropK_mem hq, eq⟩
theorem dropK_len : ∀ {kvs : List (κ × V)} {k : κ}, (kvs.map (·.1)).Nodup → k ∈ kvs.map (·.1) → (dropK kvs k).length + 1 = kvs.length
  | [], _, _, m => by simp at m
  | p :: r, k, h, m => by
    have h : (p.1 :: r.map (·.1)).Nodup := h
    have m : k = p.1 ∨ k ∈ r.map (·.1) := List.mem_cons.mp m
    obtain ⟨h1, h2⟩ := List.nodup_cons.mp h
    by_cases e : p.1 = k
    · subst e
      rw [dropK_pos rfl, dropK_no h1]
      all_goals rfl
    · have m' : k ∈ r.map (·.1) := m.resolve_left fun z => e z.symm
      have q := dropK_len h2 m'
      rw [dropK_neg e, List.length_cons, List.length_cons]
      omega
end
end L2

set_option Elab.async false
set_option linter.all false
set_option maxRecDepth 100000
set_option maxHeartbeats 4000000
/-! Further rules of our own over the hand layer: signs of a text, comprehensions, all, isinstance, deep ==, text and dict methods. -/
namespace L2
open PySem PySem.Spec PyProof.Rows

/-! ### a walk over a text's signs -/
def Its (z : Str) : It := ⟨fun i _ => i < z.cps.size, fun i H x H' => H' = H ∧ ∃ c, z.cps[i]? = some c ∧ x = .str ⟨#[c]⟩, fun i _ => i = z.cps.size⟩
theorem walks_str {prog : Program} {w : World} {A : Around} (hh : A.handled = none) (I : Addr) (x : Str) (t : Tok) :
    Walks prog w A I [I] [I] x.cps.size (SignAt x) (fun i h => h.IsStrIter I (strIterType x) x t i) := by
  unfold strIterType
  cases x.cps.all (· < 128) with
  | true => exact Walks.strAscii hh I x t
  | false => exact Walks.strWide hh I x t
theorem strIter_plain (x : Str) : ["enumerate", "zip", "dict_itemiterator", "dict_reverseitemiterator", "odict_iterator", "itertools.zip_longest", "itertools.pairwise"].contains (strIterType x) = false := by
  unfold strIterType
  cases x.cps.all (· < 128) with
  | true => decide
  | false => decide
theorem turn_str {P : Program} {w : World} {K : PySem.W.Frag} {tg : Expr} (it : Addr) (z : Str) (t : Tok) : Turn P w K tg (Its z) [it] it (fun i h => h.IsStrIter it (strIterType z) z t i) where
  mem := by simp
  obj := fun i h st b hb => by
    have e : b = it := by simpa using hb
    subst e
    obtain ⟨o, e, c, d⟩ := st
    exact ⟨o, e, fun v z => by rw [d] at z; cases z⟩
  keep := fun i h h' st k => by
    obtain ⟨o, e, r⟩ := st
    exact ⟨o, k it (by simp) o e, r⟩
  item := by
    intro X hP hw hK hc i pins s σ H E I hf st hg
    subst hP hw hK
    obtain ⟨f0, f1, f2, f3, f4, f5⟩ := hf it (by simp)
    have W := walks_str (prog := X.prog) (w := X.w) (I.ok.hd hc) it z t
    refine W.item i s _ _ hg st fun v h' tk hv st' kk => ?_
    obtain ⟨c, u, hc', rfl⟩ := hv
    have I1 : Inv X pins σ H { s with heap := h', toks := tk } := I.turned (fun b o hb e => kk b o (by simpa using hb) e) f0 f1 f3 f4 f5
    obtain ⟨o, e, c1, d1⟩ := id st'
    exact ⟨_, rfl, go_of (s := { s with heap := h', toks := tk }) e c1 d1 (strIter_plain z) ⟨.str ⟨#[c]⟩, H, I1, ⟨u, rfl⟩, ⟨rfl, c, hc', rfl⟩, st', fun b hb => (hf b hb).1⟩⟩
  done := by
    intro X hP hw hK hc i pins s σ H E I hf st hg
    subst hP hw hK
    obtain ⟨f0, f1, f2, f3, f4, f5⟩ := hf it (by simp)
    have W := walks_str (prog := X.prog) (w := X.w) (I.ok.hd hc) it z t
    have e : i = z.cps.size := hg
    subst e
    exact W.done s _ _ st fun h' tk kk => ⟨rfl, I.turned (fun b o hb e => kk b o (by simpa using hb) e) f0 f1 f3 f4 f5⟩
  self := fun A i s Q E st h => by
    unfold strIterType at st
    cases hx : z.cps.all (· < 128) with
    | true => rw [hx] at st; exact wpAny_pyIter_striter_ascii st h
    | false => rw [hx] at st; exact wpAny_pyIter_striter_wide st h
section
variable {X : Cx} {tg : Expr}
def iStr (tl : TE) : TI := fun σ H R => tl σ H fun x H1 => ∃ z, x = .str z ∧ R (Its z) H1
theorem pi_str {l : Expr} {tl : TE} (hl : PE X l tl) : PI X tg l (iStr tl) := by
  intro pins s σ H R I h
  refine thn (hl pins s σ H _ I h) fun v s1 ⟨x, H1, I1, r1, q1⟩ => ?_
  obtain ⟨z, e, q⟩ := q1
  subst e
  obtain ⟨t, rfl⟩ := r1
  refine wpAny_pyIter_strU ?_
  have I2 : Inv X pins σ H1 { s1 with heap := s1.heap.push { cls := .type (strIterType z), data := .fields #[.str z t, .int 0 0] } } := I1.kept (t' := s1.toks) fun b o e => Heap.get?_push_of_some _ e
  refine ⟨s1.heap.objs.size, [s1.heap.objs.size], _, Its z, H1, rfl, I2, turn_str s1.heap.objs.size z t, ⟨_, Heap.get?_push_size _ rfl, rfl, rfl⟩, fun b hb => ?_, q⟩
  have e : b = s1.heap.objs.size := by simpa using hb
  subst e
  exact I1.fpOk (Nat.le_refl _) (I1.hok.fresh (Nat.le_refl _))
end

/-! ### a comprehension -/
/-- the names that a comprehension takes from around it -/
def frees (scope : Scope) : List Str := (scope.names.filter fun p => p.2 == .free).map (·.1)
def clOf (scope : Scope) (env : Env) : List (Str × Addr) := (frees scope).reverse.map fun n => (n, (env.cells.lookup n).getD 0)
theorem clos_go (env : Env) : ∀ (names : List (Str × NameKind)) (cs : List (Str × Addr)), (∀ n ∈ (names.filter fun p => p.2 == .free).map (·.1), ∃ c, env.cells.lookup n = some c) →
    (forIn names cs fun (x : Str × NameKind) (r : List (Str × Addr)) => (if x.2 == .free then do let c ← cellOf env x.1; pure (ForInStep.yield ((x.1, c) :: r)) else pure (ForInStep.yield r) : Sem (ForInStep (List (Str × Addr))))) =
      pure ((((names.filter fun p => p.2 == .free).map (·.1)).reverse.map fun n => (n, (env.cells.lookup n).getD 0)) ++ cs)
  | [], cs, _ => rfl
  | (n, k) :: r, cs, h => by
    rw [List.forIn_cons]
    cases hk : (k == NameKind.free) with
    | false =>
      have h' : ∀ m ∈ (r.filter fun p => p.2 == .free).map (·.1), ∃ c, env.cells.lookup m = some c := fun m hm => h m (by simpa [List.filter_cons, hk] using hm)
      have ih := clos_go env r cs h'
      simp only [hk, Bool.false_eq_true, if_false, List.filter_cons, pure_bind]
      exact ih
    | true =>
      obtain ⟨c, hc⟩ := h n (by simp [List.filter_cons, hk])
      have h' : ∀ m ∈ (r.filter fun p => p.2 == .free).map (·.1), ∃ c, env.cells.lookup m = some c := fun m hm => h m (by
        simp only [List.filter_cons, hk, if_true, List.map_cons]
        exact List.mem_cons_of_mem _ hm)
      have ih := clos_go env r ((n, c) :: cs) h'
      have ec : cellOf env n = pure c := by unfold cellOf; rw [hc]
      simp only [hk, if_true, List.filter_cons, List.map_cons, List.reverse_cons, List.map_append, List.map_nil, List.append_assoc, List.cons_append, List.nil_append, ec, pure_bind, hc, Option.getD_some]
      exact ih
theorem closureFor_some {scope : Scope} {env : Env} (h : ∀ n ∈ frees scope, ∃ c, env.cells.lookup n = some c) : closureFor scope env = pure (clOf scope env) := by
  have e := clos_go env scope.names [] h
  rw [List.append_nil] at e
  have q : closureFor scope env = ((forIn scope.names ([] : List (Str × Addr)) fun (x : Str × NameKind) (r : List (Str × Addr)) => (if x.2 == .free then do let c ← cellOf env x.1; pure (ForInStep.yield ((x.1, c) :: r)) else pure (ForInStep.yield r) : Sem (ForInStep (List (Str × Addr))))) >>= fun r => pure r) := rfl
  rw [q, bind_pure]
  exact e
theorem lookup_pairs {β : Type} (g : Str → β) (y : Str) : ∀ l : List Str, (l.map fun n => (n, g n)).lookup y = if y ∈ l then some (g y) else none
  | [] => by simp
  | n :: r => by
    have ih := lookup_pairs g y r
    rw [List.map_cons, List.lookup_cons]
    cases e : (y == n) with
    | true =>
      have e' : y = n := eq_of_beq e
      subst e'
      simp
    | false =>
      have e' : y ≠ n := fun q => by rw [q] at e; simp at e
      show (r.map fun n => (n, g n)).lookup y = _
      rw [ih]
      simp [e']
theorem clOf_lookup {scope : Scope} {env : Env} (h : ∀ n ∈ frees scope, ∃ c, env.cells.lookup n = some c) {y : Str} {c : Addr} : (clOf scope env).lookup y = some c ↔ y ∈ frees scope ∧ env.cells.lookup y = some c := by
  unfold clOf
  rw [lookup_pairs (fun n => (env.cells.lookup n).getD 0)]
  by_cases hy : y ∈ frees scope
  · obtain ⟨d, hd⟩ := h y hy
    rw [if_pos (List.mem_reverse.mpr hy), hd]
    simp [hy]
  · rw [if_neg fun q => hy (List.mem_reverse.mp q)]
    simp [hy]
theorem lookup_kinds (f : Str → NameKind → NameKind) (y : Str) : ∀ names : List (Str × NameKind), (names.map fun p => (p.1, f p.1 p.2)).lookup y = (names.lookup y).map (f y)
  | [] => rfl
  | (n, k) :: r => by
    have ih := lookup_kinds f y r
    rw [List.map_cons, List.lookup_cons, List.lookup_cons]
    cases e : (y == n) with
    | true =>
      have e' : y = n := eq_of_beq e
      subst e'
      rfl
    | false => exact ih
theorem relabel_lookup (scope : Scope) (env : Env) (y : Str) : (relabel scope env).names.lookup y = (scope.names.lookup y).map fun k => if (k == .free && env.scope.kind == .function && env.kindOf y == some .cell) = true then NameKind.cell else k := by
  have e : (relabel scope env).names = scope.names.map fun p => (p.1, (fun (n : Str) (k : NameKind) => if (k == .free && env.scope.kind == .function && env.kindOf n == some .cell) = true then NameKind.cell else k) p.1 p.2) := by
    unfold relabel
    refine List.map_congr_left fun p _ => ?_
    obtain ⟨n, k⟩ := p
    show (if (k == .free && env.scope.kind == .function && env.kindOf n == some .cell) = true then (n, NameKind.cell) else (n, k)) = _
    split <;> simp_all
  rw [e]
  exact lookup_kinds (fun (n : Str) (k : NameKind) => if (k == .free && env.scope.kind == .function && env.kindOf n == some .cell) = true then NameKind.cell else k) y scope.names
/-- how a comprehension's names lie: its own name x, the names fs that it takes from around it, and their slots there -/
structure CompSc (X : Cx) (scope : Scope) (x : Str) (fs : List Str) (fr : List Nat) : Prop where
  kind : scope.kind = .function
  loc : scope.names.lookup x = some .local
  names : ∀ y ∈ scope.names, y.2 = .local → scope.names.lookup y.1 = some .local
  nocell : ∀ y ∈ scope.names, y.2 ≠ .cell
  free : ∀ n ∈ frees scope, X.env.kindOf n = some .cell ∧ scope.names.lookup n = some .free
  nd : (x :: fs).Nodup
  len : fr.length = fs.length
  slots : ∀ (j : Nat) (y : Str) (k : Nat), fs[j]? = some y → fr[j]? = some k → X.N[k]? = some y ∧ y ∈ frees scope
/-- the context of the block -/
abbrev compX (X : Cx) (N' : List Str) (scope : Scope) (C : Addr) (s : Shared) (H : Hp) (ex : List Addr) : Cx :=
  { X with N := N', s₀ := s, H₀ := H, env := compEnvC scope (clOf scope X.env) C X.env, outer := X.stack, stack := X.stack, ex := ex, fn := fun _ => false, pn := [], xe := fun _ _ => False }
/-- its tests -/
def CT (X : Cx) (ifs : List Expr) (tt : TT) : Prop :=
  ∀ (pins : List (Addr × Obj)) (s : Shared) (σ : St) (H : Hp) (Q : Bool → Hp → Prop), Inv X pins σ H s → tt σ H Q →
    wpAny (model X.prog X.w) X.A (forIn ifs true fun c r => if r = true then do let ok ← isTrue c X.env (eval c X.env); pure (ForInStep.yield ok) else pure (ForInStep.yield r)) (TP X pins σ Q) X.xe s
def tTrue : TT := fun _ H Q => Q true H
theorem ct_nil {X : Cx} : CT X [] tTrue := fun _ _ _ H _ I h => wpAny_tests_nil ⟨H, I, h⟩
theorem ct_one {X : Cx} {c : Expr} {tc : TT} (h : PT X c tc) : CT X [c] tc := fun pins s σ H Q I hq => wpAny_tests_one (h pins s σ H Q I hq)
def slotsOf (fr : List Nat) (σ : St) : St := fr.map fun k => (σ[k]?).getD none
/-- W: the invariant by the turn, a measure, the items so far -/
def tComp (wi : TI) (fr : List Nat) (tt : TT) (te : TE) : TE := fun σ H Q => wi σ H fun J H1 => ∃ W : Nat → Nat → List V → Hp → Prop, (∃ m, W 0 m [] H1) ∧ ∀ i m ys H2, W i m ys H2 →
  (J.stop i H2 ∧ ys.length ≤ sizeLine ∧ ∀ l, H2 l = none → Q (.ref l) (upd H2 l (.lst ys))) ∨
  (J.go i H2 ∧ ys.length < sizeLine ∧ ∀ v H3, J.yld i H2 v H3 → tt (some v :: slotsOf fr σ) H3 fun b H4 =>
    if b = true then te (some v :: slotsOf fr σ) H4 (fun y H5 => ∃ m', m' < m ∧ W (i + 1) m' (ys ++ [y]) H5) else ∃ m', m' < m ∧ W (i + 1) m' ys H4)

section
variable {X : Cx}
theorem isCell_keep {h h' : Heap} {c : Addr} {v : Option Value} (k : ∀ b o, h.get? b = some o → h'.get? b = some o) (z : h.IsCell c v) : h'.IsCell c v := by
  obtain ⟨o, e, d⟩ := z
  exact ⟨o, k _ _ e, d⟩
/-- an untracked object of ours (a list) is tracked from here on -/
theorem Inv.adopt {pins : List (Addr × Obj)} {σ : St} {H : Hp} {s : Shared} {D : Addr} {ys : List V} {vs : List Value} {k : Nat} (I : Inv X pins σ H s) (hn : H D = none) (e : s.heap.get? D = some { cls := .type "list", data := .seq vs.toArray k }) (r : Vals ys vs) (hz : ys.length ≤ sizeLine)
    (h1 : X.s₀.heap.objs.size ≤ D) (hL : D ≠ X.env.locals) (h2 : ∀ x c, X.env.cells.lookup x = some c → c ≠ D) (h3 : ∀ p ∈ X.pn ++ pins, p.1 ≠ D) : Inv X pins σ (upd H D (.lst ys)) s := by
  have nD : ∀ b u, H b = some u → b ≠ D := fun b u q z => by rw [z, hn] at q; cases q
  have hok : HOk X.prog X.w (upd H D (.lst ys)) s.heap := fun b u q => by
    by_cases hb : b = D
    · subst hb
      rw [upd_same] at q
      cases q
      exact ⟨hz, vs, k, r, e⟩
    · rw [upd_ne hb] at q
      exact (I.hok b u q).stay (fun _ _ _ z => z) (fun c z => by rw [upd_ne (nD c _ z)]; exact z) fun c xs z => by rw [upd_ne (nD c _ z)]; exact z
  have J := I.step (H' := upd H D (.lst ys)) (h' := s.heap) (g' := s.gens) (t' := s.toks) (d' := s.drawn) (ch := [D])
    (fun b hb => by
      have e' : b = D := by simpa using hb
      subst e'
      exact ⟨.inr h1, hL, h2, h3⟩)
    (fun b o _ _ _ q _ => q) (fun b o _ _ _ q _ => ⟨o.slots, q⟩) (fun b o hc _ n => by rw [upd_ne fun z => hc (by simp [z])]; exact n) (fun b o _ q => ⟨o, q⟩)
    (fun b xs q => by rw [upd_ne (nD b _ q)]; exact q) (fun b o u q => by rw [upd_ne (nD b _ q)]; exact q) (fun b ps q => ⟨#[], by rw [upd_ne (nD b _ q), q]; simp⟩) (fun m hm => hm) hok I.bare
  exact J
theorem comp_ok {pins : List (Addr × Obj)} {σ : St} {H : Hp} {s : Shared} {scope : Scope} {x : Str} {fs : List Str} {fr : List Nat} {D : Addr} {fp : List Addr} {s2 : Shared} (S : CompSc X scope x fs fr) (I2 : Inv X pins σ H s2) (I3 : Inv X pins σ H s)
    (hD : D = s2.heap.objs.size) (hs : s.heap.objs.size = D + 1) (hlt : ∀ b ∈ fp, b < D) (f2 : ∀ b ∈ fp, FpOk X pins H b) : (compX X (x :: fs) scope s.heap.objs.size s H (D :: fp)).Ok := by
  have hcl : ∀ n ∈ frees scope, ∃ c, X.env.cells.lookup n = some c := fun n hn => I3.ok.has n (.inl (S.free n hn).1)
  have sub : ∀ {y : Str} {c : Addr}, (clOf scope X.env).lookup y = some c → X.env.cells.lookup y = some c := fun h => ((clOf_lookup hcl).mp h).2
  refine ⟨I3.ok.mod, S.kind, I3.ok.glob, I3.ok.blt, Nat.le_refl _, fun a b c h1 h2 => I3.ok.inj a b c (sub h1) (sub h2), fun y hy => ?_, (fun _ _ h => by cases h), I3.ok.hd, I3.ok.frames, .inl rfl, fun b hb => ?_, I3.bs, Nat.le_trans I3.ok.bsz I3.sz, fun b o e hb => ?_, fun b hb hf => ?_, I3.stack, I3.stkFree⟩
  · have q : (relabel scope X.env).names.lookup y = some .cell ∨ (relabel scope X.env).names.lookup y = some .free := hy
    have nf : scope.names.lookup y = some .free := by
      rw [relabel_lookup] at q
      cases e : scope.names.lookup y with
      | none => rw [e] at q; simp at q
      | some k =>
        rw [e] at q
        cases k with
        | free => rfl
        | cell =>
          have hm : (y, NameKind.cell) ∈ scope.names := by
            have := List.lookup_eq_some_iff.mp e
            obtain ⟨l1, l2, z, _⟩ := this
            rw [z]
            simp
          exact absurd rfl (S.nocell _ hm)
        | _ => simp at q
    have hm : y ∈ frees scope := by
      obtain ⟨l1, l2, z, _⟩ := List.lookup_eq_some_iff.mp nf
      unfold frees
      rw [z]
      simp
    obtain ⟨c, hc⟩ := hcl y hm
    exact ⟨c, (clOf_lookup hcl).mpr ⟨hm, hc⟩⟩
  · rcases List.mem_cons.mp hb with rfl | hb
    · refine ⟨fun z => ?_, fun y c h z => ?_⟩
      · exact absurd (hs.symm.trans z.symm : b + 1 = b) (Nat.succ_ne_self b)
      · obtain ⟨v, q⟩ := I2.cell y c (sub h)
        have := q.lt
        rw [z, hD] at this
        exact absurd this (Nat.lt_irrefl _)
    · refine ⟨fun z => ?_, fun y c h => (f2 b hb).2.2.2.2.1 y c (sub h)⟩
      have q : b < D + 1 := Nat.lt_succ_of_lt (hlt b hb)
      rw [z] at q
      exact absurd q (by show ¬ s.heap.objs.size < D + 1; rw [hs]; exact Nat.lt_irrefl _)
  · have hb' : b < X.base.objs.size := Heap.lt_size e
    have h1 := I2.ok.bsz
    have h2 := I2.sz
    rcases List.mem_cons.mp hb with rfl | hb
    · rw [hD] at hb'
      exact absurd (Nat.lt_of_lt_of_le hb' (Nat.le_trans h1 h2)) (Nat.lt_irrefl _)
    · rcases (f2 b hb).2.2.2.1 with z | z
      · exact I2.ok.noex b o e z
      · exact absurd (Nat.lt_of_lt_of_le hb' (Nat.le_trans h1 z)) (Nat.lt_irrefl _)
  · have hf' : b ∈ frs X.stack := hf
    rcases List.mem_cons.mp (I2.stkSub b hf') with z | z
    · rcases List.mem_cons.mp hb with rfl | hb
      · have := I2.lt
        rw [← z, hD] at this
        exact absurd this (Nat.lt_irrefl _)
      · exact (f2 b hb).2.1 z
    · rcases List.mem_cons.mp hb with rfl | hb
      · exact I2.nofs (Nat.le_of_eq hD.symm) z
      · exact (f2 b hb).2.2.1 z
theorem comp_inv {pins : List (Addr × Obj)} {σ : St} {H : Hp} {s : Shared} {scope : Scope} {x : Str} {fs : List Str} {fr : List Nat} {ex : List Addr} {h4 : Heap} {m : Str → Option Value} {t : Nat} (S : CompSc X scope x fs fr) (I3 : Inv X pins σ H s)
    (ok : (compX X (x :: fs) scope s.heap.objs.size s H ex).Ok) (hn : h4.Ns s.heap.objs.size m) (old : ∀ b o, s.heap.get? b = some o → h4.get? b = some o) :
    Inv (compX X (x :: fs) scope s.heap.objs.size s H ex) [] (none :: slotsOf fr σ) H { s with heap := h4, toks := t } := by
  have hcl : ∀ n ∈ frees scope, ∃ c, X.env.cells.lookup n = some c := fun n hn => I3.ok.has n (.inl (S.free n hn).1)
  have sub : ∀ {y : Str} {c : Addr}, (clOf scope X.env).lookup y = some c → X.env.cells.lookup y = some c := fun h => ((clOf_lookup hcl).mp h).2
  refine ⟨ok, rfl, I3.bare, Un.kept old, ⟨m, hn, fun i y v e1 e2 e3 => ?_⟩, fun y c h => ?_, I3.hok.fresh (Nat.le_refl _), fun y c h => I3.freeC y c (sub h), fun p hp => absurd hp (by simp), I3.hok.kept old, ?_⟩
  · cases i with
    | zero =>
      have e2' : (none : Option V) = some v := by simpa using e2
      cases e2'
    | succ j =>
      have e1' : fs[j]? = some y := by simpa using e1
      have e2' : (slotsOf fr σ)[j]? = some (some v) := by simpa using e2
      unfold slotsOf at e2'
      rw [List.getElem?_map] at e2'
      cases hk : fr[j]? with
      | none => rw [hk] at e2'; cases e2'
      | some k =>
        rw [hk] at e2'
        have e4 : (σ[k]?).getD none = some v := by simpa using e2'
        have e5 : σ[k]? = some (some v) := by
          cases q : σ[k]? with
          | none => rw [q] at e4; cases e4
          | some z => rw [q] at e4; exact congrArg some e4
        obtain ⟨n1, n2⟩ := S.slots j y k e1' hk
        obtain ⟨m0, _, hl⟩ := I3.loc
        obtain ⟨u, ru, l⟩ := hl k y v n1 e5 (.inr (.inl (S.free y n2).1))
        have kc := (S.free y n2).1
        rcases l with ⟨l, _⟩ | ⟨_, c, hc, cl⟩
        · rw [kc] at l; cases l
        · refine ⟨u, ru, .inr ⟨.inl ?_, c, (clOf_lookup hcl).mpr ⟨n2, hc⟩, isCell_keep old cl⟩⟩
          show (relabel scope X.env).names.lookup y = some .cell
          have kf : X.env.scope.kind = .function := I3.ok.kind
          rw [relabel_lookup, (S.free y n2).2, kf, kc]
          rfl
  · obtain ⟨v, z⟩ := I3.cell y c (sub h)
    exact ⟨v, isCell_keep old z⟩
  · show (none :: slotsOf fr σ).length = (x :: fs).length
    simp [slotsOf, S.len]
abbrev lobj (vs : List Value) (k : Nat) : Obj := { cls := .type "list", data := .seq vs.toArray k }
theorem pe_compG {elt iter : Expr} {x : Str} {px : Pos} {ifs : List Expr} {scope : Scope} {pos : Pos} {wi : TI} {fs : List Str} {fr : List Nat} {tt : TT} {te : TE} (hc : X.calm = true) (S : CompSc X scope x fs fr) (hi : PI X (.Name x px) iter wi)
    (ht : ∀ C s H ex, CT (compX X (x :: fs) scope C s H ex) ifs tt) (he : ∀ C s H ex, PE (compX X (x :: fs) scope C s H ex) elt te) (hs : ∀ z, foldedSetIterable iter X.env z = pure z := by intro _; rfl) :
    PE X (.ListComp elt [⟨.Name x px, iter, ifs, 0⟩] scope pos) (tComp wi fr tt te) := by
  intro pins s σ H Q I h
  rw [eval_ListComp]
  refine wpAny_comprehension_free (use := none) rfl hs (closureFor_some fun n hn => I.ok.has n (.inl (S.free n hn).1)) S.kind S.names ?_
  refine thn (hi pins s σ H _ I h) fun v s1 h1 => thn h1 fun itv s2 h2 => ?_
  obtain ⟨it, fp, tn, J, H2, e, I2, T, st2, f2, W, ⟨m0, w0⟩, turn⟩ := h2
  subst e
  have hlt : ∀ b ∈ fp, b < s2.heap.objs.size := fun b hb => by
    obtain ⟨o, e, _⟩ := T.obj 0 _ st2 b hb
    exact Heap.lt_size e
  refine wpAny_newObj_type (wpAny_newFunctionEnv S.nocell (by intro y hy; simp at hy) (fun h4 hns4 hsb4 => ?_) S.kind)
  dsimp only at hns4 hsb4 ⊢
  generalize hH3 : s2.heap.push { cls := .type "list", dict := none, data := .seq ([] : List Value).toArray } = g3 at hns4 hsb4 ⊢
  have hC : g3.objs.size = s2.heap.objs.size + 1 := by rw [← hH3, Heap.size_push]
  have old3 : ∀ b o, s2.heap.get? b = some o → g3.get? b = some o := fun b o e => hH3 ▸ Heap.get?_push_of_some _ e
  have I3 : Inv X pins σ H2 { s2 with heap := g3 } := I2.kept (t' := s2.toks) old3
  have acc3 : g3.get? s2.heap.objs.size = some (lobj [] 0) := hH3 ▸ Heap.get?_push_size _ rfl
  have old4 : ∀ b o, g3.get? b = some o → h4.get? b = some o := fun b o e => hsb4.extBut b o (Nat.ne_of_lt (Heap.lt_size e)) (Heap.get?_push_of_some _ e)
  have ok := comp_ok (s := { s2 with heap := g3 }) (D := s2.heap.objs.size) (fp := fp) S I2 I3 rfl hC hlt f2
  have I4 := comp_inv (t := s2.toks + ([] : List (Str × Value)).length) S I3 ok hns4 old4
  -- what stays true of the list's place and the iterator's
  have dne := ok.exf s2.heap.objs.size List.mem_cons_self
  have dnf := ok.exfs s2.heap.objs.size List.mem_cons_self
  have fpok : ∀ {H' : Hp} {vs : List Value} {k : Nat}, (∀ b ∈ fp, H' b = none) → ∀ b ∈ fp, FpOk (compX X (x :: fs) scope g3.objs.size { s2 with heap := g3 } H2 (s2.heap.objs.size :: fp)) [(s2.heap.objs.size, lobj vs k)] H' b := fun {H' vs k} hn b hb => by
    have q := ok.exf b (List.mem_cons_of_mem _ hb)
    refine ⟨hn b hb, q.1, ok.exfs b (List.mem_cons_of_mem _ hb), .inl (List.mem_cons_of_mem _ hb), q.2, fun p hp => ?_⟩
    have e : p = (s2.heap.objs.size, lobj vs k) := by simpa using hp
    rw [e]
    exact Nat.ne_of_gt (hlt b hb)
  have start : Inv (compX X (x :: fs) scope g3.objs.size { s2 with heap := g3 } H2 (s2.heap.objs.size :: fp)) [(s2.heap.objs.size, lobj [] 0)] (none :: slotsOf fr σ) H2 { s2 with heap := h4, toks := s2.toks + ([] : List (Str × Value)).length } :=
    I4.pins_of fun p hp => by
      have e : p = (s2.heap.objs.size, lobj [] 0) := by simpa using hp
      subst e
      exact ⟨old4 _ _ acc3, I2.hok.fresh (Nat.le_refl _), dne.1, dnf, fun v z => by cases z⟩
  have stn : tn 0 h4 := T.keep 0 _ _ st2 fun b _ o e => old4 b o (old3 b o e)
  -- the end of the block
  have fin : ∀ {i : Nat} {σ0 : Option V} {H' : Hp} {ys : List V} {vs : List Value} {k : Nat} {s' : Shared}, Inv (compX X (x :: fs) scope g3.objs.size { s2 with heap := g3 } H2 (s2.heap.objs.size :: fp)) [(s2.heap.objs.size, lobj vs k)] (σ0 :: slotsOf fr σ) H' s' → Vals ys vs → ys.length ≤ sizeLine →
      (∀ l, H' l = none → Q (.ref l) (upd H' l (.lst ys))) → ∃ m, s'.heap.Ns g3.objs.size m ∧ ∀ h', Heap.SameBut g3.objs.size s'.heap h' → EP X pins σ Q (.ref s2.heap.objs.size) { s' with heap := h' } := by
    intro i σ0 H' ys vs k s' J1 rv hz q
    obtain ⟨m, hn, _⟩ := id J1.loc
    refine ⟨m, hn, fun h' sb => ?_⟩
    have below : ∀ y c, X.env.cells.lookup y = some c → c < s2.heap.objs.size := fun y c z => by
      obtain ⟨v, q⟩ := I2.cell y c z
      exact q.lt
    have pbelow : ∀ p ∈ X.pn ++ pins, p.1 < s2.heap.objs.size := fun p hp => Heap.lt_size (I2.pin p hp).1
    have I5 : Inv X pins σ H' s' := I3.call' (ch := s2.heap.objs.size :: fp) J1.os J1.base J1.hok J1.bare fun b hb => by
      rcases List.mem_cons.mp hb with e | hb
      · rw [e]
        exact ⟨.inr I2.sz, Nat.ne_of_gt I2.lt, fun y c z => Nat.ne_of_lt (below y c z), fun p hp => Nat.ne_of_lt (pbelow p hp)⟩
      · exact ⟨(f2 b hb).2.2.2.1, (f2 b hb).2.1, (f2 b hb).2.2.2.2.1, (f2 b hb).2.2.2.2.2⟩
    have szC : s2.heap.objs.size < g3.objs.size := by omega
    have I6 : Inv X pins σ H' { s' with heap := h' } := I5.turned (t' := s'.toks) (it := g3.objs.size) (fun b o hb e => sb.extBut b o hb e) J1.free (Nat.ne_of_gt (Nat.lt_trans I2.lt szC)) (.inr (Nat.le_of_lt (Nat.lt_of_le_of_lt I2.sz szC)))
      (fun y c z => Nat.ne_of_lt (Nat.lt_trans (below y c z) szC)) (fun p hp => Nat.ne_of_lt (Nat.lt_trans (pbelow p hp) szC))
    obtain ⟨eD, nD, _⟩ := J1.pin (s2.heap.objs.size, lobj vs k) (by simp)
    have eD' : h'.get? s2.heap.objs.size = some (lobj vs k) := sb.extBut _ _ dne.1 eD
    exact ⟨.ref s2.heap.objs.size, _, I6.adopt nD eD' rv hz I2.sz (Nat.ne_of_gt I2.lt) (fun y c z => Nat.ne_of_lt (below y c z)) (fun p hp => Nat.ne_of_lt (pbelow p hp)), rfl, q _ nD⟩
  have loop : ∀ s4 : Shared, s4 = { s2 with heap := h4, toks := s2.toks + ([] : List (Str × Value)).length } →
      codeAny (model X.prog X.w) X.A (.compLoop (.ListComp elt [⟨.Name x px, iter, ifs, 0⟩] scope pos) 0 (.ref it) (.ref s2.heap.objs.size) (compEnvC scope (clOf scope X.env) g3.objs.size X.env))
        (compPost (model X.prog X.w) X.A X.xe none (EP X pins σ Q) (.ref s2.heap.objs.size) g3.objs.size) s4 := by
    rintro s4 rfl
    refine codeAny_compLoop_tests (fun n s' => ∃ i σ0 H' ys vs k, Inv (compX X (x :: fs) scope g3.objs.size { s2 with heap := g3 } H2 (s2.heap.objs.size :: fp)) [(s2.heap.objs.size, lobj vs k)] (σ0 :: slotsOf fr σ) H' s' ∧ tn i s'.heap ∧ (∀ b ∈ fp, H' b = none) ∧ Vals ys vs ∧ W i n ys H') ?_ m0
      ⟨0, none, H2, [], [], 0, start, stn, fun b hb => (f2 b hb).1, .nil, w0⟩
    rintro n s' ⟨i, σ0, H', ys, vs, k, J1, st, fr1, rv, w1⟩
    rcases turn i n ys H' w1 with ⟨stop, hz, q⟩ | ⟨go, hz, step⟩
    · refine thn (T.done (compX X (x :: fs) scope g3.objs.size { s2 with heap := g3 } H2 (s2.heap.objs.size :: fp)) rfl rfl rfl hc i _ s' _ H' _ J1 (fpok fr1) st stop) fun r s5 ⟨hr, J2⟩ => ?_
      subst hr
      exact fin (i := i) J2 rv hz q
    · refine thn (T.item (compX X (x :: fs) scope g3.objs.size { s2 with heap := g3 } H2 (s2.heap.objs.size :: fp)) rfl rfl rfl hc i _ s' _ H' _ J1 (fpok fr1) st go) fun r s5 ⟨u, hr, h5⟩ => ?_
      subst hr
      change wpAny _ _ (letOwnedTupleGo (.Name x px) (.ref it) u >>= fun _ => assign (.Name x px) (compEnvC scope (clOf scope X.env) g3.objs.size X.env) u) _ _ s5
      refine wpAny_bind (thn h5 fun _ s6 ⟨v, H6, J6, r6, y6, st6, fr6⟩ => ?_)
      have J6' := J6.pinned (fp := fp) (fpok fr6) (T.obj _ _ st6)
      have loc := lookup_relabel_local (env := X.env) S.loc
      refine wpAny_mono (pg_name (i := 0) S.nd rfl (.inl loc) (.inr loc) _ s6 _ H6 v u (fun σ' H' => σ' = some v :: slotsOf fr σ ∧ H' = H6) J6' r6 ⟨rfl, rfl⟩) (fun _ s7 ⟨σ7, H7, J7, e7, e7'⟩ => ?_) (fun _ _ z => z.elim)
      subst e7 e7'
      have pfp : ∀ {σ8 : St} {H8 : Hp} {s8 : Shared}, Inv (compX X (x :: fs) scope g3.objs.size { s2 with heap := g3 } H2 (s2.heap.objs.size :: fp)) ([(s2.heap.objs.size, lobj vs k)] ++ pinsAt fp s6.heap) σ8 H8 s8 →
          tn (i + 1) s8.heap ∧ ∀ b ∈ fp, H8 b = none := fun {σ8 H8 s8} J8 => by
        refine ⟨T.keep _ _ _ st6 fun b hb o e => (J8.pin (b, o) (List.mem_append_right _ (List.mem_append_right _ (mem_pinsAt hb e)))).1, fun b hb => ?_⟩
        obtain ⟨o, e, d⟩ := T.obj _ _ st6 b hb
        exact (J8.pin (b, o) (List.mem_append_right _ (List.mem_append_right _ (mem_pinsAt hb e)))).2.1
      refine wpAny_mono (ht _ _ _ _ _ s7 _ H7 _ J7 (step v H7 y6)) (fun ok8 s8 ⟨H8, J8, q8⟩ => ?_) (fun _ _ z => z.elim)
      cases ok8 with
      | false =>
        rw [if_neg Bool.false_ne_true] at q8
        rw [if_neg Bool.false_ne_true]
        obtain ⟨m', hm, w8⟩ := q8
        obtain ⟨t8, n8⟩ := pfp J8
        exact ⟨m', hm, i + 1, some v, H8, ys, vs, k, J8.unpinned, t8, n8, rv, w8⟩
      | true =>
        rw [if_pos rfl] at q8
        rw [if_pos rfl]
        refine wpAny_mono (he _ _ _ _ _ s8 _ H8 _ J8 q8) (fun y s9 ⟨yv, H9, J9, r9, m', hm, w9⟩ => ?_) (fun _ _ z => z.elim)
        obtain ⟨t9, n9⟩ := pfp J9
        obtain ⟨eD, nD, _⟩ := J9.pin (s2.heap.objs.size, lobj vs k) (by simp)
        have hl := rv.length
        refine call_meets F.slot_list_append ⟨_, eD, rfl⟩ F.entry_list_append (F.args_list_append_2 _ _) (PySem.list_append s2.heap.objs.size vs.toArray k y (by rw [List.size_toArray]; omega)) ⟨eD, ?_⟩
        have eN := PySem.IsL.update (h := s9.heap) (l := s2.heap.objs.size) (items := vs.toArray) (n := k) eD (·.push y)
        have eV : vs.toArray.push y = (vs ++ [y]).toArray := by simp
        rw [eV] at eN
        obtain ⟨k', eN⟩ : ∃ k', (s9.heap.update s2.heap.objs.size (Obj.mapSeq (·.push y))).get? s2.heap.objs.size = some (lobj (vs ++ [y]) k') := ⟨_, eN⟩
        have K9 : Inv (compX X (x :: fs) scope g3.objs.size { s2 with heap := g3 } H2 (s2.heap.objs.size :: fp)) [] (some v :: slotsOf fr σ) H9 s9 := J9.pins_of fun p hp => absurd hp (by simp)
        have K10 : Inv (compX X (x :: fs) scope g3.objs.size { s2 with heap := g3 } H2 (s2.heap.objs.size :: fp)) [] (some v :: slotsOf fr σ) H9 { s9 with heap := s9.heap.update s2.heap.objs.size (Obj.mapSeq (·.push y)) } :=
          K9.turned (t' := s9.toks) (it := s2.heap.objs.size) (fun b o hb e => (Heap.get?_update_other s9.heap (Obj.mapSeq (·.push y)) (Ne.symm hb)).trans e) nD dne.1 (.inl List.mem_cons_self) dne.2 (fun p hp => absurd hp (by simp))
        refine ⟨m', hm, i + 1, some v, H9, ys ++ [yv], vs ++ [y], k', K10.pins_of fun p hp => ?_, T.keep _ _ _ t9 fun b hb o e => (Heap.get?_update_other s9.heap (Obj.mapSeq (·.push y)) (Nat.ne_of_gt (hlt b hb))).trans e, n9, rv.append (.cons r9 .nil), w9⟩
        have e : p = (s2.heap.objs.size, lobj (vs ++ [y]) k') := List.mem_singleton.mp hp
        rw [e]
        exact ⟨eN, nD, dne.1, dnf, fun v z => by cases z⟩
  exact codeAny_compStart_list (loop _ rfl) (T.self X.A 0 _ _ _ stn (loop _ rfl))
/-- [e for x in it], [e for x in it if c] -/
theorem pe_comp {elt iter : Expr} {x : Str} {px : Pos} {scope : Scope} {pos : Pos} {wi : TI} {fs : List Str} {fr : List Nat} {te : TE} (hc : X.calm = true) (S : CompSc X scope x fs fr) (hi : PI X (.Name x px) iter wi)
    (he : ∀ C s H ex, PE (compX X (x :: fs) scope C s H ex) elt te) (hs : ∀ z, foldedSetIterable iter X.env z = pure z := by intro _; rfl) :
    PE X (.ListComp elt [⟨.Name x px, iter, [], 0⟩] scope pos) (tComp wi fr tTrue te) := pe_compG hc S hi (fun _ _ _ _ => ct_nil) he hs
theorem pe_compIf {elt iter c : Expr} {x : Str} {px : Pos} {scope : Scope} {pos : Pos} {wi : TI} {fs : List Str} {fr : List Nat} {tc : TT} {te : TE} (hc : X.calm = true) (S : CompSc X scope x fs fr) (hi : PI X (.Name x px) iter wi)
    (ht : ∀ C s H ex, PT (compX X (x :: fs) scope C s H ex) c tc) (he : ∀ C s H ex, PE (compX X (x :: fs) scope C s H ex) elt te) (hs : ∀ z, foldedSetIterable iter X.env z = pure z := by intro _; rfl) :
    PE X (.ListComp elt [⟨.Name x px, iter, [c], 0⟩] scope pos) (tComp wi fr tc te) := pe_compG hc S hi (fun C s H ex => ct_one (ht C s H ex)) he hs
end
/-! ### further calls and operators -/
theorem vals_of : ∀ (xs : List V) (us : List Value), xs.length = us.length → (∀ (j : Nat) (x : V) (u : Value), xs[j]? = some x → us[j]? = some u → RelV x u) → Vals xs us
  | [], [], _, _ => .nil
  | [], _ :: _, h, _ => by cases h
  | _ :: _, [], h, _ => by cases h
  | x :: xs, u :: us, h, f => .cons (f 0 x u rfl rfl) (vals_of xs us (by simpa using h) fun j a b e1 e2 => f (j + 1) a b (by simpa using e1) (by simpa using e2))
theorem rel_key {k : Key} {v : Value} (h : keyIs k v = true) : RelV (kV k) v := by
  rcases keyIs_shape h with ⟨i, t, rfl, rfl⟩ | ⟨x, t, rfl, rfl⟩
  · exact ⟨t, rfl⟩
  · exact ⟨t, rfl⟩
theorem range_all (bs : List Bool) : ((List.range bs.length).all fun i => (bs[i]?).getD true) = bs.all id := by
  rw [Bool.eq_iff_iff, List.all_eq_true, List.all_eq_true]
  constructor
  · intro h b hb
    obtain ⟨i, hi⟩ := List.mem_iff_getElem?.mp hb
    have := h i (List.mem_range.mpr (List.getElem?_eq_some_iff.mp hi).1)
    rw [hi] at this
    exact this
  · intro h i hi
    have hlt := List.mem_range.mp hi
    rw [List.getElem?_eq_getElem hlt]
    exact h _ (List.getElem_mem hlt)
theorem count_eqU {x : V} : ∀ {xs : List V} {us : List Value}, Vals xs us → xs.all flatV = true → us.countP (eqU x) = xs.countP fun y => eqV y x
  | _, _, .nil, _ => rfl
  | y :: xs, u :: us, .cons r t, f => by
    rw [List.all_cons, Bool.and_eq_true] at f
    rw [List.countP_cons, List.countP_cons, eqU_of r f.1, count_eqU t f.2]
section
variable {X : Cx}
/-- list(d): the keys -/
theorem call_list_dict (hc : X.calm = true) : CallR X (.type "list") (fun xs H Q => ∃ a kvs, xs = [.ref a] ∧ H a = some (.dK kvs) ∧ ∀ l, H l = none → Q (.ref l) (upd H l (.lst (kvs.map fun kv => kV kv.1)))) := by
  intro pins s σ H xs us Q I r h
  obtain ⟨a, kvs, rfl, ha, q⟩ := h
  obtain ⟨u, rfl, ru⟩ := vals1 r
  cases ru
  obtain ⟨hz, lo, vs, rel, o, es, ep, m⟩ := dk_of I.hok ha
  have at' : s.heap.DictAt (mixKind X.prog X.w) a vs ep := ⟨o, es, m⟩
  have hl : kvs.length = vs.length := rel.length
  have hk : kvs.map (·.1) = vs.map (·.1) := rel.keys
  refine PySem.W.kdl_call (PySem.W.kdl_dict lo) (I.ok.hd hc) at' (by rw [← hl]; exact hz) fun h' tk acc' c' kp e it => ?_
  have rv : Vals (kvs.map fun kv => kV kv.1) acc'.toList := by
    refine vals_of _ _ (by simp [it.1, hl]) fun j x v e1 e2 => ?_
    obtain ⟨k, y, e3, e4⟩ := it.2 j v (by rw [← Array.getElem?_toList]; exact e2)
    have e5 : (kvs.map (·.1))[j]? = some k := by
      rw [hk, List.getElem?_map, e3]
      rfl
    rw [List.getElem?_map] at e1 e5
    cases e6 : kvs[j]? with
    | none => rw [e6] at e1; cases e1
    | some p =>
      rw [e6] at e1 e5
      obtain rfl : kV p.1 = x := Option.some.inj e1
      obtain rfl : p.1 = k := Option.some.inj e5
      exact rel_key e4
  exact ⟨.ref s.heap.objs.size, _, I.laid (t' := tk) kp (Nat.le_refl _) (show ObjOk X.prog X.w _ h' _ (.lst _) from ⟨by rw [List.length_map]; exact hz, acc'.toList, c', rv, by simpa using e⟩), rfl, q _ I.fresh⟩
/-- all(list of bools) -/
theorem call_all_bools (hc : X.calm = true) : CallR X (.builtin "all") (fun xs H Q => ∃ (a : Addr) (bs : List Bool), xs = [.ref a] ∧ SqL X.K H a (bs.map V.bl) ∧ Q (.bl (bs.all id)) H) := by
  intro pins s σ H xs us Q I r h
  obtain ⟨a, bs, rfl, ha, q⟩ := h
  obtain ⟨u, rfl, ru⟩ := vals1 r
  cases ru
  obtain ⟨its, rv, p, hz⟩ := I.list ha
  have hl : its.length = bs.length := by
    have := rv.length
    simpa using this.symm
  have hne : a ≠ s.heap.objs.size := by
    obtain ⟨o, n, e, _⟩ := id p
    exact Nat.ne_of_lt (Heap.lt_size e)
  refine call_all_walk (wpAny_pyIter_list p.isList ?_)
  refine ⟨s.heap.objs.size, _, _, its.toArray.size, _, _, fun i => (bs[i]?).getD true, rfl, Walks.list (A := X.A.in1) (show X.A.in1.handled = none from I.ok.hd hc) s.heap.objs.size a hne its.toArray, ⟨⟨_, Heap.get?_push_size _ rfl, rfl, rfl⟩, p.isList.at fun o e => Heap.get?_push_of_some _ e⟩, ?_, fun h' tk kp => ?_⟩
  · intro i v s' Q' E' hP hQ
    have hP' : its[i]? = some v := by simpa using hP
    have hi : i < bs.length := by
      rw [← hl]
      exact (List.getElem?_eq_some_iff.mp hP').1
    have e1 : (bs.map V.bl)[i]? = some (.bl bs[i]) := by rw [List.getElem?_map, List.getElem?_eq_getElem hi]; rfl
    obtain ⟨u, hu, ru⟩ := rv.get e1
    rw [hP'] at hu
    cases hu
    cases ru
    refine wpAny_truthy_bool ?_
    have e2 : (bs[i]?).getD true = bs[i] := by rw [List.getElem?_eq_getElem hi]; rfl
    rw [← e2]
    exact hQ
  · refine ⟨.bl (bs.all id), H, I.kept (t' := tk) fun b o e => kp b o (by simpa using Nat.ne_of_lt (Heap.lt_size e)) (Heap.get?_push_of_some _ e), ?_, q⟩
    show Value.bool _ = Value.bool _
    rw [List.size_toArray, hl, range_all]
/-- isinstance(x, a built-in type) -/
theorem call_isinst : CallR X (.builtin "isinstance") (fun xs H Q => ∃ x n t b, xs = [x, .ty n] ∧ TyOf X.K H x t ∧ PySem.W.kitOne X.K t (.type n) = some b ∧ Q (.bl b) H) := by
  intro pins s σ H xs us Q I r h
  obtain ⟨x, n, t, b, rfl, ty, e, q⟩ := h
  obtain ⟨u, w', rfl, ru, rw'⟩ := vals2 r
  cases rw'
  exact isinst_ok I ru ty e fun tk => ⟨.bl b, H, I.tok tk, rfl, q⟩
/-- x.startswith(y) -/
def rStarts : V → List V → Hp → VK → Prop := fun x vs H Q => ∃ a b, x = .str a ∧ vs = [.str b] ∧ Q (.bl (Txt.startswith a b)) H
theorem mt_startswith : MtR X "str.startswith" rStarts := by
  intro pins s σ H x vs v us Q I rx rv h
  obtain ⟨a, b, rfl, rfl, q⟩ := h
  obtain ⟨t, rfl⟩ := rx
  obtain ⟨u, rfl, ru⟩ := rv.one
  obtain ⟨t', rfl⟩ := ru
  exact call_gives F.slot_str_startswith (typeIs_str s a t) F.entry_str_startswith (F.args_str_startswith_2 _ _) (gives_str_startswith a b t t') ⟨.bl _, H, I, rfl, q⟩
/-- xs.count(y), flat items -/
def rCount : V → List V → Hp → VK → Prop := fun x vs H Q => ∃ l xs y, x = .ref l ∧ vs = [y] ∧ H l = some (.lst xs) ∧ flatV y = true ∧ xs.all flatV = true ∧ Q (.int ((xs.countP fun z => eqV z y : Nat) : Int)) H
theorem mt_count : MtR X "list.count" rCount := by
  intro pins s σ H x vs v us Q I rx rv h
  obtain ⟨l, xs, y, rfl, rfl, hH, fy, fs, q⟩ := h
  cases rx
  obtain ⟨u, rfl, ru⟩ := rv.one
  obtain ⟨z, its, n, r, hl, e⟩ := I.lstM hH
  refine call_meets F.slot_list_count ⟨_, e, rfl⟩ F.entry_list_count (F.args_list_count_2 _ _) (SeqAt.list_countAt l its.toArray n none #[] u (eqU y)) ⟨e, fun w hw => mem_eqAt ru fy r fs w (by simpa using hw), ?_⟩
  refine ⟨.int _, H, I.tok _, ⟨_, rfl⟩, ?_⟩
  have ec : its.toArray.toList.countP (eqU y) = xs.countP fun z => eqV z y := count_eqU r fs
  rw [ec]
  exact q
/-- z[lo:hi] of a text -/
def rSlS : V → Option Int → Option Int → Hp → VK → Prop := fun x lo hi H Q => ∃ z, x = .str z ∧ z.length ≤ sizeLine ∧ Q (.str (Txt.slice z lo hi)) H
theorem sl_str : SlR X rSlS := by
  intro pins s σ H x v vl vu lo hi sl Q I rx hs pl pu h
  obtain ⟨z, rfl, hz, q⟩ := h
  obtain ⟨t, rfl⟩ := rx
  cases pl with
  | none =>
    cases pu with
    | none => exact ⟨"str", _, F.slot_str_getitem.lookup, typeIs_str _ _ _, wpAny_getItem_str_slice (l := none) (u := none) (st := none) hs rfl (post_val_or_str ⟨Nat.le_trans (Txt.slice_le z _ _) hz, fun t' k => ⟨.str _, H, I.tok k, ⟨_, rfl⟩, q⟩⟩)⟩
    | int j tj => exact ⟨"str", _, F.slot_str_getitem.lookup, typeIs_str _ _ _, wpAny_getItem_str_slice (l := none) (u := some (j, tj)) (st := none) hs rfl (post_val_or_str ⟨Nat.le_trans (Txt.slice_le z _ _) hz, fun t' k => ⟨.str _, H, I.tok k, ⟨_, rfl⟩, q⟩⟩)⟩
  | int i ti =>
    cases pu with
    | none => exact ⟨"str", _, F.slot_str_getitem.lookup, typeIs_str _ _ _, wpAny_getItem_str_slice (l := some (i, ti)) (u := none) (st := none) hs rfl (post_val_or_str ⟨Nat.le_trans (Txt.slice_le z _ _) hz, fun t' k => ⟨.str _, H, I.tok k, ⟨_, rfl⟩, q⟩⟩)⟩
    | int j tj => exact ⟨"str", _, F.slot_str_getitem.lookup, typeIs_str _ _ _, wpAny_getItem_str_slice (l := some (i, ti)) (u := some (j, tj)) (st := none) hs rfl (post_val_or_str ⟨Nat.le_trans (Txt.slice_le z _ _) hz, fun t' k => ⟨.str _, H, I.tok k, ⟨_, rfl⟩, q⟩⟩)⟩
/-- // by any positive divisor of fewer than 9,000 bits -/
def CDivL (_i j : Int) : Prop := 0 < j ∧ j.natAbs.log2 < 9000
theorem op_fdivL : OpR X (binaryOp .FloorDiv) (rI CDivL fun i j => .int (i / j)) := opI fun i j _ _ _ _ _ hc q => by
  have h1 : (0 : Int) < j := hc.1
  exact floordiv_int (by omega) (by rw [Int.fdiv_eq_ediv_of_nonneg i (by omega)]; exact q) (.inl (PyProof.noPylong_of_log2 hc.2))

/-! ### == of data -/
end
mutual
def Dt (K : PySem.W.Frag) (H : Hp) : PyData → V → Prop
  | .none, x => x = .non
  | .bool b, x => x = .bl b
  | .int i, x => x = .int i
  | .str z, x => x = .str z
  | .list ds, x => ∃ a xs, x = .ref a ∧ SqL K H a xs ∧ DtAll K H ds xs
  | .tuple ds, x => ∃ a xs, x = .ref a ∧ SqT K H a xs ∧ DtAll K H ds xs
  | .dict _, _ => False
def DtAll (K : PySem.W.Frag) (H : Hp) : List PyData → List V → Prop
  | [], xs => xs = []
  | d :: ds, xs => ∃ x r, xs = x :: r ∧ Dt K H d x ∧ DtAll K H ds r
end
section
variable {X : Cx}
mutual
theorem reads_of {pins : List (Addr × Obj)} {s : Shared} {σ : St} {H : Hp} (I : Inv X pins σ H s) : ∀ (d : PyData) (x : V) (v : Value), Dt X.K H d x → RelV x v → ∃ as, Reads s.heap v d as
  | .none, x, v, h, r => by
    rw [Dt] at h
    subst h
    cases r
    exact ⟨_, .none⟩
  | .bool b, x, v, h, r => by
    rw [Dt] at h
    subst h
    cases r
    exact ⟨_, .bool b⟩
  | .int i, x, v, h, r => by
    rw [Dt] at h
    subst h
    obtain ⟨t, rfl⟩ := r
    exact ⟨_, .int i t⟩
  | .str z, x, v, h, r => by
    rw [Dt] at h
    subst h
    obtain ⟨t, rfl⟩ := r
    exact ⟨_, .str z t⟩
  | .list ds, x, v, h, r => by
    rw [Dt] at h
    obtain ⟨a, xs, rfl, hq, ha⟩ := h
    cases r
    obtain ⟨its, rv, ⟨o, n, e, c, _, d⟩, _⟩ := I.list hq
    obtain ⟨as, ra⟩ := readsAll_of I ds xs its ha rv
    exact ⟨_, .list e c d (by simpa using ra)⟩
  | .tuple ds, x, v, h, r => by
    rw [Dt] at h
    obtain ⟨a, xs, rfl, hq, ha⟩ := h
    cases r
    obtain ⟨its, rv, ⟨o, e, c, n, d⟩, _⟩ := I.tuple hq
    obtain ⟨as, ra⟩ := readsAll_of I ds xs its ha rv
    exact ⟨_, .tuple e c d (by simpa using ra)⟩
  | .dict _, x, v, h, r => by
    rw [Dt] at h
    exact h.elim
theorem readsAll_of {pins : List (Addr × Obj)} {s : Shared} {σ : St} {H : Hp} (I : Inv X pins σ H s) : ∀ (ds : List PyData) (xs : List V) (vs : List Value), DtAll X.K H ds xs → Vals xs vs → ∃ as, ReadsAll s.heap vs ds as
  | [], xs, vs, h, r => by
    rw [DtAll] at h
    subst h
    cases r
    exact ⟨_, .nil⟩
  | d :: ds, xs, vs, h, r => by
    rw [DtAll] at h
    obtain ⟨x, r', rfl, h1, h2⟩ := h
    cases r with
    | cons r1 r2 =>
      obtain ⟨as, q1⟩ := reads_of I d x _ h1 r1
      obtain ⟨bs, q2⟩ := readsAll_of I ds r' _ h2 r2
      exact ⟨_, .cons q1 q2⟩
end
def rEqD (K : PySem.W.Frag) (neg : Bool) : R2 := fun x y H Q => ∃ d e, Dt K H d x ∧ Dt K H e y ∧ SeqAt.shaped d = true ∧ SeqAt.shaped e = true ∧ Q (.bl (if neg then !PyData.eqv d e else PyData.eqv d e)) H
theorem op_eqD (hu : X.A.units + 64 < cLine) : OpR X (compareOp .Eq) (rEqD X.K false) := by
  intro pins s σ H x y v u Q I rx ry h
  obtain ⟨d, e, h1, h2, h3, h4, q⟩ := h
  obtain ⟨as, r1⟩ := reads_of I d x v h1 rx
  obtain ⟨bs, r2⟩ := reads_of I e y u h2 ry
  exact eq_dataH r1 r2 h3 h4 hu ⟨.bl _, H, I, rfl, q⟩
theorem op_neD (hu : X.A.units + 64 < cLine) : OpR X (compareOp .NotEq) (rEqD X.K true) := by
  intro pins s σ H x y v u Q I rx ry h
  obtain ⟨d, e, h1, h2, h3, h4, q⟩ := h
  obtain ⟨as, r1⟩ := reads_of I d x v h1 rx
  obtain ⟨bs, r2⟩ := reads_of I e y u h2 ry
  exact ne_dataH r1 r2 h3 h4 hu ⟨.bl _, H, I, rfl, q⟩
end
/-! a list of texts as data -/
theorem dtAll_strs {K : PySem.W.Frag} {H : Hp} : ∀ zs : List Str, DtAll K H (zs.map PyData.str) (zs.map V.str)
  | [] => by rw [List.map_nil, DtAll]; rfl
  | z :: r => by
    rw [List.map_cons, List.map_cons, DtAll]
    exact ⟨_, _, rfl, by rw [Dt], dtAll_strs r⟩
theorem eqvAll_strs : ∀ xs ys : List Str, PyData.eqvAll (xs.map PyData.str) (ys.map PyData.str) = decide (xs = ys)
  | [], [] => by simp [PyData.eqvAll]
  | [], _ :: _ => by simp [PyData.eqvAll]
  | _ :: _, [] => by simp [PyData.eqvAll]
  | a :: r, b :: t => by
    simp only [List.map_cons, PyData.eqvAll, PyData.eqv, eqvAll_strs r t]
    by_cases h : a = b <;> by_cases h' : r = t <;> simp [h, h']
theorem lay_strs : ∀ zs : List Str, (∀ z ∈ zs, PyData.strOk z = true) → PyData.canLayAll0 (zs.map PyData.str) = true
  | [], _ => rfl
  | z :: r, h => by
    have h1 := h z List.mem_cons_self
    have h2 := lay_strs r fun y hy => h y (List.mem_cons_of_mem _ hy)
    simp [PyData.canLayAll0, PyData.canLay0, h1, h2]
theorem depth_strs : ∀ zs : List Str, PyData.depthAll (zs.map PyData.str) = 0
  | [] => rfl
  | _ :: r => by simp [PyData.depthAll, PyData.depth, depth_strs r]
theorem shaped_strs (zs : List Str) (h : ∀ z ∈ zs, PyData.strOk z = true) : SeqAt.shaped (.list (zs.map PyData.str)) = true := by
  simp [SeqAt.shaped, PyData.canLay0, PyData.depth, lay_strs zs h, depth_strs]
/-! ### a comprehension's scope, checked at once -/
def cscOk (osc : Scope) (N : List Str) (scope : Scope) (x : Str) (fs : List Str) (fr : List Nat) : Bool :=
  scope.kind == .function && scope.names.lookup x == some .local && scope.names.all (fun y => !(y.2 == .local) || scope.names.lookup y.1 == some .local) && scope.names.all (fun y => !(y.2 == .cell)) &&
    (frees scope).all (fun n => osc.names.lookup n == some .cell && scope.names.lookup n == some .free) && decide ((x :: fs).Nodup) && fr.length == fs.length &&
    (List.range fs.length).all (fun j => match fs[j]?, fr[j]? with | some y, some k => N[k]? == some y && decide (y ∈ frees scope) | _, _ => false)
theorem compSc_mk {X : Cx} {scope : Scope} {x : Str} {fs : List Str} {fr : List Nat} (h : cscOk X.env.scope X.N scope x fs fr = true := by kernel_rfl) : CompSc X scope x fs fr := by
  unfold cscOk at h
  simp only [Bool.and_eq_true] at h
  obtain ⟨⟨⟨⟨⟨⟨⟨h1, h2⟩, h3⟩, h4⟩, h5⟩, h6⟩, h7⟩, h8⟩ := h
  refine ⟨eq_of_beq h1, eq_of_beq h2, fun y hy e => ?_, fun y hy e => ?_, fun n hn => ?_, of_decide_eq_true h6, eq_of_beq h7, fun j y k e1 e2 => ?_⟩
  · have := List.all_eq_true.mp h3 y hy
    rw [e] at this
    simpa using this
  · have := List.all_eq_true.mp h4 y hy
    rw [e] at this
    simp at this
  · have := List.all_eq_true.mp h5 n hn
    rw [Bool.and_eq_true] at this
    exact ⟨eq_of_beq this.1, eq_of_beq this.2⟩
  · have := List.all_eq_true.mp h8 j (List.mem_range.mpr (List.getElem?_eq_some_iff.mp e1).1)
    rw [e1, e2] at this
    simp only [Bool.and_eq_true] at this
    exact ⟨eq_of_beq this.1, of_decide_eq_true this.2⟩

/-! ### a def of the text, all that a call asks -/
def DefOk (P : Program) (w : World) (K : PySem.W.Frag) (mg : Str → Option Value) (base : Heap) (k : Nat) (x : Str) (ps : List Str) (sp : Sp) : Prop :=
  ∃ f fd, FnOk P w K mg base CX0 k f fd ps sp ∧ mg x = some (.ref f) ∧ PySem.W.keepIn K (.ref f) = true ∧ Binds K fd ps []
theorem cl {X : Cx} {k : Nat} {x : Str} {ps : List Str} {sp : Sp} {j : Nat} {e : Expr} {es : List Expr} {t : TA} {p pos : Pos} (D : DefOk X.prog X.w X.K X.mg X.base k x ps sp) (hr : Room j X.A) (ha : PA X (e :: es) t) (hk : k ≤ j := by decide) (hg : Gl X x := by rfl)
    (hdb : (x == ("__debug__" : Str)) = false := by decide) (he : starEach (e :: es) X.env = (false, eval e X.env) :: starEach es X.env := by rfl) (hpl : (backTo pos (starEach es X.env)).any (·.1) = false := by rfl) :
    PE X (.Call (.Name x p) (e :: es) [] pos) (tCall sp [] E0 t) := by
  obtain ⟨f, fd, F, m, kp, b⟩ := D
  exact pe_call F (hr.mono hk) hg m kp b .nil pass0 ha hdb he hpl
/-! ### a list extended by a tuple, a tuple taken twice or more -/
theorem list_extend_tup (l : Addr) (items : Array Value) (n : Nat) (b : Addr) (dd : Option Addr) (sl : Array (Option Value)) (items2 : Array Value) (n2 : Nat) (hs0 : ¬(!items.isEmpty && Builtin.List.listTooLong (items.size + items2.size)) = true) (hs1 : items.size ≤ sizeLine) (hs2 : items.size + items2.size ≤ sizeLine + 1) :
    Meets (Builtin.«list.extend» ⟨[.ref l, .ref b], []⟩) (fun _ R s => s.heap.get? l = some { cls := .type "list", dict := none, data := .seq items n, slots := #[] } ∧ s.heap.get? b = some { cls := .type "tuple", dict := dd, data := .seq items2 n2, slots := sl } ∧ R (.ok (.ret Value.none)) { s with heap := s.heap.update l (Obj.mapSeq fun x => x ++ items2), toks := s.toks }) :=
  .of_wp fun prog w A R s h => by
    obtain ⟨hp, g, d, tk, os⟩ := s; obtain ⟨hl, hb, h⟩ := h
    have hz' : (items ++ items2).size ≤ sizeLine + 1 := by rw [Array.size_append]; exact hs2
    wp_walk using (wpAny_updateSeq hl rfl (hz := hs1) (_hz' := hz')), wpAny_loadPart' hl, wpAny_loadPart' hb
    exact ⟨_, rfl, h⟩
theorem noFill_tuple_mul : fillsNumberSlot (.type "tuple") "mul" = pure false :=
  PySem.fillsNumberSlot_seq (id := "tuple.__mul__") (r := some (.builtin "tuple.__rmul__")) F.slot_tuple_mul.lookup (by decide +kernel) F.slot_tuple_rmul.lookup (by decide +kernel)
theorem repeat_tuple : seqRepeat? (.type "tuple") = pure (some (.builtin "tuple.__mul__")) := by
  unfold seqRepeat?
  rw [PySem.seqSlot_of (T := "tuple") (name := "__mul__") (id := "tuple.__mul__") F.slot_tuple_mul.lookup (by decide +kernel), PySem.seqSlot_of (T := "tuple") (name := "__rmul__") (id := "tuple.__rmul__") F.slot_tuple_rmul.lookup (by decide +kernel)]
  rfl
theorem int_rmul_tuple (a : Int) (t : Tok) (l : Addr) (dd : Option Addr) (items : Array Value) (n : Nat) (sl : Array (Option Value)) :
    Meets (Builtin.«int.__rmul__» ⟨[.int a t, .ref l], []⟩) (fun _ R s => s.heap.get? l = some { cls := .type "tuple", dict := dd, data := .seq items n, slots := sl } ∧ R (.ok (.ret Value.notImplemented)) s) :=
  .of_wp fun prog w A R s h => by obtain ⟨hp, g, d, tk, os⟩ := s; obtain ⟨hl, h⟩ := h; wp_walk; exact ⟨_, rfl, h⟩
theorem tuple_mul (l : Addr) (dd : Option Addr) (items : Array Value) (n : Nat) (sl : Array (Option Value)) (x : Int) (u : Tok) (h2 : 2 ≤ x) (hx : x < 2 ^ 63) (hne : items.isEmpty = false) (hcap : ¬ (items.size : Int) * x > (2 ^ 63 - 1) / 8) (hm : Builtin.Tuple.tupleTooMany ((items.size : Int) * x) = false)
    (hz : (List.foldl (fun x1 x2 => x1 ++ x2) #[] (List.replicate x.toNat items)).size ≤ sizeLine) :
    Meets (Builtin.«tuple.__mul__» ⟨[.ref l, .int x u], []⟩) (fun _ R s => s.heap.get? l = some { cls := .type "tuple", dict := dd, data := .seq items n, slots := sl } ∧ R (.ok (.ret (.ref s.heap.objs.size))) { s with heap := s.heap.push { cls := .type "tuple", data := .seq (List.foldl (fun x1 x2 => x1 ++ x2) #[] (List.replicate x.toNat items)) }, toks := s.toks }) :=
  .of_wp fun prog w A R s h => by
    obtain ⟨hp, g, d, tk, os⟩ := s; obtain ⟨hl, h⟩ := h
    have c1 : (decide (x < -(2 ^ 63)) || decide (x ≥ 2 ^ 63)) = false := by
      rw [decide_eq_false (by omega), decide_eq_false (by omega)]; rfl
    have c2 : (x == 1) = false := by simp; omega
    have c3 : decide (x ≤ 0) = false := decide_eq_false (by omega)
    wp_walk using wpAny_loadPart' hl
    refine wpAny_ite_false (by rw [c1]; rfl) ?_
    wp_walk using wpAny_loadPart' hl
    refine wpAny_ite_false (decide_eq_false hcap) ?_
    wp_walk using wpAny_loadPart' hl
    exact ⟨_, rfl, h⟩
section
variable {X : Cx}
def rExtendT (K : PySem.W.Frag) : V → List V → Hp → VK → Prop := fun x vs H Q => ∃ l b xs zs, x = .ref l ∧ vs = [.ref b] ∧ H l = some (.lst xs) ∧ SqT K H b zs ∧ xs.length + zs.length ≤ sizeLine ∧ Q .non (upd H l (.lst (xs ++ zs)))
theorem mt_extendT : MtM X "list.extend" (rExtendT X.K) := by
  intro pins s σ H x vs v us Q I rx rv h
  obtain ⟨l, b, xs, zs, rfl, rfl, hH, hB, hz, q⟩ := h
  cases rx
  obtain ⟨u, rfl, ru⟩ := rv.one
  cases ru
  obtain ⟨z, its, n, r, hl, e⟩ := I.lstM hH
  obtain ⟨its2, r2, ⟨⟨cls, dd, data, sl⟩, e2, hc2, n2, hd2⟩, z2⟩ := I.tuple hB
  simp only at hc2 hd2
  subst hc2 hd2
  have hl2 := r2.length
  have hsz : its.toArray.size + its2.toArray.size ≤ sizeLine := by rw [List.size_toArray, List.size_toArray]; omega
  have hlong : ¬ (!its.toArray.isEmpty && Builtin.List.listTooLong (its.toArray.size + its2.toArray.size)) = true := by
    rw [notLongL hsz, Bool.and_false]
    exact Bool.false_ne_true
  refine call_meets F.slot_list_extend ⟨_, e, rfl⟩ F.entry_list_extend (F.args_list_extend_2 _ _)
    (list_extend_tup l its.toArray n b dd sl its2.toArray n2 hlong (by rw [List.size_toArray]; omega) (by omega)) ⟨e, e2, ?_⟩
  refine ⟨.non, _, I.lset (its' := its ++ its2) hH e (by simp) (r.append r2) ?_, rfl, q⟩
  rw [List.length_append]
  omega
/-- a tuple that is not empty, taken k times, k two or more -/
def rMulT (K : PySem.W.Frag) : R2 := fun x y H Q => ∃ a k xs, x = .ref a ∧ y = .int k ∧ SqT K H a xs ∧ xs ≠ [] ∧ 2 ≤ k ∧ k ≤ 1000 ∧ xs.length ≤ 1000 ∧ ∀ p, H p = none → Q (.ref p) (upd H p (.tup (List.replicate k.toNat xs).flatten))
theorem op_mulT : OpR X (binaryOp .Mult) (rMulT X.K) := by
  intro pins s σ H x y v u Q I rx ry h
  obtain ⟨a, k, xs, rfl, rfl, hH, hne, h1, h2, hz, q⟩ := h
  cases rx
  obtain ⟨t, rfl⟩ := ry
  obtain ⟨its, r, ⟨⟨cls, dd, data, sl⟩, e, hc, n, hd⟩, z⟩ := I.tuple hH
  simp only at hc hd
  subst hc hd
  have hl := r.length
  have hfold : List.foldl (fun x1 x2 => x1 ++ x2) #[] (List.replicate k.toNat its.toArray) = (List.replicate k.toNat its).flatten.toArray := by
    have := foldl_rep its k.toNat []
    rw [List.nil_append] at this
    exact this
  have hlen : ((List.replicate k.toNat its).flatten).length ≤ 1000000 := by
    rw [len_rep]
    exact Nat.le_trans (Nat.mul_le_mul (show k.toNat ≤ 1000 by omega) (show its.length ≤ 1000 by omega)) (by decide)
  have hsl : (1000000 : Nat) ≤ sizeLine := by rw [sizeLine_eq]; decide
  have hprod : (its.toArray.size : Int) * k ≤ 1000000 := by
    rw [List.size_toArray]
    have e1 : (its.length : Int) * k ≤ 1000 * 1000 := Int.mul_le_mul (by omega) h2 (by omega) (by decide)
    omega
  have hempty : its.toArray.isEmpty = false := by
    cases its with
    | nil => cases r; exact absurd rfl hne
    | cons b l => rfl
  refine wpAny_binaryOp_repeat_ref (T := "tuple") (U := "int") (by decide) ⟨_, e, rfl⟩ (fun s' => typeIs_int s' k t) noFill_tuple_mul F.fills_int_mul F.slot_int_rmul repeat_tuple F.slot_int_index.lookup
    (call_meets F.slot_int_rmul (typeIs_int s k t) F.entry_int_rmul (F.args_int_rmul_2 _ _) (int_rmul_tuple k t a dd its.toArray n sl)
      ⟨e, rfl, ⟨_, e, rfl⟩, call_meets F.slot_tuple_mul ⟨_, e, rfl⟩ F.entry_tuple_mul (F.args_tuple_mul_2 _ _) (tuple_mul a dd its.toArray n sl k t h1 (by omega) hempty (by omega) (by
        unfold Builtin.Tuple.tupleTooMany
        refine decide_eq_false ?_
        have : ((1000000 : Nat) : Int) ≤ (sizeLine : Int) := Int.ofNat_le.mpr hsl
        omega) (by rw [hfold, List.size_toArray]; exact Nat.le_trans hlen hsl)) ⟨e, ?_⟩⟩)
  rw [hfold]
  refine ⟨.ref s.heap.objs.size, _, I.laid (t' := s.toks) (o := .tup (List.replicate k.toNat xs).flatten) (fun b ob q => Heap.get?_push_of_some _ q) (Nat.le_refl _) ?_, rfl, q _ (I.hok.fresh (Nat.le_refl _))⟩
  refine ⟨?_, _, r.rep k.toNat, IsTup.new _ _⟩
  rw [len_rep]
  exact Nat.le_trans (Nat.mul_le_mul (show k.toNat ≤ 1000 by omega) hz) (by rw [sizeLine_eq]; decide)
end
/-- a body cut at its n-th statement: C is what holds there -/
theorem cut {X : Cx} {body : List Stmt} {D : Ends} {σ0 : St} {H0 : Hp} (n : Nat) (C : St → Hp → Prop) (ht : ∃ t2, PSs X (body.drop n) t2 ∧ ∀ σ H, C σ H → t2 D σ H)
    (hh : ∀ t2, PSs X (body.drop n) t2 → ∃ t, PSs X body t ∧ ((∀ σ H, C σ H → t2 D σ H) → t D σ0 H0)) : ∃ t, PSs X body t ∧ t D σ0 H0 := by
  obtain ⟨t2, p, q⟩ := ht
  obtain ⟨t, p', q'⟩ := hh t2 p
  exact ⟨t, p', q' q⟩
theorem cutA {X : Cx} {body : List Stmt} {D : Ends} {B : St → Hp → Prop} (n : Nat) (C : St → Hp → Prop) (ht : ∃ t2, PSs X (body.drop n) t2 ∧ ∀ σ H, C σ H → t2 D σ H)
    (hh : ∀ t2, PSs X (body.drop n) t2 → ∃ t, PSs X body t ∧ ((∀ σ H, C σ H → t2 D σ H) → ∀ σ H, B σ H → t D σ H)) : ∃ t, PSs X body t ∧ ∀ σ H, B σ H → t D σ H := by
  obtain ⟨t2, p, q⟩ := ht
  obtain ⟨t, p', q'⟩ := hh t2 p
  exact ⟨t, p', q' q⟩
/-- a module's int, a module's text -/
theorem pe_globI {X : Cx} {x : Str} {i : Int} {pos : Pos} (hg : Gl X x) (hm : ∃ t, X.mg x = some (.int i t)) (hd : (x == ("__debug__" : Str)) = false := by decide) : PE X (.Name x pos) (tC (.int i)) := by
  obtain ⟨t, hm⟩ := hm
  exact pe_glob hg hm ⟨t, rfl⟩ hd
theorem pe_globS {X : Cx} {x : Str} {z : Str} {pos : Pos} (hg : Gl X x) (hm : ∃ t, X.mg x = some (.str z t)) (hd : (x == ("__debug__" : Str)) = false := by decide) : PE X (.Name x pos) (tC (.str z)) := by
  obtain ⟨t, hm⟩ := hm
  exact pe_glob hg hm ⟨t, rfl⟩ hd
/-! the same rules with the written part named, for a comprehension's element -/
section
variable {X : Cx} {K : PySem.W.Frag}
theorem ix_listK (h : X.K = K := by rfl) : IxR X (rIxL K) := h ▸ ix_list
theorem ix_tupK (h : X.K = K := by rfl) : IxR X (rIxT K) := h ▸ ix_tup
theorem call_lenK (h : X.K = K := by rfl) : CallR X (.builtin "len") (fun xs H Q => ∃ x n, xs = [x] ∧ LenV K x H n ∧ Q (.int n) H) := h ▸ call_len
theorem op_in_seqK (h : X.K = K := by rfl) : OpR X (compareOp .In) (rIn K false) := h ▸ op_in_seq
theorem op_notIn_seqK (h : X.K = K := by rfl) : OpR X (compareOp .NotIn) (rIn K true) := h ▸ op_notIn_seq
theorem call_isinstK (h : X.K = K := by rfl) : CallR X (.builtin "isinstance") (fun xs H Q => ∃ x n t b, xs = [x, .ty n] ∧ TyOf K H x t ∧ PySem.W.kitOne K t (.type n) = some b ∧ Q (.bl b) H) := h ▸ call_isinst
end
theorem rd_true {σ : St} {H : Hp} {A B : Hp → Prop} (h : A H) : tTrue σ H (fun b H4 => if b = true then A H4 else B H4) := by
  show (if true = true then A H else B H)
  rw [if_pos rfl]
  exact h
end L2

set_option Elab.async false
set_option linter.all false
set_option maxRecDepth 100000
set_option maxHeartbeats 4000000
/-! Further rules: slices of tuples (whole ones, turned about), tuples joined (the first one empty), a list against an empty one. -/
namespace HT
open PySem PySem.Spec PyProof.Rows
section
variable {prog : Program} {w : World} {A : Around} {E : Value → Shared → Prop} {s : Shared}
/-- t[a:b], the whole -/
theorem getItem_tuple_whole {t sl : Addr} {items : Array Value} {vl vu : Value} {lo hi : Option Int} {Q : Value → Shared → Prop} (ht : IsTup s.heap t items) (hs : s.heap.IsSliceOf sl vl vu .none) (pl : IsPart vl lo) (pu : IsPart vu hi)
    (hw : sIx items.size 0 lo = 0 ∧ sIx items.size items.size hi = items.size) (h : Q (.ref t) s) : wpAny (model prog w) A (getItem (.ref t) (.ref sl)) Q E s := by
  obtain ⟨os, hos, hcs, hds⟩ := id hs
  have hTs : s.TypeIs (.ref sl) "slice" := ⟨os, hos, hcs⟩
  unfold getItem
  try with_reducible refine wpAny_holding ?_
  first | refine wpAny_bind (wpAny_pure ?_) | skip
  refine wpAny_bind (wpAny_sequenceKey ht.typeIs (by decide) ?_)
  refine wpAny_bind (wpAny_callSpecial?_slot (name := Str.ofString "__getitem__") ht.typeIs PyProof.Rows.slot_tuple_getitem
    (wpAny_call_entry PyProof.Rows.slot_tuple_getitem ht.typeIs entry_tuple_getitem ?_ (args_tuple_getitem _ _)))
  show wpAny _ _ (Builtin.Tuple.tupleItemsOf (.ref t) >>= _) _ _ s
  refine wpAny_bind (tupleItemsOf_ ht ?_)
  refine wpAny_bind (wpAny_typeOf hTs ?_)
  rw [if_pos (by decide)]
  refine wpAny_bind (sliceApplied_gen hs pl pu ?_)
  have hyes : (((sIx items.size 0 lo : Nat) : Int) == 0 && (1 : Int) == 1 && (sIx items.size items.size hi - sIx items.size 0 lo) == items.size) = true := by
    rw [hw.1, hw.2]
    simp
  show wpAny _ _ (if (((sIx items.size 0 lo : Nat) : Int) == 0 && (1 : Int) == 1 && (sIx items.size items.size hi - sIx items.size 0 lo) == items.size) = true then _ else _) _ _ s
  rw [if_pos hyes]
  unfold Builtin.Tuple.tupleIsExact
  refine wpAny_bind (wpAny_bind (wpAny_typeOf ht.typeIs ?_))
  refine wpAny_pure ?_
  rw [if_pos (by decide)]
  wp_walk
  exact ⟨_, rfl, wpAny_pure h⟩

/-! ### t[::-1] -/
theorem adjust_rev (n : Nat) : Builtin.Slice.sliceAdjust none none (-1) (n : Int) = ((n : Int) - 1, -1) := by
  unfold Builtin.Slice.sliceAdjust
  rfl
theorem places_rev (n : Nat) : Builtin.Slice.slicePlaces ((n : Int) - 1) (-1) (-1) = n := by
  unfold Builtin.Slice.slicePlaces
  rw [if_neg (by decide)]
  split
  · rw [show -(-1 : Int) = 1 by decide, Int.ediv_one]
    omega
  · omega
theorem sliceApplied_rev {sl : Addr} {n : Nat} {u : Tok} {Q : Int × Int × Nat → Shared → Prop} (hs : s.heap.IsSliceOf sl .none .none (.int (-1) u)) (h : Q ((n : Int) - 1, -1, n) s) :
    wpAny (model prog w) A (Builtin.Slice.sliceApplied (.ref sl) (pure (n : Int))) Q E s := by
  obtain ⟨os, hos, hcs, hds⟩ := id hs
  unfold Builtin.Slice.sliceApplied Builtin.Slice.sliceFields
  refine wpAny_bind (wpAny_bind (wpAny_field hos hds (x := .none) rfl (wpAny_bind (wpAny_field hos hds (x := .none) rfl (wpAny_bind (wpAny_field hos hds (x := .int (-1) u) rfl (wpAny_pure ?_)))))))
  refine wpAny_bind (slicePart_int ?_)
  show wpAny _ _ (if ((-1 : Int) == 0) = true then _ else _) _ _ s
  rw [if_neg (by decide)]
  refine wpAny_bind (slicePart_none (wpAny_bind (slicePart_none (wpAny_bind (wpAny_pure ?_)))))
  show wpAny _ _ (match Builtin.Slice.sliceAdjust none none (-1) (n : Int) with | (lo, hi) => pure (lo, (-1 : Int), Builtin.Slice.slicePlaces lo hi (-1))) _ _ s
  rw [adjust_rev n]
  show wpAny _ _ (pure ((n : Int) - 1, (-1 : Int), Builtin.Slice.slicePlaces ((n : Int) - 1) (-1) (-1))) _ _ s
  rw [places_rev]
  exact wpAny_pure h
theorem filterMap_some {α β : Type} (f : α → Option β) (g : α → β) : ∀ l : List α, (∀ x ∈ l, f x = some (g x)) → l.filterMap f = l.map g
  | [], _ => rfl
  | a :: r, h => by
    rw [List.filterMap_cons, h a List.mem_cons_self, List.map_cons, filterMap_some f g r fun x hx => h x (List.mem_cons_of_mem _ hx)]
theorem pick_rev (xs : Array Value) : ((List.range xs.size).filterMap fun (k : Nat) => xs[(((xs.size : Nat) : Int) - 1 + (k : Int) * -1).toNat]?).toArray = xs.toList.reverse.toArray := by
  refine congrArg List.toArray ?_
  refine List.ext_getElem? fun i => ?_
  rw [filterMap_some _ (fun k => (xs[xs.size - 1 - k]?).getD .none) _ fun k hk => ?_]
  · rw [List.getElem?_map]
    by_cases hi : i < xs.size
    · rw [List.getElem?_range hi, List.getElem?_reverse (by simpa using hi), Array.length_toList, Array.getElem?_toList, Array.getElem?_eq_getElem (show xs.size - 1 - i < xs.size by omega)]
      simp [Array.getElem?_eq_getElem (show xs.size - 1 - i < xs.size by omega)]
    · rw [List.getElem?_eq_none (by simpa using Nat.le_of_not_lt hi), List.getElem?_eq_none (by simpa using Nat.le_of_not_lt hi)]
      rfl
  · have hk' := List.mem_range.mp hk
    have e : (((xs.size : Nat) : Int) - 1 + (k : Int) * -1).toNat = xs.size - 1 - k := by omega
    rw [e, Array.getElem?_eq_getElem (show xs.size - 1 - k < xs.size by omega)]
    rfl
theorem getItem_tuple_rev {t sl : Addr} {items : Array Value} {u : Tok} {Q : Value → Shared → Prop} (ht : IsTup s.heap t items) (hs : s.heap.IsSliceOf sl .none .none (.int (-1) u))
    (h : Q (.ref s.heap.objs.size) { s with heap := s.heap.push { cls := .type "tuple", data := .seq items.toList.reverse.toArray } })
    (hsz : items.size ≤ sizeLine) : wpAny (model prog w) A (getItem (.ref t) (.ref sl)) Q E s := by
  have htake : sizeOk (.seq items.toList.reverse.toArray) := by
    show items.toList.reverse.toArray.size ≤ sizeLine
    rw [List.size_toArray, List.length_reverse, Array.length_toList]
    exact hsz
  obtain ⟨os, hos, hcs, hds⟩ := id hs
  have hTs : s.TypeIs (.ref sl) "slice" := ⟨os, hos, hcs⟩
  unfold getItem
  try with_reducible refine wpAny_holding ?_
  first | refine wpAny_bind (wpAny_pure ?_) | skip
  refine wpAny_bind (wpAny_sequenceKey ht.typeIs (by decide) ?_)
  refine wpAny_bind (wpAny_callSpecial?_slot (name := Str.ofString "__getitem__") ht.typeIs PyProof.Rows.slot_tuple_getitem
    (wpAny_call_entry PyProof.Rows.slot_tuple_getitem ht.typeIs entry_tuple_getitem ?_ (args_tuple_getitem _ _)))
  show wpAny _ _ (Builtin.Tuple.tupleItemsOf (.ref t) >>= _) _ _ s
  refine wpAny_bind (tupleItemsOf_ ht ?_)
  refine wpAny_bind (wpAny_typeOf hTs ?_)
  rw [if_pos (by decide)]
  refine wpAny_bind (sliceApplied_rev hs ?_)
  have hno : ¬ ((((items.size : Nat) : Int) - 1 == 0 && (-1 : Int) == 1 && items.size == items.size) = true) := by
    rw [show ((-1 : Int) == 1) = false by decide]
    simp
  show wpAny _ _ (if (((items.size : Nat) : Int) - 1 == 0 && (-1 : Int) == 1 && items.size == items.size) = true then _ else _) _ _ s
  rw [if_neg hno, pick_rev]
  first
    | exact wpAny_bind (m := Builtin.Tuple.tupleExact _) (wpAny_newObj_type (wpAny_pure ⟨_, rfl, wpAny_pure h⟩) htake)
    | exact wpAny_bind (m := Builtin.Tuple.tupleExact _) (wpAny_newObj_type (wpAny_bind (wpAny_pure (wpAny_pure ⟨_, rfl, wpAny_pure h⟩))) htake)
    | exact wpAny_bind (wpAny_bind (m := Builtin.Tuple.tupleExact _) (wpAny_newObj_type (wpAny_pure (wpAny_pure ⟨_, rfl, wpAny_pure h⟩)) htake))
    | exact wpAny_bind (wpAny_bind (m := Builtin.Tuple.tupleExact _) (wpAny_newObj_type (wpAny_pure ⟨_, rfl, wpAny_pure h⟩) htake))
/-- t + u, any -/
theorem cat_tupA {t b : Addr} {vs ws : List Value} {Q : Value → Shared → Prop} (ht : IsTup s.heap t vs.toArray) (hb : IsTup s.heap b ws.toArray) (h0 : vs = [] → Q (.ref b) s)
    (h1 : vs ≠ [] → ws = [] → Q (.ref t) s) (h2 : vs ≠ [] → ws ≠ [] → Q (.ref s.heap.objs.size) { s with heap := s.heap.push { cls := .type "tuple", data := .seq (vs ++ ws).toArray } })
    (hsz : vs.length + ws.length ≤ sizeLine) : wpAny (model prog w) A (binaryOp .Add (.ref t) (.ref b)) Q E s := by
  by_cases hv : vs = []
  · obtain ⟨⟨cls, dd, data, sl⟩, ho, hc, n, hd⟩ := id ht
    obtain ⟨⟨cls2, dd2, data2, sl2⟩, ho2, hc2, n2, hd2⟩ := id hb
    simp only at hc hd hc2 hd2
    subst hc hd hc2 hd2
    exact concat_meets ⟨_, ho, rfl⟩ ⟨_, ho2, rfl⟩ noFill_tuple_add seq_tuple_add PySem.F.slot_tuple_add PySem.F.entry_tuple_add (PySem.F.args_tuple_add_2 _ _)
      (tuple_addW0 t b vs.toArray ws.toArray n n2 dd dd2 sl sl2 (by simp [hv])) ⟨ho, ho2, h0 hv⟩
  · exact cat_tup ht hb hv (h1 hv) (h2 hv) hsz
end
end HT
namespace L2
open PySem PySem.Spec PyProof.Rows
section
variable {X : Cx}
/-- t[lo:hi]: the whole is t itself -/
def rSlA (K : PySem.W.Frag) : V → Option Int → Option Int → Hp → VK → Prop := fun x lo hi H Q => ∃ a xs, x = .ref a ∧ SqT K H a xs ∧
  ((HT.sIx xs.length 0 lo = 0 ∧ HT.sIx xs.length xs.length hi = xs.length) → Q (.ref a) H) ∧
  (¬ (HT.sIx xs.length 0 lo = 0 ∧ HT.sIx xs.length xs.length hi = xs.length) → ∀ p, H p = none → Q (.ref p) (upd H p (.tup (cutV xs lo hi))))
theorem sl_tupA : SlR X (rSlA X.K) := by
  intro pins s σ H x v vl vu lo hi sl Q I rx hs pl pu h
  obtain ⟨a, xs, rfl, hx, q1, q2⟩ := h
  by_cases hw : HT.sIx xs.length 0 lo = 0 ∧ HT.sIx xs.length xs.length hi = xs.length
  · cases rx
    obtain ⟨its, r, ht, hz⟩ := I.tuple hx
    have hlen : its.toArray.size = xs.length := by rw [List.size_toArray]; exact r.length.symm
    refine ⟨"tuple", _, PyProof.Rows.slot_tuple_getitem.lookup, ht.typeIs, ?_⟩
    exact HT.getItem_tuple_whole ht hs pl pu (by rw [hlen]; exact hw) ⟨.ref a, H, I, rfl, q1 hw⟩
  · exact sl_tup pins s σ H (.ref a) v vl vu lo hi sl Q I rx hs pl pu ⟨a, xs, rfl, hx, hw, q2 hw⟩
theorem Vals.rev : ∀ {xs : List V} {us : List Value}, Vals xs us → Vals xs.reverse us.reverse
  | _, _, .nil => .nil
  | _, _, .cons r t => by
    rw [List.reverse_cons, List.reverse_cons]
    exact Vals.append (Vals.rev t) (.cons r .nil)
/-- t[::-1] -/
def tRev (K : PySem.W.Frag) (te : TE) (ts : TE) : TE := fun σ H Q => te σ H fun x H1 => ts σ H1 fun y H2 => y = .int (-1) ∧ ∃ a xs, x = .ref a ∧ SqT K H2 a xs ∧ ∀ p, H2 p = none → Q (.ref p) (upd H2 p (.tup xs.reverse))
theorem pe_rev {e st : Expr} {te ts : TE} {p2 pos : Pos} (he : PE X e te) (hst : PE X st ts) : PE X (.Subscript e (.Slice none none (some st) p2) pos) (tRev X.K te ts) := by
  intro pins s σ H Q I h
  refine Subscript_ (thn (he pins s σ H _ I h) fun v s1 ⟨x, H1, I1, r1, q1⟩ => ?_)
  refine wpAny_Slice ?_
  rw [evalPart_none]
  refine wpAny_pure (wpAny_pure ?_)
  rw [evalPart_some]
  refine thn (hst pins s1 σ H1 _ I1 q1) fun vst s3 ⟨y, H3, I3, r3, ey, a, xs, ex, hx, q⟩ => ?_
  subst ey ex
  obtain ⟨u, rfl⟩ := r3
  cases r1
  have I4 : Inv X pins σ H3 { s3 with heap := s3.heap.push { cls := .type "slice", data := .fields #[.none, .none, .int (-1) u] } } := I3.kept (t' := s3.toks) fun b ob q => Heap.get?_push_of_some _ q
  obtain ⟨its, r, ht, hz⟩ := I4.tuple hx
  have hlen : its.toArray.size = xs.length := by rw [List.size_toArray]; exact r.length.symm
  show wpAny (model X.prog X.w) X.A (subscriptTail e (.Slice none none (some st) p2) (.ref a) (.ref s3.heap.objs.size)) (EP X pins σ Q) X.xe { s3 with heap := s3.heap.push { cls := .type "slice", data := .fields #[.none, .none, .int (-1) u] } }
  refine tail_any (ops := [.ref a, .ref s3.heap.objs.size]) ht.typeIs PyProof.Rows.slot_tuple_getitem.lookup (HT.getItem_tuple_rev ht (Heap.IsSliceOf.new ..) ?_ (by rw [hlen]; exact hz)) (by with_unfolding_all rfl)
  refine ⟨.ref _, _, I4.laid (t' := s3.toks) (o := .tup xs.reverse) (fun b ob q => Heap.get?_push_of_some _ q) (Nat.le_refl _) ?_, rfl, q _ (I4.hok.fresh (Nat.le_refl _))⟩
  exact ⟨by rw [List.length_reverse]; exact hz, _, by simpa using r.rev, IsTup.new _ _⟩
/-- t + u: an empty one gives the other itself -/
def rCatA (K : PySem.W.Frag) : R2 := fun x y H Q => ∃ a b xs ys, x = .ref a ∧ y = .ref b ∧ SqT K H a xs ∧ SqT K H b ys ∧ xs.length + ys.length ≤ sizeLine ∧
  (xs = [] → Q (.ref b) H) ∧ (xs ≠ [] → ys = [] → Q (.ref a) H) ∧ (xs ≠ [] → ys ≠ [] → ∀ p, H p = none → Q (.ref p) (upd H p (.tup (xs ++ ys))))
theorem op_catA : OpR X (binaryOp .Add) (rCatA X.K) := by
  intro pins s σ H x y v u Q I rx ry h
  obtain ⟨a, b, xs, ys, rfl, rfl, ha, hb, hz, q0, q1, q2⟩ := h
  cases rx
  cases ry
  obtain ⟨its, r1, p1, _⟩ := I.tuple ha
  obtain ⟨its2, r2, p2, _⟩ := I.tuple hb
  refine HT.cat_tupA p1 p2 (fun z => ⟨.ref b, H, I, rfl, q0 (r1.nil_iff.mp z)⟩) (fun n z => ⟨.ref a, H, I, rfl, q1 (fun z => n (r1.nil_iff.mpr z)) (r2.nil_iff.mp z)⟩) (fun n z => ?_) (by rw [← r1.length, ← r2.length]; exact hz)
  refine ⟨.ref s.heap.objs.size, _, I.laid (t' := s.toks) (o := .tup (xs ++ ys)) (fun b ob q => Heap.get?_push_of_some _ q) (Nat.le_refl _) ?_, rfl, q2 (fun z => n (r1.nil_iff.mpr z)) (fun w => z (r2.nil_iff.mpr w)) _ (I.hok.fresh (Nat.le_refl _))⟩
  exact ⟨by rw [List.length_append]; exact hz, _, r1.append r2, IsTup.new _ _⟩
/-- a list against an empty one -/
def rNil (K : PySem.W.Frag) (neg : Bool) : R2 := fun x y H Q => ∃ a b xs, x = .ref a ∧ y = .ref b ∧ SqL K H a xs ∧ SqL K H b [] ∧ Q (.bl (if neg then !xs.isEmpty else xs.isEmpty)) H
theorem isL {l : Addr} {h : Heap} {its : List Value} (hl : h.IsList l its.toArray) : h.IsList l its.toArray := hl
theorem op_eqN (hu : X.A.units < cLine) : OpR X (compareOp .Eq) (rNil X.K false) := by
  intro pins s σ H x y v u Q I rx ry h
  obtain ⟨a, b, xs, rfl, rfl, ha, hb, q⟩ := h
  cases rx
  cases ry
  obtain ⟨its, r1, p1, _⟩ := I.list ha
  obtain ⟨its2, r2, p2, _⟩ := I.list hb
  cases r2
  cases xs with
  | nil =>
    cases r1
    exact SeqAt.eq_listAt (e := fun _ => true) p1.isList p2.isList rfl hu (fun j h1 _ => absurd h1 (Nat.not_lt_zero _)) ⟨.bl true, H, I, rfl, q⟩
  | cons c l =>
    cases r1 with
    | cons r0 r1 => exact SeqAt.eq_list_lengthsAt p1.isList p2.isList (by simp) hu ⟨.bl false, H, I, rfl, q⟩
theorem op_neN (hu : X.A.units < cLine) : OpR X (compareOp .NotEq) (rNil X.K true) := by
  intro pins s σ H x y v u Q I rx ry h
  obtain ⟨a, b, xs, rfl, rfl, ha, hb, q⟩ := h
  cases rx
  cases ry
  obtain ⟨its, r1, p1, _⟩ := I.list ha
  obtain ⟨its2, r2, p2, _⟩ := I.list hb
  cases r2
  cases xs with
  | nil =>
    cases r1
    exact SeqAt.RcNeAt.lists (e := fun _ => true) p1.isList p2.isList rfl hu (fun j h1 _ => absurd h1 (Nat.not_lt_zero _)) X.prog X.w X.xe _ ⟨.bl false, H, I, rfl, q⟩
  | cons c l =>
    cases r1 with
    | cons r0 r1 => exact SeqAt.RcNeAt.lists_lengths p1.isList p2.isList (by simp) hu X.prog X.w X.xe _ ⟨.bl true, H, I, rfl, q⟩
end
end L2
namespace L2
open PySem PySem.Spec PyProof.Rows
/-! ### comprehensions by an invariant -/
section
variable {K : PySem.W.Frag} {a : Addr} {xs : List V} {fr : List Nat} {tt : TT} {te : TE} {σ : St} {H1 : Hp} {R : Addr → List V → Hp → Prop}
abbrev CompGoal (J : It) (fr : List Nat) (tt : TT) (te : TE) (σ : St) (H1 : Hp) (R : Addr → List V → Hp → Prop) : Prop :=
  ∃ W : Nat → Nat → List V → Hp → Prop, (∃ m, W 0 m [] H1) ∧ ∀ i m ys H2, W i m ys H2 →
  (J.stop i H2 ∧ ys.length ≤ sizeLine ∧ ∀ l, H2 l = none → R l ys H2) ∨
  (J.go i H2 ∧ ys.length < sizeLine ∧ ∀ v H3, J.yld i H2 v H3 → tt (some v :: slotsOf fr σ) H3 fun b H4 =>
    if b = true then te (some v :: slotsOf fr σ) H4 (fun y H5 => ∃ m', m' < m ∧ W (i + 1) m' (ys ++ [y]) H5) else ∃ m', m' < m ∧ W (i + 1) m' ys H4)
theorem comp_tup (Pv : Nat → List V → Hp → Prop) (hx : xs.length < sizeLine) (h0 : Pv 0 [] H1) (hl : ∀ i ys H, i ≤ xs.length → Pv i ys H → SqT K H a xs ∧ ys.length ≤ i)
    (hs : ∀ (i : Nat) (x : V) (ys : List V) (H : Hp) (N : List V → Hp → Prop), xs[i]? = some x → Pv i ys H → (∀ ys' H', Pv (i + 1) ys' H' → N ys' H') →
      tt (some x :: slotsOf fr σ) H fun b H4 => if b = true then te (some x :: slotsOf fr σ) H4 (fun y H5 => N (ys ++ [y]) H5) else N ys H4)
    (hd : ∀ ys H, Pv xs.length ys H → ∀ l, H l = none → R l ys H) : CompGoal (Itt K a) fr tt te σ H1 R := by
  refine ⟨fun i m ys H => m = xs.length - i ∧ i ≤ xs.length ∧ Pv i ys H, ⟨xs.length, by simp, Nat.zero_le _, h0⟩, ?_⟩
  rintro i m ys H ⟨rfl, hi, p⟩
  obtain ⟨q, hy⟩ := hl i ys H hi p
  by_cases hlt : i < xs.length
  · refine .inr ⟨⟨xs, _, q, List.getElem?_eq_getElem hlt⟩, by omega, ?_⟩
    rintro v H3 ⟨rfl, hv⟩
    exact hs i v ys H3 (fun ys' H' => ∃ m', m' < xs.length - i ∧ m' = xs.length - (i + 1) ∧ i + 1 ≤ xs.length ∧ Pv (i + 1) ys' H') (hv xs q) p fun ys' H' p' => ⟨_, by omega, rfl, hlt, p'⟩
  · have e : i = xs.length := by omega
    subst e
    exact .inl ⟨⟨xs, q, Nat.le_refl _⟩, by omega, hd ys H p⟩
theorem comp_list (Pv : Nat → List V → Hp → Prop) (hx : xs.length < sizeLine) (h0 : Pv 0 [] H1) (hl : ∀ i ys H, i ≤ xs.length → Pv i ys H → SqL K H a xs ∧ ys.length ≤ i)
    (hs : ∀ (i : Nat) (x : V) (ys : List V) (H : Hp) (N : List V → Hp → Prop), xs[i]? = some x → Pv i ys H → (∀ ys' H', Pv (i + 1) ys' H' → N ys' H') →
      tt (some x :: slotsOf fr σ) H fun b H4 => if b = true then te (some x :: slotsOf fr σ) H4 (fun y H5 => N (ys ++ [y]) H5) else N ys H4)
    (hd : ∀ ys H, Pv xs.length ys H → ∀ l, H l = none → R l ys H) : CompGoal (Itl K a) fr tt te σ H1 R := by
  refine ⟨fun i m ys H => m = xs.length - i ∧ i ≤ xs.length ∧ Pv i ys H, ⟨xs.length, by simp, Nat.zero_le _, h0⟩, ?_⟩
  rintro i m ys H ⟨rfl, hi, p⟩
  obtain ⟨q, hy⟩ := hl i ys H hi p
  by_cases hlt : i < xs.length
  · refine .inr ⟨⟨xs, _, q, List.getElem?_eq_getElem hlt⟩, by omega, ?_⟩
    rintro v H3 ⟨rfl, hv⟩
    exact hs i v ys H3 (fun ys' H' => ∃ m', m' < xs.length - i ∧ m' = xs.length - (i + 1) ∧ i + 1 ≤ xs.length ∧ Pv (i + 1) ys' H') (hv xs q) p fun ys' H' p' => ⟨_, by omega, rfl, hlt, p'⟩
  · have e : i = xs.length := by omega
    subst e
    exact .inl ⟨⟨xs, q, Nat.le_refl _⟩, by omega, hd ys H p⟩
theorem comp_str {z : Str} (Pv : Nat → List V → Hp → Prop) (hx : z.cps.size < sizeLine) (h0 : Pv 0 [] H1) (hl : ∀ i ys H, i ≤ z.cps.size → Pv i ys H → ys.length ≤ i)
    (hs : ∀ (i : Nat) (c : Nat) (ys : List V) (H : Hp) (N : List V → Hp → Prop), z.cps[i]? = some c → Pv i ys H → (∀ ys' H', Pv (i + 1) ys' H' → N ys' H') →
      tt (some (.str ⟨#[c]⟩) :: slotsOf fr σ) H fun b H4 => if b = true then te (some (.str ⟨#[c]⟩) :: slotsOf fr σ) H4 (fun y H5 => N (ys ++ [y]) H5) else N ys H4)
    (hd : ∀ ys H, Pv z.cps.size ys H → ∀ l, H l = none → R l ys H) : CompGoal (Its z) fr tt te σ H1 R := by
  refine ⟨fun i m ys H => m = z.cps.size - i ∧ i ≤ z.cps.size ∧ Pv i ys H, ⟨z.cps.size, by simp, Nat.zero_le _, h0⟩, ?_⟩
  rintro i m ys H ⟨rfl, hi, p⟩
  have hy := hl i ys H hi p
  by_cases hlt : i < z.cps.size
  · refine .inr ⟨hlt, by omega, ?_⟩
    rintro v H3 ⟨rfl, c, hc, rfl⟩
    exact hs i c ys H3 (fun ys' H' => ∃ m', m' < z.cps.size - i ∧ m' = z.cps.size - (i + 1) ∧ i + 1 ≤ z.cps.size ∧ Pv (i + 1) ys' H') hc p fun ys' H' p' => ⟨_, by omega, rfl, hlt, p'⟩
  · have e : i = z.cps.size := by omega
    subst e
    exact .inl ⟨rfl, by omega, hd ys H p⟩
end
end L2

set_option Elab.async false
set_option linter.all false
set_option maxRecDepth 100000
set_option maxHeartbeats 4000000
/-! Further rules: enumerate of a list or a tuple in a for, join, split; split undoes join. -/
namespace L2
open PySem PySem.Spec PyProof.Rows
/-! ### texts joined and parted -/
theorem strs_are : ∀ {zs : List Str} {us : List Value}, Vals (zs.map V.str) us → ∃ l : List (Str × Tok), us = strValues l ∧ l.map (·.1) = zs
  | [], _, .nil => ⟨[], rfl, rfl⟩
  | z :: r, _, .cons h t => by
    obtain ⟨l, rfl, e⟩ := strs_are t
    obtain ⟨tk, rfl⟩ := h
    exact ⟨(z, tk) :: l, rfl, by rw [List.map_cons, e]⟩
theorem strs_vals : ∀ l : List (Str × Tok), Vals ((l.map (·.1)).map V.str) (strValues l)
  | [] => .nil
  | (z, t) :: r => .cons ⟨t, rfl⟩ (strs_vals r)
section
variable {X : Cx}
/-- sep.join(texts) -/
def rJoin (K : PySem.W.Frag) : V → List V → Hp → VK → Prop := fun x vs H Q => ∃ (sep : Str) (l : Addr) (zs : List Str), x = .str sep ∧ vs = [.ref l] ∧ SqL K H l (zs.map V.str) ∧ JoinOk sep zs = true ∧ Q (.str (Txt.join sep zs)) H
theorem mt_join : MtR X "str.join" (rJoin X.K) := by
  intro pins s σ H x vs v us Q I rx rv h
  obtain ⟨sep, l, zs, rfl, rfl, hl, hok, q⟩ := h
  obtain ⟨t, rfl⟩ := rx
  obtain ⟨u, rfl, ru⟩ := rv.one
  cases ru
  obtain ⟨its, r, pl, hz⟩ := I.list hl
  obtain ⟨ls, rfl, e⟩ := strs_are r
  exact SC.join pl.isList e hok fun t' k => ⟨.str _, H, I.tok k, ⟨_, rfl⟩, q⟩
/-- z.split(sep) -/
def rSplit : V → List V → Hp → VK → Prop := fun x vs H Q => ∃ z sep : Str, x = .str z ∧ vs = [.str sep] ∧ (sep.length == 0) = false ∧ z.length + 2 ≤ sizeLine ∧ ∀ p, H p = none → Q (.ref p) (upd H p (.lst ((Txt.split z sep).map V.str)))
theorem mt_split : MtR X "str.split" rSplit := by
  intro pins s σ H x vs v us Q I rx rv h
  obtain ⟨z, y, rfl, rfl, hy, hz, q⟩ := h
  obtain ⟨t, rfl⟩ := rx
  obtain ⟨u, rfl, ru⟩ := rv.one
  obtain ⟨t', rfl⟩ := ru
  have hn : (Txt.split z y).length ≤ sizeLine := Nat.le_trans (split_le z y) hz
  have fin : ∀ (l : List (Str × Tok)) (tk : Nat), l.map (·.1) = Txt.split z y → EP X pins σ Q (.ref s.heap.objs.size) { s with heap := s.heap.push { cls := .type "list", data := .seq (strValues l).toArray }, toks := tk } := fun l tk e => by
    refine ⟨.ref s.heap.objs.size, _, I.laid (t' := tk) (o := .lst ((Txt.split z y).map V.str)) (fun b ob g => Heap.get?_push_of_some _ g) (Nat.le_refl _) ?_, rfl, q _ (I.hok.fresh (Nat.le_refl _))⟩
    exact ⟨by rw [List.length_map]; exact hn, strValues l, 0, by rw [← e]; exact strs_vals l, Heap.get?_push_size _ rfl⟩
  cases c1 : (decide (z.length < y.length) || decide (Builtin.Str.strKind z < Builtin.Str.strKind y)) with
  | true => exact call_meets F.slot_str_split (typeIs_str _ _ _) F.entry_str_split (F.args_str_split_2 _ _) (meets_str_split_cannot_occur z y t t' c1) (fin [(z, t)] s.toks (by unfold Txt.split; rw [if_pos c1]; rfl))
  | false =>
    cases c2 : (Builtin.Str.occurrences z y 0 z.length (z.length + 1)).isEmpty with
    | true => exact call_meets F.slot_str_split (typeIs_str _ _ _) F.entry_str_split (F.args_str_split_2 _ _) (meets_str_split_not_found z y t t' c1 hy c2) (fin [(z, t)] s.toks (by unfold Txt.split; rw [if_neg (by rw [c1]; exact Bool.false_ne_true), if_pos c2]; rfl))
    | false =>
      have ep : Txt.split z y = Builtin.Str.partsBetween z (Builtin.Str.occurrences z y 0 z.length (z.length + 1)) y.length := by
        unfold Txt.split
        rw [if_neg (by rw [c1]; exact Bool.false_ne_true), if_neg (by rw [c2]; exact Bool.false_ne_true)]
      refine call_meets F.slot_str_split (typeIs_str _ _ _) F.entry_str_split (F.args_str_split_2 _ _) (meets_str_split_sep z y t t' c1 hy c2 (by omega) (by rw [← ep]; exact hn)) ?_
      have g := fin (numbered s.toks (Builtin.Str.partsBetween z (Builtin.Str.occurrences z y 0 z.length (z.length + 1)) y.length)) (s.toks + (Builtin.Str.partsBetween z (Builtin.Str.occurrences z y 0 z.length (z.length + 1)) y.length).length) ((numbered_texts _ _).trans ep.symm)
      rw [← strsFrom_eq] at g
      exact g
end
/-- words without the sign c, joined by it, are parted again -/
theorem app_inj {c : Nat} : ∀ {a b r r' : List Nat}, c ∉ a → c ∉ b → a ++ c :: r = b ++ c :: r' → a = b ∧ r = r'
  | [], [], _, _, _, _, e => ⟨rfl, by injection e⟩
  | [], y :: b, _, _, _, hb, e => by
    injection e with e1 e2
    exact absurd (by rw [e1]; exact List.mem_cons_self) hb
  | x :: a, [], _, _, ha, _, e => by
    injection e with e1 e2
    exact absurd (by rw [← e1]; exact List.mem_cons_self) ha
  | x :: a, y :: b, _, _, ha, hb, e => by
    injection e with e1 e2
    obtain ⟨h1, h2⟩ := app_inj (fun h => ha (List.mem_cons_of_mem _ h)) (fun h => hb (List.mem_cons_of_mem _ h)) e2
    exact ⟨by rw [e1, h1], h2⟩
theorem no_app {c : Nat} {a b r : List Nat} (ha : c ∉ a) (e : a = b ++ c :: r) : False := ha (by rw [e]; simp)
theorem cps_join1 (sep a b : Str) (r : List Str) : (Str.join sep (a :: b :: r)).cps.toList = a.cps.toList ++ sep.cps.toList ++ (Str.join sep (b :: r)).cps.toList := by
  show (a ++ sep ++ Str.join sep (b :: r)).cps.toList = _
  show ((a.cps ++ sep.cps) ++ (Str.join sep (b :: r)).cps).toList = _
  rw [Array.toList_append, Array.toList_append]
theorem str_ext {a b : Str} (h : a.cps.toList = b.cps.toList) : a = b := Str.ext' (Array.toList_inj.mp h)
theorem join_inj {c : Nat} : ∀ {ws us : List Str}, ws ≠ [] → us ≠ [] → (∀ p ∈ ws, c ∉ p.cps.toList) → (∀ p ∈ us, c ∉ p.cps.toList) → Str.join ⟨#[c]⟩ ws = Str.join ⟨#[c]⟩ us → ws = us
  | [], _, h, _, _, _, _ => absurd rfl h
  | _, [], _, h, _, _, _ => absurd rfl h
  | [a], [b], _, _, _, _, e => by
    have e' : a = b := e
    rw [e']
  | [a], b :: d :: r, _, _, h1, _, e => by
    have e' := congrArg (fun s : Str => s.cps.toList) e
    rw [cps_join1, List.append_assoc] at e'
    exact (no_app (h1 a List.mem_cons_self) e').elim
  | a :: d :: r, [b], _, _, _, h2, e => by
    have e' := congrArg (fun s : Str => s.cps.toList) e.symm
    rw [cps_join1, List.append_assoc] at e'
    exact (no_app (h2 b List.mem_cons_self) e').elim
  | a :: d :: r, b :: f :: t, _, _, h1, h2, e => by
    have e' := congrArg (fun s : Str => s.cps.toList) e
    rw [cps_join1, cps_join1, List.append_assoc, List.append_assoc] at e'
    obtain ⟨q1, q2⟩ := app_inj (h1 a List.mem_cons_self) (h2 b List.mem_cons_self) e'
    rw [str_ext q1, join_inj (ws := d :: r) (us := f :: t) (by simp) (by simp) (fun p hp => h1 p (List.mem_cons_of_mem _ hp)) (fun p hp => h2 p (List.mem_cons_of_mem _ hp)) (str_ext q2)]
theorem split_join {c : Nat} {ws : List Str} (hn : ws ≠ []) (h : ∀ p ∈ ws, c ∉ p.cps.toList) : Txt.split (Txt.join ⟨#[c]⟩ ws) ⟨#[c]⟩ = ws := by
  have e : Txt.join ⟨#[c]⟩ ws = Str.join ⟨#[c]⟩ ws := StrLaws.glued_eq_join _ _
  rw [e]
  refine join_inj (c := c) (fun z => ?_) hn (StrLaws.split_free _ c) h (StrLaws.join_split _ _)
  have := split_pos (Str.join ⟨#[c]⟩ ws) ⟨#[c]⟩
  rw [z] at this
  exact absurd this (by decide)

/-! ### enumerate -/
section
variable {P : Program} {w : World} {A : Around} {E : Value → Shared → Prop} {z : Shared}
theorem nextOf_tup {j p : Addr} {k : Nat} {its : Array Value} {y : Value} {Q : Value → Shared → Prop} (g : z.heap.IsTupleIter j p k) (gp : z.heap.IsTuple p its) (gy : its[k]? = some y)
    (q : ∀ h', h'.IsTupleIter j p (k + 1) → Heap.SameBut j z.heap h' → Q y { z with heap := h' }) : wpAny (model P w) A (Builtin.SmallTypes.nextOf (.ref j)) Q E z := by
  obtain ⟨ob, g0, g1, g2⟩ := id g
  obtain ⟨op, p0, _, np, p2⟩ := gp
  unfold Builtin.SmallTypes.nextOf
  refine wpAny_bind (wpAny_callSpecial?_slot (name := Str.ofString "__next__") g.typeIs F.slot_tuple_iterator_next (wpAny_call_entry F.slot_tuple_iterator_next g.typeIs F.entry_tuple_iterator_next ?_ (F.args_tuple_iterator_next_1 _)))
  show wpAny _ _ (field (.ref j) 0 >>= _) _ _ z
  refine wpAny_bind (wpAny_field g0 g2 (x := .ref p) rfl ?_)
  show wpAny _ _ (if (Value.ref p == Value.none) = true then _ else _) _ _ z
  rw [if_neg (show ¬ ((Value.ref p == Value.none) = true) from Bool.false_ne_true)]
  show wpAny _ _ (field (.ref j) 1 >>= _) _ _ z
  refine wpAny_bind (wpAny_field g0 g2 (x := .int k 0) rfl ?_)
  show wpAny _ _ (seqItems? (.ref p) >>= _) _ _ z
  refine wpAny_bind (wpAny_seqItems p0 p2 ?_)
  simp only [Int.toNat_natCast, gy]
  refine wpAny_bind (wpAny_setField g0 g2 (by simp) (wpAny_pure ⟨y, rfl, wpAny_pure (q _ ?_ (Heap.SameBut.update ..))⟩))
  exact ⟨_, Heap.get?_update_self _ g0 (Obj.isFreed_of_fields (Obj.data_mapFields g2 _)), (Obj.cls_mapFields ..).trans g1, by rw [Obj.data_mapFields g2]; simp [rawInt]⟩
theorem nextOf_tup_end {j p : Addr} {k : Nat} {its : Array Value} {Q : Value → Shared → Prop} (hd : A.handled = none) (g : z.heap.IsTupleIter j p k) (gp : z.heap.IsTuple p its) (gy : its[k]? = none)
    (q : ∀ h' e, Heap.ExtBut j z.heap h' → (∃ o, h'.get? e = some o ∧ o.cls = .type "StopIteration") → E (.ref e) { z with heap := h' }) : wpAny (model P w) A (Builtin.SmallTypes.nextOf (.ref j)) Q E z := by
  obtain ⟨ob, g0, g1, g2⟩ := id g
  obtain ⟨op, p0, _, np, p2⟩ := gp
  unfold Builtin.SmallTypes.nextOf
  refine wpAny_bind (wpAny_callSpecial?_slot (name := Str.ofString "__next__") g.typeIs F.slot_tuple_iterator_next (wpAny_call_entry F.slot_tuple_iterator_next g.typeIs F.entry_tuple_iterator_next ?_ (F.args_tuple_iterator_next_1 _)))
  show wpAny _ _ (field (.ref j) 0 >>= _) _ _ z
  refine wpAny_bind (wpAny_field g0 g2 (x := .ref p) rfl ?_)
  show wpAny _ _ (if (Value.ref p == Value.none) = true then _ else _) _ _ z
  rw [if_neg (show ¬ ((Value.ref p == Value.none) = true) from Bool.false_ne_true)]
  show wpAny _ _ (field (.ref j) 1 >>= _) _ _ z
  refine wpAny_bind (wpAny_field g0 g2 (x := .int k 0) rfl ?_)
  show wpAny _ _ (seqItems? (.ref p) >>= _) _ _ z
  refine wpAny_bind (wpAny_seqItems p0 p2 ?_)
  simp only [Int.toNat_natCast, gy]
  refine wpAny_bind (wpAny_rule (wpAny_bind (wpAny_setField g0 g2 (by simp) ?_)))
  show wpAny _ _ (newExc (.type "StopIteration") [] >>= _) _ _ _
  refine wpAny_bind ?_
  simp only [newExc, newTuple]
  refine wpAny_bind (wpAny_newObj_type ?_ (by size_fits))
  refine wpAny_bind (m := firstArgMember _ _) (wpAny_of_eq (a := Value.none) (by first | rfl | (simp only [firstArgMember]; rfl)) ?_)
  refine wpAny_newObj_type ?_ (by size_fits)
  simp only [raiseNew]
  refine wpAny_bind (wpAny_handled ?_)
  first | rw [show A.in1.handled = none from hd] | rw [hd]
  refine wpAny_bind (wpAny_pure (wpAny_throw ?_))
  exact q _ _ (((Heap.SameBut.update ..).extBut.push _).push _) ⟨_, Heap.get?_push_size _ rfl, rfl⟩
theorem draws_tup (hd : A.handled = none) (j p : Addr) (hne : p ≠ j) (its : Array Value) :
    Draws P w A j [j, p] its.size (fun k v => its[k]? = some v) (fun k h => h.IsTupleIter j p k ∧ h.IsTuple p its) where
  live := fun _ _ st => let ⟨o, ho, _⟩ := st.1; ⟨o, ho⟩
  frame := fun _ _ _ st hk => by
    obtain ⟨⟨o, ho, r⟩, o', ho', r'⟩ := st
    exact ⟨⟨o, hk j (by simp) o ho, r⟩, o', hk p (by simp) o' ho', r'⟩
  item := fun k s Q E hi st hQ => nextOf_tup st.1 st.2 (y := its[k]) (by simp [hi]) fun h' st' hs' => hQ _ h' s.toks (by simp [hi]) ⟨st', st.2.extBut hs'.extBut hne⟩ hs'
  done := fun s Q E st hE => nextOf_tup_end hd st.1 st.2 (by simp) hE
theorem enum_newT (p : Addr) (its : Array Value) (n : Nat) (dd : Option Addr) (sl : Array (Option Value)) :
    Meets (Builtin.«enumerate.__new__» ⟨[.type "enumerate", .ref p], []⟩) (fun _ R s => s.heap.get? p = some { cls := .type "tuple", dict := dd, data := .seq its n, slots := sl } ∧
      R (.ok (.ret (.ref (s.heap.push { cls := .type "tuple_iterator", data := .fields #[.ref p, .int 0 0] }).objs.size)))
        { s with heap := (s.heap.push { cls := .type "tuple_iterator", data := .fields #[.ref p, .int 0 0] }).push { cls := .type "enumerate", data := .fields #[.none, .bool false, .ref s.heap.objs.size, rawInt 0, .none, .none] } }) :=
  .of_wp fun prog w A R s h => by
    obtain ⟨hp, g, d, tk, os⟩ := s
    obtain ⟨hl, h⟩ := h
    have hsub := sub_enumerate
    have hT : Heap.IsTuple (Shared.heap ⟨hp, g, d, tk, os⟩) p its := ⟨_, hl, rfl, n, rfl⟩
    wp_walk using AutoSeq1.wpAny_loadPart' hl
    refine wpAny_stack_any fun st => wpAny_pure ?_
    split
    · rename_i c _ _ _ _ _
      cases (c == Value.type "enumerate")
      · wp_walk using AutoSeq1.wpAny_loadPart' hl, wpAny_pyIter_tuple hT
        exact ⟨_, rfl, h⟩
      · wp_walk using AutoSeq1.wpAny_loadPart' hl, wpAny_pyIter_tuple hT
        exact ⟨_, rfl, h⟩
    · wp_walk using AutoSeq1.wpAny_loadPart' hl, wpAny_pyIter_tuple hT
      exact ⟨_, rfl, h⟩
theorem call_enumT {p : Addr} {its : Array Value} {Q : Value → Shared → Prop} (hT : z.heap.IsTuple p its)
    (q : ∀ h', IsEnum h' (z.heap.objs.size + 1) z.heap.objs.size 0 .none → h'.IsTupleIter z.heap.objs.size p 0 → (∀ b o, z.heap.get? b = some o → h'.get? b = some o) → Q (.ref (z.heap.objs.size + 1)) { z with heap := h' }) :
    wpAny (model P w) A (call (.type "enumerate") [.ref p]) Q E z := by
  obtain ⟨⟨c, dct, dt, sl⟩, hl, hc, n, hd⟩ := hT
  replace hc : c = .type "tuple" := hc
  replace hd : dt = .seq its n := hd
  subst hc hd
  refine callType_new F.called_enumerate (by decide) (F.typeCall_enumerate_1 _) (F.newCall_enumerate_1 _) (fun obj => F.args_object_init_2 obj _) F.entry_enumerate_new (enum_newT p its n dct sl) ⟨hl, ?_⟩
  have hz : (z.heap.push { cls := .type "tuple_iterator", data := .fields #[.ref p, .int 0 0] }).objs.size = z.heap.objs.size + 1 := Heap.size_push ..
  show _ ∧ _
  rw [hz]
  have he : IsEnum ((z.heap.push { cls := .type "tuple_iterator", data := .fields #[.ref p, .int 0 0] }).push { cls := .type "enumerate", data := .fields #[.none, .bool false, .ref z.heap.objs.size, rawInt 0, .none, .none] }) (z.heap.objs.size + 1) z.heap.objs.size 0 .none := by
    have := Heap.get?_push_size (z.heap.push { cls := .type "tuple_iterator", data := .fields #[.ref p, .int 0 0] }) (o := { cls := .type "enumerate", data := .fields #[.none, .bool false, .ref z.heap.objs.size, rawInt 0, .none, .none] }) rfl
    rw [hz] at this
    exact this
  exact ⟨⟨_, he, rfl⟩, q _ he ⟨_, Heap.get?_push_of_some _ (Heap.get?_push_size _ rfl), rfl, rfl⟩ fun b o x => Heap.get?_push_of_some _ (Heap.get?_push_of_some _ x)⟩
end
section
variable {X : Cx} {pins : List (Addr × Obj)} {σ : St} {H : Hp} {s : Shared} {h' : Heap}
/-- two untracked records of ours have turned, a tuple has come -/
theorem Inv.turned2 {t' : Nat} {e j p : Addr} {xs : List V} {us : List Value} (I : Inv X pins σ H s) (k : ∀ b o, b ≠ e → b ≠ j → s.heap.get? b = some o → h'.get? b = some o) (fe : FpOk X pins H e) (fj : FpOk X pins H j)
    (hp : s.heap.objs.size ≤ p) (ht : IsTup h' p us.toArray) (r : Vals xs us) (hz : xs.length ≤ sizeLine) : Inv X pins σ (upd H p (.tup xs)) { s with heap := h', toks := t' } := by
  have hn := I.hok.fresh hp
  have fp := I.fpOk hp hn
  have nH : ∀ b u, H b = some u → b ≠ e ∧ b ≠ j ∧ b ≠ p := fun b u g => ⟨(fun z => by rw [z, fe.1] at g; cases g), (fun z => by rw [z, fj.1] at g; cases g), fun z => by rw [z, hn] at g; cases g⟩
  refine I.step (g' := s.gens) (d' := s.drawn) (ch := [e, j, p]) (fun b hb => ?_) (fun b o _ _ hc g _ => k b o (fun z => hc (by simp [z])) (fun z => hc (by simp [z])) g) (fun b o _ _ hc g _ => ⟨o.slots, k b o (fun z => hc (by simp [z])) (fun z => hc (by simp [z])) g⟩)
    (fun b o hc g n => by rw [upd_ne fun z => hc (by simp [z])]; exact n) (fun b o hc g => ⟨o, k b o (fun z => hc (by simp [z])) (fun z => hc (by simp [z])) g⟩)
    (fun b ys g => by rw [upd_ne (nH b _ g).2.2]; exact g) (fun b o u g => by rw [upd_ne (nH b _ g).2.2]; exact g) (fun b ps g => ⟨#[], by rw [upd_ne (nH b _ g).2.2, g]; simp⟩) (fun m hm => ?_) (fun b u g => ?_) I.bare
  · have hb' : b = e ∨ b = j ∨ b = p := by simpa using hb
    rcases hb' with rfl | rfl | rfl
    · exact ⟨fe.2.2.2.1, fe.2.1, fe.2.2.2.2.1, fe.2.2.2.2.2⟩
    · exact ⟨fj.2.2.2.1, fj.2.1, fj.2.2.2.2.1, fj.2.2.2.2.2⟩
    · exact ⟨fp.2.2.2.1, fp.2.1, fp.2.2.2.2.1, fp.2.2.2.2.2⟩
  · obtain ⟨o, es, ep, ho, r'⟩ := hm
    exact ⟨o, es, ep, k _ o (Ne.symm fe.2.1) (Ne.symm fj.2.1) ho, r'⟩
  · by_cases hb : b = p
    · subst hb
      rw [upd_same] at g
      cases g
      exact ⟨hz, us, r, ht⟩
    · rw [upd_ne hb] at g
      refine (I.hok b u g).stay (fun c v hc q => ?_) (fun c q => ?_) fun c ys q => ?_
      · rcases hc with z | z
        · rw [z]
          rw [z] at q
          exact k b v (nH b _ g).1 (nH b _ g).2.1 q
        · exact k c v (nH c _ z).1 (nH c _ z).2.1 q
      · rw [upd_ne (nH c _ q).2.2]
        exact q
      · rw [upd_ne (nH c _ q).2.2]
        exact q
/-- a turn of enumerate -/
theorem enum_item {D : Addr → Prop} {E : Value → Shared → Prop} {e j : Addr} {fp : List Addr} {n i : Nat} {Pv : Nat → Value → Prop} {St' : Nat → Heap → Prop} {old : Value} {elts : List Expr} {kk : Nat} {ps : Pos} {y : V}
    (W : Draws X.prog X.w X.A.in1 j fp n Pv St') (he : IsEnum s.heap e j i old) (st : St' i s.heap) (hi : i < n) (hne : e ≠ j) (hef : e ∉ fp) (I : Inv X pins σ H s) (fe : FpOk X pins H e) (fj : FpOk X pins H j) (hP : ∀ u, Pv i u → RelV y u) :
    wpAny (model X.prog X.w) X.A (pyNext (.ref e)) (fun r s1 => ∃ u, r = some u ∧
      wpAny (model X.prog X.w) X.A (letOwnedTupleGo (.Tuple elts kk ps) (.ref e) u) (fun _ s2 => ∃ p, u = .ref p ∧ H p = none ∧ Inv X pins σ (upd H p (.tup [.int i, y])) s2 ∧ (∃ old', IsEnum s2.heap e j ((i : Int) + 1) old') ∧ St' (i + 1) s2.heap ∧ e ≠ p ∧ j ≠ p) E s1) E s := by
  refine wpAny_pyNext_enum_itemD W he st hi hne hef fun x h1 tk hx ho st1 hT hsz hk => ?_
  refine ⟨_, rfl, wpAny_letOwnedTupleGo_enum ho fun h2 he2 hs2 => ?_⟩
  have hel : e < s.heap.objs.size := Heap.lt_size he
  have hjl : j < s.heap.objs.size := by
    obtain ⟨o, z⟩ := W.live _ _ st
    exact Heap.lt_size z
  have hs2' : Heap.SameBut e h1 h2 := hs2
  have hT2 : IsTup h2 s.heap.objs.size ([.int (i : Int) tk, x] : List Value).toArray := ⟨_, hs2'.extBut _ _ (Nat.ne_of_gt hel) hT, rfl, _, rfl⟩
  refine ⟨s.heap.objs.size, rfl, I.hok.fresh (Nat.le_refl _), I.turned2 (t' := tk + 1) (e := e) (j := j) (fun b o n1 n2 g => hs2'.extBut b o n1 (hk b o n1 n2 g)) fe fj (Nat.le_refl _) hT2 (.cons ⟨tk, rfl⟩ (.cons (hP x hx) .nil)) (by show 2 ≤ sizeLine; decide), ⟨_, he2⟩, ?_, Nat.ne_of_lt hel, Nat.ne_of_lt hjl⟩
  exact W.frame _ _ _ st1 fun b hb o g => hs2'.extBut b o (fun z => hef (z ▸ hb)) g
end
def Ite (K : PySem.W.Frag) (a : Addr) : It :=
  ⟨fun i H => ∃ xs x, SqL K H a xs ∧ xs[i]? = some x, fun i H x H' => ∃ p y, x = .ref p ∧ H p = none ∧ H' = upd H p (.tup [.int i, y]) ∧ ∀ xs, SqL K H a xs → xs[i]? = some y, fun i H => ∃ xs, SqL K H a xs ∧ xs.length = i⟩
def IteT (K : PySem.W.Frag) (a : Addr) : It :=
  ⟨fun i H => ∃ xs x, SqT K H a xs ∧ xs[i]? = some x, fun i H x H' => ∃ p y, x = .ref p ∧ H p = none ∧ H' = upd H p (.tup [.int i, y]) ∧ ∀ xs, SqT K H a xs → xs[i]? = some y, fun i H => ∃ xs, SqT K H a xs ∧ xs.length = i⟩
theorem cls_ne {h : Heap} {a b : Addr} {o o' : Obj} (e : h.get? a = some o) (e' : h.get? b = some o') (n : o.cls ≠ o'.cls) : a ≠ b := fun z => by
  rw [z, e'] at e
  cases e
  exact n rfl
theorem enum_int (i : Nat) : ((i : Int) + 1) = ((i + 1 : Nat) : Int) := rfl
theorem turn_enum {P : Program} {w : World} {K : PySem.W.Frag} {elts : List Expr} {kk : Nat} {ps : Pos} (a e j : Addr) : Turn P w K (.Tuple elts kk ps) (Ite K a) [e, j] e (fun i h => (∃ old, IsEnum h e j i old) ∧ h.IsListIter j a i ∧ e ≠ j) where
  mem := by simp
  obj := fun i h st b hb => by
    obtain ⟨⟨old, he⟩, ⟨o, g, c, d⟩, _⟩ := st
    have hb' : b = e ∨ b = j := by simpa using hb
    rcases hb' with rfl | rfl
    · exact ⟨_, he, fun v z => by cases z⟩
    · exact ⟨o, g, fun v z => by rw [d] at z; cases z⟩
  keep := fun i h h' st k => by
    obtain ⟨⟨old, he⟩, ⟨o, g, r⟩, n⟩ := st
    exact ⟨⟨old, k e (by simp) _ he⟩, ⟨o, k j (by simp) o g, r⟩, n⟩
  item := by
    intro X hP hw hK hc i pins s σ H E I hf st hg
    subst hP hw hK
    obtain ⟨xs, x, hq, hx⟩ := hg
    obtain ⟨its, rv, pl, hz⟩ := I.list hq
    obtain ⟨⟨old, he⟩, hj, hne⟩ := st
    have hl := rv.length
    have hil : i < xs.length := (List.getElem?_eq_some_iff.mp hx).1
    obtain ⟨o0, g0, c0, _⟩ := id pl.isList
    obtain ⟨o1, g1, c1, _⟩ := id hj
    have nae : a ≠ e := cls_ne g0 he (by rw [c0]; show Value.type "list" ≠ Value.type "enumerate"; decide)
    have naj : a ≠ j := cls_ne g0 g1 (by rw [c0, c1]; decide)
    have W := Draws.list (prog := X.prog) (w := X.w) (A := X.A.in1) (show X.A.in1.handled = none from I.ok.hd hc) j a naj its.toArray
    refine thn (enum_item (D := fun _ => True) (y := x) W he ⟨hj, pl.isList⟩ (by rw [List.size_toArray]; omega) hne (by simp [hne, nae.symm]) I (hf e (by simp)) (hf j (by simp)) fun u hu => ?_) fun r s1 ⟨u, er, h1⟩ => ⟨u, er, thn h1 fun _ s2 ⟨p, eu, hp, I2, he2, st2, n1, n2⟩ => ?_⟩
    · obtain ⟨u', hu', ru⟩ := rv.get hx
      have hu2 : its[i]? = some u := by simpa using hu
      rw [hu2] at hu'
      cases hu'
      exact ru
    · subst eu
      refine ⟨.ref p, _, I2, rfl, ⟨p, x, rfl, hp, rfl, fun ys hy => by rw [I.list_inj hy hq]; exact hx⟩, ⟨he2, st2.1, hne⟩, fun b hb => ?_⟩
      have hb' : b = e ∨ b = j := by simpa using hb
      rcases hb' with rfl | rfl
      · rw [upd_ne n1]; exact (hf b (by simp)).1
      · rw [upd_ne n2]; exact (hf b (by simp)).1
  done := by
    intro X hP hw hK hc i pins s σ H E I hf st hg
    subst hP hw hK
    obtain ⟨xs, hq, hx⟩ := hg
    obtain ⟨its, rv, pl, hz⟩ := I.list hq
    obtain ⟨⟨old, he⟩, hj, hne⟩ := st
    have hl := rv.length
    obtain ⟨f0, f1, f2, f3, f4, f5⟩ := hf j (by simp)
    exact wpAny_pyNext_enum_end (I.ok.hd hc) he hj pl.isList (by simp; omega) fun h' eb => ⟨rfl, I.turned (t' := s.toks) (fun b o hb g => eb b o hb g) f0 f1 f3 f4 f5⟩
  self := fun _ _ _ _ _ st h => by
    obtain ⟨⟨old, he⟩, _⟩ := st
    exact wpAny_pyIter_enum he h
theorem turn_enumT {P : Program} {w : World} {K : PySem.W.Frag} {elts : List Expr} {kk : Nat} {ps : Pos} (a e j : Addr) : Turn P w K (.Tuple elts kk ps) (IteT K a) [e, j] e (fun i h => (∃ old, IsEnum h e j i old) ∧ h.IsTupleIter j a i ∧ e ≠ j) where
  mem := by simp
  obj := fun i h st b hb => by
    obtain ⟨⟨old, he⟩, ⟨o, g, c, d⟩, _⟩ := st
    have hb' : b = e ∨ b = j := by simpa using hb
    rcases hb' with rfl | rfl
    · exact ⟨_, he, fun v z => by cases z⟩
    · exact ⟨o, g, fun v z => by rw [d] at z; cases z⟩
  keep := fun i h h' st k => by
    obtain ⟨⟨old, he⟩, ⟨o, g, r⟩, n⟩ := st
    exact ⟨⟨old, k e (by simp) _ he⟩, ⟨o, k j (by simp) o g, r⟩, n⟩
  item := by
    intro X hP hw hK hc i pins s σ H E I hf st hg
    subst hP hw hK
    obtain ⟨xs, x, hq, hx⟩ := hg
    obtain ⟨its, rv, pl, hz⟩ := I.tuple hq
    have pt : s.heap.IsTuple a its.toArray := pl
    obtain ⟨⟨old, he⟩, hj, hne⟩ := st
    have hl := rv.length
    have hil : i < xs.length := (List.getElem?_eq_some_iff.mp hx).1
    obtain ⟨o0, g0, c0, _⟩ := id pt
    obtain ⟨o1, g1, c1, _⟩ := id hj
    have nae : a ≠ e := cls_ne g0 he (by rw [c0]; show Value.type "tuple" ≠ Value.type "enumerate"; decide)
    have naj : a ≠ j := cls_ne g0 g1 (by rw [c0, c1]; decide)
    have W := draws_tup (P := X.prog) (w := X.w) (A := X.A.in1) (show X.A.in1.handled = none from I.ok.hd hc) j a naj its.toArray
    refine thn (enum_item (D := fun _ => True) (y := x) W he ⟨hj, pt⟩ (by rw [List.size_toArray]; omega) hne (by simp [hne, nae.symm]) I (hf e (by simp)) (hf j (by simp)) fun u hu => ?_) fun r s1 ⟨u, er, h1⟩ => ⟨u, er, thn h1 fun _ s2 ⟨p, eu, hp, I2, he2, st2, n1, n2⟩ => ?_⟩
    · obtain ⟨u', hu', ru⟩ := rv.get hx
      have hu2 : its[i]? = some u := by simpa using hu
      rw [hu2] at hu'
      cases hu'
      exact ru
    · subst eu
      refine ⟨.ref p, _, I2, rfl, ⟨p, x, rfl, hp, rfl, fun ys hy => by rw [I.tuple_inj hy hq]; exact hx⟩, ⟨he2, st2.1, hne⟩, fun b hb => ?_⟩
      have hb' : b = e ∨ b = j := by simpa using hb
      rcases hb' with rfl | rfl
      · rw [upd_ne n1]; exact (hf b (by simp)).1
      · rw [upd_ne n2]; exact (hf b (by simp)).1
  done := by
    intro X hP hw hK hc i pins s σ H E I hf st hg
    subst hP hw hK
    obtain ⟨xs, hq, hx⟩ := hg
    obtain ⟨its, rv, pl, hz⟩ := I.tuple hq
    have pt : s.heap.IsTuple a its.toArray := pl
    obtain ⟨⟨old, he⟩, hj, hne⟩ := st
    have hl := rv.length
    obtain ⟨o0, g0, c0, _⟩ := id pt
    obtain ⟨o1, g1, c1, _⟩ := id hj
    have naj : a ≠ j := cls_ne g0 g1 (by rw [c0, c1]; decide)
    have ei : i = its.toArray.size := by rw [List.size_toArray]; omega
    subst ei
    obtain ⟨f0, f1, f2, f3, f4, f5⟩ := hf j (by simp)
    have W := draws_tup (P := X.prog) (w := X.w) (A := X.A.in1) (show X.A.in1.handled = none from I.ok.hd hc) j a naj its.toArray
    exact wpAny_pyNext_enum_endD W he ⟨hj, pt⟩ fun h' eb => ⟨rfl, I.turned (t' := s.toks) (fun b o hb g => eb b o hb g) f0 f1 f3 f4 f5⟩
  self := fun _ _ _ _ _ st h => by
    obtain ⟨⟨old, he⟩, _⟩ := st
    exact wpAny_pyIter_enum he h
section
variable {X : Cx} {elts : List Expr} {kk : Nat} {ps : Pos}
def iEnum (K : PySem.W.Frag) (ta : TA) : TI := fun σ H R => ta σ H fun vs H1 => ∃ a, vs = [.ref a] ∧ (∃ xs, SqL K H1 a xs) ∧ R (Ite K a) H1
def iEnumT (K : PySem.W.Frag) (ta : TA) : TI := fun σ H R => ta σ H fun vs H1 => ∃ a, vs = [.ref a] ∧ (∃ xs, SqT K H1 a xs) ∧ R (IteT K a) H1
theorem enum_fp {pins : List (Addr × Obj)} {σ : St} {H : Hp} {s : Shared} (I : Inv X pins σ H s) : ∀ b ∈ [s.heap.objs.size + 1, s.heap.objs.size], FpOk X pins H b := fun b hb => by
  have hb' : b = s.heap.objs.size + 1 ∨ b = s.heap.objs.size := by simpa using hb
  rcases hb' with rfl | rfl
  · exact I.fpOk (Nat.le_succ _) (I.hok.fresh (Nat.le_succ _))
  · exact I.fpOk (Nat.le_refl _) (I.hok.fresh (Nat.le_refl _))
theorem pi_enum {a : Expr} {ta : TA} {p pos : Pos} (hg : Gl X "enumerate") (hm : X.mg "enumerate" = none) (ha : PA X [a] ta) (hs : starEach [a] X.env = [(false, eval a X.env)] := by rfl) : PI X (.Tuple elts kk ps) (.Call (.Name "enumerate" p) [a] [] pos) (iEnum X.K ta) := by
  intro pins s σ H R I h
  refine Call_ (ld_blt I hg hm boot_enumerate (PyProof.Rows.callWith_type1 (thn (ha pos pins s σ H _ I h) fun us s1 ⟨vs, H1, I1, r1, q1⟩ => ?_) hs rfl))
  obtain ⟨l, e, ⟨xs, hq⟩, q⟩ := q1
  subst e
  obtain ⟨u, rfl, ru⟩ := vals1 r1
  cases ru
  obtain ⟨its, rv, pl, hz⟩ := I1.list hq
  refine call_enumerate_list pl.isList fun h' he hj _ hk => ?_
  have I2 : Inv X pins σ H1 { s1 with heap := h' } := I1.kept (t' := s1.toks) hk
  refine wpAny_pyIter_enum he ?_
  exact ⟨_, _, _, _, H1, rfl, I2, turn_enum l _ s1.heap.objs.size, ⟨⟨_, he⟩, hj, Nat.succ_ne_self _⟩, enum_fp I1, q⟩
theorem pi_enumT {a : Expr} {ta : TA} {p pos : Pos} (hg : Gl X "enumerate") (hm : X.mg "enumerate" = none) (ha : PA X [a] ta) (hs : starEach [a] X.env = [(false, eval a X.env)] := by rfl) : PI X (.Tuple elts kk ps) (.Call (.Name "enumerate" p) [a] [] pos) (iEnumT X.K ta) := by
  intro pins s σ H R I h
  refine Call_ (ld_blt I hg hm boot_enumerate (PyProof.Rows.callWith_type1 (thn (ha pos pins s σ H _ I h) fun us s1 ⟨vs, H1, I1, r1, q1⟩ => ?_) hs rfl))
  obtain ⟨l, e, ⟨xs, hq⟩, q⟩ := q1
  subst e
  obtain ⟨u, rfl, ru⟩ := vals1 r1
  cases ru
  obtain ⟨its, rv, pl, hz⟩ := I1.tuple hq
  refine call_enumT (show s1.heap.IsTuple l its.toArray from pl) fun h' he hj hk => ?_
  have I2 : Inv X pins σ H1 { s1 with heap := h' } := I1.kept (t' := s1.toks) hk
  refine wpAny_pyIter_enum he ?_
  exact ⟨_, _, _, _, H1, rfl, I2, turn_enumT l _ s1.heap.objs.size, ⟨⟨_, he⟩, hj, Nat.succ_ne_self _⟩, enum_fp I1, q⟩
end
end L2
namespace L2
open PySem PySem.Spec PyProof.Rows
/-! ### for .. in enumerate(..), by an invariant -/
theorem for_enum {K : PySem.W.Frag} {a : Addr} {xs : List V} {g : TG} {tb : TS} {D : Ends} {σ : St} {H : Hp} (Pv : Nat → St → Hp → Prop) (h0 : Pv 0 σ H) (hl : ∀ i σ H, i ≤ xs.length → Pv i σ H → SqL K H a xs)
    (hs : ∀ i x p σ H, xs[i]? = some x → Pv i σ H → H p = none → g (.ref p) σ (upd H p (.tup [.int i, x])) fun σ2 H2 => tb { D with nx := Pv (i + 1), ct := Pv (i + 1), bk := D.nx } σ2 H2) (hd : ∀ σ H, Pv xs.length σ H → D.nx σ H) :
    ∃ W : Nat → Nat → St → Hp → Prop, (∃ m, W 0 m σ H) ∧ ∀ i m σ H, W i m σ H →
      ((Ite K a).stop i H ∧ D.nx σ H) ∨ ((Ite K a).go i H ∧ ∃ N : St → Hp → Prop, (∀ σ' H', N σ' H' → ∃ m', m' < m ∧ W (i + 1) m' σ' H') ∧ ∀ x H', (Ite K a).yld i H x H' → g x σ H' fun σ2 H2 => tb { D with nx := N, ct := N, bk := D.nx } σ2 H2) := by
  refine ⟨fun i m σ H => m = xs.length - i ∧ i ≤ xs.length ∧ Pv i σ H, ⟨xs.length, by simp, Nat.zero_le _, h0⟩, ?_⟩
  rintro i m σ H ⟨rfl, hi, p⟩
  have q := hl i σ H hi p
  by_cases hlt : i < xs.length
  · refine .inr ⟨⟨xs, xs[i], q, by simp [hlt]⟩, Pv (i + 1), fun σ' H' p' => ⟨xs.length - (i + 1), by omega, rfl, hlt, p'⟩, fun x H' y => ?_⟩
    obtain ⟨r, z, rfl, hr, rfl, y⟩ := y
    exact hs i z r σ H (y xs q) p hr
  · have e : i = xs.length := by omega
    subst e
    exact .inl ⟨⟨xs, q, rfl⟩, hd σ H p⟩
theorem for_enumT {K : PySem.W.Frag} {a : Addr} {xs : List V} {g : TG} {tb : TS} {D : Ends} {σ : St} {H : Hp} (Pv : Nat → St → Hp → Prop) (h0 : Pv 0 σ H) (hl : ∀ i σ H, i ≤ xs.length → Pv i σ H → SqT K H a xs)
    (hs : ∀ i x p σ H, xs[i]? = some x → Pv i σ H → H p = none → g (.ref p) σ (upd H p (.tup [.int i, x])) fun σ2 H2 => tb { D with nx := Pv (i + 1), ct := Pv (i + 1), bk := D.nx } σ2 H2) (hd : ∀ σ H, Pv xs.length σ H → D.nx σ H) :
    ∃ W : Nat → Nat → St → Hp → Prop, (∃ m, W 0 m σ H) ∧ ∀ i m σ H, W i m σ H →
      ((IteT K a).stop i H ∧ D.nx σ H) ∨ ((IteT K a).go i H ∧ ∃ N : St → Hp → Prop, (∀ σ' H', N σ' H' → ∃ m', m' < m ∧ W (i + 1) m' σ' H') ∧ ∀ x H', (IteT K a).yld i H x H' → g x σ H' fun σ2 H2 => tb { D with nx := N, ct := N, bk := D.nx } σ2 H2) := by
  refine ⟨fun i m σ H => m = xs.length - i ∧ i ≤ xs.length ∧ Pv i σ H, ⟨xs.length, by simp, Nat.zero_le _, h0⟩, ?_⟩
  rintro i m σ H ⟨rfl, hi, p⟩
  have q := hl i σ H hi p
  by_cases hlt : i < xs.length
  · refine .inr ⟨⟨xs, xs[i], q, by simp [hlt]⟩, Pv (i + 1), fun σ' H' p' => ⟨xs.length - (i + 1), by omega, rfl, hlt, p'⟩, fun x H' y => ?_⟩
    obtain ⟨r, z, rfl, hr, rfl, y⟩ := y
    exact hs i z r σ H (y xs q) p hr
  · have e : i = xs.length := by omega
    subst e
    exact .inl ⟨⟨xs, q, rfl⟩, hd σ H p⟩
/-! ### more data to compare -/
theorem eqv_strs (zs : List Str) : PyData.eqvAll (zs.map PyData.str) (zs.map PyData.str) = true := by rw [eqvAll_strs]; exact decide_eq_true rfl
end L2

set_option Elab.async false
set_option linter.all false
set_option maxRecDepth 100000
set_option maxHeartbeats 4000000
/-! y = [.. for x in ..]: the comprehension's value handed straight to the store. -/
namespace L2
open PySem PySem.Spec PyProof.Rows
def tSetC (j : Nat) (t : TE) : TS := fun D σ H => t σ H fun v H1 => D.nx (σ.set j (some v)) H1
section
variable {X : Cx}
theorem ps_setCompG {elt iter : Expr} {x y : Str} {px py spos : Pos} {ifs : List Expr} {scope : Scope} {pos : Pos} {wi : TI} {fs : List Str} {fr : List Nat} {tt : TT} {te : TE} {j : Nat} (hN : X.N.Nodup) (hj : X.N[j]? = some y) (hy : X.env.scope.names.lookup y = some .local)
    (hc : X.calm = true) (S : CompSc X scope x fs fr) (hi : PI X (.Name x px) iter wi)
    (ht : ∀ C s H ex, CT (compX X (x :: fs) scope C s H ex) ifs tt) (he : ∀ C s H ex, PE (compX X (x :: fs) scope C s H ex) elt te) (hs : ∀ z, foldedSetIterable iter X.env z = pure z := by intro _; rfl)
    (hsw : swapsWith (.ListComp elt [⟨.Name x px, iter, ifs, 0⟩] scope pos) (some (.Name y py)) spos.line X.env = pure true := by rfl) :
    PS X (.Assign [.Name y py] (.ListComp elt [⟨.Name x px, iter, ifs, 0⟩] scope pos) spos) (tSetC j (tComp wi fr tt te)) := by
  intro pins s σ H D I h
  obtain ⟨Q, eQ⟩ : ∃ Q : VK, Q = fun v H1 => D.nx (σ.set j (some v)) H1 := ⟨_, rfl⟩
  have h : tComp wi fr tt te σ H Q := by rw [eQ]; exact h
  rw [exec_Assign_Name_used _ _ _ _ hsw]
  refine wpAny_bind (wpAny_standAt (wpAny_bind ?_))
  show wpAny _ _ (comprehension (.ListComp elt [⟨.Name x px, iter, ifs, 0⟩] scope pos) scope X.env _ (newList []) false (eval iter X.env) (some (assign (.Name y py) X.env)) >>= fun _ => pure ()) _ _ s
  refine wpAny_bind (wpAny_mono (wpAny_comprehension_free (use := some (assign (.Name y py) X.env)) (Q := fun _ s' => SP X pins D .next s') rfl hs (closureFor_some fun n hn => I.ok.has n (.inl (S.free n hn).1)) S.kind S.names ?_) (fun _ s' hq => wpAny_pure (wpAny_pure hq)) fun _ _ e => e)
  refine thn (hi pins s σ H _ I h) fun v s1 h1 => thn h1 fun itv s2 h2 => ?_
  obtain ⟨it, fp, tn, J, H2, e, I2, T, st2, f2, W, ⟨m0, w0⟩, turn⟩ := h2
  subst e
  have hlt : ∀ b ∈ fp, b < s2.heap.objs.size := fun b hb => by
    obtain ⟨o, e, _⟩ := T.obj 0 _ st2 b hb
    exact Heap.lt_size e
  refine wpAny_newObj_type (wpAny_newFunctionEnv S.nocell (by intro y hy; simp at hy) (fun h4 hns4 hsb4 => ?_) S.kind)
  dsimp only at hns4 hsb4 ⊢
  generalize hH3 : s2.heap.push { cls := .type "list", dict := none, data := .seq ([] : List Value).toArray } = g3 at hns4 hsb4 ⊢
  have hC : g3.objs.size = s2.heap.objs.size + 1 := by rw [← hH3, Heap.size_push]
  have old3 : ∀ b o, s2.heap.get? b = some o → g3.get? b = some o := fun b o e => hH3 ▸ Heap.get?_push_of_some _ e
  have I3 : Inv X pins σ H2 { s2 with heap := g3 } := I2.kept (t' := s2.toks) old3
  have acc3 : g3.get? s2.heap.objs.size = some (lobj [] 0) := hH3 ▸ Heap.get?_push_size _ rfl
  have old4 : ∀ b o, g3.get? b = some o → h4.get? b = some o := fun b o e => hsb4.extBut b o (Nat.ne_of_lt (Heap.lt_size e)) (Heap.get?_push_of_some _ e)
  have ok := comp_ok (s := { s2 with heap := g3 }) (D := s2.heap.objs.size) (fp := fp) S I2 I3 rfl hC hlt f2
  have I4 := comp_inv (t := s2.toks + ([] : List (Str × Value)).length) S I3 ok hns4 old4
  -- what stays true of the list's place and the iterator's
  have dne := ok.exf s2.heap.objs.size List.mem_cons_self
  have dnf := ok.exfs s2.heap.objs.size List.mem_cons_self
  have fpok : ∀ {H' : Hp} {vs : List Value} {k : Nat}, (∀ b ∈ fp, H' b = none) → ∀ b ∈ fp, FpOk (compX X (x :: fs) scope g3.objs.size { s2 with heap := g3 } H2 (s2.heap.objs.size :: fp)) [(s2.heap.objs.size, lobj vs k)] H' b := fun {H' vs k} hn b hb => by
    have q := ok.exf b (List.mem_cons_of_mem _ hb)
    refine ⟨hn b hb, q.1, ok.exfs b (List.mem_cons_of_mem _ hb), .inl (List.mem_cons_of_mem _ hb), q.2, fun p hp => ?_⟩
    have e : p = (s2.heap.objs.size, lobj vs k) := by simpa using hp
    rw [e]
    exact Nat.ne_of_gt (hlt b hb)
  have start : Inv (compX X (x :: fs) scope g3.objs.size { s2 with heap := g3 } H2 (s2.heap.objs.size :: fp)) [(s2.heap.objs.size, lobj [] 0)] (none :: slotsOf fr σ) H2 { s2 with heap := h4, toks := s2.toks + ([] : List (Str × Value)).length } :=
    I4.pins_of fun p hp => by
      have e : p = (s2.heap.objs.size, lobj [] 0) := by simpa using hp
      subst e
      exact ⟨old4 _ _ acc3, I2.hok.fresh (Nat.le_refl _), dne.1, dnf, fun v z => by cases z⟩
  have stn : tn 0 h4 := T.keep 0 _ _ st2 fun b _ o e => old4 b o (old3 b o e)
  -- the end of the block
  have fin : ∀ {i : Nat} {σ0 : Option V} {H' : Hp} {ys : List V} {vs : List Value} {k : Nat} {s' : Shared}, Inv (compX X (x :: fs) scope g3.objs.size { s2 with heap := g3 } H2 (s2.heap.objs.size :: fp)) [(s2.heap.objs.size, lobj vs k)] (σ0 :: slotsOf fr σ) H' s' → Vals ys vs → ys.length ≤ sizeLine →
      (∀ l, H' l = none → Q (.ref l) (upd H' l (.lst ys))) → wpAny (model X.prog X.w) X.A (assign (.Name y py) X.env (.ref s2.heap.objs.size)) (fun _ s'' => ∃ m, s''.heap.Ns g3.objs.size m ∧ ∀ h', Heap.SameBut g3.objs.size s''.heap h' → SP X pins D .next { s'' with heap := h' }) X.xe s' := by
    intro i σ0 H' ys vs k s' J1 rv hz q
    obtain ⟨m, hn, _⟩ := id J1.loc
    have below : ∀ y c, X.env.cells.lookup y = some c → c < s2.heap.objs.size := fun y c z => by
      obtain ⟨v, q⟩ := I2.cell y c z
      exact q.lt
    have pbelow : ∀ p ∈ X.pn ++ pins, p.1 < s2.heap.objs.size := fun p hp => Heap.lt_size (I2.pin p hp).1
    have I5 : Inv X pins σ H' s' := I3.call' (ch := s2.heap.objs.size :: fp) J1.os J1.base J1.hok J1.bare fun b hb => by
      rcases List.mem_cons.mp hb with e | hb
      · rw [e]
        exact ⟨.inr I2.sz, Nat.ne_of_gt I2.lt, fun y c z => Nat.ne_of_lt (below y c z), fun p hp => Nat.ne_of_lt (pbelow p hp)⟩
      · exact ⟨(f2 b hb).2.2.2.1, (f2 b hb).2.1, (f2 b hb).2.2.2.2.1, (f2 b hb).2.2.2.2.2⟩
    have szC : s2.heap.objs.size < g3.objs.size := by omega
    obtain ⟨eD, nD, _⟩ := J1.pin (s2.heap.objs.size, lobj vs k) (by simp)
    have I7 := I5.adopt nD eD rv hz I2.sz (Nat.ne_of_gt I2.lt) (fun y c z => Nat.ne_of_lt (below y c z)) (fun p hp => Nat.ne_of_lt (pbelow p hp))
    refine wpAny_assign_Name (store_ok2 (v := .ref s2.heap.objs.size) I7 hN hj (.inl hy) rfl (fun s3 I8 ⟨a, sb, ha⟩ => ⟨m, hn.sameBut sb ?_, fun h' sb' => ?_⟩) (.inr hy))
    · rcases ha with e | e
      · rw [e]
        exact Nat.ne_of_gt (Nat.lt_trans I2.lt szC)
      · exact Nat.ne_of_gt (Nat.lt_trans (below _ _ e) szC)
    · have nC : upd H' s2.heap.objs.size (.lst ys) g3.objs.size = none := by
        rw [upd_ne (Nat.ne_of_gt szC)]
        exact J1.free
      have I9 : Inv X pins (σ.set j (some (.ref s2.heap.objs.size))) (upd H' s2.heap.objs.size (.lst ys)) { s3 with heap := h' } := I8.turned (t' := s3.toks) (it := g3.objs.size) (fun b o hb e => sb'.extBut b o hb e) nC (Nat.ne_of_gt (Nat.lt_trans I2.lt szC)) (.inr (Nat.le_of_lt (Nat.lt_of_le_of_lt I2.sz szC)))
        (fun y c z => Nat.ne_of_lt (Nat.lt_trans (below y c z) szC)) (fun p hp => Nat.ne_of_lt (Nat.lt_trans (pbelow p hp) szC))
      have q' := q _ nD
      rw [eQ] at q'
      exact ⟨_, _, I9, q'⟩
  have loop : ∀ s4 : Shared, s4 = { s2 with heap := h4, toks := s2.toks + ([] : List (Str × Value)).length } →
      codeAny (model X.prog X.w) X.A (.compLoop (.ListComp elt [⟨.Name x px, iter, ifs, 0⟩] scope pos) 0 (.ref it) (.ref s2.heap.objs.size) (compEnvC scope (clOf scope X.env) g3.objs.size X.env))
        (compPost (model X.prog X.w) X.A X.xe (some (assign (.Name y py) X.env)) (fun _ s' => SP X pins D .next s') (.ref s2.heap.objs.size) g3.objs.size) s4 := by
    rintro s4 rfl
    refine codeAny_compLoop_tests (fun n s' => ∃ i σ0 H' ys vs k, Inv (compX X (x :: fs) scope g3.objs.size { s2 with heap := g3 } H2 (s2.heap.objs.size :: fp)) [(s2.heap.objs.size, lobj vs k)] (σ0 :: slotsOf fr σ) H' s' ∧ tn i s'.heap ∧ (∀ b ∈ fp, H' b = none) ∧ Vals ys vs ∧ W i n ys H') ?_ m0
      ⟨0, none, H2, [], [], 0, start, stn, fun b hb => (f2 b hb).1, .nil, w0⟩
    rintro n s' ⟨i, σ0, H', ys, vs, k, J1, st, fr1, rv, w1⟩
    rcases turn i n ys H' w1 with ⟨stop, hz, q⟩ | ⟨go, hz, step⟩
    · refine thn (T.done (compX X (x :: fs) scope g3.objs.size { s2 with heap := g3 } H2 (s2.heap.objs.size :: fp)) rfl rfl rfl hc i _ s' _ H' _ J1 (fpok fr1) st stop) fun r s5 ⟨hr, J2⟩ => ?_
      subst hr
      exact fin (i := i) J2 rv hz q
    · refine thn (T.item (compX X (x :: fs) scope g3.objs.size { s2 with heap := g3 } H2 (s2.heap.objs.size :: fp)) rfl rfl rfl hc i _ s' _ H' _ J1 (fpok fr1) st go) fun r s5 ⟨u, hr, h5⟩ => ?_
      subst hr
      change wpAny _ _ (letOwnedTupleGo (.Name x px) (.ref it) u >>= fun _ => assign (.Name x px) (compEnvC scope (clOf scope X.env) g3.objs.size X.env) u) _ _ s5
      refine wpAny_bind (thn h5 fun _ s6 ⟨v, H6, J6, r6, y6, st6, fr6⟩ => ?_)
      have J6' := J6.pinned (fp := fp) (fpok fr6) (T.obj _ _ st6)
      have loc := lookup_relabel_local (env := X.env) S.loc
      refine wpAny_mono (pg_name (i := 0) S.nd rfl (.inl loc) (.inr loc) _ s6 _ H6 v u (fun σ' H' => σ' = some v :: slotsOf fr σ ∧ H' = H6) J6' r6 ⟨rfl, rfl⟩) (fun _ s7 ⟨σ7, H7, J7, e7, e7'⟩ => ?_) (fun _ _ z => z.elim)
      subst e7 e7'
      have pfp : ∀ {σ8 : St} {H8 : Hp} {s8 : Shared}, Inv (compX X (x :: fs) scope g3.objs.size { s2 with heap := g3 } H2 (s2.heap.objs.size :: fp)) ([(s2.heap.objs.size, lobj vs k)] ++ pinsAt fp s6.heap) σ8 H8 s8 →
          tn (i + 1) s8.heap ∧ ∀ b ∈ fp, H8 b = none := fun {σ8 H8 s8} J8 => by
        refine ⟨T.keep _ _ _ st6 fun b hb o e => (J8.pin (b, o) (List.mem_append_right _ (List.mem_append_right _ (mem_pinsAt hb e)))).1, fun b hb => ?_⟩
        obtain ⟨o, e, d⟩ := T.obj _ _ st6 b hb
        exact (J8.pin (b, o) (List.mem_append_right _ (List.mem_append_right _ (mem_pinsAt hb e)))).2.1
      refine wpAny_mono (ht _ _ _ _ _ s7 _ H7 _ J7 (step v H7 y6)) (fun ok8 s8 ⟨H8, J8, q8⟩ => ?_) (fun _ _ z => z.elim)
      cases ok8 with
      | false =>
        rw [if_neg Bool.false_ne_true] at q8
        rw [if_neg Bool.false_ne_true]
        obtain ⟨m', hm, w8⟩ := q8
        obtain ⟨t8, n8⟩ := pfp J8
        exact ⟨m', hm, i + 1, some v, H8, ys, vs, k, J8.unpinned, t8, n8, rv, w8⟩
      | true =>
        rw [if_pos rfl] at q8
        rw [if_pos rfl]
        refine wpAny_mono (he _ _ _ _ _ s8 _ H8 _ J8 q8) (fun y s9 ⟨yv, H9, J9, r9, m', hm, w9⟩ => ?_) (fun _ _ z => z.elim)
        obtain ⟨t9, n9⟩ := pfp J9
        obtain ⟨eD, nD, _⟩ := J9.pin (s2.heap.objs.size, lobj vs k) (by simp)
        have hl := rv.length
        refine call_meets F.slot_list_append ⟨_, eD, rfl⟩ F.entry_list_append (F.args_list_append_2 _ _) (PySem.list_append s2.heap.objs.size vs.toArray k y (by rw [List.size_toArray]; omega)) ⟨eD, ?_⟩
        have eN := PySem.IsL.update (h := s9.heap) (l := s2.heap.objs.size) (items := vs.toArray) (n := k) eD (·.push y)
        have eV : vs.toArray.push y = (vs ++ [y]).toArray := by simp
        rw [eV] at eN
        obtain ⟨k', eN⟩ : ∃ k', (s9.heap.update s2.heap.objs.size (Obj.mapSeq (·.push y))).get? s2.heap.objs.size = some (lobj (vs ++ [y]) k') := ⟨_, eN⟩
        have K9 : Inv (compX X (x :: fs) scope g3.objs.size { s2 with heap := g3 } H2 (s2.heap.objs.size :: fp)) [] (some v :: slotsOf fr σ) H9 s9 := J9.pins_of fun p hp => absurd hp (by simp)
        have K10 : Inv (compX X (x :: fs) scope g3.objs.size { s2 with heap := g3 } H2 (s2.heap.objs.size :: fp)) [] (some v :: slotsOf fr σ) H9 { s9 with heap := s9.heap.update s2.heap.objs.size (Obj.mapSeq (·.push y)) } :=
          K9.turned (t' := s9.toks) (it := s2.heap.objs.size) (fun b o hb e => (Heap.get?_update_other s9.heap (Obj.mapSeq (·.push y)) (Ne.symm hb)).trans e) nD dne.1 (.inl List.mem_cons_self) dne.2 (fun p hp => absurd hp (by simp))
        refine ⟨m', hm, i + 1, some v, H9, ys ++ [yv], vs ++ [y], k', K10.pins_of fun p hp => ?_, T.keep _ _ _ t9 fun b hb o e => (Heap.get?_update_other s9.heap (Obj.mapSeq (·.push y)) (Nat.ne_of_gt (hlt b hb))).trans e, n9, rv.append (.cons r9 .nil), w9⟩
        have e : p = (s2.heap.objs.size, lobj (vs ++ [y]) k') := List.mem_singleton.mp hp
        rw [e]
        exact ⟨eN, nD, dne.1, dnf, fun v z => by cases z⟩
  exact codeAny_compStart_list (loop _ rfl) (T.self X.A 0 _ _ _ stn (loop _ rfl))
theorem ps_setComp {elt iter : Expr} {x y : Str} {px py spos : Pos} {scope : Scope} {pos : Pos} {wi : TI} {fs : List Str} {fr : List Nat} {te : TE} {j : Nat} (hN : X.N.Nodup) (hj : X.N[j]? = some y) (hy : X.env.scope.names.lookup y = some .local)
    (hc : X.calm = true) (S : CompSc X scope x fs fr) (hi : PI X (.Name x px) iter wi)
    (he : ∀ C s H ex, PE (compX X (x :: fs) scope C s H ex) elt te) (hs : ∀ z, foldedSetIterable iter X.env z = pure z := by intro _; rfl)
    (hsw : swapsWith (.ListComp elt [⟨.Name x px, iter, [], 0⟩] scope pos) (some (.Name y py)) spos.line X.env = pure true := by rfl) :
    PS X (.Assign [.Name y py] (.ListComp elt [⟨.Name x px, iter, [], 0⟩] scope pos) spos) (tSetC j (tComp wi fr tTrue te)) := ps_setCompG hN hj hy hc S hi (fun _ _ _ _ => ct_nil) he hs hsw
theorem ps_setCompIf {elt iter c : Expr} {x y : Str} {px py spos : Pos} {scope : Scope} {pos : Pos} {wi : TI} {fs : List Str} {fr : List Nat} {tc : TT} {te : TE} {j : Nat} (hN : X.N.Nodup) (hj : X.N[j]? = some y) (hy : X.env.scope.names.lookup y = some .local)
    (hc : X.calm = true) (S : CompSc X scope x fs fr) (hi : PI X (.Name x px) iter wi)
    (ht : ∀ C s H ex, PT (compX X (x :: fs) scope C s H ex) c tc) (he : ∀ C s H ex, PE (compX X (x :: fs) scope C s H ex) elt te) (hs : ∀ z, foldedSetIterable iter X.env z = pure z := by intro _; rfl)
    (hsw : swapsWith (.ListComp elt [⟨.Name x px, iter, [c], 0⟩] scope pos) (some (.Name y py)) spos.line X.env = pure true := by rfl) :
    PS X (.Assign [.Name y py] (.ListComp elt [⟨.Name x px, iter, [c], 0⟩] scope pos) spos) (tSetC j (tComp wi fr tc te)) := ps_setCompG hN hj hy hc S hi (fun C s H ex => ct_one (ht C s H ex)) he hs hsw
end
section
variable {X : Cx} {K : PySem.W.Frag}
theorem sl_listK (h : X.K = K := by rfl) : SlR X (rSlL K) := h ▸ sl_list
theorem sl_tupAK (h : X.K = K := by rfl) : SlR X (rSlA K) := h ▸ sl_tupA
end
end L2

set_option Elab.async false
set_option linter.all false
set_option maxRecDepth 100000
set_option maxHeartbeats 4000000
namespace L2
open PySem PySem.Spec PyProof.Rows
/-! ## dict(a list of pairs) -/
section
variable {prog : Program} {w : World} {A : Around} {E : Value → Shared → Prop}
theorem dp_list_getattr : typeLookup (.type "list") "__getattr__" = pure none := by rw [typeLookup_type, builtinLookup_eq_fast]; kernel_rfl
theorem dp_list_keys : typeLookup (.type "list") "keys" = pure none := by rw [typeLookup_type, builtinLookup_eq_fast]; kernel_rfl
theorem dp_miss {a : Addr} {its : Array Value} {n : Nat} {sl} {u : Tok} {h : Heap} {g : Array GenState} {d : Drawn} {t : Nat} {os : OsState} {Q : Fin → Shared → Prop} (hx : h.get? a = some { cls := .type "list", dict := none, data := .seq its n, slots := sl }) (hA : A.handled = none)
    (k : ∀ h' tk e, Heap.NewAttrErr h h' e (.ref a) "keys" → E (.ref e) ⟨h', g, d, tk, os⟩) :
    wpAny (model prog w) A (Builtin.«object.__getattribute__» ⟨[.ref a, .str "keys" u], []⟩) Q E ⟨h, g, d, t, os⟩ := by
  have hT : (⟨h, g, d, t, os⟩ : Shared).TypeIs (.ref a) "list" := ⟨_, hx, rfl⟩
  have f4 := dp_list_keys
  unfold Builtin.«object.__getattribute__»
  repeat (any_goals (first | (assumption) | (wp_step)))
  refine wpAny_raiseAttrError hA k ?_
  exact attrMsg_fits (by decide +kernel) (by size_fits)
theorem dp_call {a : Addr} {its : Array Value} {n : Nat} {sl} {u : Tok} {h : Heap} {g : Array GenState} {d : Drawn} {t : Nat} {os : OsState} {R : Result → Shared → Prop} (hx : h.get? a = some { cls := .type "list", dict := none, data := .seq its n, slots := sl }) (hA : A.handled = none)
    (k : ∀ h' tk e, Heap.NewAttrErr h h' e (.ref a) "keys" → R (.error (.ref e)) ⟨h', g, d, tk, os⟩) :
    codeAny (model prog w) A (.call (.builtin "list.__getattribute__") ⟨[.ref a, .str "keys" u], []⟩) R ⟨h, g, d, t, os⟩ :=
  codeAny_call_builtin F.slot_list_getattribute.plain F.entry_list_ga (F.slot_list_getattribute.check _ _ _ _ _ _ _ _ (show (⟨h, g, d, t, os⟩ : Shared).TypeIs (.ref a) "list" from ⟨_, hx, rfl⟩) (F.args_list_getattribute_2 _ _) (dp_miss hx hA k))
theorem dp_by {a : Addr} {its : Array Value} {n : Nat} {sl} {u : Tok} {h : Heap} {g : Array GenState} {d : Drawn} {t : Nat} {os : OsState} {Q : Value → Shared → Prop} (hx : h.get? a = some { cls := .type "list", dict := none, data := .seq its n, slots := sl }) (hA : A.handled = none)
    (k : ∀ h' tk e, Heap.NewAttrErr h h' e (.ref a) "keys" → E (.ref e) ⟨h', g, d, tk, os⟩) :
    wpAny (model prog w) A (getAttrBy (.ref a) (.str "keys" u) false) Q E ⟨h, g, d, t, os⟩ := by
  have hT : (⟨h, g, d, t, os⟩ : Shared).TypeIs (.ref a) "list" := ⟨_, hx, rfl⟩
  have g2 := F.slot_list_getattribute.lookup
  have g3 := F.slot_list_getattribute.bind (.ref a)
  have f5 := dp_list_getattr
  have f1 := sub_AttributeError
  repeat (any_goals (first | (assumption) | (wp_step)))
  refine dp_call hx hA fun h' tk e ne => ?_
  obtain ⟨t', u', he⟩ := ne.there
  show wpAny (model prog w) A (getattributeRaised (.ref a) (.str "keys" u) _ _ _ _ _) _ _ _
  unfold getattributeRaised
  repeat (any_goals (first | (assumption) | (wp_step)))
  exact k _ _ _ ne
theorem dp_attr {a : Addr} {its : Array Value} {n : Nat} {sl} {h : Heap} {g : Array GenState} {d : Drawn} {t : Nat} {os : OsState} {Q : Option Value → Shared → Prop} (hx : h.get? a = some { cls := .type "list", dict := none, data := .seq its n, slots := sl }) (hA : A.handled = none)
    (k : ∀ h' tk e, Heap.NewAttrErr h h' e (.ref a) "keys" → Q none ⟨h', g, d, tk, os⟩) :
    wpAny (model prog w) A (getAttr? (.ref a) "keys") Q E ⟨h, g, d, t, os⟩ := by
  have f1 := sub_AttributeError
  unfold getAttr? getAttrBy?
  repeat (any_goals (first | assumption | (with_reducible refine dp_by hx hA fun h' tk e ne => ?_) | wp_step))
  obtain ⟨t', u', he⟩ := ne.there
  repeat (any_goals (first | (assumption) | (wp_step)))
  exact k _ _ _ ne
theorem Paired.at' {α β : Type} {F : α → β → Prop} : ∀ {l₁ : List α} {l₂ : List β} {i : Nat} {x : α}, Paired F l₁ l₂ → l₁[i]? = some x → ∃ y, l₂[i]? = some y ∧ F x y
  | _, _, _, _, .nil, e => by simp at e
  | _, _, 0, _, .cons r _, e => by simp at e; subst e; exact ⟨_, rfl, r⟩
  | _, _, i + 1, x, .cons _ t, e => by
    obtain ⟨y, h1, h2⟩ := Paired.at' (i := i) (x := x) t (by simpa using e)
    exact ⟨y, by simpa using h1, h2⟩
theorem dp_entry : entryFor table "dict.update.loop" = some Builtin.«dict.update.loop» := entryFor_of_tree (by kernel_rfl)
def PairAt (prog : Program) (w : World) (h0 : Heap) (x : Value) (kv : Key × Value) : Prop := ∃ t o n ku, x = .ref t ∧ h0.get? t = some o ∧ o.cls = .type "tuple" ∧ o.data = .seq #[ku, kv.2] n ∧ (mixKind prog w).is kv.1 ku = true
theorem dp_loop {l d it : Addr} {items : List Value} {h0 : Heap} {pairs : List (Key × Value)} {R : Result → Shared → Prop} (hA : A.handled = none) (hd0 : h0.get? d = none) (hi0 : h0.get? it = none) (hdi : d ≠ it)
    (hl : h0.IsList l items.toArray) (hp : Paired (PairAt prog w h0) items pairs) (hsz : pairs.length ≤ sizeLine) (g : Array GenState) (dr : Drawn) (os : OsState)
    (k : ∀ h' tk, (∀ b o, h0.get? b = some o → h'.get? b = some o) → h'.DictOf (mixKind prog w) d (merged [] pairs) → R (.ok (.ret .none)) ⟨h', g, dr, tk, os⟩) :
    ∀ (m i : Nat) (h : Heap) (tk : Nat), items.length - i = m → i ≤ items.length → (∀ b o, h0.get? b = some o → h.get? b = some o) → h.IsListIter it l i → h.DictOf (mixKind prog w) d (merged [] (pairs.take i)) →
      codeAny (model prog w) A (.builtin "dict.update.loop" ⟨[.ref d, .ref it, rawInt i, .none], []⟩) R ⟨h, g, dr, tk, os⟩ := by
  intro m
  have lp : items.length = pairs.length := Paired.length hp
  induction m with
  | zero =>
    intro i h tk em hi kp hit hd
    have ei : i = items.length := by omega
    refine codeAny_builtin dp_entry ?_
    unfold Builtin.«dict.update.loop»
    obtain ⟨ol, hol, hlc, nl, hld⟩ := hl
    show wpAny _ _ (pyNext (.ref it) >>= _) _ _ _
    refine wpAny_bind (wpAny_pyNext_list_end (show (A.under _).handled = none from hA) hit ⟨ol, kp _ _ hol, hlc, nl, hld⟩ (by rw [ei]; simp) fun h' hs => ?_)
    show wpAny _ _ (Builtin.Dict.addKeywords d [] >>= _) _ _ _
    refine wpAny_bind (wpAny_pure (wpAny_pure ?_))
    rw [ei, lp, List.take_length] at hd
    exact k h' _ (fun b o hb => hs b o (fun e => by rw [e, hi0] at hb; cases hb) (kp b o hb)) (hd.extBut hs hdi)
  | succ m ih =>
    intro i h tk em hi kp hit hd
    have hlt : i < items.length := by omega
    obtain ⟨x, hx⟩ : ∃ x, items[i]? = some x := ⟨_, List.getElem?_eq_getElem hlt⟩
    obtain ⟨kv, hkv, t, o, n, ku, rfl, hto, htc, htd, hku⟩ := Paired.at' hp hx
    refine codeAny_builtin dp_entry ?_
    unfold Builtin.«dict.update.loop»
    obtain ⟨ol, hol, hlc, nl, hld⟩ := hl
    show wpAny _ _ (pyNext (.ref it) >>= _) _ _ _
    refine wpAny_bind (wpAny_pyNext_list_item hit ⟨ol, kp _ _ hol, hlc, nl, hld⟩ (x := .ref t) (by simpa using hx) fun h1 hit1 hs1 => ?_)
    have kp1 : ∀ b o, h0.get? b = some o → h1.get? b = some o := fun b o hb => (hs1.2 b (fun e => by rw [e, hi0] at hb; cases hb)).trans (kp b o hb)
    have hd1 := hd.sameBut hs1 hdi
    refine wpAny_bind (wpAny_holding (wpAny_bind (wpAny_tryCatch ?_)))
    unfold Builtin.Dict.pairItems
    refine wpAny_bind (wpAny_typeOf (T := "tuple") ⟨o, kp1 _ _ hto, htc⟩ ?_)
    rw [if_pos (by decide)]
    refine wpAny_bind (wpAny_seqItems (kp1 _ _ hto) htd (wpAny_pure ?_))
    show wpAny _ _ (holding [ku, kv.2] (dictSet d ku kv.2)) _ _ _
    have lm : (merged [] (pairs.take i)).length ≤ sizeLine := by
      have e1 := merged_length_le [] (pairs.take i)
      rw [List.length_take] at e1
      simp only [List.length_nil] at e1
      omega
    refine wpAny_holding (wpAny_dictSet_pairs (hsz := lm) hku hd1 fun h2 hd2 hs2 => ?_)
    refine wpAny_pure ⟨Code.quiet_builtin _ (by decide +kernel), ?_⟩
    have hit2 : h2.IsListIter it l (i + 1) := by
      obtain ⟨oi, hoi, r⟩ := hit1
      exact ⟨oi, (hs2.2 it (Ne.symm hdi)).trans hoi, r⟩
    have kp2 : ∀ b o, h0.get? b = some o → h2.get? b = some o := fun b o hb => (hs2.2 b (fun e => by rw [e, hd0] at hb; cases hb)).trans (kp1 b o hb)
    exact ih (i + 1) h2 _ (by omega) hlt kp2 hit2 (by rw [merged_take_succ [] pairs i kv hkv]; exact hd2)
theorem dp_dict {p : Addr} {items : List Value} {pairs : List (Key × Value)} {s : Shared} {Q : Value → Shared → Prop} (hA : A.handled = none) (pl : PlainL s.heap p items.toArray) (hp : Paired (PairAt prog w s.heap) items pairs) (hsz : pairs.length ≤ sizeLine)
    (k : ∀ h' tk, (∀ b o, s.heap.get? b = some o → h'.get? b = some o) → h'.DictOf (mixKind prog w) s.heap.objs.size (merged [] pairs) → Q (.ref s.heap.objs.size) { s with heap := h', toks := tk }) :
    wpAny (model prog w) A (call (.type "dict") [.ref p]) Q E s := by
  refine callType_codes (Q₁ := fun v1 z1 => v1 = .ref s.heap.objs.size ∧ z1 = { s with heap := s.heap.push { cls := .type "dict", data := .dict #[] } }) F.kt_called_dict (F.kt_typeCall_dict_1 _) F.entry_dict_init (kt_code_dict_new _ ⟨rfl, rfl⟩) ?_
  rintro v1 z1 ⟨rfl, rfl⟩
  obtain ⟨hp0, g, dr, tk, os⟩ := s
  obtain ⟨⟨oc, od, oda, osl⟩, n, ho, hc, hdn, hdd⟩ := pl
  have hc : oc = .type "list" := hc
  have hdn : od = none := hdn
  have hdd : oda = .seq items.toArray n := hdd
  subst hc hdn hdd
  have hnew : (hp0.push { cls := .type "dict", data := .dict #[] }).DictOf (mixKind prog w) hp0.objs.size [] := Heap.DictOf.new hp0
  have ho1 := Heap.get?_push_of_some { cls := .type "dict", data := .dict #[] } ho
  refine ⟨hnew.typeIs, F.args_dict_init_2 _ _, ?_⟩
  unfold Builtin.«dict.__init__»
  refine wpAny_bind ?_
  unfold Builtin.Dict.selfAndRest
  refine wpAny_bind (wpAny_notOrdered_dict hnew.typeIs (wpAny_pure ?_))
  show wpAny (model prog w) _ (Builtin.Dict.updateFrom "dict.__init__" hp0.objs.size (.ref p) [] .none) _ _ _
  unfold Builtin.Dict.updateFrom
  refine wpAny_bind (wpAny_typeOf (T := "list") ⟨_, ho1, rfl⟩ ?_)
  rw [if_pos (by decide)]
  refine wpAny_bind (dp_attr ho1 hA fun h2 tk2 e ne => ?_)
  rw [if_pos (by decide)]
  refine wpAny_bind (wpAny_rule ?_)
  have ho2 := ne.keeps _ _ ho1
  refine wpAny_bind (wpAny_pyIter_list (items := items.toArray) ⟨_, ho2, rfl, n, rfl⟩ ?_)
  have kp : ∀ b o, hp0.get? b = some o → (h2.push { cls := .type "list_iterator", data := .fields #[.ref p, .int 0 0] }).get? b = some o := fun b o hb => Heap.get?_push_of_some _ (ne.keeps _ _ (Heap.get?_push_of_some _ hb))
  have hd2 : h2.DictOf (mixKind prog w) hp0.objs.size [] := by
    obtain ⟨o', es, ep, h', r⟩ := hnew
    exact ⟨o', es, ep, ne.keeps _ _ h', r⟩
  have ld : hp0.objs.size < h2.objs.size := by
    obtain ⟨o', es, ep, h', r⟩ := hd2
    exact Heap.lt_size h'
  refine wpAny_pure ⟨Code.quiet_builtin _ (by decide +kernel), ?_⟩
  refine dp_loop (l := p) (d := hp0.objs.size) (it := h2.objs.size) (items := items) (h0 := hp0) (pairs := pairs) (show A.in1.handled = none from hA) (Heap.get?_none_of_le (Nat.le_refl _)) (Heap.get?_none_of_le (Nat.le_of_lt ld)) (Nat.ne_of_lt ld) ⟨_, ho, rfl, n, rfl⟩ hp hsz g dr os (fun h' tk' kp' hd' => ⟨rfl, k h' tk' kp' hd'⟩) items.length 0 _ _ rfl (Nat.zero_le _) kp ?_ (hd2.push _)
  exact ⟨_, Heap.get?_push_size _ rfl, rfl, rfl⟩
end
section
variable {X : Cx}
/-- dict([(k, v), ..]) -/
def rDictP (K : PySem.W.Frag) : List V → Hp → VK → Prop := fun xs H Q => ∃ p ys kvs, xs = [.ref p] ∧ SqL K H p ys ∧ Paired (fun (y : V) (kv : Key × V) => ∃ t, y = .ref t ∧ H t = some (.tup [kV kv.1, kv.2])) ys kvs ∧ ∀ d, H d = none → Q (.ref d) (upd H d (.dK (mergeK [] kvs)))
theorem pairs_of {P : Program} {w : World} {H : Hp} {h : Heap} (ok : HOk P w H h) : ∀ {ys : List V} {us : List Value} {kvs : List (Key × V)}, Vals ys us → Paired (fun (y : V) (kv : Key × V) => ∃ t, y = .ref t ∧ H t = some (.tup [kV kv.1, kv.2])) ys kvs → ∃ ps, Paired (PairAt P w h) us ps ∧ KV kvs ps
  | _, _, _, .nil, .nil => ⟨[], .nil, .nil⟩
  | _, _, _, .cons (b := u) r t, .cons (b := kv) ⟨a, ea, ha⟩ q => by
    obtain ⟨ps, h1, h2⟩ := pairs_of ok t q
    subst ea
    cases (show u = Value.ref a from r)
    obtain ⟨_, its, ri, o, e1, e2, n, e3⟩ := (show ObjOk P w H h a (.tup [kV kv.1, kv.2]) from ok a _ ha)
    match its, ri with
    | [ku, vu], .cons rk (.cons rv .nil) => exact ⟨(kv.1, vu) :: ps, .cons ⟨a, o, n, ku, rfl, e1, e2, e3, kV_is rk⟩ h1, .cons ⟨rfl, rv⟩ h2⟩
theorem call_dict_pairs (hA : X.A.handled = none) : CallR X (.type "dict") (rDictP X.K) := by
  intro pins s σ H xs us Q I r h
  obtain ⟨p, ys, kvs, rfl, hq, hk, q⟩ := h
  obtain ⟨u, rfl, rx⟩ := vals1 r
  cases rx
  obtain ⟨its, r', pl, hz⟩ := I.list hq
  obtain ⟨ps, h1, h2⟩ := pairs_of I.hok r' hk
  have l1 : its.length = ps.length := Paired.length h1
  have l2 := r'.length
  refine dp_dict hA pl h1 (by omega) fun h' tk kp hd => ?_
  have rel : KV (mergeK [] kvs) (merged [] ps) := KV.merge h2 .nil
  have lz : (mergeK [] kvs).length ≤ sizeLine := by
    have e1 := merged_length_le [] ps
    rw [rel.length]
    simp only [List.length_nil] at e1
    omega
  exact ⟨.ref s.heap.objs.size, _, I.laid (t' := tk) kp (Nat.le_refl _) (dk_new lz (beq_eq_false_iff_ne.mpr (Ne.symm (Nat.ne_of_lt I.big))) rel hd), rfl, q _ (I.hok.fresh (Nat.le_refl _))⟩
/-- is, is not of two bools -/
theorem op_isB : OpR X (compareOp .Is) (fun x y H Q => ∃ a b, x = .bl a ∧ y = .bl b ∧ Q (.bl (a == b)) H) := by
  intro pins s σ H x y v u Q I rx ry h
  obtain ⟨a, b, rfl, rfl, q⟩ := h
  cases rx
  cases ry
  exact wpAny_of_eq (a := Value.bool (a == b)) (by cases a <;> cases b <;> rfl) (fin_bl I q rfl)
theorem op_isnotB : OpR X (compareOp .IsNot) (fun x y H Q => ∃ a b, x = .bl a ∧ y = .bl b ∧ Q (.bl (!(a == b))) H) := by
  intro pins s σ H x y v u Q I rx ry h
  obtain ⟨a, b, rfl, rfl, q⟩ := h
  cases rx
  cases ry
  exact wpAny_of_eq (a := Value.bool (!(a == b))) (by cases a <;> cases b <;> rfl) (fin_bl I q rfl)
end
end L2

set_option Elab.async false
set_option linter.all false
set_option maxRecDepth 100000
set_option maxHeartbeats 4000000
/-! a comprehension whose target is a tuple of names: [e for x, y in it] -/
namespace L2
open PySem PySem.Spec PyProof.Rows
section
variable {prog : Program} {w : World} {A : Around} {s : Shared} {R : Result → Shared → Prop}
theorem comp_loopT {elt tg iter : Expr} {ifs : List Expr} {scope : Scope} {pos : Pos} {it acc : Value} {env : Env} (Iv : Nat → Shared → Prop)
    (turn : ∀ n z, Iv n z → wpAny (model prog w) A (pyNext it) (fun r z1 => match r with
      | none => R (.ok .next) z1
      | some v => wpAny (model prog w) A (letOwnedTupleGo tg it v) (fun _ y2 => wpAny (model prog w) A (assign tg env v) (fun _ z2 =>
          wpAny (model prog w) A (forIn ifs true fun c r => if r = true then do let ok ← isTrue c env (eval c env); pure (ForInStep.yield ok) else pure (ForInStep.yield r)) (fun ok z3 =>
            if ok = true then wpAny (model prog w) A (eval elt env) (fun x z4 =>
              wpAny (model prog w) A (call (.builtin "list.append") [acc, x]) (fun _ z5 => ∃ m, m < n ∧ Iv m z5) (notedBy (model prog w) A env fun e z' => R (.error e) z') z4) (notedBy (model prog w) A env fun e z' => R (.error e) z') z3
            else ∃ m, m < n ∧ Iv m z3) (notedBy (model prog w) A env fun e z' => R (.error e) z') z2) (notedBy (model prog w) A env fun e z' => R (.error e) z') y2) (notedBy (model prog w) A env fun e z' => R (.error e) z') z1) (notedBy (model prog w) A env fun e z' => R (.error e) z') z)
    (n : Nat) (h : Iv n s) : codeAny (model prog w) A (.compLoop (.ListComp elt [⟨tg, iter, ifs, 0⟩] scope pos) 0 it acc env) R s := by
  refine codeAny_loop rfl Iv (fun n z hI => ?_) n h
  show wpAny (model prog w) A ((compTurn (.ListComp elt [⟨tg, iter, ifs, 0⟩] scope pos) 0 it acc env).onRaise (fun x => do noteFrame x env; theTreesLotGoes x)) _ _ z
  refine wpAny_noted ?_
  rw [compTurn_list]
  refine wpAny_bind (wpAny_standAt (wpAny_bind (wpAny_mono (turn n z hI) (fun r z1 q1 => ?_) fun _ _ q => q)))
  cases r with
  | none => exact wpAny_pure q1
  | some v =>
    refine wpAny_bind (wpAny_mono q1 (fun _ z2 q3 => wpAny_bind (wpAny_mono q3 (fun _ z3 q4 => wpAny_bind (wpAny_mono q4 (fun ok z4 q5 => ?_) fun _ _ q => q)) fun _ _ q => q)) fun _ _ q => q)
    cases ok with
    | false => exact wpAny_pure ⟨rfl, q5⟩
    | true => exact wpAny_bind (wpAny_bind (wpAny_mono q5 (fun x z5 q6 => wpAny_bind (wpAny_mono q6 (fun _ z6 q7 => wpAny_pure (wpAny_pure ⟨rfl, q7⟩)) fun _ _ q => q)) fun _ _ q => q))
end
/-- how its names lie: its own names x, more; the names fs that it takes from around it, and their slots there -/
structure CompScT (X : Cx) (scope : Scope) (x : Str) (more fs : List Str) (fr : List Nat) : Prop where
  one : CompSc X scope x fs fr
  nd2 : (x :: more ++ fs).Nodup
def tCompT (wi : TI) (k : Nat) (fr : List Nat) (g : TG) (tt : TT) (te : TE) : TE := fun σ H Q => wi σ H fun J H1 => ∃ W : Nat → Nat → List V → Hp → Prop, (∃ m, W 0 m [] H1) ∧ ∀ i m ys H2, W i m ys H2 →
  (J.stop i H2 ∧ ys.length ≤ sizeLine ∧ ∀ l, H2 l = none → Q (.ref l) (upd H2 l (.lst ys))) ∨
  (J.go i H2 ∧ ys.length < sizeLine ∧ ∀ v H3, J.yld i H2 v H3 → ∀ own : St, own.length = k → g v (own ++ slotsOf fr σ) H3 fun σ4 H4 => ∃ own4, σ4 = own4 ++ slotsOf fr σ ∧ own4.length = k ∧ tt σ4 H4 fun b H5 =>
    if b = true then te σ4 H5 (fun y H6 => ∃ m', m' < m ∧ W (i + 1) m' (ys ++ [y]) H6) else ∃ m', m' < m ∧ W (i + 1) m' ys H5)
section
variable {X : Cx}
theorem ok_names {N1 : List Str} (N2 : List Str) {scope : Scope} {C : Addr} {s : Shared} {H : Hp} {ex : List Addr} (h : (compX X N1 scope C s H ex).Ok) : (compX X N2 scope C s H ex).Ok :=
  ⟨h.mod, h.kind, h.glob, h.blt, h.above, h.inj, h.has, h.cab, h.hd, h.frames, h.stk, h.exf, h.bs, h.bsz, h.noex, h.exfs, h.funs, h.frf⟩
theorem comp_invT {pins : List (Addr × Obj)} {σ : St} {H : Hp} {s : Shared} {scope : Scope} {x : Str} {more fs : List Str} {fr : List Nat} {ex : List Addr} {h4 : Heap} {m : Str → Option Value} {t : Nat} (S : CompScT X scope x more fs fr) (I3 : Inv X pins σ H s)
    (ok : (compX X (x :: fs) scope s.heap.objs.size s H ex).Ok) (hn : h4.Ns s.heap.objs.size m) (old : ∀ b o, s.heap.get? b = some o → h4.get? b = some o) :
    Inv (compX X (x :: more ++ fs) scope s.heap.objs.size s H ex) [] (List.replicate (more.length + 1) none ++ slotsOf fr σ) H { s with heap := h4, toks := t } := by
  have J := comp_inv (t := t) S.one I3 ok hn old
  refine ⟨ok_names _ J.ok, J.os, J.bare, J.base, ?_, J.cell, J.free, J.freeC, J.pin, J.hok, ?_⟩
  · obtain ⟨m1, hn1, hl⟩ := J.loc
    refine ⟨m1, hn1, fun i y v e1 e2 e3 => ?_⟩
    by_cases hi : i < more.length + 1
    · have e2 : (List.replicate (more.length + 1) (none : Option V) ++ slotsOf fr σ)[i]? = some (some v) := e2
      rw [List.getElem?_append_left (by rw [List.length_replicate]; exact hi), List.getElem?_replicate, if_pos hi] at e2
      cases e2
    · obtain ⟨j, rfl⟩ : ∃ j, i = more.length + 1 + j := ⟨i - (more.length + 1), by omega⟩
      have e2 : (List.replicate (more.length + 1) (none : Option V) ++ slotsOf fr σ)[more.length + 1 + j]? = some (some v) := e2
      have e1 : ((x :: more) ++ fs)[more.length + 1 + j]? = some y := e1
      rw [List.getElem?_append_right (by rw [List.length_replicate]; omega), List.length_replicate, Nat.add_sub_cancel_left] at e2
      rw [List.getElem?_append_right (by rw [List.length_cons]; omega), List.length_cons, Nat.add_sub_cancel_left] at e1
      exact hl (j + 1) y v (by simpa using e1) (by simpa using e2) e3
  · show (List.replicate (more.length + 1) none ++ slotsOf fr σ).length = ((x :: more) ++ fs).length
    have h1 := S.one.len
    simp [slotsOf, h1]
    omega
theorem pe_compGT {elt iter tg : Expr} {x : Str} {more : List Str} {g : TG} {ifs : List Expr} {scope : Scope} {pos : Pos} {wi : TI} {fs : List Str} {fr : List Nat} {tt : TT} {te : TE} (hc : X.calm = true) (ST : CompScT X scope x more fs fr) (hi : PI X tg iter wi) (hg : ∀ C s H ex, PG (compX X (x :: more ++ fs) scope C s H ex) tg g)
    (ht : ∀ C s H ex, CT (compX X (x :: more ++ fs) scope C s H ex) ifs tt) (he : ∀ C s H ex, PE (compX X (x :: more ++ fs) scope C s H ex) elt te) (hs : ∀ z, foldedSetIterable iter X.env z = pure z := by intro _; rfl) :
    PE X (.ListComp elt [⟨tg, iter, ifs, 0⟩] scope pos) (tCompT wi (more.length + 1) fr g tt te) := by
  intro pins s σ H Q I h
  have S := ST.one
  rw [eval_ListComp]
  refine wpAny_comprehension_free (use := none) rfl hs (closureFor_some fun n hn => I.ok.has n (.inl (S.free n hn).1)) S.kind S.names ?_
  refine thn (hi pins s σ H _ I h) fun v s1 h1 => thn h1 fun itv s2 h2 => ?_
  obtain ⟨it, fp, tn, J, H2, e, I2, T, st2, f2, W, ⟨m0, w0⟩, turn⟩ := h2
  subst e
  have hlt : ∀ b ∈ fp, b < s2.heap.objs.size := fun b hb => by
    obtain ⟨o, e, _⟩ := T.obj 0 _ st2 b hb
    exact Heap.lt_size e
  refine wpAny_newObj_type (wpAny_newFunctionEnv S.nocell (by intro y hy; simp at hy) (fun h4 hns4 hsb4 => ?_) S.kind)
  dsimp only at hns4 hsb4 ⊢
  generalize hH3 : s2.heap.push { cls := .type "list", dict := none, data := .seq ([] : List Value).toArray } = g3 at hns4 hsb4 ⊢
  have hC : g3.objs.size = s2.heap.objs.size + 1 := by rw [← hH3, Heap.size_push]
  have old3 : ∀ b o, s2.heap.get? b = some o → g3.get? b = some o := fun b o e => hH3 ▸ Heap.get?_push_of_some _ e
  have I3 : Inv X pins σ H2 { s2 with heap := g3 } := I2.kept (t' := s2.toks) old3
  have acc3 : g3.get? s2.heap.objs.size = some (lobj [] 0) := hH3 ▸ Heap.get?_push_size _ rfl
  have old4 : ∀ b o, g3.get? b = some o → h4.get? b = some o := fun b o e => hsb4.extBut b o (Nat.ne_of_lt (Heap.lt_size e)) (Heap.get?_push_of_some _ e)
  have ok1 := comp_ok (s := { s2 with heap := g3 }) (D := s2.heap.objs.size) (fp := fp) S I2 I3 rfl hC hlt f2
  have ok := ok_names (x :: more ++ fs) ok1
  have I4 := comp_invT (t := s2.toks + ([] : List (Str × Value)).length) ST I3 ok1 hns4 old4
  -- what stays true of the list's place and the iterator's
  have dne := ok.exf s2.heap.objs.size List.mem_cons_self
  have dnf := ok.exfs s2.heap.objs.size List.mem_cons_self
  have fpok : ∀ {H' : Hp} {vs : List Value} {k : Nat}, (∀ b ∈ fp, H' b = none) → ∀ b ∈ fp, FpOk (compX X (x :: more ++ fs) scope g3.objs.size { s2 with heap := g3 } H2 (s2.heap.objs.size :: fp)) [(s2.heap.objs.size, lobj vs k)] H' b := fun {H' vs k} hn b hb => by
    have q := ok.exf b (List.mem_cons_of_mem _ hb)
    refine ⟨hn b hb, q.1, ok.exfs b (List.mem_cons_of_mem _ hb), .inl (List.mem_cons_of_mem _ hb), q.2, fun p hp => ?_⟩
    have e : p = (s2.heap.objs.size, lobj vs k) := by simpa using hp
    rw [e]
    exact Nat.ne_of_gt (hlt b hb)
  have start : Inv (compX X (x :: more ++ fs) scope g3.objs.size { s2 with heap := g3 } H2 (s2.heap.objs.size :: fp)) [(s2.heap.objs.size, lobj [] 0)] (List.replicate (more.length + 1) none ++ slotsOf fr σ) H2 { s2 with heap := h4, toks := s2.toks + ([] : List (Str × Value)).length } :=
    I4.pins_of fun p hp => by
      have e : p = (s2.heap.objs.size, lobj [] 0) := by simpa using hp
      subst e
      exact ⟨old4 _ _ acc3, I2.hok.fresh (Nat.le_refl _), dne.1, dnf, fun v z => by cases z⟩
  have stn : tn 0 h4 := T.keep 0 _ _ st2 fun b _ o e => old4 b o (old3 b o e)
  -- the end of the block
  have fin : ∀ {i : Nat} {σ0 : St} {H' : Hp} {ys : List V} {vs : List Value} {k : Nat} {s' : Shared}, Inv (compX X (x :: more ++ fs) scope g3.objs.size { s2 with heap := g3 } H2 (s2.heap.objs.size :: fp)) [(s2.heap.objs.size, lobj vs k)] (σ0 ++ slotsOf fr σ) H' s' → Vals ys vs → ys.length ≤ sizeLine →
      (∀ l, H' l = none → Q (.ref l) (upd H' l (.lst ys))) → ∃ m, s'.heap.Ns g3.objs.size m ∧ ∀ h', Heap.SameBut g3.objs.size s'.heap h' → EP X pins σ Q (.ref s2.heap.objs.size) { s' with heap := h' } := by
    intro i σ0 H' ys vs k s' J1 rv hz q
    obtain ⟨m, hn, _⟩ := id J1.loc
    refine ⟨m, hn, fun h' sb => ?_⟩
    have below : ∀ y c, X.env.cells.lookup y = some c → c < s2.heap.objs.size := fun y c z => by
      obtain ⟨v, q⟩ := I2.cell y c z
      exact q.lt
    have pbelow : ∀ p ∈ X.pn ++ pins, p.1 < s2.heap.objs.size := fun p hp => Heap.lt_size (I2.pin p hp).1
    have I5 : Inv X pins σ H' s' := I3.call' (ch := s2.heap.objs.size :: fp) J1.os J1.base J1.hok J1.bare fun b hb => by
      rcases List.mem_cons.mp hb with e | hb
      · rw [e]
        exact ⟨.inr I2.sz, Nat.ne_of_gt I2.lt, fun y c z => Nat.ne_of_lt (below y c z), fun p hp => Nat.ne_of_lt (pbelow p hp)⟩
      · exact ⟨(f2 b hb).2.2.2.1, (f2 b hb).2.1, (f2 b hb).2.2.2.2.1, (f2 b hb).2.2.2.2.2⟩
    have szC : s2.heap.objs.size < g3.objs.size := by omega
    have I6 : Inv X pins σ H' { s' with heap := h' } := I5.turned (t' := s'.toks) (it := g3.objs.size) (fun b o hb e => sb.extBut b o hb e) J1.free (Nat.ne_of_gt (Nat.lt_trans I2.lt szC)) (.inr (Nat.le_of_lt (Nat.lt_of_le_of_lt I2.sz szC)))
      (fun y c z => Nat.ne_of_lt (Nat.lt_trans (below y c z) szC)) (fun p hp => Nat.ne_of_lt (Nat.lt_trans (pbelow p hp) szC))
    obtain ⟨eD, nD, _⟩ := J1.pin (s2.heap.objs.size, lobj vs k) (by simp)
    have eD' : h'.get? s2.heap.objs.size = some (lobj vs k) := sb.extBut _ _ dne.1 eD
    exact ⟨.ref s2.heap.objs.size, _, I6.adopt nD eD' rv hz I2.sz (Nat.ne_of_gt I2.lt) (fun y c z => Nat.ne_of_lt (below y c z)) (fun p hp => Nat.ne_of_lt (pbelow p hp)), rfl, q _ nD⟩
  have loop : ∀ s4 : Shared, s4 = { s2 with heap := h4, toks := s2.toks + ([] : List (Str × Value)).length } →
      codeAny (model X.prog X.w) X.A (.compLoop (.ListComp elt [⟨tg, iter, ifs, 0⟩] scope pos) 0 (.ref it) (.ref s2.heap.objs.size) (compEnvC scope (clOf scope X.env) g3.objs.size X.env))
        (compPost (model X.prog X.w) X.A X.xe none (EP X pins σ Q) (.ref s2.heap.objs.size) g3.objs.size) s4 := by
    rintro s4 rfl
    refine comp_loopT (fun n s' => ∃ i σ0 H' ys vs k, σ0.length = more.length + 1 ∧ Inv (compX X (x :: more ++ fs) scope g3.objs.size { s2 with heap := g3 } H2 (s2.heap.objs.size :: fp)) [(s2.heap.objs.size, lobj vs k)] (σ0 ++ slotsOf fr σ) H' s' ∧ tn i s'.heap ∧ (∀ b ∈ fp, H' b = none) ∧ Vals ys vs ∧ W i n ys H') ?_ m0
      ⟨0, List.replicate (more.length + 1) none, H2, [], [], 0, List.length_replicate, start, stn, fun b hb => (f2 b hb).1, .nil, w0⟩
    rintro n s' ⟨i, σ0, H', ys, vs, k, h0, J1, st, fr1, rv, w1⟩
    rcases turn i n ys H' w1 with ⟨stop, hz, q⟩ | ⟨go, hz, step⟩
    · refine thn (T.done (compX X (x :: more ++ fs) scope g3.objs.size { s2 with heap := g3 } H2 (s2.heap.objs.size :: fp)) rfl rfl rfl hc i _ s' _ H' _ J1 (fpok fr1) st stop) fun r s5 ⟨hr, J2⟩ => ?_
      subst hr
      exact fin (i := i) J2 rv hz q
    · refine thn (T.item (compX X (x :: more ++ fs) scope g3.objs.size { s2 with heap := g3 } H2 (s2.heap.objs.size :: fp)) rfl rfl rfl hc i _ s' _ H' _ J1 (fpok fr1) st go) fun r s5 ⟨u, hr, h5⟩ => ?_
      subst hr
      refine thn h5 fun _ s6 ⟨v, H6, J6, r6, y6, st6, fr6⟩ => ?_
      have J6' := J6.pinned (fp := fp) (fpok fr6) (T.obj _ _ st6)
      refine wpAny_mono (hg _ _ _ _ _ s6 _ H6 v u _ J6' r6 (step v H6 y6 σ0 h0)) (fun _ s7 ⟨σ7, H7, J7, own, e7, l7, q7⟩ => ?_) (fun _ _ z => z.elim)
      subst e7
      have pfp : ∀ {σ8 : St} {H8 : Hp} {s8 : Shared}, Inv (compX X (x :: more ++ fs) scope g3.objs.size { s2 with heap := g3 } H2 (s2.heap.objs.size :: fp)) ([(s2.heap.objs.size, lobj vs k)] ++ pinsAt fp s6.heap) σ8 H8 s8 →
          tn (i + 1) s8.heap ∧ ∀ b ∈ fp, H8 b = none := fun {σ8 H8 s8} J8 => by
        refine ⟨T.keep _ _ _ st6 fun b hb o e => (J8.pin (b, o) (List.mem_append_right _ (List.mem_append_right _ (mem_pinsAt hb e)))).1, fun b hb => ?_⟩
        obtain ⟨o, e, d⟩ := T.obj _ _ st6 b hb
        exact (J8.pin (b, o) (List.mem_append_right _ (List.mem_append_right _ (mem_pinsAt hb e)))).2.1
      refine wpAny_mono (ht _ _ _ _ _ s7 _ H7 _ J7 q7) (fun ok8 s8 ⟨H8, J8, q8⟩ => ?_) (fun _ _ z => z.elim)
      cases ok8 with
      | false =>
        rw [if_neg Bool.false_ne_true] at q8
        rw [if_neg Bool.false_ne_true]
        obtain ⟨m', hm, w8⟩ := q8
        obtain ⟨t8, n8⟩ := pfp J8
        exact ⟨m', hm, i + 1, own, H8, ys, vs, k, l7, J8.unpinned, t8, n8, rv, w8⟩
      | true =>
        rw [if_pos rfl] at q8
        rw [if_pos rfl]
        refine wpAny_mono (he _ _ _ _ _ s8 _ H8 _ J8 q8) (fun y s9 ⟨yv, H9, J9, r9, m', hm, w9⟩ => ?_) (fun _ _ z => z.elim)
        obtain ⟨t9, n9⟩ := pfp J9
        obtain ⟨eD, nD, _⟩ := J9.pin (s2.heap.objs.size, lobj vs k) (by simp)
        have hl := rv.length
        refine call_meets F.slot_list_append ⟨_, eD, rfl⟩ F.entry_list_append (F.args_list_append_2 _ _) (PySem.list_append s2.heap.objs.size vs.toArray k y (by rw [List.size_toArray]; omega)) ⟨eD, ?_⟩
        have eN := PySem.IsL.update (h := s9.heap) (l := s2.heap.objs.size) (items := vs.toArray) (n := k) eD (·.push y)
        have eV : vs.toArray.push y = (vs ++ [y]).toArray := by simp
        rw [eV] at eN
        obtain ⟨k', eN⟩ : ∃ k', (s9.heap.update s2.heap.objs.size (Obj.mapSeq (·.push y))).get? s2.heap.objs.size = some (lobj (vs ++ [y]) k') := ⟨_, eN⟩
        have K9 : Inv (compX X (x :: more ++ fs) scope g3.objs.size { s2 with heap := g3 } H2 (s2.heap.objs.size :: fp)) [] (own ++ slotsOf fr σ) H9 s9 := J9.pins_of fun p hp => absurd hp (by simp)
        have K10 : Inv (compX X (x :: more ++ fs) scope g3.objs.size { s2 with heap := g3 } H2 (s2.heap.objs.size :: fp)) [] (own ++ slotsOf fr σ) H9 { s9 with heap := s9.heap.update s2.heap.objs.size (Obj.mapSeq (·.push y)) } :=
          K9.turned (t' := s9.toks) (it := s2.heap.objs.size) (fun b o hb e => (Heap.get?_update_other s9.heap (Obj.mapSeq (·.push y)) (Ne.symm hb)).trans e) nD dne.1 (.inl List.mem_cons_self) dne.2 (fun p hp => absurd hp (by simp))
        refine ⟨m', hm, i + 1, own, H9, ys ++ [yv], vs ++ [y], k', l7, K10.pins_of fun p hp => ?_, T.keep _ _ _ t9 fun b hb o e => (Heap.get?_update_other s9.heap (Obj.mapSeq (·.push y)) (Nat.ne_of_gt (hlt b hb))).trans e, n9, rv.append (.cons r9 .nil), w9⟩
        have e : p = (s2.heap.objs.size, lobj (vs ++ [y]) k') := List.mem_singleton.mp hp
        rw [e]
        exact ⟨eN, nD, dne.1, dnf, fun v z => by cases z⟩
  exact codeAny_compStart_list (loop _ rfl) (T.self X.A 0 _ _ _ stn (loop _ rfl))
theorem pe_compT {elt iter tg : Expr} {x : Str} {more : List Str} {g : TG} {scope : Scope} {pos : Pos} {wi : TI} {fs : List Str} {fr : List Nat} {te : TE} (hc : X.calm = true) (S : CompScT X scope x more fs fr) (hi : PI X tg iter wi) (hg : ∀ C s H ex, PG (compX X (x :: more ++ fs) scope C s H ex) tg g)
    (he : ∀ C s H ex, PE (compX X (x :: more ++ fs) scope C s H ex) elt te) (hs : ∀ z, foldedSetIterable iter X.env z = pure z := by intro _; rfl) :
    PE X (.ListComp elt [⟨tg, iter, [], 0⟩] scope pos) (tCompT wi (more.length + 1) fr g tTrue te) := pe_compGT hc S hi hg (fun _ _ _ _ => ct_nil) he hs
theorem pe_compTIf {elt iter tg c : Expr} {x : Str} {more : List Str} {g : TG} {scope : Scope} {pos : Pos} {wi : TI} {fs : List Str} {fr : List Nat} {tc : TT} {te : TE} (hc : X.calm = true) (S : CompScT X scope x more fs fr) (hi : PI X tg iter wi) (hg : ∀ C s H ex, PG (compX X (x :: more ++ fs) scope C s H ex) tg g)
    (ht : ∀ C s H ex, PT (compX X (x :: more ++ fs) scope C s H ex) c tc) (he : ∀ C s H ex, PE (compX X (x :: more ++ fs) scope C s H ex) elt te) (hs : ∀ z, foldedSetIterable iter X.env z = pure z := by intro _; rfl) :
    PE X (.ListComp elt [⟨tg, iter, [c], 0⟩] scope pos) (tCompT wi (more.length + 1) fr g tc te) := pe_compGT hc S hi hg (fun C s H ex => ct_one (ht C s H ex)) he hs
theorem compScT_mk {scope : Scope} {x : Str} {more fs : List Str} {fr : List Nat} (h : cscOk X.env.scope X.N scope x fs fr = true := by kernel_rfl) (h2 : decide (x :: more ++ fs).Nodup = true := by kernel_rfl) : CompScT X scope x more fs fr := ⟨compSc_mk h, of_decide_eq_true h2⟩
theorem pg_tupK {K : PySem.W.Frag} {es : List Expr} {k : Nat} {t : TGs} {n : Nat} {pos : Pos} (hc : X.calm = true) (h : PGs X es t) (hK : X.K = K := by rfl)
    (hn : (assignEach es X.env).length = n := by rfl) (hst : (assignEach es X.env).findIdx? (·.1) = none := by rfl) : PG X (.Tuple es k pos) (gTup K n t) := hK ▸ pg_tup hc h hn hst
theorem pg_nameC {i : Nat} {x : Str} {pos : Pos} (hN : decide X.N.Nodup = true := by kernel_rfl) (hi : X.N[i]? = some x := by rfl) (hl : X.env.scope.names.lookup x = some .local := by first | rfl | exact lookup_relabel_local rfl) : PG X (.Name x pos) (gName i) :=
  pg_name (of_decide_eq_true hN) hi (.inl hl) (.inr hl)
end
section
variable {K : PySem.W.Frag} {a : Addr} {xs : List V} {fr : List Nat} {tt : TT} {te : TE} {σ : St} {H1 : Hp} {R : Addr → List V → Hp → Prop}
abbrev gPair (K : PySem.W.Frag) : TG := gTup K 2 (gCons (gName 0) (gCons (gName 1) gNil))
abbrev CompGoalT (J : It) (k : Nat) (fr : List Nat) (g : TG) (tt : TT) (te : TE) (σ : St) (H1 : Hp) (R : Addr → List V → Hp → Prop) : Prop :=
  ∃ W : Nat → Nat → List V → Hp → Prop, (∃ m, W 0 m [] H1) ∧ ∀ i m ys H2, W i m ys H2 →
  (J.stop i H2 ∧ ys.length ≤ sizeLine ∧ ∀ l, H2 l = none → R l ys H2) ∨
  (J.go i H2 ∧ ys.length < sizeLine ∧ ∀ v H3, J.yld i H2 v H3 → ∀ own : St, own.length = k → g v (own ++ slotsOf fr σ) H3 fun σ4 H4 => ∃ own4, σ4 = own4 ++ slotsOf fr σ ∧ own4.length = k ∧ tt σ4 H4 fun b H5 =>
    if b = true then te σ4 H5 (fun y H6 => ∃ m', m' < m ∧ W (i + 1) m' (ys ++ [y]) H6) else ∃ m', m' < m ∧ W (i + 1) m' ys H5)
theorem pair_in {v a b : V} {p : Addr} {H : Hp} {Q : St → Hp → Prop} {own rest : St} (ho : own.length = 2) (ev : v = .ref p) (hp : SqT K H p [a, b]) (h : Q (some a :: some b :: rest) H) : gPair K v (own ++ rest) H Q := by
  match own, ho with
  | [o1, o2], _ => exact ⟨p, _, ev, hp, rfl, _, _, rfl, _, _, rfl, rfl, h⟩
theorem comp2_tup (Pv : Nat → List V → Hp → Prop) (hx : xs.length < sizeLine) (h0 : Pv 0 [] H1) (hl : ∀ i ys H, i ≤ xs.length → Pv i ys H → SqT K H a xs ∧ ys.length ≤ i)
    (hs : ∀ (i : Nat) (x : V) (ys : List V) (H : Hp) (N : List V → Hp → Prop), xs[i]? = some x → Pv i ys H → (∀ ys' H', Pv (i + 1) ys' H' → N ys' H') →
      ∃ p b c, x = .ref p ∧ SqT K H p [b, c] ∧ tt (some b :: some c :: slotsOf fr σ) H fun t H4 => if t = true then te (some b :: some c :: slotsOf fr σ) H4 (fun y H5 => N (ys ++ [y]) H5) else N ys H4)
    (hd : ∀ ys H, Pv xs.length ys H → ∀ l, H l = none → R l ys H) : CompGoalT (Itt K a) 2 fr (gPair K) tt te σ H1 R := by
  refine ⟨fun i m ys H => m = xs.length - i ∧ i ≤ xs.length ∧ Pv i ys H, ⟨xs.length, by simp, Nat.zero_le _, h0⟩, ?_⟩
  rintro i m ys H ⟨rfl, hi, p⟩
  obtain ⟨q, hy⟩ := hl i ys H hi p
  by_cases hlt : i < xs.length
  · refine .inr ⟨⟨xs, _, q, List.getElem?_eq_getElem hlt⟩, by omega, ?_⟩
    rintro v H3 ⟨rfl, hv⟩ own ho
    obtain ⟨pp, b, c, ev, hp, h⟩ := hs i v ys H3 (fun ys' H' => ∃ m', m' < xs.length - i ∧ m' = xs.length - (i + 1) ∧ i + 1 ≤ xs.length ∧ Pv (i + 1) ys' H') (hv xs q) p fun ys' H' p' => ⟨_, by omega, rfl, hlt, p'⟩
    exact pair_in ho ev hp ⟨[some b, some c], rfl, rfl, h⟩
  · have e : i = xs.length := by omega
    subst e
    exact .inl ⟨⟨xs, q, Nat.le_refl _⟩, by omega, hd ys H p⟩
theorem comp2_list (Pv : Nat → List V → Hp → Prop) (hx : xs.length < sizeLine) (h0 : Pv 0 [] H1) (hl : ∀ i ys H, i ≤ xs.length → Pv i ys H → SqL K H a xs ∧ ys.length ≤ i)
    (hs : ∀ (i : Nat) (x : V) (ys : List V) (H : Hp) (N : List V → Hp → Prop), xs[i]? = some x → Pv i ys H → (∀ ys' H', Pv (i + 1) ys' H' → N ys' H') →
      ∃ p b c, x = .ref p ∧ SqT K H p [b, c] ∧ tt (some b :: some c :: slotsOf fr σ) H fun t H4 => if t = true then te (some b :: some c :: slotsOf fr σ) H4 (fun y H5 => N (ys ++ [y]) H5) else N ys H4)
    (hd : ∀ ys H, Pv xs.length ys H → ∀ l, H l = none → R l ys H) : CompGoalT (Itl K a) 2 fr (gPair K) tt te σ H1 R := by
  refine ⟨fun i m ys H => m = xs.length - i ∧ i ≤ xs.length ∧ Pv i ys H, ⟨xs.length, by simp, Nat.zero_le _, h0⟩, ?_⟩
  rintro i m ys H ⟨rfl, hi, p⟩
  obtain ⟨q, hy⟩ := hl i ys H hi p
  by_cases hlt : i < xs.length
  · refine .inr ⟨⟨xs, _, q, List.getElem?_eq_getElem hlt⟩, by omega, ?_⟩
    rintro v H3 ⟨rfl, hv⟩ own ho
    obtain ⟨pp, b, c, ev, hp, h⟩ := hs i v ys H3 (fun ys' H' => ∃ m', m' < xs.length - i ∧ m' = xs.length - (i + 1) ∧ i + 1 ≤ xs.length ∧ Pv (i + 1) ys' H') (hv xs q) p fun ys' H' p' => ⟨_, by omega, rfl, hlt, p'⟩
    exact pair_in ho ev hp ⟨[some b, some c], rfl, rfl, h⟩
  · have e : i = xs.length := by omega
    subst e
    exact .inl ⟨⟨xs, q, Nat.le_refl _⟩, by omega, hd ys H p⟩
end
end L2

set_option Elab.async false
set_option linter.all false
set_option maxRecDepth 100000
set_option maxHeartbeats 4000000
/-! set(..) of texts, and how many it has -/
namespace L2
open PySem PySem.Spec PyProof.Rows
/-- each once, as first met -/
def metS : List Str → List Str → List Str
  | m, [] => m
  | m, z :: r => metS (if z ∈ m then m else m ++ [z]) r
def dedS (zs : List Str) : List Str := metS [] zs
theorem metS_snoc : ∀ (l m : List Str) (z : Str), metS m (l ++ [z]) = if z ∈ metS m l then metS m l else metS m l ++ [z]
  | [], m, z => rfl
  | x :: r, m, z => metS_snoc r _ z
theorem dedS_snoc (l : List Str) (z : Str) : dedS (l ++ [z]) = if z ∈ dedS l then dedS l else dedS l ++ [z] := metS_snoc l [] z
theorem rev_ind {p : List Str → Prop} (h0 : p []) (hs : ∀ l z, p l → p (l ++ [z])) (l : List Str) : p l := by
  have h : ∀ l : List Str, p l.reverse := fun l => by
    induction l with
    | nil => exact h0
    | cons z r ih => rw [List.reverse_cons]; exact hs _ _ ih
  have := h l.reverse
  rwa [List.reverse_reverse] at this
theorem mem_dedS (l : List Str) : ∀ x, x ∈ dedS l ↔ x ∈ l := by
  refine rev_ind (p := fun l => ∀ x, x ∈ dedS l ↔ x ∈ l) (fun x => Iff.rfl) (fun l z ih x => ?_) l
  rw [dedS_snoc]
  split
  · rename_i h
    rw [ih, List.mem_append, List.mem_singleton]
    exact ⟨.inl, fun h' => h'.elim id fun e => e ▸ (ih z).mp h⟩
  · rw [List.mem_append, List.mem_append, ih]
theorem dedS_len (l : List Str) : (dedS l).length ≤ l.length ∧ ((dedS l).length = l.length ↔ l.Nodup) := by
  refine rev_ind (p := fun l => (dedS l).length ≤ l.length ∧ ((dedS l).length = l.length ↔ l.Nodup)) ⟨Nat.le_refl _, ⟨fun _ => .nil, fun _ => rfl⟩⟩ (fun l z ⟨h1, h2⟩ => ?_) l
  rw [dedS_snoc, List.length_append, List.length_singleton, List.nodup_append]
  split
  · rename_i h
    refine ⟨by omega, ⟨fun e => by omega, fun ⟨_, _, q⟩ => absurd rfl (q z ((mem_dedS l z).mp h) z (List.mem_singleton.mpr rfl))⟩⟩
  · rename_i h
    rw [List.length_append, List.length_singleton]
    refine ⟨by omega, ⟨fun e => ⟨h2.mp (by omega), by simp, fun a ha b hb e => h ?_⟩, fun ⟨q, _, _⟩ => ?_⟩⟩
    · rw [← List.mem_singleton.mp hb, ← e]
      exact (mem_dedS l a).mpr ha
    · rw [h2.mpr q]
theorem dedS_nd (l : List Str) : ((dedS l).length == l.length) = decide l.Nodup := by
  rw [Bool.eq_iff_iff, beq_iff_eq, decide_eq_true_iff]
  exact (dedS_len l).2
section
variable {prog : Program} {w : World} {A : Around} {R : Result → Shared → Prop} {I : Addr} {fp wr : List Addr} {G : Array GenState → Array GenState → Prop} {n : Nat} {P : Nat → Value → Prop} {St : Nat → Shared → Prop}
theorem st_loop (W : WalksS prog w A.in1 I fp wr G n P St) (S : Addr) (nS : S ∉ fp) (zs : List Str) (ln : zs.length = n) (hv : ∀ i v, P i v → ∃ t, v = .str (zs.getD i "") t) (hb : n + 1 < scanBound) (k : Nat) :
    ∀ (i : Nat) (s : Shared), n - i = k → i ≤ n → St i s → s.heap.SetOf (strKind prog w) S (fun y => decide (y ∈ dedS (zs.take i))) (dedS (zs.take i)).length →
      (∀ s', Moved (S :: wr) G s s' → s'.heap.SetOf (strKind prog w) S (fun y => decide (y ∈ dedS zs)) (dedS zs).length → R (.ok (.ret .none)) s') →
      codeAny (model prog w) A (.builtin "set.update.loop" ⟨[.ref S, .ref I], []⟩) R s := by
  have nw : S ∉ wr := fun h => nS (W.sub _ h)
  have sub : ∀ b ∈ wr, b ∈ S :: wr := fun b q => List.mem_cons_of_mem _ q
  have stay : ∀ {s s' : Shared} {T : Str → Bool} {j : Nat}, Moved wr G s s' → s.heap.SetOf (strKind prog w) S T j → s'.heap.SetOf (strKind prog w) S T j := fun m ⟨o, es, ep, t, ho, r⟩ => ⟨o, es, ep, t, m.heap S _ nw ho, r⟩
  induction k with
  | zero =>
    intro i s hk hi st hS hR
    have e : i = n := by omega
    subst e
    refine codeAny_builtin PyProof.Rows.F.entry_set_update_loop ?_
    rw [Around.under_plainId PyProof.Rows.F.plain_set_update_loop _]
    refine wpAny_bind (m := pyNext (.ref I)) (W.done s _ _ st fun s' hm => wpAny_pure (hR s' (hm.mono sub) ?_))
    have q := stay hm hS
    rwa [← ln, List.take_length] at q
  | succ k ih =>
    intro i s hk hi st hS hR
    have hlt : i < n := by omega
    refine codeAny_builtin PyProof.Rows.F.entry_set_update_loop ?_
    rw [Around.under_plainId PyProof.Rows.F.plain_set_update_loop _]
    refine wpAny_bind (m := pyNext (.ref I)) (W.item i s _ _ hlt st fun v s' hP st' hm => ?_)
    obtain ⟨t, rfl⟩ := hv i v hP
    have hS' := stay hm hS
    have et : zs.take (i + 1) = zs.take i ++ [zs.getD i ""] := by
      have hi' : i < zs.length := by omega
      rw [List.take_add_one, List.getElem?_eq_getElem hi', List.getD_eq_getElem?_getD, List.getElem?_eq_getElem hi']
      rfl
    generalize zs.getD i "" = z at et
    refine wpAny_bind (m := holding [Value.str z t] (setAdd S (.str z t))) (wpAny_holding ?_)
    unfold setAdd
    refine wpAny_holding (wpAny_bind ((strKind prog w).pyHash (k := z) (strKind_is _ _ _ _) ?_))
    have room : (dedS (zs.take i)).length + 1 < scanBound := by
      have h1 := (dedS_len (zs.take i)).1
      rw [List.length_take] at h1
      omega
    refine wpAny_setAddHashed_of (knd := strKind prog w) (s := { s' with toks := s'.toks + 1 }) (strKind_is _ _ _ _) rfl hS' room fun h' hsb hS2 => ?_
    have hS3 : h'.SetOf (strKind prog w) S (fun y => decide (y ∈ dedS (zs.take (i + 1)))) (dedS (zs.take (i + 1))).length := by
      refine SetOf_congr hS2 (fun y => ?_) ?_
      · rw [et, Bool.eq_iff_iff, Bool.or_eq_true, decide_eq_true_iff, decide_eq_true_iff, decide_eq_true_iff, mem_dedS, mem_dedS, List.mem_append, List.mem_singleton]
      · rw [et, dedS_snoc]
        by_cases q : z ∈ dedS (zs.take i)
        · rw [if_pos q, if_pos (decide_eq_true q)]
        · rw [if_neg q, if_neg (by rw [decide_eq_false q]; exact Bool.false_ne_true), List.length_append]
          rfl
    refine wpAny_pure ⟨plainId_quiet PyProof.Rows.F.plain_set_update_loop _, ih (i + 1) _ (by omega) hlt (W.frame _ s' _ _ st' (Nat.le_succ _) fun b q o e => ?_) hS3 fun s2 m2 hS4 => hR s2 (Moved.trans W.gtrans ((hm.mono sub).then_heap (Nat.le_succ _) fun b o q e => ?_) m2) hS4⟩
    · rw [hsb.2 b fun h : b = S => nS (h ▸ q)]
      exact e
    · rw [hsb.2 b fun h : b = S => q (h ▸ List.mem_cons_self)]
      exact e
end
abbrev set0 (led : Bool) : Obj := { cls := .type "set", dict := none, data := .set #[] 0 (.fresh 0 0 led) }
theorem st_tup_set : isSubtype (.type "tuple") (.type "set") = pure false := by rw [isSubtype_type]; kernel_rfl
theorem st_tup_frz : isSubtype (.type "tuple") (.type "frozenset") = pure false := by rw [isSubtype_type]; kernel_rfl
theorem strs_at : ∀ {zs : List Str} {us : List Value}, Vals (zs.map V.str) us → ∀ (i : Nat) (v : Value), us[i]? = some v → ∃ t, v = .str (zs.getD i "") t
  | [], _, .nil, i, v, h => by simp at h
  | z :: r, _, .cons ⟨t, e⟩ q, 0, v, h => by
    subst e
    cases h
    exact ⟨t, rfl⟩
  | z :: r, _, .cons ⟨t, e⟩ q, i + 1, v, h => strs_at q i v h
section
variable {prog : Program} {w : World} {A : Around} {E : Value → Shared → Prop} {s : Shared}
/-- the walk is laid over an iterator at the second new place -/
theorem st_set {l : Addr} {items : Array Value} {zs : List Str} {tp : Bool} {Q : Value → Shared → Prop} (hA : A.handled = none) (hl : if tp = true then s.heap.IsTuple l items else s.heap.IsList l items) (hz : Vals (zs.map V.str) items.toList) (hb : zs.length + 1 < scanBound)
    (k : ∀ (h' : Heap) (tk : Nat), h'.SetOf (strKind prog w) s.heap.objs.size (fun y => decide (y ∈ dedS zs)) (dedS zs).length → (∀ b o, s.heap.get? b = some o → h'.get? b = some o) → Q (.ref s.heap.objs.size) { s with heap := h', toks := tk }) :
    wpAny (model prog w) A (call (.type "set") [.ref l]) Q E s := by
  obtain ⟨c, tl, hmro⟩ := PySem.F.called_set.mro
  have ft := PySem.F.called_set
  have hmade := ft.made
  have hsub := ft.sub
  refine wpAny_call (codeAny_of_tree ?_); show wpAny _ _ (callAny (.type "set") _) _ _ _
  refine wpAny_pure ⟨Code.quiet_builtin _ (by decide +kernel), codeAny_builtin PySem.F.entry_type_call ?_⟩
  rw [Around.under_plain (weight_type_call_type "set" [.ref l] []) rfl]
  have h1 := ft.notType
  have h2 := ft.canCreate
  have hct := PySem.F.typeCall_set_1 (.ref l)
  repeat (any_goals (first | assumption | wp_step))
  refine codeAny_mono (code_set_new_1 (.ref l) (E := E) (Q₁ := fun x z => ∃ led : Bool, x = .ref s.heap.objs.size ∧ z = { s with heap := s.heap.push (set0 led) }) fun led => ⟨led, rfl, rfl⟩) fun r z hr => ?_
  cases r with
  | error e => exact hr
  | ok fl =>
    cases fl with
    | ret x =>
      obtain ⟨led, rfl, rfl⟩ := hr
      have hS : (s.heap.push (set0 led)).get? s.heap.objs.size = some (set0 led) := Heap.get?_push_size _ rfl
      have hT : Shared.TypeIs { s with heap := s.heap.push (set0 led) } (.ref s.heap.objs.size) "set" := ⟨_, hS, rfl⟩
      have hli := ft.init.lookup
      have hbi := ft.init.bind (.ref s.heap.objs.size)
      repeat (any_goals (first | assumption | wp_step))
      refine codeAny_mono (codeAny_call_builtin (R := wants (fun r z => r = .none ∧ ∃ h' tk, z = { s with heap := h', toks := tk } ∧ h'.SetOf (strKind prog w) s.heap.objs.size (fun y => decide (y ∈ dedS zs)) (dedS zs).length ∧ (∀ b o, s.heap.get? b = some o → h'.get? b = some o)) E) ft.init.plain PySem.F.entry_set_init (check_set_init_1 hT ?_)) fun r2 z2 hr2 => ?_
      · have ez : zs.length = items.size := by
          have := hz.length
          rw [List.length_map] at this
          simpa using this
        have hval : ∀ (i : Nat) (v : Value), items[i]? = some v → ∃ t, v = .str (zs.getD i "") t := fun i v hv => strs_at hz i v (by rw [Array.getElem?_toList]; exact hv)
        have hh3 : A.in1.in1.in1.handled = none := by simp [hA]
        have hR : ∀ (I : Addr) (wr : List Addr) (hp : Heap), (∀ b ∈ wr, b = I) → I = (s.heap.push (set0 led)).objs.size → (∀ b o, (s.heap.push (set0 led)).get? b = some o → hp.get? b = some o) → ∀ s' : Shared, Moved (s.heap.objs.size :: wr) (fun a b => b = a) { s with heap := hp } s' → s'.heap.SetOf (strKind prog w) s.heap.objs.size (fun y => decide (y ∈ dedS zs)) (dedS zs).length →
            ∃ h' tk, s' = { s with heap := h', toks := tk } ∧ h'.SetOf (strKind prog w) s.heap.objs.size (fun y => decide (y ∈ dedS zs)) (dedS zs).length ∧ (∀ b o, s.heap.get? b = some o → h'.get? b = some o) := fun I wr hp hw eI kp s' hm hS' => by
          obtain ⟨h', g', d', tk', os'⟩ := s'
          have eg : g' = s.gens := hm.gens
          have ed : d' = s.drawn := hm.drawn
          have eo : os' = s.os := hm.os
          subst eg ed eo
          refine ⟨h', tk', rfl, hS', fun b o e => hm.heap b o ?_ (kp b o (Heap.get?_push_of_some _ e))⟩
          have lt := Heap.lt_size e
          rw [Heap.size_push] at eI
          rintro (_ | ⟨_, q⟩)
          · exact Nat.lt_irrefl _ lt
          · rw [hw b q, eI] at lt
            exact absurd lt (Nat.not_lt.mpr (Nat.le_succ _))
        cases tp with
        | false =>
          obtain ⟨⟨oc, od, oda, osl⟩, hol, hcl, nl, hdl⟩ := (show s.heap.IsList l items from hl)
          simp only at hcl hdl
          subst hcl hdl
          have hol' := Heap.get?_push_of_some (set0 led) hol
          have hsls := PySem.F.sub_list_set
          have hslf := PySem.F.sub_list_frozenset
          have hne : (Value.type "list" == Value.type "dict") = false := by decide
          have hl1 : (s.heap.push (set0 led)).IsList l items := ⟨_, hol', rfl, nl, rfl⟩
          unfold Builtin.«set.__init__» noKeywords Builtin.Frozenset.updateFrom
          generalize hPI : pyIter = PI
          wp_walk
          subst hPI
          refine wpAny_pyIter_list hl1 (wpAny_bind (wpAny_runValue ?_))
          have hlS : l < s.heap.objs.size := Heap.lt_size hol
          have nI : l ≠ (s.heap.push (set0 led)).objs.size := by rw [Heap.size_push]; exact Nat.ne_of_lt (Nat.lt_succ_of_lt hlS)
          have nS : s.heap.objs.size ∉ [(s.heap.push (set0 led)).objs.size, l] := by
            rw [Heap.size_push]
            intro hm
            rcases List.mem_cons.mp hm with hm | hm
            · exact absurd hm (Nat.ne_of_lt (Nat.lt_succ_self _))
            · exact absurd (List.mem_singleton.mp hm) (Nat.ne_of_gt hlS)
          refine st_loop ((Walks.list hh3 _ l nI items).toS) s.heap.objs.size nS zs ez hval (by omega) (items.size - 0) 0 _ rfl (Nat.zero_le _) ⟨⟨_, Heap.get?_push_size _ rfl, rfl, rfl⟩, hl1.push _⟩ ?_ fun s' hm hS' => ?_
          · exact SetOf_congr ((setObjOf_fresh (knd := strKind prog w) led).setOf (Heap.get?_push_of_some _ hS) (by unfold scanBound; omega)) (fun _ => rfl) rfl
          · exact wpAny_pure (wpAny_pure ⟨rfl, hR _ _ _ (fun b q => List.mem_singleton.mp q) rfl (fun b o e => Heap.get?_push_of_some _ e) s' hm hS'⟩)
        | true =>
          obtain ⟨⟨oc, od, oda, osl⟩, hol, hcl, nl, hdl⟩ := (show s.heap.IsTuple l items from hl)
          simp only at hcl hdl
          subst hcl hdl
          have hol' := Heap.get?_push_of_some (set0 led) hol
          have hsls := st_tup_set
          have hslf := st_tup_frz
          have hne : (Value.type "tuple" == Value.type "dict") = false := by decide
          have hl1 : (s.heap.push (set0 led)).IsTuple l items := ⟨_, hol', rfl, nl, rfl⟩
          unfold Builtin.«set.__init__» noKeywords Builtin.Frozenset.updateFrom
          generalize hPI : pyIter = PI
          wp_walk
          subst hPI
          refine wpAny_pyIter_tuple hl1 (wpAny_bind (wpAny_runValue ?_))
          have hlS : l < s.heap.objs.size := Heap.lt_size hol
          have nI : l ≠ (s.heap.push (set0 led)).objs.size := by rw [Heap.size_push]; exact Nat.ne_of_lt (Nat.lt_succ_of_lt hlS)
          have nS : s.heap.objs.size ∉ [(s.heap.push (set0 led)).objs.size, l] := by
            rw [Heap.size_push]
            intro hm
            rcases List.mem_cons.mp hm with hm | hm
            · exact absurd hm (Nat.ne_of_lt (Nat.lt_succ_self _))
            · exact absurd (List.mem_singleton.mp hm) (Nat.ne_of_gt hlS)
          refine st_loop ((Walks.tuple hh3 _ l nI items).toS) s.heap.objs.size nS zs ez hval (by omega) (items.size - 0) 0 _ rfl (Nat.zero_le _) ⟨⟨_, Heap.get?_push_size _ rfl, rfl, rfl⟩, hl1.push _⟩ ?_ fun s' hm hS' => ?_
          · exact SetOf_congr ((setObjOf_fresh (knd := strKind prog w) led).setOf (Heap.get?_push_of_some _ hS) (by unfold scanBound; omega)) (fun _ => rfl) rfl
          · exact wpAny_pure (wpAny_pure ⟨rfl, hR _ _ _ (fun b q => List.mem_singleton.mp q) rfl (fun b o e => Heap.get?_push_of_some _ e) s' hm hS'⟩)
      · cases r2 with
        | error e => exact hr2
        | ok fl2 =>
          cases fl2 with
          | ret r =>
            obtain ⟨rfl, h', tk, rfl, hS', hk'⟩ := hr2
            repeat (any_goals (first | assumption | wp_step))
            exact k _ _ hS' hk'
          | _ => exact hr2.elim
    | _ => exact hr.elim
end
/-- a set of so many things stands at a -/
def SetN (a : Addr) (n : Nat) : Heap → Prop := fun h => ∃ o es ep t, h.get? a = some o ∧ o.ExactSet ∧ o.data = .set es ep t ∧ t.fits es.size = true ∧ es.size = n
theorem setN_ok {P : Program} {w : World} {H : Hp} {h : Heap} {a : Addr} {n : Nat} (x : SetN a n h) : ObjOk P w H h a (.ext (SetN a n)) :=
  ⟨x, let ⟨o, _, _, _, q, _⟩ := x; ⟨o, q⟩, fun _ _ ⟨o, es, ep, t, q, r⟩ k => ⟨o, es, ep, t, k _ q, r⟩⟩
section
variable {X : Cx}
def rSetS (K : PySem.W.Frag) : List V → Hp → VK → Prop := fun xs H Q => ∃ p zs, xs = [.ref p] ∧ (SqT K H p (zs.map V.str) ∨ SqL K H p (zs.map V.str)) ∧ zs.length ≤ 1000 ∧ ∀ a, H a = none → Q (.ref a) (upd H a (.ext (SetN a (dedS zs).length)))
theorem call_setS (hA : X.A.handled = none) : CallR X (.type "set") (rSetS X.K) := by
  intro pins s σ H xs us Q I r h
  obtain ⟨p, zs, rfl, hq, hz, q⟩ := h
  obtain ⟨u, rfl, rx⟩ := vals1 r
  cases rx
  have hb : zs.length + 1 < scanBound := by
    unfold scanBound
    omega
  have fin : ∀ (h' : Heap) (tk : Nat), h'.SetOf (strKind X.prog X.w) s.heap.objs.size (fun y => decide (y ∈ dedS zs)) (dedS zs).length → (∀ b o, s.heap.get? b = some o → h'.get? b = some o) → ∃ v' H', Inv X pins σ H' { s with heap := h', toks := tk } ∧ RelV v' (.ref s.heap.objs.size) ∧ Q v' H' := fun h' tk ⟨o, es, ep, t, ho, hex, hd, _, _, _, hf, hn⟩ kp =>
    ⟨.ref s.heap.objs.size, _, I.laid (t' := tk) kp (Nat.le_refl _) (setN_ok ⟨o, es, ep, t, ho, hex, hd, hf, hn⟩), rfl, q _ (I.hok.fresh (Nat.le_refl _))⟩
  rcases hq with hq | hq
  · obtain ⟨its, r', pl, _⟩ := I.tuple hq
    exact st_set (tp := true) hA pl (by simpa using r') hb fun h' tk hS kp => fin h' tk hS kp
  · obtain ⟨its, r', pl, _⟩ := I.list hq
    exact st_set (tp := false) hA pl.isList (by simpa using r') hb fun h' tk hS kp => fin h' tk hS kp
theorem call_setSK {K : PySem.W.Frag} (hA : X.A.handled = none) (h : X.K = K := by rfl) : CallR X (.type "set") (rSetS K) := h ▸ call_setS hA
theorem call_lenS : CallR X (.builtin "len") (fun xs H Q => ∃ a n, xs = [V.ref a] ∧ H a = some (.ext (SetN a n)) ∧ n ≤ 1000 ∧ Q (.int n) H) := by
  intro pins s σ H xs us Q I r h
  obtain ⟨a, n, rfl, ha, hn, q⟩ := h
  obtain ⟨u, rfl, ru⟩ := vals1 r
  cases ru
  obtain ⟨⟨o, es, ep, t, ho, hex, hd, hf, e⟩, _⟩ := (show ObjOk X.prog X.w H s.heap a (.ext (SetN a n)) from I.hok a _ ha)
  subst e
  exact call_len_set ho hex hd hf (by omega) ⟨.int es.size, H, I.tok _, ⟨_, rfl⟩, q⟩
end
end L2

set_option Elab.async false
set_option linter.all false
set_option maxRecDepth 100000
set_option maxHeartbeats 4000000
namespace K01
open PySem PySem.Spec PyProof.Rows L2
seal L2.PE L2.PT L2.PW L2.PA L2.PS L2.PSs L2.PI L2.PO L2.PPs L2.PG L2.PGs
def top (i : Nat) : Stmt := PySem.Challenge.pw_askviews_k40_what_are_views.main.body.getD i (.Pass ⟨0, 0, 0, 0⟩)
abbrev s_is_value : Stmt := top 4
abbrev s_is_unknown : Stmt := top 5
abbrev s_is_term : Stmt := top 6
abbrev s_is_pair : Stmt := top 7
abbrev s_are_terms : Stmt := top 8
abbrev s_is_atom : Stmt := top 9
abbrev s_are_atoms : Stmt := top 12
abbrev s_is_question : Stmt := top 13
abbrev s_unknowns_of : Stmt := top 14
abbrev s_loose_unknowns : Stmt := top 15
abbrev s_is_view : Stmt := top 17
abbrev s_is_view_head : Stmt := top 18
abbrev s_is_views : Stmt := top 19
abbrev s_l_feed : Stmt := top 21
abbrev s_l_draw : Stmt := top 22
abbrev s_l_words : Stmt := top 23
abbrev s_l_atom : Stmt := top 24
abbrev s_l_head : Stmt := top 25
abbrev s_l_question : Stmt := top 26
abbrev s_l_unknowns : Stmt := top 27
abbrev s_l_view_question : Stmt := top 28
abbrev s_l_views : Stmt := top 29
abbrev s_l_is_value : Stmt := top 30
abbrev s_l_is_term : Stmt := top 31
abbrev s_l_are_terms : Stmt := top 32
abbrev s_l_is_question : Stmt := top 33
abbrev s_l_due : Stmt := top 34
abbrev s_l_spoilt : Stmt := top 35
abbrev s_law : Stmt := top 36
/-! ## the drawing defs of the later laws: a cell, its digits, else mixed -/
/-- the script stands at a: it is never written -/
def Scr (K : PySem.W.Frag) (H : Hp) (a : Addr) (xs : List V) : Prop :=
  (∃ o, H a = some (.frz o (.lst xs))) ∨ ∃ (o : Obj) (its : Array Value) (n : Nat), K.lookup a = some o ∧ o.cls = .type "list" ∧ o.dict = none ∧ o.data = .seq its n ∧ its.size ≤ sizeLine ∧ Vals xs its.toList
theorem Scr.sq {K : PySem.W.Frag} {H : Hp} {a : Addr} {xs : List V} (h : Scr K H a xs) : SqL K H a xs := by
  rcases h with ⟨o, h⟩ | h
  · exact .inl (.inr ⟨o, h⟩)
  · exact .inr h
theorem Scr.but {K : PySem.W.Frag} {H : Hp} {a f : Addr} {xs ys : List V} {o : HO} (h : Scr K H a xs) (hf : H f = some (.lst ys)) : Scr K (upd H f o) a xs := by
  rcases h with ⟨ob, h⟩ | h
  · exact .inl ⟨ob, by rw [upd_ne (ne_of h hf fun z => by cases z)]; exact h⟩
  · exact .inr h
theorem Scr.new {K : PySem.W.Frag} {H : Hp} {a p : Addr} {xs : List V} {o : HO} (h : Scr K H a xs) (hp : H p = none) : Scr K (upd H p o) a xs := by
  rcases h with ⟨ob, h⟩ | h
  · exact .inl ⟨ob, by rw [upd_ne (ne_of_none h hp)]; exact h⟩
  · exact .inr h
/-- a feed stands at f: the rest of a cell, the count, the number -/
def Feed (_K : PySem.W.Frag) (f : Addr) (H : Hp) : Prop := ∃ x p q : Int, H f = some (.lst [.int x, .int p, .int q])
/-- all but the feed is as it was -/
def Ext (f : Addr) (H H' : Hp) : Prop := ∀ b o, b ≠ f → H b = some o → H' b = some o
theorem Ext.refl (f : Addr) (H : Hp) : Ext f H H := fun _ _ _ h => h
theorem Ext.trans {f : Addr} {H H1 H2 : Hp} (a : Ext f H H1) (b : Ext f H1 H2) : Ext f H H2 := fun c o n h => b c o n (a c o n h)
theorem Ext.new {f : Addr} {H H1 : Hp} {p : Addr} (a : Ext f H H1) (h : H1 p = none) (o : HO) : Ext f H (upd H1 p o) := fun b u n q => by
  rw [upd_ne (ne_of_none (a b u n q) h)]
  exact a b u n q
theorem Ext.own {f : Addr} {H H1 : Hp} {p : Addr} (a : Ext f H H1) (h : H p = none) (o : HO) : Ext f H (upd H1 p o) := fun b u n q => by
  rw [upd_ne (ne_of_none q h)]
  exact a b u n q
theorem Ext.feed {f : Addr} {H H1 : Hp} (a : Ext f H H1) (o : HO) : Ext f H (upd H1 f o) := fun b u n q => by
  rw [upd_ne n]
  exact a b u n q
theorem Ext.none {f : Addr} {H H1 : Hp} (a : Ext f H H1) {p : Addr} (n : p ≠ f) (h : H1 p = Option.none) : H p = Option.none := by
  cases q : H p with
  | none => rfl
  | some o =>
    rw [a p o n q] at h
    cases h
theorem Feed.new {K : PySem.W.Frag} {f : Addr} {H : Hp} {p : Addr} (h : Feed K f H) (hp : H p = none) (o : HO) : Feed K f (upd H p o) := by
  obtain ⟨x, y, z, hf⟩ := h
  exact ⟨x, y, z, by rw [upd_ne (ne_of_none hf hp)]; exact hf⟩
theorem Feed.lst {K : PySem.W.Frag} {f : Addr} {H : Hp} {p : Addr} {xs : List V} (h : Feed K f H) (hp : H p = some (.lst xs)) (n : p ≠ f) (o : HO) : Feed K f (upd H p o) := by
  obtain ⟨x, y, z, hf⟩ := h
  exact ⟨x, y, z, by rw [upd_ne n.symm]; exact hf⟩
theorem Feed.nef {K : PySem.W.Frag} {f : Addr} {H : Hp} {p : Addr} (h : Feed K f H) (hp : H p = none) : p ≠ f := by
  obtain ⟨x, y, z, hf⟩ := h
  exact (ne_of_none hf hp).symm
theorem Feed.same {K : PySem.W.Frag} {f : Addr} {H H' : Hp} (h : Feed K f H) (sm : Same H H') : Feed K f H' := by
  obtain ⟨x, y, z, hf⟩ := h
  exact ⟨x, y, z, sm _ _ hf⟩
def spDraw (K : PySem.W.Frag) : Sp := fun vs H Q _ => ∃ (f : Addr) (many : Int), vs = [.ref f, .int many] ∧ Feed K f H ∧ 0 < many ∧ many < 1073741824 ∧ ∀ (i : Int) (H' : Hp), 0 ≤ i → i < many → Feed K f H' → Ext f H H' → Q (.int i) H'
def spFeed (K : PySem.W.Frag) : Sp := fun vs H Q _ => ∃ (a : Addr) (ns : List Int) (k : Int), vs = [.ref a, .int k] ∧ Scr K H a (ns.map V.int) ∧ ns.length ≤ 63 ∧ 0 ≤ k ∧ ∀ (r : Addr) (H' : Hp), Feed K r H' → Same H H' → H r = none → Q (.ref r) H'
def wordsPool : List Str := ["a", "ab", "r", "rs", "abc", "12", "1", "x", "s", "x1", "0", "abcdefgh"]
/-- unlike words -/
def spWords (K : PySem.W.Frag) : Sp := fun vs H Q _ => ∃ (f : Addr) (many : Int), vs = [.ref f, .int many] ∧ Feed K f H ∧ 0 ≤ many ∧ many ≤ 12 ∧
  ∀ (r : Addr) (ws : List Str) (H' : Hp), Feed K f H' → Ext f H H' → r ≠ f → H r = none → H' r = some (.lst (ws.map V.str)) → (ws.length : Int) = many → ws.Nodup → (∀ z ∈ ws, z ∈ wordsPool) → Q (.ref r) H'
section
variable {P : Program} {w : World} {K : PySem.W.Frag} {mg : Str → Option Value} {base : Heap}
structure Txt (K : PySem.W.Frag) (mg : Str → Option Value) : Prop where
  n_len : mg "len" = none
  n_range : mg "range" = none
  n_tuple : mg "tuple" = none
  n_list : mg "list" = none
  n_isinstance : mg "isinstance" = none
  n_all : mg "all" = none
  n_str : mg "str" = none
  n_bool : mg "bool" = none
  n_int : mg "int" = none
  n_dict : mg "dict" = none
  n_set : mg "set" = none
  g_SIGNS : ∃ t, mg "SIGNS" = some (.str "abcdefghijklmnopqrstuvwxyz0123456789" t)
  g_MOST_SIGNS : ∃ t, mg "MOST_SIGNS" = some (.int 8 t)
  g_MOST_TERMS : ∃ t, mg "MOST_TERMS" = some (.int 4 t)
  g_MOST_ATOMS : ∃ t, mg "MOST_ATOMS" = some (.int 8 t)
theorem sc_l_feed : FnScope ["_law_script", "_law_k"] ["_law_script", "_law_k"] (defScope s_l_feed) := ⟨rfl, rfl, rfl, by decide +kernel, rfl, by decide +kernel, by decide +kernel⟩
theorem ok_feed {f : Addr} {fd : FuncData} (F : Fun K "_law_feed" "_law_feed" s_l_feed f fd) (T : Txt K mg) : FnOk P w K mg base CX0 1 f fd ["_law_script", "_law_k"] (spFeed K) := by
  refine F.ok sc_l_feed (fun vs H Q E h => ?_) (fun cdv A outer s H vs Q E hr h => ?_)
  · obtain ⟨a, ns, k, rfl, _⟩ := h
    rfl
  obtain ⟨a, ns, kk, rfl, hS, hn, hk, k⟩ := h
  refine ⟨_, (pss_cons (ps_if (pt_cmpR op_eq (pe_callB call_len rfl T.n_len PySem.boot_len (pa_cons (pv 0) pa_nil)) pe_int (nomark _)) (pss_one (ps_ret (pe_lst (pa_cons pe_int (pa_cons pe_int (pa_cons (pv 1) pa_nil)))))) pss_nil)
      (pss_one (ps_ret (pe_lst (pa_cons (pe_ix ix_list (pv 0) (pe_op op_mod (pv 1) (pe_callB call_len rfl T.n_len PySem.boot_len (pa_cons (pv 0) pa_nil))) (fun _ _ => rfl)) (pa_cons pe_int (pa_cons (pv 1) pa_nil))))))), ?_⟩
  have nl : (ns.map V.int).length = ns.length := List.length_map _
  refine ⟨_, rfl, _, _, rfl, .inl ⟨_, hS.sq, rfl⟩, rfl, _, rfl, ?_⟩
  refine ite2 (fun c => ?_) (fun c => ?_)
  · refine ⟨_, rfl, (by show 3 ≤ sizeLine; decide), fun p hp => ?_⟩
    exact k p _ ⟨_, _, _, upd_same⟩ (fun b u q => by rw [upd_ne (ne_of_none q hp)]; exact q) hp
  · have c1 : ((ns.map V.int).length : Int) ≠ 0 := fun e => c (decide_eq_true (congrArg V.int e))
    have c3 : (0 : Int) < ((ns.map V.int).length : Int) := by omega
    have c4 := Int.emod_nonneg kk (show ((ns.map V.int).length : Int) ≠ 0 by omega)
    have c5 := Int.emod_lt_of_pos kk c3
    obtain ⟨v, hv⟩ : ∃ v, ns[(kk % ((ns.map V.int).length : Int)).toNat]? = some v := ⟨_, List.getElem?_eq_getElem (by rw [← nl]; omega)⟩
    have ev : atI (ns.map V.int) (kk % ((ns.map V.int).length : Int)) = some (.int v) := by
      have e0 : kk % ((ns.map V.int).length : Int) = (((kk % ((ns.map V.int).length : Int)).toNat : Nat) : Int) := by omega
      rw [e0]
      exact atI_nat (by rw [List.getElem?_map, hv]; rfl)
    refine ⟨_, rfl, _, rfl, _, rfl, _, _, rfl, .inl ⟨_, hS.sq, rfl⟩, _, _, rfl, rfl, c3, _, _, _, _, rfl, rfl, hS.sq, ev, _, rfl, (by show 3 ≤ sizeLine; decide), fun p hp => ?_⟩
    exact k p _ ⟨_, _, _, upd_same⟩ (fun b u q => by rw [upd_ne (ne_of_none q hp)]; exact q) hp
theorem sc_l_draw : FnScope ["_law_feed_here", "_law_many", "_law_digit", "_law_seed"] ["_law_feed_here", "_law_many"] (defScope s_l_draw) := ⟨rfl, rfl, rfl, by decide +kernel, rfl, by decide +kernel, by decide +kernel⟩
theorem ok_draw {f : Addr} {fd : FuncData} (F : Fun K "_law_draw" "_law_draw" s_l_draw f fd) (T : Txt K mg) : FnOk P w K mg base CX0 1 f fd ["_law_feed_here", "_law_many"] (spDraw K) := by
  refine F.ok sc_l_draw (fun vs H Q E h => ?_) (fun cdv A outer s H vs Q E hr h => ?_)
  · obtain ⟨a, ns, rfl, _⟩ := h
    rfl
  obtain ⟨fe, many, rfl, ⟨x, p, q, hf⟩, hm, hm2, k⟩ := h
  have lo : ∀ (x m : Int), 0 < m → m < 2 ^ 32 → -(2 ^ 64) < x % m ∧ x % m < 2 ^ 64 := fun x m h1 h2 => by
    have h3 := Int.emod_nonneg x (show m ≠ 0 by omega)
    have h4 := Int.emod_lt_of_pos x h1
    omega
  refine ⟨_, (pss_cons (ps_asg (pe_op op_add (pe_ix ix_list (pv 0) pe_int (fun _ _ => rfl)) pe_int) (pg_sub (pv 0) pe_int set_list))
      (pss_cons (ps_if (pt_cmpR op_ge (pe_ix ix_list (pv 0) pe_int (fun _ _ => rfl)) (pe_op op_pow pe_int pe_int) (nomark _)) (pss_cons (ps_set (i := 2) sc_l_draw.nd rfl (Or.inl rfl) (pe_op op_mod (pe_ix ix_list (pv 0) pe_int (fun _ _ => rfl)) (pv 1)))
      (pss_cons (ps_asg (pe_op op_fdivL (pe_ix ix_list (pv 0) pe_int (fun _ _ => rfl)) (pv 1)) (pg_sub (pv 0) pe_int set_list))
      (pss_one (ps_ret (pv 2))))) pss_nil)
      (pss_cons (ps_set (i := 3) sc_l_draw.nd rfl (Or.inl rfl) (pe_op op_add (pe_op op_add (pe_op op_add (pe_op op_mod (pe_ix ix_list (pv 0) pe_int (fun _ _ => rfl)) pe_int) (pe_op op_mul pe_int (pe_ix ix_list (pv 0) pe_int (fun _ _ => rfl)))) (pe_op op_mul pe_int (pe_ix ix_list (pv 0) pe_int (fun _ _ => rfl)))) pe_int))
      (pss_cons (ps_set (i := 3) sc_l_draw.nd rfl (Or.inl rfl) (pe_op op_mod (pe_op op_mul (pv 3) pe_int) pe_int))
      (pss_one (ps_ret (pe_op op_mod (pe_op op_mod (pe_op op_mul (pe_op op_mod (pe_op op_add (pe_op op_mul (pv 3) pe_int) (pe_ix ix_list (pv 0) pe_int (fun _ _ => rfl))) pe_int) pe_int) pe_int) (pv 1)))))))), ?_⟩
  -- feed[1] = feed[1] + 1
  refine ⟨_, rfl, fe, _, _, _, rfl, rfl, SqL.of hf, rfl, _, _, rfl, rfl, _, rfl, fe, _, _, _, rfl, rfl, hf, rfl, ?_⟩
  have hf1 : upd H fe (.lst [.int x, .int (p + 1), .int q]) fe = some (.lst [.int x, .int (p + 1), .int q]) := upd_same
  have ex1 : Ext fe H (upd H fe (.lst [.int x, .int (p + 1), .int q])) := (Ext.refl fe H).feed _
  -- if feed[0] >= 10 ** 18
  refine ⟨_, rfl, fe, _, _, _, rfl, rfl, SqL.of hf1, rfl, _, _, rfl, rfl, ⟨by decide, by decide, by decide⟩, _, _, rfl, rfl, _, rfl, ?_⟩
  refine ite2 (fun c => ?_) (fun c => ?_)
  · refine ⟨_, rfl, fe, _, _, _, rfl, rfl, SqL.of hf1, rfl, _, rfl, _, _, rfl, rfl, hm, ?_⟩
    have l2 : many.natAbs.log2 < 9000 := by
      by_cases hz : many.natAbs = 0
      · rw [hz]
        decide
      · rw [Nat.log2_lt hz]
        exact Nat.lt_trans (show many.natAbs < 2 ^ 30 by omega) (Nat.pow_lt_pow_right (by decide) (by decide))
    refine ⟨_, rfl, fe, _, _, _, rfl, rfl, SqL.of hf1, rfl, _, rfl, _, _, rfl, rfl, ⟨hm, l2⟩, _, rfl, fe, _, _, _, rfl, rfl, hf1, rfl, ?_⟩
    refine ⟨_, rfl, ?_⟩
    exact k _ _ (Int.emod_nonneg _ (by omega)) (Int.emod_lt_of_pos _ hm) ⟨_, _, _, upd_same⟩ (ex1.feed _)
  · refine ⟨_, rfl, fe, _, _, _, rfl, rfl, SqL.of hf1, rfl, _, _, rfl, rfl, (by show (0 : Int) < 2147483647; decide), ?_⟩
    refine ⟨_, rfl, fe, _, _, _, rfl, rfl, SqL.of hf1, rfl, _, _, rfl, rfl, .inl ⟨by decide, by decide⟩, _, _, rfl, rfl, ?_⟩
    refine ⟨_, rfl, fe, _, _, _, rfl, rfl, SqL.of hf1, rfl, _, _, rfl, rfl, .inl ⟨by decide, by decide⟩, _, _, rfl, rfl, _, _, rfl, rfl, ?_⟩
    refine ⟨_, rfl, _, _, rfl, rfl, .inr ⟨by decide, by decide⟩, _, _, rfl, rfl, (by show (0 : Int) < 2147483647; decide), ?_⟩
    refine ⟨_, rfl, _, _, rfl, rfl, .inr ⟨by decide, by decide⟩, _, rfl, fe, _, _, _, rfl, rfl, SqL.of hf1, rfl, _, _, rfl, rfl, _, _, rfl, rfl, (by show (0 : Int) < 2147483399; decide), _, _, rfl, rfl, .inr ⟨by decide, by decide⟩, _, _, rfl, rfl, (by show (0 : Int) < 2147483563; decide), _, rfl, _, _, rfl, rfl, hm, ?_⟩
    exact k _ _ (Int.emod_nonneg _ (by omega)) (Int.emod_lt_of_pos _ hm) ⟨_, _, _, hf1⟩ ex1
structure Dr (P : Program) (w : World) (K : PySem.W.Frag) (mg : Str → Option Value) (base : Heap) : Prop where
  l_draw : DefOk P w K mg base 1 "_law_draw" ["_law_feed_here", "_law_many"] (spDraw K)
def wordAt (i s j : Nat) : Str := wordsPool.getD ((i + s * j) % 12) ""
theorem words_nd : ((List.range 12).all fun i => ([1, 5, 7, 11] : List Nat).all fun s => decide (((List.range 12).map fun j => wordAt i s j).Nodup)) = true := by decide +kernel
theorem words_in : ((List.range 12).all fun i => decide (wordsPool.getD i "" ∈ wordsPool)) = true := by decide +kernel
theorem words_nodup {i s m : Nat} (hi : i < 12) (hs : s ∈ ([1, 5, 7, 11] : List Nat)) (hm : m ≤ 12) : ((List.range m).map fun j => wordAt i s j).Nodup := by
  have h1 := of_decide_eq_true (List.all_eq_true.mp (List.all_eq_true.mp words_nd i (List.mem_range.mpr hi)) s hs)
  have h2 : ((List.range m).map fun j => wordAt i s j) = (((List.range 12).map fun j => wordAt i s j)).take m := by
    rw [← List.map_take, List.take_range, Nat.min_eq_left hm]
  rw [h2]
  exact h1.sublist (List.take_sublist _ _)
theorem word_in (i s j : Nat) : wordAt i s j ∈ wordsPool := of_decide_eq_true (List.all_eq_true.mp words_in ((i + s * j) % 12) (List.mem_range.mpr (Nat.mod_lt _ (by decide))))
theorem step4 {i : Int} (h0 : 0 ≤ i) (h1 : i < 4) : ∃ s : Nat, s ∈ ([1, 5, 7, 11] : List Nat) ∧ atI [V.int 1, V.int 5, V.int 7, V.int 11] i = some (.int (s : Int)) := by
  have c : i = 0 ∨ i = 1 ∨ i = 2 ∨ i = 3 := by omega
  rcases c with rfl | rfl | rfl | rfl
  · exact ⟨1, by decide, rfl⟩
  · exact ⟨5, by decide, rfl⟩
  · exact ⟨7, by decide, rfl⟩
  · exact ⟨11, by decide, rfl⟩
theorem sc_l_words : FnScope ["_law_feed_here", "_law_many", "_law_some", "_law_first", "_law_step"] ["_law_feed_here", "_law_many"] (defScope s_l_words) := ⟨rfl, rfl, rfl, by decide +kernel, rfl, by decide +kernel, by decide +kernel⟩
theorem ok_words {f : Addr} {fd : FuncData} (F : Fun K "_law_words" "_law_words" s_l_words f fd) (T : Txt K mg) (D : Dr P w K mg base) : FnOk P w K mg base CX0 2 f fd ["_law_feed_here", "_law_many"] (spWords K) := by
  refine F.ok sc_l_words (fun vs H Q E h => ?_) (fun cdv A outer s H vs Q E hr h => ?_)
  · obtain ⟨a, b, rfl, _⟩ := h
    rfl
  obtain ⟨fe, many, rfl, hF, hm0, hm1, k⟩ := h
  refine ⟨_, (pss_cons (ps_set (i := 2) sc_l_words.nd rfl (Or.inr rfl) (pe_lst (pa_cons pe_str (pa_cons pe_str (pa_cons pe_str (pa_cons pe_str (pa_cons pe_str (pa_cons pe_str (pa_cons pe_str (pa_cons pe_str (pa_cons pe_str (pa_cons pe_str (pa_cons pe_str (pa_cons pe_str pa_nil))))))))))))))
      (pss_cons (ps_set (i := 3) sc_l_words.nd rfl (Or.inr rfl) (cl D.l_draw hr (pa_cons (pv 0) (pa_cons pe_int pa_nil))))
      (pss_cons (ps_set (i := 4) sc_l_words.nd rfl (Or.inr rfl) (pe_ix ix_list (pe_lst (pa_cons pe_int (pa_cons pe_int (pa_cons pe_int (pa_cons pe_int pa_nil))))) (cl D.l_draw hr (pa_cons (pv 0) (pa_cons pe_int pa_nil))) (fun _ _ => rfl)))
      (pss_one (ps_ret (pe_comp rfl (compSc_mk (fs := ["_law_some", "_law_first", "_law_step"]) (fr := [2, 3, 4])) (pi_range1 rfl T.n_range (pa_cons (pv 1) pa_nil)) (fun _ _ _ _ => (pe_ix (ix_listK (K := K)) (pv 1) (pe_op op_mod (pe_op op_add (pv 2) (pe_op op_mul (pv 3) (pv 0))) pe_int) (fun _ _ => rfl))))))))), ?_⟩
  refine ⟨(by show 12 ≤ sizeLine; decide), fun p hp => ?_⟩
  have np := hF.nef hp
  have hF1 := hF.new hp (.lst [.str "a", .str "ab", .str "r", .str "rs", .str "abc", .str "12", .str "1", .str "x", .str "s", .str "x1", .str "0", .str "abcdefgh"])
  refine ⟨_, rfl, fe, 12, rfl, hF1, by decide, by decide, fun i H1 i0 i1 hF1 ex1 => ?_⟩
  refine ⟨(by show 4 ≤ sizeLine; decide), fun p2 hp2 => ?_⟩
  have np2 := hF1.nef hp2
  refine ⟨_, rfl, fe, 4, rfl, hF1.new hp2 _, by decide, by decide, fun j H2 j0 j1 hF2 ex2 => ?_⟩
  obtain ⟨st, hst, ev⟩ := step4 j0 j1
  refine ⟨_, _, _, _, rfl, rfl, SqL.of (ex2 _ _ np2 upd_same), ev, ?_⟩
  have hp1 : H1 p = some (.lst (wordsPool.map V.str)) := ex1 _ _ np upd_same
  have npp : p ≠ p2 := ne_of_none hp1 hp2
  have hpp : H2 p = some (.lst (wordsPool.map V.str)) := ex2 _ _ np (by rw [upd_ne npp]; exact hp1)
  have ex : Ext fe H H2 := (((Ext.refl fe H).new hp _).trans ex1).trans (((Ext.refl fe H1).new hp2 _).trans ex2)
  -- the words
  refine ⟨_, rfl, many, rfl, by omega, by omega, fun n m ys H3 => H3 = H2 ∧ n ≤ many.toNat ∧ m = many.toNat - n ∧ ys = ((List.range n).map fun j => wordAt i.toNat st j).map V.str, ⟨_, rfl, Nat.zero_le _, rfl, rfl⟩, ?_⟩
  rintro n m ys H3 ⟨rfl, hn, rfl, rfl⟩
  have ly : (((List.range n).map fun j => wordAt i.toNat st j).map V.str).length = n := by rw [List.length_map, List.length_map, List.length_range]
  by_cases hlt : n < many.toNat
  · refine .inr ⟨hlt, by rw [ly]; exact small1000 (by omega), ?_⟩
    rintro v H4 ⟨rfl, rfl⟩
    refine rd_true ?_
    have hix : atI (wordsPool.map V.str) ((i + (st : Int) * (0 + (n : Int))) % 12) = some (.str (wordAt i.toNat st n)) := by
      have e0 : (i + (st : Int) * (0 + (n : Int))) % 12 = (((i.toNat + st * n) % 12 : Nat) : Int) := by
        have e1 : i = (i.toNat : Int) := by omega
        rw [Int.zero_add, e1]
        simp
      rw [e0]
      refine atI_nat ?_
      have hlt12 : (i.toNat + st * n) % 12 < wordsPool.length := Nat.mod_lt _ (by decide)
      rw [List.getElem?_map, List.getElem?_eq_getElem hlt12]
      unfold wordAt
      rw [List.getD_eq_getElem?_getD, List.getElem?_eq_getElem hlt12]
      rfl
    have hst12 : -(2 ^ 64) < (st : Int) ∧ (st : Int) < 2 ^ 64 := by
      simp at hst
      omega
    refine ⟨_, rfl, _, rfl, _, rfl, _, rfl, _, _, rfl, rfl, .inl hst12, _, _, rfl, rfl, _, _, rfl, rfl, (by show (0 : Int) < 12; decide), _, _, _, _, rfl, rfl, SqL.of hpp, hix, ?_⟩
    refine ⟨many.toNat - (n + 1), by omega, rfl, hlt, rfl, ?_⟩
    rw [List.range_succ, List.map_append, List.map_append]
    rfl
  · have en : n = many.toNat := by omega
    refine .inl ⟨by show many.toNat ≤ n; omega, by rw [ly]; exact Nat.le_of_lt (small1000 (by omega)), fun l hl => ?_⟩
    have nl := hF2.nef hl
    refine k l _ _ (hF2.new hl _) (ex.new hl _) nl (ex.none nl hl) upd_same ?_ (words_nodup (by omega) hst (by omega)) fun z hz => ?_
    · rw [List.length_map, List.length_range]
      omega
    · obtain ⟨j, _, rfl⟩ := List.mem_map.mp hz
      exact word_in _ _ _
end

end K01

set_option Elab.async false
set_option linter.all false
set_option maxRecDepth 100000
set_option maxHeartbeats 4000000
namespace K01
open PySem PySem.Spec PyProof.Rows L2
seal L2.PE L2.PT L2.PW L2.PA L2.PS L2.PSs L2.PI L2.PO L2.PPs L2.PG L2.PGs
/-! ## values, unknowns: what the program answers of a text -/
def SIGNS : Str := "abcdefghijklmnopqrstuvwxyz0123456789"
def sgn (c : Nat) : Bool := !(Builtin.Str.occurrences SIGNS ⟨#[c]⟩ 0 SIGNS.length 1).isEmpty
def isVal (s : Str) : Bool := decide ((1 : Int) ≤ (s.length : Int)) && (decide ((s.length : Int) ≤ 8) && (s.cps.toList.map sgn).all id)
def isUnk (s : Str) : Bool := Txt.startswith s "?" && isVal (Txt.slice s (some 1) none)
theorem same_new {H : Hp} {p : Addr} (h : H p = none) (o : HO) : Same H (upd H p o) := fun b u q => by rw [upd_ne (ne_of_none q h)]; exact q
theorem pe_ty {X : Cx} {x : Str} {n : String} {pos : Pos} (hg : Gl X x) (hm : X.mg x = none) (hv : bootBuiltins x = some (.type n)) (hn : x ≠ "__name__" := by decide) (hd : (x == ("__debug__" : Str)) = false := by decide) : PE X (.Name x pos) (tC (.ty n)) := pe_bltn hg hm hv rfl hn hd
/-! ## plain things -/
def isStr : V → Bool
  | .str _ => true
  | _ => false
def valB : V → Bool
  | .str z => isVal z
  | _ => false
def unkB : V → Bool
  | .str z => isUnk z
  | _ => false
def termB (v : V) : Bool := valB v || unkB v
def tupOf (H : Hp) : V → Option (List V)
  | .ref a => match H a with
    | some (.tup xs) => some xs
    | _ => none
  | _ => none
theorem tupOf_eq {H : Hp} (a : Addr) : tupOf H (.ref a) = (match H a with | some (.tup xs) => some xs | _ => none) := rfl
def pairB (H : Hp) (v : V) : Bool := match tupOf H v with
  | some xs => decide ((xs.length : Int) = 2)
  | none => false
def termsB (H : Hp) (lo : Int) (v : V) : Bool := match tupOf H v with
  | some xs => decide (lo ≤ (xs.length : Int)) && (decide ((xs.length : Int) ≤ 4) && (xs.map termB).all id)
  | none => false
def atomB (H : Hp) (v : V) : Bool := match tupOf H v with
  | some [n, t] => valB n && termsB H 1 t
  | _ => false
def atomsB (H : Hp) (v : V) : Bool := match tupOf H v with
  | some xs => decide ((1 : Int) ≤ (xs.length : Int)) && (decide ((xs.length : Int) ≤ 8) && (xs.map (atomB H)).all id)
  | none => false
theorem termsB_some {H : Hp} {lo : Int} {v : V} {xs : List V} (e : tupOf H v = some xs) : termsB H lo v = (decide (lo ≤ (xs.length : Int)) && (decide ((xs.length : Int) ≤ 4) && (xs.map termB).all id)) := by
  unfold termsB
  rw [e]
theorem termsB_none {H : Hp} {lo : Int} {v : V} (e : tupOf H v = none) : termsB H lo v = false := by
  unfold termsB
  rw [e]
theorem atomsB_some {H : Hp} {v : V} {xs : List V} (e : tupOf H v = some xs) : atomsB H v = (decide ((1 : Int) ≤ (xs.length : Int)) && (decide ((xs.length : Int) ≤ 8) && (xs.map (atomB H)).all id)) := by
  unfold atomsB
  rw [e]
theorem atomsB_none {H : Hp} {v : V} (e : tupOf H v = none) : atomsB H v = false := by
  unfold atomsB
  rw [e]
theorem pairB_some {H : Hp} {v : V} {xs : List V} (e : tupOf H v = some xs) : pairB H v = decide ((xs.length : Int) = 2) := by
  unfold pairB
  rw [e]
theorem pairB_none {H : Hp} {v : V} (e : tupOf H v = none) : pairB H v = false := by
  unfold pairB
  rw [e]
theorem atomB_pair {H : Hp} {v x t : V} (e : tupOf H v = some [x, t]) : atomB H v = (valB x && termsB H 1 t) := by
  unfold atomB
  rw [e]
theorem atomB_not {H : Hp} {v : V} (e : pairB H v = false) : atomB H v = false := by
  unfold atomB
  cases q : tupOf H v with
  | none => rfl
  | some xs =>
    rw [pairB_some q] at e
    match xs, e with
    | [], _ => rfl
    | [_], _ => rfl
    | [_, _], e => simp at e
    | _ :: _ :: _ :: _, _ => rfl
theorem pairB_yes {H : Hp} {v : V} (e : pairB H v = true) : ∃ x t, tupOf H v = some [x, t] := by
  cases q : tupOf H v with
  | none =>
    rw [pairB_none q] at e
    cases e
  | some xs =>
    rw [pairB_some q] at e
    have e' := of_decide_eq_true e
    match xs, e' with
    | [], e' => simp at e'
    | [_], e' => simp at e'
    | [x, t], _ => exact ⟨x, t, rfl⟩
    | _ :: _ :: _ :: _, e' => simp at e'; omega
/-- a plain thing of at most n levels, tuples of at most m items; the feed f is no part of it; lists and dicts are not looked into -/
def Th (f : Addr) (m : Nat) (H : Hp) : Nat → V → Prop
  | 0, _ => False
  | n + 1, v => v = .non ∨ (∃ b, v = .bl b) ∨ (∃ i, v = .int i) ∨ (∃ z : Str, v = .str z ∧ z.length ≤ 100) ∨ (∃ a xs, v = .ref a ∧ a ≠ f ∧ H a = some (.lst xs)) ∨ (∃ a kvs, v = .ref a ∧ a ≠ f ∧ H a = some (.dK kvs)) ∨
    (∃ a xs, v = .ref a ∧ a ≠ f ∧ H a = some (.tup xs) ∧ xs.length ≤ m ∧ ∀ x ∈ xs, Th f m H n x)
theorem Th.keep {f : Addr} {m : Nat} {H H' : Hp} (e : Ext f H H') : ∀ {n : Nat} {v : V}, Th f m H n v → Th f m H' n v
  | 0, _, h => h
  | n + 1, v, h => by
    rcases h with h | h | h | h | ⟨a, xs, rfl, nf, h⟩ | ⟨a, kvs, rfl, nf, h⟩ | ⟨a, xs, rfl, nf, h, hl, hx⟩
    · exact .inl h
    · exact .inr (.inl h)
    · exact .inr (.inr (.inl h))
    · exact .inr (.inr (.inr (.inl h)))
    · exact .inr (.inr (.inr (.inr (.inl ⟨a, xs, rfl, nf, e _ _ nf h⟩))))
    · exact .inr (.inr (.inr (.inr (.inr (.inl ⟨a, kvs, rfl, nf, e _ _ nf h⟩)))))
    · exact .inr (.inr (.inr (.inr (.inr (.inr ⟨a, xs, rfl, nf, e _ _ nf h, hl, fun x hx' => Th.keep e (hx x hx')⟩)))))
theorem Th.up {f : Addr} {m m' : Nat} {H : Hp} (hm : m ≤ m') : ∀ {n n' : Nat} {v : V}, n ≤ n' → Th f m H n v → Th f m' H n' v
  | 0, _, _, _, h => h.elim
  | n + 1, 0, v, hn, h => absurd hn (Nat.not_succ_le_zero n)
  | n + 1, n' + 1, v, hn, h => by
    rcases h with h | h | h | h | h | h | ⟨a, xs, rfl, nf, h, hl, hx⟩
    · exact .inl h
    · exact .inr (.inl h)
    · exact .inr (.inr (.inl h))
    · exact .inr (.inr (.inr (.inl h)))
    · exact .inr (.inr (.inr (.inr (.inl h))))
    · exact .inr (.inr (.inr (.inr (.inr (.inl h)))))
    · exact .inr (.inr (.inr (.inr (.inr (.inr ⟨a, xs, rfl, nf, h, Nat.le_trans hl hm, fun x hx' => Th.up hm (Nat.le_of_succ_le_succ hn) (hx x hx')⟩)))))
theorem Ext.of {f : Addr} {H H' : Hp} (s : Same H H') : Ext f H H' := fun b o _ h => s b o h
section
variable {f : Addr} {m n : Nat} {H H' : Hp} {v : V}
theorem Th.str {z : Str} (h : z.length ≤ 100) : Th f m H (n + 1) (.str z) := .inr (.inr (.inr (.inl ⟨z, rfl, h⟩)))
theorem Th.tup {a : Addr} {xs : List V} (nf : a ≠ f) (h : H a = some (.tup xs)) (hl : xs.length ≤ m) (hx : ∀ x ∈ xs, Th f m H n x) : Th f m H (n + 1) (.ref a) :=
  .inr (.inr (.inr (.inr (.inr (.inr ⟨a, xs, rfl, nf, h, hl, hx⟩)))))
theorem Th.items (h : Th f m H n v) {xs : List V} (e : tupOf H v = some xs) : ∃ a, v = .ref a ∧ a ≠ f ∧ H a = some (.tup xs) ∧ xs.length ≤ m ∧ ∀ x ∈ xs, Th f m H (n - 1) x := by
  cases n with
  | zero => exact h.elim
  | succ n =>
    rcases h with rfl | ⟨b, rfl⟩ | ⟨i, rfl⟩ | ⟨z, rfl, _⟩ | ⟨a, ys, rfl, nf, h⟩ | ⟨a, kvs, rfl, nf, h⟩ | ⟨a, ys, rfl, nf, h, hl, hx⟩
    · cases e
    · cases e
    · cases e
    · cases e
    · rw [tupOf_eq, h] at e
      cases e
    · rw [tupOf_eq, h] at e
      cases e
    · rw [tupOf_eq, h] at e
      cases e
      exact ⟨a, rfl, nf, h, hl, hx⟩
theorem tupOf_ref {a : Addr} {xs : List V} (h : H a = some (.tup xs)) : tupOf H (.ref a) = some xs := by
  rw [tupOf_eq, h]
theorem Th.isStr (h : Th f m H n v) (e : isStr v = true) : ∃ z : Str, v = .str z ∧ z.length ≤ 100 := by
  cases n with
  | zero => exact h.elim
  | succ n =>
    rcases h with rfl | ⟨b, rfl⟩ | ⟨i, rfl⟩ | ⟨z, rfl, hz⟩ | ⟨a, ys, rfl, nf, h⟩ | ⟨a, kvs, rfl, nf, h⟩ | ⟨a, ys, rfl, nf, h, hl, hx⟩
    all_goals first | exact ⟨z, rfl, hz⟩ | cases e
theorem valB_no (e : ¬ isStr v = true) : valB v = false := by
  cases v <;> first | rfl | exact absurd rfl e
theorem unkB_no (e : ¬ isStr v = true) : unkB v = false := by
  cases v <;> first | rfl | exact absurd rfl e
/-- what is told of a thing stays -/
theorem Th.tupOf (h : Th f m H n v) (e : Ext f H H') : tupOf H' v = tupOf H v := by
  cases q : K01.tupOf H v with
  | some xs =>
    obtain ⟨a, rfl, nf, ha, _⟩ := h.items q
    exact tupOf_ref (e _ _ nf ha)
  | none =>
    cases n with
    | zero => exact h.elim
    | succ n =>
      rcases h with rfl | ⟨b, rfl⟩ | ⟨i, rfl⟩ | ⟨z, rfl, _⟩ | ⟨a, ys, rfl, nf, h⟩ | ⟨a, kvs, rfl, nf, h⟩ | ⟨a, ys, rfl, nf, h, hl, hx⟩
      · rfl
      · rfl
      · rfl
      · rfl
      · rw [tupOf_eq, e _ _ nf h]
      · rw [tupOf_eq, e _ _ nf h]
      · rw [tupOf_ref h] at q
        cases q
theorem Th.terms (h : Th f m H n v) (e : Ext f H H') (lo : Int) : termsB H' lo v = termsB H lo v := by
  unfold termsB
  rw [h.tupOf e]
theorem Th.atom (h : Th f m H n v) (e : Ext f H H') : atomB H' v = atomB H v := by
  unfold atomB
  rw [h.tupOf e]
  cases q : K01.tupOf H v with
  | none => rfl
  | some xs =>
    obtain ⟨a, _, _, _, _, hx⟩ := h.items q
    match xs, hx with
    | [], _ => rfl
    | [_], _ => rfl
    | [x, t], hx =>
      show (valB x && termsB H' 1 t) = (valB x && termsB H 1 t)
      rw [(hx t (by simp)).terms e]
    | _ :: _ :: _ :: _, _ => rfl
theorem kit_no {K : PySem.W.Frag} : PySem.W.kitOne K (.type "NoneType") (.type "str") = some false ∧ PySem.W.kitOne K (.type "NoneType") (.type "tuple") = some false := ⟨by rfl, by rfl⟩
theorem ty_of {K : PySem.W.Frag} (h : Th f m H n v) : ∃ t, TyOf K H v t ∧ PySem.W.kitOne K t (.type "str") = some (K01.isStr v) ∧ PySem.W.kitOne K t (.type "tuple") = some (K01.tupOf H v).isSome := by
  cases n with
  | zero => exact h.elim
  | succ n =>
    rcases h with rfl | ⟨b, rfl⟩ | ⟨i, rfl⟩ | ⟨z, rfl, hz⟩ | ⟨a, ys, rfl, nf, h⟩ | ⟨a, kvs, rfl, nf, h⟩ | ⟨a, ys, rfl, nf, h, hl, hx⟩
    · exact ⟨_, .non, by rfl, by rfl⟩
    · exact ⟨_, .bl b, by rfl, by rfl⟩
    · exact ⟨_, .int i, by rfl, by rfl⟩
    · exact ⟨_, .str z, by rfl, by rfl⟩
    · refine ⟨_, .lst h, by rfl, ?_⟩
      rw [tupOf_eq, h]
      rfl
    · refine ⟨_, .dK h, by rfl, ?_⟩
      rw [tupOf_eq, h]
      rfl
    · refine ⟨_, .tup h, by rfl, ?_⟩
      rw [tupOf_ref h]
      rfl
end
end K01

set_option Elab.async false
set_option linter.all false
set_option maxRecDepth 100000
set_option maxHeartbeats 4000000
namespace K01
open PySem PySem.Spec PyProof.Rows L2
seal L2.PE L2.PT L2.PW L2.PA L2.PS L2.PSs L2.PI L2.PO L2.PPs L2.PG L2.PGs
/-! ## what the program answers of a plain thing -/
section
variable {P : Program} {w : World} {K : PySem.W.Frag} {mg : Str → Option Value} {base : Heap}
def spIs (g : Hp → V → Bool) : Sp := fun vs H Q _ => ∃ (f : Addr) (m n : Nat) (v : V), vs = [v] ∧ Th f m H n v ∧ m ≤ 1000 ∧ ∀ H', Same H H' → Q (.bl (g H v)) H'
def spTerms : Sp := fun vs H Q _ => ∃ (f : Addr) (m n : Nat) (v : V) (lo : Int), vs = [v, .int lo] ∧ Th f m H n v ∧ m ≤ 1000 ∧ ∀ H', Same H H' → Q (.bl (termsB H lo v)) H'
theorem sc_is_value : FnScope ["thing"] ["thing"] (defScope s_is_value) := ⟨rfl, rfl, rfl, by decide +kernel, rfl, by decide +kernel, by decide +kernel⟩
theorem ok_is_value {f : Addr} {fd : FuncData} (F : Fun K "is_value" "is_value" s_is_value f fd) (T : Txt K mg) : FnOk P w K mg base CX0 1 f fd ["thing"] (spIs fun _ v => valB v) := by
  refine F.ok sc_is_value (fun vs H Q E h => ?_) (fun cdv A outer s H vs Q E hr h => ?_)
  · obtain ⟨a, b, c, d, rfl, _⟩ := h
    rfl
  obtain ⟨fe, m, n, v, rfl, hv, hm, k⟩ := h
  have k : ∀ H', Same H H' → Q (.bl (valB v)) H' := k
  refine ⟨_, (pss_cons (ps_if (pt_not (pt_val (pe_callB call_isinst rfl T.n_isinstance (by decide +kernel) (pa_cons (pv 0) (pa_cons (pe_ty (n := "str") rfl T.n_str (by decide +kernel)) pa_nil))))) (pss_one (ps_ret pe_bl)) pss_nil)
      (pss_one (ps_ret (pe_and (pe_chain op_le op_le pe_int (pe_callB call_len rfl T.n_len PySem.boot_len (pa_cons (pv 0) pa_nil)) (pe_globI rfl T.g_MOST_SIGNS)) (pe_one (pe_callB (call_all_bools rfl) rfl T.n_all boot_all (pa_cons (pe_comp rfl (compSc_mk (fs := []) (fr := [])) (pi_str (pv 0)) (fun _ _ _ _ => (pe_cmpR op_in_str (pv 0) (pe_globS rfl T.g_SIGNS) (by with_unfolding_all rfl)))) pa_nil))))))), ?_⟩
  obtain ⟨t, ty, e1, e2⟩ := ty_of (K := K) hv
  refine ⟨_, rfl, _, _, _, _, rfl, ty, e1, _, rfl, ?_⟩
  by_cases hs : isStr v = true
  · obtain ⟨z, rfl, hz⟩ := hv.isStr hs
    refine iteF ?_
    have hz' : z.length ≤ sizeLine := Nat.le_of_lt (small1000 (by omega))
    refine ⟨_, rfl, _, _, rfl, ⟨hz', rfl⟩, _, _, rfl, rfl, _, rfl, ?_⟩
    refine ite2 (fun c1 => ?_) (fun c1 => ?_)
    · refine ⟨_, _, rfl, rfl, _, rfl, ?_⟩
      refine ite2 (fun c2 => ?_) (fun c2 => ?_)
      · refine ⟨_, rfl, _, rfl, comp_str (fun i ys H2 => H2 = H ∧ i ≤ z.cps.size ∧ ys = ((z.cps.toList.take i).map sgn).map V.bl) (small1000 (show z.length ≤ 1000 by omega)) ⟨rfl, Nat.zero_le _, rfl⟩ ?_ ?_ ?_⟩
        · rintro i ys H2 hi ⟨rfl, _, rfl⟩
          rw [List.length_map, List.length_map, List.length_take]
          omega
        · rintro i c ys H2 N hc ⟨rfl, hi, rfl⟩ hN
          have hlt : i < z.cps.size := (Array.getElem?_eq_some_iff.mp hc).1
          refine rd_true ?_
          refine ⟨_, rfl, _, _, rfl, rfl, hN _ _ ⟨rfl, hlt, ?_⟩⟩
          have hc' : z.cps.toList[i]? = some c := by simpa using hc
          rw [List.take_add_one, hc', List.map_append, List.map_append]
          rfl
        · rintro ys H2 ⟨rfl, _, rfl⟩ l hl'
          have et : z.cps.toList.take z.cps.size = z.cps.toList := List.take_of_length_le (by simp)
          refine ⟨_, (z.cps.toList.take z.cps.size).map sgn, rfl, SqL.of upd_same, ?_⟩
          have ev : valB (.str z) = ((z.cps.toList.take z.cps.size).map sgn).all id := by
            show isVal z = _
            unfold isVal
            rw [c1, c2, et, Bool.true_and, Bool.true_and]
          rw [← ev]
          exact k _ (same_new hl' _)
      · have ev : valB (.str z) = false := by
          show isVal z = false
          unfold isVal
          rw [Bool.eq_false_iff.mpr c2, Bool.false_and, Bool.and_false]
        have q := k H (Same.refl H)
        rw [ev] at q
        exact q
    · have ev : valB (.str z) = false := by
        show isVal z = false
        unfold isVal
        rw [Bool.eq_false_iff.mpr c1, Bool.false_and]
      have q := k H (Same.refl H)
      rw [ev] at q
      refine ⟨_, rfl, ?_⟩
      exact iteF q
  · have q := k H (Same.refl H)
    rw [valB_no hs] at q
    rw [Bool.eq_false_iff.mpr hs]
    exact iteT q
structure Dv (P : Program) (w : World) (K : PySem.W.Frag) (mg : Str → Option Value) (base : Heap) : Prop where
  is_value : DefOk P w K mg base 1 "is_value" ["thing"] (spIs fun _ v => valB v)
theorem sc_is_unknown : FnScope ["thing"] ["thing"] (defScope s_is_unknown) := ⟨rfl, rfl, rfl, by decide +kernel, rfl, by decide +kernel, by decide +kernel⟩
theorem slice_le (z : Str) : (Txt.slice z (some 1) none).length ≤ z.length := Txt.slice_le z _ _
theorem ok_is_unknown {f : Addr} {fd : FuncData} (F : Fun K "is_unknown" "is_unknown" s_is_unknown f fd) (T : Txt K mg) (D : Dv P w K mg base) : FnOk P w K mg base CX0 2 f fd ["thing"] (spIs fun _ v => unkB v) := by
  refine F.ok sc_is_unknown (fun vs H Q E h => ?_) (fun cdv A outer s H vs Q E hr h => ?_)
  · obtain ⟨a, b, c, d, rfl, _⟩ := h
    rfl
  obtain ⟨fe, m, n, v, rfl, hv, hm, k⟩ := h
  have k : ∀ H', Same H H' → Q (.bl (unkB v)) H' := k
  refine ⟨_, (pss_one (ps_ret (pe_and (pe_callB call_isinst rfl T.n_isinstance (by decide +kernel) (pa_cons (pv 0) (pa_cons (pe_ty (n := "str") rfl T.n_str (by decide +kernel)) pa_nil))) (pe_and (pe_bm PySem.F.plainAttrs_str PySem.F.slot_str_startswith PySem.F.type_str_startswith mt_startswith (pv 0) (pa_cons pe_str pa_nil)) (pe_one (cl D.is_value hr (pa_cons (pe_slice sl_str (pv 0) (po_some pe_int) po_none) pa_nil))))))), ?_⟩
  obtain ⟨t, ty, e1, e2⟩ := ty_of (K := K) hv
  refine ⟨_, rfl, _, _, _, _, rfl, ty, e1, _, rfl, ?_⟩
  by_cases hs : isStr v = true
  · obtain ⟨z, rfl, hz⟩ := hv.isStr hs
    refine iteT ?_
    have hz' : z.length ≤ sizeLine := Nat.le_of_lt (small1000 (by omega))
    refine ⟨_, rfl, rfl, _, _, rfl, rfl, _, rfl, ?_⟩
    refine ite2 (fun c1 => ?_) (fun c1 => ?_)
    · refine ⟨_, rfl, _, rfl, _, rfl, hz', fe, m, 1, _, rfl, Th.str (Nat.le_trans (slice_le z) hz), hm, fun H' sm => ?_⟩
      have ev : unkB (.str z) = valB (.str (Txt.slice z (some 1) none)) := by
        show isUnk z = isVal _
        unfold isUnk
        rw [c1, Bool.true_and]
      have q := k H' sm
      rw [ev] at q
      exact q
    · have ev : unkB (.str z) = false := by
        show isUnk z = false
        unfold isUnk
        rw [Bool.eq_false_iff.mpr c1, Bool.false_and]
      have q := k H (Same.refl H)
      rw [ev] at q
      exact q
  · have q := k H (Same.refl H)
    rw [unkB_no hs] at q
    rw [Bool.eq_false_iff.mpr hs]
    exact iteF q
structure Dt1 (P : Program) (w : World) (K : PySem.W.Frag) (mg : Str → Option Value) (base : Heap) : Prop extends Dv P w K mg base where
  is_unknown : DefOk P w K mg base 2 "is_unknown" ["thing"] (spIs fun _ v => unkB v)
theorem sc_is_term : FnScope ["thing"] ["thing"] (defScope s_is_term) := ⟨rfl, rfl, rfl, by decide +kernel, rfl, by decide +kernel, by decide +kernel⟩
theorem ok_is_term {f : Addr} {fd : FuncData} (F : Fun K "is_term" "is_term" s_is_term f fd) (D : Dt1 P w K mg base) : FnOk P w K mg base CX0 3 f fd ["thing"] (spIs fun _ v => termB v) := by
  refine F.ok sc_is_term (fun vs H Q E h => ?_) (fun cdv A outer s H vs Q E hr h => ?_)
  · obtain ⟨a, b, c, d, rfl, _⟩ := h
    rfl
  obtain ⟨fe, m, n, v, rfl, hv, hm, k⟩ := h
  have k : ∀ H', Same H H' → Q (.bl (termB v)) H' := k
  refine ⟨_, (pss_one (ps_ret (pe_or (cl D.is_value hr (pa_cons (pv 0) pa_nil)) (pe_one (cl D.is_unknown hr (pa_cons (pv 0) pa_nil)))))), ?_⟩
  refine ⟨_, rfl, fe, m, n, v, rfl, hv, hm, fun H1 sm1 => ⟨_, rfl, ?_⟩⟩
  refine ite2 (fun c => ?_) (fun c => ?_)
  · have c : valB v = true := c
    have q := k H1 sm1
    rw [show termB v = true by unfold termB; rw [c, Bool.true_or]] at q
    exact q
  · refine ⟨_, rfl, fe, m, n, v, rfl, hv.keep (Ext.of sm1), hm, fun H2 sm2 => ?_⟩
    have c : ¬ valB v = true := c
    have q := k H2 (sm1.trans sm2)
    rw [show termB v = unkB v by unfold termB; rw [Bool.eq_false_iff.mpr c, Bool.false_or]] at q
    exact q
theorem sc_is_pair : FnScope ["thing"] ["thing"] (defScope s_is_pair) := ⟨rfl, rfl, rfl, by decide +kernel, rfl, by decide +kernel, by decide +kernel⟩
theorem ok_is_pair {f : Addr} {fd : FuncData} (F : Fun K "is_pair" "is_pair" s_is_pair f fd) (T : Txt K mg) : FnOk P w K mg base CX0 1 f fd ["thing"] (spIs pairB) := by
  refine F.ok sc_is_pair (fun vs H Q E h => ?_) (fun cdv A outer s H vs Q E hr h => ?_)
  · obtain ⟨a, b, c, d, rfl, _⟩ := h
    rfl
  obtain ⟨fe, m, n, v, rfl, hv, hm, k⟩ := h
  refine ⟨_, (pss_one (ps_ret (pe_and (pe_callB call_isinst rfl T.n_isinstance (by decide +kernel) (pa_cons (pv 0) (pa_cons (pe_ty (n := "tuple") rfl T.n_tuple (by decide +kernel)) pa_nil))) (pe_one (pe_cmpR op_eq (pe_callB call_len rfl T.n_len PySem.boot_len (pa_cons (pv 0) pa_nil)) pe_int (nomark _)))))), ?_⟩
  obtain ⟨t, ty, e1, e2⟩ := ty_of (K := K) hv
  refine ⟨_, rfl, _, _, _, _, rfl, ty, e2, _, rfl, ?_⟩
  have q := k H (Same.refl H)
  cases e : tupOf H v with
  | none =>
    rw [pairB_none e] at q
    exact iteF q
  | some xs =>
    rw [pairB_some e] at q
    obtain ⟨a, rfl, nf, ha, hl, hx⟩ := hv.items e
    refine iteT ?_
    refine ⟨_, rfl, _, _, rfl, .inr ⟨_, SqT.of ha, rfl⟩, rfl, ?_⟩
    rw [show decide (V.int (xs.length : Int) = V.int 2) = decide ((xs.length : Int) = 2) by simp]
    exact q
structure Dt2 (P : Program) (w : World) (K : PySem.W.Frag) (mg : Str → Option Value) (base : Heap) : Prop extends Dt1 P w K mg base where
  is_term : DefOk P w K mg base 3 "is_term" ["thing"] (spIs fun _ v => termB v)
  is_pair : DefOk P w K mg base 1 "is_pair" ["thing"] (spIs pairB)
theorem sc_are_terms : FnScope ["thing", "fewest"] ["thing", "fewest"] (defScope s_are_terms) := ⟨rfl, rfl, rfl, by decide +kernel, rfl, by decide +kernel, by decide +kernel⟩
theorem ok_are_terms {f : Addr} {fd : FuncData} (F : Fun K "are_terms" "are_terms" s_are_terms f fd) (T : Txt K mg) (D : Dt2 P w K mg base) : FnOk P w K mg base CX0 4 f fd ["thing", "fewest"] spTerms := by
  refine F.ok sc_are_terms (fun vs H Q E h => ?_) (fun cdv A outer s H vs Q E hr h => ?_)
  · obtain ⟨a, b, c, d, e, rfl, _⟩ := h
    rfl
  obtain ⟨fe, m, n, v, lo, rfl, hv, hm, k⟩ := h
  refine ⟨_, (pss_cons (ps_if (pt_not (pt_val (pe_callB call_isinst rfl T.n_isinstance (by decide +kernel) (pa_cons (pv 0) (pa_cons (pe_ty (n := "tuple") rfl T.n_tuple (by decide +kernel)) pa_nil))))) (pss_one (ps_ret pe_bl)) pss_nil)
      (pss_one (ps_ret (pe_and (pe_chain op_le op_le (pv 1) (pe_callB call_len rfl T.n_len PySem.boot_len (pa_cons (pv 0) pa_nil)) (pe_globI rfl T.g_MOST_TERMS)) (pe_one (pe_callB (call_all_bools rfl) rfl T.n_all boot_all (pa_cons (pe_comp rfl (compSc_mk (fs := []) (fr := [])) (pi_tup (pv 0)) (fun _ _ _ _ => (cl D.is_term hr (pa_cons (pv 0) pa_nil)))) pa_nil))))))), ?_⟩
  obtain ⟨t, ty, e1, e2⟩ := ty_of (K := K) hv
  refine ⟨_, rfl, _, _, _, _, rfl, ty, e2, _, rfl, ?_⟩
  have q := k H (Same.refl H)
  cases e : tupOf H v with
  | none =>
    rw [termsB_none e] at q
    exact iteT q
  | some xs =>
    rw [termsB_some e] at q
    obtain ⟨a, rfl, nf, ha, hl, hx⟩ := hv.items e
    refine iteF ?_
    refine ⟨_, rfl, _, rfl, _, _, rfl, .inr ⟨_, SqT.of ha, rfl⟩, _, _, rfl, rfl, _, rfl, ?_⟩
    refine ite2 (fun c1 => ?_) (fun c1 => ?_)
    · refine ⟨_, _, rfl, rfl, _, rfl, ?_⟩
      refine ite2 (fun c2 => ?_) (fun c2 => ?_)
      · refine ⟨_, rfl, a, rfl, ⟨xs, SqT.of ha⟩, comp_tup (K := K) (a := a) (xs := xs) (fun i ys H2 => Same H H2 ∧ i ≤ xs.length ∧ ys = ((xs.take i).map termB).map V.bl) (small1000 (by omega)) ⟨Same.refl H, Nat.zero_le _, rfl⟩ ?_ ?_ ?_⟩
        · rintro i ys H2 hi ⟨sm, _, rfl⟩
          refine ⟨SqT.of (sm _ _ ha), ?_⟩
          rw [List.length_map, List.length_map, List.length_take]
          omega
        · rintro i x ys H2 N hc ⟨sm, hi, rfl⟩ hN
          have hlt : i < xs.length := (List.getElem?_eq_some_iff.mp hc).1
          refine rd_true ?_
          refine ⟨_, rfl, fe, m, n - 1, x, rfl, (hx x (List.mem_of_getElem? hc)).keep (Ext.of sm), hm, fun H3 sm3 => hN _ _ ⟨sm.trans sm3, hlt, ?_⟩⟩
          rw [List.take_add_one, hc, List.map_append, List.map_append]
          rfl
        · rintro ys H2 ⟨sm, _, rfl⟩ l hl'
          refine ⟨_, (xs.take xs.length).map termB, rfl, SqL.of upd_same, ?_⟩
          have ev : termsB H lo (.ref a) = ((xs.take xs.length).map termB).all id := by
            rw [termsB_some e, List.take_length, c1, c2, Bool.true_and, Bool.true_and]
          rw [← ev]
          exact k _ (sm.trans (same_new hl' _))
      · rw [Bool.eq_false_iff.mpr c2, Bool.false_and, Bool.and_false] at q
        exact q
    · rw [Bool.eq_false_iff.mpr c1, Bool.false_and] at q
      refine ⟨_, rfl, ?_⟩
      exact iteF q
end
end K01

set_option Elab.async false
set_option linter.all false
set_option maxRecDepth 100000
set_option maxHeartbeats 4000000
namespace K01
open PySem PySem.Spec PyProof.Rows L2
seal L2.PE L2.PT L2.PW L2.PA L2.PS L2.PSs L2.PI L2.PO L2.PPs L2.PG L2.PGs
/-! ## the unknowns of a question, in order, each once -/
def step (acc : List Str) (t : Str) : List Str := if isUnk t = true then (if t ∈ acc then acc else acc ++ [t]) else acc
def unkL (fl : List Str) : List Str := fl.foldl step []
theorem len_step (acc : List Str) (t : Str) : (step acc t).length ≤ acc.length + 1 := by
  unfold step
  split
  · split
    · omega
    · rw [List.length_append]; exact Nat.le_refl _
  · omega
theorem len_fold : ∀ (fl acc : List Str), (fl.foldl step acc).length ≤ acc.length + fl.length
  | [], acc => by simp
  | t :: r, acc => by
    have h1 := len_fold r (step acc t)
    have h2 := len_step acc t
    rw [List.foldl_cons, List.length_cons]
    omega
theorem len_unk (fl : List Str) : (unkL fl).length ≤ fl.length := by
  have := len_fold fl []
  simpa [unkL] using this
theorem unk_snoc (fl : List Str) (t : Str) : unkL (fl ++ [t]) = step (unkL fl) t := by
  unfold unkL
  rw [List.foldl_append]
  rfl
theorem take_flat {ats : List (List Str)} {i : Nat} {ts : List Str} (h : ats[i]? = some ts) : (ats.take (i + 1)).flatten = (ats.take i).flatten ++ ts := by
  rw [List.take_add_one, h]
  simp
/-- the dict that the program fills -/
def keysD (acc : List Str) : List (Key × V) := acc.map fun t => (Sum.inr t, V.bl true)
theorem any_keys (acc : List Str) (t : Str) : ((keysD acc).any fun kv => decide (kv.1 = (Sum.inr t : Key))) = decide (t ∈ acc) := by
  unfold keysD
  rw [List.any_map, Bool.eq_iff_iff, List.any_eq_true]
  constructor
  · rintro ⟨x, hx, e⟩
    have e' : (Sum.inr x : Key) = Sum.inr t := of_decide_eq_true e
    injection e' with e'
    exact decide_eq_true (e' ▸ hx)
  · intro h
    exact ⟨t, of_decide_eq_true h, decide_eq_true rfl⟩
theorem put_keys (acc : List Str) (t : Str) : putK (keysD acc) (Sum.inr t : Key) (V.bl true) = keysD (if t ∈ acc then acc else acc ++ [t]) := by
  unfold putK
  rw [any_keys]
  by_cases h : t ∈ acc
  · rw [decide_eq_true h, if_pos rfl, if_pos h]
    unfold keysD
    rw [List.map_map]
    refine List.map_congr_left fun x _ => ?_
    show (if (Sum.inr x : Key) = Sum.inr t then ((Sum.inr x : Key), V.bl true) else (Sum.inr x, V.bl true)) = _
    split <;> rfl
  · rw [decide_eq_false h, if_neg Bool.false_ne_true, if_neg h]
    unfold keysD
    rw [List.map_append]
    rfl
theorem keys_back (acc : List Str) : ((keysD acc).map fun kv => kV kv.1) = acc.map V.str := by
  unfold keysD
  rw [List.map_map]
  rfl
section
variable {P : Program} {w : World} {K : PySem.W.Frag} {mg : Str → Option Value} {base : Heap}
structure Dt3 (P : Program) (w : World) (K : PySem.W.Frag) (mg : Str → Option Value) (base : Heap) : Prop extends Dt2 P w K mg base where
  are_terms : DefOk P w K mg base 4 "are_terms" ["thing", "fewest"] spTerms
theorem sc_is_atom : FnScope ["thing"] ["thing"] (defScope s_is_atom) := ⟨rfl, rfl, rfl, by decide +kernel, rfl, by decide +kernel, by decide +kernel⟩
theorem ok_is_atom {f : Addr} {fd : FuncData} (F : Fun K "is_atom" "is_atom" s_is_atom f fd) (D : Dt3 P w K mg base) : FnOk P w K mg base CX0 5 f fd ["thing"] (spIs atomB) := by
  refine F.ok sc_is_atom (fun vs H Q E h => ?_) (fun cdv A outer s H vs Q E hr h => ?_)
  · obtain ⟨a, b, c, d, rfl, _⟩ := h
    rfl
  obtain ⟨fe, m, n, v, rfl, hv, hm, k⟩ := h
  refine ⟨_, (pss_one (ps_ret (pe_and (cl D.is_pair hr (pa_cons (pv 0) pa_nil)) (pe_and (cl D.is_value hr (pa_cons (pe_ix ix_tup (pv 0) pe_int (fun _ _ => rfl)) pa_nil)) (pe_one (cl D.are_terms hr (pa_cons (pe_ix ix_tup (pv 0) pe_int (fun _ _ => rfl)) (pa_cons pe_int pa_nil)))))))), ?_⟩
  refine ⟨_, rfl, fe, m, n, v, rfl, hv, hm, fun H1 sm1 => ⟨_, rfl, ?_⟩⟩
  refine ite2 (fun c => ?_) (fun c => ?_)
  · obtain ⟨x, t, e⟩ := pairB_yes c
    obtain ⟨a, rfl, nf, ha, hl, hx⟩ := hv.items e
    have hx1 : Th fe m H (n - 1) x := hx x (by simp)
    have ht1 : Th fe m H (n - 1) t := hx t (by simp)
    refine ⟨_, rfl, _, _, _, _, rfl, rfl, SqT.of (sm1 _ _ ha), rfl, fe, m, n - 1, x, rfl, hx1.keep (Ext.of sm1), hm, fun H2 sm2 => ⟨_, rfl, ?_⟩⟩
    have e0 := atomB_pair e
    refine ite2 (fun c2 => ?_) (fun c2 => ?_)
    · have c2 : valB x = true := c2
      have sm := sm1.trans sm2
      refine ⟨_, rfl, _, _, _, _, rfl, rfl, SqT.of (sm _ _ ha), rfl, fe, m, n - 1, t, 1, rfl, ht1.keep (Ext.of sm), hm, fun H3 sm3 => ?_⟩
      have q := k H3 (sm.trans sm3)
      rw [e0, c2, Bool.true_and, ← ht1.terms (Ext.of sm)] at q
      exact q
    · have c2 : ¬ valB x = true := c2
      have q := k H2 (sm1.trans sm2)
      rw [e0, Bool.eq_false_iff.mpr c2, Bool.false_and] at q
      exact q
  · have q := k H1 sm1
    rw [atomB_not (Bool.eq_false_iff.mpr c)] at q
    exact q
structure Dt4 (P : Program) (w : World) (K : PySem.W.Frag) (mg : Str → Option Value) (base : Heap) : Prop extends Dt3 P w K mg base where
  is_atom : DefOk P w K mg base 5 "is_atom" ["thing"] (spIs atomB)
theorem sc_are_atoms : FnScope ["thing"] ["thing"] (defScope s_are_atoms) := ⟨rfl, rfl, rfl, by decide +kernel, rfl, by decide +kernel, by decide +kernel⟩
theorem map_congr {xs : List V} {g g' : V → Bool} (h : ∀ x ∈ xs, g x = g' x) : xs.map g = xs.map g' := List.map_congr_left h
theorem ok_are_atoms {f : Addr} {fd : FuncData} (F : Fun K "are_atoms" "are_atoms" s_are_atoms f fd) (T : Txt K mg) (D : Dt4 P w K mg base) : FnOk P w K mg base CX0 6 f fd ["thing"] (spIs atomsB) := by
  refine F.ok sc_are_atoms (fun vs H Q E h => ?_) (fun cdv A outer s H vs Q E hr h => ?_)
  · obtain ⟨a, b, c, d, rfl, _⟩ := h
    rfl
  obtain ⟨fe, m, n, v, rfl, hv, hm, k⟩ := h
  refine ⟨_, (pss_cons (ps_if (pt_not (pt_val (pe_callB call_isinst rfl T.n_isinstance (by decide +kernel) (pa_cons (pv 0) (pa_cons (pe_ty (n := "tuple") rfl T.n_tuple (by decide +kernel)) pa_nil))))) (pss_one (ps_ret pe_bl)) pss_nil)
      (pss_one (ps_ret (pe_and (pe_chain op_le op_le pe_int (pe_callB call_len rfl T.n_len PySem.boot_len (pa_cons (pv 0) pa_nil)) (pe_globI rfl T.g_MOST_ATOMS)) (pe_one (pe_callB (call_all_bools rfl) rfl T.n_all boot_all (pa_cons (pe_comp rfl (compSc_mk (fs := []) (fr := [])) (pi_tup (pv 0)) (fun _ _ _ _ => (cl D.is_atom hr (pa_cons (pv 0) pa_nil)))) pa_nil))))))), ?_⟩
  obtain ⟨t, ty, e1, e2⟩ := ty_of (K := K) hv
  refine ⟨_, rfl, _, _, _, _, rfl, ty, e2, _, rfl, ?_⟩
  have q := k H (Same.refl H)
  cases e : tupOf H v with
  | none =>
    rw [atomsB_none e] at q
    exact iteT q
  | some xs =>
    rw [atomsB_some e] at q
    obtain ⟨a, rfl, nf, ha, hl, hx⟩ := hv.items e
    refine iteF ?_
    refine ⟨_, rfl, _, _, rfl, .inr ⟨_, SqT.of ha, rfl⟩, _, _, rfl, rfl, _, rfl, ?_⟩
    refine ite2 (fun c1 => ?_) (fun c1 => ?_)
    · refine ⟨_, _, rfl, rfl, _, rfl, ?_⟩
      refine ite2 (fun c2 => ?_) (fun c2 => ?_)
      · refine ⟨_, rfl, a, rfl, ⟨xs, SqT.of ha⟩, comp_tup (K := K) (a := a) (xs := xs) (fun i ys H2 => Same H H2 ∧ i ≤ xs.length ∧ ys = ((xs.take i).map (atomB H)).map V.bl) (small1000 (by omega)) ⟨Same.refl H, Nat.zero_le _, rfl⟩ ?_ ?_ ?_⟩
        · rintro i ys H2 hi ⟨sm, _, rfl⟩
          refine ⟨SqT.of (sm _ _ ha), ?_⟩
          rw [List.length_map, List.length_map, List.length_take]
          omega
        · rintro i x ys H2 N hc ⟨sm, hi, rfl⟩ hN
          have hlt : i < xs.length := (List.getElem?_eq_some_iff.mp hc).1
          have hx' := hx x (List.mem_of_getElem? hc)
          refine rd_true ?_
          refine ⟨_, rfl, fe, m, n - 1, x, rfl, hx'.keep (Ext.of sm), hm, fun H3 sm3 => hN _ _ ⟨sm.trans sm3, hlt, ?_⟩⟩
          rw [List.take_add_one, hc, List.map_append, List.map_append, hx'.atom (Ext.of sm)]
          rfl
        · rintro ys H2 ⟨sm, _, rfl⟩ l hl'
          refine ⟨_, (xs.take xs.length).map (atomB H), rfl, SqL.of upd_same, ?_⟩
          have ev : atomsB H (.ref a) = ((xs.take xs.length).map (atomB H)).all id := by
            rw [atomsB_some e, List.take_length, c1, c2, Bool.true_and, Bool.true_and]
          rw [← ev]
          exact k _ (sm.trans (same_new hl' _))
      · rw [Bool.eq_false_iff.mpr c2, Bool.false_and, Bool.and_false] at q
        exact q
    · rw [Bool.eq_false_iff.mpr c1, Bool.false_and] at q
      refine ⟨_, rfl, ?_⟩
      exact iteF q
/-! ### the unknowns -/
def strOf : V → Option Str
  | .str z => some z
  | _ => none
/-- the texts of an atom's terms -/
def atStrs (H : Hp) (v : V) : List Str := match tupOf H v with
  | some [_, t] => ((tupOf H t).getD []).filterMap strOf
  | _ => []
def flatOf (H : Hp) (v : V) : List Str := (((tupOf H v).getD []).map (atStrs H)).flatten
theorem strs_all : ∀ {xs : List V}, (xs.map termB).all id = true → xs = (xs.filterMap strOf).map V.str
  | [], _ => rfl
  | x :: r, h => by
    rw [List.map_cons, List.all_cons, Bool.and_eq_true] at h
    have ih := strs_all h.2
    cases x with
    | str z =>
      show V.str z :: r = V.str z :: (r.filterMap strOf).map V.str
      rw [← ih]
    | _ => exact absurd h.1 Bool.false_ne_true
/-- an atom that is one: its terms, texts -/
theorem atom_is {fe : Addr} {m n : Nat} {H : Hp} {v : V} (hv : Th fe m H n v) (h : atomB H v = true) : ∃ a x t, v = .ref a ∧ H a = some (.tup [x, .ref t]) ∧ H t = some (.tup ((atStrs H v).map V.str)) ∧ (atStrs H v).length ≤ 4 ∧ 1 ≤ (atStrs H v).length ∧
    (∀ z ∈ atStrs H v, z.length ≤ 100 ∧ termB (.str z) = true) := by
  by_cases c : pairB H v = true
  · obtain ⟨x, t, e⟩ := pairB_yes c
    obtain ⟨a, rfl, nf, ha, hl, hx⟩ := hv.items e
    rw [atomB_pair e, Bool.and_eq_true] at h
    have ht := hx t (by simp)
    have h2 := h.2
    cases e2 : tupOf H t with
    | none =>
      rw [termsB_none e2] at h2
      cases h2
    | some ts =>
      rw [termsB_some e2, Bool.and_eq_true, Bool.and_eq_true] at h2
      obtain ⟨b, rfl, nb, hb, hbl, hbx⟩ := ht.items e2
      have es := strs_all h2.2.2
      have ea : atStrs H (.ref a) = ts.filterMap strOf := by
        unfold atStrs
        rw [e]
        show ((K01.tupOf H (.ref b)).getD []).filterMap strOf = _
        rw [e2]
        rfl
      have el : (ts.filterMap strOf).length = ts.length := by
        have := congrArg List.length es
        rw [List.length_map] at this
        exact this.symm
      have l1 := of_decide_eq_true h2.1
      have l2 := of_decide_eq_true h2.2.1
      refine ⟨a, x, b, rfl, ha, by rw [ea, ← es]; exact hb, by rw [ea, el]; omega, by rw [ea, el]; omega, fun z hz => ?_⟩
      rw [ea] at hz
      have hz' : V.str z ∈ ts := by
        rw [es]
        exact List.mem_map_of_mem hz
      refine ⟨?_, ?_⟩
      · obtain ⟨y, ey, hy⟩ := (hbx _ hz').isStr rfl
        cases ey
        exact hy
      · exact List.all_eq_true.mp h2.2.2 _ (List.mem_map_of_mem hz')
  · rw [atomB_not (Bool.eq_false_iff.mpr c)] at h
    cases h
theorem atStrs_keep {fe : Addr} {m n : Nat} {H H' : Hp} {v : V} (hv : Th fe m H n v) (e : Ext fe H H') : atStrs H' v = atStrs H v := by
  unfold atStrs
  rw [hv.tupOf e]
  cases q : K01.tupOf H v with
  | none => rfl
  | some xs =>
    obtain ⟨a, _, _, _, _, hx⟩ := hv.items q
    match xs, hx with
    | [], _ => rfl
    | [_], _ => rfl
    | [x, t], hx =>
      show ((K01.tupOf H' t).getD []).filterMap strOf = ((K01.tupOf H t).getD []).filterMap strOf
      rw [(hx t (by simp)).tupOf e]
    | _ :: _ :: _ :: _, _ => rfl
theorem flatOf_keep {fe : Addr} {m n : Nat} {H H' : Hp} {v : V} (hv : Th fe m H n v) (e : Ext fe H H') : flatOf H' v = flatOf H v := by
  unfold flatOf
  rw [hv.tupOf e]
  cases q : K01.tupOf H v with
  | none => rfl
  | some xs =>
    obtain ⟨a, _, _, _, _, hx⟩ := hv.items q
    show (xs.map (atStrs H')).flatten = (xs.map (atStrs H)).flatten
    rw [List.map_congr_left fun x hx' => atStrs_keep (hx x hx') e]
def spUnks : Sp := fun vs H Q _ => ∃ (f : Addr) (m n : Nat) (v h a : V), vs = [v] ∧ Th f m H n v ∧ m ≤ 1000 ∧ tupOf H v = some [h, a] ∧ atomsB H a = true ∧
  ∀ (r : Addr) (H' : Hp), Same H H' → H r = none → H' r = some (.lst ((unkL (flatOf H a)).map V.str)) → Q (.ref r) H'
theorem sc_unknowns_of : FnScope ["question", "found", "atom", "term"] ["question"] (defScope s_unknowns_of) := ⟨rfl, rfl, rfl, by decide +kernel, rfl, by decide +kernel, by decide +kernel⟩
theorem len_flat4 {l : List (List Str)} (h : ∀ ts ∈ l, ts.length ≤ 4) : l.flatten.length ≤ 4 * l.length := by
  induction l with
  | nil => exact Nat.le_refl _
  | cons a r ih =>
    have h1 := ih fun ts hts => h ts (List.mem_cons_of_mem _ hts)
    have h2 := h a List.mem_cons_self
    rw [List.flatten_cons, List.length_append, List.length_cons]
    omega
theorem ok_unknowns_of {f : Addr} {fd : FuncData} (F : Fun K "unknowns_of" "unknowns_of" s_unknowns_of f fd) (T : Txt K mg) (D : Dt1 P w K mg base) : FnOk P w K mg base CX0 3 f fd ["question"] spUnks := by
  refine F.ok sc_unknowns_of (fun vs H Q E h => ?_) (fun cdv A outer s H vs Q E hr h => ?_)
  · obtain ⟨a, b, c, d, e, g, rfl, _⟩ := h
    rfl
  obtain ⟨fe, m, n, v, hd, av, rfl, hv, hm, e0, hat, k⟩ := h
  obtain ⟨q, rfl, nf, hq, _, hitems⟩ := hv.items e0
  have hav : Th fe m H (n - 1) av := hitems av (by simp)
  cases e1 : tupOf H av with
  | none =>
    rw [atomsB_none e1] at hat
    cases hat
  | some avs =>
  obtain ⟨aa, rfl, nfa, haa, hal, hax⟩ := hav.items e1
  rw [atomsB_some e1, Bool.and_eq_true, Bool.and_eq_true] at hat
  have la := of_decide_eq_true hat.2.1
  have hatom : ∀ x ∈ avs, atomB H x = true := fun x hx => List.all_eq_true.mp hat.2.2 _ (List.mem_map_of_mem hx)
  have hu := hu_of hr
  refine ⟨_, (pss_cons (ps_set (i := 1) sc_unknowns_of.nd rfl (Or.inl rfl) pe_dnewK)
      (pss_cons (ps_for PassesOwn.never rfl (pi_tup (pe_ix ix_tup (pv 0) pe_int (fun _ _ => rfl))) (pg_name (i := 2) sc_unknowns_of.nd rfl (Or.inl rfl))
      (pss_one (ps_for PassesOwn.never rfl (pi_tup (pe_ix ix_tup (pv 2) pe_int (fun _ _ => rfl))) (pg_name (i := 3) sc_unknowns_of.nd rfl (Or.inl rfl))
      (pss_one (ps_if (pt_val (cl D.is_unknown hr (pa_cons (pv 3) pa_nil))) (pss_one (ps_dput hu (pv 1) (pv 3) pe_bl rfl)) pss_nil)))))
      (pss_one (ps_ret (pe_callTy (call_list_dict rfl) rfl T.n_list (by decide +kernel) (pa_cons (pv 1) pa_nil)))))), ?_⟩
  have l4 : ∀ i, (((avs.take i).map (atStrs H)).flatten).length ≤ 4 * 8 := fun i => by
    have h1 := len_flat4 (l := (avs.take i).map (atStrs H)) fun ts hts => by
      obtain ⟨x, hx, rfl⟩ := List.mem_map.mp hts
      have hx' := List.mem_of_mem_take hx
      obtain ⟨_, _, _, _, _, _, h, _⟩ := atom_is (hax x hx') (hatom x hx')
      exact h
    rw [List.length_map, List.length_take] at h1
    omega
  -- found = {}
  intro d hd0
  refine ⟨_, rfl, _, _, _, _, rfl, rfl, SqT.of (same_new hd0 _ _ _ hq), rfl, aa, rfl, ⟨avs, SqT.of (same_new hd0 _ _ _ haa)⟩, for_tup (K := K) (a := aa) (xs := avs)
    (fun i σ H2 => ∃ (x2 x3 : Option V), σ = [some (.ref q), some (.ref d), x2, x3] ∧ Same H H2 ∧ H2 d = some (.dK (keysD (unkL ((avs.take i).map (atStrs H)).flatten)))) ⟨none, none, rfl, same_new hd0 _, upd_same⟩ (fun i σ H2 _ ⟨_, _, _, sm, _⟩ => SqT.of (sm _ _ haa)) ?_ ?_⟩
  · rintro i x σ H2 hx ⟨x2, x3, rfl, sm, hd2⟩
    have hxm := List.mem_of_getElem? hx
    obtain ⟨p, nm, t, rfl, hp, htt, hl4, hl1, hzs⟩ := atom_is (hax x hxm) (hatom x hxm)
    have lf := l4 i
    have eflat : ((avs.take (i + 1)).map (atStrs H)).flatten = ((avs.take i).map (atStrs H)).flatten ++ atStrs H (.ref p) := by
      rw [List.take_add_one, hx]
      simp
    refine ⟨_, rfl, _, _, _, _, rfl, rfl, SqT.of (sm _ _ hp), rfl, t, rfl, ⟨_, SqT.of (sm _ _ htt)⟩, for_tup (K := K) (a := t) (xs := (atStrs H (.ref p)).map V.str)
      (fun j σ H3 => ∃ (x3 : Option V), σ = [some (.ref q), some (.ref d), some (.ref p), x3] ∧ Same H H3 ∧ H3 d = some (.dK (keysD (unkL (((avs.take i).map (atStrs H)).flatten ++ (atStrs H (.ref p)).take j))))) ⟨x3, rfl, sm, by rw [List.take_zero, List.append_nil]; exact hd2⟩ (fun j σ H3 _ ⟨_, _, sm', _⟩ => SqT.of (sm' _ _ htt)) ?_ ?_⟩
    · rintro j y σ H3 hy ⟨x3, rfl, sm3, hd3⟩
      obtain ⟨z, hz, rfl⟩ : ∃ z, (atStrs H (.ref p))[j]? = some z ∧ y = V.str z := by
        rw [List.getElem?_map] at hy
        cases e : (atStrs H (.ref p))[j]? with
        | none => rw [e] at hy; cases hy
        | some z => rw [e] at hy; exact ⟨z, rfl, (Option.some.inj hy).symm⟩
      have hz9 := (hzs z (List.mem_of_getElem? hz)).1
      have hj : j < (atStrs H (.ref p)).length := (List.getElem?_eq_some_iff.mp hz).1
      refine ⟨_, rfl, fe, 0, 1, _, rfl, Th.str hz9, by omega, fun H4 sm4 => ⟨_, rfl, ?_⟩⟩
      have hd4 := sm4 _ _ hd3
      have en : unkL (((avs.take i).map (atStrs H)).flatten ++ (atStrs H (.ref p)).take (j + 1)) = step (unkL (((avs.take i).map (atStrs H)).flatten ++ (atStrs H (.ref p)).take j)) z := by
        rw [List.take_add_one, hz, ← unk_snoc, List.append_assoc]
        rfl
      have lu := len_unk (((avs.take i).map (atStrs H)).flatten ++ (atStrs H (.ref p)).take j)
      rw [List.length_append, List.length_take] at lu
      refine ite2 (fun c1 => ?_) (fun c1 => ?_)
      · have c1 : isUnk z = true := c1
        refine ⟨_, rfl, _, rfl, d, _, rfl, DPut.k (k := Sum.inr z) hd4 (by unfold keysD; rw [List.length_map]; exact small1000 (by omega)), ?_⟩
        refine ⟨_, rfl, fun b u e => ?_, ?_⟩
        · rw [upd_ne (ne_of_none e hd0)]
          exact sm4 _ _ (sm3 _ _ e)
        · rw [upd_same, put_keys, en]
          unfold step
          rw [if_pos c1]
      · have c1 : ¬ isUnk z = true := c1
        refine ⟨_, rfl, sm3.trans sm4, ?_⟩
        rw [en]
        unfold step
        rw [if_neg c1]
        exact hd4
    · rintro σ H3 ⟨x3, rfl, sm3, hd3⟩
      refine ⟨_, _, rfl, sm3, ?_⟩
      rw [List.length_map, List.take_length] at hd3
      rw [eflat]
      exact hd3
  · rintro σ H2 ⟨x2, x3, rfl, sm, hd2⟩
    rw [List.take_length] at hd2
    refine ⟨_, rfl, d, _, rfl, hd2, fun l hl => ?_⟩
    refine k l _ (sm.trans (same_new hl _)) (sm.free hl) ?_
    rw [upd_same, keys_back]
    show some (HO.lst _) = some (HO.lst ((unkL (flatOf H (.ref aa))).map V.str))
    unfold flatOf
    rw [e1]
    rfl
end
end K01

set_option Elab.async false
set_option linter.all false
set_option maxRecDepth 100000
set_option maxHeartbeats 4000000
namespace K01
open PySem PySem.Spec PyProof.Rows L2
seal L2.PE L2.PT L2.PW L2.PA L2.PS L2.PSs L2.PI L2.PO L2.PPs L2.PG L2.PGs
/-! ## questions as tuples -/
/-- tuples stay -/
def Tups (H H' : Hp) : Prop := ∀ b xs, H b = some (.tup xs) → H' b = some (.tup xs)
theorem Tups.trans {H H1 H2 : Hp} (a : Tups H H1) (b : Tups H1 H2) : Tups H H2 := fun c xs h => b c xs (a c xs h)
theorem Tups.of {H H' : Hp} (a : Same H H') : Tups H H' := fun c xs h => a c _ h
theorem Tups.refl (H : Hp) : Tups H H := fun _ _ h => h
theorem Tups.new {H H1 : Hp} {p : Addr} (a : Tups H H1) (h : H1 p = none) (o : HO) : Tups H (upd H1 p o) := fun b xs q => by
  rw [upd_ne (ne_of_none (a b xs q) h)]
  exact a b xs q
theorem Tups.lst {H H1 : Hp} {p : Addr} {ys : List V} (a : Tups H H1) (h : H1 p = some (.lst ys)) (o : HO) : Tups H (upd H1 p o) := fun b xs q => by
  rw [upd_ne (ne_of (a b xs q) h fun z => by cases z)]
  exact a b xs q
theorem Tups.ext {f : Addr} {H H1 : Hp} {ys : List V} (hf : H f = some (.lst ys)) (a : Ext f H H1) : Tups H H1 := fun b xs q => a b _ (ne_of q hf fun z => by cases z) q
theorem Feed.tups {K : PySem.W.Frag} {f : Addr} {H H1 : Hp} (h : Feed K f H) (a : Ext f H H1) : Tups H H1 := by
  obtain ⟨_, _, _, hf⟩ := h
  exact Tups.ext hf a
/-- an atom of these terms stands at v -/
def AtomAt (H : Hp) (v : V) (a : Str × List Str) : Prop := ∃ (p t : Addr), v = .ref p ∧ H p = some (.tup [.str a.1, .ref t]) ∧ H t = some (.tup (a.2.map V.str))
abbrev AtomsAt (H : Hp) : List V → List (Str × List Str) → Prop := Paired (AtomAt H)
theorem AtomAt.keep {H H' : Hp} {v : V} {b : Str × List Str} (a : Tups H H') (h : AtomAt H v b) : AtomAt H' v b := by
  obtain ⟨p, t, e, h1, h2⟩ := h
  exact ⟨p, t, e, a _ _ h1, a _ _ h2⟩
theorem AtomsAt.keep {H H' : Hp} (a : Tups H H') {vs : List V} {ats : List (Str × List Str)} (h : AtomsAt H vs ats) : AtomsAt H' vs ats := Paired.imp' (fun _ _ q => q.keep a) h
/-- a question of this head and these atoms stands at v -/
def QAt (H : Hp) (v : V) (hz : List Str) (ats : List (Str × List Str)) : Prop := ∃ (q h a : Addr) (vs : List V), v = .ref q ∧ H q = some (.tup [.ref h, .ref a]) ∧ H h = some (.tup (hz.map V.str)) ∧ H a = some (.tup vs) ∧ AtomsAt H vs ats
theorem QAt.keep {H H' : Hp} {v : V} {hz : List Str} {ats : List (Str × List Str)} (t : Tups H H') (x : QAt H v hz ats) : QAt H' v hz ats := by
  obtain ⟨q, h, a, vs, e, h1, h2, h3, h4⟩ := x
  exact ⟨q, h, a, vs, e, t _ _ h1, t _ _ h2, t _ _ h3, AtomsAt.keep t h4⟩
theorem Paired.snoc' {α β : Type} {F : α → β → Prop} {l₁ : List α} {l₂ : List β} {a : α} {b : β} (h : Paired F l₁ l₂) (q : F a b) : Paired F (l₁ ++ [a]) (l₂ ++ [b]) := h.snoc q
theorem Paired.app {α β : Type} {F : α → β → Prop} : ∀ {l₁ m₁ : List α} {l₂ m₂ : List β}, Paired F l₁ l₂ → Paired F m₁ m₂ → Paired F (l₁ ++ m₁) (l₂ ++ m₂)
  | _, _, _, _, .nil, h => h
  | _, _, _, _, .cons a t, h => .cons a (Paired.app t h)
theorem Paired.at {α β : Type} {F : α → β → Prop} : ∀ {l₁ : List α} {l₂ : List β} {i : Nat} {x : α}, Paired F l₁ l₂ → l₁[i]? = some x → ∃ y, l₂[i]? = some y ∧ F x y
  | _, _, _, _, .nil, e => by simp at e
  | _, _, 0, _, .cons r _, e => by simp at e; subst e; exact ⟨_, rfl, r⟩
  | _, _, i + 1, x, .cons _ t, e => by
    obtain ⟨y, h1, h2⟩ := Paired.at (i := i) (x := x) t (by simpa using e)
    exact ⟨y, by simpa using h1, h2⟩
/-- texts only -/
theorem strs_of {texts : List Str} : ∀ {ys : List V}, (∀ y ∈ ys, y ∈ texts.map V.str) → ∃ zs : List Str, ys = zs.map V.str ∧ ∀ z ∈ zs, z ∈ texts
  | [], _ => ⟨[], rfl, fun _ h => by cases h⟩
  | y :: r, h => by
    obtain ⟨zs, e, hz⟩ := strs_of (ys := r) fun y hy => h y (List.mem_cons_of_mem _ hy)
    obtain ⟨z, hz1, e1⟩ := List.mem_map.mp (h y List.mem_cons_self)
    refine ⟨z :: zs, by rw [List.map_cons, e1, ← e], fun w hw => ?_⟩
    rcases List.mem_cons.mp hw with rfl | hw
    · exact hz1
    · exact hz w hw
def flatA (ats : List (Str × List Str)) : List Str := (ats.map (·.2)).flatten
theorem flatA_snoc (l : List (Str × List Str)) (a : Str × List Str) : flatA (l ++ [a]) = flatA l ++ a.2 := by
  unfold flatA
  rw [List.map_append, List.flatten_append]
  simp
theorem flatA_take {ats : List (Str × List Str)} {i : Nat} {a : Str × List Str} (h : ats[i]? = some a) : flatA (ats.take (i + 1)) = flatA (ats.take i) ++ a.2 := by
  rw [List.take_add_one, h]
  exact flatA_snoc _ _
theorem pick_str {zs : List Str} {i : Int} (h0 : 0 ≤ i) (h1 : i < (zs.length : Int)) : ∃ z, z ∈ zs ∧ atI (zs.map V.str) i = some (.str z) := by
  obtain ⟨z, hz⟩ : ∃ z, zs[i.toNat]? = some z := ⟨_, List.getElem?_eq_getElem (by omega)⟩
  refine ⟨z, List.mem_of_getElem? hz, ?_⟩
  have e : i = ((i.toNat : Nat) : Int) := by omega
  rw [e]
  exact atI_nat (by rw [List.getElem?_map, hz]; rfl)
theorem len_all : ∀ l : List (Str × List Str), (∀ a ∈ l, a.2.length ≤ 4) → (flatA l).length ≤ 4 * l.length
  | [], _ => Nat.le_refl _
  | a :: r, q => by
    have h1 := len_all r fun ts hts => q ts (List.mem_cons_of_mem _ hts)
    have h2 := q a List.mem_cons_self
    show (a.2 ++ flatA r).length ≤ _
    rw [List.length_append, List.length_cons]
    omega
theorem flatA_mem {ats : List (Str × List Str)} {z : Str} : z ∈ flatA ats ↔ ∃ a ∈ ats, z ∈ a.2 := by
  unfold flatA
  rw [List.mem_flatten]
  constructor
  · rintro ⟨l, h1, h2⟩
    obtain ⟨a, ha, rfl⟩ := List.mem_map.mp h1
    exact ⟨a, ha, h2⟩
  · rintro ⟨a, ha, h⟩
    exact ⟨a.2, List.mem_map_of_mem ha, h⟩
/-! ## drawn atoms, heads, questions -/
def uWord (z : Str) : Str := ("?" : Str) ++ z
def unkPool : List Str := wordsPool.map uWord
def spAtomD (K : PySem.W.Frag) : Sp := fun vs H Q _ => ∃ (f nl ul vl : Addr) (nms us ws : List Str), vs = [.ref f, .ref nl, .ref ul, .ref vl] ∧ Feed K f H ∧ (nl ≠ f ∧ ul ≠ f ∧ vl ≠ f) ∧ (H nl = some (.lst (nms.map V.str)) ∧ 1 ≤ nms.length ∧ nms.length ≤ 100) ∧
  (H ul = some (.lst (us.map V.str)) ∧ 1 ≤ us.length ∧ us.length ≤ 100) ∧ (H vl = some (.lst (ws.map V.str)) ∧ 1 ≤ ws.length ∧ ws.length ≤ 100) ∧
  ∀ (r : Addr) (a : Str × List Str) (H' : Hp), Feed K f H' → Ext f H H' → AtomAt H' (.ref r) a → a.1 ∈ nms → 1 ≤ a.2.length → a.2.length ≤ 4 → (∀ z ∈ a.2, z ∈ us ∨ z ∈ ws) → Q (.ref r) H'
section
variable {P : Program} {w : World} {K : PySem.W.Frag} {mg : Str → Option Value} {base : Heap}
theorem long3 {i : Int} (h0 : 0 ≤ i) : ∃ n : Int, atI [V.int 2, V.int 1, V.int 3] (i % 3) = some (.int n) ∧ 1 ≤ n ∧ n ≤ 4 := by
  have h1 := Int.emod_nonneg i (show (3 : Int) ≠ 0 by decide)
  have h2 := Int.emod_lt_of_pos i (show (0 : Int) < 3 by decide)
  generalize i % 3 = j at h1 h2
  have c : j = 0 ∨ j = 1 ∨ j = 2 := by omega
  rcases c with rfl | rfl | rfl
  · exact ⟨2, rfl, by decide, by decide⟩
  · exact ⟨1, rfl, by decide, by decide⟩
  · exact ⟨3, rfl, by decide, by decide⟩
theorem sc_l_atom : FnScope ["_law_feed_here", "_law_names", "_law_unknowns_here", "_law_values", "_law_at", "_law_long", "_law_terms", "_law_k", "_law_term"] ["_law_feed_here", "_law_names", "_law_unknowns_here", "_law_values"] (defScope s_l_atom) := ⟨rfl, rfl, rfl, by decide +kernel, rfl, by decide +kernel, by decide +kernel⟩
theorem ok_atomD {f : Addr} {fd : FuncData} (F : Fun K "_law_atom" "_law_atom" s_l_atom f fd) (T : Txt K mg) (D : Dr P w K mg base) : FnOk P w K mg base CX0 2 f fd ["_law_feed_here", "_law_names", "_law_unknowns_here", "_law_values"] (spAtomD K) := by
  refine F.ok sc_l_atom (fun vs H Q E h => ?_) (fun cdv A outer s H vs Q E hr h => ?_)
  · obtain ⟨a, b, c, d, e, g, i, rfl, _⟩ := h
    rfl
  obtain ⟨fe, nl, ul, vl, nms, us, ws, rfl, hF, ⟨nnl, nul, nvl⟩, ⟨hnl, hn1, hn2⟩, ⟨hul, hu1, hu2⟩, ⟨hvl, hv1, hv2⟩, k⟩ := h
  have ln : (nms.map V.str).length = nms.length := List.length_map _
  have lu : (us.map V.str).length = us.length := List.length_map _
  have lv : (ws.map V.str).length = ws.length := List.length_map _
  refine cut 3 (fun σ H2 => ∃ (at' lg : Int) (x6 x7 x8 : Option V), σ = [some (.ref fe), some (.ref nl), some (.ref ul), some (.ref vl), some (.int at'), some (.int lg), none, none, none] ∧ 0 ≤ at' ∧ at' < (nms.length : Int) ∧ 1 ≤ lg ∧ lg ≤ 4 ∧ Feed K fe H2 ∧ Ext fe H H2)
    ⟨_, (pss_cons (ps_set (i := 6) sc_l_atom.nd rfl (Or.inl rfl) (pe_lst pa_nil))
      (pss_cons (ps_for PassesOwn.never rfl (pi_range1 rfl T.n_range (pa_cons (pv 5) pa_nil)) (pg_name (i := 7) sc_l_atom.nd rfl (Or.inl rfl))
      (pss_cons (ps_set (i := 8) sc_l_atom.nd rfl (Or.inl rfl) (pe_ix ix_list (pv 2) (cl D.l_draw hr (pa_cons (pv 0) (pa_cons (pe_callB call_len rfl T.n_len PySem.boot_len (pa_cons (pv 2) pa_nil)) pa_nil))) (fun _ _ => rfl)))
      (pss_cons (ps_if (pt_cmpR op_eq (cl D.l_draw hr (pa_cons (pv 0) (pa_cons pe_int pa_nil))) pe_int (nomark _)) (pss_one (ps_set (i := 8) sc_l_atom.nd rfl (Or.inl rfl) (pe_ix ix_list (pv 3) (cl D.l_draw hr (pa_cons (pv 0) (pa_cons (pe_callB call_len rfl T.n_len PySem.boot_len (pa_cons (pv 3) pa_nil)) pa_nil))) (fun _ _ => rfl)))) pss_nil)
      (pss_one (ps_expr (pe_bm PySem.F.plainAttrs_list PySem.F.slot_list_append PySem.F.type_list_append mt_append (pv 6) (pa_cons (pv 8) pa_nil)))))))
      (pss_one (ps_ret (pe_tup (pa_cons (pe_ix ix_list (pv 1) (pv 4) (fun _ _ => rfl)) (pa_cons (pe_callTy call_tuple_of rfl T.n_tuple (by decide +kernel) (pa_cons (pv 6) pa_nil)) pa_nil))))))), ?_⟩ (fun t2 ht => ⟨_, (pss_cons (ps_set (i := 4) sc_l_atom.nd rfl (Or.inl rfl) (cl D.l_draw hr (pa_cons (pv 0) (pa_cons (pe_callB call_len rfl T.n_len PySem.boot_len (pa_cons (pv 1) pa_nil)) pa_nil))))
      (pss_cons (ps_set (i := 5) sc_l_atom.nd rfl (Or.inl rfl) (pe_ix ix_list (pe_lst (pa_cons pe_int (pa_cons pe_int (pa_cons pe_int pa_nil)))) (pe_op op_mod (pv 4) pe_int) (fun _ _ => rfl)))
      (pss_cons (ps_if (pt_cmpR op_eq (cl D.l_draw hr (pa_cons (pv 0) (pa_cons pe_int pa_nil))) pe_int (nomark _)) (pss_one (ps_set (i := 5) sc_l_atom.nd rfl (Or.inl rfl) (pe_op op_add pe_int (cl D.l_draw hr (pa_cons (pv 0) (pa_cons pe_int pa_nil)))))) pss_nil) ht))), fun tl => ?_⟩)
  · rintro σ H2 ⟨at', lg, _, _, _, rfl, a0, a1, l0, l1, hF2, ex2⟩
    -- terms = []
    refine ⟨(by show 0 ≤ sizeLine; decide), fun t ht => ?_⟩
    have nt := hF2.nef ht
    have ht0 : H t = none := ex2.none nt ht
    refine ⟨_, rfl, lg, rfl, by omega, by omega, for_range (lo := 0) (n := lg.toNat)
      (fun j σ H3 => ∃ (y7 y8 : Option V) (ts : List Str), σ = [some (.ref fe), some (.ref nl), some (.ref ul), some (.ref vl), some (.int at'), some (.int lg), some (.ref t), y7, y8] ∧ Feed K fe H3 ∧ Ext fe H H3 ∧ H3 t = some (.lst (ts.map V.str)) ∧ ts.length = j ∧ ∀ z ∈ ts, z ∈ us ∨ z ∈ ws)
      ⟨none, none, [], rfl, hF2.new ht _, ex2.new ht _, upd_same, rfl, fun z h => by cases h⟩ ?_ ?_⟩
    · rintro j σ H3 hj ⟨y7, y8, ts, rfl, hF3, ex3, ht3, hlt, hts⟩
      -- term = unknowns[draw(feed, len(unknowns))]
      refine ⟨_, rfl, _, rfl, _, rfl, _, _, rfl, .inl ⟨_, SqL.of (ex3 _ _ nul hul), rfl⟩, fe, _, rfl, hF3, by omega, by omega, fun i4 H4 i0 i1 hF4 ex4 => ?_⟩
      have ex4' := ex3.trans ex4
      obtain ⟨z, hz, ev⟩ := pick_str (zs := us) i0 (by omega)
      refine ⟨_, _, _, _, rfl, rfl, SqL.of (ex4' _ _ nul hul), ev, ?_⟩
      have ht4 := ex4 _ _ nt ht3
      -- if draw(feed, 6) == 0
      refine ⟨_, rfl, fe, 6, rfl, hF4, by decide, by decide, fun i5 H5 j0 j1 hF5 ex5 => ⟨rfl, _, rfl, ?_⟩⟩
      have ex5' := ex4'.trans ex5
      have ht5 := ex5 _ _ nt ht4
      refine ite2 (fun c => ?_) (fun c => ?_)
      · refine ⟨_, rfl, _, rfl, _, rfl, _, _, rfl, .inl ⟨_, SqL.of (ex5' _ _ nvl hvl), rfl⟩, fe, _, rfl, hF5, by omega, by omega, fun i6 H6 k0 k1 hF6 ex6 => ?_⟩
        obtain ⟨y, hy, ev6⟩ := pick_str (zs := ws) k0 (by omega)
        have ht6 := ex6 _ _ nt ht5
        refine ⟨_, _, _, _, rfl, rfl, SqL.of ((ex5'.trans ex6) _ _ nvl hvl), ev6, ?_⟩
        refine ⟨_, rfl, .inl ⟨rfl, _, SqL.of ht6⟩, _, rfl, _, _, _, rfl, rfl, ht6, by rw [List.length_map]; exact small1000 (by omega), ?_⟩
        refine ⟨_, _, ts ++ [y], rfl, hF6.lst ht6 nt _, (ex5'.trans ex6).own ht0 _, by rw [upd_same, List.map_append]; rfl, by rw [List.length_append, hlt]; rfl, fun z' h => ?_⟩
        rcases List.mem_append.mp h with q | q
        · exact hts z' q
        · rw [List.mem_singleton.mp q]
          exact .inr hy
      · refine ⟨_, rfl, .inl ⟨rfl, _, SqL.of ht5⟩, _, rfl, _, _, _, rfl, rfl, ht5, by rw [List.length_map]; exact small1000 (by omega), ?_⟩
        refine ⟨_, _, ts ++ [z], rfl, hF5.lst ht5 nt _, ex5'.own ht0 _, by rw [upd_same, List.map_append]; rfl, by rw [List.length_append, hlt]; rfl, fun z' h => ?_⟩
        rcases List.mem_append.mp h with q | q
        · exact hts z' q
        · rw [List.mem_singleton.mp q]
          exact .inl hz
    · rintro σ H3 ⟨y7, y8, ts, rfl, hF3, ex3, ht3, hlt, hts⟩
      obtain ⟨z, hz, ev⟩ := pick_str (zs := nms) a0 (by omega)
      refine ⟨_, rfl, _, rfl, _, _, _, _, rfl, rfl, SqL.of (ex3 _ _ nnl hnl), ev, ?_⟩
      refine ⟨_, rfl, t, _, rfl, .inl ⟨SqL.of ht3, fun tt htt => ?_⟩⟩
      refine ⟨(by show 2 ≤ sizeLine; decide), fun ap hap => ?_⟩
      have hFa := (hF3.new htt (.tup (ts.map V.str))).new hap (.tup [.str z, .ref tt])
      have nta : tt ≠ ap := fun e => by rw [← e, upd_same] at hap; cases hap
      exact k ap (z, ts) _ hFa ((ex3.new htt _).new hap _) ⟨ap, tt, rfl, upd_same, by rw [upd_ne nta, upd_same]⟩ hz (by show 1 ≤ ts.length; omega) (by show ts.length ≤ 4; omega) hts
  · -- at, long
    refine ⟨_, rfl, _, rfl, _, _, rfl, .inl ⟨_, SqL.of hnl, rfl⟩, fe, _, rfl, hF, by omega, by omega, fun i1 H1 a0 a1 hF1 ex1 => ?_⟩
    refine ⟨(by show 3 ≤ sizeLine; decide), fun p hp => ?_⟩
    obtain ⟨lg, ev, l0, l1⟩ := long3 a0
    refine ⟨_, rfl, _, _, rfl, rfl, (by show (0 : Int) < 3; decide), _, _, _, _, rfl, rfl, SqL.of upd_same, ev, ?_⟩
    have hF2 := hF1.new hp (.lst [.int 2, .int 1, .int 3])
    have ex2 := ex1.new hp (.lst [.int 2, .int 1, .int 3])
    refine ⟨_, rfl, fe, 8, rfl, hF2, by decide, by decide, fun i3 H3 c0 c1 hF3 ex3 => ⟨rfl, _, rfl, ?_⟩⟩
    refine ite2 (fun c => ?_) (fun c => ?_)
    · refine ⟨_, rfl, fe, 4, rfl, hF3, by decide, by decide, fun i4 H4 d0 d1 hF4 ex4 => ⟨_, _, rfl, rfl, ?_⟩⟩
      exact tl _ _ ⟨i1, _, none, none, none, rfl, a0, by omega, by omega, by omega, hF4, (ex2.trans ex3).trans ex4⟩
    · exact tl _ _ ⟨i1, lg, none, none, none, rfl, a0, by omega, l0, l1, hF3, ex2.trans ex3⟩
/-! heads -/
def spHeadD (K : PySem.W.Frag) : Sp := fun vs H Q _ => ∃ (f al : Addr) (avs : List V) (ats : List (Str × List Str)), vs = [.ref f, .ref al] ∧ Feed K f H ∧ al ≠ f ∧ H al = some (.lst avs) ∧ AtomsAt H avs ats ∧ 1 ≤ ats.length ∧ ats.length ≤ 100 ∧ (∀ a ∈ ats, 1 ≤ a.2.length ∧ a.2.length ≤ 4) ∧
  ∀ (r : Addr) (hz : List Str) (H' : Hp), Feed K f H' → Ext f H H' → H' r = some (.tup (hz.map V.str)) → hz.length ≤ 4 → (∀ z ∈ hz, z ∈ flatA ats) → Q (.ref r) H'
theorem sc_l_head : FnScope ["_law_feed_here", "_law_atoms", "_law_terms", "_law_name", "_law_some"] ["_law_feed_here", "_law_atoms"] (defScope s_l_head) := ⟨rfl, rfl, rfl, by decide +kernel, rfl, by decide +kernel, by decide +kernel⟩
theorem flat_pos : ∀ {ats : List (Str × List Str)}, 1 ≤ ats.length → (∀ a ∈ ats, 1 ≤ a.2.length ∧ a.2.length ≤ 4) → 1 ≤ (flatA ats).length
  | [], h, _ => absurd h (by decide)
  | a :: r, _, g => by
    have := (g a List.mem_cons_self).1
    show 1 ≤ (a.2 ++ flatA r).length
    rw [List.length_append]
    omega
theorem ok_headD {f : Addr} {fd : FuncData} (F : Fun K "_law_head" "_law_head" s_l_head f fd) (T : Txt K mg) (D : Dr P w K mg base) : FnOk P w K mg base CX0 2 f fd ["_law_feed_here", "_law_atoms"] (spHeadD K) := by
  refine F.ok sc_l_head (fun vs H Q E h => ?_) (fun cdv A outer s H vs Q E hr h => ?_)
  · obtain ⟨a, b, c, d, rfl, _⟩ := h
    rfl
  obtain ⟨fe, al, avs, ats, rfl, hF, nal, hal, hats, hl1, hl2, hg, k⟩ := h
  refine ⟨_, (pss_cons (ps_set (i := 2) sc_l_head.nd rfl (Or.inr rfl) (pe_lst pa_nil))
      (pss_cons (ps_for PassesOwn.never rfl (pi_list (pv 1)) (pg_tup rfl (pgs_cons (pg_name (i := 3) sc_l_head.nd rfl (Or.inl rfl)) (pgs_cons (pg_name (i := 4) sc_l_head.nd rfl (Or.inl rfl)) pgs_nil)))
      (pss_one (ps_expr (pe_bm PySem.F.plainAttrs_list PySem.F.slot_list_extend PySem.F.type_list_extend mt_extendT (pv 2) (pa_cons (pv 4) pa_nil)))))
      (pss_one (ps_ret (pe_callTy call_tuple_of rfl T.n_tuple (by decide +kernel) (pa_cons (pe_comp rfl (compSc_mk (fs := ["_law_terms", "_law_feed_here"]) (fr := [2, 0])) (pi_range1 rfl T.n_range (pa_cons (cl D.l_draw hr (pa_cons (pv 0) (pa_cons pe_int pa_nil))) pa_nil)) (fun _ _ _ _ => (pe_ix (ix_listK (K := K)) (pv 1) (cl D.l_draw hr (pa_cons (pv 2) (pa_cons (pe_callB (call_lenK (K := K)) rfl T.n_len PySem.boot_len (pa_cons (pv 1) pa_nil)) pa_nil))) (fun _ _ => rfl)))) pa_nil)))))), ?_⟩
  have la : avs.length = ats.length := Paired.length hats
  refine ⟨(by show 0 ≤ sizeLine; decide), fun t ht => ?_⟩
  have nt := hF.nef ht
  have nta : al ≠ t := ne_of_none hal ht
  have fl : ∀ n, (flatA (ats.take n)).length ≤ 4 * ats.length := fun n => by
    have h1 := len_all (ats.take n) fun a ha => (hg a (List.mem_of_mem_take ha)).2
    have h2 : (ats.take n).length ≤ ats.length := by rw [List.length_take]; omega
    omega
  refine ⟨_, rfl, al, rfl, ⟨avs, SqL.of (by rw [upd_ne nta]; exact hal)⟩, for_list (K := K) (a := al) (xs := avs)
    (fun i σ H2 => ∃ (x3 x4 : Option V), σ = [some (.ref fe), some (.ref al), some (.ref t), x3, x4] ∧ Feed K fe H2 ∧ Ext fe H H2 ∧ H2 t = some (.lst ((flatA (ats.take i)).map V.str))) ⟨none, none, rfl, hF.new ht _, (Ext.refl fe H).new ht _, upd_same⟩ (fun i σ H2 _ ⟨_, _, _, _, ex, _⟩ => SqL.of (ex _ _ nal hal)) ?_ ?_⟩
  · rintro i x σ H2 hx ⟨x3, x4, rfl, hF2, ex2, ht2⟩
    obtain ⟨a, hta, p, tt, rfl, hp, htt⟩ := Paired.at hats hx
    have g := hg a (List.mem_of_getElem? hta)
    have hi : i < ats.length := (List.getElem?_eq_some_iff.mp hta).1
    have tu := hF.tups ex2
    have lf := fl i
    refine ⟨p, _, rfl, SqT.of (tu _ _ hp), rfl, _, _, rfl, _, _, rfl, rfl, ?_⟩
    refine ⟨_, rfl, .inl ⟨rfl, _, SqL.of ht2⟩, _, rfl, _, _, _, _, rfl, rfl, ht2, SqT.of (tu _ _ htt), ?_, ?_⟩
    · rw [List.length_map, List.length_map]
      exact Nat.le_of_lt (small1000 (by omega))
    · refine ⟨_, _, rfl, hF2.lst ht2 nt _, ex2.own ht _, ?_⟩
      rw [upd_same, flatA_take hta, List.map_append]
  · rintro σ H2 ⟨x3, x4, rfl, hF2, ex2, ht2⟩
    rw [la, List.take_length] at ht2
    have lf := fl ats.length
    rw [List.take_length] at lf
    have lp := flat_pos hl1 hg
    refine ⟨_, rfl, fe, 5, rfl, hF2, by decide, by decide, fun n H3 n0 n1 hF3 ex3 => ?_⟩
    have ht3 := ex3 _ _ nt ht2
    refine ⟨n, rfl, by omega, by omega, fun j m ys H4 => j ≤ n.toNat ∧ m = n.toNat - j ∧ Feed K fe H4 ∧ Ext fe H3 H4 ∧ ∃ hz : List Str, ys = hz.map V.str ∧ hz.length = j ∧ ∀ z ∈ hz, z ∈ flatA ats, ⟨_, Nat.zero_le _, rfl, hF3, Ext.refl _ _, [], rfl, rfl, fun z h => by cases h⟩, ?_⟩
    rintro j m ys H4 ⟨hj, rfl, hF4, ex4, hz, rfl, hlz, hzz⟩
    have ly : (hz.map V.str).length = j := by rw [List.length_map, hlz]
    have ht4 := ex4 _ _ nt ht3
    have lt4 : ((flatA ats).map V.str).length = (flatA ats).length := List.length_map _
    by_cases hlt : j < n.toNat
    · refine .inr ⟨hlt, by rw [ly]; exact small1000 (by omega), ?_⟩
      rintro v H5 ⟨rfl, rfl⟩
      refine rd_true ?_
      refine ⟨_, rfl, _, rfl, _, rfl, _, _, rfl, .inl ⟨_, SqL.of ht4, rfl⟩, fe, _, rfl, hF4, by omega, by omega, fun i6 H6 k0 k1 hF6 ex6 => ?_⟩
      obtain ⟨z, hzm, ev⟩ := pick_str (zs := flatA ats) k0 (by omega)
      refine ⟨_, _, _, _, rfl, rfl, SqL.of (ex6 _ _ nt ht4), ev, ?_⟩
      refine ⟨n.toNat - (j + 1), by omega, hlt, rfl, hF6, ex4.trans ex6, hz ++ [z], by rw [List.map_append]; rfl, by rw [List.length_append, hlz]; rfl, fun z' h => ?_⟩
      rcases List.mem_append.mp h with q | q
      · exact hzz z' q
      · rw [List.mem_singleton.mp q]
        exact hzm
    · refine .inl ⟨by show n.toNat ≤ j; omega, by rw [ly]; exact Nat.le_of_lt (small1000 (by omega)), fun l hl => ?_⟩
      refine ⟨l, _, rfl, .inl ⟨SqL.of upd_same, fun tp htp => ?_⟩⟩
      exact k tp hz _ ((hF4.new hl _).new htp _) ((((ex2.trans ex3).trans ex4).new hl _).new htp _) upd_same (by omega) hzz
/-! questions -/
def GoodW (nms : List Str) (ats : List (Str × List Str)) : Prop := ∀ a ∈ ats, a.1 ∈ nms ∧ 1 ≤ a.2.length ∧ a.2.length ≤ 4 ∧ ∀ z ∈ a.2, z ∈ unkPool ∨ z ∈ wordsPool
def spQuestionD (K : PySem.W.Frag) : Sp := fun vs H Q _ => ∃ (f nl : Addr) (most : Int) (nms : List Str), vs = [.ref f, .ref nl, .int most] ∧ Feed K f H ∧ nl ≠ f ∧ (H nl = some (.lst (nms.map V.str)) ∧ 1 ≤ nms.length ∧ nms.length ≤ 100) ∧ 1 ≤ most ∧ most ≤ 20 ∧
  ∀ (r : Addr) (hz : List Str) (ats : List (Str × List Str)) (H' : Hp), Feed K f H' → Ext f H H' → QAt H' (.ref r) hz ats → 1 ≤ ats.length → (ats.length : Int) ≤ 2 * most → GoodW nms ats → hz.length ≤ 4 → (∀ z ∈ hz, z ∈ flatA ats) → Q (.ref r) H'
structure Dr2 (P : Program) (w : World) (K : PySem.W.Frag) (mg : Str → Option Value) (base : Heap) : Prop extends Dr P w K mg base where
  l_words : DefOk P w K mg base 2 "_law_words" ["_law_feed_here", "_law_many"] (spWords K)
  l_atom : DefOk P w K mg base 2 "_law_atom" ["_law_feed_here", "_law_names", "_law_unknowns_here", "_law_values"] (spAtomD K)
  l_head : DefOk P w K mg base 2 "_law_head" ["_law_feed_here", "_law_atoms"] (spHeadD K)
theorem sc_l_question : FnScope ["_law_feed_here", "_law_names", "_law_most", "_law_unknowns_here", "_law_values", "_law_many", "_law_atoms"] ["_law_feed_here", "_law_names", "_law_most"] (defScope s_l_question) := ⟨rfl, rfl, rfl, by decide +kernel, rfl, by decide +kernel, by decide +kernel⟩
theorem word_len : (wordsPool.all fun z => decide (z.length ≤ 8)) = true := by decide +kernel
theorem q_len : ("?" : Str).length = 1 := by decide +kernel
theorem ok_questionD {f : Addr} {fd : FuncData} (F : Fun K "_law_question" "_law_question" s_l_question f fd) (T : Txt K mg) (D : Dr2 P w K mg base) : FnOk P w K mg base CX0 3 f fd ["_law_feed_here", "_law_names", "_law_most"] (spQuestionD K) := by
  refine F.ok sc_l_question (fun vs H Q E h => ?_) (fun cdv A outer s H vs Q E hr h => ?_)
  · obtain ⟨a, b, c, d, rfl, _⟩ := h
    rfl
  obtain ⟨fe, nl, most, nms, rfl, hF, nnl, ⟨hnl, hn1, hn2⟩, hm1, hm2, k⟩ := h
  have big : 10000 ≤ sizeLine := by rw [sizeLine_eq]; decide
  refine cut 4 (fun σ H2 => ∃ (ul vl : Addr) (us ws : List Str) (many : Int), σ = [some (.ref fe), some (.ref nl), some (.int most), some (.ref ul), some (.ref vl), some (.int many), none] ∧ (ul ≠ fe ∧ vl ≠ fe) ∧ (H2 ul = some (.lst (us.map V.str)) ∧ 1 ≤ us.length ∧ us.length ≤ 100) ∧ (H2 vl = some (.lst (ws.map V.str)) ∧ 1 ≤ ws.length ∧ ws.length ≤ 100) ∧ (∀ z ∈ us, z ∈ unkPool) ∧ (∀ z ∈ ws, z ∈ wordsPool) ∧ 1 ≤ many ∧ many ≤ 2 * most ∧ Feed K fe H2 ∧ Ext fe H H2)
    ⟨_, (pss_cons (ps_setComp (j := 6) sc_l_question.nd rfl rfl rfl (compSc_mk (fs := ["_law_feed_here", "_law_names", "_law_unknowns_here", "_law_values"]) (fr := [0, 1, 3, 4])) (pi_range1 rfl T.n_range (pa_cons (pv 5) pa_nil)) (fun _ _ _ _ => (cl D.l_atom hr (pa_cons (pv 1) (pa_cons (pv 2) (pa_cons (pv 3) (pa_cons (pv 4) pa_nil)))))))
      (pss_one (ps_ret (pe_tup (pa_cons (cl D.l_head hr (pa_cons (pv 0) (pa_cons (pv 6) pa_nil))) (pa_cons (pe_callTy call_tuple_of rfl T.n_tuple (by decide +kernel) (pa_cons (pv 6) pa_nil)) pa_nil)))))), ?_⟩ (fun t2 ht => ⟨_, (pss_cons (ps_set (i := 3) sc_l_question.nd rfl (Or.inr rfl) (pe_comp rfl (compSc_mk (fs := []) (fr := [])) (pi_list (cl D.l_words hr (pa_cons (pv 0) (pa_cons (pe_op op_add pe_int (cl D.l_draw hr (pa_cons (pv 0) (pa_cons pe_int pa_nil)))) pa_nil)))) (fun _ _ _ _ => (pe_op op_add_str pe_str (pv 0)))))
      (pss_cons (ps_set (i := 4) sc_l_question.nd rfl (Or.inr rfl) (cl D.l_words hr (pa_cons (pv 0) (pa_cons pe_int pa_nil))))
      (pss_cons (ps_set (i := 5) sc_l_question.nd rfl (Or.inl rfl) (pe_op op_add pe_int (cl D.l_draw hr (pa_cons (pv 0) (pa_cons (pv 2) pa_nil)))))
      (pss_cons (ps_if (pt_cmpR op_eq (cl D.l_draw hr (pa_cons (pv 0) (pa_cons pe_int pa_nil))) pe_int (nomark _)) (pss_one (ps_set (i := 5) sc_l_question.nd rfl (Or.inl rfl) (pe_op op_add (pv 2) (cl D.l_draw hr (pa_cons (pv 0) (pa_cons (pe_op op_add (pv 2) pe_int) pa_nil)))))) pss_nil) ht)))), fun tl => ?_⟩)
  · rintro σ H2 ⟨ul, vl, us, ws, many, rfl, ⟨nul, nvl⟩, ⟨hul, hu1, hu2⟩, ⟨hvl, hv1, hv2⟩, huw, hww, m1, m2, hF2, ex2⟩
    refine ⟨_, rfl, many, rfl, by omega, by omega, fun j m ys H4 => j ≤ many.toNat ∧ m = many.toNat - j ∧ Feed K fe H4 ∧ Ext fe H2 H4 ∧ ∃ ats : List (Str × List Str), AtomsAt H4 ys ats ∧ ats.length = j ∧ GoodW nms ats, ⟨_, Nat.zero_le _, rfl, hF2, Ext.refl _ _, [], .nil, rfl, fun a h => by cases h⟩, ?_⟩
    rintro j m ys H4 ⟨hj, rfl, hF4, ex4, ats, hats, hla, hg⟩
    have ly : ys.length = j := by rw [← hla]; exact Paired.length hats
    by_cases hlt : j < many.toNat
    · refine .inr ⟨hlt, by rw [ly]; exact small1000 (by omega), ?_⟩
      rintro v H5 ⟨rfl, rfl⟩
      refine rd_true ?_
      refine ⟨_, rfl, _, rfl, _, rfl, _, rfl, fe, nl, ul, vl, nms, us, ws, rfl, hF4, ⟨nnl, nul, nvl⟩, ⟨ex4 _ _ nnl (ex2 _ _ nnl hnl), hn1, hn2⟩, ⟨ex4 _ _ nul hul, hu1, hu2⟩, ⟨ex4 _ _ nvl hvl, hv1, hv2⟩, fun r a H6 hF6 ex6 hA ha1 hl1 hl4 hts => ?_⟩
      refine ⟨many.toNat - (j + 1), by omega, hlt, rfl, hF6, ex4.trans ex6, ats ++ [a], Paired.snoc' (AtomsAt.keep (hF4.tups ex6) hats) hA, by rw [List.length_append, hla]; rfl, fun b hb => ?_⟩
      rcases List.mem_append.mp hb with q | q
      · exact hg b q
      · rw [List.mem_singleton.mp q]
        refine ⟨ha1, hl1, hl4, fun z hz => ?_⟩
        rcases hts z hz with q | q
        · exact .inl (huw z q)
        · exact .inr (hww z q)
    · refine .inl ⟨by show many.toNat ≤ j; omega, by rw [ly]; exact Nat.le_of_lt (small1000 (by omega)), fun l hl => ?_⟩
      have nl' := hF4.nef hl
      have hFl := hF4.new hl (.lst ys)
      have exl := ex4.new hl (.lst ys)
      have hats' := AtomsAt.keep ((Tups.refl H4).new hl (.lst ys)) hats
      have hll : upd H4 l (.lst ys) l = some (.lst ys) := upd_same
      generalize upd H4 l (.lst ys) = H5 at hFl exl hats' hll ⊢
      refine ⟨_, rfl, _, rfl, fe, l, ys, ats, rfl, hFl, nl', hll, hats', by omega, by omega, fun a ha => ⟨(hg a ha).2.1, (hg a ha).2.2.1⟩, fun r hz H6 hF6 ex6 hr6 hz4 hzz => ?_⟩
      have tu6 := hFl.tups ex6
      refine ⟨_, rfl, l, _, rfl, .inl ⟨SqL.of (ex6 _ _ nl' hll), fun ta hta => ?_⟩⟩
      refine ⟨(by show 2 ≤ sizeLine; decide), fun q hq => ?_⟩
      have tu7 := (((Tups.refl H6).new hta (.tup ys)).new hq (.tup [.ref r, .ref ta]))
      have nq : ta ≠ q := fun e => by rw [← e, upd_same] at hq; cases hq
      exact k q hz ats _ ((hF6.new hta _).new hq _) ((((ex2.trans exl).trans ex6).new hta _).new hq _) ⟨q, r, ta, ys, rfl, upd_same, tu7 _ _ hr6, by rw [upd_ne nq, upd_same], AtomsAt.keep (tu6.trans tu7) hats'⟩ (by omega) (by omega) hg hz4 hzz
  · -- unknowns
    refine ⟨_, rfl, _, rfl, fe, 5, rfl, hF, by decide, by decide, fun i1 H1 a0 a1 hF1 ex1 => ⟨_, _, rfl, rfl, fe, _, rfl, hF1, by omega, by omega, fun wl wds H2 hF2 ex2 nwl hwl0 hwl hlw ndw hin => ?_⟩⟩
    refine ⟨wl, rfl, ⟨_, SqL.of hwl⟩, comp_list (K := K) (a := wl) (xs := wds.map V.str) (fun i ys H3 => H3 = H2 ∧ i ≤ wds.length ∧ ys = ((wds.take i).map uWord).map V.str) (by rw [List.length_map]; exact small1000 (by omega)) ⟨rfl, Nat.zero_le _, rfl⟩ ?_ ?_ ?_⟩
    · rintro i ys H3 hi ⟨rfl, _, rfl⟩
      refine ⟨SqL.of hwl, ?_⟩
      rw [List.length_map, List.length_map, List.length_take]
      omega
    · rintro i x ys H3 N hc ⟨rfl, hi, rfl⟩ hN
      have hlt : i < (wds.map V.str).length := (List.getElem?_eq_some_iff.mp hc).1
      rw [List.length_map] at hlt
      rw [List.getElem?_map, List.getElem?_eq_getElem hlt] at hc
      obtain rfl : V.str wds[i] = x := Option.some.inj hc
      have lw := of_decide_eq_true (List.all_eq_true.mp word_len wds[i] (hin _ (List.getElem_mem hlt)))
      refine rd_true ?_
      refine ⟨_, rfl, _, _, rfl, rfl, by rw [q_len]; omega, hN _ _ ⟨rfl, hlt, ?_⟩⟩
      rw [List.take_add_one, List.getElem?_eq_getElem hlt, List.map_append, List.map_append]
      rfl
    · rintro ys H3 ⟨rfl, _, rfl⟩ l hl
      rw [List.length_map, List.take_length]
      have nl' := hF2.nef hl
      have hF3 := hF2.new hl (.lst ((wds.map uWord).map V.str))
      have hll : upd H3 l (.lst ((wds.map uWord).map V.str)) l = some (.lst ((wds.map uWord).map V.str)) := upd_same
      have ex3 := (ex1.trans ex2).new hl (.lst ((wds.map uWord).map V.str))
      generalize upd H3 l (.lst ((wds.map uWord).map V.str)) = H4 at hF3 hll ex3 ⊢
      -- values
      refine ⟨_, rfl, fe, 2, rfl, hF3, by decide, by decide, fun vl vws H5 hF5 ex5 nvl hvl0 hvl hlv ndv hinv => ?_⟩
      -- many
      refine ⟨_, rfl, _, rfl, fe, most, rfl, hF5, by omega, by omega, fun i6 H6 b0 b1 hF6 ex6 => ⟨_, _, rfl, rfl, ?_⟩⟩
      have huw : ∀ z ∈ wds.map uWord, z ∈ unkPool := fun z hz => by
        obtain ⟨y, hy, rfl⟩ := List.mem_map.mp hz
        exact List.mem_map_of_mem (hin y hy)
      have lus : (wds.map uWord).length = wds.length := List.length_map _
      refine ⟨_, rfl, fe, 8, rfl, hF6, by decide, by decide, fun i7 H7 c0 c1 hF7 ex7 => ⟨rfl, _, rfl, ?_⟩⟩
      have ex57 := ex6.trans ex7
      refine ite2 (fun c => ?_) (fun c => ?_)
      · refine ⟨_, rfl, _, rfl, _, rfl, _, _, rfl, rfl, fe, _, rfl, hF7, by omega, by omega, fun i8 H8 d0 d1 hF8 ex8 => ⟨_, _, rfl, rfl, ?_⟩⟩
        have ex58 := ex57.trans ex8
        exact tl _ _ ⟨l, vl, wds.map uWord, vws, _, rfl, ⟨nl', nvl⟩, ⟨ex58 _ _ nl' (ex5 _ _ nl' hll), by omega, by omega⟩, ⟨ex58 _ _ nvl hvl, by omega, by omega⟩, huw, hinv, by omega, by omega, hF8, (ex3.trans ex5).trans ex58⟩
      · exact tl _ _ ⟨l, vl, wds.map uWord, vws, _, rfl, ⟨nl', nvl⟩, ⟨ex57 _ _ nl' (ex5 _ _ nl' hll), by omega, by omega⟩, ⟨ex57 _ _ nvl hvl, by omega, by omega⟩, huw, hinv, by omega, by omega, hF7, (ex3.trans ex5).trans ex57⟩
end
end K01

set_option Elab.async false
set_option linter.all false
set_option maxRecDepth 100000
set_option maxHeartbeats 4000000
namespace K01
open PySem PySem.Spec PyProof.Rows L2
seal L2.PE L2.PT L2.PW L2.PA L2.PS L2.PSs L2.PI L2.PO L2.PPs L2.PG L2.PGs
/-! ## the law's own looks -/
theorem one_eq (c d : Nat) : decide ((⟨#[c]⟩ : Str) = ⟨#[d]⟩) = (c == d) := by
  by_cases h : c = d
  · subst h
    simp
  · have : ¬ ((⟨#[c]⟩ : Str) = ⟨#[d]⟩) := fun e => h (by injection e with e; simpa using e)
    rw [decide_eq_false this]
    exact (beq_eq_false_iff_ne.mpr h).symm
theorem q_is : ("?" : Str) = ⟨#[63]⟩ := by decide +kernel
theorem starts_q {z : Str} {c : Nat} (h : z.cps.toList[0]? = some c) : Txt.startswith z "?" = decide ((⟨#[c]⟩ : Str) = "?") := by
  rw [q_is, one_eq]
  rw [Bool.eq_iff_iff, beq_iff_eq]
  unfold Txt.startswith
  rw [Bool.and_eq_true, decide_eq_true_iff, StrLaws.subAt_one, h]
  exact ⟨fun e => Option.some.inj e, fun e => by rw [e]⟩
theorem starts_none {z : Str} (h : z.cps.toList[0]? = none) : Txt.startswith z "?" = false := by
  rw [q_is]
  refine Bool.eq_false_iff.mpr fun e => ?_
  unfold Txt.startswith at e
  rw [Bool.and_eq_true, decide_eq_true_iff, StrLaws.subAt_one, h] at e
  cases e
theorem first_of {z : Str} (h : z ≠ "") : ∃ c, z.cps.toList[0]? = some c := by
  cases e : z.cps.toList with
  | cons c r => exact ⟨c, rfl⟩
  | nil =>
    exact absurd (PyProof.Rows.ext_toList (a := z) (b := "") (e.trans rfl)) h
section
variable {P : Program} {w : World} {K : PySem.W.Frag} {mg : Str → Option Value} {base : Heap}
theorem all_filter {α : Type} (g : α → Bool) (l : List α) : (l.filter fun c => !g c).isEmpty = (l.map g).all id := by
  induction l with
  | nil => rfl
  | cons a r ih =>
    rw [List.filter_cons, List.map_cons, List.all_cons, ← ih]
    cases g a <;> rfl
theorem filter_take {α : Type} {g : α → Bool} {l : List α} {i : Nat} {x : α} (h : l[i]? = some x) : (l.take (i + 1)).filter g = (l.take i).filter g ++ (if g x = true then [x] else []) := by
  rw [List.take_add_one, h, List.filter_append]
  show _ ++ [x].filter g = _
  rw [List.filter_cons, List.filter_nil]
theorem isEmpty_map {α β : Type} (g : α → β) (l : List α) : (l.map g).isEmpty = l.isEmpty := by cases l <;> rfl
end
theorem noPart {σ : L2.St} {H : Hp} {q : Option Int → Hp → Prop} (h : q none H) : tNoPart σ H q := h
theorem Th.mono {f : Addr} {m m' n n' : Nat} {H H' : Hp} {v : V} (h : Th f m H n v) (e : Ext f H H') (hm : m ≤ m') (hn : n ≤ n') : Th f m' H' n' v := (h.keep e).up hm hn
theorem Th.lst {f : Addr} {m n : Nat} {H : Hp} {a : Addr} {xs : List V} (nf : a ≠ f) (h : H a = some (.lst xs)) : Th f m H (n + 1) (.ref a) := .inr (.inr (.inr (.inr (.inl ⟨a, xs, rfl, nf, h⟩))))
theorem Th.dic {f : Addr} {m n : Nat} {H : Hp} {a : Addr} {kvs : List (Key × V)} (nf : a ≠ f) (h : H a = some (.dK kvs)) : Th f m H (n + 1) (.ref a) := .inr (.inr (.inr (.inr (.inr (.inl ⟨a, kvs, rfl, nf, h⟩)))))
theorem Th.non {f : Addr} {m n : Nat} {H : Hp} : Th f m H (n + 1) .non := .inl rfl
theorem Th.bl {f : Addr} {m n : Nat} {H : Hp} {b : Bool} : Th f m H (n + 1) (.bl b) := .inr (.inl ⟨b, rfl⟩)
theorem Th.int {f : Addr} {m n : Nat} {H : Hp} {i : Int} : Th f m H (n + 1) (.int i) := .inr (.inr (.inl ⟨i, rfl⟩))
theorem cut_mem {xs : List V} {lo hi : Option Int} {x : V} (h : x ∈ cutV xs lo hi) : x ∈ xs := List.mem_of_mem_drop (List.mem_of_mem_take h)
/-! ## a question -/
def headB (H : Hp) (h a : V) : Bool := (((tupOf H h).getD []).map fun t => valB t || inV t ((unkL (flatOf H a)).map V.str)).all id
def questB (H : Hp) (v : V) : Bool := match tupOf H v with
  | some [h, a] => termsB H 0 h && (atomsB H a && headB H h a)
  | _ => false
theorem questB_pair {H : Hp} {v h a : V} (e : tupOf H v = some [h, a]) : questB H v = (termsB H 0 h && (atomsB H a && headB H h a)) := by
  unfold questB
  rw [e]
theorem questB_not {H : Hp} {v : V} (e : pairB H v = false) : questB H v = false := by
  unfold questB
  cases q : tupOf H v with
  | none => rfl
  | some xs =>
    rw [pairB_some q] at e
    match xs, e with
    | [], _ => rfl
    | [_], _ => rfl
    | [_, _], e => simp at e
    | _ :: _ :: _ :: _, _ => rfl
theorem flat_V (l : List Str) : (l.map V.str).all flatV = true := by
  rw [List.all_map]
  exact List.all_eq_true.mpr fun _ _ => rfl
theorem Th.atoms {f : Addr} {m n : Nat} {H H' : Hp} {v : V} (hv : Th f m H n v) (e : Ext f H H') : atomsB H' v = atomsB H v := by
  cases q : K01.tupOf H v with
  | none => rw [atomsB_none q, atomsB_none ((hv.tupOf e).trans q)]
  | some xs =>
    obtain ⟨a, _, _, _, _, hx⟩ := hv.items q
    rw [atomsB_some q, atomsB_some ((hv.tupOf e).trans q), List.map_congr_left fun x hx' => (hx x hx').atom e]
theorem inV_str (z : Str) (l : List Str) : inV (.str z) (l.map V.str) = decide (z ∈ l) := by
  unfold inV
  rw [List.any_map, Bool.eq_iff_iff, List.any_eq_true]
  constructor
  · rintro ⟨y, hy, e⟩
    have e' : (y == z) = true := e
    rw [eq_of_beq e'] at hy
    exact decide_eq_true hy
  · intro h
    exact ⟨z, of_decide_eq_true h, by show (z == z) = true; simp⟩
section
variable {P : Program} {w : World} {K : PySem.W.Frag} {mg : Str → Option Value} {base : Heap}
structure Dt5 (P : Program) (w : World) (K : PySem.W.Frag) (mg : Str → Option Value) (base : Heap) : Prop extends Dt4 P w K mg base where
  are_atoms : DefOk P w K mg base 6 "are_atoms" ["thing"] (spIs atomsB)
  unknowns_of : DefOk P w K mg base 3 "unknowns_of" ["question"] spUnks
theorem sgn_qm : sgn 63 = false := by decide +kernel
/-- a value is no unknown -/
theorem val_unk {z : Str} (h : isVal z = true) : isUnk z = false := by
  unfold isVal at h
  rw [Bool.and_eq_true, Bool.and_eq_true] at h
  have h1 := of_decide_eq_true h.1
  unfold isUnk
  cases e : z.cps.toList with
  | nil =>
    have : z.length = 0 := by
      show z.cps.size = 0
      rw [← Array.length_toList, e]
      rfl
    omega
  | cons c r =>
    have e0 : z.cps.toList[0]? = some c := by rw [e]; rfl
    have hc : sgn c = true := List.all_eq_true.mp h.2.2 _ (List.mem_map_of_mem (by rw [e]; exact List.mem_cons_self))
    have nc : c ≠ 63 := fun z => by
      rw [z, sgn_qm] at hc
      cases hc
    rw [starts_q e0, q_is, one_eq, beq_eq_false_iff_ne.mpr nc, Bool.false_and]
def looseV (u : List Str) (t : V) : Bool := unkB t && !inV t (u.map V.str)
theorem loose_all {u : List Str} {hs : List V} (h : (hs.map termB).all id = true) : (hs.filter (looseV u)).isEmpty = (hs.map fun t => valB t || inV t (u.map V.str)).all id := by
  rw [← all_filter]
  congr 1
  refine List.filter_congr fun t ht => ?_
  have h1 : termB t = true := List.all_eq_true.mp h _ (List.mem_map_of_mem ht)
  unfold looseV
  cases t with
  | str z =>
    have h2 : (isVal z || isUnk z) = true := h1
    show (isUnk z && !inV (.str z) (u.map V.str)) = !(isVal z || inV (.str z) (u.map V.str))
    cases e : isVal z with
    | true => rw [val_unk e]; rfl
    | false =>
      rw [e, Bool.false_or] at h2
      rw [h2]
      rfl
  | _ => exact absurd h1 Bool.false_ne_true
def spLooseB : Sp := fun vs H Q _ => ∃ (f : Addr) (m n : Nat) (v h a : V), vs = [v] ∧ Th f m H n v ∧ m ≤ 1000 ∧ tupOf H v = some [h, a] ∧ termsB H 0 h = true ∧ atomsB H a = true ∧
  ∀ (r : Addr) (H' : Hp), Same H H' → H r = none → H' r = some (.lst (((tupOf H h).getD []).filter (looseV (unkL (flatOf H a))))) → Q (.ref r) H'
theorem sc_loose_unknowns : FnScope ["question", "bound"] ["question"] (defScope s_loose_unknowns) := ⟨rfl, rfl, rfl, by decide +kernel, rfl, by decide +kernel, by decide +kernel⟩
theorem ok_loose {f : Addr} {fd : FuncData} (F : Fun K "loose_unknowns" "loose_unknowns" s_loose_unknowns f fd) (T : Txt K mg) (D : Dt5 P w K mg base) : FnOk P w K mg base CX0 6 f fd ["question"] spLooseB := by
  refine F.ok sc_loose_unknowns (fun vs H Q E h => ?_) (fun cdv A outer s H vs Q E hr h => ?_)
  · obtain ⟨a, b, c, d, e, g, rfl, _⟩ := h
    rfl
  obtain ⟨fe, m, n, v, hd, av, rfl, hv, hm, e0, ht, hat, k⟩ := h
  obtain ⟨q, rfl, nf, hq, hl, hx⟩ := hv.items e0
  have hh : Th fe m H (n - 1) hd := hx hd (by simp)
  cases e1 : tupOf H hd with
  | none =>
    rw [termsB_none e1] at ht
    cases ht
  | some hs =>
  obtain ⟨hda, rfl, nfh, hha, hhl, hhx⟩ := hh.items e1
  rw [termsB_some e1, Bool.and_eq_true, Bool.and_eq_true] at ht
  rw [e1] at k
  have k : ∀ (r : Addr) (H' : Hp), Same H H' → H r = none → H' r = some (.lst (hs.filter (looseV (unkL (flatOf H av))))) → Q (.ref r) H' := k
  refine ⟨_, (pss_cons (ps_set (i := 1) sc_loose_unknowns.nd rfl (Or.inr rfl) (cl D.unknowns_of hr (pa_cons (pv 0) pa_nil)))
      (pss_one (ps_ret (pe_compIf rfl (compSc_mk (fs := ["bound"]) (fr := [1])) (pi_tup (pe_ix ix_tup (pv 0) pe_int (fun _ _ => rfl))) (fun _ _ _ _ => (PW.pt (pw_and (pt_val (cl D.is_unknown hr (pa_cons (pv 0) pa_nil))) (pw_and1 (pt_cmpR (op_notIn_seqK (K := K)) (pv 0) (pv 1) (by with_unfolding_all rfl)))))) (fun _ _ _ _ => (pv 0)))))), ?_⟩
  refine ⟨_, rfl, fe, m, n, _, _, av, rfl, hv, hm, e0, hat, fun r H4 sm4 nr hr4 => ?_⟩
  refine ⟨_, rfl, _, _, _, _, rfl, rfl, SqT.of (sm4 _ _ hq), rfl, hda, rfl, ⟨hs, SqT.of (sm4 _ _ hha)⟩, comp_tup (K := K) (a := hda) (xs := hs) (fun i ys H5 => Same H4 H5 ∧ i ≤ hs.length ∧ ys = (hs.take i).filter (looseV (unkL (flatOf H av)))) (small1000 (by omega)) ⟨Same.refl H4, Nat.zero_le _, rfl⟩ ?_ ?_ ?_⟩
  · rintro i ys H5 hi ⟨sm5, _, rfl⟩
    refine ⟨SqT.of (sm5 _ _ (sm4 _ _ hha)), Nat.le_trans (List.length_filter_le _ _) ?_⟩
    rw [List.length_take]
    omega
  · rintro i x ys H5 N hc ⟨sm5, hi, rfl⟩ hN
    have hlt : i < hs.length := (List.getElem?_eq_some_iff.mp hc).1
    have hxm := List.mem_of_getElem? hc
    have hsx : termB x = true := List.all_eq_true.mp ht.2.2 _ (List.mem_map_of_mem hxm)
    have hflat : flatV x = true := by
      cases x with
      | str z => rfl
      | _ => exact absurd hsx Bool.false_ne_true
    refine ⟨_, rfl, fe, m, n - 1 - 1, x, rfl, (hhx x hxm).keep (Ext.of (sm4.trans sm5)), hm, fun H6 sm6 => ⟨_, rfl, ?_⟩⟩
    refine ite2 (fun c4 => ?_) (fun c4 => ?_)
    · have c4 : unkB x = true := c4
      refine ⟨_, rfl, _, rfl, r, _, rfl, .inl (SqL.of (sm6 _ _ (sm5 _ _ hr4))), hflat, flat_V _, _, rfl, ?_⟩
      have el : looseV (unkL (flatOf H av)) x = !inV x ((unkL (flatOf H av)).map V.str) := by
        unfold looseV
        rw [c4, Bool.true_and]
      refine ite2 (fun c5 => ?_) (fun c5 => ?_)
      · have c5 : (!inV x ((unkL (flatOf H av)).map V.str)) = true := c5
        refine ⟨_, rfl, hN _ _ ⟨sm5.trans sm6, hlt, ?_⟩⟩
        rw [filter_take hc, el, if_pos c5]
      · have c5 : ¬ (!inV x ((unkL (flatOf H av)).map V.str)) = true := c5
        refine hN _ _ ⟨sm5.trans sm6, hlt, ?_⟩
        rw [filter_take hc, el, if_neg c5, List.append_nil]
    · have c4 : ¬ unkB x = true := c4
      refine iteF (hN _ _ ⟨sm5.trans sm6, hlt, ?_⟩)
      have el : looseV (unkL (flatOf H av)) x = false := by
        unfold looseV
        rw [Bool.eq_false_iff.mpr c4, Bool.false_and]
      rw [filter_take hc, el, if_neg Bool.false_ne_true, List.append_nil]
  · rintro ys H5 ⟨sm5, _, rfl⟩ l hl'
    have sm := sm4.trans sm5
    refine k l _ (sm.trans (same_new hl' _)) (sm.free hl') ?_
    rw [upd_same, List.take_length]
structure Dt6 (P : Program) (w : World) (K : PySem.W.Frag) (mg : Str → Option Value) (base : Heap) : Prop extends Dt5 P w K mg base where
  loose_unknowns : DefOk P w K mg base 6 "loose_unknowns" ["question"] spLooseB
theorem sc_is_question : FnScope ["thing"] ["thing"] (defScope s_is_question) := ⟨rfl, rfl, rfl, by decide +kernel, rfl, by decide +kernel, by decide +kernel⟩
theorem ok_is_question {f : Addr} {fd : FuncData} (F : Fun K "is_question" "is_question" s_is_question f fd) (T : Txt K mg) (D : Dt6 P w K mg base) : FnOk P w K mg base CX0 7 f fd ["thing"] (spIs questB) := by
  refine F.ok sc_is_question (fun vs H Q E h => ?_) (fun cdv A outer s H vs Q E hr h => ?_)
  · obtain ⟨a, b, c, d, rfl, _⟩ := h
    rfl
  obtain ⟨fe, m, n, v, rfl, hv, hm, k⟩ := h
  refine ⟨_, (pss_cons (ps_if (pt_not (PW.pt (pw_and (pt_val (cl D.is_pair hr (pa_cons (pv 0) pa_nil))) (pw_and (pt_val (cl D.are_terms hr (pa_cons (pe_ix ix_tup (pv 0) pe_int (fun _ _ => rfl)) (pa_cons pe_int pa_nil)))) (pw_and1 (pt_val (cl D.are_atoms hr (pa_cons (pe_ix ix_tup (pv 0) pe_int (fun _ _ => rfl)) pa_nil)))))))) (pss_one (ps_ret pe_bl)) pss_nil)
      (pss_one (ps_ret (pe_cmpR (op_eqN hr.units0) (cl D.loose_unknowns hr (pa_cons (pv 0) pa_nil)) (pe_lst pa_nil) (nomark _))))), ?_⟩
  refine ⟨_, rfl, fe, m, n, v, rfl, hv, hm, fun H1 sm1 => ⟨_, rfl, ?_⟩⟩
  refine ite2 (fun c => ?_) (fun c => ?_)
  · obtain ⟨hd, av, e⟩ := pairB_yes c
    obtain ⟨q, rfl, nf, hq, hl, hx⟩ := hv.items e
    have hh : Th fe m H (n - 1) hd := hx hd (by simp)
    have ha : Th fe m H (n - 1) av := hx av (by simp)
    have e0 := questB_pair e
    refine ⟨_, rfl, _, _, _, _, rfl, rfl, SqT.of (sm1 _ _ hq), rfl, fe, m, n - 1, hd, 0, rfl, hh.keep (Ext.of sm1), hm, fun H2 sm2 => ⟨_, rfl, ?_⟩⟩
    have sm12 := sm1.trans sm2
    rw [hh.terms (Ext.of sm1)]
    refine ite2 (fun c2 => ?_) (fun c2 => ?_)
    · refine ⟨_, rfl, _, _, _, _, rfl, rfl, SqT.of (sm12 _ _ hq), rfl, fe, m, n - 1, av, rfl, ha.keep (Ext.of sm12), hm, fun H3 sm3 => ⟨_, rfl, ?_⟩⟩
      have sm := sm12.trans sm3
      rw [ha.atoms (Ext.of sm12)]
      refine ite2 (fun c3 => ?_) (fun c3 => ?_)
      · have c3 : ¬ atomsB H av = true := by simpa using c3
        have q := k H3 sm
        rw [e0, Bool.eq_false_iff.mpr c3, Bool.false_and, Bool.and_false] at q
        exact q
      · have c3 : atomsB H av = true := by simpa using c3
        refine ⟨_, rfl, fe, m, n, _, hd, av, rfl, hv.keep (Ext.of sm), hm, (hv.tupOf (Ext.of sm)).trans e, (hh.terms (Ext.of sm) 0).trans c2, (ha.atoms (Ext.of sm)).trans c3, fun r H4 sm4 nr hr4 => ?_⟩
        rw [flatOf_keep ha (Ext.of sm), hh.tupOf (Ext.of sm)] at hr4
        cases e1 : tupOf H hd with
        | none =>
          rw [termsB_none e1] at c2
          cases c2
        | some hs =>
        have c2' := c2
        rw [termsB_some e1, Bool.and_eq_true, Bool.and_eq_true] at c2'
        rw [e1] at hr4
        have hr4 : H4 r = some (.lst (hs.filter (looseV (unkL (flatOf H av))))) := hr4
        refine ⟨(by show 0 ≤ sizeLine; decide), fun l hl' => ?_⟩
        refine ⟨_, _, _, rfl, rfl, SqL.of (by rw [upd_ne (ne_of_none hr4 hl')]; exact hr4), SqL.of upd_same, ?_⟩
        have q := k _ ((sm.trans sm4).trans (same_new hl' (.lst [])))
        rw [e0, c2, c3, Bool.true_and, Bool.true_and] at q
        unfold headB at q
        rw [e1] at q
        rw [loose_all c2'.2.2]
        exact q
    · have q := k H2 sm12
      rw [e0, Bool.eq_false_iff.mpr c2, Bool.false_and] at q
      exact iteT q
  · have q := k H1 sm1
    rw [questB_not (Bool.eq_false_iff.mpr c)] at q
    exact iteT q
end
end K01

set_option Elab.async false
set_option linter.all false
set_option maxRecDepth 100000
set_option maxHeartbeats 4000000
namespace K01
open PySem PySem.Spec PyProof.Rows L2
seal L2.PE L2.PT L2.PW L2.PA L2.PS L2.PSs L2.PI L2.PO L2.PPs L2.PG L2.PGs
/-! ## the law's own looks: values, terms -/
theorem bl_all (bs : List Bool) : inV (.bl false) (bs.map V.bl) = !(bs.all id) := by
  unfold inV
  rw [List.any_map]
  induction bs with
  | nil => rfl
  | cons b r ih =>
    rw [List.any_cons, List.all_cons, ih]
    cases b <;> rfl
theorem flat_B (bs : List Bool) : (bs.map V.bl).all flatV = true := by
  rw [List.all_map]
  exact List.all_eq_true.mpr fun _ _ => rfl
theorem slice1 (z : Str) : decide (V.str (Txt.slice z none (some 1)) = V.str "?") = Txt.startswith z "?" := by
  cases e : z.cps.toList with
  | nil =>
    rw [starts_none (by rw [e]; rfl)]
    refine decide_eq_false fun h => ?_
    injection h with h
    have h1 := Txt.slice_le z none (some 1)
    rw [h] at h1
    have h2 : z.length = 0 := by
      show z.cps.size = 0
      rw [← Array.length_toList, e]
      rfl
    have h3 : ("?" : Str).length = 1 := by decide +kernel
    omega
  | cons c r =>
    have e0 : z.cps.toList[0]? = some c := by rw [e]; rfl
    rw [starts_q e0]
    have es : Txt.slice z none (some 1) = ⟨#[c]⟩ := by
      refine (StrLaws.sliceText_to (x := z) (j := 1) ⟨by decide, by rw [e, List.length_cons]; omega⟩).trans ?_
      rw [e]
      rfl
    rw [es, Bool.eq_iff_iff]
    simp
section
variable {P : Program} {w : World} {K : PySem.W.Frag} {mg : Str → Option Value} {base : Heap}
theorem sc_l_is_value : FnScope ["_law_thing"] ["_law_thing"] (defScope s_l_is_value) := ⟨rfl, rfl, rfl, by decide +kernel, rfl, by decide +kernel, by decide +kernel⟩
theorem ok_isValue {f : Addr} {fd : FuncData} (F : Fun K "_law_is_value" "_law_is_value" s_l_is_value f fd) (T : Txt K mg) : FnOk P w K mg base CX0 1 f fd ["_law_thing"] (spIs fun _ v => valB v) := by
  refine F.ok sc_l_is_value (fun vs H Q E h => ?_) (fun cdv A outer s H vs Q E hr h => ?_)
  · obtain ⟨a, b, c, d, rfl, _⟩ := h
    rfl
  obtain ⟨fe, m, n, v, rfl, hv, hm, k⟩ := h
  have k : ∀ H', Same H H' → Q (.bl (valB v)) H' := k
  refine ⟨_, (pss_cons (ps_if (PW.pt (pw_or (pt_not (pt_val (pe_callB call_isinst rfl T.n_isinstance (by decide +kernel) (pa_cons (pv 0) (pa_cons (pe_ty (n := "str") rfl T.n_str (by decide +kernel)) pa_nil))))) (pw_or1 (pt_not (pt_chain op_lt op_lt pe_int (pe_callB call_len rfl T.n_len PySem.boot_len (pa_cons (pv 0) pa_nil)) pe_int))))) (pss_one (ps_ret pe_bl)) pss_nil)
      (pss_one (ps_ret (pe_cmpR (op_eqN hr.units0) (pe_compIf rfl (compSc_mk (fs := []) (fr := [])) (pi_str (pv 0)) (fun _ _ _ _ => (pt_cmpR op_notIn_str (pv 0) pe_str (by with_unfolding_all rfl))) (fun _ _ _ _ => (pv 0))) (pe_lst pa_nil) (nomark _))))), ?_⟩
  obtain ⟨t, ty, e1, e2⟩ := ty_of (K := K) hv
  refine ⟨_, rfl, _, _, _, _, rfl, ty, e1, _, rfl, ?_⟩
  by_cases hs : isStr v = true
  · obtain ⟨z, rfl, hz⟩ := hv.isStr hs
    have hz' : z.length ≤ sizeLine := Nat.le_of_lt (small1000 (by omega))
    have q := k H (Same.refl H)
    refine iteF ?_
    refine ⟨_, rfl, _, _, rfl, ⟨hz', rfl⟩, _, _, rfl, rfl, _, rfl, ?_⟩
    refine ite2 (fun c1 => ?_) (fun c1 => ?_)
    case refine_2 =>
      have ev : valB (.str z) = false := by
        have c1 : ¬ decide ((0 : Int) < (z.length : Int)) = true := c1
        have c1 : ¬ ((0 : Int) < (z.length : Int)) := fun h => c1 (decide_eq_true h)
        show isVal z = false
        unfold isVal
        rw [decide_eq_false (by omega), Bool.false_and]
      rw [ev] at q
      refine ⟨_, rfl, ?_⟩
      exact iteT q
    refine ⟨_, _, rfl, rfl, _, rfl, ?_⟩
    show if (!decide ((z.length : Int) < 9)) = true then _ else _
    refine ite2 (fun c2 => ?_) (fun c2 => ?_)
    · have ev : valB (.str z) = false := by
        have c2 : ¬ ((z.length : Int) < 9) := by simpa using c2
        show isVal z = false
        unfold isVal
        rw [decide_eq_false (p := (z.length : Int) ≤ 8) (by omega), Bool.false_and, Bool.and_false]
      rw [ev] at q
      exact q
    · have d1 : (0 : Int) < (z.length : Int) := of_decide_eq_true c1
      have d2 : (z.length : Int) < 9 := by simpa using c2
      have ev : valB (.str z) = (z.cps.toList.map sgn).all id := by
        show isVal z = _
        unfold isVal
        rw [decide_eq_true (by omega), decide_eq_true (by omega), Bool.true_and, Bool.true_and]
      refine ⟨_, rfl, _, rfl, comp_str (fun i ys H2 => H2 = H ∧ i ≤ z.cps.size ∧ ys = ((z.cps.toList.take i).filter fun c => !sgn c).map fun c => V.str ⟨#[c]⟩) (small1000 (show z.length ≤ 1000 by omega)) ⟨rfl, Nat.zero_le _, rfl⟩ ?_ ?_ ?_⟩
      · rintro i ys H2 hi ⟨rfl, _, rfl⟩
        rw [List.length_map]
        refine Nat.le_trans (List.length_filter_le _ _) ?_
        rw [List.length_take]
        omega
      · rintro i c ys H2 N hc ⟨rfl, hi, rfl⟩ hN
        have hlt : i < z.cps.size := (Array.getElem?_eq_some_iff.mp hc).1
        have hc' : z.cps.toList[i]? = some c := by simpa using hc
        refine ⟨_, rfl, _, _, rfl, rfl, _, rfl, ?_⟩
        refine ite2 (fun c3 => ?_) (fun c3 => ?_)
        · refine ⟨_, rfl, hN _ _ ⟨rfl, hlt, ?_⟩⟩
          have c3 : (!sgn c) = true := c3
          rw [filter_take hc', if_pos c3, List.map_append]
          rfl
        · refine hN _ _ ⟨rfl, hlt, ?_⟩
          have c3 : ¬ (!sgn c) = true := c3
          rw [filter_take hc', if_neg c3, List.append_nil]
      · rintro ys H2 ⟨rfl, _, rfl⟩ l hl'
        have et : z.cps.toList.take z.cps.size = z.cps.toList := List.take_of_length_le (by simp)
        rw [et]
        refine ⟨(by show 0 ≤ sizeLine; decide), fun l2 hl2 => ?_⟩
        refine ⟨_, _, _, rfl, rfl, SqL.of (by rw [upd_ne (ne_of_none upd_same hl2)]; exact upd_same), SqL.of upd_same, ?_⟩
        have q := k _ ((same_new hl' _).trans (same_new hl2 (.lst [])))
        rw [ev, ← all_filter, ← isEmpty_map (fun c => V.str ⟨#[c]⟩)] at q
        exact q
  · have q := k H (Same.refl H)
    rw [valB_no hs] at q
    rw [Bool.eq_false_iff.mpr hs]
    exact iteT (iteT q)
structure Mv (P : Program) (w : World) (K : PySem.W.Frag) (mg : Str → Option Value) (base : Heap) : Prop where
  l_is_value : DefOk P w K mg base 1 "_law_is_value" ["_law_thing"] (spIs fun _ v => valB v)
theorem sc_l_is_term : FnScope ["_law_thing"] ["_law_thing"] (defScope s_l_is_term) := ⟨rfl, rfl, rfl, by decide +kernel, rfl, by decide +kernel, by decide +kernel⟩
theorem ok_isTerm {f : Addr} {fd : FuncData} (F : Fun K "_law_is_term" "_law_is_term" s_l_is_term f fd) (T : Txt K mg) (D : Mv P w K mg base) : FnOk P w K mg base CX0 2 f fd ["_law_thing"] (spIs fun _ v => termB v) := by
  refine F.ok sc_l_is_term (fun vs H Q E h => ?_) (fun cdv A outer s H vs Q E hr h => ?_)
  · obtain ⟨a, b, c, d, rfl, _⟩ := h
    rfl
  obtain ⟨fe, m, n, v, rfl, hv, hm, k⟩ := h
  have k : ∀ H', Same H H' → Q (.bl (termB v)) H' := k
  refine ⟨_, (pss_one (ps_ret (pe_or (cl D.l_is_value hr (pa_cons (pv 0) pa_nil)) (pe_one (pe_and (pe_callB call_isinst rfl T.n_isinstance (by decide +kernel) (pa_cons (pv 0) (pa_cons (pe_ty (n := "str") rfl T.n_str (by decide +kernel)) pa_nil))) (pe_and (pe_cmpR op_eq (pe_slice sl_str (pv 0) po_none (po_some pe_int)) pe_str (nomark _)) (pe_one (cl D.l_is_value hr (pa_cons (pe_slice sl_str (pv 0) (po_some pe_int) po_none) pa_nil))))))))), ?_⟩
  refine ⟨_, rfl, fe, m, n, v, rfl, hv, hm, fun H1 sm1 => ⟨_, rfl, ?_⟩⟩
  refine ite2 (fun c => ?_) (fun c => ?_)
  · have c : valB v = true := c
    have q := k H1 sm1
    rw [show termB v = true by unfold termB; rw [c]; rfl] at q
    exact q
  have c : ¬ valB v = true := c
  have et : termB v = unkB v := by unfold termB; rw [Bool.eq_false_iff.mpr c, Bool.false_or]
  rw [et] at k
  obtain ⟨t, ty, e1, e2⟩ := ty_of (K := K) (hv.keep (Ext.of sm1))
  refine ⟨_, rfl, _, _, _, _, rfl, ty, e1, _, rfl, ?_⟩
  by_cases hs : isStr v = true
  · obtain ⟨z, rfl, hz⟩ := hv.isStr hs
    have hz' : z.length ≤ sizeLine := Nat.le_of_lt (small1000 (by omega))
    refine iteT ?_
    refine ⟨_, rfl, noPart ⟨_, rfl, _, rfl, hz', rfl, _, rfl, ?_⟩⟩
    rw [slice1]
    refine ite2 (fun c1 => ?_) (fun c1 => ?_)
    · refine ⟨_, rfl, _, rfl, noPart ⟨_, rfl, hz', fe, m, 1, _, rfl, Th.str (Nat.le_trans (slice_le z) hz), hm, fun H2 sm2 => ?_⟩⟩
      have ev : unkB (.str z) = valB (.str (Txt.slice z (some 1) none)) := by
        show isUnk z = isVal _
        unfold isUnk
        rw [c1, Bool.true_and]
      have q := k H2 (sm1.trans sm2)
      rw [ev] at q
      exact q
    · have ev : unkB (.str z) = false := by
        show isUnk z = false
        unfold isUnk
        rw [Bool.eq_false_iff.mpr c1, Bool.false_and]
      have q := k H1 sm1
      rw [ev] at q
      exact q
  · have q := k H1 sm1
    rw [unkB_no hs] at q
    rw [Bool.eq_false_iff.mpr hs]
    exact iteF q
structure Mt (P : Program) (w : World) (K : PySem.W.Frag) (mg : Str → Option Value) (base : Heap) : Prop extends Mv P w K mg base where
  l_is_term : DefOk P w K mg base 2 "_law_is_term" ["_law_thing"] (spIs fun _ v => termB v)
theorem sc_l_are_terms : FnScope ["_law_thing", "_law_least_many"] ["_law_thing", "_law_least_many"] (defScope s_l_are_terms) := ⟨rfl, rfl, rfl, by decide +kernel, rfl, by decide +kernel, by decide +kernel⟩
theorem ok_areTerms {f : Addr} {fd : FuncData} (F : Fun K "_law_are_terms" "_law_are_terms" s_l_are_terms f fd) (T : Txt K mg) (D : Mt P w K mg base) : FnOk P w K mg base CX0 3 f fd ["_law_thing", "_law_least_many"] spTerms := by
  refine F.ok sc_l_are_terms (fun vs H Q E h => ?_) (fun cdv A outer s H vs Q E hr h => ?_)
  · obtain ⟨a, b, c, d, e, rfl, _⟩ := h
    rfl
  obtain ⟨fe, m, n, v, lo, rfl, hv, hm, k⟩ := h
  refine ⟨_, (pss_cons (ps_if (PW.pt (pw_or (pt_not (pt_val (pe_callB call_isinst rfl T.n_isinstance (by decide +kernel) (pa_cons (pv 0) (pa_cons (pe_ty (n := "tuple") rfl T.n_tuple (by decide +kernel)) pa_nil))))) (pw_or1 (pt_not (pt_chain op_le op_le (pv 1) (pe_callB call_len rfl T.n_len PySem.boot_len (pa_cons (pv 0) pa_nil)) pe_int))))) (pss_one (ps_ret pe_bl)) pss_nil)
      (pss_one (ps_ret (pe_cmpR op_notIn_seq pe_bl (pe_comp rfl (compSc_mk (fs := []) (fr := [])) (pi_tup (pv 0)) (fun _ _ _ _ => (cl D.l_is_term hr (pa_cons (pv 0) pa_nil)))) (by with_unfolding_all rfl))))), ?_⟩
  obtain ⟨t, ty, e1, e2⟩ := ty_of (K := K) hv
  refine ⟨_, rfl, _, _, _, _, rfl, ty, e2, _, rfl, ?_⟩
  have q := k H (Same.refl H)
  cases e : tupOf H v with
  | none =>
    rw [termsB_none e] at q
    exact iteT (iteT q)
  | some xs =>
    rw [termsB_some e] at q
    obtain ⟨a, rfl, nf, ha, hl, hx⟩ := hv.items e
    refine iteF ?_
    refine ⟨_, rfl, _, rfl, _, _, rfl, .inr ⟨_, SqT.of ha, rfl⟩, _, _, rfl, rfl, _, rfl, ?_⟩
    refine ite2 (fun c1 => ?_) (fun c1 => ?_)
    · refine ⟨_, _, rfl, rfl, _, rfl, ?_⟩
      show if (!decide ((xs.length : Int) ≤ 4)) = true then _ else _
      refine ite2 (fun c2 => ?_) (fun c2 => ?_)
      · have c2 : decide ((xs.length : Int) ≤ 4) = false := by simpa using c2
        rw [c2, Bool.false_and, Bool.and_false] at q
        exact q
      · have c2 : decide ((xs.length : Int) ≤ 4) = true := by simpa using c2
        refine ⟨_, rfl, a, rfl, ⟨xs, SqT.of ha⟩, comp_tup (K := K) (a := a) (xs := xs) (fun i ys H2 => Same H H2 ∧ i ≤ xs.length ∧ ys = ((xs.take i).map termB).map V.bl) (small1000 (by omega)) ⟨Same.refl H, Nat.zero_le _, rfl⟩ ?_ ?_ ?_⟩
        · rintro i ys H2 hi ⟨sm, _, rfl⟩
          refine ⟨SqT.of (sm _ _ ha), ?_⟩
          rw [List.length_map, List.length_map, List.length_take]
          omega
        · rintro i x ys H2 N hc ⟨sm, hi, rfl⟩ hN
          have hlt : i < xs.length := (List.getElem?_eq_some_iff.mp hc).1
          refine rd_true ?_
          refine ⟨_, rfl, fe, m, n - 1, x, rfl, (hx x (List.mem_of_getElem? hc)).keep (Ext.of sm), hm, fun H3 sm3 => hN _ _ ⟨sm.trans sm3, hlt, ?_⟩⟩
          rw [List.take_add_one, hc, List.map_append, List.map_append]
          rfl
        · rintro ys H2 ⟨sm, _, rfl⟩ l hl'
          rw [List.take_length]
          refine ⟨l, _, rfl, .inl (SqL.of upd_same), rfl, flat_B _, ?_⟩
          have q := k _ (sm.trans (same_new hl' (.lst ((xs.map termB).map V.bl))))
          rw [termsB_some e, c1, c2, Bool.true_and, Bool.true_and] at q
          show Q (.bl (!inV (.bl false) ((xs.map termB).map V.bl))) _
          rw [bl_all, Bool.not_not]
          exact q
    · rw [Bool.eq_false_iff.mpr c1, Bool.false_and] at q
      refine ⟨_, rfl, ?_⟩
      exact iteT q
end
end K01

set_option Elab.async false
set_option linter.all false
set_option maxRecDepth 100000
set_option maxHeartbeats 4000000
namespace K01
open PySem PySem.Spec PyProof.Rows L2
seal L2.PE L2.PT L2.PW L2.PA L2.PS L2.PSs L2.PI L2.PO L2.PPs L2.PG L2.PGs
/-! ## the law's own unknowns of a question -/
def addS (acc : List Str) (t : Str) : List Str := if t ∈ acc then acc else acc ++ [t]
def dedL (g : List Str) : List Str := g.foldl addS []
theorem ded_snoc (g : List Str) (t : Str) : dedL (g ++ [t]) = addS (dedL g) t := by
  unfold dedL
  rw [List.foldl_append]
  rfl
theorem mem_addF : ∀ (g acc : List Str) (z : Str), z ∈ g.foldl addS acc ↔ z ∈ acc ∨ z ∈ g
  | [], acc, z => by simp
  | t :: r, acc, z => by
    rw [List.foldl_cons, mem_addF r (addS acc t) z]
    unfold addS
    by_cases d : t ∈ acc
    · rw [if_pos d]
      constructor
      · rintro (h | h)
        · exact .inl h
        · exact .inr (List.mem_cons_of_mem _ h)
      · rintro (h | h)
        · exact .inl h
        · rcases List.mem_cons.mp h with rfl | h
          · exact .inl d
          · exact .inr h
    · rw [if_neg d]
      constructor
      · rintro (h | h)
        · rcases List.mem_append.mp h with h | h
          · exact .inl h
          · rw [List.mem_singleton.mp h]
            exact .inr List.mem_cons_self
        · exact .inr (List.mem_cons_of_mem _ h)
      · rintro (h | h)
        · exact .inl (List.mem_append_left _ h)
        · rcases List.mem_cons.mp h with rfl | h
          · exact .inl (List.mem_append_right _ (List.mem_singleton.mpr rfl))
          · exact .inr h
theorem mem_ded (g : List Str) (z : Str) : z ∈ dedL g ↔ z ∈ g := by
  unfold dedL
  rw [mem_addF]
  simp
theorem ded_len : ∀ (g acc : List Str), (g.foldl addS acc).length ≤ acc.length + g.length
  | [], acc => by simp
  | t :: r, acc => by
    have h1 := ded_len r (addS acc t)
    have h2 : (addS acc t).length ≤ acc.length + 1 := by
      unfold addS
      split
      · omega
      · rw [List.length_append]; exact Nat.le_refl _
    rw [List.foldl_cons, List.length_cons]
    omega
theorem len_ded (g : List Str) : (dedL g).length ≤ g.length := by
  have := ded_len g []
  simpa [dedL] using this
theorem addF_nodup : ∀ (g acc : List Str), acc.Nodup → (g.foldl addS acc).Nodup
  | [], acc, h => h
  | t :: r, acc, h => by
    rw [List.foldl_cons]
    refine addF_nodup r _ ?_
    unfold addS
    split
    · exact h
    · rename_i d
      rw [List.nodup_append]
      refine ⟨h, by simp, fun a ha b hb e => ?_⟩
      rw [List.mem_singleton.mp hb] at e
      exact d (e ▸ ha)
theorem ded_nodup (g : List Str) : (dedL g).Nodup := addF_nodup g [] .nil
theorem step_fold : ∀ (fl acc : List Str), fl.foldl step acc = (fl.filter isUnk).foldl addS acc
  | [], acc => rfl
  | t :: r, acc => by
    rw [List.foldl_cons, List.filter_cons, step_fold r]
    unfold step
    by_cases c : isUnk t = true
    · rw [if_pos c, if_pos c, List.foldl_cons]
      rfl
    · rw [if_neg c, if_neg c]
theorem unk_ded (fl : List Str) : unkL fl = dedL (fl.filter isUnk) := step_fold fl []
theorem unk_nodup (fl : List Str) : (unkL fl).Nodup := by
  rw [unk_ded]
  exact ded_nodup _
/-- a term begins with a "?" just when it is an unknown -/
theorem term_q {z : Str} (h : termB (.str z) = true) : Txt.startswith z "?" = isUnk z := by
  have h' : (isVal z || isUnk z) = true := h
  cases e : isVal z with
  | true =>
    rw [val_unk e]
    cases e1 : z.cps.toList with
    | nil => exact starts_none (by rw [e1]; rfl)
    | cons c r =>
      have e0 : z.cps.toList[0]? = some c := by rw [e1]; rfl
      unfold isVal at e
      rw [Bool.and_eq_true, Bool.and_eq_true] at e
      have hc : sgn c = true := List.all_eq_true.mp e.2.2 _ (List.mem_map_of_mem (by rw [e1]; exact List.mem_cons_self))
      have nc : c ≠ 63 := fun z => by
        rw [z, sgn_qm] at hc
        cases hc
      rw [starts_q e0, q_is, one_eq, beq_eq_false_iff_ne.mpr nc]
  | false =>
    rw [e, Bool.false_or] at h'
    rw [h']
    unfold isUnk at h'
    rw [Bool.and_eq_true] at h'
    exact h'.1
theorem term_fst {z : Str} (h : termB (.str z) = true) : ∃ c, z.cps.toList[0]? = some c := by
  refine first_of fun e => ?_
  rw [e] at h
  have : termB (.str "") = false := by decide +kernel
  rw [this] at h
  cases h
theorem term_ask {z : Str} (h : termB (.str z) = true) {c : Nat} (hc : z.cps.toList[0]? = some c) : decide (V.str ⟨#[c]⟩ = V.str "?") = isUnk z := by
  rw [← term_q h, starts_q hc, Bool.eq_iff_iff]
  simp
theorem cut_to (xs : List V) (j : Nat) : cutV xs none (some (j : Int)) = xs.take j := by
  unfold cutV
  rw [HT.sIx_none, HT.sIx_nat, List.drop_zero, Nat.sub_zero]
  by_cases h : j ≤ xs.length
  · rw [Nat.min_eq_left h]
  · rw [Nat.min_eq_right (by omega), List.take_length, List.take_of_length_le (by omega)]
theorem cut_from (xs : List V) (j : Nat) : cutV xs (some (j : Int)) none = xs.drop j := by
  unfold cutV
  rw [HT.sIx_none, HT.sIx_nat]
  by_cases h : j ≤ xs.length
  · rw [Nat.min_eq_left h, List.take_of_length_le (by rw [List.length_drop]; exact Nat.le_refl _)]
  · rw [Nat.min_eq_right (by omega), Nat.sub_self, List.take_zero, List.drop_of_length_le (by omega)]
section
variable {P : Program} {w : World} {K : PySem.W.Frag} {mg : Str → Option Value} {base : Heap}
theorem sc_l_unknowns : FnScope ["_law_question_here", "_law_found", "_law_name", "_law_terms"] ["_law_question_here"] (defScope s_l_unknowns) := ⟨rfl, rfl, rfl, by decide +kernel, rfl, by decide +kernel, by decide +kernel⟩
theorem ok_unknownsL {f : Addr} {fd : FuncData} (F : Fun K "_law_unknowns" "_law_unknowns" s_l_unknowns f fd) (T : Txt K mg) : FnOk P w K mg base CX0 1 f fd ["_law_question_here"] spUnks := by
  refine F.ok sc_l_unknowns (fun vs H Q E h => ?_) (fun cdv A outer s H vs Q E hr h => ?_)
  · obtain ⟨a, b, c, d, e, g, rfl, _⟩ := h
    rfl
  obtain ⟨fe, m, n, v, hd, av, rfl, hv, hm, e0, hat, k⟩ := h
  obtain ⟨q, rfl, nf, hq, _, hitems⟩ := hv.items e0
  have hav : Th fe m H (n - 1) av := hitems av (by simp)
  cases e1 : tupOf H av with
  | none =>
    rw [atomsB_none e1] at hat
    cases hat
  | some avs =>
  obtain ⟨aa, rfl, nfa, haa, hal, hax⟩ := hav.items e1
  rw [atomsB_some e1, Bool.and_eq_true, Bool.and_eq_true] at hat
  have la := of_decide_eq_true hat.2.1
  have hatom : ∀ x ∈ avs, atomB H x = true := fun x hx => List.all_eq_true.mp hat.2.2 _ (List.mem_map_of_mem hx)
  have hterm : ∀ x ∈ avs, ∀ z ∈ atStrs H x, termB (.str z) = true ∧ z.length ≤ 100 := fun x hx z hz => by
    obtain ⟨_, _, _, _, _, _, _, _, h⟩ := atom_is (hax x hx) (hatom x hx)
    exact ⟨(h z hz).2, (h z hz).1⟩
  refine ⟨_, (pss_cons (ps_set (i := 1) sc_l_unknowns.nd rfl (Or.inr rfl) (pe_lst pa_nil))
      (pss_cons (ps_for PassesOwn.never rfl (pi_tup (pe_ix ix_tup (pv 0) pe_int (fun _ _ => rfl))) (pg_tup rfl (pgs_cons (pg_name (i := 2) sc_l_unknowns.nd rfl (Or.inl rfl)) (pgs_cons (pg_name (i := 3) sc_l_unknowns.nd rfl (Or.inl rfl)) pgs_nil)))
      (pss_one (ps_expr (pe_bm PySem.F.plainAttrs_list PySem.F.slot_list_extend PySem.F.type_list_extend mt_extend (pv 1) (pa_cons (pe_compIf rfl (compSc_mk (fs := []) (fr := [])) (pi_tup (pv 3)) (fun _ _ _ _ => (pt_cmpR op_eq (pe_ix ix_str (pv 0) pe_int (fun _ _ => rfl)) pe_str (nomark _))) (fun _ _ _ _ => (pv 0))) pa_nil)))))
      (pss_one (ps_ret (pe_compIf rfl (compSc_mk (fs := ["_law_found"]) (fr := [1])) (pi_range1 rfl T.n_range (pa_cons (pe_callB call_len rfl T.n_len PySem.boot_len (pa_cons (pv 1) pa_nil)) pa_nil)) (fun _ _ _ _ => (pt_cmpR (op_notIn_seqK (K := K)) (pe_ix (ix_listK (K := K)) (pv 1) (pv 0) (fun _ _ => rfl)) (pe_slice (sl_listK (K := K)) (pv 1) po_none (po_some (pv 0))) (by with_unfolding_all rfl))) (fun _ _ _ _ => (pe_ix (ix_listK (K := K)) (pv 1) (pv 0) (fun _ _ => rfl)))))))), ?_⟩
  have l4 : ∀ i, (((avs.take i).map (atStrs H)).flatten).length ≤ 4 * 8 := fun i => by
    have h1 := len_flat4 (l := (avs.take i).map (atStrs H)) fun ts hts => by
      obtain ⟨x, hx, rfl⟩ := List.mem_map.mp hts
      have hx' := List.mem_of_mem_take hx
      obtain ⟨_, _, _, _, _, _, h, _⟩ := atom_is (hax x hx') (hatom x hx')
      exact h
    rw [List.length_map, List.length_take] at h1
    omega
  have lf : ∀ i, (((avs.take i).map (atStrs H)).flatten.filter isUnk).length ≤ 32 := fun i => Nat.le_trans (List.length_filter_le _ _) (l4 i)
  -- found = []
  refine ⟨(by show 0 ≤ sizeLine; decide), fun d hd0 => ?_⟩
  refine ⟨_, rfl, _, _, _, _, rfl, rfl, SqT.of (same_new hd0 _ _ _ hq), rfl, aa, rfl, ⟨avs, SqT.of (same_new hd0 _ _ _ haa)⟩, for_tup (K := K) (a := aa) (xs := avs)
    (fun i σ H2 => ∃ (x2 x3 : Option V), σ = [some (.ref q), some (.ref d), x2, x3] ∧ Same H H2 ∧ H2 d = some (.lst ((((avs.take i).map (atStrs H)).flatten.filter isUnk).map V.str))) ⟨none, none, rfl, same_new hd0 _, upd_same⟩ (fun i σ H2 _ ⟨_, _, _, sm, _⟩ => SqT.of (sm _ _ haa)) ?_ ?_⟩
  · rintro i x σ H2 hx ⟨x2, x3, rfl, sm, hd2⟩
    have hxm := List.mem_of_getElem? hx
    obtain ⟨p, nm, t, rfl, hp, htt, hl4, hl1, hzs⟩ := atom_is (hax x hxm) (hatom x hxm)
    have lfi := lf i
    have eflat : ((avs.take (i + 1)).map (atStrs H)).flatten = ((avs.take i).map (atStrs H)).flatten ++ atStrs H (.ref p) := by
      rw [List.take_add_one, hx]
      simp
    refine ⟨p, _, rfl, SqT.of (sm _ _ hp), rfl, _, _, rfl, _, _, rfl, rfl, ?_⟩
    refine ⟨_, rfl, .inl ⟨rfl, _, SqL.of hd2⟩, _, rfl, t, rfl, ⟨_, SqT.of (sm _ _ htt)⟩, comp_tup (K := K) (a := t) (xs := (atStrs H (.ref p)).map V.str) (fun j ys H3 => H3 = H2 ∧ j ≤ (atStrs H (.ref p)).length ∧ ys = (((atStrs H (.ref p)).take j).filter isUnk).map V.str) (by rw [List.length_map]; exact small1000 (by omega)) ⟨rfl, Nat.zero_le _, rfl⟩ ?_ ?_ ?_⟩
    · rintro j ys H3 hj ⟨rfl, _, rfl⟩
      refine ⟨SqT.of (sm _ _ htt), ?_⟩
      rw [List.length_map]
      refine Nat.le_trans (List.length_filter_le _ _) ?_
      rw [List.length_take]
      omega
    · rintro j y ys H3 N hc ⟨rfl, hj, rfl⟩ hN
      obtain ⟨z, hz, rfl⟩ : ∃ z, (atStrs H (.ref p))[j]? = some z ∧ y = V.str z := by
        rw [List.getElem?_map] at hc
        cases e : (atStrs H (.ref p))[j]? with
        | none => rw [e] at hc; cases hc
        | some z => rw [e] at hc; exact ⟨z, rfl, (Option.some.inj hc).symm⟩
      have hj' : j < (atStrs H (.ref p)).length := (List.getElem?_eq_some_iff.mp hz).1
      have hzz := hzs z (List.mem_of_getElem? hz)
      obtain ⟨c, hcz⟩ := term_fst hzz.2
      have ei : atI z.cps.toList 0 = some c := atI_nat (j := 0) hcz
      refine ⟨_, rfl, _, _, _, rfl, rfl, Nat.le_of_lt (small1000 (by omega)), ei, rfl, _, rfl, ?_⟩
      rw [term_ask hzz.2 hcz]
      refine ite2 (fun c1 => ?_) (fun c1 => ?_)
      · refine ⟨_, rfl, hN _ _ ⟨rfl, hj', ?_⟩⟩
        rw [filter_take hz, if_pos c1, List.map_append]
        rfl
      · refine hN _ _ ⟨rfl, hj', ?_⟩
        rw [filter_take hz, if_neg c1, List.append_nil]
    · rintro ys H3 ⟨rfl, _, rfl⟩ l hl
      rw [List.length_map, List.take_length]
      have nl : d ≠ l := ne_of_none hd2 hl
      refine ⟨_, _, _, _, rfl, rfl, by rw [upd_ne nl]; exact hd2, upd_same, ?_, ?_⟩
      · rw [List.length_map, List.length_map]
        have := Nat.le_trans (List.length_filter_le isUnk (atStrs H (.ref p))) hl4
        exact Nat.le_of_lt (small1000 (by omega))
      · refine ⟨_, _, rfl, fun b u e => ?_, ?_⟩
        · rw [upd_ne (ne_of_none e hd0)]
          exact same_new hl _ _ _ (sm _ _ e)
        · rw [upd_same, eflat, List.filter_append, List.map_append]
  · rintro σ H2 ⟨x2, x3, rfl, sm, hd2⟩
    rw [List.take_length] at hd2
    have lfa := lf avs.length
    rw [List.take_length] at lfa
    have efl : unkL (flatOf H (.ref aa)) = dedL ((avs.map (atStrs H)).flatten.filter isUnk) := by
      rw [unk_ded]
      unfold flatOf
      rw [e1]
      rfl
    rw [efl] at k
    generalize (avs.map (atStrs H)).flatten.filter isUnk = g at hd2 lfa k
    have lg : (g.map V.str).length = g.length := List.length_map _
    refine ⟨_, rfl, _, _, rfl, .inl ⟨_, SqL.of hd2, rfl⟩, _, rfl, by omega, by omega, fun j m' ys H3 => j ≤ g.length ∧ m' = g.length - j ∧ Same H2 H3 ∧ ys = (dedL (g.take j)).map V.str, ⟨_, Nat.zero_le _, rfl, Same.refl _, rfl⟩, ?_⟩
    rintro j m' ys H3 ⟨hj, rfl, sm3, rfl⟩
    have ly : ((dedL (g.take j)).map V.str).length ≤ 32 := by
      rw [List.length_map]
      refine Nat.le_trans (len_ded _) ?_
      rw [List.length_take]
      omega
    by_cases hlt : j < g.length
    · refine .inr ⟨by show j < ((g.map V.str).length : Int).toNat; omega, small1000 (by omega), ?_⟩
      rintro v H4 ⟨rfl, rfl⟩
      have hd4 := sm3 _ _ hd2
      obtain ⟨z, hz⟩ : ∃ z, g[j]? = some z := ⟨_, List.getElem?_eq_getElem hlt⟩
      have ev : atI (g.map V.str) (0 + (j : Int)) = some (.str z) := by
        rw [Int.zero_add]
        exact atI_nat (by rw [List.getElem?_map, hz]; rfl)
      refine ⟨_, rfl, _, rfl, _, _, _, _, rfl, rfl, SqL.of hd4, ev, ?_⟩
      refine ⟨_, rfl, noPart ⟨_, rfl, _, rfl, _, _, rfl, SqL.of hd4, fun p hp => ?_⟩⟩
      have ec : cutV (g.map V.str) none (some (0 + (j : Int))) = (g.take j).map V.str := by
        rw [Int.zero_add, cut_to, List.map_take]
      rw [ec]
      refine ⟨p, _, rfl, .inl (SqL.of upd_same), rfl, flat_V _, _, rfl, ?_⟩
      have sm5 : Same H2 (upd H4 p (.lst ((g.take j).map V.str))) := sm3.trans (same_new hp _)
      have et : g.take (j + 1) = g.take j ++ [z] := by rw [List.take_add_one, hz]; rfl
      show if (!inV (.str z) ((g.take j).map V.str)) = true then _ else _
      rw [inV_str]
      refine ite2 (fun c1 => ?_) (fun c1 => ?_)
      · have c1 : z ∉ g.take j := by simpa using c1
        refine ⟨_, rfl, _, rfl, _, _, _, _, rfl, rfl, SqL.of (sm5 _ _ hd2), ev, ?_⟩
        refine ⟨_, by omega, hlt, rfl, sm5, ?_⟩
        rw [et, ded_snoc]
        unfold addS
        rw [if_neg (fun h => c1 ((mem_ded _ _).mp h)), List.map_append]
        rfl
      · have c1 : z ∈ g.take j := by simpa using c1
        refine ⟨_, by omega, hlt, rfl, sm5, ?_⟩
        rw [et, ded_snoc]
        unfold addS
        rw [if_pos ((mem_ded _ _).mpr c1)]
    · have ej : j = g.length := by omega
      refine .inl ⟨by show ((g.map V.str).length : Int).toNat ≤ j; omega, Nat.le_of_lt (small1000 (by omega)), fun l hl => ?_⟩
      refine k l _ ((sm.trans sm3).trans (same_new hl _)) ((sm.trans sm3).free hl) ?_
      rw [upd_same, ej, List.take_length]
end
end K01

set_option Elab.async false
set_option linter.all false
set_option maxRecDepth 100000
set_option maxHeartbeats 4000000
namespace K01
open PySem PySem.Spec PyProof.Rows L2
seal L2.PE L2.PT L2.PW L2.PA L2.PS L2.PSs L2.PI L2.PO L2.PPs L2.PG L2.PGs
/-! ## the law's own look at a question -/
def qB : V → Bool
  | .str z => isUnk z
  | _ => false
theorem filter_map_take {α β : Type} {g : α → Bool} {h : α → β} {l : List α} {i : Nat} {x : α} (e : l[i]? = some x) : ((l.take (i + 1)).filter g).map h = ((l.take i).filter g).map h ++ (if g x = true then [h x] else []) := by
  rw [filter_take e, List.map_append]
  split <;> rfl
/-- the head's terms: the program's word, the law's word -/
theorem head_all {U : List Str} {hs : List V} (h : (hs.map termB).all id = true) : ((hs.filter qB).map fun t => inV t (U.map V.str)).all id = (hs.map fun t => valB t || inV t (U.map V.str)).all id := by
  induction hs with
  | nil => rfl
  | cons t r ih =>
    rw [List.map_cons, List.all_cons, Bool.and_eq_true] at h
    have ih := ih h.2
    rw [List.map_cons, List.all_cons, List.filter_cons, ← ih]
    have h1 : termB t = true := h.1
    cases t with
    | str z =>
      have h2 : (isVal z || isUnk z) = true := h1
      by_cases c : isUnk z = true
      · have c2 : isVal z = false := by
          cases e : isVal z with
          | false => rfl
          | true =>
            rw [val_unk e] at c
            cases c
        rw [if_pos (show qB (.str z) = true from c), List.map_cons, List.all_cons]
        show (inV (.str z) (U.map V.str) && _) = ((isVal z || inV (.str z) (U.map V.str)) && _)
        rw [c2, Bool.false_or]
      · have c2 : isVal z = true := by
          rw [Bool.eq_false_iff.mpr c, Bool.or_false] at h2
          exact h2
        rw [if_neg (show ¬ qB (.str z) = true from c)]
        show _ = ((isVal z || inV (.str z) (U.map V.str)) && _)
        rw [c2, Bool.true_or, Bool.true_and]
    | _ => exact absurd h1 Bool.false_ne_true
theorem term_str {fe : Addr} {m n : Nat} {H : Hp} {x : V} (hx : Th fe m H n x) (h : termB x = true) : ∃ z : Str, x = V.str z ∧ z.length ≤ 100 := by
  cases x with
  | str z =>
    obtain ⟨y, ey, hy⟩ := hx.isStr rfl
    cases ey
    exact ⟨z, rfl, hy⟩
  | _ => exact absurd h Bool.false_ne_true
section
variable {P : Program} {w : World} {K : PySem.W.Frag} {mg : Str → Option Value} {base : Heap}
structure Mq (P : Program) (w : World) (K : PySem.W.Frag) (mg : Str → Option Value) (base : Heap) : Prop extends Mt P w K mg base where
  l_are_terms : DefOk P w K mg base 3 "_law_are_terms" ["_law_thing", "_law_least_many"] spTerms
  l_unknowns : DefOk P w K mg base 1 "_law_unknowns" ["_law_question_here"] spUnks
theorem sc_l_is_question : FnScope ["_law_thing", "_law_atom_here", "_law_some"] ["_law_thing"] (defScope s_l_is_question) := ⟨rfl, rfl, rfl, by decide +kernel, rfl, by decide +kernel, by decide +kernel⟩
theorem ok_isQuestion {f : Addr} {fd : FuncData} (F : Fun K "_law_is_question" "_law_is_question" s_l_is_question f fd) (T : Txt K mg) (D : Mq P w K mg base) : FnOk P w K mg base CX0 4 f fd ["_law_thing"] (spIs questB) := by
  refine F.ok sc_l_is_question (fun vs H Q E h => ?_) (fun cdv A outer s H vs Q E hr h => ?_)
  · obtain ⟨a, b, c, d, rfl, _⟩ := h
    rfl
  obtain ⟨fe, m, n, v, rfl, hv, hm, k⟩ := h
  refine ⟨_, (pss_cons (ps_if (PW.pt (pw_or (pt_not (pt_val (pe_callB call_isinst rfl T.n_isinstance (by decide +kernel) (pa_cons (pv 0) (pa_cons (pe_ty (n := "tuple") rfl T.n_tuple (by decide +kernel)) pa_nil))))) (pw_or (pt_cmpR op_ne (pe_callB call_len rfl T.n_len PySem.boot_len (pa_cons (pv 0) pa_nil)) pe_int (nomark _)) (pw_or1 (pt_not (pt_val (cl D.l_are_terms hr (pa_cons (pe_ix ix_tup (pv 0) pe_int (fun _ _ => rfl)) (pa_cons pe_int pa_nil))))))))) (pss_one (ps_ret pe_bl)) pss_nil)
      (pss_cons (ps_if (PW.pt (pw_or (pt_not (pt_val (pe_callB call_isinst rfl T.n_isinstance (by decide +kernel) (pa_cons (pe_ix ix_tup (pv 0) pe_int (fun _ _ => rfl)) (pa_cons (pe_ty (n := "tuple") rfl T.n_tuple (by decide +kernel)) pa_nil))))) (pw_or1 (pt_not (pt_chain op_lt op_lt pe_int (pe_callB call_len rfl T.n_len PySem.boot_len (pa_cons (pe_ix ix_tup (pv 0) pe_int (fun _ _ => rfl)) pa_nil)) pe_int))))) (pss_one (ps_ret pe_bl)) pss_nil)
      (pss_cons (ps_for PassesOwn.never rfl (pi_tup (pe_ix ix_tup (pv 0) pe_int (fun _ _ => rfl))) (pg_name (i := 1) sc_l_is_question.nd rfl (Or.inl rfl))
      (pss_cons (ps_if (PW.pt (pw_or (pt_not (pt_val (pe_callB call_isinst rfl T.n_isinstance (by decide +kernel) (pa_cons (pv 1) (pa_cons (pe_ty (n := "tuple") rfl T.n_tuple (by decide +kernel)) pa_nil))))) (pw_or (pt_cmpR op_ne (pe_callB call_len rfl T.n_len PySem.boot_len (pa_cons (pv 1) pa_nil)) pe_int (nomark _)) (pw_or1 (pt_not (pt_val (cl D.l_is_value hr (pa_cons (pe_ix ix_tup (pv 1) pe_int (fun _ _ => rfl)) pa_nil)))))))) (pss_one (ps_ret pe_bl)) pss_nil)
      (pss_one (ps_if (pt_not (pt_val (cl D.l_are_terms hr (pa_cons (pe_ix ix_tup (pv 1) pe_int (fun _ _ => rfl)) (pa_cons pe_int pa_nil))))) (pss_one (ps_ret pe_bl)) pss_nil))))
      (pss_cons (ps_set (i := 2) sc_l_is_question.nd rfl (Or.inr rfl) (cl D.l_unknowns hr (pa_cons (pv 0) pa_nil)))
      (pss_one (ps_ret (pe_cmpR op_notIn_seq pe_bl (pe_compIf rfl (compSc_mk (fs := ["_law_some"]) (fr := [2])) (pi_tup (pe_ix ix_tup (pv 0) pe_int (fun _ _ => rfl))) (fun _ _ _ _ => (pt_cmpR op_eq (pe_ix ix_str (pv 0) pe_int (fun _ _ => rfl)) pe_str (nomark _))) (fun _ _ _ _ => (pe_cmpR (op_in_seqK (K := K)) (pv 0) (pv 1) (by with_unfolding_all rfl)))) (by with_unfolding_all rfl)))))))), ?_⟩
  obtain ⟨t, ty, e1, e2⟩ := ty_of (K := K) hv
  refine ⟨_, rfl, _, _, _, _, rfl, ty, e2, _, rfl, ?_⟩
  have q := k H (Same.refl H)
  cases e : tupOf H v with
  | none =>
    rw [questB_not (pairB_none e)] at q
    exact iteT (iteT q)
  | some xs =>
  obtain ⟨a, rfl, nf, ha, hl, hx⟩ := hv.items e
  refine iteF ?_
  refine ⟨_, rfl, _, _, rfl, .inr ⟨_, SqT.of ha, rfl⟩, rfl, _, rfl, ?_⟩
  have ed : (!decide (V.int (xs.length : Int) = V.int 2)) = !pairB H (.ref a) := by
    rw [pairB_some e]
    simp
  rw [ed]
  refine ite2 (fun c1 => ?_) (fun c1 => ?_)
  · rw [questB_not (by simpa using c1)] at q
    exact iteT q
  obtain ⟨hd, av, e'⟩ := pairB_yes (H := H) (v := .ref a) (by simpa using c1)
  rw [e] at e'
  cases e'
  have e0 := questB_pair e
  have hh : Th fe m H (n - 1) hd := hx hd (by simp)
  have hav : Th fe m H (n - 1) av := hx av (by simp)
  refine ⟨_, rfl, _, _, _, _, rfl, rfl, SqT.of ha, rfl, fe, m, n - 1, hd, 0, rfl, hh, hm, fun H1 sm1 => ⟨_, rfl, ?_⟩⟩
  refine ite2 (fun c2 => ?_) (fun c2 => ?_)
  · have q := k H1 sm1
    rw [e0, show termsB H 0 hd = false by simpa using c2, Bool.false_and] at q
    exact q
  have c2 : termsB H 0 hd = true := by simpa using c2
  -- if not isinstance(thing[1], tuple) or not 0 < len(thing[1]) < 9
  obtain ⟨t1, ty1, _, e21⟩ := ty_of (K := K) (hav.keep (Ext.of sm1))
  rw [hav.tupOf (Ext.of sm1)] at e21
  refine ⟨_, rfl, _, _, _, _, rfl, rfl, SqT.of (sm1 _ _ ha), rfl, _, _, _, _, rfl, ty1, e21, _, rfl, ?_⟩
  cases ea : tupOf H av with
  | none =>
    have q := k H1 sm1
    rw [e0, atomsB_none ea, Bool.false_and, Bool.and_false] at q
    exact iteT (iteT q)
  | some avs =>
  obtain ⟨aa, rfl, nfa, haa, hal, hax⟩ := hav.items ea
  refine iteF ?_
  refine ⟨_, rfl, _, _, _, _, rfl, rfl, SqT.of (sm1 _ _ ha), rfl, _, _, rfl, .inr ⟨_, SqT.of (sm1 _ _ haa), rfl⟩, _, _, rfl, rfl, _, rfl, ?_⟩
  have bad : ∀ H', Same H H' → atomsB H (.ref aa) = false → Q (.bl false) H' := fun H' sm h => by
    have q := k H' sm
    rw [e0, h, Bool.false_and, Bool.and_false] at q
    exact q
  refine ite2 (fun c3 => ?_) (fun c3 => ?_)
  case refine_2 =>
    refine ⟨_, rfl, ?_⟩
    refine iteT ?_
    have c3 : ¬ decide ((0 : Int) < (avs.length : Int)) = true := c3
    have c3' : ¬ ((0 : Int) < (avs.length : Int)) := fun h => c3 (decide_eq_true h)
    exact bad H1 sm1 (by rw [atomsB_some ea, decide_eq_false (p := (1 : Int) ≤ (avs.length : Int)) (by omega), Bool.false_and])
  have c3 : (0 : Int) < (avs.length : Int) := of_decide_eq_true c3
  refine ⟨_, _, rfl, rfl, _, rfl, ?_⟩
  show if (!decide ((avs.length : Int) < 9)) = true then _ else _
  refine ite2 (fun c4 => ?_) (fun c4 => ?_)
  · have c4 : ¬ ((avs.length : Int) < 9) := by simpa using c4
    exact bad H1 sm1 (by rw [atomsB_some ea, decide_eq_false (p := (avs.length : Int) ≤ 8) (by omega), Bool.false_and, Bool.and_false])
  have c4 : (avs.length : Int) < 9 := by simpa using c4
  have eat : atomsB H (.ref aa) = (avs.map (atomB H)).all id := by
    rw [atomsB_some ea, decide_eq_true (p := (1 : Int) ≤ (avs.length : Int)) (by omega), decide_eq_true (p := (avs.length : Int) ≤ 8) (by omega), Bool.true_and, Bool.true_and]
  have bad1 : ∀ H' x, Same H H' → x ∈ avs → atomB H x = false → Q (.bl false) H' := fun H' x sm hx h => bad H' sm (by
    rw [eat]
    refine Bool.eq_false_iff.mpr fun h' => ?_
    have h2 : atomB H x = true := List.all_eq_true.mp h' _ (List.mem_map_of_mem hx)
    rw [h] at h2
    cases h2)
  -- the atoms
  refine ⟨_, rfl, _, _, _, _, rfl, rfl, SqT.of (sm1 _ _ ha), rfl, aa, rfl, ⟨avs, SqT.of (sm1 _ _ haa)⟩, for_tup (K := K) (a := aa) (xs := avs)
    (fun i σ H4 => ∃ x1 : Option V, σ = [some (.ref a), x1, none] ∧ Same H H4 ∧ ∀ x ∈ avs.take i, atomB H x = true) ⟨none, rfl, sm1, fun t h => by cases h⟩ (fun i σ H4 _ ⟨_, _, sm, _⟩ => SqT.of (sm _ _ haa)) ?_ ?_⟩
  · rintro i x σ H4 hc ⟨x1, rfl, sm4, hall⟩
    have hxm := List.mem_of_getElem? hc
    have hxt := hax x hxm
    obtain ⟨tx, tyx, _, e2x⟩ := ty_of (K := K) (hxt.keep (Ext.of sm4))
    rw [hxt.tupOf (Ext.of sm4)] at e2x
    refine ⟨_, rfl, _, _, _, _, rfl, tyx, e2x, _, rfl, ?_⟩
    cases ex : tupOf H x with
    | none => exact iteT (iteT (bad1 H4 x sm4 hxm (atomB_not (pairB_none ex))))
    | some ys =>
    obtain ⟨p, rfl, nfp, hp, hpl, hpx⟩ := hxt.items ex
    refine iteF ?_
    refine ⟨_, rfl, _, _, rfl, .inr ⟨_, SqT.of (sm4 _ _ hp), rfl⟩, rfl, _, rfl, ?_⟩
    have ed : (!decide (V.int (ys.length : Int) = V.int 2)) = !pairB H (.ref p) := by
      rw [pairB_some ex]
      simp
    rw [ed]
    refine ite2 (fun d1 => ?_) (fun d1 => ?_)
    · exact iteT (bad1 H4 _ sm4 hxm (atomB_not (by simpa using d1)))
    obtain ⟨nm, tt, e'⟩ := pairB_yes (H := H) (v := .ref p) (by simpa using d1)
    rw [ex] at e'
    cases e'
    have eab := atomB_pair ex
    have hn1 : Th fe m H (n - 1 - 1 - 1) nm := hpx nm (by simp)
    have ht1 : Th fe m H (n - 1 - 1 - 1) tt := hpx tt (by simp)
    refine ⟨_, rfl, _, _, _, _, rfl, rfl, SqT.of (sm4 _ _ hp), rfl, fe, m, _, nm, rfl, hn1.keep (Ext.of sm4), hm, fun H5 sm5 => ⟨_, rfl, ?_⟩⟩
    have sm5 := sm4.trans sm5
    refine ite2 (fun d2 => ?_) (fun d2 => ?_)
    · have d2 : valB nm = false := by simpa using d2
      exact bad1 H5 _ sm5 hxm (by rw [eab, d2, Bool.false_and])
    have d2 : valB nm = true := by simpa using d2
    refine ⟨_, rfl, _, _, _, _, rfl, rfl, SqT.of (sm5 _ _ hp), rfl, fe, m, _, tt, 1, rfl, ht1.keep (Ext.of sm5), hm, fun H6 sm6 => ⟨_, rfl, ?_⟩⟩
    have sm6 := sm5.trans sm6
    rw [ht1.terms (Ext.of sm5)]
    refine ite2 (fun d3 => ?_) (fun d3 => ?_)
    · have d3 : termsB H 1 tt = false := by simpa using d3
      exact bad1 H6 _ sm6 hxm (by rw [eab, d3, Bool.and_false])
    have d3 : termsB H 1 tt = true := by simpa using d3
    refine ⟨_, rfl, sm6, fun y hy => ?_⟩
    rw [List.take_add_one, hc] at hy
    rcases List.mem_append.mp hy with hy | hy
    · exact hall y hy
    · rw [List.mem_singleton.mp hy, eab, d2, d3]
      rfl
  · rintro σ H4 ⟨x1, rfl, sm4, hall⟩
    rw [List.take_length] at hall
    have c5 : atomsB H (.ref aa) = true := by
      rw [eat]
      refine List.all_eq_true.mpr fun b hb => ?_
      obtain ⟨x, hx, rfl⟩ := List.mem_map.mp hb
      exact hall x hx
    refine ⟨_, rfl, fe, m, n, _, hd, _, rfl, hv.keep (Ext.of sm4), hm, (hv.tupOf (Ext.of sm4)).trans e, (hav.atoms (Ext.of sm4)).trans c5, fun r H5 sm5 nr hr5 => ?_⟩
    rw [flatOf_keep hav (Ext.of sm4)] at hr5
    have smt := sm4.trans sm5
    cases eh : tupOf H hd with
    | none =>
      rw [termsB_none eh] at c2
      cases c2
    | some hs =>
    obtain ⟨hda, rfl, nfh, hha, hhl, hhx⟩ := hh.items eh
    have c2' := c2
    rw [termsB_some eh, Bool.and_eq_true, Bool.and_eq_true] at c2'
    have e00 : questB H (.ref a) = ((hs.filter qB).map fun t => inV t ((unkL (flatOf H (.ref aa))).map V.str)).all id := by
      rw [e0, c2, c5, Bool.true_and, Bool.true_and, head_all c2'.2.2]
      unfold headB
      rw [eh]
      rfl
    generalize unkL (flatOf H (.ref aa)) = U at hr5 e00
    refine ⟨_, rfl, _, _, _, _, rfl, rfl, SqT.of (smt _ _ ha), rfl, hda, rfl, ⟨hs, SqT.of (smt _ _ hha)⟩, comp_tup (K := K) (a := hda) (xs := hs) (fun i ys H6 => H6 = H5 ∧ i ≤ hs.length ∧ ys = (((hs.take i).filter qB).map fun t => inV t (U.map V.str)).map V.bl) (small1000 (by omega)) ⟨rfl, Nat.zero_le _, rfl⟩ ?_ ?_ ?_⟩
    · rintro i ys H6 hi ⟨rfl, _, rfl⟩
      refine ⟨SqT.of (smt _ _ hha), ?_⟩
      rw [List.length_map, List.length_map]
      refine Nat.le_trans (List.length_filter_le _ _) ?_
      rw [List.length_take]
      omega
    · rintro i x ys H6 N hc ⟨rfl, hi, rfl⟩ hN
      have hlt : i < hs.length := (List.getElem?_eq_some_iff.mp hc).1
      have hxm := List.mem_of_getElem? hc
      have hsx : termB x = true := List.all_eq_true.mp c2'.2.2 _ (List.mem_map_of_mem hxm)
      obtain ⟨z, rfl, hz⟩ := term_str (hhx x hxm) hsx
      obtain ⟨c, hcz⟩ := term_fst hsx
      have ei : atI z.cps.toList 0 = some c := atI_nat (j := 0) hcz
      refine ⟨_, rfl, _, _, _, rfl, rfl, Nat.le_of_lt (small1000 (by omega)), ei, rfl, _, rfl, ?_⟩
      rw [term_ask hsx hcz]
      refine ite2 (fun d1 => ?_) (fun d1 => ?_)
      · refine ⟨_, rfl, _, rfl, r, _, rfl, .inl (SqL.of hr5), rfl, flat_V _, hN _ _ ⟨rfl, hlt, ?_⟩⟩
        rw [filter_map_take hc, if_pos (show qB (.str z) = true from d1), List.map_append]
        rfl
      · refine hN _ _ ⟨rfl, hlt, ?_⟩
        rw [filter_map_take hc, if_neg (show ¬ qB (.str z) = true from d1), List.append_nil]
    · rintro ys H6 ⟨rfl, _, rfl⟩ l hl'
      rw [List.take_length]
      refine ⟨l, _, rfl, .inl (SqL.of upd_same), rfl, flat_B _, ?_⟩
      have q := k _ (smt.trans (same_new hl' (.lst (((hs.filter qB).map fun t => inV t (U.map V.str)).map V.bl))))
      rw [e00] at q
      show Q (.bl (!inV (.bl false) (((hs.filter qB).map fun t => inV t (U.map V.str)).map V.bl))) _
      rw [bl_all, Bool.not_not]
      exact q
end
end K01

set_option Elab.async false
set_option linter.all false
set_option maxRecDepth 100000
set_option maxHeartbeats 4000000
namespace K01
open PySem PySem.Spec PyProof.Rows L2
seal L2.PE L2.PT L2.PW L2.PA L2.PS L2.PSs L2.PI L2.PO L2.PPs L2.PG L2.PGs
/-! ## views: what they are, the law's own look -/
def lstOf (H : Hp) : V → Option (List V)
  | .ref a => match H a with
    | some (.lst xs) => some xs
    | _ => none
  | _ => none
theorem lstOf_eq {H : Hp} (a : Addr) : lstOf H (.ref a) = (match H a with | some (.lst xs) => some xs | _ => none) := rfl
theorem lstOf_ref {H : Hp} {a : Addr} {xs : List V} (h : H a = some (.lst xs)) : lstOf H (.ref a) = some xs := by
  rw [lstOf_eq, h]
def strsV (hs : List V) : List Str := hs.filterMap strOf
theorem strsV_map (zs : List Str) : strsV (zs.map V.str) = zs := by
  unfold strsV
  induction zs with
  | nil => rfl
  | cons z r ih =>
    rw [List.map_cons, List.filterMap_cons]
    show z :: List.filterMap strOf (r.map V.str) = _
    rw [ih]
theorem strsV_app (a b : List V) : strsV (a ++ b) = strsV a ++ strsV b := List.filterMap_append
def vheadB (hs : List V) : Bool := !hs.isEmpty && ((hs.map qB).all id && decide (strsV hs).Nodup)
def headOf (H : Hp) (v : V) : List V := match tupOf H v with
  | some [h, _] => (tupOf H h).getD []
  | _ => []
def viewB (H : Hp) (v : V) : Bool := match tupOf H v with
  | some [n, q] => valB n && (questB H q && vheadB (headOf H q))
  | _ => false
def nameV (H : Hp) (v : V) : V := match tupOf H v with
  | some [n, _] => n
  | _ => .non
def viewsB (H : Hp) (v : V) : Bool := match lstOf H v with
  | some xs => (xs.map (viewB H)).all id && decide (strsV (xs.map (nameV H))).Nodup
  | none => false
theorem viewsB_some {H : Hp} {v : V} {xs : List V} (e : lstOf H v = some xs) : viewsB H v = ((xs.map (viewB H)).all id && decide (strsV (xs.map (nameV H))).Nodup) := by
  unfold viewsB
  rw [e]
theorem viewsB_none {H : Hp} {v : V} (e : lstOf H v = none) : viewsB H v = false := by
  unfold viewsB
  rw [e]
theorem viewB_pair {H : Hp} {v x q : V} (e : tupOf H v = some [x, q]) : viewB H v = (valB x && (questB H q && vheadB (headOf H q))) := by
  unfold viewB
  rw [e]
theorem nameV_pair {H : Hp} {v x q : V} (e : tupOf H v = some [x, q]) : nameV H v = x := by
  unfold nameV
  rw [e]
theorem headOf_pair {H : Hp} {v h a : V} {hs : List V} (e : tupOf H v = some [h, a]) (e' : tupOf H h = some hs) : headOf H v = hs := by
  unfold headOf
  rw [e]
  show (tupOf H h).getD [] = hs
  rw [e']
  rfl
theorem viewB_not {H : Hp} {v : V} (e : pairB H v = false) : viewB H v = false := by
  unfold viewB
  cases q : tupOf H v with
  | none => rfl
  | some xs =>
    rw [pairB_some q] at e
    match xs, e with
    | [], _ => rfl
    | [_], _ => rfl
    | [_, _], e => simp at e
    | _ :: _ :: _ :: _, _ => rfl
theorem Th.quest {f : Addr} {m n : Nat} {H H' : Hp} {v : V} (hv : Th f m H n v) (e : Ext f H H') : questB H' v = questB H v := by
  unfold questB
  rw [hv.tupOf e]
  cases q : K01.tupOf H v with
  | none => rfl
  | some xs =>
    obtain ⟨a, _, _, _, _, hx⟩ := hv.items q
    match xs, hx with
    | [], _ => rfl
    | [_], _ => rfl
    | [h, a], hx =>
      have hh := hx h (by simp)
      have ha := hx a (by simp)
      show (termsB H' 0 h && (atomsB H' a && headB H' h a)) = (termsB H 0 h && (atomsB H a && headB H h a))
      unfold headB
      rw [hh.terms e, ha.atoms e, hh.tupOf e, flatOf_keep ha e]
    | _ :: _ :: _ :: _, _ => rfl
theorem Th.head {f : Addr} {m n : Nat} {H H' : Hp} {v : V} (hv : Th f m H n v) (e : Ext f H H') : headOf H' v = headOf H v := by
  unfold headOf
  rw [hv.tupOf e]
  cases q : K01.tupOf H v with
  | none => rfl
  | some xs =>
    obtain ⟨a, _, _, _, _, hx⟩ := hv.items q
    match xs, hx with
    | [], _ => rfl
    | [_], _ => rfl
    | [h, a], hx =>
      show (K01.tupOf H' h).getD [] = (K01.tupOf H h).getD []
      rw [(hx h (by simp)).tupOf e]
    | _ :: _ :: _ :: _, _ => rfl
theorem Th.view {f : Addr} {m n : Nat} {H H' : Hp} {v : V} (hv : Th f m H n v) (e : Ext f H H') : viewB H' v = viewB H v := by
  unfold viewB
  rw [hv.tupOf e]
  cases q : K01.tupOf H v with
  | none => rfl
  | some xs =>
    obtain ⟨a, _, _, _, _, hx⟩ := hv.items q
    match xs, hx with
    | [], _ => rfl
    | [_], _ => rfl
    | [x, y], hx =>
      show (valB x && (questB H' y && vheadB (headOf H' y))) = (valB x && (questB H y && vheadB (headOf H y)))
      rw [(hx y (by simp)).quest e, (hx y (by simp)).head e]
    | _ :: _ :: _ :: _, _ => rfl
theorem Th.nameV {f : Addr} {m n : Nat} {H H' : Hp} {v : V} (hv : Th f m H n v) (e : Ext f H H') : nameV H' v = nameV H v := by
  unfold K01.nameV
  rw [hv.tupOf e]
/-- a plain thing, or a list of plain things -/
def Tv (f : Addr) (m : Nat) (H : Hp) (n : Nat) (v : V) : Prop := (∃ a xs, v = .ref a ∧ a ≠ f ∧ H a = some (.lst xs) ∧ xs.length ≤ m ∧ ∀ x ∈ xs, Th f m H n x) ∨ (lstOf H v = none ∧ Th f m H n v)
theorem Th.lstOf {f : Addr} {m n : Nat} {H H' : Hp} {v : V} (h : Th f m H n v) (e : Ext f H H') (q : lstOf H v = none) : lstOf H' v = none := by
  cases n with
  | zero => exact h.elim
  | succ n =>
    rcases h with rfl | ⟨b, rfl⟩ | ⟨i, rfl⟩ | ⟨z, rfl, _⟩ | ⟨a, ys, rfl, nf, h⟩ | ⟨a, kvs, rfl, nf, h⟩ | ⟨a, ys, rfl, nf, h, hl, hx⟩
    · rfl
    · rfl
    · rfl
    · rfl
    · rw [lstOf_ref h] at q
      cases q
    · rw [lstOf_eq, e _ _ nf h]
    · rw [lstOf_eq, e _ _ nf h]
theorem Tv.keep {f : Addr} {m n : Nat} {H H' : Hp} {v : V} (h : Tv f m H n v) (e : Ext f H H') : Tv f m H' n v := by
  rcases h with ⟨a, xs, rfl, nf, h, hl, hx⟩ | ⟨h1, h2⟩
  · exact .inl ⟨a, xs, rfl, nf, e _ _ nf h, hl, fun x q => (hx x q).keep e⟩
  · exact .inr ⟨h2.lstOf e h1, h2.keep e⟩
theorem Tv.views {f : Addr} {m n : Nat} {H H' : Hp} {v : V} (h : Tv f m H n v) (e : Ext f H H') : viewsB H' v = viewsB H v := by
  rcases h with ⟨a, xs, rfl, nf, h, hl, hx⟩ | ⟨h1, h2⟩
  · rw [viewsB_some (lstOf_ref h), viewsB_some (lstOf_ref (e _ _ nf h)), List.map_congr_left fun x q => (hx x q).view e, List.map_congr_left fun x q => (hx x q).nameV e]
  · rw [viewsB_none h1, viewsB_none (h2.lstOf e h1)]
theorem ty_ofL {K : PySem.W.Frag} {f : Addr} {m n : Nat} {H : Hp} {v : V} (h : Tv f m H n v) : ∃ t, TyOf K H v t ∧ PySem.W.kitOne K t (.type "list") = some (lstOf H v).isSome := by
  rcases h with ⟨a, xs, rfl, nf, h, hl, hx⟩ | ⟨h1, h⟩
  · refine ⟨_, .lst h, ?_⟩
    rw [lstOf_ref h]
    rfl
  rw [h1]
  cases n with
  | zero => exact h.elim
  | succ n =>
    rcases h with rfl | ⟨b, rfl⟩ | ⟨i, rfl⟩ | ⟨z, rfl, hz⟩ | ⟨a, ys, rfl, nf, h⟩ | ⟨a, kvs, rfl, nf, h⟩ | ⟨a, ys, rfl, nf, h, hl, hx⟩
    · exact ⟨_, .non, by rfl⟩
    · exact ⟨_, .bl b, by rfl⟩
    · exact ⟨_, .int i, by rfl⟩
    · exact ⟨_, .str z, by rfl⟩
    · rw [lstOf_ref h] at h1
      cases h1
    · exact ⟨_, .dK h, by rfl⟩
    · exact ⟨_, .tup h, by rfl⟩
def spViews (g : Hp → V → Bool) : Sp := fun vs H Q _ => ∃ (f : Addr) (m n : Nat) (v : V), vs = [v] ∧ Tv f m H n v ∧ m ≤ 100 ∧ ∀ H', Same H H' → Q (.bl (g H v)) H'
theorem nd_snoc {l : List Str} {z : Str} : (l ++ [z]).Nodup ↔ l.Nodup ∧ z ∉ l := by
  rw [List.nodup_append]
  constructor
  · rintro ⟨h1, _, h3⟩
    exact ⟨h1, fun h => h3 z h z (List.mem_singleton.mpr rfl) rfl⟩
  · rintro ⟨h1, h2⟩
    refine ⟨h1, by simp, fun a ha b hb e => ?_⟩
    rw [List.mem_singleton.mp hb] at e
    exact h2 (e ▸ ha)
section
variable {P : Program} {w : World} {K : PySem.W.Frag} {mg : Str → Option Value} {base : Heap}
theorem rd_cutS {a : Addr} {H : Hp} {xs : List V} {lo hi : Option Int} {Q : VK} (ha : H a = some (.tup xs))
    (k : ∀ (p : Addr) (H' : Hp), Same H H' → H' p = some (.tup (cutV xs lo hi)) → Q (.ref p) H') : rSlA K (.ref a) lo hi H Q := by
  refine ⟨a, xs, rfl, SqT.of ha, fun h => ?_, fun h p hp => ?_⟩
  · refine k a H (Same.refl H) ?_
    unfold cutV
    rw [h.1, h.2, List.drop_zero, Nat.sub_zero, List.take_length]
    exact ha
  · exact k p _ (same_new hp _) upd_same
structure Md (P : Program) (w : World) (K : PySem.W.Frag) (mg : Str → Option Value) (base : Heap) : Prop extends Mq P w K mg base where
  l_is_question : DefOk P w K mg base 4 "_law_is_question" ["_law_thing"] (spIs questB)
theorem sc_l_due : FnScope ["_law_thing", "_law_names", "_law_view", "_law_head_here"] ["_law_thing"] (defScope s_l_due) := ⟨rfl, rfl, rfl, by decide +kernel, rfl, by decide +kernel, by decide +kernel⟩
theorem ok_due {f : Addr} {fd : FuncData} (F : Fun K "_law_due" "_law_due" s_l_due f fd) (T : Txt K mg) (D : Md P w K mg base) : FnOk P w K mg base CX0 5 f fd ["_law_thing"] (spViews viewsB) := by
  refine F.ok sc_l_due (fun vs H Q E h => ?_) (fun cdv A outer s H vs Q E hr h => ?_)
  · obtain ⟨a, b, c, d, rfl, _⟩ := h
    rfl
  obtain ⟨fe, m, n, v, rfl, hv, hm, k⟩ := h
  refine ⟨_, (pss_cons (ps_if (pt_not (pt_val (pe_callB call_isinst rfl T.n_isinstance (by decide +kernel) (pa_cons (pv 0) (pa_cons (pe_ty (n := "list") rfl T.n_list (by decide +kernel)) pa_nil))))) (pss_one (ps_ret pe_bl)) pss_nil)
      (pss_cons (ps_set (i := 1) sc_l_due.nd rfl (Or.inl rfl) (pe_lst pa_nil))
      (pss_cons (ps_for PassesOwn.never rfl (pi_list (pv 0)) (pg_name (i := 2) sc_l_due.nd rfl (Or.inl rfl))
      (pss_cons (ps_if (PW.pt (pw_or (pt_not (pt_val (pe_callB call_isinst rfl T.n_isinstance (by decide +kernel) (pa_cons (pv 2) (pa_cons (pe_ty (n := "tuple") rfl T.n_tuple (by decide +kernel)) pa_nil))))) (pw_or (pt_cmpR op_ne (pe_callB call_len rfl T.n_len PySem.boot_len (pa_cons (pv 2) pa_nil)) pe_int (nomark _)) (pw_or1 (pt_not (pt_val (cl D.l_is_value hr (pa_cons (pe_ix ix_tup (pv 2) pe_int (fun _ _ => rfl)) pa_nil)))))))) (pss_one (ps_ret pe_bl)) pss_nil)
      (pss_cons (ps_if (PW.pt (pw_or (pt_not (pt_val (cl D.l_is_question hr (pa_cons (pe_ix ix_tup (pv 2) pe_int (fun _ _ => rfl)) pa_nil)))) (pw_or1 (pt_cmpR op_in_seq (pe_ix ix_tup (pv 2) pe_int (fun _ _ => rfl)) (pv 1) (by with_unfolding_all rfl))))) (pss_one (ps_ret pe_bl)) pss_nil)
      (pss_cons (ps_expr (pe_bm PySem.F.plainAttrs_list PySem.F.slot_list_append PySem.F.type_list_append mt_append (pv 1) (pa_cons (pe_ix ix_tup (pv 2) pe_int (fun _ _ => rfl)) pa_nil)))
      (pss_cons (ps_set (i := 3) sc_l_due.nd rfl (Or.inr rfl) (pe_ix ix_tup (pe_ix ix_tup (pv 2) pe_int (fun _ _ => rfl)) pe_int (fun _ _ => rfl)))
      (pss_cons (ps_if (PW.pt (pw_or (pt_cmpR op_eq (pe_callB call_len rfl T.n_len PySem.boot_len (pa_cons (pv 3) pa_nil)) pe_int (nomark _)) (pw_or1 (pt_cmpR op_in_seq pe_bl (pe_comp rfl (compSc_mk (fs := []) (fr := [])) (pi_tup (pv 3)) (fun _ _ _ _ => (pe_cmpR op_eq (pe_ix ix_str (pv 0) pe_int (fun _ _ => rfl)) pe_str (nomark _)))) (by with_unfolding_all rfl))))) (pss_one (ps_ret pe_bl)) pss_nil)
      (pss_one (ps_if (pt_cmpR op_gt (pe_callB call_len rfl T.n_len PySem.boot_len (pa_cons (pe_compIf rfl (compSc_mk (fs := ["_law_head_here"]) (fr := [3])) (pi_range1 rfl T.n_range (pa_cons (pe_callB call_len rfl T.n_len PySem.boot_len (pa_cons (pv 3) pa_nil)) pa_nil)) (fun _ _ _ _ => (pt_cmpR (op_in_seqK (K := K)) (pe_ix (ix_tupK (K := K)) (pv 1) (pv 0) (fun _ _ => rfl)) (pe_slice (sl_tupAK (K := K)) (pv 1) po_none (po_some (pv 0))) (by with_unfolding_all rfl))) (fun _ _ _ _ => (pv 0))) pa_nil)) pe_int (nomark _)) (pss_one (ps_ret pe_bl)) pss_nil))))))))
      (pss_one (ps_ret pe_bl))))), ?_⟩
  obtain ⟨t, ty, e1⟩ := ty_ofL (K := K) hv
  refine ⟨_, rfl, _, _, _, _, rfl, ty, e1, _, rfl, ?_⟩
  rcases hv with ⟨a, xs, rfl, nf, ha, hl, hx⟩ | ⟨h1, h2⟩
  case inr =>
    have q := k H (Same.refl H)
    rw [viewsB_none h1] at q
    rw [h1]
    exact iteT q
  have el := lstOf_ref ha
  rw [el]
  have ev := viewsB_some el
  refine iteF ?_
  -- names = []
  refine ⟨(by show 0 ≤ sizeLine; decide), fun d hd0 => ?_⟩
  have bad : ∀ H' x, Same H H' → x ∈ xs → viewB H x = false → Q (.bl false) H' := fun H' x sm hx h => by
    have q := k H' sm
    have e0 : (xs.map (viewB H)).all id = false := by
      refine Bool.eq_false_iff.mpr fun h' => ?_
      have h2 : viewB H x = true := List.all_eq_true.mp h' _ (List.mem_map_of_mem hx)
      rw [h] at h2
      cases h2
    rw [ev, e0, Bool.false_and] at q
    exact q
  refine ⟨_, rfl, a, rfl, ⟨xs, SqL.of (same_new hd0 _ _ _ ha)⟩, for_list (K := K) (a := a) (xs := xs)
    (fun i σ H4 => ∃ x2 x3 : Option V, σ = [some (.ref a), some (.ref d), x2, x3] ∧ Same H H4 ∧ H4 d = some (.lst ((strsV ((xs.take i).map (nameV H))).map V.str)) ∧ (∀ x ∈ xs.take i, viewB H x = true) ∧ (strsV ((xs.take i).map (nameV H))).Nodup) ⟨none, none, rfl, same_new hd0 _, upd_same, (fun t h => by cases h), .nil⟩ (fun i σ H4 _ ⟨_, _, _, sm, _⟩ => SqL.of (sm _ _ ha)) ?_ ?_⟩
  · rintro i x σ H4 hc ⟨x2, x3, rfl, sm4, hd4, hall, hnd⟩
    have hxm := List.mem_of_getElem? hc
    have hi : i < xs.length := (List.getElem?_eq_some_iff.mp hc).1
    have hxt := hx x hxm
    obtain ⟨tx, tyx, _, e2x⟩ := ty_of (K := K) (hxt.keep (Ext.of sm4))
    rw [hxt.tupOf (Ext.of sm4)] at e2x
    refine ⟨_, rfl, _, _, _, _, rfl, tyx, e2x, _, rfl, ?_⟩
    cases ex : tupOf H x with
    | none => exact iteT (iteT (bad H4 x sm4 hxm (viewB_not (pairB_none ex))))
    | some ys =>
    obtain ⟨p, rfl, nfp, hp, hpl, hpx⟩ := hxt.items ex
    refine iteF ?_
    refine ⟨_, rfl, _, _, rfl, .inr ⟨_, SqT.of (sm4 _ _ hp), rfl⟩, rfl, _, rfl, ?_⟩
    have ed : (!decide (V.int (ys.length : Int) = V.int 2)) = !pairB H (.ref p) := by
      rw [pairB_some ex]
      simp
    rw [ed]
    refine ite2 (fun d1 => ?_) (fun d1 => ?_)
    · exact iteT (bad H4 _ sm4 hxm (viewB_not (by simpa using d1)))
    obtain ⟨nm, qv, e'⟩ := pairB_yes (H := H) (v := .ref p) (by simpa using d1)
    rw [ex] at e'
    cases e'
    have evb := viewB_pair ex
    have hn1 : Th fe m H (n - 1) nm := hpx nm (by simp)
    have hq1 : Th fe m H (n - 1) qv := hpx qv (by simp)
    refine ⟨_, rfl, _, _, _, _, rfl, rfl, SqT.of (sm4 _ _ hp), rfl, fe, m, _, nm, rfl, hn1.keep (Ext.of sm4), by omega, fun H5 sm5 => ⟨_, rfl, ?_⟩⟩
    have hd5 := sm5 _ _ hd4
    have sm5 := sm4.trans sm5
    refine ite2 (fun d2 => ?_) (fun d2 => ?_)
    · have d2 : valB nm = false := by simpa using d2
      exact bad H5 _ sm5 hxm (by rw [evb, d2, Bool.false_and])
    have d2 : valB nm = true := by simpa using d2
    obtain ⟨z, rfl, hz⟩ := hn1.isStr (by cases nm <;> first | rfl | exact absurd d2 Bool.false_ne_true)
    refine ⟨_, rfl, _, _, _, _, rfl, rfl, SqT.of (sm5 _ _ hp), rfl, fe, m, _, qv, rfl, hq1.keep (Ext.of sm5), by omega, fun H6 sm6 => ⟨_, rfl, ?_⟩⟩
    have hd6 := sm6 _ _ hd5
    have sm6 := sm5.trans sm6
    rw [hq1.quest (Ext.of sm5)]
    refine ite2 (fun d3 => ?_) (fun d3 => ?_)
    · have d3 : questB H qv = false := by simpa using d3
      exact iteT (bad H6 _ sm6 hxm (by rw [evb, d3, Bool.false_and, Bool.and_false]))
    have d3 : questB H qv = true := by simpa using d3
    refine ⟨_, rfl, _, _, _, _, rfl, rfl, SqT.of (sm6 _ _ hp), rfl, _, rfl, d, _, rfl, .inl (SqL.of hd6), rfl, flat_V _, _, rfl, ?_⟩
    show if (inV (.str z) ((strsV ((xs.take i).map (nameV H))).map V.str)) = true then _ else _
    rw [inV_str]
    have enx : nameV H (.ref p) = .str z := nameV_pair ex
    have etk : strsV ((xs.take (i + 1)).map (nameV H)) = strsV ((xs.take i).map (nameV H)) ++ [z] := by
      rw [List.take_add_one, hc, List.map_append, strsV_app]
      show _ ++ strsV [nameV H (.ref p)] = _
      rw [enx]
      rfl
    refine ite2 (fun d4 => ?_) (fun d4 => ?_)
    · have d4 := of_decide_eq_true d4
      have q := k H6 sm6
      have e0 : decide (strsV (xs.map (nameV H))).Nodup = false := by
        refine decide_eq_false fun h' => ?_
        have h2 : (strsV ((xs.take (i + 1)).map (nameV H))).Nodup := by
          have h3 : strsV (xs.map (nameV H)) = strsV ((xs.take (i + 1)).map (nameV H)) ++ strsV ((xs.drop (i + 1)).map (nameV H)) := by
            rw [← strsV_app, ← List.map_append, List.take_append_drop]
          rw [h3] at h'
          exact (List.nodup_append.mp h').1
        rw [etk, nd_snoc] at h2
        exact h2.2 d4
      rw [ev, e0, Bool.and_false] at q
      exact q
    have d4 : z ∉ strsV ((xs.take i).map (nameV H)) := fun h => d4 (decide_eq_true h)
    -- names.append(view[0])
    have hnds : (strsV ((xs.take i).map (nameV H))).length ≤ 100 := by
      refine Nat.le_trans (List.length_filterMap_le _ _) ?_
      rw [List.length_map, List.length_take]
      omega
    refine ⟨_, rfl, .inl ⟨rfl, _, SqL.of hd6⟩, _, rfl, _, _, _, _, rfl, rfl, SqT.of (sm6 _ _ hp), rfl, _, _, _, rfl, rfl, hd6, by rw [List.length_map]; exact small1000 (by omega), ?_⟩
    have hd7 : upd H6 d (.lst ((strsV ((xs.take i).map (nameV H))).map V.str ++ [.str z])) d = some (.lst ((strsV ((xs.take (i + 1)).map (nameV H))).map V.str)) := by
      rw [upd_same, etk, List.map_append]
      rfl
    have sm7 : Same H (upd H6 d (.lst ((strsV ((xs.take i).map (nameV H))).map V.str ++ [.str z]))) := fun b u e => by
      rw [upd_ne (ne_of_none e hd0)]
      exact sm6 _ _ e
    generalize upd H6 d (.lst ((strsV ((xs.take i).map (nameV H))).map V.str ++ [.str z])) = H7 at hd7 sm7 ⊢
    -- head = view[1][0]
    by_cases pq : pairB H qv = true
    case neg =>
      rw [questB_not (Bool.eq_false_iff.mpr pq)] at d3
      cases d3
    obtain ⟨hv, av, eq⟩ := pairB_yes pq
    obtain ⟨qa, rfl, nfq, hqa, hql, hqx⟩ := hq1.items eq
    have d3' := d3
    rw [questB_pair eq, Bool.and_eq_true] at d3'
    have hh1 : Th fe m H (n - 1 - 1) hv := hqx hv (by simp)
    cases eh : tupOf H hv with
    | none =>
      rw [termsB_none eh] at d3'
      cases d3'.1
    | some hs =>
    obtain ⟨ha', rfl, nfh, hha, hhl, hhx⟩ := hh1.items eh
    have ht := d3'.1
    rw [termsB_some eh, Bool.and_eq_true, Bool.and_eq_true] at ht
    have l4 := of_decide_eq_true ht.2.1
    have ezs := strs_all ht.2.2
    have eho : headOf H (.ref qa) = hs := headOf_pair eq eh
    have hterm : ∀ x ∈ hs, termB x = true := fun x hx => List.all_eq_true.mp ht.2.2 _ (List.mem_map_of_mem hx)
    refine ⟨_, rfl, _, _, _, _, rfl, rfl, SqT.of (sm7 _ _ hp), rfl, _, _, _, _, rfl, rfl, SqT.of (sm7 _ _ hqa), rfl, ?_⟩
    refine ⟨_, rfl, _, _, rfl, .inr ⟨_, SqT.of (sm7 _ _ hha), rfl⟩, rfl, _, rfl, ?_⟩
    have badh : ∀ H', Same H H' → vheadB hs = false → Q (.bl false) H' := fun H' sm h => bad H' _ sm hxm (by rw [evb, eho, h, Bool.and_false, Bool.and_false])
    have evh : vheadB hs = (!hs.isEmpty && ((hs.map qB).all id && decide (strsV hs).Nodup)) := rfl
    refine ite2 (fun d5 => ?_) (fun d5 => ?_)
    · have d5 : V.int (hs.length : Int) = V.int 0 := of_decide_eq_true d5
      injection d5 with d5
      have : hs = [] := List.eq_nil_of_length_eq_zero (by omega)
      exact iteT (badh H7 sm7 (by rw [this]; rfl))
    have d5 : hs.isEmpty = false := by
      cases hs with
      | nil => exact absurd (decide_eq_true rfl) d5
      | cons _ _ => rfl
    -- False in [term[0] == "?" for term in head]
    refine ⟨_, rfl, ha', rfl, ⟨hs, SqT.of (sm7 _ _ hha)⟩, comp_tup (K := K) (a := ha') (xs := hs) (fun i ys H8 => H8 = H7 ∧ i ≤ hs.length ∧ ys = ((hs.take i).map qB).map V.bl) (small1000 (by omega)) ⟨rfl, Nat.zero_le _, rfl⟩ ?_ ?_ ?_⟩
    · rintro j ys H8 hj ⟨rfl, _, rfl⟩
      refine ⟨SqT.of (sm7 _ _ hha), ?_⟩
      rw [List.length_map, List.length_map, List.length_take]
      omega
    · rintro j y ys H8 N hcj ⟨rfl, hj, rfl⟩ hN
      have hlt : j < hs.length := (List.getElem?_eq_some_iff.mp hcj).1
      have hym := List.mem_of_getElem? hcj
      have hsx := hterm y hym
      obtain ⟨z', rfl, hz'⟩ := term_str (hhx y hym) hsx
      obtain ⟨c, hcz⟩ := term_fst hsx
      have ei : atI z'.cps.toList 0 = some c := atI_nat (j := 0) hcz
      refine rd_true ?_
      refine ⟨_, rfl, _, _, _, rfl, rfl, Nat.le_of_lt (small1000 (by omega)), ei, rfl, hN _ _ ⟨rfl, hlt, ?_⟩⟩
      rw [term_ask hsx hcz, List.take_add_one, hcj, List.map_append, List.map_append]
      rfl
    · rintro ys H8 ⟨rfl, _, rfl⟩ l hl'
      rw [List.take_length]
      refine ⟨l, _, rfl, .inl (SqL.of upd_same), rfl, flat_B _, _, rfl, ?_⟩
      show if (inV (.bl false) ((hs.map qB).map V.bl)) = true then _ else _
      rw [bl_all]
      have hd9 : upd H8 l (.lst ((hs.map qB).map V.bl)) d = some (.lst ((strsV ((xs.take (i + 1)).map (nameV H))).map V.str)) := by
        rw [upd_ne (ne_of_none hd7 hl')]
        exact hd7
      have sm9 : Same H (upd H8 l (.lst ((hs.map qB).map V.bl))) := sm7.trans (same_new hl' _)
      generalize upd H8 l (.lst ((hs.map qB).map V.bl)) = H9 at hd9 sm9 ⊢
      refine ite2 (fun d6 => ?_) (fun d6 => ?_)
      · have d6 : (hs.map qB).all id = false := by simpa using d6
        exact badh H9 sm9 (by rw [evh, d6, Bool.false_and, Bool.and_false])
      have d6 : (hs.map qB).all id = true := by simpa using d6
      -- len([k for k in range(len(head)) if head[k] in head[:k]]) > 0
      generalize hs.filterMap strOf = zs at ezs
      subst ezs
      have lz : (zs.map V.str).length = zs.length := List.length_map _
      rw [strsV_map] at evh
      refine ⟨_, rfl, _, _, rfl, .inr ⟨_, SqT.of (sm9 _ _ hha), rfl⟩, _, rfl, by omega, by omega, fun j m' ys H10 => j ≤ zs.length ∧ m' = zs.length - j ∧ Same H9 H10 ∧ ys.length ≤ j ∧ (ys.length = 0 ↔ (zs.take j).Nodup), ⟨_, Nat.zero_le _, rfl, Same.refl _, Nat.le_refl _, by simp⟩, ?_⟩
      rintro j m' ys H10 ⟨hj, rfl, sm10, hly, hys⟩
      by_cases hlt : j < zs.length
      · refine .inr ⟨by show j < ((zs.map V.str).length : Int).toNat; omega, small1000 (by omega), ?_⟩
        rintro v H11 ⟨rfl, rfl⟩
        have hha10 := sm10 _ _ (sm9 _ _ hha)
        obtain ⟨y, hy⟩ : ∃ y, zs[j]? = some y := ⟨_, List.getElem?_eq_getElem hlt⟩
        have evj : atI (zs.map V.str) (0 + (j : Int)) = some (.str y) := by
          rw [Int.zero_add]
          exact atI_nat (by rw [List.getElem?_map, hy]; rfl)
        refine ⟨_, rfl, _, rfl, _, _, _, _, rfl, rfl, SqT.of hha10, evj, ?_⟩
        refine ⟨_, rfl, noPart ⟨_, rfl, _, rfl, rd_cutS hha10 fun p H12 sm12 hp12 => ?_⟩⟩
        rw [Int.zero_add, cut_to, ← List.map_take] at hp12
        refine ⟨p, _, rfl, .inr (SqT.of hp12), rfl, flat_V _, _, rfl, ?_⟩
        have et : zs.take (j + 1) = zs.take j ++ [y] := by rw [List.take_add_one, hy]; rfl
        show if (inV (.str y) ((zs.take j).map V.str)) = true then _ else _
        rw [inV_str]
        refine ite2 (fun d7 => ?_) (fun d7 => ?_)
        · have d7 := of_decide_eq_true d7
          refine ⟨_, rfl, _, by omega, hlt, rfl, sm10.trans sm12, by rw [List.length_append]; show ys.length + 1 ≤ j + 1; omega, ?_⟩
          rw [et, nd_snoc, List.length_append]
          constructor
          · intro h
            exact absurd h (by show ¬ ys.length + 1 = 0; omega)
          · rintro ⟨_, h⟩
            exact absurd d7 h
        · have d7 : y ∉ zs.take j := fun h => d7 (decide_eq_true h)
          refine ⟨_, by omega, hlt, rfl, sm10.trans sm12, by omega, ?_⟩
          rw [et, nd_snoc, hys]
          exact ⟨fun h => ⟨h, d7⟩, fun h => h.1⟩
      · have ej : j = zs.length := by omega
        refine .inl ⟨by show ((zs.map V.str).length : Int).toNat ≤ j; omega, Nat.le_of_lt (small1000 (by omega)), fun l2 hl2 => ?_⟩
        rw [ej, List.take_length] at hys
        refine ⟨_, _, rfl, .inl ⟨_, SqL.of upd_same, rfl⟩, _, _, rfl, rfl, _, rfl, ?_⟩
        have sm13 : Same H (upd H10 l2 (.lst ys)) := (sm9.trans sm10).trans (same_new hl2 _)
        refine ite2 (fun d8 => ?_) (fun d8 => ?_)
        · have d8 : (ys.length : Int) > 0 := of_decide_eq_true d8
          exact badh _ sm13 (by rw [evh, decide_eq_false (p := zs.Nodup) (fun h => by have := hys.mpr h; omega), Bool.and_false, Bool.and_false])
        · have d8 : ¬ (ys.length : Int) > 0 := fun h => d8 (decide_eq_true h)
          have hz0 : zs.Nodup := hys.mp (by omega)
          have evok : viewB H (.ref p) = true := by
            rw [evb, d2, d3, eho, evh, d5, d6, decide_eq_true hz0]
            rfl
          refine ⟨_, _, rfl, sm13, ?_, fun y hy => ?_, ?_⟩
          · rw [upd_ne (ne_of_none (sm10 _ _ hd9) hl2)]
            exact sm10 _ _ hd9
          · rw [List.take_add_one, hc] at hy
            rcases List.mem_append.mp hy with hy | hy
            · exact hall y hy
            · rw [List.mem_singleton.mp hy]
              exact evok
          · rw [etk, nd_snoc]
            exact ⟨hnd, d4⟩
  · rintro σ H4 ⟨x2, x3, rfl, sm4, hd4, hall, hnd⟩
    rw [List.take_length] at hall hnd
    have q := k H4 sm4
    rw [ev, decide_eq_true hnd, show (xs.map (viewB H)).all id = true from List.all_eq_true.mpr fun b hb => by
      obtain ⟨x, hx, rfl⟩ := List.mem_map.mp hb
      exact hall x hx] at q
    exact q
end
end K01

set_option Elab.async false
set_option linter.all false
set_option maxRecDepth 100000
set_option maxHeartbeats 4000000
namespace K01
open PySem PySem.Spec PyProof.Rows L2
seal L2.PE L2.PT L2.PW L2.PA L2.PS L2.PSs L2.PI L2.PO L2.PPs L2.PG L2.PGs
/-! ## drawn views -/
theorem words_val : (wordsPool.all fun z => isVal z && decide (z.length ≤ 100)) = true := by decide +kernel
theorem unks_unk : (unkPool.all fun z => isUnk z && decide (z.length ≤ 100)) = true := by decide +kernel
theorem word_is {z : Str} (h : z ∈ wordsPool) : isVal z = true ∧ z.length ≤ 100 := by
  have := List.all_eq_true.mp words_val z h
  rw [Bool.and_eq_true] at this
  exact ⟨this.1, of_decide_eq_true this.2⟩
theorem unk_is {z : Str} (h : z ∈ unkPool) : isUnk z = true ∧ z.length ≤ 100 := by
  have := List.all_eq_true.mp unks_unk z h
  rw [Bool.and_eq_true] at this
  exact ⟨this.1, of_decide_eq_true this.2⟩
theorem pool_term {z : Str} (h : z ∈ unkPool ∨ z ∈ wordsPool) : termB (.str z) = true ∧ z.length ≤ 100 := by
  show (isVal z || isUnk z) = true ∧ _
  rcases h with h | h
  · rw [(unk_is h).1, Bool.or_true]
    exact ⟨rfl, (unk_is h).2⟩
  · rw [(word_is h).1, Bool.true_or]
    exact ⟨rfl, (word_is h).2⟩
/-- a drawn atom -/
def GoodA (a : Str × List Str) : Prop := a.1 ∈ wordsPool ∧ 1 ≤ a.2.length ∧ a.2.length ≤ 4 ∧ ∀ z ∈ a.2, z ∈ unkPool ∨ z ∈ wordsPool
theorem ne_feed {K : PySem.W.Frag} {f : Addr} {H : Hp} {p : Addr} {xs : List V} (h : Feed K f H) (hp : H p = some (.tup xs)) : p ≠ f := by
  obtain ⟨x, y, z, hf⟩ := h
  exact ne_of hp hf fun e => by cases e
theorem atom_th {K : PySem.W.Frag} {f : Addr} {H : Hp} {v : V} {a : Str × List Str} (hF : Feed K f H) (h : AtomAt H v a) (g : GoodA a) : Th f 8 H 3 v ∧ atomB H v = true ∧ atStrs H v = a.2 := by
  obtain ⟨p, t, rfl, hp, ht⟩ := h
  obtain ⟨g1, g2, g3, g4⟩ := g
  have la : (a.2.map V.str).length = a.2.length := List.length_map _
  have tt : Th f 8 H 2 (.ref t) := Th.tup (ne_feed hF ht) ht (by omega) fun x hx => by
    obtain ⟨z, hz, rfl⟩ := List.mem_map.mp hx
    exact Th.str (pool_term (g4 z hz)).2
  refine ⟨Th.tup (ne_feed hF hp) hp (by show 2 ≤ 8; decide) fun x hx => ?_, ?_, ?_⟩
  · simp only [List.mem_cons, List.not_mem_nil, or_false] at hx
    rcases hx with rfl | rfl
    · exact Th.str (word_is g1).2
    · exact tt
  · rw [atomB_pair (tupOf_ref hp), termsB_some (tupOf_ref ht), decide_eq_true (show (1 : Int) ≤ ((a.2.map V.str).length : Int) by omega), decide_eq_true (show ((a.2.map V.str).length : Int) ≤ 4 by omega)]
    show (isVal a.1 && _) = true
    rw [(word_is g1).1, Bool.true_and, Bool.true_and, Bool.true_and]
    refine List.all_eq_true.mpr fun b hb => ?_
    obtain ⟨x, hx, rfl⟩ := List.mem_map.mp hb
    obtain ⟨z, hz, rfl⟩ := List.mem_map.mp hx
    exact (pool_term (g4 z hz)).1
  · unfold atStrs
    rw [tupOf_ref hp]
    show ((tupOf H (.ref t)).getD []).filterMap strOf = a.2
    rw [tupOf_ref ht]
    exact strsV_map a.2
theorem Paired.mem {α β : Type} {F : α → β → Prop} : ∀ {l₁ : List α} {l₂ : List β} {x : α}, Paired F l₁ l₂ → x ∈ l₁ → ∃ y, y ∈ l₂ ∧ F x y
  | _, _, _, .nil, e => by cases e
  | _, _, x, .cons r t, e => by
    rcases List.mem_cons.mp e with rfl | e
    · exact ⟨_, List.mem_cons_self, r⟩
    · obtain ⟨y, h1, h2⟩ := Paired.mem t e
      exact ⟨y, List.mem_cons_of_mem _ h1, h2⟩
theorem flat_paired {K : PySem.W.Frag} {f : Addr} {H : Hp} (hF : Feed K f H) : ∀ {vs : List V} {ats : List (Str × List Str)}, AtomsAt H vs ats → (∀ a ∈ ats, GoodA a) → (vs.map (atStrs H)).flatten = flatA ats
  | _, _, .nil, _ => rfl
  | _, _, .cons (a := v) (b := a) r t, g => by
    rw [List.map_cons, List.flatten_cons, flat_paired hF t fun b hb => g b (List.mem_cons_of_mem _ hb), (atom_th hF r (g _ List.mem_cons_self)).2.2]
    rfl
/-- drawn atoms, as a thing -/
theorem atoms_th {K : PySem.W.Frag} {f : Addr} {H : Hp} {p : Addr} {vs : List V} {ats : List (Str × List Str)} (hF : Feed K f H) (hp : H p = some (.tup vs)) (h : AtomsAt H vs ats) (g : ∀ a ∈ ats, GoodA a) (l1 : 1 ≤ ats.length) (l8 : ats.length ≤ 8) : Th f 8 H 4 (.ref p) ∧ atomsB H (.ref p) = true ∧ flatOf H (.ref p) = flatA ats := by
  have lv : vs.length = ats.length := Paired.length h
  have all : ∀ x ∈ vs, Th f 8 H 3 x ∧ atomB H x = true := fun x hx => by
    obtain ⟨a, ha, hA⟩ := Paired.mem h hx
    have := atom_th hF hA (g a ha)
    exact ⟨this.1, this.2.1⟩
  refine ⟨Th.tup (ne_feed hF hp) hp (by omega) fun x hx => (all x hx).1, ?_, ?_⟩
  · rw [atomsB_some (tupOf_ref hp), decide_eq_true (show (1 : Int) ≤ (vs.length : Int) by omega), decide_eq_true (show (vs.length : Int) ≤ 8 by omega), Bool.true_and, Bool.true_and]
    refine List.all_eq_true.mpr fun b hb => ?_
    obtain ⟨x, hx, rfl⟩ := List.mem_map.mp hb
    exact (all x hx).2
  · unfold flatOf
    rw [tupOf_ref hp]
    exact flat_paired hF h g
/-- a question whose head has these unknowns -/
theorem view_th {K : PySem.W.Frag} {f : Addr} {H : Hp} {q h a : Addr} {vs : List V} {hs : List Str} {ats : List (Str × List Str)} (hF : Feed K f H) (hq : H q = some (.tup [.ref h, .ref a])) (hh : H h = some (.tup (hs.map V.str))) (ha : H a = some (.tup vs)) (hA : AtomsAt H vs ats) (g : ∀ a ∈ ats, GoodA a) (l1 : 1 ≤ ats.length) (l8 : ats.length ≤ 8)
    (h1 : hs ≠ []) (h4 : hs.length ≤ 4) (hn : hs.Nodup) (hu : ∀ z ∈ hs, z ∈ flatA ats ∧ isUnk z = true ∧ z.length ≤ 100) : Th f 8 H 5 (.ref q) ∧ questB H (.ref q) = true ∧ vheadB (headOf H (.ref q)) = true := by
  obtain ⟨t1, t2, t3⟩ := atoms_th hF ha hA g l1 l8
  have lh : (hs.map V.str).length = hs.length := List.length_map _
  have tq := tupOf_ref hq
  have th := tupOf_ref hh
  refine ⟨Th.tup (ne_feed hF hq) hq (by show 2 ≤ 8; decide) fun x hx => ?_, ?_, ?_⟩
  · simp only [List.mem_cons, List.not_mem_nil, or_false] at hx
    rcases hx with rfl | rfl
    · refine Th.tup (ne_feed hF hh) hh (by omega) fun x hx => ?_
      obtain ⟨z, hz, rfl⟩ := List.mem_map.mp hx
      exact Th.str (hu z hz).2.2
    · exact t1
  · rw [questB_pair tq, t2, termsB_some th, decide_eq_true (show (0 : Int) ≤ ((hs.map V.str).length : Int) by omega), decide_eq_true (show ((hs.map V.str).length : Int) ≤ 4 by omega), Bool.true_and, Bool.true_and, Bool.true_and, Bool.and_eq_true]
    refine ⟨List.all_eq_true.mpr fun b hb => ?_, ?_⟩
    · obtain ⟨x, hx, rfl⟩ := List.mem_map.mp hb
      obtain ⟨z, hz, rfl⟩ := List.mem_map.mp hx
      show (isVal z || isUnk z) = true
      rw [(hu z hz).2.1, Bool.or_true]
    · unfold headB
      rw [th, t3]
      refine List.all_eq_true.mpr fun b hb => ?_
      obtain ⟨x, hx, rfl⟩ := List.mem_map.mp hb
      obtain ⟨z, hz, rfl⟩ := List.mem_map.mp hx
      show (isVal z || inV (.str z) ((unkL (flatA ats)).map V.str)) = true
      rw [inV_str, decide_eq_true, Bool.or_true]
      rw [unk_ded, mem_ded, List.mem_filter]
      exact ⟨(hu z hz).1, (hu z hz).2.1⟩
  · rw [headOf_pair tq th]
    unfold vheadB
    rw [strsV_map, decide_eq_true hn, Bool.and_true, Bool.and_eq_true]
    refine ⟨?_, List.all_eq_true.mpr fun b hb => ?_⟩
    · cases hs with
      | nil => exact absurd rfl h1
      | cons _ _ => rfl
    · obtain ⟨x, hx, rfl⟩ := List.mem_map.mp hb
      obtain ⟨z, hz, rfl⟩ := List.mem_map.mp hx
      exact (hu z hz).2.1
def spViewQ (K : PySem.W.Frag) : Sp := fun vs H Q _ => ∃ (f nl : Addr) (most : Int) (nms : List Str), vs = [.ref f, .ref nl, .int most] ∧ Feed K f H ∧ nl ≠ f ∧ (H nl = some (.lst (nms.map V.str)) ∧ 1 ≤ nms.length ∧ nms.length ≤ 100) ∧ (∀ z ∈ nms, z ∈ wordsPool) ∧ 1 ≤ most ∧ most ≤ 4 ∧
  ∀ (r : Addr) (H' : Hp), Feed K f H' → Ext f H H' → Th f 8 H' 5 (.ref r) → questB H' (.ref r) = true → vheadB (headOf H' (.ref r)) = true → Q (.ref r) H'
section
variable {P : Program} {w : World} {K : PySem.W.Frag} {mg : Str → Option Value} {base : Heap}
theorem rd_catS {a b : Addr} {H : Hp} {xs ys : List V} {Q : VK} (ha : H a = some (.tup xs)) (hb : H b = some (.tup ys)) (hl : xs.length + ys.length ≤ 1000)
    (k : ∀ (p : Addr) (H' : Hp), Same H H' → H' p = some (.tup (xs ++ ys)) → Q (.ref p) H') : rCatA K (.ref a) (.ref b) H Q := by
  refine ⟨a, b, xs, ys, rfl, rfl, SqT.of ha, SqT.of hb, Nat.le_of_lt (small1000 hl), fun h => ?_, fun _ h => ?_, fun _ _ p hp => ?_⟩
  · exact k b H (Same.refl H) (by rw [h, List.nil_append]; exact hb)
  · exact k a H (Same.refl H) (by rw [h, List.append_nil]; exact ha)
  · exact k p _ (same_new hp _) upd_same
structure Dw (P : Program) (w : World) (K : PySem.W.Frag) (mg : Str → Option Value) (base : Heap) : Prop where
  l_draw : DefOk P w K mg base 1 "_law_draw" ["_law_feed_here", "_law_many"] (spDraw K)
  l_question : DefOk P w K mg base 3 "_law_question" ["_law_feed_here", "_law_names", "_law_most"] (spQuestionD K)
  l_unknowns : DefOk P w K mg base 1 "_law_unknowns" ["_law_question_here"] spUnks
theorem sc_l_view_question : FnScope ["_law_feed_here", "_law_names", "_law_most", "_law_made", "_law_some", "_law_name", "_law_terms", "_law_head_here", "_law_k", "_law_unknown"] ["_law_feed_here", "_law_names", "_law_most"] (defScope s_l_view_question) := ⟨rfl, rfl, rfl, by decide +kernel, rfl, by decide +kernel, by decide +kernel⟩
theorem a_unk : uWord "a" = "?a" := by decide +kernel
theorem ok_viewQ {f : Addr} {fd : FuncData} (F : Fun K "_law_view_question" "_law_view_question" s_l_view_question f fd) (T : Txt K mg) (D : Dw P w K mg base) : FnOk P w K mg base CX0 4 f fd ["_law_feed_here", "_law_names", "_law_most"] (spViewQ K) := by
  refine F.ok sc_l_view_question (fun vs H Q E h => ?_) (fun cdv A outer s H vs Q E hr h => ?_)
  · obtain ⟨a, b, c, d, rfl, _⟩ := h
    rfl
  obtain ⟨fe, nl, most, nms, rfl, hF, nnl, ⟨hnl, hn1, hn2⟩, hnw, hm1, hm2, k⟩ := h
  refine cut 3 (fun σ H2 => ∃ (qa h0 aa sl : Addr) (x5 x6 : Option V) (avs : List V) (ats : List (Str × List Str)) (us : List Str), σ = [some (.ref fe), some (.ref nl), some (.int most), some (.ref qa), some (.ref sl), x5, x6, none, none, none] ∧ H2 qa = some (.tup [.ref h0, .ref aa]) ∧ H2 aa = some (.tup avs) ∧ AtomsAt H2 avs ats ∧ (1 ≤ ats.length ∧ ats.length ≤ 8) ∧ (∀ a ∈ ats, GoodA a) ∧ sl ≠ fe ∧ H2 sl = some (.lst (us.map V.str)) ∧ 1 ≤ us.length ∧ us.length ≤ 100 ∧ (∀ z ∈ us, z ∈ flatA ats ∧ isUnk z = true ∧ z.length ≤ 100) ∧ Feed K fe H2 ∧ Ext fe H H2)
    ⟨_, (pss_cons (ps_set (i := 7) sc_l_view_question.nd rfl (Or.inl rfl) (pe_lst pa_nil))
      (pss_cons (ps_for PassesOwn.never rfl (pi_range1 rfl T.n_range (pa_cons (pe_op op_add pe_int (cl D.l_draw hr (pa_cons (pv 0) (pa_cons pe_int pa_nil)))) pa_nil)) (pg_name (i := 8) sc_l_view_question.nd rfl (Or.inl rfl))
      (pss_cons (ps_set (i := 9) sc_l_view_question.nd rfl (Or.inl rfl) (pe_ix ix_list (pv 4) (cl D.l_draw hr (pa_cons (pv 0) (pa_cons (pe_callB call_len rfl T.n_len PySem.boot_len (pa_cons (pv 4) pa_nil)) pa_nil))) (fun _ _ => rfl)))
      (pss_one (ps_if (pt_cmpR op_notIn_seq (pv 9) (pv 7) (by with_unfolding_all rfl)) (pss_one (ps_expr (pe_bm PySem.F.plainAttrs_list PySem.F.slot_list_append PySem.F.type_list_append mt_append (pv 7) (pa_cons (pv 9) pa_nil)))) pss_nil))))
      (pss_one (ps_ret (pe_tup (pa_cons (pe_callTy call_tuple_of rfl T.n_tuple (by decide +kernel) (pa_cons (pv 7) pa_nil)) (pa_cons (pe_ix ix_tup (pv 3) pe_int (fun _ _ => rfl)) pa_nil))))))), ?_⟩ (fun t2 ht => ⟨_, (pss_cons (ps_set (i := 3) sc_l_view_question.nd rfl (Or.inl rfl) (cl D.l_question hr (pa_cons (pv 0) (pa_cons (pv 1) (pa_cons (pv 2) pa_nil)))))
      (pss_cons (ps_set (i := 4) sc_l_view_question.nd rfl (Or.inl rfl) (cl D.l_unknowns hr (pa_cons (pv 3) pa_nil)))
      (pss_cons (ps_if (pt_cmpR (op_eqN hr.units0) (pv 4) (pe_lst pa_nil) (nomark _)) (pss_cons (ps_asg (pe_ix ix_tup (pe_ix ix_tup (pv 3) pe_int (fun _ _ => rfl)) pe_int (fun _ _ => rfl)) (pg_tup rfl (pgs_cons (pg_name (i := 5) sc_l_view_question.nd rfl (Or.inl rfl)) (pgs_cons (pg_name (i := 6) sc_l_view_question.nd rfl (Or.inl rfl)) pgs_nil))))
      (pss_cons (ps_set (i := 3) sc_l_view_question.nd rfl (Or.inl rfl) (pe_tup (pa_cons (pe_ix ix_tup (pv 3) pe_int (fun _ _ => rfl)) (pa_cons (pe_op op_catA (pe_tup (pa_cons (pe_tup (pa_cons (pv 5) (pa_cons (pe_op op_catA (pe_tup (pa_cons pe_str pa_nil)) (pe_slice sl_tupA (pv 6) (po_some pe_int) po_none)) pa_nil))) pa_nil)) (pe_slice sl_tupA (pe_ix ix_tup (pv 3) pe_int (fun _ _ => rfl)) (po_some pe_int) po_none)) pa_nil))))
      (pss_one (ps_set (i := 4) sc_l_view_question.nd rfl (Or.inl rfl) (pe_lst (pa_cons pe_str pa_nil)))))) pss_nil) ht))), fun tl => ?_⟩)
  · rintro σ H2 ⟨qa, h0, aa, sl, x5, x6, avs, ats, us, rfl, hqa, haa, hA, ⟨l1, l8⟩, hg, nsl, hsl, hu1, hu2, huu, hF2, ex2⟩
    have lu : (us.map V.str).length = us.length := List.length_map _
    -- head = []
    refine ⟨(by show 0 ≤ sizeLine; decide), fun t ht => ?_⟩
    have nt := hF2.nef ht
    have nts : sl ≠ t := ne_of_none hsl ht
    refine ⟨_, rfl, fe, 4, rfl, hF2.new ht _, by decide, by decide, fun i3 H3 a0 a1 hF3 ex3 => ⟨_, _, rfl, rfl, ?_⟩⟩
    have ex23 : Ext fe H2 H3 := ((Ext.refl fe H2).new ht _).trans ex3
    refine ⟨_, rfl, by omega, by omega, for_range (lo := 0) (n := (1 + i3).toNat)
      (fun j σ H4 => ∃ (x8 x9 : Option V) (hs : List Str), σ = [some (.ref fe), some (.ref nl), some (.int most), some (.ref qa), some (.ref sl), x5, x6, some (.ref t), x8, x9] ∧ Feed K fe H4 ∧ Ext fe H2 H4 ∧ H4 t = some (.lst (hs.map V.str)) ∧ hs.length ≤ j ∧ (1 ≤ j → hs ≠ []) ∧ hs.Nodup ∧ ∀ z ∈ hs, z ∈ us)
      ⟨none, none, [], rfl, hF3, ex23, ex3 _ _ nt upd_same, Nat.le_refl _, fun h => absurd h (by decide), .nil, fun z h => by cases h⟩ ?_ ?_⟩
    · rintro j σ H4 hj ⟨x8, x9, hs, rfl, hF4, ex4, ht4, hl, hne, hnd, hsu⟩
      refine ⟨_, rfl, _, rfl, _, rfl, _, _, rfl, .inl ⟨_, SqL.of (ex4 _ _ nsl hsl), rfl⟩, fe, _, rfl, hF4, by omega, by omega, fun i5 H5 b0 b1 hF5 ex5 => ?_⟩
      obtain ⟨z, hz, ev⟩ := pick_str (zs := us) b0 (by omega)
      have ex25 := ex4.trans ex5
      have ht5 := ex5 _ _ nt ht4
      refine ⟨_, _, _, _, rfl, rfl, SqL.of (ex25 _ _ nsl hsl), ev, ?_⟩
      refine ⟨_, rfl, _, rfl, t, _, rfl, .inl (SqL.of ht5), rfl, flat_V _, _, rfl, ?_⟩
      show if (!inV (.str z) (hs.map V.str)) = true then _ else _
      rw [inV_str]
      refine ite2 (fun c1 => ?_) (fun c1 => ?_)
      · have c1 : z ∉ hs := by simpa using c1
        refine ⟨_, rfl, .inl ⟨rfl, _, SqL.of ht5⟩, _, rfl, _, _, _, rfl, rfl, ht5, by rw [List.length_map]; exact small1000 (by omega), ?_⟩
        refine ⟨_, _, hs ++ [z], rfl, hF5.lst ht5 nt _, ex25.own ht _, by rw [upd_same, List.map_append]; rfl, by rw [List.length_append]; show hs.length + 1 ≤ j + 1; omega, fun _ h => by simp at h, nd_snoc.mpr ⟨hnd, c1⟩, fun y hy => ?_⟩
        rcases List.mem_append.mp hy with hy | hy
        · exact hsu y hy
        · rw [List.mem_singleton.mp hy]
          exact hz
      · have c1 : z ∈ hs := by simpa using c1
        exact ⟨_, _, hs, rfl, hF5, ex25, ht5, by omega, fun _ h => by (rw [h] at c1; cases c1), hnd, hsu⟩
    · rintro σ H4 ⟨x8, x9, hs, rfl, hF4, ex4, ht4, hl, hne, hnd, hsu⟩
      have tu4 := hF2.tups ex4
      refine ⟨_, rfl, t, _, rfl, .inl ⟨SqL.of ht4, fun tp htp => ?_⟩⟩
      have tu5 := (Tups.refl H4).new htp (.tup (hs.map V.str))
      have tu25 := tu4.trans tu5
      refine ⟨_, rfl, _, _, _, _, rfl, rfl, SqT.of (tu25 _ _ hqa), rfl, (by show 2 ≤ sizeLine; decide), fun q hq => ?_⟩
      have tu6 := (Tups.refl _).new hq (.tup [.ref tp, .ref aa])
      have tu := tu25.trans tu6
      have nq : tp ≠ q := fun e => by rw [← e, upd_same] at hq; cases hq
      have hFq := (hF4.new htp (.tup (hs.map V.str))).new hq (.tup [.ref tp, .ref aa])
      obtain ⟨g1, g2, g3⟩ := view_th hFq upd_same (by rw [upd_ne nq, upd_same]) (tu _ _ haa) (AtomsAt.keep tu hA) hg l1 l8 (hne (by omega)) (by omega) hnd fun z hz => huu z (hsu z hz)
      exact k q _ hFq (((ex2.trans ex4).new htp _).new hq _) g1 g2 g3
  · -- made
    refine ⟨_, rfl, _, rfl, _, rfl, fe, nl, most, nms, rfl, hF, nnl, ⟨hnl, hn1, hn2⟩, hm1, by omega, fun r hz ats H1 hF1 ex1 hQ l1 l2 hgw hz4 hzz => ?_⟩
    obtain ⟨q, h0, aa, avs, e, hq, hh0, haa, hA⟩ := hQ
    cases e
    have l8 : ats.length ≤ 8 := by omega
    have hg : ∀ a ∈ ats, GoodA a := fun a ha => by
      obtain ⟨g1, g2, g3, g4⟩ := hgw a ha
      exact ⟨hnw _ g1, g2, g3, g4⟩
    obtain ⟨t1, t2, t3⟩ := atoms_th hF1 haa hA hg l1 l8
    have lz : (hz.map V.str).length = hz.length := List.length_map _
    have hflat : ∀ z ∈ flatA ats, z ∈ unkPool ∨ z ∈ wordsPool := fun z hz => by
      obtain ⟨a, ha, h⟩ := flatA_mem.mp hz
      exact (hg a ha).2.2.2 z h
    have tq : Th fe 8 H1 5 (.ref r) := Th.tup (ne_feed hF1 hq) hq (by show 2 ≤ 8; decide) fun x hx => by
      simp only [List.mem_cons, List.not_mem_nil, or_false] at hx
      rcases hx with rfl | rfl
      · refine Th.tup (ne_feed hF1 hh0) hh0 (by omega) fun x hx => ?_
        obtain ⟨z, hz, rfl⟩ := List.mem_map.mp hx
        exact Th.str (pool_term (hflat z (hzz z hz))).2
      · exact t1
    -- some
    refine ⟨_, rfl, fe, 8, 5, _, _, _, rfl, tq, by decide, tupOf_ref hq, t2, fun sl H2 sm2 nsl0 hsl => ?_⟩
    rw [t3] at hsl
    have nsl : sl ≠ fe := hF1.nef nsl0
    have hF2 := hF1.same sm2
    have ex2 := ex1.trans (Ext.of sm2)
    refine ⟨_, rfl, (by show 0 ≤ sizeLine; decide), fun l2' hl2' => ?_⟩
    have hsl' : upd H2 l2' (.lst []) sl = some (.lst ((unkL (flatA ats)).map V.str)) := by
      rw [upd_ne (ne_of_none hsl hl2')]
      exact hsl
    refine ⟨_, _, _, rfl, rfl, SqL.of hsl', SqL.of upd_same, _, rfl, ?_⟩
    have hF3 := hF2.new hl2' (.lst [])
    have ex3 := ex2.new hl2' (.lst [])
    have tu3 : Tups H1 (upd H2 l2' (.lst [])) := (Tups.of sm2).new hl2' _
    generalize upd H2 l2' (.lst []) = H3 at hsl' hF3 ex3 tu3 ⊢
    have lfl : (flatA ats).length ≤ 32 := by
      have := len_all ats fun a ha => (hg a ha).2.2.1
      omega
    refine ite2 (fun c => ?_) (fun c => ?_)
    · -- no unknown
      match ats, avs, hA, l1, l8, hg, hflat with
      | a :: ats', _, .cons (a := av) (l₁ := avs') ⟨ap, tp, ea, hap, htp⟩ hA', l1, l8, hg, hflat =>
        subst ea
        have ga := hg a List.mem_cons_self
        refine ⟨_, rfl, _, _, _, _, rfl, rfl, SqT.of (tu3 _ _ hq), rfl, _, _, _, _, rfl, rfl, SqT.of (tu3 _ _ haa), atI_nat (j := 0) rfl, ap, _, rfl, SqT.of (tu3 _ _ hap), rfl, _, _, rfl, _, _, rfl, rfl, ?_⟩
        -- made = (made[0], ((name, ("?a",) + terms[1:]),) + made[1][1:])
        refine ⟨_, rfl, _, _, _, _, rfl, rfl, SqT.of (tu3 _ _ hq), rfl, _, rfl, (by show 1 ≤ sizeLine; decide), fun p4 hp4 => ?_⟩
        have sm4 : Same H3 (upd H3 p4 (.tup [.str "?a"])) := same_new hp4 _
        have hp4' : upd H3 p4 (.tup [.str "?a"]) p4 = some (.tup [.str "?a"]) := upd_same
        generalize upd H3 p4 (.tup [.str "?a"]) = H4 at sm4 hp4' ⊢
        have htp4 := sm4 _ _ (tu3 _ _ htp)
        refine ⟨_, rfl, _, rfl, noPart (rd_cutS htp4 fun p5 H5 sm5 hp5 => ?_)⟩
        have ec : cutV (a.2.map V.str) (some 1) none = (a.2.drop 1).map V.str := by
          rw [show (1 : Int) = ((1 : Nat) : Int) from rfl, cut_from, List.map_drop]
        rw [ec] at hp5
        have ld : (a.2.drop 1).length ≤ 4 := by
          rw [List.length_drop]
          have := ga.2.2.1
          omega
        refine rd_catS (sm5 _ _ hp4') hp5 (by rw [List.length_map]; show 1 + (a.2.drop 1).length ≤ 1000; omega) fun p6 H6 sm6 hp6 => ?_
        refine ⟨(by show 2 ≤ sizeLine; decide), fun p7 hp7 => ?_⟩
        have sm7 : Same H6 (upd H6 p7 (.tup [.str a.1, .ref p6])) := same_new hp7 _
        have hp7' : upd H6 p7 (.tup [.str a.1, .ref p6]) p7 = some (.tup [.str a.1, .ref p6]) := upd_same
        generalize upd H6 p7 (.tup [.str a.1, .ref p6]) = H7 at sm7 hp7' ⊢
        refine ⟨(by show 1 ≤ sizeLine; decide), fun p8 hp8 => ?_⟩
        have sm8 : Same H7 (upd H7 p8 (.tup [.ref p7])) := same_new hp8 _
        have hp8' : upd H7 p8 (.tup [.ref p7]) p8 = some (.tup [.ref p7]) := upd_same
        generalize upd H7 p8 (.tup [.ref p7]) = H8 at sm8 hp8' ⊢
        have sm38 : Same H3 H8 := sm4.trans (sm5.trans (sm6.trans (sm7.trans sm8)))
        refine ⟨_, rfl, _, _, _, _, rfl, rfl, SqT.of (sm38 _ _ (tu3 _ _ hq)), rfl, _, rfl, noPart (rd_cutS (sm38 _ _ (tu3 _ _ haa)) fun p9 H9 sm9 hp9 => ?_)⟩
        have ec2 : cutV (V.ref ap :: avs') (some 1) none = avs' := by
          rw [show (1 : Int) = ((1 : Nat) : Int) from rfl, cut_from]
          rfl
        rw [ec2] at hp9
        have lav : avs'.length = ats'.length := Paired.length hA'
        have l8' : ats'.length + 1 ≤ 8 := l8
        refine rd_catS (sm9 _ _ hp8') hp9 (by show 1 + avs'.length ≤ 1000; omega) fun p10 H10 sm10 hp10 => ?_
        refine ⟨(by show 2 ≤ sizeLine; decide), fun p11 hp11 => ?_⟩
        have sm11 : Same H10 (upd H10 p11 (.tup [.ref h0, .ref p10])) := same_new hp11 _
        have hp11' : upd H10 p11 (.tup [.ref h0, .ref p10]) p11 = some (.tup [.ref h0, .ref p10]) := upd_same
        generalize upd H10 p11 (.tup [.ref h0, .ref p10]) = H11 at sm11 hp11' ⊢
        have sm611 : Same H6 H11 := sm7.trans (sm8.trans (sm9.trans (sm10.trans sm11)))
        have sm311 : Same H3 H11 := sm38.trans (sm9.trans (sm10.trans sm11))
        have hF11 := hF3.same sm311
        -- some = ["?a"]
        refine ⟨(by show 1 ≤ sizeLine; decide), fun l12 hl12 => ?_⟩
        have n12 := hF11.nef hl12
        have tu12 : Tups H11 (upd H11 l12 (.lst [.str "?a"])) := (Tups.refl H11).new hl12 _
        have ua : ("?a" : Str) ∈ unkPool := by
          rw [← a_unk]
          exact List.mem_map_of_mem (by decide +kernel)
        refine tl _ _ ⟨p11, h0, p10, l12, _, _, [.ref p7] ++ avs', (a.1, "?a" :: a.2.drop 1) :: ats', ["?a"], rfl, tu12 _ _ hp11', tu12 _ _ (sm11 _ _ hp10), ?_, ⟨l1, l8⟩, fun b hb => ?_, n12, upd_same, Nat.le_refl _, by decide, fun z hz => ?_, hF11.new hl12 _, (ex3.trans (Ext.of sm311)).new hl12 _⟩
        · refine .cons ⟨p7, p6, rfl, tu12 _ _ ((sm8.trans (sm9.trans (sm10.trans sm11))) _ _ hp7'), tu12 _ _ (sm611 _ _ hp6)⟩ (AtomsAt.keep ((tu3.trans (Tups.of sm311)).trans tu12) hA')
        · rcases List.mem_cons.mp hb with rfl | hb
          · refine ⟨ga.1, by show 1 ≤ (a.2.drop 1).length + 1; omega, by show (a.2.drop 1).length + 1 ≤ 4; rw [List.length_drop]; have := ga.2.2.1; have := ga.2.1; omega, fun z hz => ?_⟩
            rcases List.mem_cons.mp hz with rfl | hz
            · exact .inl ua
            · exact ga.2.2.2 z (List.mem_of_mem_drop hz)
          · exact hg b (List.mem_cons_of_mem _ hb)
        · rw [List.mem_singleton.mp hz]
          exact ⟨flatA_mem.mpr ⟨_, List.mem_cons_self, List.mem_cons_self⟩, (unk_is ua).1, (unk_is ua).2⟩
    · have c : (unkL (flatA ats)).isEmpty = false := by
        have c : ¬ ((unkL (flatA ats)).map V.str).isEmpty = true := c
        rw [isEmpty_map] at c
        exact Bool.eq_false_iff.mpr c
      have lu := len_unk (flatA ats)
      have lu1 : 1 ≤ (unkL (flatA ats)).length := by
        cases e : unkL (flatA ats) with
        | nil => rw [e] at c; cases c
        | cons _ _ => exact Nat.succ_le_succ (Nat.zero_le _)
      refine tl _ _ ⟨r, h0, aa, sl, none, none, avs, ats, unkL (flatA ats), rfl, tu3 _ _ hq, tu3 _ _ haa, AtomsAt.keep tu3 hA, ⟨l1, l8⟩, hg, nsl, hsl', lu1, by omega, fun z hz => ?_, hF3, ex3⟩
      rw [unk_ded, mem_ded, List.mem_filter] at hz
      exact ⟨hz.1, hz.2, (pool_term (hflat z hz.1)).2⟩
end
end K01

set_option Elab.async false
set_option linter.all false
set_option maxRecDepth 100000
set_option maxHeartbeats 4000000
namespace K01
open PySem PySem.Spec PyProof.Rows L2
seal L2.PE L2.PT L2.PW L2.PA L2.PS L2.PSs L2.PI L2.PO L2.PPs L2.PG L2.PGs
/-! ## drawn lists of views -/
def spViewsD (K : PySem.W.Frag) : Sp := fun vs H Q _ => ∃ (f nl : Addr) (many : Int) (nms : List Str), vs = [.ref f, .ref nl, .int many] ∧ Feed K f H ∧ nl ≠ f ∧ (H nl = some (.lst (nms.map V.str)) ∧ 1 ≤ nms.length ∧ nms.length ≤ 100) ∧ (∀ z ∈ nms, z ∈ wordsPool) ∧ 0 ≤ many ∧ many ≤ 12 ∧
  ∀ (r : Addr) (vws : List V) (H' : Hp), Feed K f H' → Ext f H H' → r ≠ f → H' r = some (.lst vws) → (vws.length : Int) = many → (∀ v ∈ vws, Th f 8 H' 6 v ∧ viewB H' v = true) → (strsV (vws.map (nameV H'))).Nodup → Q (.ref r) H'
section
variable {P : Program} {w : World} {K : PySem.W.Frag} {mg : Str → Option Value} {base : Heap}
structure Dx (P : Program) (w : World) (K : PySem.W.Frag) (mg : Str → Option Value) (base : Heap) : Prop where
  l_words : DefOk P w K mg base 2 "_law_words" ["_law_feed_here", "_law_many"] (spWords K)
  l_view_question : DefOk P w K mg base 4 "_law_view_question" ["_law_feed_here", "_law_names", "_law_most"] (spViewQ K)
theorem sc_l_views : FnScope ["_law_feed_here", "_law_names", "_law_many"] ["_law_feed_here", "_law_names", "_law_many"] (defScope s_l_views) := ⟨rfl, rfl, rfl, by decide +kernel, rfl, by decide +kernel, by decide +kernel⟩
theorem ok_viewsD {f : Addr} {fd : FuncData} (F : Fun K "_law_views" "_law_views" s_l_views f fd) (T : Txt K mg) (D : Dx P w K mg base) : FnOk P w K mg base CX0 5 f fd ["_law_feed_here", "_law_names", "_law_many"] (spViewsD K) := by
  refine F.ok sc_l_views (fun vs H Q E h => ?_) (fun cdv A outer s H vs Q E hr h => ?_)
  · obtain ⟨a, b, c, d, rfl, _⟩ := h
    rfl
  obtain ⟨fe, nl, many, nms, rfl, hF, nnl, ⟨hnl, hn1, hn2⟩, hnw, hm1, hm2, k⟩ := h
  refine ⟨_, (pss_one (ps_ret (pe_comp rfl (compSc_mk (fs := ["_law_feed_here", "_law_names"]) (fr := [0, 1])) (pi_list (pe_slice sl_list (cl D.l_words hr (pa_cons (pv 0) (pa_cons pe_int pa_nil))) po_none (po_some (pv 2)))) (fun _ _ _ _ => (pe_tup (pa_cons (pv 0) (pa_cons (cl D.l_view_question hr (pa_cons (pv 1) (pa_cons (pv 2) (pa_cons pe_int pa_nil)))) pa_nil))))))), ?_⟩
  refine ⟨_, rfl, fe, 12, rfl, hF, by decide, by decide, fun wl ws H1 hF1 ex1 nwl hwl0 hwl hlw ndw hin => ?_⟩
  refine noPart ⟨_, rfl, _, rfl, wl, _, rfl, SqL.of hwl, fun l hl => ?_⟩
  have e0 : many = ((many.toNat : Nat) : Int) := by omega
  have ec : cutV (ws.map V.str) none (some many) = (ws.take many.toNat).map V.str := by
    rw [e0, cut_to, List.map_take]
    rfl
  rw [ec]
  have nl' := hF1.nef hl
  have hF2 := hF1.new hl (.lst ((ws.take many.toNat).map V.str))
  have ex2 := ex1.new hl (.lst ((ws.take many.toNat).map V.str))
  have hll : upd H1 l (.lst ((ws.take many.toNat).map V.str)) l = some (.lst ((ws.take many.toNat).map V.str)) := upd_same
  generalize upd H1 l (.lst ((ws.take many.toNat).map V.str)) = H2 at hF2 ex2 hll ⊢
  have lw : (ws.take many.toNat).length = many.toNat := by rw [List.length_take]; omega
  have ndt : (ws.take many.toNat).Nodup := ndw.sublist (List.take_sublist _ _)
  have hin' : ∀ z ∈ ws.take many.toNat, z ∈ wordsPool := fun z hz => hin z (List.mem_of_mem_take hz)
  generalize ws.take many.toNat = us at lw ndt hin' hll
  refine ⟨l, rfl, ⟨_, SqL.of hll⟩, comp_list (K := K) (a := l) (xs := us.map V.str) (fun i ys H3 => Feed K fe H3 ∧ Ext fe H2 H3 ∧ i ≤ us.length ∧ ys.length = i ∧ (∀ v ∈ ys, Th fe 8 H3 6 v ∧ viewB H3 v = true) ∧ strsV (ys.map (nameV H3)) = us.take i) (by rw [List.length_map]; exact small1000 (by omega)) ⟨hF2, Ext.refl _ _, Nat.zero_le _, rfl, (fun v h => by cases h), rfl⟩ ?_ ?_ ?_⟩
  · rintro i ys H3 hi ⟨hF3, ex3, hi', hy, _⟩
    exact ⟨SqL.of (ex3 _ _ nl' hll), by omega⟩
  · rintro i x ys H3 N hc ⟨hF3, ex3, hi, hly, hall, hnm⟩ hN
    have hlt : i < (us.map V.str).length := (List.getElem?_eq_some_iff.mp hc).1
    rw [List.length_map] at hlt
    rw [List.getElem?_map, List.getElem?_eq_getElem hlt] at hc
    obtain rfl : V.str us[i] = x := Option.some.inj hc
    have hw := word_is (hin' _ (List.getElem_mem hlt))
    refine rd_true ?_
    refine ⟨_, rfl, _, rfl, _, rfl, fe, nl, 4, nms, rfl, hF3, nnl, ⟨ex3 _ _ nnl (ex2 _ _ nnl hnl), hn1, hn2⟩, hnw, by decide, by decide, fun r H4 hF4 ex4 th4 q4 v4 => ?_⟩
    refine ⟨(by show 2 ≤ sizeLine; decide), fun p hp => ?_⟩
    have ex5 : Ext fe H4 (upd H4 p (.tup [.str us[i], .ref r])) := (Ext.refl fe H4).new hp _
    have hF5 := hF4.new hp (.tup [.str us[i], .ref r])
    have np := hF4.nef hp
    have hpp : upd H4 p (.tup [.str us[i], .ref r]) p = some (.tup [.str us[i], .ref r]) := upd_same
    generalize upd H4 p (.tup [.str us[i], .ref r]) = H5 at ex5 hF5 hpp ⊢
    have ex35 := ex4.trans ex5
    have thv : Th fe 8 H5 6 (.ref p) := Th.tup np hpp (by show 2 ≤ 8; decide) fun x hx => by
      simp only [List.mem_cons, List.not_mem_nil, or_false] at hx
      rcases hx with rfl | rfl
      · exact Th.str hw.2
      · exact th4.keep ex5
    have vwv : viewB H5 (.ref p) = true := by
      rw [viewB_pair (tupOf_ref hpp), th4.quest ex5, th4.head ex5, q4, v4]
      show (isVal us[i] && _) = true
      rw [hw.1]
      rfl
    refine hN _ _ ⟨hF5, ex3.trans ex35, hlt, by rw [List.length_append, hly]; rfl, fun v hv => ?_, ?_⟩
    · rcases List.mem_append.mp hv with hv | hv
      · exact ⟨(hall v hv).1.keep ex35, ((hall v hv).1.view ex35).trans (hall v hv).2⟩
      · rw [List.mem_singleton.mp hv]
        exact ⟨thv, vwv⟩
    · rw [List.map_append, strsV_app, List.map_congr_left fun x hx => (hall x hx).1.nameV ex35, hnm, List.take_add_one, List.getElem?_eq_getElem hlt]
      show _ ++ strsV [nameV H5 (.ref p)] = _
      rw [nameV_pair (tupOf_ref hpp)]
      rfl
  · rintro ys H3 ⟨hF3, ex3, hi, hly, hall, hnm⟩ l2 hl2
    rw [List.length_map] at hly hnm
    rw [List.take_length] at hnm
    have ex4 : Ext fe H3 (upd H3 l2 (.lst ys)) := (Ext.refl fe H3).new hl2 _
    refine k l2 ys _ (hF3.new hl2 _) ((ex2.trans ex3).trans ex4) (hF3.nef hl2) upd_same (by omega) (fun v hv => ⟨(hall v hv).1.keep ex4, ((hall v hv).1.view ex4).trans (hall v hv).2⟩) ?_
    rw [List.map_congr_left fun x hx => (hall x hx).1.nameV ex4, hnm]
    exact ndt
end
end K01

set_option Elab.async false
set_option linter.all false
set_option maxRecDepth 100000
set_option maxHeartbeats 4000000
namespace K01
open PySem PySem.Spec PyProof.Rows L2
seal L2.PE L2.PT L2.PW L2.PA L2.PS L2.PSs L2.PI L2.PO L2.PPs L2.PG L2.PGs
/-! ## spoilt views -/
def Many (f : Addr) (m n : Nat) (H : Hp) (l : List V) : Prop := ∀ v ∈ l, Th f m H n v
theorem Many.keep {f : Addr} {m n : Nat} {H H' : Hp} {l : List V} (h : Many f m n H l) (e : Ext f H H') : Many f m n H' l := fun x hx => (h x hx).keep e
theorem pick {xs : List V} {i : Int} (h0 : 0 ≤ i) (h1 : i < (xs.length : Int)) : ∃ v, v ∈ xs ∧ atI xs i = some v := by
  obtain ⟨v, hv⟩ : ∃ v, xs[i.toNat]? = some v := ⟨_, List.getElem?_eq_getElem (by omega)⟩
  refine ⟨v, List.mem_of_getElem? hv, ?_⟩
  have e : i = ((i.toNat : Nat) : Int) := by omega
  rw [e]
  exact atI_nat hv
theorem len_rep (k : Nat) (xs : List V) : (List.replicate k xs).flatten.length = k * xs.length := by
  induction k with
  | zero => simp
  | succ k ih => rw [List.replicate_succ, List.flatten_cons, List.length_append, ih, Nat.succ_mul, Nat.add_comm]
theorem mem_rep {k : Nat} {xs : List V} {y : V} (h : y ∈ (List.replicate k xs).flatten) : y ∈ xs := by
  obtain ⟨l, h1, h2⟩ := List.mem_flatten.mp h
  rw [(List.mem_replicate.mp h1).2] at h2
  exact h2
theorem Th.parts {f : Addr} {m n : Nat} {H : Hp} {a : Addr} {xs : List V} {y : V} (t : Th f m H (n + 1) (.ref a)) (h : H a = some (.tup xs)) (hy : y ∈ xs) : Th f m H n y := by
  obtain ⟨_, _, _, _, _, hx⟩ := t.items (tupOf_ref h)
  exact hx y hy
theorem ixN_nat {n j : Nat} (h : j < n) : ixN n (j : Int) = some j := by
  unfold ixN
  simp
  omega
/-- a list is written: a thing stays one -/
theorem Th.but {f : Addr} {m : Nat} {H : Hp} {a : Addr} {xs ys : List V} (ha : H a = some (.lst xs)) : ∀ {n : Nat} {v : V}, Th f m H n v → Th f m (upd H a (.lst ys)) n v
  | 0, _, h => h
  | n + 1, v, h => by
    rcases h with h | h | h | h | ⟨b, zs, rfl, nf, h⟩ | ⟨b, kvs, rfl, nf, h⟩ | ⟨b, zs, rfl, nf, h, hl, hx⟩
    · exact .inl h
    · exact .inr (.inl h)
    · exact .inr (.inr (.inl h))
    · exact .inr (.inr (.inr (.inl h)))
    · by_cases e : b = a
      · subst e
        exact Th.lst nf upd_same
      · exact Th.lst nf (by rw [upd_ne e]; exact h)
    · exact Th.dic nf (by rw [upd_ne (ne_of h ha fun z => by cases z)]; exact h)
    · exact Th.tup nf (by rw [upd_ne (ne_of h ha fun z => by cases z)]; exact h) hl fun x hx' => Th.but ha (hx x hx')
def spSpoilt (K : PySem.W.Frag) : Sp := fun vs H Q _ => ∃ (f vl : Addr) (vws : List V), vs = [.ref f, .ref vl] ∧ Feed K f H ∧ vl ≠ f ∧ H vl = some (.lst vws) ∧ 1 ≤ vws.length ∧ vws.length ≤ 12 ∧ (∀ v ∈ vws, Th f 8 H 6 v ∧ viewB H v = true) ∧
  ∀ (r : V) (H' : Hp), Feed K f H' → Ext f H H' → Tv f 100 H' 7 r → Q r H'
/-- a view: its parts -/
theorem view_is {f : Addr} {H : Hp} {v : V} (t : Th f 8 H 6 v) (h : viewB H v = true) : ∃ (p qa hd aa : Addr) (z : Str) (hs as : List V), v = .ref p ∧ p ≠ f ∧ H p = some (.tup [.str z, .ref qa]) ∧ z.length ≤ 100 ∧ (qa ≠ f ∧ H qa = some (.tup [.ref hd, .ref aa])) ∧ (hd ≠ f ∧ H hd = some (.tup hs) ∧ hs.length ≤ 4 ∧ ∀ x ∈ hs, Th f 8 H 3 x) ∧
    (aa ≠ f ∧ H aa = some (.tup as) ∧ as ≠ [] ∧ as.length ≤ 8 ∧ ∀ x ∈ as, Th f 8 H 3 x) ∧ Th f 8 H 5 (.ref qa) ∧ Th f 8 H 4 (.ref hd) ∧ Th f 8 H 4 (.ref aa) := by
  by_cases c : pairB H v = true
  case neg =>
    rw [viewB_not (Bool.eq_false_iff.mpr c)] at h
    cases h
  obtain ⟨x, q, e⟩ := pairB_yes c
  obtain ⟨p, rfl, np, hp, _, hx⟩ := t.items e
  rw [viewB_pair e, Bool.and_eq_true, Bool.and_eq_true] at h
  obtain ⟨h1, h2, _⟩ := h
  obtain ⟨z, rfl, hz⟩ := (hx x (by simp)).isStr (by cases x <;> first | rfl | exact absurd h1 Bool.false_ne_true)
  have tq := hx q (by simp)
  by_cases c2 : pairB H q = true
  case neg =>
    rw [questB_not (Bool.eq_false_iff.mpr c2)] at h2
    cases h2
  obtain ⟨hv, av, e2⟩ := pairB_yes c2
  obtain ⟨qa, rfl, nq, hq, _, hxq⟩ := tq.items e2
  rw [questB_pair e2, Bool.and_eq_true, Bool.and_eq_true] at h2
  have th := hxq hv (by simp)
  have ta := hxq av (by simp)
  cases e3 : tupOf H hv with
  | none =>
    rw [termsB_none e3] at h2
    cases h2.1
  | some hs =>
  cases e4 : tupOf H av with
  | none =>
    rw [atomsB_none e4] at h2
    cases h2.2.1
  | some as =>
  obtain ⟨hd, rfl, nh, hh, _, hxh⟩ := th.items e3
  obtain ⟨aa, rfl, na, haa, _, hxa⟩ := ta.items e4
  have g1 := h2.1
  have g2 := h2.2.1
  rw [termsB_some e3, Bool.and_eq_true, Bool.and_eq_true] at g1
  rw [atomsB_some e4, Bool.and_eq_true, Bool.and_eq_true] at g2
  have l1 := of_decide_eq_true g1.2.1
  have l2 := of_decide_eq_true g2.1
  have l3 := of_decide_eq_true g2.2.1
  exact ⟨p, qa, hd, aa, z, hs, as, rfl, np, hp, hz, ⟨nq, hq⟩, ⟨nh, hh, by omega, hxh⟩, ⟨na, haa, (fun e => by rw [e] at l2; exact absurd l2 (by decide)), by omega, hxa⟩, tq, th, ta⟩
section
variable {P : Program} {w : World} {K : PySem.W.Frag} {mg : Str → Option Value} {base : Heap}
theorem sc_l_spoilt : FnScope ["_law_feed_here", "_law_views_here", "_law_some", "_law_at", "_law_name", "_law_made", "_law_head_here", "_law_atoms", "_law_way", "_law_odd"] ["_law_feed_here", "_law_views_here"] (defScope s_l_spoilt) := ⟨rfl, rfl, rfl, by decide +kernel, rfl, by decide +kernel, by decide +kernel⟩
theorem set_th {f : Addr} {m n : Nat} {H : Hp} {l : List V} {i : Nat} {x : V} (h : ∀ v ∈ l, Th f m H n v) (t : Th f m H n x) : ∀ v ∈ l.set i x, Th f m H n v := fun v hv => by
  rcases List.mem_or_eq_of_mem_set hv with q | q
  · exact h v q
  · rw [q]
    exact t
theorem pairs_views {H : Hp} {f : Addr} : ∀ {vws : List V}, (∀ v ∈ vws, Th f 8 H 6 v ∧ viewB H v = true) → ∃ kvs : List (Key × V), Paired (fun (y : V) (kv : Key × V) => ∃ t, y = .ref t ∧ H t = some (.tup [kV kv.1, kv.2])) vws kvs
  | [], _ => ⟨[], .nil⟩
  | v :: r, h => by
    obtain ⟨kvs, hk⟩ := pairs_views (vws := r) fun x hx => h x (List.mem_cons_of_mem _ hx)
    obtain ⟨p, qa, _, _, z, _, _, rfl, _, hp, _⟩ := view_is (h v List.mem_cons_self).1 (h v List.mem_cons_self).2
    exact ⟨(Sum.inr z, .ref qa) :: kvs, .cons ⟨p, rfl, hp⟩ hk⟩
theorem ok_spoilt {f : Addr} {fd : FuncData} (F : Fun K "_law_spoilt" "_law_spoilt" s_l_spoilt f fd) (T : Txt K mg) (D : Dr P w K mg base) : FnOk P w K mg base CX0 2 f fd ["_law_feed_here", "_law_views_here"] (spSpoilt K) := by
  refine F.ok sc_l_spoilt (fun vs H Q E h => ?_) (fun cdv A outer s H vs Q E hr h => ?_)
  · obtain ⟨a, b, c, rfl, _⟩ := h
    rfl
  obtain ⟨fe, vl, vws, rfl, hF, nvl, hvl, l1, l12, hall, k⟩ := h
  refine cut 5 (fun σ H2 => ∃ (sl : Addr) (j : Nat) (p qa hd aa : Addr) (z : Str) (hs as : List V) (way : Int), σ = [some (.ref fe), some (.ref vl), some (.ref sl), some (.int (j : Int)), some (.str z), some (.ref qa), some (.ref hd), some (.ref aa), some (.int way), none] ∧ sl ≠ fe ∧ H2 sl = some (.lst vws) ∧ H sl = none ∧ j < vws.length ∧ vws[j]? = some (.ref p) ∧ z.length ≤ 100 ∧ Feed K fe H2 ∧ Ext fe H H2 ∧
      (qa ≠ fe ∧ H2 qa = some (.tup [.ref hd, .ref aa])) ∧ (hd ≠ fe ∧ H2 hd = some (.tup hs) ∧ hs.length ≤ 4 ∧ ∀ x ∈ hs, Th fe 8 H2 3 x) ∧ (aa ≠ fe ∧ H2 aa = some (.tup as) ∧ as ≠ [] ∧ as.length ≤ 8 ∧ ∀ x ∈ as, Th fe 8 H2 3 x) ∧ Th fe 8 H2 5 (.ref qa) ∧ Th fe 8 H2 4 (.ref hd) ∧ Th fe 8 H2 4 (.ref aa))
    ⟨_, (pss_cons (ps_if (pt_cmpR op_eq (pv 8) pe_int (nomark _)) (pss_cons (ps_set (i := 9) sc_l_spoilt.nd rfl (Or.inl rfl) (pe_lst (pa_cons pe_str (pa_cons pe_str (pa_cons pe_str (pa_cons pe_int (pa_cons pe_non (pa_cons (pe_tup (pa_cons pe_str pa_nil)) (pa_cons (pe_ix ix_tup (pe_ix ix_list (pv 2) pe_int (fun _ _ => rfl)) pe_int (fun _ _ => rfl)) (pa_cons pe_str (pa_cons pe_str (pa_cons pe_bl pa_nil))))))))))))
      (pss_one (ps_asg (pe_tup (pa_cons (pe_ix ix_list (pv 9) (cl D.l_draw hr (pa_cons (pv 0) (pa_cons pe_int pa_nil))) (fun _ _ => rfl)) (pa_cons (pv 5) pa_nil))) (pg_sub (pv 2) (pv 3) set_list)))) (pss_one (ps_if (pt_cmpR op_eq (pv 8) pe_int (nomark _)) (pss_cons (ps_set (i := 9) sc_l_spoilt.nd rfl (Or.inl rfl) (pe_lst (pa_cons (pe_tup pa_nil) (pa_cons (pe_tup (pa_cons pe_str pa_nil)) (pa_cons (pe_op op_catA (pv 6) (pe_slice sl_tupA (pv 6) po_none (po_some pe_int))) (pa_cons (pe_callTy call_list_of rfl T.n_list (by decide +kernel) (pa_cons (pv 6) pa_nil)) (pa_cons (pe_op op_catA (pv 6) (pe_tup (pa_cons pe_str pa_nil))) (pa_cons (pe_tup (pa_cons pe_str pa_nil)) (pa_cons (pe_tup (pa_cons pe_str pa_nil)) (pa_cons pe_non (pa_cons (pe_slice sl_tupA (pv 6) po_none (po_some pe_int)) (pa_cons (pe_tup (pa_cons pe_int pa_nil)) pa_nil))))))))))))
      (pss_one (ps_asg (pe_tup (pa_cons (pv 4) (pa_cons (pe_tup (pa_cons (pe_ix ix_list (pv 9) (cl D.l_draw hr (pa_cons (pv 0) (pa_cons pe_int pa_nil))) (fun _ _ => rfl)) (pa_cons (pv 7) pa_nil))) pa_nil))) (pg_sub (pv 2) (pv 3) set_list)))) (pss_one (ps_if (pt_cmpR op_eq (pv 8) pe_int (nomark _)) (pss_cons (ps_set (i := 9) sc_l_spoilt.nd rfl (Or.inl rfl) (pe_lst (pa_cons (pe_callTy call_list_of rfl T.n_list (by decide +kernel) (pa_cons (pv 7) pa_nil)) (pa_cons (pe_tup pa_nil) (pa_cons (pe_op op_catA (pv 7) (pe_tup (pa_cons (pe_tup (pa_cons pe_str (pa_cons (pe_tup pa_nil) pa_nil))) pa_nil))) (pa_cons (pe_op op_catA (pv 7) (pe_tup (pa_cons (pe_lst (pa_cons pe_str (pa_cons (pe_tup (pa_cons pe_str pa_nil)) pa_nil))) pa_nil))) (pa_cons (pe_op op_catA (pv 7) (pe_tup (pa_cons (pe_tup (pa_cons pe_str (pa_cons (pe_lst (pa_cons pe_str pa_nil)) pa_nil))) pa_nil))) (pa_cons pe_non pa_nil))))))))
      (pss_cons (ps_set (i := 9) sc_l_spoilt.nd rfl (Or.inl rfl) (pe_op op_cat (pv 9) (pe_lst (pa_cons (pe_op op_catA (pv 7) (pe_tup (pa_cons (pe_tup (pa_cons pe_str (pa_cons (pe_tup (pa_cons pe_str pa_nil)) pa_nil))) pa_nil))) (pa_cons (pe_op op_catA (pv 7) (pe_tup (pa_cons (pe_tup (pa_cons pe_str (pa_cons (pe_op op_mulT (pe_tup (pa_cons pe_str pa_nil)) pe_int) pa_nil))) pa_nil))) (pa_cons (pe_op op_mulT (pv 7) pe_int) (pa_cons (pe_op op_catA (pv 7) (pe_tup (pa_cons (pe_tup (pa_cons pe_str (pa_cons (pe_tup (pa_cons pe_str (pa_cons pe_int pa_nil))) pa_nil))) pa_nil))) pa_nil)))))))
      (pss_one (ps_asg (pe_tup (pa_cons (pv 4) (pa_cons (pe_tup (pa_cons (pv 6) (pa_cons (pe_ix ix_list (pv 9) (cl D.l_draw hr (pa_cons (pv 0) (pa_cons pe_int pa_nil))) (fun _ _ => rfl)) pa_nil))) pa_nil))) (pg_sub (pv 2) (pv 3) set_list))))) (pss_one (ps_if (pt_cmpR op_eq (pv 8) pe_int (nomark _)) (pss_cons (ps_set (i := 9) sc_l_spoilt.nd rfl (Or.inl rfl) (pe_lst (pa_cons (pe_lst (pa_cons (pv 4) (pa_cons (pv 5) pa_nil))) (pa_cons (pe_tup (pa_cons (pv 4) pa_nil)) (pa_cons (pe_tup (pa_cons (pv 4) (pa_cons (pe_callTy call_list_of rfl T.n_list (by decide +kernel) (pa_cons (pv 5) pa_nil)) pa_nil))) (pa_cons (pe_tup (pa_cons (pv 4) (pa_cons (pv 5) (pa_cons pe_int pa_nil)))) (pa_cons pe_non (pa_cons (pv 4) (pa_cons (pe_tup (pa_cons (pv 4) (pa_cons (pe_slice sl_tupA (pv 5) po_none (po_some pe_int)) pa_nil))) (pa_cons (pe_tup (pa_cons (pv 5) (pa_cons (pv 4) pa_nil))) pa_nil))))))))))
      (pss_one (ps_asg (pe_ix ix_list (pv 9) (cl D.l_draw hr (pa_cons (pv 0) (pa_cons pe_int pa_nil))) (fun _ _ => rfl)) (pg_sub (pv 2) (pv 3) set_list)))) (pss_one (ps_ret (pe_ix ix_list (pe_lst (pa_cons (pe_callTy call_tuple_of rfl T.n_tuple (by decide +kernel) (pa_cons (pv 2) pa_nil)) (pa_cons pe_non (pa_cons (pe_callTy (call_dict_pairs hr.hd) rfl T.n_dict (by decide +kernel) (pa_cons (pv 2) pa_nil)) (pa_cons (pe_ix ix_list (pv 2) (pv 3) (fun _ _ => rfl)) (pa_cons (pe_lst (pa_cons (pv 2) pa_nil)) (pa_cons pe_str (pa_cons pe_int (pa_cons (pe_op op_cat (pv 2) (pe_slice sl_list (pv 2) po_none (po_some pe_int))) pa_nil))))))))) (cl D.l_draw hr (pa_cons (pv 0) (pa_cons pe_int pa_nil))) (fun _ _ => rfl)))))))))))
      (pss_one (ps_ret (pv 2)))), ?_⟩ (fun t2 ht => ⟨_, (pss_cons (ps_set (i := 2) sc_l_spoilt.nd rfl (Or.inl rfl) (pe_callTy call_list_of rfl T.n_list (by decide +kernel) (pa_cons (pv 1) pa_nil)))
      (pss_cons (ps_set (i := 3) sc_l_spoilt.nd rfl (Or.inl rfl) (cl D.l_draw hr (pa_cons (pv 0) (pa_cons (pe_callB call_len rfl T.n_len PySem.boot_len (pa_cons (pv 2) pa_nil)) pa_nil))))
      (pss_cons (ps_asg (pe_ix ix_list (pv 2) (pv 3) (fun _ _ => rfl)) (pg_tup rfl (pgs_cons (pg_name (i := 4) sc_l_spoilt.nd rfl (Or.inl rfl)) (pgs_cons (pg_name (i := 5) sc_l_spoilt.nd rfl (Or.inl rfl)) pgs_nil))))
      (pss_cons (ps_asg (pv 5) (pg_tup rfl (pgs_cons (pg_name (i := 6) sc_l_spoilt.nd rfl (Or.inl rfl)) (pgs_cons (pg_name (i := 7) sc_l_spoilt.nd rfl (Or.inl rfl)) pgs_nil))))
      (pss_cons (ps_set (i := 8) sc_l_spoilt.nd rfl (Or.inl rfl) (cl D.l_draw hr (pa_cons (pv 0) (pa_cons pe_int pa_nil)))) ht))))), fun tl => ?_⟩)
  · rintro σ H2 ⟨sl, j, p, qa, hd, aa, z, hs, as, way, rfl, nsl, hsl, sl0, hj, hjp, hz, hF2, ex2, ⟨nqa, hqa⟩, ⟨nhd, hhd, lhs, Ihd⟩, ⟨naa, haa, ne_as, las, Iaa⟩, Tqa, Thd, Taa⟩
    have x0 : Ext fe H2 H2 := Ext.refl fe H2
    have Iqa : ∀ y ∈ ([.ref hd, .ref aa] : List V), Th fe 8 H2 4 y := fun y hy => by
      simp only [List.mem_cons, List.not_mem_nil, or_false] at hy
      rcases hy with rfl | rfl
      · exact Thd
      · exact Taa
    obtain ⟨v0, hv0⟩ : ∃ v, vws[0]? = some v := ⟨_, List.getElem?_eq_getElem (by omega)⟩
    obtain ⟨p0, q0, _, _, z0, _, _, rfl, np0', hp0', hz0, _⟩ := view_is (hall v0 (List.mem_of_getElem? hv0)).1 (hall v0 (List.mem_of_getElem? hv0)).2
    have np0 : p0 ≠ fe := np0'
    have hp0 := ex2 _ _ np0 hp0'
    have a0 : atI vws 0 = some (.ref p0) := atI_nat (j := 0) hv0
    have hix : ixN vws.length (j : Int) = some j := ixN_nat hj
    have fin : ∀ (x : V) (H' : Hp), Feed K fe H' → Ext fe H2 H' → Th fe 100 H' 7 x → Q (.ref sl) (upd H' sl (.lst (vws.set j x))) := fun x H' hF' ex' tx => by
      have hsl' := ex' _ _ nsl hsl
      have hF3 := hF'.lst hsl' nsl (.lst (vws.set j x))
      have ex3 : Ext fe H (upd H' sl (.lst (vws.set j x))) := (ex2.trans ex').own sl0 _
      refine k _ _ hF3 ex3 (.inl ⟨sl, _, rfl, nsl, upd_same, by rw [List.length_set]; omega, ?_⟩)
      refine set_th (fun v hv => ((hall v hv).1.mono ex3 (by decide) (by decide))) ?_
      exact Th.but hsl' tx
    refine ⟨_, rfl, rfl, _, rfl, ?_⟩
    refine ite2 (fun c => ?_) (fun c => ?_)
    · -- the name
      refine ⟨(by show 1 ≤ sizeLine; decide), fun p1 hp1 => ?_⟩
      have F1 := hF2.new hp1 (.tup [.str "a"])
      have y1 : Ext fe H2 (upd H2 p1 (.tup [.str "a"])) := (Ext.refl fe H2).new hp1 _
      have n1 := hF2.nef hp1
      have e1 : upd H2 p1 (.tup [.str "a"]) p1 = some (.tup [.str "a"]) := upd_same
      have x1 := x0.trans y1
      generalize upd H2 p1 (.tup [.str "a"]) = G1 at F1 y1 e1 x1  ⊢
      have T1 : Th fe 100 G1 2 (.ref p1) := Th.tup n1 e1 (by show 1 ≤ 100; decide) (fun y hy => by
        simp only [List.mem_cons, List.not_mem_nil, or_false] at hy
        subst hy
        exact Th.str (by decide +kernel))
      refine ⟨_, rfl, _, _, _, _, rfl, rfl, SqL.of (x1 _ _ nsl hsl), a0, _, _, _, _, rfl, rfl, SqT.of (x1 _ _ np0 hp0), rfl, ?_⟩
      refine ⟨(by show 10 ≤ sizeLine; decide), fun p2 hp2 => ?_⟩
      have F2 := F1.new hp2 (.lst [.str "", .str "A", .str "abcdefghi", .int 7, .non, .ref p1, .str z0, .str "?a", .str "zz", .bl true])
      have y2 : Ext fe G1 (upd G1 p2 (.lst [.str "", .str "A", .str "abcdefghi", .int 7, .non, .ref p1, .str z0, .str "?a", .str "zz", .bl true])) := (Ext.refl fe G1).new hp2 _
      have n2 := F1.nef hp2
      have e2 : upd G1 p2 (.lst [.str "", .str "A", .str "abcdefghi", .int 7, .non, .ref p1, .str z0, .str "?a", .str "zz", .bl true]) p2 = some (.lst [.str "", .str "A", .str "abcdefghi", .int 7, .non, .ref p1, .str z0, .str "?a", .str "zz", .bl true]) := upd_same
      have x2 := x1.trans y2
      have T1 := T1.keep y2
      generalize upd G1 p2 (.lst [.str "", .str "A", .str "abcdefghi", .int 7, .non, .ref p1, .str z0, .str "?a", .str "zz", .bl true]) = G2 at F2 y2 e2 x2 T1 ⊢
      have M : Many fe 100 6 G2 ([.str "", .str "A", .str "abcdefghi", .int 7, .non, .ref p1, .str z0, .str "?a", .str "zz", .bl true] : List V) := (fun y hy => by
        simp only [List.mem_cons, List.not_mem_nil, or_false] at hy
        rcases hy with rfl | rfl | rfl | rfl | rfl | rfl | rfl | rfl | rfl | rfl
        · exact Th.str (by decide +kernel)
        · exact Th.str (by decide +kernel)
        · exact Th.str (by decide +kernel)
        · exact Th.int
        · exact Th.non
        · exact T1.up (Nat.le_refl _) (by decide)
        · exact Th.str hz0
        · exact Th.str (by decide +kernel)
        · exact Th.str (by decide +kernel)
        · exact Th.bl)
      refine ⟨_, rfl, _, rfl, fe, 10, rfl, F2, by decide, by decide, fun i9 H9 i0 i1 hF9 ex9 => ?_⟩
      obtain ⟨r, hr1, hr2⟩ := pick (xs := ([.str "", .str "A", .str "abcdefghi", .int 7, .non, .ref p1, .str z0, .str "?a", .str "zz", .bl true] : List V)) i0 (by show i9 < 10; exact i1)
      refine ⟨_, _, _, _, rfl, rfl, SqL.of (ex9 _ _ n2 e2), hr2, ?_⟩
      have xx := x2.trans ex9
      refine ⟨_, rfl, (by show 2 ≤ sizeLine; decide), fun p10 hp10 => ?_⟩
      have ex10 : Ext fe H9 (upd H9 p10 (.tup [r, .ref qa])) := (Ext.refl fe H9).new hp10 _
      have xa := xx.trans ex10
      refine ⟨_, rfl, _, rfl, sl, _, _, _, rfl, rfl, xa _ _ nsl hsl, hix, _, rfl, ?_⟩
      refine fin _ _ (hF9.new hp10 _) xa (Th.tup (hF9.nef hp10) upd_same (by show 2 ≤ 100; decide) fun y hy => ?_)
      simp only [List.mem_cons, List.not_mem_nil, or_false] at hy
      rcases hy with rfl | rfl
      · exact (M _ hr1).keep (ex9.trans ex10)
      · exact Tqa.mono xa (by decide) (by decide)
    refine ⟨_, rfl, rfl, _, rfl, ?_⟩
    refine ite2 (fun c => ?_) (fun c => ?_)
    · -- the head
      refine ⟨(by show 0 ≤ sizeLine; decide), fun p1 hp1 => ?_⟩
      have F1 := hF2.new hp1 (.tup [])
      have y1 : Ext fe H2 (upd H2 p1 (.tup [])) := (Ext.refl fe H2).new hp1 _
      have n1 := hF2.nef hp1
      have e1 : upd H2 p1 (.tup []) p1 = some (.tup []) := upd_same
      have x1 := x0.trans y1
      generalize upd H2 p1 (.tup []) = G1 at F1 y1 e1 x1  ⊢
      have T1 : Th fe 100 G1 2 (.ref p1) := Th.tup n1 e1 (by show 0 ≤ 100; decide) (fun y hy => by
        cases hy)
      refine ⟨(by show 1 ≤ sizeLine; decide), fun p2 hp2 => ?_⟩
      have F2 := F1.new hp2 (.tup [.str "a"])
      have y2 : Ext fe G1 (upd G1 p2 (.tup [.str "a"])) := (Ext.refl fe G1).new hp2 _
      have n2 := F1.nef hp2
      have e2 : upd G1 p2 (.tup [.str "a"]) p2 = some (.tup [.str "a"]) := upd_same
      have x2 := x1.trans y2
      have T1 := T1.keep y2
      generalize upd G1 p2 (.tup [.str "a"]) = G2 at F2 y2 e2 x2 T1 ⊢
      have T2 : Th fe 100 G2 2 (.ref p2) := Th.tup n2 e2 (by show 1 ≤ 100; decide) (fun y hy => by
        simp only [List.mem_cons, List.not_mem_nil, or_false] at hy
        subst hy
        exact Th.str (by decide +kernel))
      refine ⟨_, rfl, ?_⟩
      refine ⟨_, rfl, noPart ⟨_, rfl, rd_cutS (x2 _ _ nhd hhd) fun p3 G3 sm3 e3 => ?_⟩⟩
      have F3 := F2.same sm3
      have y3 : Ext fe G2 G3 := Ext.of sm3
      have n3 := ne_feed F3 e3
      have x3 := x2.trans y3
      have T1 := T1.keep y3
      have T2 := T2.keep y3
      have T3 : Th fe 100 G3 4 (.ref p3) := Th.tup n3 e3 (Nat.le_trans (cutV_length _ _ _) (by first | omega | (show 2 ≤ 100; decide))) (fun y hy => (Ihd y (cut_mem hy)).mono x3 (by decide) (by decide))
      have c4 := cutV_length hs none (some 1)
      refine rd_catS (x3 _ _ nhd hhd) e3 (by show hs.length + (cutV hs none (some 1)).length ≤ 1000; omega) fun p4 G4 sm4 e4 => ?_
      have F4 := F3.same sm4
      have y4 : Ext fe G3 G4 := Ext.of sm4
      have n4 := ne_feed F4 e4
      have x4 := x3.trans y4
      have T1 := T1.keep y4
      have T2 := T2.keep y4
      have T3 := T3.keep y4
      have T4 : Th fe 100 G4 4 (.ref p4) := Th.tup n4 e4 (by rw [List.length_append]; show hs.length + (cutV hs none (some 1)).length ≤ 100; omega) (fun y hy => by
        rcases List.mem_append.mp hy with hy | hy
        · exact (Ihd y hy).mono x4 (by decide) (by decide)
        · exact (T3.parts (y4 _ _ n3 e3) hy).up (Nat.le_refl _) (by decide))
      refine ⟨_, rfl, hd, _, rfl, .inr (SqT.of (x4 _ _ nhd hhd)), fun p5 hp5 => ?_⟩
      have F5 := F4.new hp5 (.lst hs)
      have y5 : Ext fe G4 (upd G4 p5 (.lst hs)) := (Ext.refl fe G4).new hp5 _
      have n5 := F4.nef hp5
      have e5 : upd G4 p5 (.lst hs) p5 = some (.lst hs) := upd_same
      have x5 := x4.trans y5
      have T1 := T1.keep y5
      have T2 := T2.keep y5
      have T4 := T4.keep y5
      generalize upd G4 p5 (.lst hs) = G5 at F5 y5 e5 x5 T1 T2 T4 ⊢
      have T5 : Th fe 100 G5 1 (.ref p5) := Th.lst n5 e5
      refine ⟨_, rfl, ?_⟩
      refine ⟨(by show 1 ≤ sizeLine; decide), fun p6 hp6 => ?_⟩
      have F6 := F5.new hp6 (.tup [.str "?zz"])
      have y6 : Ext fe G5 (upd G5 p6 (.tup [.str "?zz"])) := (Ext.refl fe G5).new hp6 _
      have n6 := F5.nef hp6
      have e6 : upd G5 p6 (.tup [.str "?zz"]) p6 = some (.tup [.str "?zz"]) := upd_same
      have x6 := x5.trans y6
      have T1 := T1.keep y6
      have T2 := T2.keep y6
      have T4 := T4.keep y6
      have T5 := T5.keep y6
      generalize upd G5 p6 (.tup [.str "?zz"]) = G6 at F6 y6 e6 x6 T1 T2 T4 T5 ⊢
      have T6 : Th fe 100 G6 2 (.ref p6) := Th.tup n6 e6 (by show 1 ≤ 100; decide) (fun y hy => by
        simp only [List.mem_cons, List.not_mem_nil, or_false] at hy
        subst hy
        exact Th.str (by decide +kernel))
      have c7 := cutV_length hs none (some 1)
      refine rd_catS (x6 _ _ nhd hhd) e6 (by show hs.length + 1 ≤ 1000; omega) fun p7 G7 sm7 e7 => ?_
      have F7 := F6.same sm7
      have y7 : Ext fe G6 G7 := Ext.of sm7
      have n7 := ne_feed F7 e7
      have x7 := x6.trans y7
      have T1 := T1.keep y7
      have T2 := T2.keep y7
      have T4 := T4.keep y7
      have T5 := T5.keep y7
      have T6 := T6.keep y7
      have T7 : Th fe 100 G7 4 (.ref p7) := Th.tup n7 e7 (by rw [List.length_append]; show hs.length + 1 ≤ 100; omega) (fun y hy => by
        rcases List.mem_append.mp hy with hy | hy
        · exact (Ihd y hy).mono x7 (by decide) (by decide)
        · exact (T6.parts (y7 _ _ n6 e6) hy).up (Nat.le_refl _) (by decide))
      refine ⟨(by show 1 ≤ sizeLine; decide), fun p8 hp8 => ?_⟩
      have F8 := F7.new hp8 (.tup [.str "?"])
      have y8 : Ext fe G7 (upd G7 p8 (.tup [.str "?"])) := (Ext.refl fe G7).new hp8 _
      have n8 := F7.nef hp8
      have e8 : upd G7 p8 (.tup [.str "?"]) p8 = some (.tup [.str "?"]) := upd_same
      have x8 := x7.trans y8
      have T1 := T1.keep y8
      have T2 := T2.keep y8
      have T4 := T4.keep y8
      have T5 := T5.keep y8
      have T7 := T7.keep y8
      generalize upd G7 p8 (.tup [.str "?"]) = G8 at F8 y8 e8 x8 T1 T2 T4 T5 T7 ⊢
      have T8 : Th fe 100 G8 2 (.ref p8) := Th.tup n8 e8 (by show 1 ≤ 100; decide) (fun y hy => by
        simp only [List.mem_cons, List.not_mem_nil, or_false] at hy
        subst hy
        exact Th.str (by decide +kernel))
      refine ⟨(by show 1 ≤ sizeLine; decide), fun p9 hp9 => ?_⟩
      have F9 := F8.new hp9 (.tup [.str "?A"])
      have y9 : Ext fe G8 (upd G8 p9 (.tup [.str "?A"])) := (Ext.refl fe G8).new hp9 _
      have n9 := F8.nef hp9
      have e9 : upd G8 p9 (.tup [.str "?A"]) p9 = some (.tup [.str "?A"]) := upd_same
      have x9 := x8.trans y9
      have T1 := T1.keep y9
      have T2 := T2.keep y9
      have T4 := T4.keep y9
      have T5 := T5.keep y9
      have T7 := T7.keep y9
      have T8 := T8.keep y9
      generalize upd G8 p9 (.tup [.str "?A"]) = G9 at F9 y9 e9 x9 T1 T2 T4 T5 T7 T8 ⊢
      have T9 : Th fe 100 G9 2 (.ref p9) := Th.tup n9 e9 (by show 1 ≤ 100; decide) (fun y hy => by
        simp only [List.mem_cons, List.not_mem_nil, or_false] at hy
        subst hy
        exact Th.str (by decide +kernel))
      refine ⟨_, rfl, noPart ⟨_, rfl, rd_cutS (x9 _ _ nhd hhd) fun p10 G10 sm10 e10 => ?_⟩⟩
      have F10 := F9.same sm10
      have y10 : Ext fe G9 G10 := Ext.of sm10
      have n10 := ne_feed F10 e10
      have x10 := x9.trans y10
      have T1 := T1.keep y10
      have T2 := T2.keep y10
      have T4 := T4.keep y10
      have T5 := T5.keep y10
      have T7 := T7.keep y10
      have T8 := T8.keep y10
      have T9 := T9.keep y10
      have T10 : Th fe 100 G10 4 (.ref p10) := Th.tup n10 e10 (Nat.le_trans (cutV_length _ _ _) (by first | omega | (show 2 ≤ 100; decide))) (fun y hy => (Ihd y (cut_mem hy)).mono x10 (by decide) (by decide))
      refine ⟨(by show 1 ≤ sizeLine; decide), fun p11 hp11 => ?_⟩
      have F11 := F10.new hp11 (.tup [.int 7])
      have y11 : Ext fe G10 (upd G10 p11 (.tup [.int 7])) := (Ext.refl fe G10).new hp11 _
      have n11 := F10.nef hp11
      have e11 : upd G10 p11 (.tup [.int 7]) p11 = some (.tup [.int 7]) := upd_same
      have x11 := x10.trans y11
      have T1 := T1.keep y11
      have T2 := T2.keep y11
      have T4 := T4.keep y11
      have T5 := T5.keep y11
      have T7 := T7.keep y11
      have T8 := T8.keep y11
      have T9 := T9.keep y11
      have T10 := T10.keep y11
      generalize upd G10 p11 (.tup [.int 7]) = G11 at F11 y11 e11 x11 T1 T2 T4 T5 T7 T8 T9 T10 ⊢
      have T11 : Th fe 100 G11 2 (.ref p11) := Th.tup n11 e11 (by show 1 ≤ 100; decide) (fun y hy => by
        simp only [List.mem_cons, List.not_mem_nil, or_false] at hy
        subst hy
        exact Th.int)
      refine ⟨(by show 10 ≤ sizeLine; decide), fun p12 hp12 => ?_⟩
      have F12 := F11.new hp12 (.lst [.ref p1, .ref p2, .ref p4, .ref p5, .ref p7, .ref p8, .ref p9, .non, .ref p10, .ref p11])
      have y12 : Ext fe G11 (upd G11 p12 (.lst [.ref p1, .ref p2, .ref p4, .ref p5, .ref p7, .ref p8, .ref p9, .non, .ref p10, .ref p11])) := (Ext.refl fe G11).new hp12 _
      have n12 := F11.nef hp12
      have e12 : upd G11 p12 (.lst [.ref p1, .ref p2, .ref p4, .ref p5, .ref p7, .ref p8, .ref p9, .non, .ref p10, .ref p11]) p12 = some (.lst [.ref p1, .ref p2, .ref p4, .ref p5, .ref p7, .ref p8, .ref p9, .non, .ref p10, .ref p11]) := upd_same
      have x12 := x11.trans y12
      have T1 := T1.keep y12
      have T2 := T2.keep y12
      have T4 := T4.keep y12
      have T5 := T5.keep y12
      have T7 := T7.keep y12
      have T8 := T8.keep y12
      have T9 := T9.keep y12
      have T10 := T10.keep y12
      have T11 := T11.keep y12
      generalize upd G11 p12 (.lst [.ref p1, .ref p2, .ref p4, .ref p5, .ref p7, .ref p8, .ref p9, .non, .ref p10, .ref p11]) = G12 at F12 y12 e12 x12 T1 T2 T4 T5 T7 T8 T9 T10 T11 ⊢
      have M : Many fe 100 5 G12 ([.ref p1, .ref p2, .ref p4, .ref p5, .ref p7, .ref p8, .ref p9, .non, .ref p10, .ref p11] : List V) := (fun y hy => by
        simp only [List.mem_cons, List.not_mem_nil, or_false] at hy
        rcases hy with rfl | rfl | rfl | rfl | rfl | rfl | rfl | rfl | rfl | rfl
        · exact T1.up (Nat.le_refl _) (by decide)
        · exact T2.up (Nat.le_refl _) (by decide)
        · exact T4.up (Nat.le_refl _) (by decide)
        · exact T5.up (Nat.le_refl _) (by decide)
        · exact T7.up (Nat.le_refl _) (by decide)
        · exact T8.up (Nat.le_refl _) (by decide)
        · exact T9.up (Nat.le_refl _) (by decide)
        · exact Th.non
        · exact T10.up (Nat.le_refl _) (by decide)
        · exact T11.up (Nat.le_refl _) (by decide))
      refine ⟨_, rfl, _, rfl, _, rfl, fe, 10, rfl, F12, by decide, by decide, fun i9 H9 i0 i1 hF9 ex9 => ?_⟩
      obtain ⟨r, hr1, hr2⟩ := pick (xs := ([.ref p1, .ref p2, .ref p4, .ref p5, .ref p7, .ref p8, .ref p9, .non, .ref p10, .ref p11] : List V)) i0 (by show i9 < 10; exact i1)
      refine ⟨_, _, _, _, rfl, rfl, SqL.of (ex9 _ _ n12 e12), hr2, ?_⟩
      have xx := x12.trans ex9
      refine ⟨_, rfl, (by show 2 ≤ sizeLine; decide), fun p10 hp10 => ?_⟩
      have ex10 : Ext fe H9 (upd H9 p10 (.tup [r, .ref aa])) := (Ext.refl fe H9).new hp10 _
      have hF10 := hF9.new hp10 (.tup [r, .ref aa])
      have xa := xx.trans ex10
      have T10 : Th fe 100 (upd H9 p10 (.tup [r, .ref aa])) 6 (.ref p10) := Th.tup (hF9.nef hp10) upd_same (by show 2 ≤ 100; decide) fun y hy => by
        simp only [List.mem_cons, List.not_mem_nil, or_false] at hy
        rcases hy with rfl | rfl
        · exact (M _ hr1).keep (ex9.trans ex10)
        · exact Taa.mono xa (by decide) (by decide)
      generalize upd H9 p10 (.tup [r, .ref aa]) = H10 at ex10 hF10 xa T10 ⊢
      refine ⟨(by show 2 ≤ sizeLine; decide), fun p11 hp11 => ?_⟩
      have ex11 : Ext fe H10 (upd H10 p11 (.tup [.str z, .ref p10])) := (Ext.refl fe H10).new hp11 _
      have xb := xa.trans ex11
      refine ⟨_, rfl, _, rfl, sl, _, _, _, rfl, rfl, xb _ _ nsl hsl, hix, _, rfl, ?_⟩
      refine fin _ _ (hF10.new hp11 _) xb (Th.tup (hF10.nef hp11) upd_same (by show 2 ≤ 100; decide) fun y hy => ?_)
      simp only [List.mem_cons, List.not_mem_nil, or_false] at hy
      rcases hy with rfl | rfl
      · exact Th.str hz
      · exact T10.keep ex11
    refine ⟨_, rfl, rfl, _, rfl, ?_⟩
    refine ite2 (fun c => ?_) (fun c => ?_)
    · -- the atoms
      refine ⟨_, rfl, aa, _, rfl, .inr (SqT.of (x0 _ _ naa haa)), fun p1 hp1 => ?_⟩
      have F1 := hF2.new hp1 (.lst as)
      have y1 : Ext fe H2 (upd H2 p1 (.lst as)) := (Ext.refl fe H2).new hp1 _
      have n1 := hF2.nef hp1
      have e1 : upd H2 p1 (.lst as) p1 = some (.lst as) := upd_same
      have x1 := x0.trans y1
      generalize upd H2 p1 (.lst as) = G1 at F1 y1 e1 x1  ⊢
      have T1 : Th fe 100 G1 1 (.ref p1) := Th.lst n1 e1
      refine ⟨(by show 0 ≤ sizeLine; decide), fun p2 hp2 => ?_⟩
      have F2 := F1.new hp2 (.tup [])
      have y2 : Ext fe G1 (upd G1 p2 (.tup [])) := (Ext.refl fe G1).new hp2 _
      have n2 := F1.nef hp2
      have e2 : upd G1 p2 (.tup []) p2 = some (.tup []) := upd_same
      have x2 := x1.trans y2
      have T1 := T1.keep y2
      generalize upd G1 p2 (.tup []) = G2 at F2 y2 e2 x2 T1 ⊢
      have T2 : Th fe 100 G2 2 (.ref p2) := Th.tup n2 e2 (by show 0 ≤ 100; decide) (fun y hy => by
        cases hy)
      refine ⟨_, rfl, ?_⟩
      refine ⟨(by show 0 ≤ sizeLine; decide), fun p3 hp3 => ?_⟩
      have F3 := F2.new hp3 (.tup [])
      have y3 : Ext fe G2 (upd G2 p3 (.tup [])) := (Ext.refl fe G2).new hp3 _
      have n3 := F2.nef hp3
      have e3 : upd G2 p3 (.tup []) p3 = some (.tup []) := upd_same
      have x3 := x2.trans y3
      have T1 := T1.keep y3
      have T2 := T2.keep y3
      generalize upd G2 p3 (.tup []) = G3 at F3 y3 e3 x3 T1 T2 ⊢
      have T3 : Th fe 100 G3 2 (.ref p3) := Th.tup n3 e3 (by show 0 ≤ 100; decide) (fun y hy => by
        cases hy)
      refine ⟨(by show 2 ≤ sizeLine; decide), fun p4 hp4 => ?_⟩
      have F4 := F3.new hp4 (.tup [.str "a", .ref p3])
      have y4 : Ext fe G3 (upd G3 p4 (.tup [.str "a", .ref p3])) := (Ext.refl fe G3).new hp4 _
      have n4 := F3.nef hp4
      have e4 : upd G3 p4 (.tup [.str "a", .ref p3]) p4 = some (.tup [.str "a", .ref p3]) := upd_same
      have x4 := x3.trans y4
      have T1 := T1.keep y4
      have T2 := T2.keep y4
      have T3 := T3.keep y4
      generalize upd G3 p4 (.tup [.str "a", .ref p3]) = G4 at F4 y4 e4 x4 T1 T2 T3 ⊢
      have T4 : Th fe 100 G4 3 (.ref p4) := Th.tup n4 e4 (by show 2 ≤ 100; decide) (fun y hy => by
        simp only [List.mem_cons, List.not_mem_nil, or_false] at hy
        rcases hy with rfl | rfl
        · exact Th.str (by decide +kernel)
        · exact T3.up (Nat.le_refl _) (by decide))
      refine ⟨(by show 1 ≤ sizeLine; decide), fun p5 hp5 => ?_⟩
      have F5 := F4.new hp5 (.tup [.ref p4])
      have y5 : Ext fe G4 (upd G4 p5 (.tup [.ref p4])) := (Ext.refl fe G4).new hp5 _
      have n5 := F4.nef hp5
      have e5 : upd G4 p5 (.tup [.ref p4]) p5 = some (.tup [.ref p4]) := upd_same
      have x5 := x4.trans y5
      have T1 := T1.keep y5
      have T2 := T2.keep y5
      have T4 := T4.keep y5
      generalize upd G4 p5 (.tup [.ref p4]) = G5 at F5 y5 e5 x5 T1 T2 T4 ⊢
      have T5 : Th fe 100 G5 4 (.ref p5) := Th.tup n5 e5 (by show 1 ≤ 100; decide) (fun y hy => by
        simp only [List.mem_cons, List.not_mem_nil, or_false] at hy
        subst hy
        exact T4.up (Nat.le_refl _) (by decide))
      have c6 := cutV_length as none (some 1)
      refine rd_catS (x5 _ _ naa haa) e5 (by show as.length + 1 ≤ 1000; omega) fun p6 G6 sm6 e6 => ?_
      have F6 := F5.same sm6
      have y6 : Ext fe G5 G6 := Ext.of sm6
      have n6 := ne_feed F6 e6
      have x6 := x5.trans y6
      have T1 := T1.keep y6
      have T2 := T2.keep y6
      have T5 := T5.keep y6
      have T6 : Th fe 100 G6 4 (.ref p6) := Th.tup n6 e6 (by rw [List.length_append]; show as.length + 1 ≤ 100; omega) (fun y hy => by
        rcases List.mem_append.mp hy with hy | hy
        · exact (Iaa y hy).mono x6 (by decide) (by decide)
        · exact (T5.parts (y6 _ _ n5 e5) hy).up (Nat.le_refl _) (by decide))
      refine ⟨_, rfl, ?_⟩
      refine ⟨(by show 1 ≤ sizeLine; decide), fun p7 hp7 => ?_⟩
      have F7 := F6.new hp7 (.tup [.str "?a"])
      have y7 : Ext fe G6 (upd G6 p7 (.tup [.str "?a"])) := (Ext.refl fe G6).new hp7 _
      have n7 := F6.nef hp7
      have e7 : upd G6 p7 (.tup [.str "?a"]) p7 = some (.tup [.str "?a"]) := upd_same
      have x7 := x6.trans y7
      have T1 := T1.keep y7
      have T2 := T2.keep y7
      have T6 := T6.keep y7
      generalize upd G6 p7 (.tup [.str "?a"]) = G7 at F7 y7 e7 x7 T1 T2 T6 ⊢
      have T7 : Th fe 100 G7 2 (.ref p7) := Th.tup n7 e7 (by show 1 ≤ 100; decide) (fun y hy => by
        simp only [List.mem_cons, List.not_mem_nil, or_false] at hy
        subst hy
        exact Th.str (by decide +kernel))
      refine ⟨(by show 2 ≤ sizeLine; decide), fun p8 hp8 => ?_⟩
      have F8 := F7.new hp8 (.lst [.str "a", .ref p7])
      have y8 : Ext fe G7 (upd G7 p8 (.lst [.str "a", .ref p7])) := (Ext.refl fe G7).new hp8 _
      have n8 := F7.nef hp8
      have e8 : upd G7 p8 (.lst [.str "a", .ref p7]) p8 = some (.lst [.str "a", .ref p7]) := upd_same
      have x8 := x7.trans y8
      have T1 := T1.keep y8
      have T2 := T2.keep y8
      have T6 := T6.keep y8
      have T7 := T7.keep y8
      generalize upd G7 p8 (.lst [.str "a", .ref p7]) = G8 at F8 y8 e8 x8 T1 T2 T6 T7 ⊢
      have T8 : Th fe 100 G8 1 (.ref p8) := Th.lst n8 e8
      refine ⟨(by show 1 ≤ sizeLine; decide), fun p9 hp9 => ?_⟩
      have F9 := F8.new hp9 (.tup [.ref p8])
      have y9 : Ext fe G8 (upd G8 p9 (.tup [.ref p8])) := (Ext.refl fe G8).new hp9 _
      have n9 := F8.nef hp9
      have e9 : upd G8 p9 (.tup [.ref p8]) p9 = some (.tup [.ref p8]) := upd_same
      have x9 := x8.trans y9
      have T1 := T1.keep y9
      have T2 := T2.keep y9
      have T6 := T6.keep y9
      have T8 := T8.keep y9
      generalize upd G8 p9 (.tup [.ref p8]) = G9 at F9 y9 e9 x9 T1 T2 T6 T8 ⊢
      have T9 : Th fe 100 G9 2 (.ref p9) := Th.tup n9 e9 (by show 1 ≤ 100; decide) (fun y hy => by
        simp only [List.mem_cons, List.not_mem_nil, or_false] at hy
        subst hy
        exact T8.up (Nat.le_refl _) (by decide))
      have c10 := cutV_length as none (some 1)
      refine rd_catS (x9 _ _ naa haa) e9 (by show as.length + 1 ≤ 1000; omega) fun p10 G10 sm10 e10 => ?_
      have F10 := F9.same sm10
      have y10 : Ext fe G9 G10 := Ext.of sm10
      have n10 := ne_feed F10 e10
      have x10 := x9.trans y10
      have T1 := T1.keep y10
      have T2 := T2.keep y10
      have T6 := T6.keep y10
      have T9 := T9.keep y10
      have T10 : Th fe 100 G10 4 (.ref p10) := Th.tup n10 e10 (by rw [List.length_append]; show as.length + 1 ≤ 100; omega) (fun y hy => by
        rcases List.mem_append.mp hy with hy | hy
        · exact (Iaa y hy).mono x10 (by decide) (by decide)
        · exact (T9.parts (y10 _ _ n9 e9) hy).up (Nat.le_refl _) (by decide))
      refine ⟨_, rfl, ?_⟩
      refine ⟨(by show 1 ≤ sizeLine; decide), fun p11 hp11 => ?_⟩
      have F11 := F10.new hp11 (.lst [.str "?a"])
      have y11 : Ext fe G10 (upd G10 p11 (.lst [.str "?a"])) := (Ext.refl fe G10).new hp11 _
      have n11 := F10.nef hp11
      have e11 : upd G10 p11 (.lst [.str "?a"]) p11 = some (.lst [.str "?a"]) := upd_same
      have x11 := x10.trans y11
      have T1 := T1.keep y11
      have T2 := T2.keep y11
      have T6 := T6.keep y11
      have T10 := T10.keep y11
      generalize upd G10 p11 (.lst [.str "?a"]) = G11 at F11 y11 e11 x11 T1 T2 T6 T10 ⊢
      have T11 : Th fe 100 G11 1 (.ref p11) := Th.lst n11 e11
      refine ⟨(by show 2 ≤ sizeLine; decide), fun p12 hp12 => ?_⟩
      have F12 := F11.new hp12 (.tup [.str "a", .ref p11])
      have y12 : Ext fe G11 (upd G11 p12 (.tup [.str "a", .ref p11])) := (Ext.refl fe G11).new hp12 _
      have n12 := F11.nef hp12
      have e12 : upd G11 p12 (.tup [.str "a", .ref p11]) p12 = some (.tup [.str "a", .ref p11]) := upd_same
      have x12 := x11.trans y12
      have T1 := T1.keep y12
      have T2 := T2.keep y12
      have T6 := T6.keep y12
      have T10 := T10.keep y12
      have T11 := T11.keep y12
      generalize upd G11 p12 (.tup [.str "a", .ref p11]) = G12 at F12 y12 e12 x12 T1 T2 T6 T10 T11 ⊢
      have T12 : Th fe 100 G12 2 (.ref p12) := Th.tup n12 e12 (by show 2 ≤ 100; decide) (fun y hy => by
        simp only [List.mem_cons, List.not_mem_nil, or_false] at hy
        rcases hy with rfl | rfl
        · exact Th.str (by decide +kernel)
        · exact T11.up (Nat.le_refl _) (by decide))
      refine ⟨(by show 1 ≤ sizeLine; decide), fun p13 hp13 => ?_⟩
      have F13 := F12.new hp13 (.tup [.ref p12])
      have y13 : Ext fe G12 (upd G12 p13 (.tup [.ref p12])) := (Ext.refl fe G12).new hp13 _
      have n13 := F12.nef hp13
      have e13 : upd G12 p13 (.tup [.ref p12]) p13 = some (.tup [.ref p12]) := upd_same
      have x13 := x12.trans y13
      have T1 := T1.keep y13
      have T2 := T2.keep y13
      have T6 := T6.keep y13
      have T10 := T10.keep y13
      have T12 := T12.keep y13
      generalize upd G12 p13 (.tup [.ref p12]) = G13 at F13 y13 e13 x13 T1 T2 T6 T10 T12 ⊢
      have T13 : Th fe 100 G13 3 (.ref p13) := Th.tup n13 e13 (by show 1 ≤ 100; decide) (fun y hy => by
        simp only [List.mem_cons, List.not_mem_nil, or_false] at hy
        subst hy
        exact T12.up (Nat.le_refl _) (by decide))
      have c14 := cutV_length as none (some 1)
      refine rd_catS (x13 _ _ naa haa) e13 (by show as.length + 1 ≤ 1000; omega) fun p14 G14 sm14 e14 => ?_
      have F14 := F13.same sm14
      have y14 : Ext fe G13 G14 := Ext.of sm14
      have n14 := ne_feed F14 e14
      have x14 := x13.trans y14
      have T1 := T1.keep y14
      have T2 := T2.keep y14
      have T6 := T6.keep y14
      have T10 := T10.keep y14
      have T13 := T13.keep y14
      have T14 : Th fe 100 G14 4 (.ref p14) := Th.tup n14 e14 (by rw [List.length_append]; show as.length + 1 ≤ 100; omega) (fun y hy => by
        rcases List.mem_append.mp hy with hy | hy
        · exact (Iaa y hy).mono x14 (by decide) (by decide)
        · exact (T13.parts (y14 _ _ n13 e13) hy).up (Nat.le_refl _) (by decide))
      refine ⟨(by show 6 ≤ sizeLine; decide), fun p15 hp15 => ?_⟩
      have F15 := F14.new hp15 (.lst [.ref p1, .ref p2, .ref p6, .ref p10, .ref p14, .non])
      have y15 : Ext fe G14 (upd G14 p15 (.lst [.ref p1, .ref p2, .ref p6, .ref p10, .ref p14, .non])) := (Ext.refl fe G14).new hp15 _
      have n15 := F14.nef hp15
      have e15 : upd G14 p15 (.lst [.ref p1, .ref p2, .ref p6, .ref p10, .ref p14, .non]) p15 = some (.lst [.ref p1, .ref p2, .ref p6, .ref p10, .ref p14, .non]) := upd_same
      have x15 := x14.trans y15
      have T1 := T1.keep y15
      have T2 := T2.keep y15
      have T6 := T6.keep y15
      have T10 := T10.keep y15
      have T14 := T14.keep y15
      generalize upd G14 p15 (.lst [.ref p1, .ref p2, .ref p6, .ref p10, .ref p14, .non]) = G15 at F15 y15 e15 x15 T1 T2 T6 T10 T14 ⊢
      have M0 : Many fe 100 5 G15 ([.ref p1, .ref p2, .ref p6, .ref p10, .ref p14, .non] : List V) := (fun y hy => by
        simp only [List.mem_cons, List.not_mem_nil, or_false] at hy
        rcases hy with rfl | rfl | rfl | rfl | rfl | rfl
        · exact T1.up (Nat.le_refl _) (by decide)
        · exact T2.up (Nat.le_refl _) (by decide)
        · exact T6.up (Nat.le_refl _) (by decide)
        · exact T10.up (Nat.le_refl _) (by decide)
        · exact T14.up (Nat.le_refl _) (by decide)
        · exact Th.non)
      refine ⟨_, rfl, ?_⟩
      refine ⟨_, rfl, ?_⟩
      refine ⟨(by show 1 ≤ sizeLine; decide), fun p16 hp16 => ?_⟩
      have F16 := F15.new hp16 (.tup [.str "a"])
      have y16 : Ext fe G15 (upd G15 p16 (.tup [.str "a"])) := (Ext.refl fe G15).new hp16 _
      have n16 := F15.nef hp16
      have e16 : upd G15 p16 (.tup [.str "a"]) p16 = some (.tup [.str "a"]) := upd_same
      have x16 := x15.trans y16
      have M0 := M0.keep y16
      generalize upd G15 p16 (.tup [.str "a"]) = G16 at F16 y16 e16 x16 M0 ⊢
      have T16 : Th fe 100 G16 2 (.ref p16) := Th.tup n16 e16 (by show 1 ≤ 100; decide) (fun y hy => by
        simp only [List.mem_cons, List.not_mem_nil, or_false] at hy
        subst hy
        exact Th.str (by decide +kernel))
      refine ⟨(by show 2 ≤ sizeLine; decide), fun p17 hp17 => ?_⟩
      have F17 := F16.new hp17 (.tup [.str "A", .ref p16])
      have y17 : Ext fe G16 (upd G16 p17 (.tup [.str "A", .ref p16])) := (Ext.refl fe G16).new hp17 _
      have n17 := F16.nef hp17
      have e17 : upd G16 p17 (.tup [.str "A", .ref p16]) p17 = some (.tup [.str "A", .ref p16]) := upd_same
      have x17 := x16.trans y17
      have M0 := M0.keep y17
      have T16 := T16.keep y17
      generalize upd G16 p17 (.tup [.str "A", .ref p16]) = G17 at F17 y17 e17 x17 M0 T16 ⊢
      have T17 : Th fe 100 G17 3 (.ref p17) := Th.tup n17 e17 (by show 2 ≤ 100; decide) (fun y hy => by
        simp only [List.mem_cons, List.not_mem_nil, or_false] at hy
        rcases hy with rfl | rfl
        · exact Th.str (by decide +kernel)
        · exact T16.up (Nat.le_refl _) (by decide))
      refine ⟨(by show 1 ≤ sizeLine; decide), fun p18 hp18 => ?_⟩
      have F18 := F17.new hp18 (.tup [.ref p17])
      have y18 : Ext fe G17 (upd G17 p18 (.tup [.ref p17])) := (Ext.refl fe G17).new hp18 _
      have n18 := F17.nef hp18
      have e18 : upd G17 p18 (.tup [.ref p17]) p18 = some (.tup [.ref p17]) := upd_same
      have x18 := x17.trans y18
      have M0 := M0.keep y18
      have T17 := T17.keep y18
      generalize upd G17 p18 (.tup [.ref p17]) = G18 at F18 y18 e18 x18 M0 T17 ⊢
      have T18 : Th fe 100 G18 4 (.ref p18) := Th.tup n18 e18 (by show 1 ≤ 100; decide) (fun y hy => by
        simp only [List.mem_cons, List.not_mem_nil, or_false] at hy
        subst hy
        exact T17.up (Nat.le_refl _) (by decide))
      have c19 := cutV_length as none (some 1)
      refine rd_catS (x18 _ _ naa haa) e18 (by show as.length + 1 ≤ 1000; omega) fun p19 G19 sm19 e19 => ?_
      have F19 := F18.same sm19
      have y19 : Ext fe G18 G19 := Ext.of sm19
      have n19 := ne_feed F19 e19
      have x19 := x18.trans y19
      have M0 := M0.keep y19
      have T18 := T18.keep y19
      have T19 : Th fe 100 G19 4 (.ref p19) := Th.tup n19 e19 (by rw [List.length_append]; show as.length + 1 ≤ 100; omega) (fun y hy => by
        rcases List.mem_append.mp hy with hy | hy
        · exact (Iaa y hy).mono x19 (by decide) (by decide)
        · exact (T18.parts (y19 _ _ n18 e18) hy).up (Nat.le_refl _) (by decide))
      refine ⟨_, rfl, ?_⟩
      refine ⟨(by show 1 ≤ sizeLine; decide), fun p20 hp20 => ?_⟩
      have F20 := F19.new hp20 (.tup [.str "a"])
      have y20 : Ext fe G19 (upd G19 p20 (.tup [.str "a"])) := (Ext.refl fe G19).new hp20 _
      have n20 := F19.nef hp20
      have e20 : upd G19 p20 (.tup [.str "a"]) p20 = some (.tup [.str "a"]) := upd_same
      have x20 := x19.trans y20
      have M0 := M0.keep y20
      have T19 := T19.keep y20
      generalize upd G19 p20 (.tup [.str "a"]) = G20 at F20 y20 e20 x20 M0 T19 ⊢
      have T20 : Th fe 100 G20 2 (.ref p20) := Th.tup n20 e20 (by show 1 ≤ 100; decide) (fun y hy => by
        simp only [List.mem_cons, List.not_mem_nil, or_false] at hy
        subst hy
        exact Th.str (by decide +kernel))
      refine ⟨_, _, _, rfl, rfl, SqT.of e20, by simp, by decide, by decide, by decide, fun p21 hp21 => ?_⟩
      have F21 := F20.new hp21 (.tup (List.replicate (5 : Int).toNat ([.str "a"] : List V)).flatten)
      have y21 : Ext fe G20 (upd G20 p21 (.tup (List.replicate (5 : Int).toNat ([.str "a"] : List V)).flatten)) := (Ext.refl fe G20).new hp21 _
      have n21 := F20.nef hp21
      have e21 : upd G20 p21 (.tup (List.replicate (5 : Int).toNat ([.str "a"] : List V)).flatten) p21 = some (.tup (List.replicate (5 : Int).toNat ([.str "a"] : List V)).flatten) := upd_same
      have x21 := x20.trans y21
      have M0 := M0.keep y21
      have T19 := T19.keep y21
      generalize upd G20 p21 (.tup (List.replicate (5 : Int).toNat ([.str "a"] : List V)).flatten) = G21 at F21 y21 e21 x21 M0 T19 ⊢
      have T21 : Th fe 100 G21 2 (.ref p21) := Th.tup n21 e21 (by rw [len_rep]; first | (show 5 * (as.length) ≤ 100; omega) | decide) (fun y hy => by
        have hy := mem_rep hy
        rw [List.mem_singleton.mp hy]
        exact Th.str (by decide +kernel))
      refine ⟨(by show 2 ≤ sizeLine; decide), fun p22 hp22 => ?_⟩
      have F22 := F21.new hp22 (.tup [.str "a", .ref p21])
      have y22 : Ext fe G21 (upd G21 p22 (.tup [.str "a", .ref p21])) := (Ext.refl fe G21).new hp22 _
      have n22 := F21.nef hp22
      have e22 : upd G21 p22 (.tup [.str "a", .ref p21]) p22 = some (.tup [.str "a", .ref p21]) := upd_same
      have x22 := x21.trans y22
      have M0 := M0.keep y22
      have T19 := T19.keep y22
      have T21 := T21.keep y22
      generalize upd G21 p22 (.tup [.str "a", .ref p21]) = G22 at F22 y22 e22 x22 M0 T19 T21 ⊢
      have T22 : Th fe 100 G22 3 (.ref p22) := Th.tup n22 e22 (by show 2 ≤ 100; decide) (fun y hy => by
        simp only [List.mem_cons, List.not_mem_nil, or_false] at hy
        rcases hy with rfl | rfl
        · exact Th.str (by decide +kernel)
        · exact T21.up (Nat.le_refl _) (by decide))
      refine ⟨(by show 1 ≤ sizeLine; decide), fun p23 hp23 => ?_⟩
      have F23 := F22.new hp23 (.tup [.ref p22])
      have y23 : Ext fe G22 (upd G22 p23 (.tup [.ref p22])) := (Ext.refl fe G22).new hp23 _
      have n23 := F22.nef hp23
      have e23 : upd G22 p23 (.tup [.ref p22]) p23 = some (.tup [.ref p22]) := upd_same
      have x23 := x22.trans y23
      have M0 := M0.keep y23
      have T19 := T19.keep y23
      have T22 := T22.keep y23
      generalize upd G22 p23 (.tup [.ref p22]) = G23 at F23 y23 e23 x23 M0 T19 T22 ⊢
      have T23 : Th fe 100 G23 4 (.ref p23) := Th.tup n23 e23 (by show 1 ≤ 100; decide) (fun y hy => by
        simp only [List.mem_cons, List.not_mem_nil, or_false] at hy
        subst hy
        exact T22.up (Nat.le_refl _) (by decide))
      have c24 := cutV_length as none (some 1)
      refine rd_catS (x23 _ _ naa haa) e23 (by show as.length + 1 ≤ 1000; omega) fun p24 G24 sm24 e24 => ?_
      have F24 := F23.same sm24
      have y24 : Ext fe G23 G24 := Ext.of sm24
      have n24 := ne_feed F24 e24
      have x24 := x23.trans y24
      have M0 := M0.keep y24
      have T19 := T19.keep y24
      have T23 := T23.keep y24
      have T24 : Th fe 100 G24 4 (.ref p24) := Th.tup n24 e24 (by rw [List.length_append]; show as.length + 1 ≤ 100; omega) (fun y hy => by
        rcases List.mem_append.mp hy with hy | hy
        · exact (Iaa y hy).mono x24 (by decide) (by decide)
        · exact (T23.parts (y24 _ _ n23 e23) hy).up (Nat.le_refl _) (by decide))
      refine ⟨_, rfl, ?_⟩
      refine ⟨_, _, _, rfl, rfl, SqT.of (x24 _ _ naa haa), ne_as, by decide, by decide, by omega, fun p25 hp25 => ?_⟩
      have F25 := F24.new hp25 (.tup (List.replicate (9 : Int).toNat (as : List V)).flatten)
      have y25 : Ext fe G24 (upd G24 p25 (.tup (List.replicate (9 : Int).toNat (as : List V)).flatten)) := (Ext.refl fe G24).new hp25 _
      have n25 := F24.nef hp25
      have e25 : upd G24 p25 (.tup (List.replicate (9 : Int).toNat (as : List V)).flatten) p25 = some (.tup (List.replicate (9 : Int).toNat (as : List V)).flatten) := upd_same
      have x25 := x24.trans y25
      have M0 := M0.keep y25
      have T19 := T19.keep y25
      have T24 := T24.keep y25
      generalize upd G24 p25 (.tup (List.replicate (9 : Int).toNat (as : List V)).flatten) = G25 at F25 y25 e25 x25 M0 T19 T24 ⊢
      have T25 : Th fe 100 G25 4 (.ref p25) := Th.tup n25 e25 (by rw [len_rep]; first | (show 9 * (as.length) ≤ 100; omega) | decide) (fun y hy => by
        have hy := mem_rep hy
        exact (Iaa y hy).mono x25 (by decide) (by decide))
      refine ⟨_, rfl, ?_⟩
      refine ⟨(by show 2 ≤ sizeLine; decide), fun p26 hp26 => ?_⟩
      have F26 := F25.new hp26 (.tup [.str "?a", .int 1])
      have y26 : Ext fe G25 (upd G25 p26 (.tup [.str "?a", .int 1])) := (Ext.refl fe G25).new hp26 _
      have n26 := F25.nef hp26
      have e26 : upd G25 p26 (.tup [.str "?a", .int 1]) p26 = some (.tup [.str "?a", .int 1]) := upd_same
      have x26 := x25.trans y26
      have M0 := M0.keep y26
      have T19 := T19.keep y26
      have T24 := T24.keep y26
      have T25 := T25.keep y26
      generalize upd G25 p26 (.tup [.str "?a", .int 1]) = G26 at F26 y26 e26 x26 M0 T19 T24 T25 ⊢
      have T26 : Th fe 100 G26 2 (.ref p26) := Th.tup n26 e26 (by show 2 ≤ 100; decide) (fun y hy => by
        simp only [List.mem_cons, List.not_mem_nil, or_false] at hy
        rcases hy with rfl | rfl
        · exact Th.str (by decide +kernel)
        · exact Th.int)
      refine ⟨(by show 2 ≤ sizeLine; decide), fun p27 hp27 => ?_⟩
      have F27 := F26.new hp27 (.tup [.str "r", .ref p26])
      have y27 : Ext fe G26 (upd G26 p27 (.tup [.str "r", .ref p26])) := (Ext.refl fe G26).new hp27 _
      have n27 := F26.nef hp27
      have e27 : upd G26 p27 (.tup [.str "r", .ref p26]) p27 = some (.tup [.str "r", .ref p26]) := upd_same
      have x27 := x26.trans y27
      have M0 := M0.keep y27
      have T19 := T19.keep y27
      have T24 := T24.keep y27
      have T25 := T25.keep y27
      have T26 := T26.keep y27
      generalize upd G26 p27 (.tup [.str "r", .ref p26]) = G27 at F27 y27 e27 x27 M0 T19 T24 T25 T26 ⊢
      have T27 : Th fe 100 G27 3 (.ref p27) := Th.tup n27 e27 (by show 2 ≤ 100; decide) (fun y hy => by
        simp only [List.mem_cons, List.not_mem_nil, or_false] at hy
        rcases hy with rfl | rfl
        · exact Th.str (by decide +kernel)
        · exact T26.up (Nat.le_refl _) (by decide))
      refine ⟨(by show 1 ≤ sizeLine; decide), fun p28 hp28 => ?_⟩
      have F28 := F27.new hp28 (.tup [.ref p27])
      have y28 : Ext fe G27 (upd G27 p28 (.tup [.ref p27])) := (Ext.refl fe G27).new hp28 _
      have n28 := F27.nef hp28
      have e28 : upd G27 p28 (.tup [.ref p27]) p28 = some (.tup [.ref p27]) := upd_same
      have x28 := x27.trans y28
      have M0 := M0.keep y28
      have T19 := T19.keep y28
      have T24 := T24.keep y28
      have T25 := T25.keep y28
      have T27 := T27.keep y28
      generalize upd G27 p28 (.tup [.ref p27]) = G28 at F28 y28 e28 x28 M0 T19 T24 T25 T27 ⊢
      have T28 : Th fe 100 G28 4 (.ref p28) := Th.tup n28 e28 (by show 1 ≤ 100; decide) (fun y hy => by
        simp only [List.mem_cons, List.not_mem_nil, or_false] at hy
        subst hy
        exact T27.up (Nat.le_refl _) (by decide))
      have c29 := cutV_length as none (some 1)
      refine rd_catS (x28 _ _ naa haa) e28 (by show as.length + 1 ≤ 1000; omega) fun p29 G29 sm29 e29 => ?_
      have F29 := F28.same sm29
      have y29 : Ext fe G28 G29 := Ext.of sm29
      have n29 := ne_feed F29 e29
      have x29 := x28.trans y29
      have M0 := M0.keep y29
      have T19 := T19.keep y29
      have T24 := T24.keep y29
      have T25 := T25.keep y29
      have T28 := T28.keep y29
      have T29 : Th fe 100 G29 4 (.ref p29) := Th.tup n29 e29 (by rw [List.length_append]; show as.length + 1 ≤ 100; omega) (fun y hy => by
        rcases List.mem_append.mp hy with hy | hy
        · exact (Iaa y hy).mono x29 (by decide) (by decide)
        · exact (T28.parts (y29 _ _ n28 e28) hy).up (Nat.le_refl _) (by decide))
      refine ⟨(by show 4 ≤ sizeLine; decide), fun p30 hp30 => ?_⟩
      have F30 := F29.new hp30 (.lst [.ref p19, .ref p24, .ref p25, .ref p29])
      have y30 : Ext fe G29 (upd G29 p30 (.lst [.ref p19, .ref p24, .ref p25, .ref p29])) := (Ext.refl fe G29).new hp30 _
      have n30 := F29.nef hp30
      have e30 : upd G29 p30 (.lst [.ref p19, .ref p24, .ref p25, .ref p29]) p30 = some (.lst [.ref p19, .ref p24, .ref p25, .ref p29]) := upd_same
      have x30 := x29.trans y30
      have M0 := M0.keep y30
      have T19 := T19.keep y30
      have T24 := T24.keep y30
      have T25 := T25.keep y30
      have T29 := T29.keep y30
      generalize upd G29 p30 (.lst [.ref p19, .ref p24, .ref p25, .ref p29]) = G30 at F30 y30 e30 x30 M0 T19 T24 T25 T29 ⊢
      have M1 : Many fe 100 5 G30 ([.ref p19, .ref p24, .ref p25, .ref p29] : List V) := (fun y hy => by
        simp only [List.mem_cons, List.not_mem_nil, or_false] at hy
        rcases hy with rfl | rfl | rfl | rfl
        · exact T19.up (Nat.le_refl _) (by decide)
        · exact T24.up (Nat.le_refl _) (by decide)
        · exact T25.up (Nat.le_refl _) (by decide)
        · exact T29.up (Nat.le_refl _) (by decide))
      have E0 : G30 p15 = _ := y30 _ _ n15 (y29 _ _ n15 (y28 _ _ n15 (y27 _ _ n15 (y26 _ _ n15 (y25 _ _ n15 (y24 _ _ n15 (y23 _ _ n15 (y22 _ _ n15 (y21 _ _ n15 (y20 _ _ n15 (y19 _ _ n15 (y18 _ _ n15 (y17 _ _ n15 (y16 _ _ n15 (e15)))))))))))))))
      refine ⟨_, _, _, _, rfl, rfl, E0, e30, (by show 10 ≤ sizeLine; decide), fun p31 hp31 => ?_⟩
      have F31 := F30.new hp31 (.lst ([.ref p1, .ref p2, .ref p6, .ref p10, .ref p14, .non] ++ [.ref p19, .ref p24, .ref p25, .ref p29]))
      have y31 : Ext fe G30 (upd G30 p31 (.lst ([.ref p1, .ref p2, .ref p6, .ref p10, .ref p14, .non] ++ [.ref p19, .ref p24, .ref p25, .ref p29]))) := (Ext.refl fe G30).new hp31 _
      have n31 := F30.nef hp31
      have e31 : upd G30 p31 (.lst ([.ref p1, .ref p2, .ref p6, .ref p10, .ref p14, .non] ++ [.ref p19, .ref p24, .ref p25, .ref p29])) p31 = some (.lst ([.ref p1, .ref p2, .ref p6, .ref p10, .ref p14, .non] ++ [.ref p19, .ref p24, .ref p25, .ref p29])) := upd_same
      have x31 := x30.trans y31
      have M0 := M0.keep y31
      have M1 := M1.keep y31
      generalize upd G30 p31 (.lst ([.ref p1, .ref p2, .ref p6, .ref p10, .ref p14, .non] ++ [.ref p19, .ref p24, .ref p25, .ref p29])) = G31 at F31 y31 e31 x31 M0 M1 ⊢
      have M : Many fe 100 5 G31 ([.ref p1, .ref p2, .ref p6, .ref p10, .ref p14, .non] ++ [.ref p19, .ref p24, .ref p25, .ref p29] : List V) := fun y hy => (List.mem_append.mp hy).elim (M0 y) (M1 y)
      refine ⟨_, rfl, _, rfl, _, rfl, _, rfl, fe, 10, rfl, F31, by decide, by decide, fun i9 H9 i0 i1 hF9 ex9 => ?_⟩
      obtain ⟨r, hr1, hr2⟩ := pick (xs := ([.ref p1, .ref p2, .ref p6, .ref p10, .ref p14, .non] ++ [.ref p19, .ref p24, .ref p25, .ref p29] : List V)) i0 (by show i9 < 10; exact i1)
      refine ⟨_, _, _, _, rfl, rfl, SqL.of (ex9 _ _ n31 e31), hr2, ?_⟩
      have xx := x31.trans ex9
      refine ⟨(by show 2 ≤ sizeLine; decide), fun p10 hp10 => ?_⟩
      have ex10 : Ext fe H9 (upd H9 p10 (.tup [.ref hd, r])) := (Ext.refl fe H9).new hp10 _
      have hF10 := hF9.new hp10 (.tup [.ref hd, r])
      have xa := xx.trans ex10
      have T10 : Th fe 100 (upd H9 p10 (.tup [.ref hd, r])) 6 (.ref p10) := Th.tup (hF9.nef hp10) upd_same (by show 2 ≤ 100; decide) fun y hy => by
        simp only [List.mem_cons, List.not_mem_nil, or_false] at hy
        rcases hy with rfl | rfl
        · exact Thd.mono xa (by decide) (by decide)
        · exact (M _ hr1).keep (ex9.trans ex10)
      generalize upd H9 p10 (.tup [.ref hd, r]) = H10 at ex10 hF10 xa T10 ⊢
      refine ⟨(by show 2 ≤ sizeLine; decide), fun p11 hp11 => ?_⟩
      have ex11 : Ext fe H10 (upd H10 p11 (.tup [.str z, .ref p10])) := (Ext.refl fe H10).new hp11 _
      have xb := xa.trans ex11
      refine ⟨_, rfl, _, rfl, sl, _, _, _, rfl, rfl, xb _ _ nsl hsl, hix, _, rfl, ?_⟩
      refine fin _ _ (hF10.new hp11 _) xb (Th.tup (hF10.nef hp11) upd_same (by show 2 ≤ 100; decide) fun y hy => ?_)
      simp only [List.mem_cons, List.not_mem_nil, or_false] at hy
      rcases hy with rfl | rfl
      · exact Th.str hz
      · exact T10.keep ex11
    refine ⟨_, rfl, rfl, _, rfl, ?_⟩
    refine ite2 (fun c => ?_) (fun c => ?_)
    · -- the shape
      refine ⟨_, rfl, ?_⟩
      refine ⟨_, rfl, ?_⟩
      refine ⟨(by show 2 ≤ sizeLine; decide), fun p1 hp1 => ?_⟩
      have F1 := hF2.new hp1 (.lst [.str z, .ref qa])
      have y1 : Ext fe H2 (upd H2 p1 (.lst [.str z, .ref qa])) := (Ext.refl fe H2).new hp1 _
      have n1 := hF2.nef hp1
      have e1 : upd H2 p1 (.lst [.str z, .ref qa]) p1 = some (.lst [.str z, .ref qa]) := upd_same
      have x1 := x0.trans y1
      generalize upd H2 p1 (.lst [.str z, .ref qa]) = G1 at F1 y1 e1 x1  ⊢
      have T1 : Th fe 100 G1 1 (.ref p1) := Th.lst n1 e1
      refine ⟨_, rfl, ?_⟩
      refine ⟨(by show 1 ≤ sizeLine; decide), fun p2 hp2 => ?_⟩
      have F2 := F1.new hp2 (.tup [.str z])
      have y2 : Ext fe G1 (upd G1 p2 (.tup [.str z])) := (Ext.refl fe G1).new hp2 _
      have n2 := F1.nef hp2
      have e2 : upd G1 p2 (.tup [.str z]) p2 = some (.tup [.str z]) := upd_same
      have x2 := x1.trans y2
      have T1 := T1.keep y2
      generalize upd G1 p2 (.tup [.str z]) = G2 at F2 y2 e2 x2 T1 ⊢
      have T2 : Th fe 100 G2 2 (.ref p2) := Th.tup n2 e2 (by show 1 ≤ 100; decide) (fun y hy => by
        simp only [List.mem_cons, List.not_mem_nil, or_false] at hy
        subst hy
        exact Th.str hz)
      refine ⟨_, rfl, ?_⟩
      refine ⟨_, rfl, qa, _, rfl, .inr (SqT.of (x2 _ _ nqa hqa)), fun p3 hp3 => ?_⟩
      have F3 := F2.new hp3 (.lst [.ref hd, .ref aa])
      have y3 : Ext fe G2 (upd G2 p3 (.lst [.ref hd, .ref aa])) := (Ext.refl fe G2).new hp3 _
      have n3 := F2.nef hp3
      have e3 : upd G2 p3 (.lst [.ref hd, .ref aa]) p3 = some (.lst [.ref hd, .ref aa]) := upd_same
      have x3 := x2.trans y3
      have T1 := T1.keep y3
      have T2 := T2.keep y3
      generalize upd G2 p3 (.lst [.ref hd, .ref aa]) = G3 at F3 y3 e3 x3 T1 T2 ⊢
      have T3 : Th fe 100 G3 1 (.ref p3) := Th.lst n3 e3
      refine ⟨(by show 2 ≤ sizeLine; decide), fun p4 hp4 => ?_⟩
      have F4 := F3.new hp4 (.tup [.str z, .ref p3])
      have y4 : Ext fe G3 (upd G3 p4 (.tup [.str z, .ref p3])) := (Ext.refl fe G3).new hp4 _
      have n4 := F3.nef hp4
      have e4 : upd G3 p4 (.tup [.str z, .ref p3]) p4 = some (.tup [.str z, .ref p3]) := upd_same
      have x4 := x3.trans y4
      have T1 := T1.keep y4
      have T2 := T2.keep y4
      have T3 := T3.keep y4
      generalize upd G3 p4 (.tup [.str z, .ref p3]) = G4 at F4 y4 e4 x4 T1 T2 T3 ⊢
      have T4 : Th fe 100 G4 2 (.ref p4) := Th.tup n4 e4 (by show 2 ≤ 100; decide) (fun y hy => by
        simp only [List.mem_cons, List.not_mem_nil, or_false] at hy
        rcases hy with rfl | rfl
        · exact Th.str hz
        · exact T3.up (Nat.le_refl _) (by decide))
      refine ⟨_, rfl, ?_⟩
      refine ⟨_, rfl, ?_⟩
      refine ⟨(by show 3 ≤ sizeLine; decide), fun p5 hp5 => ?_⟩
      have F5 := F4.new hp5 (.tup [.str z, .ref qa, .int 1])
      have y5 : Ext fe G4 (upd G4 p5 (.tup [.str z, .ref qa, .int 1])) := (Ext.refl fe G4).new hp5 _
      have n5 := F4.nef hp5
      have e5 : upd G4 p5 (.tup [.str z, .ref qa, .int 1]) p5 = some (.tup [.str z, .ref qa, .int 1]) := upd_same
      have x5 := x4.trans y5
      have T1 := T1.keep y5
      have T2 := T2.keep y5
      have T4 := T4.keep y5
      generalize upd G4 p5 (.tup [.str z, .ref qa, .int 1]) = G5 at F5 y5 e5 x5 T1 T2 T4 ⊢
      have T5 : Th fe 100 G5 6 (.ref p5) := Th.tup n5 e5 (by show 3 ≤ 100; decide) (fun y hy => by
        simp only [List.mem_cons, List.not_mem_nil, or_false] at hy
        rcases hy with rfl | rfl | rfl
        · exact Th.str hz
        · exact Tqa.mono x5 (by decide) (by decide)
        · exact Th.int)
      refine ⟨_, rfl, ?_⟩
      refine ⟨_, rfl, ?_⟩
      refine ⟨_, rfl, noPart ⟨_, rfl, rd_cutS (x5 _ _ nqa hqa) fun p6 G6 sm6 e6 => ?_⟩⟩
      have F6 := F5.same sm6
      have y6 : Ext fe G5 G6 := Ext.of sm6
      have n6 := ne_feed F6 e6
      have x6 := x5.trans y6
      have T1 := T1.keep y6
      have T2 := T2.keep y6
      have T4 := T4.keep y6
      have T5 := T5.keep y6
      have T6 : Th fe 100 G6 5 (.ref p6) := Th.tup n6 e6 (Nat.le_trans (cutV_length _ _ _) (by first | omega | (show 2 ≤ 100; decide))) (fun y hy => (Iqa y (cut_mem hy)).mono x6 (by decide) (by decide))
      refine ⟨(by show 2 ≤ sizeLine; decide), fun p7 hp7 => ?_⟩
      have F7 := F6.new hp7 (.tup [.str z, .ref p6])
      have y7 : Ext fe G6 (upd G6 p7 (.tup [.str z, .ref p6])) := (Ext.refl fe G6).new hp7 _
      have n7 := F6.nef hp7
      have e7 : upd G6 p7 (.tup [.str z, .ref p6]) p7 = some (.tup [.str z, .ref p6]) := upd_same
      have x7 := x6.trans y7
      have T1 := T1.keep y7
      have T2 := T2.keep y7
      have T4 := T4.keep y7
      have T5 := T5.keep y7
      have T6 := T6.keep y7
      generalize upd G6 p7 (.tup [.str z, .ref p6]) = G7 at F7 y7 e7 x7 T1 T2 T4 T5 T6 ⊢
      have T7 : Th fe 100 G7 6 (.ref p7) := Th.tup n7 e7 (by show 2 ≤ 100; decide) (fun y hy => by
        simp only [List.mem_cons, List.not_mem_nil, or_false] at hy
        rcases hy with rfl | rfl
        · exact Th.str hz
        · exact T6.up (Nat.le_refl _) (by decide))
      refine ⟨_, rfl, ?_⟩
      refine ⟨_, rfl, ?_⟩
      refine ⟨(by show 2 ≤ sizeLine; decide), fun p8 hp8 => ?_⟩
      have F8 := F7.new hp8 (.tup [.ref qa, .str z])
      have y8 : Ext fe G7 (upd G7 p8 (.tup [.ref qa, .str z])) := (Ext.refl fe G7).new hp8 _
      have n8 := F7.nef hp8
      have e8 : upd G7 p8 (.tup [.ref qa, .str z]) p8 = some (.tup [.ref qa, .str z]) := upd_same
      have x8 := x7.trans y8
      have T1 := T1.keep y8
      have T2 := T2.keep y8
      have T4 := T4.keep y8
      have T5 := T5.keep y8
      have T7 := T7.keep y8
      generalize upd G7 p8 (.tup [.ref qa, .str z]) = G8 at F8 y8 e8 x8 T1 T2 T4 T5 T7 ⊢
      have T8 : Th fe 100 G8 6 (.ref p8) := Th.tup n8 e8 (by show 2 ≤ 100; decide) (fun y hy => by
        simp only [List.mem_cons, List.not_mem_nil, or_false] at hy
        rcases hy with rfl | rfl
        · exact Tqa.mono x8 (by decide) (by decide)
        · exact Th.str hz)
      refine ⟨(by show 8 ≤ sizeLine; decide), fun p9 hp9 => ?_⟩
      have F9 := F8.new hp9 (.lst [.ref p1, .ref p2, .ref p4, .ref p5, .non, .str z, .ref p7, .ref p8])
      have y9 : Ext fe G8 (upd G8 p9 (.lst [.ref p1, .ref p2, .ref p4, .ref p5, .non, .str z, .ref p7, .ref p8])) := (Ext.refl fe G8).new hp9 _
      have n9 := F8.nef hp9
      have e9 : upd G8 p9 (.lst [.ref p1, .ref p2, .ref p4, .ref p5, .non, .str z, .ref p7, .ref p8]) p9 = some (.lst [.ref p1, .ref p2, .ref p4, .ref p5, .non, .str z, .ref p7, .ref p8]) := upd_same
      have x9 := x8.trans y9
      have T1 := T1.keep y9
      have T2 := T2.keep y9
      have T4 := T4.keep y9
      have T5 := T5.keep y9
      have T7 := T7.keep y9
      have T8 := T8.keep y9
      generalize upd G8 p9 (.lst [.ref p1, .ref p2, .ref p4, .ref p5, .non, .str z, .ref p7, .ref p8]) = G9 at F9 y9 e9 x9 T1 T2 T4 T5 T7 T8 ⊢
      have M : Many fe 100 7 G9 ([.ref p1, .ref p2, .ref p4, .ref p5, .non, .str z, .ref p7, .ref p8] : List V) := (fun y hy => by
        simp only [List.mem_cons, List.not_mem_nil, or_false] at hy
        rcases hy with rfl | rfl | rfl | rfl | rfl | rfl | rfl | rfl
        · exact T1.up (Nat.le_refl _) (by decide)
        · exact T2.up (Nat.le_refl _) (by decide)
        · exact T4.up (Nat.le_refl _) (by decide)
        · exact T5.up (Nat.le_refl _) (by decide)
        · exact Th.non
        · exact Th.str hz
        · exact T7.up (Nat.le_refl _) (by decide)
        · exact T8.up (Nat.le_refl _) (by decide))
      refine ⟨_, rfl, _, rfl, fe, 8, rfl, F9, by decide, by decide, fun i9 H9 i0 i1 hF9 ex9 => ?_⟩
      obtain ⟨r, hr1, hr2⟩ := pick (xs := ([.ref p1, .ref p2, .ref p4, .ref p5, .non, .str z, .ref p7, .ref p8] : List V)) i0 (by show i9 < 8; exact i1)
      refine ⟨_, _, _, _, rfl, rfl, SqL.of (ex9 _ _ n9 e9), hr2, ?_⟩
      have xx := x9.trans ex9
      refine ⟨_, rfl, _, rfl, sl, _, _, _, rfl, rfl, xx _ _ nsl hsl, hix, _, rfl, ?_⟩
      exact fin _ _ hF9 xx ((M _ hr1).keep ex9)
    · -- no list
      have hallv : ∀ {H' : Hp}, Ext fe H2 H' → ∀ v ∈ vws, Th fe 100 H' 6 v := fun ex v hv => (hall v hv).1.mono (ex2.trans ex) (by decide) (by decide)
      -- tuple(some)
      refine ⟨_, rfl, sl, _, rfl, .inl ⟨SqL.of hsl, fun p1 hp1 => ?_⟩⟩
      have F1 := hF2.new hp1 (.tup vws)
      have x1 : Ext fe H2 (upd H2 p1 (.tup vws)) := (Ext.refl fe H2).new hp1 _
      have T1 : Tv fe 100 (upd H2 p1 (.tup vws)) 7 (.ref p1) := .inr ⟨by rw [lstOf_eq, upd_same], Th.tup (hF2.nef hp1) upd_same (by omega) (hallv x1)⟩
      generalize upd H2 p1 (.tup vws) = G1 at F1 x1 T1 ⊢
      -- dict(some)
      obtain ⟨kvs, hk⟩ := pairs_views (H := G1) (f := fe) (vws := vws) fun v hv => ⟨(hall v hv).1.keep (ex2.trans x1), ((hall v hv).1.view (ex2.trans x1)).trans (hall v hv).2⟩
      refine ⟨_, rfl, sl, _, kvs, rfl, SqL.of (x1 _ _ nsl hsl), hk, fun p2 hp2 => ?_⟩
      have F2 := F1.new hp2 (.dK (mergeK [] kvs))
      have y2 : Ext fe G1 (upd G1 p2 (.dK (mergeK [] kvs))) := (Ext.refl fe G1).new hp2 _
      have T2 : Tv fe 100 (upd G1 p2 (.dK (mergeK [] kvs))) 7 (.ref p2) := .inr ⟨by rw [lstOf_eq, upd_same], Th.dic (F1.nef hp2) upd_same⟩
      have T1 := T1.keep y2
      have x2 := x1.trans y2
      generalize upd G1 p2 (.dK (mergeK [] kvs)) = G2 at F2 y2 T2 T1 x2 ⊢
      -- some[at]
      refine ⟨_, rfl, _, rfl, _, _, _, _, rfl, rfl, SqL.of (x2 _ _ nsl hsl), atI_nat hjp, ?_⟩
      -- [some]
      refine ⟨_, rfl, (by show 1 ≤ sizeLine; decide), fun p3 hp3 => ?_⟩
      have F3 := F2.new hp3 (.lst [.ref sl])
      have y3 : Ext fe G2 (upd G2 p3 (.lst [.ref sl])) := (Ext.refl fe G2).new hp3 _
      have x3 := x2.trans y3
      have T3 : Tv fe 100 (upd G2 p3 (.lst [.ref sl])) 7 (.ref p3) := .inl ⟨p3, _, rfl, F2.nef hp3, upd_same, by show 1 ≤ 100; decide, fun y hy => by
        rw [List.mem_singleton.mp hy]
        exact Th.lst nsl (x3 _ _ nsl hsl)⟩
      have T1 := T1.keep y3
      have T2 := T2.keep y3
      generalize upd G2 p3 (.lst [.ref sl]) = G3 at F3 y3 T3 T1 T2 x3 ⊢
      -- some + some[:1]
      refine ⟨_, rfl, _, rfl, noPart ⟨_, rfl, sl, _, rfl, SqL.of (x3 _ _ nsl hsl), fun p4 hp4 => ?_⟩⟩
      have F4 := F3.new hp4 (.lst (cutV vws none (some 1)))
      have y4 : Ext fe G3 (upd G3 p4 (.lst (cutV vws none (some 1)))) := (Ext.refl fe G3).new hp4 _
      have e4 : upd G3 p4 (.lst (cutV vws none (some 1))) p4 = some (.lst (cutV vws none (some 1))) := upd_same
      have x4 := x3.trans y4
      have T1 := T1.keep y4
      have T2 := T2.keep y4
      have T3 := T3.keep y4
      generalize upd G3 p4 (.lst (cutV vws none (some 1))) = G4 at F4 y4 e4 T3 T1 T2 x4 ⊢
      have lc := cutV_length vws none (some 1)
      refine ⟨_, _, _, _, rfl, rfl, x4 _ _ nsl hsl, e4, Nat.le_of_lt (small1000 (by omega)), fun p5 hp5 => ?_⟩
      have F5 := F4.new hp5 (.lst (vws ++ cutV vws none (some 1)))
      have y5 : Ext fe G4 (upd G4 p5 (.lst (vws ++ cutV vws none (some 1)))) := (Ext.refl fe G4).new hp5 _
      have x5 := x4.trans y5
      have T5 : Tv fe 100 (upd G4 p5 (.lst (vws ++ cutV vws none (some 1)))) 7 (.ref p5) := .inl ⟨p5, _, rfl, F4.nef hp5, upd_same, by rw [List.length_append]; omega, fun y hy => by
        rcases List.mem_append.mp hy with hy | hy
        · exact (hallv x5 y hy).up (Nat.le_refl _) (by decide)
        · exact (hallv x5 y (cut_mem hy)).up (Nat.le_refl _) (by decide)⟩
      have T1 := T1.keep y5
      have T2 := T2.keep y5
      have T3 := T3.keep y5
      generalize upd G4 p5 (.lst (vws ++ cutV vws none (some 1))) = G5 at F5 y5 T3 T1 T2 T5 x5 ⊢
      have TV : ∀ v ∈ ([.ref p1, .non, .ref p2, .ref p, .ref p3, .str "a", .int 0, .ref p5] : List V), Tv fe 100 G5 7 v := fun v hv => by
        simp only [List.mem_cons, List.not_mem_nil, or_false] at hv
        rcases hv with rfl | rfl | rfl | rfl | rfl | rfl | rfl | rfl
        · exact T1
        · exact .inr ⟨rfl, Th.non⟩
        · exact T2
        · have q := (hall _ (List.mem_of_getElem? hjp))
          obtain ⟨pp, _, _, _, _, _, _, ep, npp, hpp, _⟩ := view_is q.1 q.2
          cases ep
          exact .inr ⟨by rw [lstOf_eq, (ex2.trans x5) _ _ npp hpp], (q.1.mono (ex2.trans x5) (by decide) (by decide))⟩
        · exact T3
        · exact .inr ⟨rfl, Th.str (by decide +kernel)⟩
        · exact .inr ⟨rfl, Th.int⟩
        · exact T5
      refine ⟨(by show 8 ≤ sizeLine; decide), fun l6 hl6 => ?_⟩
      have n6 := F5.nef hl6
      refine ⟨_, rfl, fe, 8, rfl, F5.new hl6 _, by decide, by decide, fun i9 H9 i0 i1 hF9 ex9 => ?_⟩
      obtain ⟨r, hr1, hr2⟩ := pick (xs := ([.ref p1, .non, .ref p2, .ref p, .ref p3, .str "a", .int 0, .ref p5] : List V)) i0 (by show i9 < 8; exact i1)
      refine ⟨_, _, _, _, rfl, rfl, SqL.of (ex9 _ _ n6 upd_same), hr2, ?_⟩
      have y9 : Ext fe G5 H9 := ((Ext.refl fe G5).new hl6 _).trans ex9
      exact k r H9 hF9 ((ex2.trans x5).trans y9) ((TV r hr1).keep y9)
  · -- some = list(views)
    refine ⟨_, rfl, vl, _, rfl, .inl (SqL.of hvl), fun sl hsl0 => ?_⟩
    have nsl := hF.nef hsl0
    have hF1 := hF.new hsl0 (.lst vws)
    have ex1 : Ext fe H (upd H sl (.lst vws)) := (Ext.refl fe H).new hsl0 _
    have hsl : upd H sl (.lst vws) sl = some (.lst vws) := upd_same
    generalize upd H sl (.lst vws) = H1 at hF1 ex1 hsl ⊢
    refine ⟨_, rfl, _, rfl, _, _, rfl, .inl ⟨_, SqL.of hsl, rfl⟩, fe, _, rfl, hF1, by omega, by omega, fun i2 H2 i0 i1 hF2 ex2 => ?_⟩
    have ex := ex1.trans ex2
    obtain ⟨jj, rfl⟩ : ∃ j : Nat, i2 = (j : Int) := ⟨i2.toNat, by omega⟩
    have hj : jj < vws.length := by omega
    obtain ⟨v, hv⟩ : ∃ v, vws[jj]? = some v := ⟨_, List.getElem?_eq_getElem hj⟩
    have hvm := hall v (List.mem_of_getElem? hv)
    obtain ⟨p, qa, hd, aa, z, hs, as, rfl, np, hp, hz, ⟨nqa, hqa⟩, ⟨nhd, hhd, lhs, Ihd⟩, ⟨naa, haa, ne_as, las, Iaa⟩, Tqa, Thd, Taa⟩ := view_is hvm.1 hvm.2
    refine ⟨_, rfl, _, rfl, _, _, _, _, rfl, rfl, SqL.of (ex2 _ _ nsl hsl), atI_nat hv, p, _, rfl, SqT.of (ex _ _ np hp), rfl, _, _, rfl, _, _, rfl, rfl, ?_⟩
    refine ⟨_, rfl, qa, _, rfl, SqT.of (ex _ _ nqa hqa), rfl, _, _, rfl, _, _, rfl, rfl, ?_⟩
    refine ⟨_, rfl, fe, 5, rfl, hF2, by decide, by decide, fun i3 H3 k0 k1 hF3 ex3 => ?_⟩
    have exx := ex.trans ex3
    exact tl _ _ ⟨sl, jj, p, qa, hd, aa, z, hs, as, i3, rfl, nsl, (ex2.trans ex3) _ _ nsl hsl, hsl0, hj, hv, hz, hF3, exx, ⟨nqa, exx _ _ nqa hqa⟩, ⟨nhd, exx _ _ nhd hhd, lhs, fun x hx => (Ihd x hx).keep exx⟩, ⟨naa, exx _ _ naa haa, ne_as, las, fun x hx => (Iaa x hx).keep exx⟩, Tqa.keep exx, Thd.keep exx, Taa.keep exx⟩
end
end K01

set_option Elab.async false
set_option linter.all false
set_option maxRecDepth 100000
set_option maxHeartbeats 4000000
namespace K01
open PySem PySem.Spec PyProof.Rows L2
seal L2.PE L2.PT L2.PW L2.PA L2.PS L2.PSs L2.PI L2.PO L2.PPs L2.PG L2.PGs
/-! ## the law -/
theorem same_ext {f : Addr} {H H1 H2 : Hp} (s : Same H H1) (hf : H f = none) (e : Ext f H1 H2) : Same H H2 := fun b u q => e b u (ne_of_none q hf) (s b u q)
theorem Scr.same {K : PySem.W.Frag} {H H' : Hp} {a : Addr} {xs : List V} (h : Scr K H a xs) (s : Same H H') : Scr K H' a xs := by
  rcases h with ⟨o, h⟩ | h
  · exact .inl ⟨o, s _ _ h⟩
  · exact .inr h
section
variable {P : Program} {w : World} {K : PySem.W.Frag} {mg : Str → Option Value} {base : Heap}
structure Dl (P : Program) (w : World) (K : PySem.W.Frag) (mg : Str → Option Value) (base : Heap) (n : Nat) : Prop where
  l_feed : DefOk P w K mg base 1 "_law_feed" ["_law_script", "_law_k"] (spFeed K)
  l_draw : DefOk P w K mg base 1 "_law_draw" ["_law_feed_here", "_law_many"] (spDraw K)
  l_words : DefOk P w K mg base 2 "_law_words" ["_law_feed_here", "_law_many"] (spWords K)
  l_views : DefOk P w K mg base 5 "_law_views" ["_law_feed_here", "_law_names", "_law_many"] (spViewsD K)
  l_spoilt : DefOk P w K mg base 2 "_law_spoilt" ["_law_feed_here", "_law_views_here"] (spSpoilt K)
  l_due : DefOk P w K mg base 5 "_law_due" ["_law_thing"] (spViews viewsB)
  is_views : DefOk P w K mg base 9 "is_views" ["thing"] (spViews viewsB)
def spLaw (K : PySem.W.Frag) : Sp := fun vs H Q _ => ∃ (a : Addr) (ns : List Int), vs = [.ref a] ∧ Scr K H a (ns.map V.int) ∧ ns.length ≤ 63 ∧ ∀ H', Q (.bl true) H'
theorem sc_law : FnScope ["_law_script", "_law_j", "_law_feed_here", "_law_names", "_law_many", "_law_views_here", "_law_k", "_law_some", "_law_found"] ["_law_script"] (defScope s_law) := ⟨rfl, rfl, rfl, by decide +kernel, rfl, by decide +kernel, by decide +kernel⟩
theorem ok_law {f : Addr} {fd : FuncData} (F : Fun K "law" "law" s_law f fd) (T : Txt K mg) (D : Dl P w K mg base 9) : FnOk P w K mg base CX0 10 f fd ["_law_script"] (spLaw K) := by
  refine F.ok sc_law (fun vs H Q E h => ?_) (fun cdv A outer s H vs Q E hr h => ?_)
  · obtain ⟨a, b, rfl, _⟩ := h
    rfl
  obtain ⟨a, ns, rfl, hS, hn, k⟩ := h
  refine ⟨_, (pss_cons (ps_for PassesOwn.never rfl (pi_range1 rfl T.n_range (pa_cons pe_int pa_nil)) (pg_name (i := 1) sc_law.nd rfl (Or.inl rfl))
      (pss_cons (ps_set (i := 2) sc_law.nd rfl (Or.inl rfl) (cl D.l_feed hr (pa_cons (pv 0) (pa_cons (pe_op op_mul pe_int (pv 1)) pa_nil))))
      (pss_cons (ps_set (i := 3) sc_law.nd rfl (Or.inl rfl) (cl D.l_words hr (pa_cons (pv 2) (pa_cons (pe_op op_add pe_int (cl D.l_draw hr (pa_cons (pv 2) (pa_cons pe_int pa_nil)))) pa_nil))))
      (pss_cons (ps_set (i := 4) sc_law.nd rfl (Or.inl rfl) (pe_ix ix_list (pe_lst (pa_cons (pe_op op_add pe_int (cl D.l_draw hr (pa_cons (pv 2) (pa_cons pe_int pa_nil)))) (pa_cons (pe_op op_add pe_int (cl D.l_draw hr (pa_cons (pv 2) (pa_cons pe_int pa_nil)))) pa_nil))) (pe_callTy call_int1 rfl T.n_int (by decide +kernel) (pa_cons (pe_cmpR op_eq (cl D.l_draw hr (pa_cons (pv 2) (pa_cons pe_int pa_nil))) pe_int (nomark _)) pa_nil)) (fun _ _ => rfl)))
      (pss_cons (ps_set (i := 5) sc_law.nd rfl (Or.inl rfl) (cl D.l_views hr (pa_cons (pv 2) (pa_cons (pv 3) (pa_cons (pv 4) pa_nil)))))
      (pss_cons (ps_if (PW.pt (pw_or (pt_cmpR op_isnotB (cl D.is_views hr (pa_cons (pe_callTy call_list_of rfl T.n_list (by decide +kernel) (pa_cons (pv 5) pa_nil)) pa_nil)) pe_bl (nomark _)) (pw_or1 (pt_cmpR op_isnotB (cl D.is_views hr (pa_cons (pe_lst pa_nil) pa_nil)) pe_bl (nomark _))))) (pss_one (ps_ret pe_bl)) pss_nil)
      (pss_one (ps_for PassesOwn.never rfl (pi_range1 rfl T.n_range (pa_cons pe_int pa_nil)) (pg_name (i := 6) sc_law.nd rfl (Or.inl rfl))
      (pss_cons (ps_set (i := 7) sc_law.nd rfl (Or.inl rfl) (cl D.l_spoilt hr (pa_cons (pv 2) (pa_cons (pv 5) pa_nil))))
      (pss_cons (ps_set (i := 8) sc_law.nd rfl (Or.inl rfl) (cl D.is_views hr (pa_cons (pv 7) pa_nil)))
      (pss_one (ps_if (PW.pt (pw_or (pt_not (pt_val (pe_callB call_isinst rfl T.n_isinstance (by decide +kernel) (pa_cons (pv 8) (pa_cons (pe_ty (n := "bool") rfl T.n_bool (by decide +kernel)) pa_nil))))) (pw_or1 (pt_cmpR op_ne (pv 8) (cl D.l_due hr (pa_cons (pv 7) pa_nil)) (nomark _))))) (pss_one (ps_ret pe_bl)) pss_nil))))))))))))
      (pss_one (ps_ret pe_bl))), ?_⟩
  refine ⟨4, rfl, by decide, by decide, for_range (lo := 0) (n := 4)
    (fun j σ H1 => ∃ x1 x2 x3 x4 x5 x6 x7 x8 : Option V, σ = [some (.ref a), x1, x2, x3, x4, x5, x6, x7, x8] ∧ Same H H1) ⟨none, none, none, none, none, none, none, none, rfl, Same.refl H⟩ ?_ ?_⟩
  · rintro j σ H1 hj ⟨x1, x2, x3, x4, x5, x6, x7, x8, rfl, sm1⟩
    -- feed
    refine ⟨_, rfl, _, rfl, _, _, rfl, rfl, .inl ⟨by decide, by decide⟩, a, ns, _, rfl, hS.same sm1, hn, by omega, fun fe H2 hF2 sm2 hfe => ?_⟩
    have hfe0 : H fe = none := sm1.free hfe
    have s2 := sm1.trans sm2
    -- names
    refine ⟨_, rfl, _, rfl, fe, 3, rfl, hF2, by decide, by decide, fun i3 H3 a0 a1 hF3 ex3 => ⟨_, _, rfl, rfl, fe, _, rfl, hF3, by omega, by omega, fun nl nms H4 hF4 ex4 nnl nl0 hnl hln ndn hnw => ?_⟩⟩
    -- many
    refine ⟨_, rfl, fe, 6, rfl, hF4, by decide, by decide, fun i5 H5 b0 b1 hF5 ex5 => ⟨_, _, rfl, rfl, ?_⟩⟩
    refine ⟨_, rfl, fe, 6, rfl, hF5, by decide, by decide, fun i6 H6 c0 c1 hF6 ex6 => ⟨_, _, rfl, rfl, ?_⟩⟩
    refine ⟨(by show 2 ≤ sizeLine; decide), fun l7 hl7 => ?_⟩
    have n7 := hF6.nef hl7
    refine ⟨_, rfl, fe, 6, rfl, hF6.new hl7 _, by decide, by decide, fun i8 H8 d0 d1 hF8 ex8 => ⟨rfl, .inr ⟨_, rfl, ?_⟩⟩⟩
    obtain ⟨many, hmany, m1, m12⟩ : ∃ m : Int, atI [V.int (1 + i5), V.int (7 + i6)] (if decide (V.int i8 = V.int 0) = true then 1 else 0) = some (.int m) ∧ 1 ≤ m ∧ m ≤ 12 := by
      by_cases c : decide (V.int i8 = V.int 0) = true
      · rw [if_pos c]
        exact ⟨7 + i6, rfl, by omega, by omega⟩
      · rw [if_neg c]
        exact ⟨1 + i5, rfl, by omega, by omega⟩
    refine ⟨_, _, _, _, rfl, rfl, SqL.of (ex8 _ _ n7 upd_same), hmany, ?_⟩
    have ex48 : Ext fe H4 H8 := (ex5.trans ex6).trans (((Ext.refl fe H6).new hl7 _).trans ex8)
    have s8 : Same H H8 := same_ext (same_ext s2 hfe0 (ex3.trans ex4)) hfe0 ex48
    -- views
    refine ⟨_, rfl, _, rfl, _, rfl, fe, nl, many, nms, rfl, hF8, nnl, ⟨ex48 _ _ nnl hnl, by omega, by omega⟩, hnw, by omega, by omega, fun vl vws H9 hF9 ex9 nvl hvl hlv hall hnd => ?_⟩
    have s9 := same_ext s8 hfe0 ex9
    -- is_views(list(views)) is not True
    refine ⟨_, rfl, vl, _, rfl, .inl (SqL.of hvl), fun l10 hl10 => ?_⟩
    have ex10 : Ext fe H9 (upd H9 l10 (.lst vws)) := (Ext.refl fe H9).new hl10 _
    have n10 := hF9.nef hl10
    have hF10 := hF9.new hl10 (.lst vws)
    have e10 : upd H9 l10 (.lst vws) l10 = some (.lst vws) := upd_same
    generalize upd H9 l10 (.lst vws) = H10 at ex10 hF10 e10 ⊢
    have tv10 : Tv fe 100 H10 6 (.ref l10) := .inl ⟨l10, _, rfl, n10, e10, by omega, fun x hx => (hall x hx).1.mono ex10 (by decide) (Nat.le_refl _)⟩
    have ev10 : viewsB H10 (.ref l10) = true := by
      rw [viewsB_some (lstOf_ref e10), List.map_congr_left fun x hx => (hall x hx).1.view ex10, List.map_congr_left fun x hx => (hall x hx).1.nameV ex10, decide_eq_true hnd, Bool.and_true]
      refine List.all_eq_true.mpr fun b hb => ?_
      obtain ⟨x, hx, rfl⟩ := List.mem_map.mp hb
      exact (hall x hx).2
    refine ⟨fe, 100, 6, _, rfl, tv10, by decide, fun H11 sm11 => ?_⟩
    rw [ev10]
    refine ⟨_, _, rfl, rfl, _, rfl, ?_⟩
    refine iteF ?_
    refine ⟨(by show 0 ≤ sizeLine; decide), fun l12 hl12 => ?_⟩
    have hF11 := hF10.same sm11
    have ex12 : Ext fe H11 (upd H11 l12 (.lst [])) := (Ext.refl fe H11).new hl12 _
    have n12 := hF11.nef hl12
    have hF12 := hF11.new hl12 (.lst [])
    have e12 : upd H11 l12 (.lst []) l12 = some (.lst []) := upd_same
    generalize upd H11 l12 (.lst []) = H12 at ex12 hF12 e12 ⊢
    refine ⟨fe, 100, 6, _, rfl, .inl ⟨l12, _, rfl, n12, e12, Nat.zero_le _, fun x hx => by cases hx⟩, by decide, fun H13 sm13 => ?_⟩
    rw [viewsB_some (lstOf_ref e12)]
    refine ⟨_, _, rfl, rfl, _, rfl, ?_⟩
    refine iteF ?_
    have hF13 := hF12.same sm13
    have ex13 : Ext fe H9 H13 := ((ex10.trans (Ext.of sm11)).trans ex12).trans (Ext.of sm13)
    -- spoilt
    refine ⟨4, rfl, by decide, by decide, for_range (lo := 0) (n := 4)
      (fun i σ H14 => ∃ y6 y7 y8 : Option V, σ = [some (.ref a), some (.int (0 + (j : Int))), some (.ref fe), some (.ref nl), some (.int many), some (.ref vl), y6, y7, y8] ∧ Feed K fe H14 ∧ Ext fe H9 H14) ⟨x6, x7, x8, rfl, hF13, ex13⟩ ?_ ?_⟩
    · rintro i σ H14 hi ⟨y6, y7, y8, rfl, hF14, ex14⟩
      refine ⟨_, rfl, _, rfl, fe, vl, vws, rfl, hF14, nvl, ex14 _ _ nvl hvl, by omega, by omega, (fun v hv => ⟨(hall v hv).1.keep ex14, ((hall v hv).1.view ex14).trans (hall v hv).2⟩), fun r H15 hF15 ex15 tv => ?_⟩
      refine ⟨_, rfl, fe, 100, 7, r, rfl, tv, by decide, fun H16 sm16 => ?_⟩
      refine ⟨_, rfl, _, _, _, _, rfl, .bl _, by rfl, _, rfl, ?_⟩
      refine iteF ?_
      refine ⟨_, rfl, _, rfl, fe, 100, 7, r, rfl, tv.keep (Ext.of sm16), by decide, fun H17 sm17 => ⟨rfl, _, rfl, ?_⟩⟩
      rw [tv.views (Ext.of sm16), decide_eq_true rfl]
      refine iteF ?_
      exact ⟨_, _, _, rfl, (hF15.same sm16).same sm17, ((ex14.trans ex15).trans (Ext.of sm16)).trans (Ext.of sm17)⟩
    · rintro σ H14 ⟨y6, y7, y8, rfl, hF14, ex14⟩
      exact ⟨_, _, _, _, _, _, _, _, rfl, same_ext s9 hfe0 ex14⟩
  · rintro σ H1 ⟨x1, x2, x3, x4, x5, x6, x7, x8, rfl, sm1⟩
    exact k _
end
end K01

set_option Elab.async false
set_option linter.all false
set_option maxRecDepth 100000
set_option maxHeartbeats 4000000
namespace K01
open PySem PySem.Spec PyProof.Rows L2
seal L2.PE L2.PT L2.PW L2.PA L2.PS L2.PSs L2.PI L2.PO L2.PPs L2.PG L2.PGs
/-! ## views: what the program answers -/
theorem len_eq_nd (zs : List Str) : decide (V.int ((dedS zs).length : Int) = V.int (zs.length : Int)) = decide zs.Nodup := by
  rw [← dedS_nd, Bool.eq_iff_iff, decide_eq_true_iff, beq_iff_eq]
  constructor
  · intro h
    injection h with h
    omega
  · intro h
    rw [h]
theorem names_strs {H : Hp} : ∀ {xs : List V}, (∀ x ∈ xs, viewB H x = true) → xs.map (nameV H) = (strsV (xs.map (nameV H))).map V.str
  | [], _ => rfl
  | x :: r, h => by
    have ih := names_strs fun y hy => h y (List.mem_cons_of_mem _ hy)
    have hx := h x List.mem_cons_self
    by_cases pq : pairB H x = true
    case neg =>
      rw [viewB_not (Bool.eq_false_iff.mpr pq)] at hx
      cases hx
    obtain ⟨nm, qv, e⟩ := pairB_yes pq
    rw [viewB_pair e, Bool.and_eq_true] at hx
    have en := nameV_pair e
    cases nm with
    | str z =>
      show nameV H x :: r.map (nameV H) = (strsV ([nameV H x] ++ r.map (nameV H))).map V.str
      rw [strsV_app, List.map_append, ← ih, en]
      rfl
    | _ => cases hx.1
def spVHead : Sp := fun vs H Q _ => ∃ (f a : Addr) (m n : Nat) (hs : List V), vs = [.ref a] ∧ H a = some (.tup hs) ∧ hs.length ≤ 4 ∧ m ≤ 1000 ∧ (∀ x ∈ hs, Th f m H n x) ∧ (hs.map termB).all id = true ∧ ∀ H', Same H H' → Q (.bl (vheadB hs)) H'
section
variable {P : Program} {w : World} {K : PySem.W.Frag} {mg : Str → Option Value} {base : Heap}
theorem sc_is_view_head : FnScope ["head"] ["head"] (defScope s_is_view_head) := ⟨rfl, rfl, rfl, by decide +kernel, rfl, by decide +kernel, by decide +kernel⟩
theorem ok_is_view_head {f : Addr} {fd : FuncData} (F : Fun K "is_view_head" "is_view_head" s_is_view_head f fd) (T : Txt K mg) (D : Dt1 P w K mg base) : FnOk P w K mg base CX0 3 f fd ["head"] spVHead := by
  refine F.ok sc_is_view_head (fun vs H Q E h => ?_) (fun cdv A outer s H vs Q E hr h => ?_)
  · obtain ⟨a, b, c, d, e, rfl, _⟩ := h
    rfl
  obtain ⟨fe, a, m, n, hs, rfl, ha, hl, hm, hx, ht, k⟩ := h
  refine ⟨_, (pss_one (ps_ret (pe_and (pe_cmpR op_gt (pe_callB call_len rfl T.n_len PySem.boot_len (pa_cons (pv 0) pa_nil)) pe_int (nomark _)) (pe_and (pe_callB (call_all_bools rfl) rfl T.n_all boot_all (pa_cons (pe_comp rfl (compSc_mk (fs := []) (fr := [])) (pi_tup (pv 0)) (fun _ _ _ _ => (cl D.is_unknown hr (pa_cons (pv 0) pa_nil)))) pa_nil)) (pe_one (pe_cmpR op_eq (pe_callB call_lenS rfl T.n_len PySem.boot_len (pa_cons (pe_callTy (call_setS hr.hd) rfl T.n_set (by decide +kernel) (pa_cons (pv 0) pa_nil)) pa_nil)) (pe_callB call_len rfl T.n_len PySem.boot_len (pa_cons (pv 0) pa_nil)) (nomark _))))))), ?_⟩
  have evh : vheadB hs = (!hs.isEmpty && ((hs.map qB).all id && decide (strsV hs).Nodup)) := rfl
  have ezs := strs_all ht
  refine ⟨_, rfl, _, _, rfl, .inr ⟨_, SqT.of ha, rfl⟩, _, _, rfl, rfl, _, rfl, ?_⟩
  have e0 : decide ((0 : Int) < (hs.length : Int)) = !hs.isEmpty := by
    cases hs with
    | nil => rfl
    | cons x r =>
      rw [List.length_cons]
      exact decide_eq_true (by omega)
  have e0' : decide ((hs.length : Int) > 0) = !hs.isEmpty := e0
  refine ite2 (fun c1 => ?_) (fun c1 => ?_)
  case refine_2 =>
    have c1 : ¬ decide ((hs.length : Int) > 0) = true := c1
    have q := k H (Same.refl H)
    rw [evh, ← e0', Bool.eq_false_iff.mpr c1, Bool.false_and] at q
    exact q
  have c1 : decide ((hs.length : Int) > 0) = true := c1
  rw [← e0', c1, Bool.true_and] at evh
  refine ⟨_, rfl, a, rfl, ⟨hs, SqT.of ha⟩, comp_tup (K := K) (a := a) (xs := hs) (fun i ys H2 => Same H H2 ∧ i ≤ hs.length ∧ ys = ((hs.take i).map qB).map V.bl) (small1000 (by omega)) ⟨Same.refl H, Nat.zero_le _, rfl⟩ ?_ ?_ ?_⟩
  · rintro i ys H2 hi ⟨sm, _, rfl⟩
    refine ⟨SqT.of (sm _ _ ha), ?_⟩
    rw [List.length_map, List.length_map, List.length_take]
    omega
  · rintro i x ys H2 N hc ⟨sm, hi, rfl⟩ hN
    have hlt : i < hs.length := (List.getElem?_eq_some_iff.mp hc).1
    refine rd_true ?_
    have hxm := List.mem_of_getElem? hc
    refine ⟨_, rfl, fe, m, n, x, rfl, (hx x hxm).keep (Ext.of sm), hm, fun H3 sm3 => hN _ _ ⟨sm.trans sm3, hlt, ?_⟩⟩
    have eq : unkB x = qB x := by
      rw [ezs] at hxm
      obtain ⟨z, _, rfl⟩ := List.mem_map.mp hxm
      rfl
    show _ ++ [V.bl (unkB x)] = _
    rw [eq, List.take_add_one, hc, List.map_append, List.map_append]
    rfl
  · rintro ys H2 ⟨sm, _, rfl⟩ l hl'
    rw [List.take_length]
    have sm3 : Same H (upd H2 l (.lst ((hs.map qB).map V.bl))) := sm.trans (same_new hl' _)
    have hl3 : upd H2 l (.lst ((hs.map qB).map V.bl)) l = some (.lst ((hs.map qB).map V.bl)) := upd_same
    generalize upd H2 l (.lst ((hs.map qB).map V.bl)) = H3 at sm3 hl3 ⊢
    refine ⟨_, hs.map qB, rfl, SqL.of hl3, _, rfl, ?_⟩
    refine ite2 (fun c2 => ?_) (fun c2 => ?_)
    case refine_2 =>
      have c2 : ¬ (hs.map qB).all id = true := c2
      have q := k H3 sm3
      rw [evh, Bool.eq_false_iff.mpr c2, Bool.false_and] at q
      exact q
    have c2 : (hs.map qB).all id = true := c2
    rw [c2, Bool.true_and] at evh
    have hsz : hs = (strsV hs).map V.str := ezs
    have lz : (strsV hs).length = hs.length := by
      have := congrArg List.length hsz
      rw [List.length_map] at this
      exact this.symm
    refine ⟨_, rfl, a, strsV hs, rfl, .inl (SqT.of (by rw [← hsz]; exact sm3 _ _ ha)), by omega, fun p hp => ?_⟩
    have sm4 : Same H (upd H3 p (.ext (SetN p (dedS (strsV hs)).length))) := sm3.trans (same_new hp _)
    have hp4 : upd H3 p (.ext (SetN p (dedS (strsV hs)).length)) p = some (.ext (SetN p (dedS (strsV hs)).length)) := upd_same
    generalize upd H3 p (.ext (SetN p (dedS (strsV hs)).length)) = H4 at sm4 hp4 ⊢
    refine ⟨p, _, rfl, hp4, Nat.le_trans (dedS_len _).1 (by omega), _, rfl, _, _, rfl, .inr ⟨_, SqT.of (sm4 _ _ ha), rfl⟩, rfl, ?_⟩
    have q := k H4 sm4
    rw [evh, ← len_eq_nd, lz] at q
    exact q
structure Dp1 (P : Program) (w : World) (K : PySem.W.Frag) (mg : Str → Option Value) (base : Heap) : Prop extends Dt6 P w K mg base where
  is_question : DefOk P w K mg base 7 "is_question" ["thing"] (spIs questB)
  is_view_head : DefOk P w K mg base 3 "is_view_head" ["head"] spVHead
theorem sc_is_view : FnScope ["thing"] ["thing"] (defScope s_is_view) := ⟨rfl, rfl, rfl, by decide +kernel, rfl, by decide +kernel, by decide +kernel⟩
theorem ok_is_view {f : Addr} {fd : FuncData} (F : Fun K "is_view" "is_view" s_is_view f fd) (T : Txt K mg) (D : Dp1 P w K mg base) : FnOk P w K mg base CX0 8 f fd ["thing"] (spIs viewB) := by
  refine F.ok sc_is_view (fun vs H Q E h => ?_) (fun cdv A outer s H vs Q E hr h => ?_)
  · obtain ⟨a, b, c, d, rfl, _⟩ := h
    rfl
  obtain ⟨fe, m, n, v, rfl, hv, hm, k⟩ := h
  refine ⟨_, (pss_cons (ps_if (pt_not (PW.pt (pw_and (pt_val (cl D.is_pair hr (pa_cons (pv 0) pa_nil))) (pw_and (pt_val (cl D.is_value hr (pa_cons (pe_ix ix_tup (pv 0) pe_int (fun _ _ => rfl)) pa_nil))) (pw_and1 (pt_val (cl D.is_question hr (pa_cons (pe_ix ix_tup (pv 0) pe_int (fun _ _ => rfl)) pa_nil)))))))) (pss_one (ps_ret pe_bl)) pss_nil)
      (pss_one (ps_ret (cl D.is_view_head hr (pa_cons (pe_ix ix_tup (pe_ix ix_tup (pv 0) pe_int (fun _ _ => rfl)) pe_int (fun _ _ => rfl)) pa_nil))))), ?_⟩
  refine ⟨_, rfl, fe, m, n, v, rfl, hv, hm, fun H1 sm1 => ⟨_, rfl, ?_⟩⟩
  refine ite2 (fun c => ?_) (fun c => ?_)
  case refine_2 =>
    have q := k H1 sm1
    rw [viewB_not (Bool.eq_false_iff.mpr c)] at q
    exact iteT q
  obtain ⟨nm, qv, e⟩ := pairB_yes c
  obtain ⟨p, rfl, nf, hp, hl, hx⟩ := hv.items e
  have hn1 : Th fe m H (n - 1) nm := hx nm (by simp)
  have hq1 : Th fe m H (n - 1) qv := hx qv (by simp)
  have evb := viewB_pair e
  refine ⟨_, rfl, _, _, _, _, rfl, rfl, SqT.of (sm1 _ _ hp), rfl, fe, m, n - 1, nm, rfl, hn1.keep (Ext.of sm1), hm, fun H2 sm2 => ⟨_, rfl, ?_⟩⟩
  have sm12 := sm1.trans sm2
  refine ite2 (fun c2 => ?_) (fun c2 => ?_)
  case refine_2 =>
    have c2 : ¬ valB nm = true := c2
    have q := k H2 sm12
    rw [evb, Bool.eq_false_iff.mpr c2, Bool.false_and] at q
    exact iteT q
  have c2 : valB nm = true := c2
  refine ⟨_, rfl, _, _, _, _, rfl, rfl, SqT.of (sm12 _ _ hp), rfl, fe, m, n - 1, qv, rfl, hq1.keep (Ext.of sm12), hm, fun H3 sm3 => ⟨_, rfl, ?_⟩⟩
  have sm := sm12.trans sm3
  rw [hq1.quest (Ext.of sm12)]
  refine ite2 (fun c3 => ?_) (fun c3 => ?_)
  · have c3 : questB H qv = false := by simpa using c3
    have q := k H3 sm
    rw [evb, c3, Bool.false_and, Bool.and_false] at q
    exact q
  have c3 : questB H qv = true := by simpa using c3
  by_cases pq : pairB H qv = true
  case neg =>
    rw [questB_not (Bool.eq_false_iff.mpr pq)] at c3
    cases c3
  obtain ⟨hv', av, eq⟩ := pairB_yes pq
  obtain ⟨qa, rfl, nfq, hqa, hql, hqx⟩ := hq1.items eq
  have d3' := c3
  rw [questB_pair eq, Bool.and_eq_true] at d3'
  have hh1 : Th fe m H (n - 1 - 1) hv' := hqx hv' (by simp)
  cases eh : tupOf H hv' with
  | none =>
    rw [termsB_none eh] at d3'
    cases d3'.1
  | some hs =>
  obtain ⟨ha', rfl, nfh, hha, hhl, hhx⟩ := hh1.items eh
  have ht := d3'.1
  rw [termsB_some eh, Bool.and_eq_true, Bool.and_eq_true] at ht
  have l4 := of_decide_eq_true ht.2.1
  have eho : headOf H (.ref qa) = hs := headOf_pair eq eh
  refine ⟨_, rfl, _, _, _, _, rfl, rfl, SqT.of (sm _ _ hp), rfl, _, _, _, _, rfl, rfl, SqT.of (sm _ _ hqa), rfl, fe, ha', m, _, hs, rfl, sm _ _ hha, by omega, hm, fun x q => (hhx x q).keep (Ext.of sm), ht.2.2, fun H4 sm4 => ?_⟩
  have q := k H4 (sm.trans sm4)
  rw [evb, c2, c3, eho, Bool.true_and, Bool.true_and] at q
  exact q
structure Dp2 (P : Program) (w : World) (K : PySem.W.Frag) (mg : Str → Option Value) (base : Heap) : Prop extends Dp1 P w K mg base where
  is_view : DefOk P w K mg base 8 "is_view" ["thing"] (spIs viewB)
theorem sc_is_views : FnScope ["thing"] ["thing"] (defScope s_is_views) := ⟨rfl, rfl, rfl, by decide +kernel, rfl, by decide +kernel, by decide +kernel⟩
theorem ok_is_views {f : Addr} {fd : FuncData} (F : Fun K "is_views" "is_views" s_is_views f fd) (T : Txt K mg) (D : Dp2 P w K mg base) : FnOk P w K mg base CX0 9 f fd ["thing"] (spViews viewsB) := by
  refine F.ok sc_is_views (fun vs H Q E h => ?_) (fun cdv A outer s H vs Q E hr h => ?_)
  · obtain ⟨a, b, c, d, rfl, _⟩ := h
    rfl
  obtain ⟨fe, m, n, v, rfl, hv, hm, k⟩ := h
  refine ⟨_, (pss_cons (ps_if (pt_not (PW.pt (pw_and (pt_val (pe_callB call_isinst rfl T.n_isinstance (by decide +kernel) (pa_cons (pv 0) (pa_cons (pe_ty (n := "list") rfl T.n_list (by decide +kernel)) pa_nil)))) (pw_and1 (pt_val (pe_callB (call_all_bools rfl) rfl T.n_all boot_all (pa_cons (pe_comp rfl (compSc_mk (fs := []) (fr := [])) (pi_list (pv 0)) (fun _ _ _ _ => (cl D.is_view hr (pa_cons (pv 0) pa_nil)))) pa_nil))))))) (pss_one (ps_ret pe_bl)) pss_nil)
      (pss_one (ps_ret (pe_cmpR op_eq (pe_callB call_lenS rfl T.n_len PySem.boot_len (pa_cons (pe_callTy (call_setS hr.hd) rfl T.n_set (by decide +kernel) (pa_cons (pe_comp rfl (compSc_mk (fs := []) (fr := [])) (pi_list (pv 0)) (fun _ _ _ _ => (pe_ix (ix_tupK (K := K)) (pv 0) pe_int (fun _ _ => rfl)))) pa_nil)) pa_nil)) (pe_callB call_len rfl T.n_len PySem.boot_len (pa_cons (pv 0) pa_nil)) (nomark _))))), ?_⟩
  obtain ⟨t, ty, e1⟩ := ty_ofL (K := K) hv
  refine ⟨_, rfl, _, _, _, _, rfl, ty, e1, _, rfl, ?_⟩
  rcases hv with ⟨a, xs, rfl, nf, ha, hl, hx⟩ | ⟨h1, h2⟩
  case inr =>
    have q := k H (Same.refl H)
    rw [viewsB_none h1] at q
    rw [h1]
    exact iteF (iteT q)
  have el := lstOf_ref ha
  rw [el]
  have ev := viewsB_some el
  refine iteT ?_
  refine ⟨_, rfl, a, rfl, ⟨xs, SqL.of ha⟩, comp_list (K := K) (a := a) (xs := xs) (fun i ys H2 => Same H H2 ∧ i ≤ xs.length ∧ ys = ((xs.take i).map (viewB H)).map V.bl) (small1000 (by omega)) ⟨Same.refl H, Nat.zero_le _, rfl⟩ ?_ ?_ ?_⟩
  · rintro i ys H2 hi ⟨sm, _, rfl⟩
    refine ⟨SqL.of (sm _ _ ha), ?_⟩
    rw [List.length_map, List.length_map, List.length_take]
    omega
  · rintro i x ys H2 N hc ⟨sm, hi, rfl⟩ hN
    have hlt : i < xs.length := (List.getElem?_eq_some_iff.mp hc).1
    have hxt := hx x (List.mem_of_getElem? hc)
    refine rd_true ?_
    refine ⟨_, rfl, fe, m, n, x, rfl, hxt.keep (Ext.of sm), by omega, fun H3 sm3 => hN _ _ ⟨sm.trans sm3, hlt, ?_⟩⟩
    rw [hxt.view (Ext.of sm), List.take_add_one, hc, List.map_append, List.map_append]
    rfl
  · rintro ys H2 ⟨sm, _, rfl⟩ l hl'
    rw [List.take_length]
    have sm3 : Same H (upd H2 l (.lst ((xs.map (viewB H)).map V.bl))) := sm.trans (same_new hl' _)
    have hl3 : upd H2 l (.lst ((xs.map (viewB H)).map V.bl)) l = some (.lst ((xs.map (viewB H)).map V.bl)) := upd_same
    generalize upd H2 l (.lst ((xs.map (viewB H)).map V.bl)) = H3 at sm3 hl3 ⊢
    refine ⟨_, xs.map (viewB H), rfl, SqL.of hl3, _, rfl, ?_⟩
    refine ite2 (fun c2 => ?_) (fun c2 => ?_)
    · have c2 : (xs.map (viewB H)).all id = false := by simpa using c2
      have q := k H3 sm3
      rw [ev, c2, Bool.false_and] at q
      exact q
    have c2 : (xs.map (viewB H)).all id = true := by simpa using c2
    rw [c2, Bool.true_and] at ev
    have hall : ∀ x ∈ xs, viewB H x = true := fun x q => List.all_eq_true.mp c2 _ (List.mem_map_of_mem q)
    have ezs := names_strs hall
    have lz : (strsV (xs.map (nameV H))).length = xs.length := by
      have := congrArg List.length ezs
      rw [List.length_map, List.length_map] at this
      exact this.symm
    refine ⟨_, rfl, a, rfl, ⟨xs, SqL.of (sm3 _ _ ha)⟩, comp_list (K := K) (a := a) (xs := xs) (fun i ys H4 => Same H H4 ∧ i ≤ xs.length ∧ ys = (xs.take i).map (nameV H)) (small1000 (by omega)) ⟨sm3, Nat.zero_le _, rfl⟩ ?_ ?_ ?_⟩
    · rintro i ys H4 hi ⟨sm, _, rfl⟩
      refine ⟨SqL.of (sm _ _ ha), ?_⟩
      rw [List.length_map, List.length_take]
      omega
    · rintro i x ys H4 N hc ⟨sm, hi, rfl⟩ hN
      have hlt : i < xs.length := (List.getElem?_eq_some_iff.mp hc).1
      have hxm := List.mem_of_getElem? hc
      have hxt := hx x hxm
      have hvx := hall x hxm
      by_cases pq : pairB H x = true
      case neg =>
        rw [viewB_not (Bool.eq_false_iff.mpr pq)] at hvx
        cases hvx
      obtain ⟨nm, qv, e⟩ := pairB_yes pq
      obtain ⟨p, rfl, nf', hp, hpl, hpx⟩ := hxt.items e
      refine rd_true ?_
      refine ⟨_, rfl, _, _, _, _, rfl, rfl, SqT.of (sm _ _ hp), rfl, hN _ _ ⟨sm, hlt, ?_⟩⟩
      rw [List.take_add_one, hc, List.map_append]
      show _ ++ [nm] = _ ++ [nameV H (.ref p)]
      rw [nameV_pair e]
    · rintro ys H4 ⟨sm4, _, rfl⟩ l2 hl2
      rw [List.take_length]
      have sm5 : Same H (upd H4 l2 (.lst (xs.map (nameV H)))) := sm4.trans (same_new hl2 _)
      have hl5 : upd H4 l2 (.lst (xs.map (nameV H))) l2 = some (.lst (xs.map (nameV H))) := upd_same
      generalize upd H4 l2 (.lst (xs.map (nameV H))) = H5 at sm5 hl5 ⊢
      refine ⟨l2, strsV (xs.map (nameV H)), rfl, .inr (SqL.of (by rw [← ezs]; exact hl5)), by omega, fun p hp => ?_⟩
      have sm6 : Same H (upd H5 p (.ext (SetN p (dedS (strsV (xs.map (nameV H)))).length))) := sm5.trans (same_new hp _)
      have hp6 : upd H5 p (.ext (SetN p (dedS (strsV (xs.map (nameV H)))).length)) p = some (.ext (SetN p (dedS (strsV (xs.map (nameV H)))).length)) := upd_same
      generalize upd H5 p (.ext (SetN p (dedS (strsV (xs.map (nameV H)))).length)) = H6 at sm6 hp6 ⊢
      refine ⟨p, _, rfl, hp6, Nat.le_trans (dedS_len _).1 (by omega), _, rfl, _, _, rfl, .inl ⟨_, SqL.of (sm6 _ _ ha), rfl⟩, rfl, ?_⟩
      have q := k H6 sm6
      rw [ev, ← len_eq_nd, lz] at q
      exact q
end
end K01

set_option Elab.async false
set_option linter.all false
set_option maxRecDepth 100000
set_option maxHeartbeats 4000000
namespace K01
open PySem PySem.Spec PyProof.Rows L2
theorem scr_of {K : PySem.W.Frag} {H : Hp} {a : Addr} {xs : List V} (hO : Only H) (h : SqL K H a xs) : Scr K H a xs := by
  rcases h with (h | h) | h
  · rcases hO a with e | ⟨o, ys, e⟩
    · rw [e] at h; cases h
    · rw [e] at h; cases h
  · exact .inl h
  · exact .inr h
theorem all_mk {l : PySem.W.OpenLaw} {w : World} {K : PySem.W.Frag} {h : Heap} {mg : Str → Option Value} {fa f1 f2 f3 f4 f5 f6 f7 f8 f9 f10 f11 f12 f13 f14 f15 f16 f17 f18 f19 f20 f21 f22 f23 f24 f25 f26 f27 f28 f29 : Addr} (X : K.In h) (G : h.Ns mainGlobals mg) (hfa : mg "law" = some (.ref fa))
    {od1 od2 od3 od4 od5 od6 od7 od8 od9 od10 od11 od12 od13 od14 od15 od16 od17 od18 od19 od20 od21 od22 od23 od24 od25 od26 od27 od28 od29 an1 an2 an3 an4 an5 an6 an7 an8 an9 an10 an11 an12 an13 an14 an15 an16 an17 an18 an19 an20 an21 an22 an23 an24 an25 an26 an27 an28 an29 : Option Addr} {sl1 sl2 sl3 sl4 sl5 sl6 sl7 sl8 sl9 sl10 sl11 sl12 sl13 sl14 sl15 sl16 sl17 sl18 sl19 sl20 sl21 sl22 sl23 sl24 sl25 sl26 sl27 sl28 sl29 : Array (Option Value)} {oc1 oc2 oc3 oc4 oc5 oc6 oc7 oc8 oc9 oc10 oc11 oc12 oc13 oc14 oc15 oc16 oc17 oc18 oc19 oc20 oc21 oc22 oc23 oc24 oc25 oc26 oc27 oc28 oc29 kV1 kV2 kV3 kV4 kV5 kV6 kV7 kV8 kV9 kV10 kV11 kV12 kV13 kV14 kV15 kV16 kV17 kV18 kV19 kV20 kV21 kV22 kV23 kV24 kV25 kV26 kV27 kV28 kV29 dc1 dc2 dc3 dc4 dc5 dc6 dc7 dc8 dc9 dc10 dc11 dc12 dc13 dc14 dc15 dc16 dc17 dc18 dc19 dc20 dc21 dc22 dc23 dc24 dc25 dc26 dc27 dc28 dc29 pm1 pm2 pm3 pm4 pm5 pm6 pm7 pm8 pm9 pm10 pm11 pm12 pm13 pm14 pm15 pm16 pm17 pm18 pm19 pm20 pm21 pm22 pm23 pm24 pm25 pm26 pm27 pm28 pm29 cd1 cd2 cd3 cd4 cd5 cd6 cd7 cd8 cd9 cd10 cd11 cd12 cd13 cd14 cd15 cd16 cd17 cd18 cd19 cd20 cd21 cd22 cd23 cd24 cd25 cd26 cd27 cd28 cd29 ct1 ct2 ct3 ct4 ct5 ct6 ct7 ct8 ct9 ct10 ct11 ct12 ct13 ct14 ct15 ct16 ct17 ct18 ct19 ct20 ct21 ct22 ct23 ct24 ct25 ct26 ct27 ct28 ct29 : Value} {t0 t1 t2 t3 : Tok}
    (a1 : PySem.W.nsIn K mainGlobals "is_value" = some (some (.ref f1))) (l1 : K.lookup f1 = some ⟨oc1, od1, .func (PySem.W.fnOf "is_value" "is_value" (defArgs s_is_value) (defBody s_is_value) (defScope s_is_value) .none kV1 dc1 pm1 an1 cd1 ct1), sl1⟩) (c1 : PySem.W.codeIn K cd1 "is_value" = true) (k1 : PySem.W.keepIn K (.ref f1) = true)
    (a2 : PySem.W.nsIn K mainGlobals "is_unknown" = some (some (.ref f2))) (l2 : K.lookup f2 = some ⟨oc2, od2, .func (PySem.W.fnOf "is_unknown" "is_unknown" (defArgs s_is_unknown) (defBody s_is_unknown) (defScope s_is_unknown) .none kV2 dc2 pm2 an2 cd2 ct2), sl2⟩) (c2 : PySem.W.codeIn K cd2 "is_unknown" = true) (k2 : PySem.W.keepIn K (.ref f2) = true)
    (a3 : PySem.W.nsIn K mainGlobals "is_term" = some (some (.ref f3))) (l3 : K.lookup f3 = some ⟨oc3, od3, .func (PySem.W.fnOf "is_term" "is_term" (defArgs s_is_term) (defBody s_is_term) (defScope s_is_term) .none kV3 dc3 pm3 an3 cd3 ct3), sl3⟩) (c3 : PySem.W.codeIn K cd3 "is_term" = true) (k3 : PySem.W.keepIn K (.ref f3) = true)
    (a4 : PySem.W.nsIn K mainGlobals "is_pair" = some (some (.ref f4))) (l4 : K.lookup f4 = some ⟨oc4, od4, .func (PySem.W.fnOf "is_pair" "is_pair" (defArgs s_is_pair) (defBody s_is_pair) (defScope s_is_pair) .none kV4 dc4 pm4 an4 cd4 ct4), sl4⟩) (c4 : PySem.W.codeIn K cd4 "is_pair" = true) (k4 : PySem.W.keepIn K (.ref f4) = true)
    (a5 : PySem.W.nsIn K mainGlobals "are_terms" = some (some (.ref f5))) (l5 : K.lookup f5 = some ⟨oc5, od5, .func (PySem.W.fnOf "are_terms" "are_terms" (defArgs s_are_terms) (defBody s_are_terms) (defScope s_are_terms) .none kV5 dc5 pm5 an5 cd5 ct5), sl5⟩) (c5 : PySem.W.codeIn K cd5 "are_terms" = true) (k5 : PySem.W.keepIn K (.ref f5) = true)
    (a6 : PySem.W.nsIn K mainGlobals "is_atom" = some (some (.ref f6))) (l6 : K.lookup f6 = some ⟨oc6, od6, .func (PySem.W.fnOf "is_atom" "is_atom" (defArgs s_is_atom) (defBody s_is_atom) (defScope s_is_atom) .none kV6 dc6 pm6 an6 cd6 ct6), sl6⟩) (c6 : PySem.W.codeIn K cd6 "is_atom" = true) (k6 : PySem.W.keepIn K (.ref f6) = true)
    (a7 : PySem.W.nsIn K mainGlobals "are_atoms" = some (some (.ref f7))) (l7 : K.lookup f7 = some ⟨oc7, od7, .func (PySem.W.fnOf "are_atoms" "are_atoms" (defArgs s_are_atoms) (defBody s_are_atoms) (defScope s_are_atoms) .none kV7 dc7 pm7 an7 cd7 ct7), sl7⟩) (c7 : PySem.W.codeIn K cd7 "are_atoms" = true) (k7 : PySem.W.keepIn K (.ref f7) = true)
    (a8 : PySem.W.nsIn K mainGlobals "is_question" = some (some (.ref f8))) (l8 : K.lookup f8 = some ⟨oc8, od8, .func (PySem.W.fnOf "is_question" "is_question" (defArgs s_is_question) (defBody s_is_question) (defScope s_is_question) .none kV8 dc8 pm8 an8 cd8 ct8), sl8⟩) (c8 : PySem.W.codeIn K cd8 "is_question" = true) (k8 : PySem.W.keepIn K (.ref f8) = true)
    (a9 : PySem.W.nsIn K mainGlobals "unknowns_of" = some (some (.ref f9))) (l9 : K.lookup f9 = some ⟨oc9, od9, .func (PySem.W.fnOf "unknowns_of" "unknowns_of" (defArgs s_unknowns_of) (defBody s_unknowns_of) (defScope s_unknowns_of) .none kV9 dc9 pm9 an9 cd9 ct9), sl9⟩) (c9 : PySem.W.codeIn K cd9 "unknowns_of" = true) (k9 : PySem.W.keepIn K (.ref f9) = true)
    (a10 : PySem.W.nsIn K mainGlobals "loose_unknowns" = some (some (.ref f10))) (l10 : K.lookup f10 = some ⟨oc10, od10, .func (PySem.W.fnOf "loose_unknowns" "loose_unknowns" (defArgs s_loose_unknowns) (defBody s_loose_unknowns) (defScope s_loose_unknowns) .none kV10 dc10 pm10 an10 cd10 ct10), sl10⟩) (c10 : PySem.W.codeIn K cd10 "loose_unknowns" = true) (k10 : PySem.W.keepIn K (.ref f10) = true)
    (a11 : PySem.W.nsIn K mainGlobals "is_view" = some (some (.ref f11))) (l11 : K.lookup f11 = some ⟨oc11, od11, .func (PySem.W.fnOf "is_view" "is_view" (defArgs s_is_view) (defBody s_is_view) (defScope s_is_view) .none kV11 dc11 pm11 an11 cd11 ct11), sl11⟩) (c11 : PySem.W.codeIn K cd11 "is_view" = true) (k11 : PySem.W.keepIn K (.ref f11) = true)
    (a12 : PySem.W.nsIn K mainGlobals "is_view_head" = some (some (.ref f12))) (l12 : K.lookup f12 = some ⟨oc12, od12, .func (PySem.W.fnOf "is_view_head" "is_view_head" (defArgs s_is_view_head) (defBody s_is_view_head) (defScope s_is_view_head) .none kV12 dc12 pm12 an12 cd12 ct12), sl12⟩) (c12 : PySem.W.codeIn K cd12 "is_view_head" = true) (k12 : PySem.W.keepIn K (.ref f12) = true)
    (a13 : PySem.W.nsIn K mainGlobals "is_views" = some (some (.ref f13))) (l13 : K.lookup f13 = some ⟨oc13, od13, .func (PySem.W.fnOf "is_views" "is_views" (defArgs s_is_views) (defBody s_is_views) (defScope s_is_views) .none kV13 dc13 pm13 an13 cd13 ct13), sl13⟩) (c13 : PySem.W.codeIn K cd13 "is_views" = true) (k13 : PySem.W.keepIn K (.ref f13) = true)
    (a14 : PySem.W.nsIn K mainGlobals "_law_feed" = some (some (.ref f14))) (l14 : K.lookup f14 = some ⟨oc14, od14, .func (PySem.W.fnOf "_law_feed" "_law_feed" (defArgs s_l_feed) (defBody s_l_feed) (defScope s_l_feed) .none kV14 dc14 pm14 an14 cd14 ct14), sl14⟩) (c14 : PySem.W.codeIn K cd14 "_law_feed" = true) (k14 : PySem.W.keepIn K (.ref f14) = true)
    (a15 : PySem.W.nsIn K mainGlobals "_law_draw" = some (some (.ref f15))) (l15 : K.lookup f15 = some ⟨oc15, od15, .func (PySem.W.fnOf "_law_draw" "_law_draw" (defArgs s_l_draw) (defBody s_l_draw) (defScope s_l_draw) .none kV15 dc15 pm15 an15 cd15 ct15), sl15⟩) (c15 : PySem.W.codeIn K cd15 "_law_draw" = true) (k15 : PySem.W.keepIn K (.ref f15) = true)
    (a16 : PySem.W.nsIn K mainGlobals "_law_words" = some (some (.ref f16))) (l16 : K.lookup f16 = some ⟨oc16, od16, .func (PySem.W.fnOf "_law_words" "_law_words" (defArgs s_l_words) (defBody s_l_words) (defScope s_l_words) .none kV16 dc16 pm16 an16 cd16 ct16), sl16⟩) (c16 : PySem.W.codeIn K cd16 "_law_words" = true) (k16 : PySem.W.keepIn K (.ref f16) = true)
    (a17 : PySem.W.nsIn K mainGlobals "_law_atom" = some (some (.ref f17))) (l17 : K.lookup f17 = some ⟨oc17, od17, .func (PySem.W.fnOf "_law_atom" "_law_atom" (defArgs s_l_atom) (defBody s_l_atom) (defScope s_l_atom) .none kV17 dc17 pm17 an17 cd17 ct17), sl17⟩) (c17 : PySem.W.codeIn K cd17 "_law_atom" = true) (k17 : PySem.W.keepIn K (.ref f17) = true)
    (a18 : PySem.W.nsIn K mainGlobals "_law_head" = some (some (.ref f18))) (l18 : K.lookup f18 = some ⟨oc18, od18, .func (PySem.W.fnOf "_law_head" "_law_head" (defArgs s_l_head) (defBody s_l_head) (defScope s_l_head) .none kV18 dc18 pm18 an18 cd18 ct18), sl18⟩) (c18 : PySem.W.codeIn K cd18 "_law_head" = true) (k18 : PySem.W.keepIn K (.ref f18) = true)
    (a19 : PySem.W.nsIn K mainGlobals "_law_question" = some (some (.ref f19))) (l19 : K.lookup f19 = some ⟨oc19, od19, .func (PySem.W.fnOf "_law_question" "_law_question" (defArgs s_l_question) (defBody s_l_question) (defScope s_l_question) .none kV19 dc19 pm19 an19 cd19 ct19), sl19⟩) (c19 : PySem.W.codeIn K cd19 "_law_question" = true) (k19 : PySem.W.keepIn K (.ref f19) = true)
    (a20 : PySem.W.nsIn K mainGlobals "_law_unknowns" = some (some (.ref f20))) (l20 : K.lookup f20 = some ⟨oc20, od20, .func (PySem.W.fnOf "_law_unknowns" "_law_unknowns" (defArgs s_l_unknowns) (defBody s_l_unknowns) (defScope s_l_unknowns) .none kV20 dc20 pm20 an20 cd20 ct20), sl20⟩) (c20 : PySem.W.codeIn K cd20 "_law_unknowns" = true) (k20 : PySem.W.keepIn K (.ref f20) = true)
    (a21 : PySem.W.nsIn K mainGlobals "_law_view_question" = some (some (.ref f21))) (l21 : K.lookup f21 = some ⟨oc21, od21, .func (PySem.W.fnOf "_law_view_question" "_law_view_question" (defArgs s_l_view_question) (defBody s_l_view_question) (defScope s_l_view_question) .none kV21 dc21 pm21 an21 cd21 ct21), sl21⟩) (c21 : PySem.W.codeIn K cd21 "_law_view_question" = true) (k21 : PySem.W.keepIn K (.ref f21) = true)
    (a22 : PySem.W.nsIn K mainGlobals "_law_views" = some (some (.ref f22))) (l22 : K.lookup f22 = some ⟨oc22, od22, .func (PySem.W.fnOf "_law_views" "_law_views" (defArgs s_l_views) (defBody s_l_views) (defScope s_l_views) .none kV22 dc22 pm22 an22 cd22 ct22), sl22⟩) (c22 : PySem.W.codeIn K cd22 "_law_views" = true) (k22 : PySem.W.keepIn K (.ref f22) = true)
    (a23 : PySem.W.nsIn K mainGlobals "_law_is_value" = some (some (.ref f23))) (l23 : K.lookup f23 = some ⟨oc23, od23, .func (PySem.W.fnOf "_law_is_value" "_law_is_value" (defArgs s_l_is_value) (defBody s_l_is_value) (defScope s_l_is_value) .none kV23 dc23 pm23 an23 cd23 ct23), sl23⟩) (c23 : PySem.W.codeIn K cd23 "_law_is_value" = true) (k23 : PySem.W.keepIn K (.ref f23) = true)
    (a24 : PySem.W.nsIn K mainGlobals "_law_is_term" = some (some (.ref f24))) (l24 : K.lookup f24 = some ⟨oc24, od24, .func (PySem.W.fnOf "_law_is_term" "_law_is_term" (defArgs s_l_is_term) (defBody s_l_is_term) (defScope s_l_is_term) .none kV24 dc24 pm24 an24 cd24 ct24), sl24⟩) (c24 : PySem.W.codeIn K cd24 "_law_is_term" = true) (k24 : PySem.W.keepIn K (.ref f24) = true)
    (a25 : PySem.W.nsIn K mainGlobals "_law_are_terms" = some (some (.ref f25))) (l25 : K.lookup f25 = some ⟨oc25, od25, .func (PySem.W.fnOf "_law_are_terms" "_law_are_terms" (defArgs s_l_are_terms) (defBody s_l_are_terms) (defScope s_l_are_terms) .none kV25 dc25 pm25 an25 cd25 ct25), sl25⟩) (c25 : PySem.W.codeIn K cd25 "_law_are_terms" = true) (k25 : PySem.W.keepIn K (.ref f25) = true)
    (a26 : PySem.W.nsIn K mainGlobals "_law_is_question" = some (some (.ref f26))) (l26 : K.lookup f26 = some ⟨oc26, od26, .func (PySem.W.fnOf "_law_is_question" "_law_is_question" (defArgs s_l_is_question) (defBody s_l_is_question) (defScope s_l_is_question) .none kV26 dc26 pm26 an26 cd26 ct26), sl26⟩) (c26 : PySem.W.codeIn K cd26 "_law_is_question" = true) (k26 : PySem.W.keepIn K (.ref f26) = true)
    (a27 : PySem.W.nsIn K mainGlobals "_law_due" = some (some (.ref f27))) (l27 : K.lookup f27 = some ⟨oc27, od27, .func (PySem.W.fnOf "_law_due" "_law_due" (defArgs s_l_due) (defBody s_l_due) (defScope s_l_due) .none kV27 dc27 pm27 an27 cd27 ct27), sl27⟩) (c27 : PySem.W.codeIn K cd27 "_law_due" = true) (k27 : PySem.W.keepIn K (.ref f27) = true)
    (a28 : PySem.W.nsIn K mainGlobals "_law_spoilt" = some (some (.ref f28))) (l28 : K.lookup f28 = some ⟨oc28, od28, .func (PySem.W.fnOf "_law_spoilt" "_law_spoilt" (defArgs s_l_spoilt) (defBody s_l_spoilt) (defScope s_l_spoilt) .none kV28 dc28 pm28 an28 cd28 ct28), sl28⟩) (c28 : PySem.W.codeIn K cd28 "_law_spoilt" = true) (k28 : PySem.W.keepIn K (.ref f28) = true)
    (a29 : PySem.W.nsIn K mainGlobals "law" = some (some (.ref f29))) (l29 : K.lookup f29 = some ⟨oc29, od29, .func (PySem.W.fnOf "law" "law" (defArgs s_law) (defBody s_law) (defScope s_law) .none kV29 dc29 pm29 an29 cd29 ct29), sl29⟩) (c29 : PySem.W.codeIn K cd29 "law" = true) (k29 : PySem.W.keepIn K (.ref f29) = true)
    (z0 : PySem.W.nsIn K mainGlobals "len" = some none)
    (z1 : PySem.W.nsIn K mainGlobals "range" = some none)
    (z2 : PySem.W.nsIn K mainGlobals "tuple" = some none)
    (z3 : PySem.W.nsIn K mainGlobals "list" = some none)
    (z4 : PySem.W.nsIn K mainGlobals "isinstance" = some none)
    (z5 : PySem.W.nsIn K mainGlobals "all" = some none)
    (z6 : PySem.W.nsIn K mainGlobals "str" = some none)
    (z7 : PySem.W.nsIn K mainGlobals "bool" = some none)
    (z8 : PySem.W.nsIn K mainGlobals "int" = some none)
    (z9 : PySem.W.nsIn K mainGlobals "dict" = some none)
    (z10 : PySem.W.nsIn K mainGlobals "set" = some none)
    (mc0 : PySem.W.nsIn K mainGlobals "SIGNS" = some (some (.str "abcdefghijklmnopqrstuvwxyz0123456789" t0)))
    (mc1 : PySem.W.nsIn K mainGlobals "MOST_SIGNS" = some (some (.int 8 t1)))
    (mc2 : PySem.W.nsIn K mainGlobals "MOST_TERMS" = some (some (.int 4 t2)))
    (mc3 : PySem.W.nsIn K mainGlobals "MOST_ATOMS" = some (some (.int 8 t3)))
    : ∃ fd : FuncData, (∀ (s : Shared) (v : Value), BindsTo s fd ⟨[v], []⟩ [("_law_script", v)]) ∧ ∀ base : Heap, K.In base → base.Ns mainGlobals mg → FnOk l.prog w K mg base CX0 10 fa fd ["_law_script"] (spLaw K) := by
  have e := hfa.symm.trans (PySem.W.mg_of X G a29)
  cases e
  have T : Txt K mg := ⟨PySem.W.mg_none_of X G z0, PySem.W.mg_none_of X G z1, PySem.W.mg_none_of X G z2, PySem.W.mg_none_of X G z3, PySem.W.mg_none_of X G z4, PySem.W.mg_none_of X G z5, PySem.W.mg_none_of X G z6, PySem.W.mg_none_of X G z7, PySem.W.mg_none_of X G z8, PySem.W.mg_none_of X G z9, PySem.W.mg_none_of X G z10, ⟨_, PySem.W.mg_of X G mc0⟩, ⟨_, PySem.W.mg_of X G mc1⟩, ⟨_, PySem.W.mg_of X G mc2⟩, ⟨_, PySem.W.mg_of X G mc3⟩⟩
  have F_is_value := fun_mk (st := s_is_value) l1 c1 k1
  have b_is_value := F_is_value.binds (ps := ["thing"]) fun _ _ _ _ _ _ us hl => match us, hl with | [_], _ => rfl
  have F_is_unknown := fun_mk (st := s_is_unknown) l2 c2 k2
  have b_is_unknown := F_is_unknown.binds (ps := ["thing"]) fun _ _ _ _ _ _ us hl => match us, hl with | [_], _ => rfl
  have F_is_term := fun_mk (st := s_is_term) l3 c3 k3
  have b_is_term := F_is_term.binds (ps := ["thing"]) fun _ _ _ _ _ _ us hl => match us, hl with | [_], _ => rfl
  have F_is_pair := fun_mk (st := s_is_pair) l4 c4 k4
  have b_is_pair := F_is_pair.binds (ps := ["thing"]) fun _ _ _ _ _ _ us hl => match us, hl with | [_], _ => rfl
  have F_are_terms := fun_mk (st := s_are_terms) l5 c5 k5
  have b_are_terms := F_are_terms.binds (ps := ["thing", "fewest"]) fun _ _ _ _ _ _ us hl => match us, hl with | [_, _], _ => rfl
  have F_is_atom := fun_mk (st := s_is_atom) l6 c6 k6
  have b_is_atom := F_is_atom.binds (ps := ["thing"]) fun _ _ _ _ _ _ us hl => match us, hl with | [_], _ => rfl
  have F_are_atoms := fun_mk (st := s_are_atoms) l7 c7 k7
  have b_are_atoms := F_are_atoms.binds (ps := ["thing"]) fun _ _ _ _ _ _ us hl => match us, hl with | [_], _ => rfl
  have F_is_question := fun_mk (st := s_is_question) l8 c8 k8
  have b_is_question := F_is_question.binds (ps := ["thing"]) fun _ _ _ _ _ _ us hl => match us, hl with | [_], _ => rfl
  have F_unknowns_of := fun_mk (st := s_unknowns_of) l9 c9 k9
  have b_unknowns_of := F_unknowns_of.binds (ps := ["question"]) fun _ _ _ _ _ _ us hl => match us, hl with | [_], _ => rfl
  have F_loose_unknowns := fun_mk (st := s_loose_unknowns) l10 c10 k10
  have b_loose_unknowns := F_loose_unknowns.binds (ps := ["question"]) fun _ _ _ _ _ _ us hl => match us, hl with | [_], _ => rfl
  have F_is_view := fun_mk (st := s_is_view) l11 c11 k11
  have b_is_view := F_is_view.binds (ps := ["thing"]) fun _ _ _ _ _ _ us hl => match us, hl with | [_], _ => rfl
  have F_is_view_head := fun_mk (st := s_is_view_head) l12 c12 k12
  have b_is_view_head := F_is_view_head.binds (ps := ["head"]) fun _ _ _ _ _ _ us hl => match us, hl with | [_], _ => rfl
  have F_is_views := fun_mk (st := s_is_views) l13 c13 k13
  have b_is_views := F_is_views.binds (ps := ["thing"]) fun _ _ _ _ _ _ us hl => match us, hl with | [_], _ => rfl
  have F_l_feed := fun_mk (st := s_l_feed) l14 c14 k14
  have b_l_feed := F_l_feed.binds (ps := ["_law_script", "_law_k"]) fun _ _ _ _ _ _ us hl => match us, hl with | [_, _], _ => rfl
  have F_l_draw := fun_mk (st := s_l_draw) l15 c15 k15
  have b_l_draw := F_l_draw.binds (ps := ["_law_feed_here", "_law_many"]) fun _ _ _ _ _ _ us hl => match us, hl with | [_, _], _ => rfl
  have F_l_words := fun_mk (st := s_l_words) l16 c16 k16
  have b_l_words := F_l_words.binds (ps := ["_law_feed_here", "_law_many"]) fun _ _ _ _ _ _ us hl => match us, hl with | [_, _], _ => rfl
  have F_l_atom := fun_mk (st := s_l_atom) l17 c17 k17
  have b_l_atom := F_l_atom.binds (ps := ["_law_feed_here", "_law_names", "_law_unknowns_here", "_law_values"]) fun _ _ _ _ _ _ us hl => match us, hl with | [_, _, _, _], _ => rfl
  have F_l_head := fun_mk (st := s_l_head) l18 c18 k18
  have b_l_head := F_l_head.binds (ps := ["_law_feed_here", "_law_atoms"]) fun _ _ _ _ _ _ us hl => match us, hl with | [_, _], _ => rfl
  have F_l_question := fun_mk (st := s_l_question) l19 c19 k19
  have b_l_question := F_l_question.binds (ps := ["_law_feed_here", "_law_names", "_law_most"]) fun _ _ _ _ _ _ us hl => match us, hl with | [_, _, _], _ => rfl
  have F_l_unknowns := fun_mk (st := s_l_unknowns) l20 c20 k20
  have b_l_unknowns := F_l_unknowns.binds (ps := ["_law_question_here"]) fun _ _ _ _ _ _ us hl => match us, hl with | [_], _ => rfl
  have F_l_view_question := fun_mk (st := s_l_view_question) l21 c21 k21
  have b_l_view_question := F_l_view_question.binds (ps := ["_law_feed_here", "_law_names", "_law_most"]) fun _ _ _ _ _ _ us hl => match us, hl with | [_, _, _], _ => rfl
  have F_l_views := fun_mk (st := s_l_views) l22 c22 k22
  have b_l_views := F_l_views.binds (ps := ["_law_feed_here", "_law_names", "_law_many"]) fun _ _ _ _ _ _ us hl => match us, hl with | [_, _, _], _ => rfl
  have F_l_is_value := fun_mk (st := s_l_is_value) l23 c23 k23
  have b_l_is_value := F_l_is_value.binds (ps := ["_law_thing"]) fun _ _ _ _ _ _ us hl => match us, hl with | [_], _ => rfl
  have F_l_is_term := fun_mk (st := s_l_is_term) l24 c24 k24
  have b_l_is_term := F_l_is_term.binds (ps := ["_law_thing"]) fun _ _ _ _ _ _ us hl => match us, hl with | [_], _ => rfl
  have F_l_are_terms := fun_mk (st := s_l_are_terms) l25 c25 k25
  have b_l_are_terms := F_l_are_terms.binds (ps := ["_law_thing", "_law_least_many"]) fun _ _ _ _ _ _ us hl => match us, hl with | [_, _], _ => rfl
  have F_l_is_question := fun_mk (st := s_l_is_question) l26 c26 k26
  have b_l_is_question := F_l_is_question.binds (ps := ["_law_thing"]) fun _ _ _ _ _ _ us hl => match us, hl with | [_], _ => rfl
  have F_l_due := fun_mk (st := s_l_due) l27 c27 k27
  have b_l_due := F_l_due.binds (ps := ["_law_thing"]) fun _ _ _ _ _ _ us hl => match us, hl with | [_], _ => rfl
  have F_l_spoilt := fun_mk (st := s_l_spoilt) l28 c28 k28
  have b_l_spoilt := F_l_spoilt.binds (ps := ["_law_feed_here", "_law_views_here"]) fun _ _ _ _ _ _ us hl => match us, hl with | [_, _], _ => rfl
  have F_law := fun_mk (st := s_law) l29 c29 k29
  refine ⟨PySem.W.fnOf "law" "law" (defArgs s_law) (defBody s_law) (defScope s_law) .none kV29 dc29 pm29 an29 cd29 ct29, fun s v => .of_eq rfl, fun base _ _ => ?_⟩
  have d_is_value : DefOk l.prog w K mg base 1 "is_value" ["thing"] (spIs fun _ v => valB v) := ⟨_, _, ok_is_value F_is_value T, PySem.W.mg_of X G a1, k1, b_is_value⟩
  have d_is_unknown : DefOk l.prog w K mg base 2 "is_unknown" ["thing"] (spIs fun _ v => unkB v) := ⟨_, _, ok_is_unknown F_is_unknown T ⟨d_is_value⟩, PySem.W.mg_of X G a2, k2, b_is_unknown⟩
  have d_is_term : DefOk l.prog w K mg base 3 "is_term" ["thing"] (spIs fun _ v => termB v) := ⟨_, _, ok_is_term F_is_term ⟨⟨d_is_value⟩, d_is_unknown⟩, PySem.W.mg_of X G a3, k3, b_is_term⟩
  have d_is_pair : DefOk l.prog w K mg base 1 "is_pair" ["thing"] (spIs pairB) := ⟨_, _, ok_is_pair F_is_pair T, PySem.W.mg_of X G a4, k4, b_is_pair⟩
  have d_are_terms : DefOk l.prog w K mg base 4 "are_terms" ["thing", "fewest"] spTerms := ⟨_, _, ok_are_terms F_are_terms T ⟨⟨⟨d_is_value⟩, d_is_unknown⟩, d_is_term, d_is_pair⟩, PySem.W.mg_of X G a5, k5, b_are_terms⟩
  have d_is_atom : DefOk l.prog w K mg base 5 "is_atom" ["thing"] (spIs atomB) := ⟨_, _, ok_is_atom F_is_atom ⟨⟨⟨⟨d_is_value⟩, d_is_unknown⟩, d_is_term, d_is_pair⟩, d_are_terms⟩, PySem.W.mg_of X G a6, k6, b_is_atom⟩
  have d_are_atoms : DefOk l.prog w K mg base 6 "are_atoms" ["thing"] (spIs atomsB) := ⟨_, _, ok_are_atoms F_are_atoms T ⟨⟨⟨⟨⟨d_is_value⟩, d_is_unknown⟩, d_is_term, d_is_pair⟩, d_are_terms⟩, d_is_atom⟩, PySem.W.mg_of X G a7, k7, b_are_atoms⟩
  have d_unknowns_of : DefOk l.prog w K mg base 3 "unknowns_of" ["question"] spUnks := ⟨_, _, ok_unknowns_of F_unknowns_of T ⟨⟨d_is_value⟩, d_is_unknown⟩, PySem.W.mg_of X G a9, k9, b_unknowns_of⟩
  have d_loose_unknowns : DefOk l.prog w K mg base 6 "loose_unknowns" ["question"] spLooseB := ⟨_, _, ok_loose F_loose_unknowns T ⟨⟨⟨⟨⟨⟨d_is_value⟩, d_is_unknown⟩, d_is_term, d_is_pair⟩, d_are_terms⟩, d_is_atom⟩, d_are_atoms, d_unknowns_of⟩, PySem.W.mg_of X G a10, k10, b_loose_unknowns⟩
  have d_is_question : DefOk l.prog w K mg base 7 "is_question" ["thing"] (spIs questB) := ⟨_, _, ok_is_question F_is_question T ⟨⟨⟨⟨⟨⟨⟨d_is_value⟩, d_is_unknown⟩, d_is_term, d_is_pair⟩, d_are_terms⟩, d_is_atom⟩, d_are_atoms, d_unknowns_of⟩, d_loose_unknowns⟩, PySem.W.mg_of X G a8, k8, b_is_question⟩
  have d_is_view_head : DefOk l.prog w K mg base 3 "is_view_head" ["head"] spVHead := ⟨_, _, ok_is_view_head F_is_view_head T ⟨⟨d_is_value⟩, d_is_unknown⟩, PySem.W.mg_of X G a12, k12, b_is_view_head⟩
  have d_is_view : DefOk l.prog w K mg base 8 "is_view" ["thing"] (spIs viewB) := ⟨_, _, ok_is_view F_is_view T ⟨⟨⟨⟨⟨⟨⟨⟨d_is_value⟩, d_is_unknown⟩, d_is_term, d_is_pair⟩, d_are_terms⟩, d_is_atom⟩, d_are_atoms, d_unknowns_of⟩, d_loose_unknowns⟩, d_is_question, d_is_view_head⟩, PySem.W.mg_of X G a11, k11, b_is_view⟩
  have d_is_views : DefOk l.prog w K mg base 9 "is_views" ["thing"] (spViews viewsB) := ⟨_, _, ok_is_views F_is_views T ⟨⟨⟨⟨⟨⟨⟨⟨⟨d_is_value⟩, d_is_unknown⟩, d_is_term, d_is_pair⟩, d_are_terms⟩, d_is_atom⟩, d_are_atoms, d_unknowns_of⟩, d_loose_unknowns⟩, d_is_question, d_is_view_head⟩, d_is_view⟩, PySem.W.mg_of X G a13, k13, b_is_views⟩
  have d_l_feed : DefOk l.prog w K mg base 1 "_law_feed" ["_law_script", "_law_k"] (spFeed K) := ⟨_, _, ok_feed F_l_feed T, PySem.W.mg_of X G a14, k14, b_l_feed⟩
  have d_l_draw : DefOk l.prog w K mg base 1 "_law_draw" ["_law_feed_here", "_law_many"] (spDraw K) := ⟨_, _, ok_draw F_l_draw T, PySem.W.mg_of X G a15, k15, b_l_draw⟩
  have d_l_words : DefOk l.prog w K mg base 2 "_law_words" ["_law_feed_here", "_law_many"] (spWords K) := ⟨_, _, ok_words F_l_words T ⟨d_l_draw⟩, PySem.W.mg_of X G a16, k16, b_l_words⟩
  have d_l_atom : DefOk l.prog w K mg base 2 "_law_atom" ["_law_feed_here", "_law_names", "_law_unknowns_here", "_law_values"] (spAtomD K) := ⟨_, _, ok_atomD F_l_atom T ⟨d_l_draw⟩, PySem.W.mg_of X G a17, k17, b_l_atom⟩
  have d_l_head : DefOk l.prog w K mg base 2 "_law_head" ["_law_feed_here", "_law_atoms"] (spHeadD K) := ⟨_, _, ok_headD F_l_head T ⟨d_l_draw⟩, PySem.W.mg_of X G a18, k18, b_l_head⟩
  have d_l_question : DefOk l.prog w K mg base 3 "_law_question" ["_law_feed_here", "_law_names", "_law_most"] (spQuestionD K) := ⟨_, _, ok_questionD F_l_question T ⟨⟨d_l_draw⟩, d_l_words, d_l_atom, d_l_head⟩, PySem.W.mg_of X G a19, k19, b_l_question⟩
  have d_l_unknowns : DefOk l.prog w K mg base 1 "_law_unknowns" ["_law_question_here"] spUnks := ⟨_, _, ok_unknownsL F_l_unknowns T, PySem.W.mg_of X G a20, k20, b_l_unknowns⟩
  have d_l_view_question : DefOk l.prog w K mg base 4 "_law_view_question" ["_law_feed_here", "_law_names", "_law_most"] (spViewQ K) := ⟨_, _, ok_viewQ F_l_view_question T ⟨d_l_draw, d_l_question, d_l_unknowns⟩, PySem.W.mg_of X G a21, k21, b_l_view_question⟩
  have d_l_views : DefOk l.prog w K mg base 5 "_law_views" ["_law_feed_here", "_law_names", "_law_many"] (spViewsD K) := ⟨_, _, ok_viewsD F_l_views T ⟨d_l_words, d_l_view_question⟩, PySem.W.mg_of X G a22, k22, b_l_views⟩
  have d_l_is_value : DefOk l.prog w K mg base 1 "_law_is_value" ["_law_thing"] (spIs fun _ v => valB v) := ⟨_, _, ok_isValue F_l_is_value T, PySem.W.mg_of X G a23, k23, b_l_is_value⟩
  have d_l_is_term : DefOk l.prog w K mg base 2 "_law_is_term" ["_law_thing"] (spIs fun _ v => termB v) := ⟨_, _, ok_isTerm F_l_is_term T ⟨d_l_is_value⟩, PySem.W.mg_of X G a24, k24, b_l_is_term⟩
  have d_l_are_terms : DefOk l.prog w K mg base 3 "_law_are_terms" ["_law_thing", "_law_least_many"] spTerms := ⟨_, _, ok_areTerms F_l_are_terms T ⟨⟨d_l_is_value⟩, d_l_is_term⟩, PySem.W.mg_of X G a25, k25, b_l_are_terms⟩
  have d_l_is_question : DefOk l.prog w K mg base 4 "_law_is_question" ["_law_thing"] (spIs questB) := ⟨_, _, ok_isQuestion F_l_is_question T ⟨⟨⟨d_l_is_value⟩, d_l_is_term⟩, d_l_are_terms, d_l_unknowns⟩, PySem.W.mg_of X G a26, k26, b_l_is_question⟩
  have d_l_due : DefOk l.prog w K mg base 5 "_law_due" ["_law_thing"] (spViews viewsB) := ⟨_, _, ok_due F_l_due T ⟨⟨⟨⟨d_l_is_value⟩, d_l_is_term⟩, d_l_are_terms, d_l_unknowns⟩, d_l_is_question⟩, PySem.W.mg_of X G a27, k27, b_l_due⟩
  have d_l_spoilt : DefOk l.prog w K mg base 2 "_law_spoilt" ["_law_feed_here", "_law_views_here"] (spSpoilt K) := ⟨_, _, ok_spoilt F_l_spoilt T ⟨d_l_draw⟩, PySem.W.mg_of X G a28, k28, b_l_spoilt⟩
  exact ok_law F_law T ⟨d_l_feed, d_l_draw, d_l_words, d_l_views, d_l_spoilt, d_l_due, d_is_views⟩
theorem walk {l : PySem.W.OpenLaw} {q : Program} {loose : List Str} {XP : (Str → Option Value) → Heap → Prop} {YP : World → Heap → Prop} {d : DefRec} {K : Params → PySem.W.Frag} (hn : l.most = some 63) (hdf : d.params.defaults = [])
    (hY : ∀ (w : World) (h : Heap), YP w h → (K w.params).In h)
    (F : ∀ (w : World) (mg : Str → Option Value) (fa : Addr) (h : Heap), (K w.params).In h → h.Ns mainGlobals mg → mg d.name = some (.ref fa) →
      ∃ fd : FuncData, (∀ (s : Shared) (u : Value), BindsTo s fd ⟨[u], []⟩ [("_law_script", u)]) ∧ ∀ base : Heap, (K w.params).In base → base.Ns mainGlobals mg → FnOk l.prog w (K w.params) mg base CX0 10 fa fd ["_law_script"] (spLaw (K w.params))) :
    PySem.W.WalkO q loose XP YP l.row.toRowW d [] (fun f vs => PySem.call f vs) :=
  L2.walk_of (n := 63) (k := 10) (x := "_law_script") (CX := fun _ => CX0) (sp := fun w => spLaw (K w.params)) hn (by decide) hdf ⟨rfl, by decide, by decide⟩ hY F (fun _ H a ns hl hO hS => ⟨a, ns, rfl, scr_of hO hS, hl, fun _ => rfl⟩) fun _ _ _ _ _ z => z
end K01
open PySem PySem.W PyProof.Rows
set_option maxRecDepth 100000 in
set_option maxHeartbeats 0 in
theorem PySem.Challenge.cw_askviews_k40_what_are_views_holds : PySem.Challenge.rw_askviews_k40_what_are_views.Holds := by
  w_on; o_law; k_head; (case hw => w_witness2)
  k_fill
  refine K01.walk (l := PySem.Challenge.rw_askviews_k40_what_are_views) rfl rfl (fun w h Y => PySem.W.kIn_of Y) ?F
  case F =>
    intro w mg fa h KX G hmg
    refine' K01.all_mk KX G hmg ?a1 ?l1 ?c1 ?k1 ?a2 ?l2 ?c2 ?k2 ?a3 ?l3 ?c3 ?k3 ?a4 ?l4 ?c4 ?k4 ?a5 ?l5 ?c5 ?k5 ?a6 ?l6 ?c6 ?k6 ?a7 ?l7 ?c7 ?k7 ?a8 ?l8 ?c8 ?k8 ?a9 ?l9 ?c9 ?k9 ?a10 ?l10 ?c10 ?k10 ?a11 ?l11 ?c11 ?k11 ?a12 ?l12 ?c12 ?k12 ?a13 ?l13 ?c13 ?k13 ?a14 ?l14 ?c14 ?k14 ?a15 ?l15 ?c15 ?k15 ?a16 ?l16 ?c16 ?k16 ?a17 ?l17 ?c17 ?k17 ?a18 ?l18 ?c18 ?k18 ?a19 ?l19 ?c19 ?k19 ?a20 ?l20 ?c20 ?k20 ?a21 ?l21 ?c21 ?k21 ?a22 ?l22 ?c22 ?k22 ?a23 ?l23 ?c23 ?k23 ?a24 ?l24 ?c24 ?k24 ?a25 ?l25 ?c25 ?k25 ?a26 ?l26 ?c26 ?k26 ?a27 ?l27 ?c27 ?k27 ?a28 ?l28 ?c28 ?k28 ?a29 ?l29 ?c29 ?k29 ?z0 ?z1 ?z2 ?z3 ?z4 ?z5 ?z6 ?z7 ?z8 ?z9 ?z10 ?mc0 ?mc1 ?mc2 ?mc3
    (case a1 => k_is)
    (case l1 => k_is)
    (case c1 => k_is)
    (case k1 => k_is)
    (case a2 => k_is)
    (case l2 => k_is)
    (case c2 => k_is)
    (case k2 => k_is)
    (case a3 => k_is)
    (case l3 => k_is)
    (case c3 => k_is)
    (case k3 => k_is)
    (case a4 => k_is)
    (case l4 => k_is)
    (case c4 => k_is)
    (case k4 => k_is)
    (case a5 => k_is)
    (case l5 => k_is)
    (case c5 => k_is)
    (case k5 => k_is)
    (case a6 => k_is)
    (case l6 => k_is)
    (case c6 => k_is)
    (case k6 => k_is)
    (case a7 => k_is)
    (case l7 => k_is)
    (case c7 => k_is)
    (case k7 => k_is)
    (case a8 => k_is)
    (case l8 => k_is)
    (case c8 => k_is)
    (case k8 => k_is)
    (case a9 => k_is)
    (case l9 => k_is)
    (case c9 => k_is)
    (case k9 => k_is)
    (case a10 => k_is)
    (case l10 => k_is)
    (case c10 => k_is)
    (case k10 => k_is)
    (case a11 => k_is)
    (case l11 => k_is)
    (case c11 => k_is)
    (case k11 => k_is)
    (case a12 => k_is)
    (case l12 => k_is)
    (case c12 => k_is)
    (case k12 => k_is)
    (case a13 => k_is)
    (case l13 => k_is)
    (case c13 => k_is)
    (case k13 => k_is)
    (case a14 => k_is)
    (case l14 => k_is)
    (case c14 => k_is)
    (case k14 => k_is)
    (case a15 => k_is)
    (case l15 => k_is)
    (case c15 => k_is)
    (case k15 => k_is)
    (case a16 => k_is)
    (case l16 => k_is)
    (case c16 => k_is)
    (case k16 => k_is)
    (case a17 => k_is)
    (case l17 => k_is)
    (case c17 => k_is)
    (case k17 => k_is)
    (case a18 => k_is)
    (case l18 => k_is)
    (case c18 => k_is)
    (case k18 => k_is)
    (case a19 => k_is)
    (case l19 => k_is)
    (case c19 => k_is)
    (case k19 => k_is)
    (case a20 => k_is)
    (case l20 => k_is)
    (case c20 => k_is)
    (case k20 => k_is)
    (case a21 => k_is)
    (case l21 => k_is)
    (case c21 => k_is)
    (case k21 => k_is)
    (case a22 => k_is)
    (case l22 => k_is)
    (case c22 => k_is)
    (case k22 => k_is)
    (case a23 => k_is)
    (case l23 => k_is)
    (case c23 => k_is)
    (case k23 => k_is)
    (case a24 => k_is)
    (case l24 => k_is)
    (case c24 => k_is)
    (case k24 => k_is)
    (case a25 => k_is)
    (case l25 => k_is)
    (case c25 => k_is)
    (case k25 => k_is)
    (case a26 => k_is)
    (case l26 => k_is)
    (case c26 => k_is)
    (case k26 => k_is)
    (case a27 => k_is)
    (case l27 => k_is)
    (case c27 => k_is)
    (case k27 => k_is)
    (case a28 => k_is)
    (case l28 => k_is)
    (case c28 => k_is)
    (case k28 => k_is)
    (case a29 => k_is)
    (case l29 => k_is)
    (case c29 => k_is)
    (case k29 => k_is)
    (case z0 => k_is)
    (case z1 => k_is)
    (case z2 => k_is)
    (case z3 => k_is)
    (case z4 => k_is)
    (case z5 => k_is)
    (case z6 => k_is)
    (case z7 => k_is)
    (case z8 => k_is)
    (case z9 => k_is)
    (case z10 => k_is)
    (case mc0 => k_is)
    (case mc1 => k_is)
    (case mc2 => k_is)
    (case mc3 => k_is)

