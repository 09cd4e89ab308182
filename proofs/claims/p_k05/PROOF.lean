import PyProof.Rows.All
import Wide.All
import OpenK.AllK
import Wide.FinOn
import Lean
import PyProof.EqAt
import PyProof.EqKinds
import PyProof.TupleCall
import KE.KEqDict
import KE.KSortTup
import PyProof.CollectWalk
import PyProof.FactsAll.NoneType
import PyProof.FactsAll.bool
import PyProof.ForAny
import PyProof.Logic
import PyProof.Rows.SetFrom
import PyProof.Rows.SortStr
import PyProof.Rows.StrRules
import PyProof.Seq
import PyProof.SeqWrite
import PyProof.SetKind
import PyProof.SetRoads
import PyProof.TupleKey
import PyProof.WalksS
import PySem.SetOps
import PySem.Challenge.RW_askviews_k05_tables
set_option Elab.async false
set_option linter.all false
set_option maxRecDepth 100000
namespace L2
open PySem PySem.Spec PyProof.Rows

abbrev Key := Sum Int Str
def keyIs : Key → Value → Bool
  | .inl k, v => Value.isInt k v
  | .inr x, v => Value.isStrOf x v
def keyH (w : World) : Key → Int
  | .inl k => hashInt k
  | .inr x => hashStr w x
theorem keyIs_shape : ∀ {k : Key} {v : Value}, keyIs k v = true → (∃ i t, k = Sum.inl i ∧ v = Value.int i t) ∨ (∃ x t, k = Sum.inr x ∧ v = Value.str x t)
  | .inl i, v, h => by
    obtain ⟨t, e⟩ := Value.isInt_shape (k := i) (v := v) h
    exact .inl ⟨i, t, rfl, e⟩
  | .inr x, v, h => by
    obtain ⟨t, e⟩ := Value.isStrOf_shape (x := x) (v := v) h
    exact .inr ⟨x, t, rfl, e⟩
theorem keyIs_int (i : Int) (t : Tok) : keyIs (.inl i) (.int i t) = true := by simp [keyIs, Value.isInt]
theorem keyIs_str (x : Str) (t : Tok) : keyIs (.inr x) (.str x t) = true := by simp [keyIs, Value.isStrOf]
theorem key_ll (a b : Int) : decide ((Sum.inl a : Key) = Sum.inl b) = (a == b) := by
  by_cases e : a = b
  · subst e; simp
  · have h : ¬ (Sum.inl a : Key) = Sum.inl b := fun q => e (Sum.inl.inj q)
    rw [decide_eq_false h]
    exact (beq_eq_false_iff_ne.mpr e).symm
theorem key_rr (a b : Str) : decide ((Sum.inr a : Key) = Sum.inr b) = decide (a = b) := by
  by_cases e : a = b
  · subst e; simp
  · have h : ¬ (Sum.inr a : Key) = Sum.inr b := fun q => e (Sum.inr.inj q)
    rw [decide_eq_false h, decide_eq_false e]
theorem key_lr (a : Int) (b : Str) : decide ((Sum.inl a : Key) = Sum.inr b) = false := decide_eq_false (fun q => nomatch q)
theorem key_rl (a : Str) (b : Int) : decide ((Sum.inr a : Key) = Sum.inl b) = false := decide_eq_false (fun q => nomatch q)

def mixKind (prog : Program) (w : World) : PySem.KeyKind prog w Key where
  is := keyIs
  hash := keyH w
  inj := fun v a b ha hb => by
    rcases keyIs_shape ha with ⟨i, t, rfl, rfl⟩ | ⟨x, t, rfl, rfl⟩
    · rcases keyIs_shape hb with ⟨j, u, rfl, e⟩ | ⟨y, u, rfl, e⟩
      · injection e with e1 _; rw [e1]
      · exact nomatch e
    · rcases keyIs_shape hb with ⟨j, u, rfl, e⟩ | ⟨y, u, rfl, e⟩
      · exact nomatch e
      · injection e with e1 _; rw [e1]
  byValue := fun k v h => by
    rcases keyIs_shape h with ⟨i, t, rfl, rfl⟩ | ⟨x, t, rfl, rfl⟩ <;> rfl
  pyHash := fun hv h => by
    rcases keyIs_shape hv with ⟨i, t, rfl, rfl⟩ | ⟨x, t, rfl, rfl⟩
    · exact wpAny_pyHash_int h
    · exact wpAny_pyHash_str h
  eqBool := fun hu hv h => by
    rcases keyIs_shape hu with ⟨i, t, rfl, rfl⟩ | ⟨x, t, rfl, rfl⟩
    · rcases keyIs_shape hv with ⟨j, u, rfl, rfl⟩ | ⟨y, u, rfl, rfl⟩
      · rw [key_ll] at h; exact wpAny_eqBool_int h
      · rw [key_lr] at h; exact SeqAt.EqAt.int_str i t y u _ _ _ _ h
    · rcases keyIs_shape hv with ⟨j, u, rfl, rfl⟩ | ⟨y, u, rfl, rfl⟩
      · rw [key_rl] at h; exact SeqAt.EqAt.str_int x t j u _ _ _ _ h
      · rw [key_rr] at h; exact wpAny_eqBool_str h
  «strs» := fun k x t v h => by
    rcases keyIs_shape h with ⟨i, u, rfl, e⟩ | ⟨y, u, rfl, e⟩
    · exact nomatch e
    · injection e with e1 _
      subst e1
      cases v <;> rfl

theorem mixKind_int (prog : Program) (w : World) (i : Int) (t : Tok) : (mixKind prog w).is (.inl i) (.int i t) = true := keyIs_int i t
theorem mixKind_str (prog : Program) (w : World) (x : Str) (t : Tok) : (mixKind prog w).is (.inr x) (.str x t) = true := keyIs_str x t
end L2

namespace L2
open PySem PySem.Spec PyProof.Rows

inductive V where
  | non | bl (b : Bool) | int (i : Int) | str (x : Str) | byt (b : Array UInt8) | flt (b : UInt64) | ref (a : Addr) | ty (n : String)
  deriving DecidableEq

def RelV : V → Value → Prop
  | .non, u => u = Value.none
  | .bl b, u => u = Value.bool b
  | .int i, u => ∃ t, u = Value.int i t
  | .str x, u => ∃ t, u = Value.str x t
  | .byt b, u => ∃ t, u = Value.bytes b t
  | .flt b, u => ∃ t, u = Value.float b t
  | .ref a, u => u = Value.ref a
  | .ty n, u => u = Value.type n

abbrev Vals : List V → List Value → Prop := Paired RelV
theorem Vals.length {xs : List V} {us : List Value} (r : Vals xs us) : xs.length = us.length := Paired.length r
theorem Vals.get : ∀ {xs : List V} {us : List Value} {i : Nat} {x : V}, Vals xs us → xs[i]? = some x → ∃ u, us[i]? = some u ∧ RelV x u
  | _, _, _, _, .nil, e => by simp at e
  | _, _, 0, _, .cons r _, e => by simp at e; subst e; exact ⟨_, rfl, r⟩
  | _, _, i + 1, x, .cons _ t, e => by
    obtain ⟨u, h1, h2⟩ := Vals.get (i := i) (x := x) t (by simpa using e)
    exact ⟨u, by simpa using h1, h2⟩
theorem Vals.set {x : V} {u : Value} (r : RelV x u) : ∀ {xs : List V} {us : List Value} (i : Nat), Vals xs us → Vals (xs.set i x) (us.set i u)
  | _, _, _, .nil => .nil
  | _, _, 0, .cons _ t => .cons r t
  | _, _, i + 1, .cons q t => .cons q (Vals.set r i t)
theorem Vals.append : ∀ {xs ys : List V} {us ws : List Value}, Vals xs us → Vals ys ws → Vals (xs ++ ys) (us ++ ws)
  | _, _, _, _, .nil, s => s
  | _, _, _, _, .cons r t, s => .cons r (Vals.append t s)
theorem Vals.take : ∀ {xs : List V} {us : List Value} (n : Nat), Vals xs us → Vals (xs.take n) (us.take n)
  | _, _, 0, _ => .nil
  | _, _, _ + 1, .nil => .nil
  | _, _, n + 1, .cons r t => .cons r (Vals.take n t)
theorem Vals.drop : ∀ {xs : List V} {us : List Value} (n : Nat), Vals xs us → Vals (xs.drop n) (us.drop n)
  | _, _, 0, r => r
  | _, _, _ + 1, .nil => .nil
  | _, _, n + 1, .cons _ t => Vals.drop n t
def RelO : Option V → Option Value → Prop
  | some v, some u => RelV v u
  | none, none => True
  | _, _ => False
def KV {κ : Type} : List (κ × V) → List (κ × Value) → Prop := Paired fun (p : κ × V) (q : κ × Value) => p.1 = q.1 ∧ RelV p.2 q.2

def kV : Key → V
  | .inl i => .int i
  | .inr x => .str x

inductive HO where
  /-- a list -/
  | lst (xs : List V)
  /-- a tuple (never changes) -/
  | tup (xs : List V)
  /-- a dict whose keys are ints and texts; one whose keys are tuples of ints and texts (the empty one is both) -/
  | dK (kvs : List (Key × V)) | dT (kvs : List (List Key × V))
  /-- a set of ints: its members, its size -/
  | set (S : Int → Bool) (n : Nat)
  /-- an instance of the class at C, its dict at dx, its attributes -/
  | ins (C dx : Addr) (fs : List (Str × V))
  /-- the dict of the instance at x -/
  | own (x : Addr)
  /-- the dict of an exception -/
  | xd (fs : List (Str × V))
  /-- a bound method, f of x -/
  | met (f x : Addr)
  /-- a range object lo, lo + 1, .. below hi -/
  | rng (lo hi : Int)
  /-- a thing that is known to the object (the script; a dict while a loop walks it): read, never written while it is so -/
  | frz (o : Obj) (u : HO)
  /-- a code object's table -/
  | tbl (ps : Array Value)
  /-- any other thing, by what is true of its one object (a def of one's own: SetO a S n := HO.ext fun h => ..) -/
  | ext (φ : Heap → Prop)

abbrev Hp := Addr → Option HO
def upd (H : Hp) (a : Addr) (o : HO) : Hp := fun b => if b = a then some o else H b
theorem upd_same {H : Hp} {a : Addr} {o : HO} : upd H a o a = some o := by unfold upd; rw [if_pos rfl]
theorem upd_ne {H : Hp} {a b : Addr} {o : HO} (h : b ≠ a) : upd H a o b = H b := by unfold upd; rw [if_neg h]
theorem upd_upd {H : Hp} {a : Addr} {o u : HO} : upd (upd H a o) a u = upd H a u := by
  funext b; unfold upd; split <;> rfl
theorem ne_of {H : Hp} {a b : Addr} {o u : HO} (h : H a = some o) (h' : H b = some u) (d : o ≠ u) : a ≠ b := by
  intro e; subst e; rw [h] at h'; exact d (Option.some.inj h')
theorem ne_of_none {H : Hp} {a b : Addr} {o : HO} (h : H a = some o) (h' : H b = none) : a ≠ b := by
  intro e; subst e; rw [h] at h'; cases h'

section
variable (P : Program) (w : World)
def ObjOk (H : Hp) (h : Heap) (a : Addr) : HO → Prop
  | .lst xs => xs.length ≤ sizeLine ∧ ∃ (its : List Value) (n : Nat), Vals xs its ∧ h.get? a = some { cls := .type "list", data := .seq its.toArray n }
  | .tup xs => xs.length ≤ sizeLine ∧ ∃ its : List Value, Vals xs its ∧ IsTup h a its.toArray
  | .dK kvs => kvs.length ≤ sizeLine ∧ (a == sysModules) = false ∧ ∃ vs, KV kvs vs ∧ h.DictOf (mixKind P w) a vs
  | .dT kvs => kvs.length ≤ sizeLine ∧ (a == sysModules) = false ∧ ∃ xs : List (List Key × Addr × Value),
      Paired (fun (p : List Key × V) (q : List Key × Addr × Value) => p.1 = q.1 ∧ H q.2.1 = some (.tup (p.1.map kV)) ∧ RelV p.2 q.2.2) kvs xs ∧
      ∃ o es ep, h.get? a = some o ∧ o.ExactDict ∧ o.data = .dict es ep ∧ es.toList = xs.map (entryOfKey (tupleKind (mixKind P w))) ∧ (xs.map (·.1)).Nodup
  | .set S n => h.SetOf (intKind P w) a S n
  | .ins C dx fs => H dx = some (.own a) ∧ fs.length ≤ 1000 ∧ dx ≠ a ∧ h.get? a = some (PySem.W.instObj C dx) ∧
      ∃ mA, h.Ns1 dx mA ∧ (∀ f, RelO (fs.lookup f) (mA f)) ∧ PySem.Within mA (fs.map (·.1))
  | .own _ => ∃ o, h.get? a = some o
  | .xd fs => ∃ mA, h.Ns1 a mA ∧ ∀ f, RelO (fs.lookup f) (mA f)
  | .rng lo hi => ∃ t u v, h.get? a = some { cls := .type "range", data := .fields #[.int lo t, .int hi u, .int 1 v] }
  | .frz o u => h.get? a = some o ∧ ObjOk H h a u
  | .tbl ps => h.get? a = some { cls := .none, data := .fields ps }
  | .met f x => h.get? a = some (PySem.W.methodObj (.ref f) (.ref x))
  | .ext φ => φ h ∧ (∃ o, h.get? a = some o) ∧ ∀ h1 h2 : Heap, φ h1 → (∀ o, h1.get? a = some o → h2.get? a = some o) → φ h2
def HOk (H : Hp) (h : Heap) : Prop := ∀ a o, H a = some o → ObjOk P w H h a o
end

section
variable {P : Program} {w : World} {H H' : Hp} {h h' : Heap} {a : Addr} {o : HO}
theorem ObjOk.lt (x : ObjOk P w H h a o) : a < h.objs.size := by
  cases o with
  | lst xs => obtain ⟨_, _, _, _, e⟩ := x; exact Heap.lt_size e
  | tup xs => obtain ⟨_, _, _, p⟩ := x; exact p.lt
  | dK kvs => obtain ⟨_, _, _, _, o, _, _, e, _⟩ := x; exact Heap.lt_size e
  | dT kvs => obtain ⟨_, _, _, _, o, _, _, e, _⟩ := x; exact Heap.lt_size e
  | set S n => obtain ⟨o, _, _, _, e, _⟩ := x; exact Heap.lt_size e
  | ins C dx fs => obtain ⟨_, _, _, e, _⟩ := x; exact Heap.lt_size e
  | own y => obtain ⟨_, e⟩ := x; exact Heap.lt_size e
  | xd fs => obtain ⟨_, ⟨_, _, _, e, _⟩, _⟩ := x; exact Heap.lt_size e
  | rng lo hi => obtain ⟨_, _, _, e⟩ := x; exact Heap.lt_size e
  | frz ob u => obtain ⟨e, _⟩ := x; exact Heap.lt_size e
  | tbl ps => exact Heap.lt_size (show h.get? a = some _ from x)
  | met f y => exact Heap.lt_size (show h.get? a = some _ from x)
  | ext φ => obtain ⟨_, ⟨_, e⟩, _⟩ := x; exact Heap.lt_size e
theorem Paired.mapP {α β : Type} {F G : α → β → Prop} : ∀ {l₁ : List α} {l₂ : List β}, Paired F l₁ l₂ → (∀ a b, F a b → G a b) → Paired G l₁ l₂
  | _, _, .nil, _ => .nil
  | _, _, .cons r t, f => .cons (f _ _ r) (Paired.mapP t f)
theorem ObjOk.stay (x : ObjOk P w H h a o) (k : ∀ b u, (b = a ∨ H b = some (.own a)) → h.get? b = some u → h'.get? b = some u)
    (ho : ∀ b, H b = some (.own a) → H' b = some (.own a)) (ht : ∀ b xs, H b = some (.tup xs) → H' b = some (.tup xs)) : ObjOk P w H' h' a o := by
  induction o with
  | lst xs => obtain ⟨z, its, n, r, e⟩ := x; exact ⟨z, its, n, r, k _ _ (.inl rfl) e⟩
  | tup xs => obtain ⟨z, its, r, ob, e, c⟩ := x; exact ⟨z, its, r, ob, k _ _ (.inl rfl) e, c⟩
  | dK kvs => obtain ⟨z, y, vs, r, ob, es, ep, e, c⟩ := x; exact ⟨z, y, vs, r, ob, es, ep, k _ _ (.inl rfl) e, c⟩
  | dT kvs =>
    obtain ⟨z, y, xs, r, ob, es, ep, e, c⟩ := x
    exact ⟨z, y, xs, Paired.mapP r fun p q z => ⟨z.1, ht _ _ z.2.1, z.2.2⟩, ob, es, ep, k _ _ (.inl rfl) e, c⟩
  | set S n => obtain ⟨ob, es, ep, t, e, c⟩ := x; exact ⟨ob, es, ep, t, k _ _ (.inl rfl) e, c⟩
  | ins C dx fs =>
    obtain ⟨d, z, ne, e, mA, ⟨od, es, ep, e2, c⟩, r⟩ := x
    exact ⟨ho _ d, z, ne, k _ _ (.inl rfl) e, mA, ⟨od, es, ep, k _ _ (.inr d) e2, c⟩, r⟩
  | own y => obtain ⟨ob, e⟩ := x; exact ⟨ob, k _ _ (.inl rfl) e⟩
  | xd fs => obtain ⟨mA, ⟨od, es, ep, e, c⟩, r⟩ := x; exact ⟨mA, ⟨od, es, ep, k _ _ (.inl rfl) e, c⟩, r⟩
  | rng lo hi => obtain ⟨t, u, v, e⟩ := x; exact ⟨t, u, v, k _ _ (.inl rfl) e⟩
  | frz ob u ih => obtain ⟨e, q⟩ := x; exact ⟨k _ _ (.inl rfl) e, ih q⟩
  | tbl ps =>
    have e : h.get? a = some { cls := .none, data := .fields ps } := x
    show h'.get? a = some { cls := .none, data := .fields ps }
    exact k a _ (.inl rfl) e
  | met f y =>
    have e : h.get? a = some (PySem.W.methodObj (.ref f) (.ref y)) := x
    show h'.get? a = some (PySem.W.methodObj (.ref f) (.ref y))
    exact k a _ (.inl rfl) e
  | ext φ => obtain ⟨p, ⟨o, e⟩, st⟩ := x; exact ⟨st _ _ p fun o q => k _ _ (.inl rfl) q, ⟨o, k _ _ (.inl rfl) e⟩, st⟩
theorem HOk.lt (x : HOk P w H h) (e : H a = some o) : a < h.objs.size := (x a o e).lt
theorem HOk.fresh (x : HOk P w H h) (e : h.objs.size ≤ a) : H a = none := by
  cases q : H a with
  | none => rfl
  | some u => exact absurd (Nat.lt_of_lt_of_le (x.lt q) e) (Nat.lt_irrefl _)
theorem HOk.kept (x : HOk P w H h) (k : ∀ b u, h.get? b = some u → h'.get? b = some u) : HOk P w H h' := fun a o e =>
  (x a o e).stay (fun b u _ q => k b u q) (fun _ q => q) fun _ _ q => q
theorem HOk.laid (x : HOk P w H h) (k : ∀ b u, h.get? b = some u → h'.get? b = some u) (hp : h.objs.size ≤ a) (new : ObjOk P w (upd H a o) h' a o) : HOk P w (upd H a o) h' := fun b u e => by
  have hn := x.fresh hp
  by_cases hb : b = a
  · subst hb; rw [upd_same] at e; cases e; exact new
  · rw [upd_ne hb] at e
    exact (x b u e).stay (fun c v _ q => k c v q) (fun c q => by rw [upd_ne (ne_of_none q hn)]; exact q) fun c xs q => by rw [upd_ne (ne_of_none q hn)]; exact q
end

def Rd (H : Hp) (a : Addr) (u : HO) : Prop := H a = some u ∨ ∃ o, H a = some (.frz o u)
theorem Rd.ok {P : Program} {w : World} {H : Hp} {h : Heap} {a : Addr} {u : HO} (r : Rd H a u) (x : HOk P w H h) : ObjOk P w H h a u := by
  rcases r with r | ⟨o, r⟩
  · exact x a u r
  · obtain ⟨_, q⟩ := x a _ r
    exact q
def Mut : Option HO → Prop
  | some (.lst _) => True
  | some (.dK _) => True
  | some (.dT _) => True
  | some (.set _ _) => True
  | some (.ins _ _ _) => True
  | some (.ext _) => True
  | _ => False
section
variable {P : Program} {w : World} {H : Hp} {h h' : Heap} {x e : Addr} {o' : HO}
theorem HOk.write (ok : HOk P w H h) (mu : Mut (H x)) (he : e = x ∨ H e = some (.own x)) (k : ∀ b u, b ≠ e → h.get? b = some u → h'.get? b = some u) (heo : ∃ u, h'.get? e = some u)
    (new : ObjOk P w (upd H x o') h' x o') : HOk P w (upd H x o') h' := fun b u q => by
  have nown : ∀ c y, H c = some (.own y) → c ≠ x := fun c y r z => by subst z; rw [r] at mu; exact mu
  have ntup : ∀ c xs, H c = some (.tup xs) → c ≠ x := fun c xs r z => by subst z; rw [r] at mu; exact mu
  by_cases hb : b = x
  · subst hb; rw [upd_same] at q; cases q; exact new
  · rw [upd_ne hb] at q
    by_cases hbe : b = e
    · have q' : H b = some (.own x) := by
        rcases he with z | z
        · exact absurd (hbe.trans z) hb
        · rw [hbe]; exact z
      rw [q] at q'; cases q'
      obtain ⟨v, hv⟩ := heo
      exact ⟨v, by rw [hbe]; exact hv⟩
    · refine (ok b u q).stay (fun c v hc r => k c v ?_ r) (fun c r => by rw [upd_ne (nown c b r)]; exact r) fun c xs r => by rw [upd_ne (ntup c xs r)]; exact r
      rcases hc with rfl | hc
      · exact hbe
      · rintro rfl
        rcases he with z | z
        · exact nown c b hc z
        · rw [hc] at z; cases z; exact hb rfl
end

structure Un (fs ex : List Addr) (H H' : Hp) (h h' : Heap) : Prop where
  keep : ∀ b o, h.get? b = some o → H b = none → b ∉ fs → b ∉ ex → h'.get? b = some o
  slot : ∀ b o, h.get? b = some o → H b = none → b ∈ fs → b ∉ ex → ∃ sl, h'.get? b = some { o with slots := sl }
  free : ∀ b o, h.get? b = some o → H b = none → b ∉ ex → H' b = none
  there : ∀ b o, h.get? b = some o → b ∉ ex → ∃ o', h'.get? b = some o'
  tups : ∀ b xs, H b = some (.tup xs) → H' b = some (.tup xs)
  frzs : ∀ b o u, H b = some (.frz o u) → H' b = some (.frz o u)
  tbls : ∀ b ps, H b = some (.tbl ps) → ∃ more, H' b = some (.tbl (ps ++ more))
section
variable {fs fs' ex ex' : List Addr} {H H1 H2 : Hp} {h h1 h2 h' : Heap} {a x e : Addr} {o : HO}
theorem Un.any (u : Un fs ex H H1 h h1) {b : Addr} {ob : Obj} (q : h.get? b = some ob) (n : H b = none) (hx : b ∉ ex) : ∃ sl, h1.get? b = some { ob with slots := sl } := by
  by_cases hb : b ∈ fs
  · exact u.slot b ob q n hb hx
  · exact ⟨ob.slots, u.keep b ob q n hb hx⟩
theorem Un.kept (k : ∀ b u, h.get? b = some u → h'.get? b = some u) : Un fs ex H H h h' :=
  ⟨fun b ob q _ _ _ => k b ob q, fun b ob q _ _ _ => ⟨ob.slots, k b ob q⟩, fun _ _ _ n _ => n, fun b ob q _ => ⟨ob, k b ob q⟩, fun _ _ q => q, fun _ _ _ q => q, fun _ ps q => ⟨#[], by rw [q]; simp⟩⟩
theorem Un.refl : Un fs ex H H h h := Un.kept fun _ _ q => q
theorem Un.laid (k : ∀ b u, h.get? b = some u → h'.get? b = some u) (hp : h.objs.size ≤ a) (hn : H a = none) : Un fs ex H (upd H a o) h h' where
  keep := fun b u q _ _ _ => k b u q
  slot := fun b u q _ _ _ => ⟨u.slots, k b u q⟩
  free := fun b u q n _ => by rw [upd_ne (Nat.ne_of_lt (Nat.lt_of_lt_of_le (Heap.lt_size q) hp))]; exact n
  there := fun b u q _ => ⟨u, k b u q⟩
  tups := fun b xs q => by rw [upd_ne (ne_of_none q hn)]; exact q
  frzs := fun b u xs q => by rw [upd_ne (ne_of_none q hn)]; exact q
  tbls := fun b ps q => ⟨#[], by rw [upd_ne (ne_of_none q hn), q]; simp⟩
theorem Un.write (mu : Mut (H x)) (he : e = x ∨ H e = some (.own x)) (k : ∀ b u, b ≠ e → h.get? b = some u → h'.get? b = some u) (heo : ∃ u, h'.get? e = some u) : Un fs ex H (upd H x o) h h' := by
  have hx : ∀ b, H b = none → b ≠ x := fun b n z => by subst z; rw [n] at mu; exact mu
  have hb : ∀ b, H b = none → b ≠ e := fun b n z => by
    subst z
    rcases he with r | r
    · exact hx b n r
    · rw [n] at r; cases r
  have hm : ∀ b u, H b = some u → ¬ Mut (some u) → b ≠ x := fun b u q nm z => by subst z; rw [q] at mu; exact nm mu
  refine ⟨fun b u q n _ _ => k b u (hb b n) q, fun b u q n _ _ => ⟨u.slots, k b u (hb b n) q⟩, fun b u q n _ => by rw [upd_ne (hx b n)]; exact n, fun b u q _ => ?_,
    fun b xs q => by rw [upd_ne (hm b _ q fun z => z)]; exact q, fun b u xs q => by rw [upd_ne (hm b _ q fun z => z)]; exact q, fun b ps q => ⟨#[], by rw [upd_ne (hm b _ q fun z => z), q]; simp⟩⟩
  by_cases hbe : b = e
  · subst hbe; exact heo
  · exact ⟨u, k b u hbe q⟩
end

def trk (h : Heap) (H : Hp) : List Addr := (List.range h.objs.size).filter fun a => (H a).isSome
def hidT (h : Heap) (H : Hp) : Heap := PySem.W.hideAll h (trk h H)
theorem hidT_size (h : Heap) (H : Hp) : (hidT h H).objs.size = h.objs.size := PySem.W.hideAll_size _ _
theorem hidT_get {h : Heap} {H : Hp} {b : Addr} {o : Obj} (e : h.get? b = some o) (n : H b = none) : (hidT h H).get? b = some o :=
  PySem.W.hideAll_get _ e fun hm => by
    have q : (H b).isSome = true := (List.mem_filter.mp hm).2
    rw [n] at q; simp at q
theorem of_hidT {h : Heap} {H : Hp} {b : Addr} {o : Obj} (e : (hidT h H).get? b = some o) : h.get? b = some o ∧ H b = none := by
  have e' : h.get? b = some o := PySem.W.of_hideAll (trk h H) e
  refine ⟨e', ?_⟩
  cases q : H b with
  | none => rfl
  | some x =>
    have hm : b ∈ trk h H := List.mem_filter.mpr ⟨List.mem_range.mpr (Heap.lt_size e'), by simp [q]⟩
    have z : (hidT h H).get? b = none := PySem.W.hideAll_none (trk h H) hm
    rw [z] at e; cases e

def allNews (g h : Heap) (L : Addr) : List (Addr × Obj) := (List.range h.objs.size).filterMap fun a => if a = L ∨ (g.get? a).isSome = true then none else (h.get? a).map fun o => (a, o)
def rest (g h : Heap) (L d : Addr) : List (Addr × Obj) := (allNews g h L).filter fun p => decide (p.1 ≠ d)
end L2

namespace L2
open PySem PySem.Spec PyProof.Rows

structure Mod (K : PySem.W.Frag) (mg : Str → Option Value) (base : Heap) : Prop where
  kin : K.In base
  glob : base.Ns mainGlobals mg
  blt : ∃ mb, base.Ns builtinsNs mb ∧ ∀ x : Str, x ≠ "__name__" → mb x = bootBuiltins x
  nolimit : base.NoLimit

structure Cx where
  prog : Program
  w : World
  K : PySem.W.Frag
  mg : Str → Option Value
  base : Heap
  A : Around
  N : List Str
  s₀ : Shared
  H₀ : Hp
  env : Env
  outer : List Env
  stack : List Env
  ex : List Addr
  fn : Str → Bool
  calm : Bool
  pn : List (Addr × Obj)
  xe : Value → Shared → Prop
def frs (l : List Env) : List Addr := l.filterMap (·.frame)
abbrev Cx.fs (X : Cx) : List Addr := frs X.outer

def Vis (sc : Scope) (x : Str) : Prop := sc.names.lookup x = some .local ∨ sc.names.lookup x = some .cell ∨ sc.names.lookup x = some .free
def Loc (sc : Scope) (x : Str) : Prop := sc.names.lookup x = some .local ∨ sc.names.lookup x = some .cell
def Look (env : Env) (h : Heap) (m : Str → Option Value) (x : Str) (u : Value) : Prop :=
  (env.kindOf x = some .local ∧ m x = some u) ∨ ((env.kindOf x = some .cell ∨ env.kindOf x = some .free) ∧ ∃ c, env.cells.lookup x = some c ∧ h.IsCell c (some u))

structure Cx.Ok (X : Cx) : Prop where
  mod : Mod X.K X.mg X.base
  kind : X.env.scope.kind = .function
  glob : X.env.globals = mainGlobals
  blt : X.env.builtins = builtinsNs
  above : X.s₀.heap.objs.size ≤ X.env.locals
  inj : ∀ x y c, X.env.cells.lookup x = some c → X.env.cells.lookup y = some c → x = y
  has : ∀ x, (X.env.kindOf x = some .cell ∨ X.env.kindOf x = some .free) → ∃ c, X.env.cells.lookup x = some c
  cab : ∀ x c, X.fn x = true → X.env.cells.lookup x = some c → X.s₀.heap.objs.size ≤ c
  hd : X.calm = true → X.A.handled = none
  frames : X.A.frames = some X.stack
  stk : X.stack = X.outer ∨ (X.stack = X.env :: X.outer ∧ X.env.frame = some X.env.locals)
  exf : ∀ b ∈ X.ex, b ≠ X.env.locals ∧ ∀ x c, X.env.cells.lookup x = some c → c ≠ b
  bs : ∀ b o, X.base.get? b = some o → X.s₀.heap.get? b = some o ∧ X.H₀ b = none
  bsz : X.base.objs.size ≤ X.s₀.heap.objs.size
  noex : ∀ b o, X.base.get? b = some o → b ∉ X.ex
  exfs : ∀ b ∈ X.ex, b ∉ X.fs
  funs : X.s₀.heap.FunFrames X.base X.outer
  frf : ∀ b ∈ X.fs, X.H₀ b = none

structure Inv (X : Cx) (pins : List (Addr × Obj)) (σ : List (Option V)) (H : Hp) (s : Shared) : Prop where
  ok : X.Ok
  os : s.os = X.s₀.os
  bare : AllBare s.gens
  base : Un X.fs X.ex X.H₀ H X.s₀.heap s.heap
  loc : ∃ m, s.heap.Ns X.env.locals m ∧ ∀ (i : Nat) (x : Str) (v : V), X.N[i]? = some x → σ[i]? = some (some v) → Vis X.env.scope x → ∃ u, RelV v u ∧ Look X.env s.heap m x u
  cell : ∀ x c, X.env.cells.lookup x = some c → ∃ v, s.heap.IsCell c v
  free : H X.env.locals = none
  freeC : ∀ x c, X.env.cells.lookup x = some c → H c = none
  pin : ∀ p ∈ X.pn ++ pins, s.heap.get? p.1 = some p.2 ∧ H p.1 = none ∧ p.1 ≠ X.env.locals ∧ p.1 ∉ X.fs ∧ ∀ v, p.2.data ≠ .cell v
  hok : HOk X.prog X.w H s.heap
  len : σ.length = X.N.length

section
variable {X : Cx} {pins : List (Addr × Obj)} {σ : List (Option V)} {H H' : Hp} {s : Shared} {h' : Heap}

theorem Cx.Ok.nofr (ok : X.Ok) {b : Addr} {o : Obj} (e : X.base.get? b = some o) : b ∉ X.fs := fun hb => by
  have := (ok.funs.mem hb).1
  rw [e] at this; cases this
theorem Inv.bs (I : Inv X pins σ H s) : ∀ b o, X.base.get? b = some o → s.heap.get? b = some o ∧ H b = none := fun b o e =>
  ⟨I.base.keep b o (I.ok.bs b o e).1 (I.ok.bs b o e).2 (I.ok.nofr e) (I.ok.noex b o e), I.base.free b o (I.ok.bs b o e).1 (I.ok.bs b o e).2 (I.ok.noex b o e)⟩
theorem Inv.bk (I : Inv X pins σ H s) : ∀ b o, X.base.get? b = some o → s.heap.get? b = some o := fun b o e => (I.bs b o e).1
theorem Inv.mod (I : Inv X pins σ H s) : Mod X.K X.mg X.base := I.ok.mod
theorem Inv.kIn (I : Inv X pins σ H s) : X.K.In s.heap := I.ok.mod.kin.keeps I.bk
theorem Inv.lt (I : Inv X pins σ H s) : X.env.locals < s.heap.objs.size := let ⟨_, hn, _⟩ := I.loc; hn.lt
theorem Inv.sz (I : Inv X pins σ H s) : X.s₀.heap.objs.size ≤ s.heap.objs.size := Nat.le_trans I.ok.above (Nat.le_of_lt I.lt)
theorem Inv.nofs (I : Inv X pins σ H s) {a : Addr} (h : s.heap.objs.size ≤ a) : a ∉ X.fs := fun hb => by
  obtain ⟨_, o, ho, _⟩ := I.ok.funs.mem hb
  exact absurd (Nat.lt_of_lt_of_le (Heap.lt_size ho) (Nat.le_trans I.sz h)) (Nat.lt_irrefl _)
theorem Inv.cne (I : Inv X pins σ H s) : ∀ x c, X.env.cells.lookup x = some c → c ≠ X.env.locals := fun x c e z => by
  obtain ⟨v, o, ho, hd⟩ := I.cell x c e
  obtain ⟨m, ⟨o', es, ep, ho', hd', _⟩, _⟩ := I.loc
  rw [z, ho'] at ho; cases ho; rw [hd'] at hd; cases hd
theorem Inv.funs (I : Inv X pins σ H s) : s.heap.FunFrames X.base X.outer := by
  have all : ∀ (l : List Env), (∀ b ∈ frs l, b ∈ X.fs) → X.s₀.heap.FunFrames X.base l → s.heap.FunFrames X.base l := by
    intro l
    induction l with
    | nil => intro _ _; trivial
    | cons env r ih =>
      intro hs hl
      obtain ⟨hk, ⟨L, o, hf, hn, ho, hd⟩, hr⟩ := hl
      have hL : L ∈ X.fs := hs L (by unfold frs; rw [List.filterMap_cons, hf]; exact List.mem_cons_self)
      obtain ⟨sl, e⟩ := I.base.slot L o ho (I.ok.frf L hL) hL fun z => I.ok.exfs L z hL
      exact ⟨hk, ⟨L, _, hf, hn, e, hd⟩, ih (fun b hb => hs b (by unfold frs; rw [List.filterMap_cons, hf]; exact List.mem_cons_of_mem _ hb)) hr⟩
  exact all X.outer (fun _ hb => hb) I.ok.funs

theorem Inv.stack (I : Inv X pins σ H s) : s.heap.FunFrames X.base X.stack := by
  rcases I.ok.stk with e | ⟨e, hf⟩
  · rw [e]; exact I.funs
  · rw [e]
    obtain ⟨m, hn, _⟩ := I.loc
    refine .cons (by rw [I.ok.kind]; decide) hf hn ?_ I.funs
    exact Heap.get?_none_of_le (Nat.le_trans I.ok.bsz I.ok.above)
theorem Inv.stkSub (I : Inv X pins σ H s) : ∀ b ∈ frs X.stack, b ∈ X.env.locals :: X.fs := fun b hb => by
  rcases I.ok.stk with e | ⟨e, hf⟩
  · rw [e] at hb; exact List.mem_cons_of_mem _ hb
  · rw [e] at hb
    unfold frs at hb
    rw [List.filterMap_cons, hf] at hb
    exact hb
theorem Inv.stkFree (I : Inv X pins σ H s) : ∀ b ∈ frs X.stack, H b = none := fun b hb => by
  rcases List.mem_cons.mp (I.stkSub b hb) with e | hb
  · rw [e]; exact I.free
  · obtain ⟨_, o, ho, _⟩ := I.ok.funs.mem hb
    exact I.base.free b o ho (I.ok.frf b hb) fun z => I.ok.exfs b z hb

theorem Inv.step {g' : Array GenState} {t' : Nat} {d' : Drawn} {ch : List Addr} (I : Inv X pins σ H s)
    (hch : ∀ b ∈ ch, (b ∈ X.ex ∨ X.s₀.heap.objs.size ≤ b) ∧ b ≠ X.env.locals ∧ (∀ x c, X.env.cells.lookup x = some c → c ≠ b) ∧ ∀ p ∈ X.pn ++ pins, p.1 ≠ b)
    (keep : ∀ b o, b ≠ X.env.locals → b ∉ X.fs → b ∉ ch → s.heap.get? b = some o → H b = none → h'.get? b = some o)
    (slot : ∀ b o, b ≠ X.env.locals → b ∈ X.fs → b ∉ ch → s.heap.get? b = some o → H b = none → ∃ sl, h'.get? b = some { o with slots := sl }) (free : ∀ b o, b ∉ ch → s.heap.get? b = some o → H b = none → H' b = none)
    (there : ∀ b o, b ∉ ch → s.heap.get? b = some o → ∃ o', h'.get? b = some o')
    (tups : ∀ b xs, H b = some (.tup xs) → H' b = some (.tup xs)) (frzs : ∀ b o u, H b = some (.frz o u) → H' b = some (.frz o u)) (tbls : ∀ b ps, H b = some (.tbl ps) → ∃ more, H' b = some (.tbl (ps ++ more)))
    (ns : ∀ m, s.heap.Ns X.env.locals m → h'.Ns X.env.locals m) (hok : HOk X.prog X.w H' h') (hg : AllBare g') :
    Inv X pins σ H' { s with heap := h', gens := g', drawn := d', toks := t' } := by
  have neL : ∀ b o, X.s₀.heap.get? b = some o → b ≠ X.env.locals := fun b o e => Nat.ne_of_lt (Nat.lt_of_lt_of_le (Heap.lt_size e) I.ok.above)
  have neC : ∀ b o, X.s₀.heap.get? b = some o → b ∉ X.ex → b ∉ ch := fun b o e hx hb => by
    rcases (hch b hb).1 with z | z
    · exact hx z
    · exact absurd (Nat.lt_of_lt_of_le (Heap.lt_size e) z) (Nat.lt_irrefl _)
  have cellK : ∀ x c, X.env.cells.lookup x = some c → ∀ v, s.heap.IsCell c v → h'.IsCell c v := fun x c e v ⟨o, ho, hd⟩ => by
    have nch : c ∉ ch := fun z => (hch c z).2.2.1 x c e rfl
    by_cases hc : c ∈ X.fs
    · obtain ⟨sl, q⟩ := slot c o (I.cne x c e) hc nch ho (I.freeC x c e)
      exact ⟨_, q, hd⟩
    · exact ⟨o, keep c o (I.cne x c e) hc nch ho (I.freeC x c e), hd⟩
  refine ⟨I.ok, I.os, hg, ⟨fun b o e n hb hx => ?_, fun b o e n hb hx => ?_, fun b o e n hx => ?_, fun b o e hx => ?_, fun b xs e => tups b xs (I.base.tups b xs e), fun b o xs e => frzs b o xs (I.base.frzs b o xs e), fun b ps e => ?_⟩, ?_, fun x c e => ?_, ?_, fun x c e => ?_, fun p hp => ?_, hok, I.len⟩
  · exact keep b o (neL b o e) hb (neC b o e hx) (I.base.keep b o e n hb hx) (I.base.free b o e n hx)
  · obtain ⟨sl, e1⟩ := I.base.slot b o e n hb hx
    obtain ⟨sl', e2⟩ := slot b _ (neL b o e) hb (neC b o e hx) e1 (I.base.free b o e n hx)
    exact ⟨sl', e2⟩
  · obtain ⟨o', e1⟩ := I.base.there b o e hx
    exact free b o' (neC b o e hx) e1 (I.base.free b o e n hx)
  · obtain ⟨o', e1⟩ := I.base.there b o e hx
    exact there b o' (neC b o e hx) e1
  · obtain ⟨m1, e1⟩ := I.base.tbls b ps e
    obtain ⟨m2, e2⟩ := tbls b _ e1
    exact ⟨m1 ++ m2, by rw [e2, Array.append_assoc]⟩
  · obtain ⟨m, hn, hl⟩ := I.loc
    refine ⟨m, ns m hn, fun i x v e1 e2 e3 => ?_⟩
    obtain ⟨u, r, l⟩ := hl i x v e1 e2 e3
    refine ⟨u, r, ?_⟩
    rcases l with l | ⟨k, c, e, z⟩
    · exact .inl l
    · exact .inr ⟨k, c, e, cellK x c e _ z⟩
  · obtain ⟨v, z⟩ := I.cell x c e
    exact ⟨v, cellK x c e v z⟩
  · obtain ⟨m, ⟨o, _, _, ho, _⟩, _⟩ := I.loc
    exact free _ o (fun z => (hch _ z).2.1 rfl) ho I.free
  · obtain ⟨v, o, ho, hd⟩ := I.cell x c e
    exact free c o (fun z => (hch c z).2.2.1 x c e rfl) ho (I.freeC x c e)
  · obtain ⟨e, n, ne, nf, d⟩ := I.pin p hp
    have nch : p.1 ∉ ch := fun z => (hch p.1 z).2.2.2 p hp rfl
    exact ⟨keep p.1 p.2 ne nf nch e n, free p.1 p.2 nch e n, ne, nf, d⟩
theorem Inv.un {t' : Nat} (I : Inv X pins σ H s) (u : Un X.fs [] H H' s.heap h') (hok : HOk X.prog X.w H' h') : Inv X pins σ H' { s with heap := h', toks := t' } := by
  obtain ⟨m, ⟨o, es, ep, ho, r⟩, _⟩ := id I.loc
  obtain ⟨sl, hL⟩ := u.any ho I.free (by simp)
  exact I.step (g' := s.gens) (d' := s.drawn) (ch := []) (fun _ z => nomatch z) (fun b o _ hb _ e n => u.keep b o e n hb (by simp)) (fun b o _ hb _ e n => u.slot b o e n hb (by simp)) (fun b o _ e n => u.free b o e n (by simp)) (fun b o _ e => u.there b o e (by simp)) u.tups u.frzs u.tbls (fun m' hm => by
    obtain ⟨o', es', ep', ho', r'⟩ := hm
    rw [ho] at ho'; cases ho'
    exact ⟨_, es', ep', hL, r'⟩) hok I.bare
theorem Inv.call {g' : Array GenState} {t' : Nat} {d' : Drawn} {ch : List Addr} (I : Inv X pins σ H s) (u : Un (frs X.stack) ch H H' s.heap h') (hok : HOk X.prog X.w H' h') (hg : AllBare g')
    (hch : ∀ b ∈ ch, (b ∈ X.ex ∨ X.s₀.heap.objs.size ≤ b) ∧ b ≠ X.env.locals ∧ (∀ x c, X.env.cells.lookup x = some c → c ≠ b) ∧ ∀ p ∈ X.pn ++ pins, p.1 ≠ b) :
    Inv X pins σ H' { s with heap := h', gens := g', drawn := d', toks := t' } := by
  obtain ⟨m, ⟨o, es, ep, ho, r⟩, _⟩ := id I.loc
  obtain ⟨sl, hL⟩ := u.any ho I.free fun z => (hch _ z).2.1 rfl
  exact I.step (ch := ch) hch (fun b o hL hb hc e n => u.keep b o e n (fun z => (List.mem_cons.mp (I.stkSub b z)).elim hL hb) hc) (fun b o _ _ hc e n => u.any e n hc) (fun b o hc e n => u.free b o e n hc) (fun b o hc e => u.there b o e hc) u.tups u.frzs u.tbls (fun m' hm => by
    obtain ⟨o', es', ep', ho', r'⟩ := hm
    rw [ho] at ho'; cases ho'
    exact ⟨_, es', ep', hL, r'⟩) hok hg
theorem Inv.turned {t' : Nat} {it : Addr} (I : Inv X pins σ H s) (k : ∀ b o, b ≠ it → s.heap.get? b = some o → h'.get? b = some o) (hn : H it = none) (hL : it ≠ X.env.locals)
    (h1 : it ∈ X.ex ∨ X.s₀.heap.objs.size ≤ it) (h2 : ∀ x c, X.env.cells.lookup x = some c → c ≠ it) (h3 : ∀ p ∈ X.pn ++ pins, p.1 ≠ it) : Inv X pins σ H { s with heap := h', toks := t' } := by
  have nit : ∀ b u, H b = some u → b ≠ it := fun b u e z => by rw [z, hn] at e; cases e
  refine I.step (g' := s.gens) (d' := s.drawn) (ch := [it]) (fun b hb => ?_) (fun b o _ _ hc e _ => k b o (fun z => hc (by simp [z])) e) (fun b o _ _ hc e _ => ⟨o.slots, k b o (fun z => hc (by simp [z])) e⟩) (fun _ _ _ _ n => n)
    (fun b o hc e => ⟨o, k b o (fun z => hc (by simp [z])) e⟩) (fun _ _ e => e) (fun _ _ _ e => e) (fun b ps e => ⟨#[], by rw [e]; simp⟩) (fun m hm => ?_) (fun b u e => ?_) I.bare
  · have e : b = it := by simpa using hb
    subst e
    exact ⟨h1, hL, h2, h3⟩
  · obtain ⟨o, es, ep, ho, r⟩ := hm
    exact ⟨o, es, ep, k _ o (Ne.symm hL) ho, r⟩
  · refine (I.hok b u e).stay (fun c v hc q => k c v ?_ q) (fun _ q => q) fun _ _ q => q
    rcases hc with z | z
    · rw [z]; exact nit b u e
    · exact nit c _ z
theorem Inv.tok (I : Inv X pins σ H s) (t : Nat) : Inv X pins σ H { s with toks := t } := I.un (h' := s.heap) (t' := t) Un.refl I.hok
theorem Inv.kept {t' : Nat} (I : Inv X pins σ H s) (k : ∀ b u, s.heap.get? b = some u → h'.get? b = some u) : Inv X pins σ H { s with heap := h', toks := t' } := I.un (Un.kept k) (I.hok.kept k)
theorem Inv.laid {a : Addr} {o : HO} {t' : Nat} (I : Inv X pins σ H s) (k : ∀ b u, s.heap.get? b = some u → h'.get? b = some u) (hp : s.heap.objs.size ≤ a) (new : ObjOk X.prog X.w (upd H a o) h' a o) :
    Inv X pins σ (upd H a o) { s with heap := h', toks := t' } := I.un (Un.laid k hp (I.hok.fresh hp)) (I.hok.laid k hp new)
theorem Inv.write {x e : Addr} {o : HO} {t' : Nat} (I : Inv X pins σ H s) (mu : Mut (H x)) (he : e = x ∨ H e = some (.own x)) (k : ∀ b u, b ≠ e → s.heap.get? b = some u → h'.get? b = some u) (heo : ∃ u, h'.get? e = some u)
    (new : ObjOk X.prog X.w (upd H x o) h' x o) : Inv X pins σ (upd H x o) { s with heap := h', toks := t' } := I.un (Un.write mu he k heo) (I.hok.write mu he k heo new)
theorem Inv.pins_of {pins' : List (Addr × Obj)} (I : Inv X pins σ H s) (h : ∀ p ∈ pins', s.heap.get? p.1 = some p.2 ∧ H p.1 = none ∧ p.1 ≠ X.env.locals ∧ p.1 ∉ X.fs ∧ ∀ v, p.2.data ≠ .cell v) : Inv X pins' σ H s :=
  ⟨I.ok, I.os, I.bare, I.base, I.loc, I.cell, I.free, I.freeC, fun p hp => (List.mem_append.mp hp).elim (fun z => I.pin p (List.mem_append_left _ z)) (h p), I.hok, I.len⟩

theorem nodup_ix {N : List Str} (hN : N.Nodup) {i j : Nat} {x : Str} (a : N[i]? = some x) (b : N[j]? = some x) : i = j := by
  obtain ⟨h1, e1⟩ := List.getElem?_eq_some_iff.mp a
  obtain ⟨h2, e2⟩ := List.getElem?_eq_some_iff.mp b
  exact (List.getElem_inj hN).mp (e1.trans e2.symm)

theorem store_ok2 {M : Model} {A : Around} {E : Value → Shared → Prop} {i : Nat} {x : Str} {v : V} {u : Value} {Q : Unit → Shared → Prop} (I : Inv X pins σ H s) (hN : X.N.Nodup) (hi : X.N[i]? = some x) (hx : Loc X.env.scope x) (r : RelV v u)
    (h : ∀ s', Inv X pins (σ.set i (some v)) H s' → (∃ a, Heap.SameBut a s.heap s'.heap ∧ (a = X.env.locals ∨ X.env.cells.lookup x = some a)) → Q () s') (hf : X.fn x = true ∨ X.env.scope.names.lookup x = some .local := by first | exact .inl rfl | exact .inr rfl | assumption) : wpAny M A (storeName X.env x u) Q E s := by
  obtain ⟨m, hn, hl⟩ := id I.loc
  have hcls : (X.env.scope.kind == .class || (X.env.scope.kind == .module && X.env.locals != X.env.globals)) = false := by rw [I.ok.kind]; rfl
  have hiσ : i < σ.length := by rw [I.len]; exact (List.getElem?_eq_some_iff.mp hi).1
  have cne := I.cne
  have tracked : ∀ {a : Addr} {h' : Heap}, (∃ o, s.heap.get? a = some o ∧ H a = none) → Heap.SameBut a s.heap h' → HOk X.prog X.w H h' := fun {a h'} ha hs b ob e => by
    obtain ⟨_, _, hfree⟩ := ha
    refine (I.hok b ob e).stay (fun c w' hc q => (hs.2 c ?_).trans q) (fun _ q => q) fun _ _ q => q
    rintro rfl
    rcases hc with rfl | hc
    · rw [hfree] at e; cases e
    · rw [hfree] at hc; cases hc
  rcases hx with hk | hk
  · refine wpAny_storeName_local hk hn (fun h' hn' hs => ?_) hcls
    obtain ⟨oL, _, _, hoL, _⟩ := id hn
    refine h _ ⟨I.ok, I.os, I.bare, ⟨fun b o e n hb hx => ?_, fun b o e n hb hx => ?_, I.base.free, fun b o e hx => ?_, I.base.tups, I.base.frzs, I.base.tbls⟩, ⟨_, hn', fun j y v' e1 e2 e3 => ?_⟩, fun y c e => ?_, I.free, I.freeC, fun p hp => ?_, tracked ⟨oL, hoL, I.free⟩ hs, by simpa using I.len⟩ ⟨_, hs, .inl rfl⟩
    · exact (hs.2 b (Nat.ne_of_lt (Nat.lt_of_lt_of_le (Heap.lt_size e) I.ok.above))).trans (I.base.keep b o e n hb hx)
    · obtain ⟨sl, e1⟩ := I.base.slot b o e n hb hx
      exact ⟨sl, (hs.2 b (Nat.ne_of_lt (Nat.lt_of_lt_of_le (Heap.lt_size e) I.ok.above))).trans e1⟩
    · obtain ⟨o', e1⟩ := I.base.there b o e hx
      exact ⟨o', (hs.2 b (Nat.ne_of_lt (Nat.lt_of_lt_of_le (Heap.lt_size e) I.ok.above))).trans e1⟩
    · by_cases hj : j = i
      · subst hj
        rw [hi] at e1; cases e1
        rw [List.getElem?_set_self hiσ] at e2
        cases e2
        exact ⟨u, r, .inl ⟨hk, by simp⟩⟩
      · rw [List.getElem?_set_ne (Ne.symm hj)] at e2
        obtain ⟨u', r', q⟩ := hl j y v' e1 e2 e3
        refine ⟨u', r', ?_⟩
        rcases q with ⟨k, e⟩ | ⟨k, c, e, z⟩
        · refine .inl ⟨k, ?_⟩
          have : y ≠ x := fun e => hj (nodup_ix hN e1 (e ▸ hi))
          simp [this, e]
        · exact .inr ⟨k, c, e, z.sameBut hs (cne y c e)⟩
    · obtain ⟨w', z⟩ := I.cell y c e
      exact ⟨w', z.sameBut hs (cne y c e)⟩
    · obtain ⟨e, n, ne, nf, d⟩ := I.pin p hp
      exact ⟨(hs.2 p.1 ne).trans e, n, ne, nf, d⟩
  · have hfn : X.fn x = true := by
      rcases hf with z | z
      · exact z
      · rw [z] at hk; cases hk
    obtain ⟨c, hc⟩ := I.ok.has x (.inl hk)
    obtain ⟨w', z⟩ := I.cell x c hc
    refine wpAny_storeName_cell I.ok.kind hk hc z (fun h' hc' hs => ?_)
    obtain ⟨oc, hoc, hocd⟩ := id z
    refine h { s with heap := h' } ⟨I.ok, I.os, I.bare, ⟨fun b o e n hb hx => ?_, fun b o e n hb hx => ?_, I.base.free, fun b o e hx => ?_, I.base.tups, I.base.frzs, I.base.tbls⟩, ⟨m, hn.sameBut hs (Ne.symm (cne x c hc)), fun j y v' e1 e2 e3 => ?_⟩, fun y c' e => ?_, I.free, I.freeC, fun p hp => ?_, tracked ⟨oc, hoc, I.freeC x c hc⟩ hs, by simpa using I.len⟩ ⟨c, hs, .inr hc⟩
    · exact (hs.2 b (Nat.ne_of_lt (Nat.lt_of_lt_of_le (Heap.lt_size e) (I.ok.cab x c hfn hc)))).trans (I.base.keep b o e n hb hx)
    · obtain ⟨sl, e1⟩ := I.base.slot b o e n hb hx
      exact ⟨sl, (hs.2 b (Nat.ne_of_lt (Nat.lt_of_lt_of_le (Heap.lt_size e) (I.ok.cab x c hfn hc)))).trans e1⟩
    · obtain ⟨o', e1⟩ := I.base.there b o e hx
      exact ⟨o', (hs.2 b (Nat.ne_of_lt (Nat.lt_of_lt_of_le (Heap.lt_size e) (I.ok.cab x c hfn hc)))).trans e1⟩
    · by_cases hj : j = i
      · subst hj
        rw [hi] at e1; cases e1
        rw [List.getElem?_set_self hiσ] at e2
        cases e2
        exact ⟨u, r, .inr ⟨.inl hk, c, hc, hc'⟩⟩
      · rw [List.getElem?_set_ne (Ne.symm hj)] at e2
        obtain ⟨u', r', q⟩ := hl j y v' e1 e2 e3
        refine ⟨u', r', ?_⟩
        rcases q with q | ⟨k, c', e, z'⟩
        · exact .inl q
        · refine .inr ⟨k, c', e, z'.sameBut hs ?_⟩
          rintro rfl
          exact hj (nodup_ix hN e1 (I.ok.inj _ _ _ e hc ▸ hi))
    · by_cases hcc : c' = c
      · subst hcc; exact ⟨_, hc'⟩
      · obtain ⟨w2, z2⟩ := I.cell y c' e
        exact ⟨w2, z2.sameBut hs hcc⟩
    · obtain ⟨e, n, ne, nf, d⟩ := I.pin p hp
      refine ⟨(hs.2 p.1 ?_).trans e, n, ne, nf, d⟩
      intro q
      rw [q, hoc] at e
      have q' : oc = p.2 := Option.some.inj e
      exact d w' (by rw [← q']; exact hocd)
theorem store_ok {M : Model} {A : Around} {E : Value → Shared → Prop} {i : Nat} {x : Str} {v : V} {u : Value} {Q : Unit → Shared → Prop} (I : Inv X pins σ H s) (hN : X.N.Nodup) (hi : X.N[i]? = some x) (hx : Loc X.env.scope x) (r : RelV v u)
    (h : ∀ s', Inv X pins (σ.set i (some v)) H s' → Q () s') (hf : X.fn x = true ∨ X.env.scope.names.lookup x = some .local := by first | exact .inl rfl | exact .inr rfl | assumption) : wpAny M A (storeName X.env x u) Q E s :=
  store_ok2 I hN hi hx r (fun s' I' _ => h s' I') hf
theorem Inv.call' {s' : Shared} {ch : List Addr} (I : Inv X pins σ H s) (ho : s'.os = s.os) (u : Un (frs X.stack) ch H H' s.heap s'.heap) (hok : HOk X.prog X.w H' s'.heap) (hg : AllBare s'.gens)
    (hch : ∀ b ∈ ch, (b ∈ X.ex ∨ X.s₀.heap.objs.size ≤ b) ∧ b ≠ X.env.locals ∧ (∀ x c, X.env.cells.lookup x = some c → c ≠ b) ∧ ∀ p ∈ X.pn ++ pins, p.1 ≠ b) : Inv X pins σ H' s' := by
  obtain ⟨h', g', d', t', o'⟩ := s'
  have e : o' = s.os := ho
  subst e
  exact I.call (g' := g') (t' := t') (d' := d') u hok hg hch
end

abbrev XK := Value → Option Addr → Hp → Prop
abbrev St := List (Option V)
abbrev VK := V → Hp → Prop
abbrev TE := St → Hp → VK → Prop
abbrev TT := St → Hp → (Bool → Hp → Prop) → Prop
abbrev TA := St → Hp → (List V → Hp → Prop) → Prop
structure Ends where
  nx : St → Hp → Prop
  rt : VK
  bk : St → Hp → Prop := fun _ _ => False
  ct : St → Hp → Prop := fun _ _ => False
abbrev TS := Ends → St → Hp → Prop

def EP (X : Cx) (pins : List (Addr × Obj)) (σ : St) (Q : VK) (u : Value) (s' : Shared) : Prop := ∃ v H', Inv X pins σ H' s' ∧ RelV v u ∧ Q v H'
def TP (X : Cx) (pins : List (Addr × Obj)) (σ : St) (Q : Bool → Hp → Prop) (b : Bool) (s' : Shared) : Prop := ∃ H', Inv X pins σ H' s' ∧ Q b H'
def AP (X : Cx) (pins : List (Addr × Obj)) (σ : St) (Q : List V → Hp → Prop) (us : List Value) (s' : Shared) : Prop := ∃ vs H', Inv X pins σ H' s' ∧ Vals vs us ∧ Q vs H'
def SP (X : Cx) (pins : List (Addr × Obj)) (D : Ends) (f : Flow) (s' : Shared) : Prop :=
  match f with
  | .next => ∃ σ' H', Inv X pins σ' H' s' ∧ D.nx σ' H'
  | .brk => ∃ σ' H', Inv X pins σ' H' s' ∧ D.bk σ' H'
  | .cont => ∃ σ' H', Inv X pins σ' H' s' ∧ D.ct σ' H'
  | .ret u => ∃ v σ' H', Inv X pins σ' H' s' ∧ RelV v u ∧ D.rt v H'

def PE (X : Cx) (e : Expr) (t : TE) : Prop :=
  ∀ (pins : List (Addr × Obj)) (s : Shared) (σ : St) (H : Hp) (Q : VK), Inv X pins σ H s → t σ H Q → wpAny (model X.prog X.w) X.A (eval e X.env) (EP X pins σ Q) X.xe s
def PT (X : Cx) (e : Expr) (t : TT) : Prop :=
  ∀ (pins : List (Addr × Obj)) (s : Shared) (σ : St) (H : Hp) (Q : Bool → Hp → Prop), Inv X pins σ H s → t σ H Q → wpAny (model X.prog X.w) X.A (isTrue e X.env (eval e X.env)) (TP X pins σ Q) X.xe s
def PW (X : Cx) (e : Expr) (t : TT) : Prop :=
  ∀ (whole : Sem Value) (pins : List (Addr × Obj)) (s : Shared) (σ : St) (H : Hp) (Q : Bool → Hp → Prop), Inv X pins σ H s → t σ H Q → wpAny (model X.prog X.w) X.A (isTrue e X.env whole) (TP X pins σ Q) X.xe s
theorem PW.pt {X : Cx} {e : Expr} {t : TT} (h : PW X e t) : PT X e t := h _
def PA (X : Cx) (es : List Expr) (t : TA) : Prop :=
  ∀ (pos : Pos) (pins : List (Addr × Obj)) (s : Shared) (σ : St) (H : Hp) (Q : List V → Hp → Prop), Inv X pins σ H s → t σ H Q → wpAny (model X.prog X.w) X.A (spliced (backTo pos (starEach es X.env))) (AP X pins σ Q) X.xe s
def PS (X : Cx) (st : Stmt) (t : TS) : Prop :=
  ∀ (pins : List (Addr × Obj)) (s : Shared) (σ : St) (H : Hp) (D : Ends), Inv X pins σ H s → t D σ H → wpAny (model X.prog X.w) X.A (exec st X.env) (SP X pins D) X.xe s
def PSs (X : Cx) (st : List Stmt) (t : TS) : Prop :=
  ∀ (pins : List (Addr × Obj)) (s : Shared) (σ : St) (H : Hp) (D : Ends), Inv X pins σ H s → t D σ H → wpAny (model X.prog X.w) X.A (execs st X.env) (SP X pins D) X.xe s
theorem thn {α : Type} {t : Sem α} {Q Q' : α → Shared → Prop} {M : Model} {A : Around} {E : Value → Shared → Prop} {s : Shared} (h : wpAny M A t Q E s) (hQ : ∀ a s, Q a s → Q' a s) : wpAny M A t Q' E s := wpAny_mono h hQ fun _ _ x => x
end L2

namespace L2
open PySem PySem.Spec PyProof.Rows
section
variable {X : Cx}

def tVar (i : Nat) : TE := fun σ H Q => ∃ v, σ[i]? = some (some v) ∧ Q v H
def tC (v : V) : TE := fun _ H Q => Q v H
theorem pe_var {i : Nat} {x : Str} {pos : Pos} (hN : X.N[i]? = some x) (hv : Vis X.env.scope x) (hd : (x == ("__debug__" : Str)) = false := by decide) (hcd : (x == ("__classdict__" : Str)) = false := by decide) : PE X (.Name x pos) (tVar i) := by
  intro pins s σ H Q I h
  obtain ⟨v, e, h⟩ := h
  obtain ⟨m, hn, hl⟩ := I.loc
  obtain ⟨u, r, l⟩ := hl i x v hN e hv
  have fin : EP X pins σ Q u s := ⟨v, H, I, r, h⟩
  rcases l with ⟨hk, hm⟩ | ⟨hk, c, hc, hcell⟩
  · exact wpAny_Name (wpAny_loadName_local I.ok.kind hk hn hm fin) hd
  · rcases hk with hk | hk
    · exact wpAny_Name (wpAny_loadName_cell I.ok.kind hk hc hcell fin) hd
    · exact wpAny_Name (wpAny_loadName_free I.ok.kind hk hc hcell fin hcd) hd
theorem pe_int {i j pos} : PE X (.Constant (.int i) j pos) (tC (.int i)) := fun _ _ _ H _ I h => wpAny_Constant_int ⟨.int i, H, I.tok _, ⟨_, rfl⟩, h⟩
theorem pe_bl {b j pos} : PE X (.Constant (.bool b) j pos) (tC (.bl b)) := fun _ _ _ H _ I h => Constant_bool ⟨.bl b, H, I, rfl, h⟩
theorem pe_non {j pos} : PE X (.Constant .none j pos) (tC .non) := fun _ _ _ H _ I h => Constant_none ⟨.non, H, I, rfl, h⟩
theorem pe_str {x j pos} : PE X (.Constant (.str x) j pos) (tC (.str x)) := fun _ _ _ H _ I h => Calls.Constant_str ⟨.str x, H, I.tok _, ⟨_, rfl⟩, h⟩

def Gl (X : Cx) (x : Str) : Prop := X.env.kindOf x = some .globalImplicit
theorem ld_glob {E : Value → Shared → Prop} {pins : List (Addr × Obj)} {s : Shared} {σ : St} {H : Hp} {x : Str} {u : Value} {pos : Pos} {Q : Value → Shared → Prop} (I : Inv X pins σ H s) (hg : Gl X x) (hm : X.mg x = some u) (h : Q u s)
    (hd : (x == ("__debug__" : Str)) = false := by decide) : wpAny (model X.prog X.w) X.A (eval (.Name x pos) X.env) Q E s :=
  Calls.Name_function_global I.ok.kind hg (Calls.loadGlobal_global (by rw [I.ok.glob]; exact I.mod.glob.keeps I.bk) hm h) hd
theorem ld_blt {E : Value → Shared → Prop} {pins : List (Addr × Obj)} {s : Shared} {σ : St} {H : Hp} {x : Str} {u : Value} {pos : Pos} {Q : Value → Shared → Prop} (I : Inv X pins σ H s) (hg : Gl X x) (hm : X.mg x = none) (hv : bootBuiltins x = some u) (h : Q u s)
    (hn : x ≠ "__name__" := by decide) (hd : (x == ("__debug__" : Str)) = false := by decide) : wpAny (model X.prog X.w) X.A (eval (.Name x pos) X.env) Q E s := by
  obtain ⟨mb, h1, h2⟩ := I.mod.blt
  exact Calls.Name_function_global I.ok.kind hg (Calls.loadGlobal_builtin (by rw [I.ok.glob]; exact I.mod.glob.keeps I.bk) hm (by rw [I.ok.blt]; exact h1.keeps I.bk) ((h2 x hn).trans hv) h) hd
theorem pe_glob {x : Str} {v : V} {u : Value} {pos : Pos} (hg : Gl X x) (hm : X.mg x = some u) (r : RelV v u) (hd : (x == ("__debug__" : Str)) = false := by decide) : PE X (.Name x pos) (tC v) :=
  fun _ _ _ H _ I h => ld_glob I hg hm ⟨v, H, I, r, h⟩ hd
theorem pe_bltn {x : Str} {v : V} {u : Value} {pos : Pos} (hg : Gl X x) (hm : X.mg x = none) (hv : bootBuiltins x = some u) (r : RelV v u) (hn : x ≠ "__name__" := by decide) (hd : (x == ("__debug__" : Str)) = false := by decide) : PE X (.Name x pos) (tC v) :=
  fun _ _ _ H _ I h => ld_blt I hg hm hv ⟨v, H, I, r, h⟩ hn hd

variable {a b : Expr} {ta tb : TE} {pos : Pos}
def tB (t : TE) : TT := fun σ H Q => t σ H fun x H1 => ∃ c, x = .bl c ∧ Q c H1
theorem pt_val {e : Expr} {t : TE} (h : PE X e t) (he : ∀ whole, isTrue e X.env whole = (do let v ← whole; standAt e.pos; holding [v] (truthy v)) := by intro _; rfl) : PT X e (tB t) := by
  intro pins s σ H Q I hw
  refine isTrue_plain (thn (h pins s σ H _ I hw) fun v s1 ⟨x, H1, I1, r1, q1⟩ => ?_) (he _)
  obtain ⟨d, rfl, q⟩ := q1
  cases r1
  exact wpAny_truthy_bool ⟨H1, I1, q⟩

variable {tA tB' : TT} {rest : List Expr}
def tAnd (t u : TT) : TT := fun σ H Q => t σ H fun c H1 => if c = true then u σ H1 Q else Q false H1
def tOr (t u : TT) : TT := fun σ H Q => t σ H fun c H1 => if c = true then Q true H1 else u σ H1 Q
def tNot (t : TT) : TT := fun σ H Q => t σ H fun c H1 => Q (!c) H1
theorem pw_and1 (ha : PT X a tA) : PW X (.BoolOp .And [a] pos) tA := by
  intro wh pins s σ H Q I h
  refine isTrue_and (thn (ha pins s σ H Q I h) fun c s1 e => ?_)
  cases c with
  | true => exact isTrue_and_nil e
  | false => exact e
theorem pw_or1 (ha : PT X a tA) : PW X (.BoolOp .Or [a] pos) tA := by
  intro wh pins s σ H Q I h
  refine isTrue_or (thn (ha pins s σ H Q I h) fun c s1 e => ?_)
  cases c with
  | false => exact isTrue_or_nil e
  | true => exact e
theorem pw_and (ha : PT X a tA) (hb : PW X (.BoolOp .And (b :: rest) pos) tB') : PW X (.BoolOp .And (a :: b :: rest) pos) (tAnd tA tB') := by
  intro wh pins s σ H Q I h
  refine isTrue_and (thn (ha pins s σ H _ I h) fun c s1 ⟨H1, I1, q1⟩ => ?_)
  cases c with
  | true => exact hb wh pins s1 σ H1 Q I1 q1
  | false => exact ⟨H1, I1, q1⟩
theorem pw_or (ha : PT X a tA) (hb : PW X (.BoolOp .Or (b :: rest) pos) tB') : PW X (.BoolOp .Or (a :: b :: rest) pos) (tOr tA tB') := by
  intro wh pins s σ H Q I h
  refine isTrue_or (thn (ha pins s σ H _ I h) fun c s1 ⟨H1, I1, q1⟩ => ?_)
  cases c with
  | true => exact ⟨H1, I1, q1⟩
  | false => exact hb wh pins s1 σ H1 Q I1 q1
theorem pt_not (ha : PT X a tA) : PT X (.UnaryOp .Not a pos) (tNot tA) := by
  intro pins s σ H Q I h
  exact isTrue_not (ha pins s σ H (fun c H1 => Q (!c) H1) I h)
def tAndV (ta tb : TE) : TE := fun σ H Q => ta σ H fun x H1 => ∃ c, x = .bl c ∧ if c = true then tb σ H1 Q else Q (.bl false) H1
theorem pe_one {op} {t : TE} (h : PE X a t) : PE X (.BoolOp op [a] pos) t := fun pins s σ H Q I hw => BoolOp_one (h pins s σ H Q I hw)
theorem pe_and (ha : PE X a ta) (hb : PE X (.BoolOp .And (b :: rest) pos) tb) : PE X (.BoolOp .And (a :: b :: rest) pos) (tAndV ta tb) := by
  intro pins s σ H Q I h
  refine BoolOp_and (thn (ha pins s σ H _ I h) fun v s1 ⟨x, H1, I1, r1, q1⟩ => ?_)
  obtain ⟨c, rfl, q1⟩ := q1
  cases r1
  refine wpAny_truthy_bool ?_
  cases c with
  | true => exact hb pins s1 σ H1 Q I1 q1
  | false => exact ⟨.bl false, H1, I1, rfl, q1⟩
end
end L2

namespace L2
open PySem PySem.Spec PyProof.Rows

def SqL (K : PySem.W.Frag) (H : Hp) (a : Addr) (xs : List V) : Prop :=
  Rd H a (.lst xs) ∨
    ∃ (o : Obj) (its : Array Value) (n : Nat), K.lookup a = some o ∧ o.cls = .type "list" ∧ o.dict = none ∧ o.data = .seq its n ∧ its.size ≤ sizeLine ∧ Vals xs its.toList
def SqT (K : PySem.W.Frag) (H : Hp) (a : Addr) (xs : List V) : Prop :=
  Rd H a (.tup xs) ∨
    ∃ (o : Obj) (its : Array Value) (n : Nat), K.lookup a = some o ∧ o.cls = .type "tuple" ∧ o.data = .seq its n ∧ its.size ≤ sizeLine ∧ Vals xs its.toList
def absV : Value → Option V
  | .none => some .non
  | .bool b => some (.bl b)
  | .int i _ => some (.int i)
  | .str x _ => some (.str x)
  | .bytes b _ => some (.byt b)
  | .float b _ => some (.flt b)
  | .ref a => some (.ref a)
  | .type n => some (.ty n)
  | _ => none
theorem RelV.abs {x : V} {u : Value} (r : RelV x u) : absV u = some x := by
  cases x with
  | non => cases r; rfl
  | bl _ => cases r; rfl
  | int _ => obtain ⟨t, rfl⟩ := r; rfl
  | str _ => obtain ⟨t, rfl⟩ := r; rfl
  | byt _ => obtain ⟨t, rfl⟩ := r; rfl
  | flt _ => obtain ⟨t, rfl⟩ := r; rfl
  | ref _ => cases r; rfl
  | ty _ => cases r; rfl
theorem RelV.inj {x y : V} {u : Value} (r : RelV x u) (q : RelV y u) : x = y := Option.some.inj (r.abs.symm.trans q.abs)
theorem Vals.inj : ∀ {xs ys : List V} {us : List Value}, Vals xs us → Vals ys us → xs = ys
  | _, _, _, .nil, .nil => rfl
  | _, _, _, .cons r t, .cons r' t' => by rw [r.inj r', Vals.inj t t']
section
variable {X : Cx} {pins : List (Addr × Obj)} {σ : St} {H : Hp} {s : Shared} {a : Addr} {xs ys : List V}
theorem SqL.of {K : PySem.W.Frag} (h : H a = some (.lst xs)) : SqL K H a xs := .inl (.inl h)
theorem SqT.of {K : PySem.W.Frag} (h : H a = some (.tup xs)) : SqT K H a xs := .inl (.inl h)
theorem Inv.list (I : Inv X pins σ H s) (h : SqL X.K H a xs) : ∃ its : List Value, Vals xs its ∧ PlainL s.heap a its.toArray ∧ xs.length ≤ sizeLine := by
  rcases h with h | ⟨o, its, n, hk, hc, hd, hs, hz, r⟩
  · obtain ⟨z, its, n, r, e⟩ := h.ok I.hok
    exact ⟨its, r, ⟨_, n, e, rfl, rfl, rfl⟩, z⟩
  · refine ⟨its.toList, r, ⟨o, n, I.kIn a o hk, hc, hd, by simpa using hs⟩, ?_⟩
    have e := r.length
    simp only [Array.length_toList] at e
    omega
theorem Inv.tuple (I : Inv X pins σ H s) (h : SqT X.K H a xs) : ∃ its : List Value, Vals xs its ∧ IsTup s.heap a its.toArray ∧ xs.length ≤ sizeLine := by
  rcases h with h | ⟨o, its, n, hk, hc, hs, hz, r⟩
  · obtain ⟨z, its, r, p⟩ := h.ok I.hok
    exact ⟨its, r, p, z⟩
  · refine ⟨its.toList, r, ⟨o, I.kIn a o hk, hc, n, by simpa using hs⟩, ?_⟩
    have e := r.length
    simp only [Array.length_toList] at e
    omega
theorem Inv.list_inj (I : Inv X pins σ H s) (h : SqL X.K H a xs) (h' : SqL X.K H a ys) : xs = ys := by
  obtain ⟨its, r, ⟨o, n, e, _, _, d⟩, _⟩ := I.list h
  obtain ⟨its', r', ⟨o', n', e', _, _, d'⟩, _⟩ := I.list h'
  rw [e] at e'; cases e'
  rw [d] at d'
  injection d' with d1 _
  have : its = its' := by simpa using congrArg Array.toList d1
  subst this
  exact r.inj r'
theorem Inv.tuple_inj (I : Inv X pins σ H s) (h : SqT X.K H a xs) (h' : SqT X.K H a ys) : xs = ys := by
  obtain ⟨its, r, ⟨o, e, _, n, d⟩, _⟩ := I.tuple h
  obtain ⟨its', r', ⟨o', e', _, n', d'⟩, _⟩ := I.tuple h'
  rw [e] at e'; cases e'
  rw [d] at d'
  injection d' with d1 _
  have : its = its' := by simpa using congrArg Array.toList d1
  subst this
  exact r.inj r'
end

abbrev Cx.wish (X : Cx) (E : Value → Shared → Prop) : Cx := { X with xe := E }
abbrev Cx.nox (X : Cx) : Cx := X.wish fun _ _ => False
theorem Cx.Ok.wish {X : Cx} (ok : X.Ok) (E : Value → Shared → Prop) : (X.wish E).Ok :=
  ⟨ok.mod, ok.kind, ok.glob, ok.blt, ok.above, ok.inj, ok.has, ok.cab, ok.hd, ok.frames, ok.stk, ok.exf, ok.bs, ok.bsz, ok.noex, ok.exfs, ok.funs, ok.frf⟩
theorem Cx.Ok.unwish {X : Cx} {E : Value → Shared → Prop} (ok : (X.wish E).Ok) : X.Ok :=
  ⟨ok.mod, ok.kind, ok.glob, ok.blt, ok.above, ok.inj, ok.has, ok.cab, ok.hd, ok.frames, ok.stk, ok.exf, ok.bs, ok.bsz, ok.noex, ok.exfs, ok.funs, ok.frf⟩
section
variable {X : Cx} {pins : List (Addr × Obj)} {σ : St} {H : Hp} {s : Shared} {E : Value → Shared → Prop}
theorem Inv.wish (I : Inv X pins σ H s) (E : Value → Shared → Prop) : Inv (X.wish E) pins σ H s := ⟨I.ok.wish E, I.os, I.bare, I.base, I.loc, I.cell, I.free, I.freeC, I.pin, I.hok, I.len⟩
theorem Inv.unwish (I : Inv (X.wish E) pins σ H s) : Inv X pins σ H s := ⟨I.ok.unwish, I.os, I.bare, I.base, I.loc, I.cell, I.free, I.freeC, I.pin, I.hok, I.len⟩
theorem SP.unwish {D : Ends} {f : Flow} {s' : Shared} (h : SP (X.wish E) pins D f s') : SP X pins D f s' := by
  cases f with
  | next => obtain ⟨σ', H', I, q⟩ := h; exact ⟨σ', H', I.unwish, q⟩
  | brk => obtain ⟨σ', H', I, q⟩ := h; exact ⟨σ', H', I.unwish, q⟩
  | cont => obtain ⟨σ', H', I, q⟩ := h; exact ⟨σ', H', I.unwish, q⟩
  | ret u => obtain ⟨v, σ', H', I, r, q⟩ := h; exact ⟨v, σ', H', I.unwish, r, q⟩
theorem PSs.nox {st : List Stmt} {t : TS} (h : PSs X.nox st t) : PSs X st t := fun pins s σ H D I hw =>
  wpAny_mono (h pins s σ H D (I.wish _) hw) (fun _ _ q => q.unwish) fun _ _ z => False.elim z
end

section
variable {X : Cx} {st : Stmt} {rest : List Stmt} {t u : TS} {e : Expr} {te : TE} {pos : Pos}
def tNext : TS := fun D σ H => D.nx σ H
def tSeq (t u : TS) : TS := fun D σ H => t { D with nx := u D } σ H
theorem pss_nil : PSs X [] tNext := fun _ _ σ H _ I h => wpAny_execs_nil ⟨σ, H, I, h⟩
theorem pss_cons (h1 : PS X st t) (h2 : PSs X rest u) : PSs X (st :: rest) (tSeq t u) := by
  intro pins s σ H D I h
  refine wpAny_execs_cons (thn (h1 pins s σ H { D with nx := u D } I h) fun f s1 q => ?_)
  cases f with
  | next =>
    obtain ⟨σ', H', I', q⟩ := q
    exact h2 pins s1 σ' H' D I' q
  | ret v => exact q
  | brk => exact q
  | cont => exact q
theorem pss_one (h1 : PS X st t) : PSs X [st] t := by
  intro pins s σ H D I h
  refine wpAny_execs_cons (thn (h1 pins s σ H D I h) fun f s1 q => ?_)
  cases f with
  | next => exact wpAny_execs_nil q
  | ret v => exact q
  | brk => exact q
  | cont => exact q
theorem Inv.quiet {pins : List (Addr × Obj)} {σ : St} {H : Hp} {s : Shared} (I : Inv X pins σ H s) : interactive X.env = false := by simp [interactive, I.ok.kind]
def tDrop (te : TE) : TS := fun D σ H => te σ H fun _ H1 => D.nx σ H1
theorem ps_expr (he : PE X e te) (hs : swapsWith e none pos.line X.env = pure false := by rfl) : PS X (.Expr e pos) (tDrop te) := by
  intro pins s σ H D I h
  exact wpAny_Expr_any (thn (he pins s σ H _ I h) fun v s1 ⟨x, H1, I1, r1, q1⟩ => ⟨σ, H1, I1, q1⟩) I.quiet hs
def tRet (te : TE) : TS := fun D σ H => te σ H D.rt
theorem ps_ret (he : PE X e te) : PS X (.Return (some e) pos) (tRet te) := by
  intro pins s σ H D I h
  exact wpAny_Return_some (thn (he pins s σ H _ I h) fun v s1 ⟨x, H1, I1, r1, q1⟩ => ⟨x, σ, H1, I1, r1, q1⟩)
def tIfS (c : TT) (t u : TS) : TS := fun D σ H => c σ H fun b H1 => if b = true then t D σ H1 else u D σ H1
theorem ps_if {c : Expr} {a b : List Stmt} {tc : TT} (hc : PT X c tc) (ha : PSs X a t) (hb : PSs X b u) : PS X (.If c a b pos) (tIfS tc t u) := by
  intro pins s σ H D I h
  refine wpAny_If (thn (hc pins s σ H _ I h) fun d s1 ⟨H1, I1, q1⟩ => ?_)
  cases d with
  | true => exact ha pins s1 σ H1 D I1 q1
  | false => exact hb pins s1 σ H1 D I1 q1
end

abbrev TG := V → St → Hp → (St → Hp → Prop) → Prop
abbrev TGs := List V → St → Hp → (St → Hp → Prop) → Prop
def PG (X : Cx) (target : Expr) (t : TG) : Prop :=
  ∀ (pins : List (Addr × Obj)) (s : Shared) (σ : St) (H : Hp) (v : V) (u : Value) (Q : St → Hp → Prop), Inv X pins σ H s → RelV v u → t v σ H Q →
    wpAny (model X.prog X.w) X.A (assign target X.env u) (fun _ s' => ∃ σ' H', Inv X pins σ' H' s' ∧ Q σ' H') X.xe s
def PGs (X : Cx) (ts : List Expr) (t : TGs) : Prop :=
  ∀ (pins : List (Addr × Obj)) (s : Shared) (σ : St) (H : Hp) (vs : List V) (us : List Value) (Q : St → Hp → Prop), Inv X pins σ H s → Vals vs us → t vs σ H Q →
    wpAny (model X.prog X.w) X.A (assignInOrder ((assignEach ts X.env).map (·.2)) us) (fun _ s' => ∃ σ' H', Inv X pins σ' H' s' ∧ Q σ' H') X.xe s
abbrev TSet := V → V → V → Hp → (Hp → Prop) → Prop
def PSet (X : Cx) (t : TSet) : Prop :=
  ∀ (pins : List (Addr × Obj)) (s : Shared) (σ : St) (H : Hp) (o i v : V) (ov iv u : Value) (Q : Hp → Prop), Inv X pins σ H s → RelV o ov → RelV i iv → RelV v u → t o i v H Q →
    wpAny (model X.prog X.w) X.A (setItem ov iv u) (fun _ s' => ∃ H', Inv X pins σ H' s' ∧ Q H') X.xe s
section
variable {X : Cx} {pos : Pos}
def gName (i : Nat) : TG := fun v σ H Q => Q (σ.set i (some v)) H
theorem pg_name {i : Nat} {x : Str} (hN : X.N.Nodup) (hi : X.N[i]? = some x) (hx : Loc X.env.scope x) (hf : X.fn x = true ∨ X.env.scope.names.lookup x = some .local := by first | exact .inl rfl | exact .inr rfl | assumption) : PG X (.Name x pos) (gName i) := by
  intro pins s σ H v u Q I r h
  exact wpAny_assign_Name (store_ok I hN hi hx r (fun s' I' => ⟨_, H, I', h⟩) hf)
def gNil : TGs := fun vs σ H Q => vs = [] ∧ Q σ H
def gCons (t : TG) (u : TGs) : TGs := fun vs σ H Q => ∃ v r, vs = v :: r ∧ t v σ H fun σ' H' => u r σ' H' Q
theorem pgs_nil : PGs X [] gNil := by
  intro pins s σ H vs us Q I r h
  obtain ⟨e, h⟩ := h
  subst e
  cases r
  exact assignInOrder_nil ⟨σ, H, I, h⟩
theorem pgs_cons {e : Expr} {es : List Expr} {t : TG} {u : TGs} (h1 : PG X e t) (h2 : PGs X es u)
    (hs : (assignEach (e :: es) X.env).map (·.2) = assign e X.env :: (assignEach es X.env).map (·.2) := by rfl) : PGs X (e :: es) (gCons t u) := by
  intro pins s σ H vs us Q I r h
  obtain ⟨v, vr, e1, h⟩ := h
  subst e1
  cases r with
  | cons r rr =>
    rw [hs]
    refine assignInOrder_cons (thn (h1 pins s σ H _ _ _ I r h) fun _ s1 ⟨σ1, H1, I1, q1⟩ => ?_)
    exact h2 pins s1 σ1 H1 _ _ Q I1 rr q1
def gTup (K : PySem.W.Frag) (n : Nat) (t : TGs) : TG := fun v σ H Q => ∃ a xs, v = .ref a ∧ SqT K H a xs ∧ xs.length = n ∧ t xs σ H Q
theorem pg_tup {es : List Expr} {k : Nat} {t : TGs} {n : Nat} (hc : X.calm = true) (h : PGs X es t)
    (hn : (assignEach es X.env).length = n := by rfl) (hst : (assignEach es X.env).findIdx? (·.1) = none := by rfl) : PG X (.Tuple es k pos) (gTup X.K n t) := by
  intro pins s σ H v u Q I r hw
  obtain ⟨a, xs, e1, hq, hl, hw⟩ := hw
  subst e1
  cases r
  obtain ⟨its, rv, ht, hz⟩ := I.tuple hq
  refine assign_Tuple_tuple (I.ok.hd hc) ht (by simp [hn, ← hl, rv.length]) hst fun h' hx => ?_
  have I1 : Inv X pins σ H { s with heap := h' } := I.kept (t' := s.toks) fun b o e => hx b o (Nat.ne_of_lt (Heap.lt_size e)) e
  exact h pins _ σ H xs _ Q I1 (by simpa using rv) hw
def gSub (to ti : TE) (t : TSet) : TG := fun v σ H Q => to σ H fun o H1 => ti σ H1 fun i H2 => t o i v H2 fun H3 => Q σ H3
theorem pg_sub {o i : Expr} {to ti : TE} {t : TSet} (ho : PE X o to) (hi : PE X i ti) (hs : PSet X t)
    (ha : ∀ v, assign (.Subscript o i pos) X.env v = (do
      let ov ← holding [v] (eval o X.env)
      let iv ← holding [v, ov] (eval i X.env)
      standAt pos
      holding [v, ov, iv] (setItem ov iv v)
      release [v, ov, iv] []) := by intro _; rfl) : PG X (.Subscript o i pos) (gSub to ti t) := by
  intro pins s σ H v u Q I r h
  rw [ha]
  refine wpAny_bind (wpAny_holding (thn (ho pins s σ H _ I h) fun ov s1 ⟨x, H1, I1, r1, q1⟩ => ?_))
  refine wpAny_bind (wpAny_holding (thn (hi pins s1 σ H1 _ I1 q1) fun iv s2 ⟨y, H2, I2, r2, q2⟩ => ?_))
  refine wpAny_bind (wpAny_standAt (wpAny_bind (wpAny_holding (thn (hs pins s2 σ H2 x y v ov iv u _ I2 r1 r2 r q2) fun _ s3 ⟨H3, I3, q3⟩ => ?_))))
  exact wpAny_release ⟨σ, H3, I3, q3⟩
def tAsg (te : TE) (g : TG) : TS := fun D σ H => te σ H fun x H1 => g x σ H1 D.nx
theorem ps_asg {tg e : Expr} {te : TE} {g : TG} (he : PE X e te) (hg : PG X tg g) (hs : swapsWithSole [tg] e pos.line X.env = pure false := by rfl) (hw : swappedStores [tg] e X.env = pure none := by rfl)
    (h1 : (assignEach [tg] X.env).map (·.2) = [assign tg X.env] := by rfl) : PS X (.Assign [tg] e pos) (tAsg te g) := by
  intro pins s σ H D I h
  refine wpAny_Assign_stores (thn (he pins s σ H _ I h) fun v s1 ⟨x, H1, I1, r1, q1⟩ => ?_) hs hw
  rw [h1]
  exact thn (hg pins s1 σ H1 x v _ I1 r1 q1) fun _ s2 q => q
theorem ps_set {i : Nat} {x : Str} {e : Expr} {te : TE} {pos' : Pos} (hN : X.N.Nodup) (hi : X.N[i]? = some x) (hx : Loc X.env.scope x) (he : PE X e te) (hs : swapsWith e (some (.Name x pos')) pos.line X.env = pure false := by rfl) (hf : X.fn x = true ∨ X.env.scope.names.lookup x = some .local := by first | exact .inl rfl | exact .inr rfl | assumption) :
    PS X (.Assign [.Name x pos'] e pos) (tAsg te (gName i)) := by
  intro pins s σ H D I h
  refine wpAny_Assign_Name (thn (he pins s σ H _ I h) fun v s1 ⟨y, H1, I1, r1, q1⟩ => ?_) hs
  exact store_ok I1 hN hi hx r1 (fun s2 I2 => ⟨_, H1, I2, q1⟩) hf
end

section
variable {X : Cx} {pos : Pos}
end

structure It where
  go : Nat → Hp → Prop
  yld : Nat → Hp → V → Hp → Prop
  stop : Nat → Hp → Prop
def FpOk (X : Cx) (pins : List (Addr × Obj)) (H : Hp) (b : Addr) : Prop :=
  H b = none ∧ b ≠ X.env.locals ∧ b ∉ X.fs ∧ (b ∈ X.ex ∨ X.s₀.heap.objs.size ≤ b) ∧ (∀ x c, X.env.cells.lookup x = some c → c ≠ b) ∧ ∀ p ∈ X.pn ++ pins, p.1 ≠ b
theorem Inv.fpOk {X : Cx} {pins : List (Addr × Obj)} {σ : St} {H H' : Hp} {s : Shared} {b : Addr} (I : Inv X pins σ H s) (hb : s.heap.objs.size ≤ b) (hn : H' b = none) : FpOk X pins H' b := by
  refine ⟨hn, Nat.ne_of_gt (Nat.lt_of_lt_of_le I.lt hb), I.nofs hb, .inr (Nat.le_trans I.sz hb), fun x c e z => ?_, fun p hp z => ?_⟩
  · obtain ⟨v, q⟩ := I.cell x c e
    exact absurd (Nat.lt_of_lt_of_le q.lt (by rw [z]; exact hb)) (Nat.lt_irrefl _)
  · exact absurd (Nat.lt_of_lt_of_le (Heap.lt_size (I.pin p hp).1) (by rw [z]; exact hb)) (Nat.lt_irrefl _)
structure Turn (P : Program) (w : World) (K : PySem.W.Frag) (tg : Expr) (J : It) (fp : List Addr) (it : Addr) (tn : Nat → Heap → Prop) : Prop where
  mem : it ∈ fp
  obj : ∀ i h, tn i h → ∀ b ∈ fp, ∃ o, h.get? b = some o ∧ ∀ v, o.data ≠ .cell v
  keep : ∀ i h h', tn i h → (∀ b ∈ fp, ∀ o, h.get? b = some o → h'.get? b = some o) → tn i h'
  item : ∀ (X : Cx), X.prog = P → X.w = w → X.K = K → X.calm = true → ∀ (i : Nat) (pins : List (Addr × Obj)) (s : Shared) (σ : St) (H : Hp) (E : Value → Shared → Prop), Inv X pins σ H s → (∀ b ∈ fp, FpOk X pins H b) → tn i s.heap → J.go i H →
    wpAny (model P w) X.A (pyNext (.ref it)) (fun r s1 => ∃ u, r = some u ∧
      wpAny (model P w) X.A (letOwnedTupleGo tg (.ref it) u) (fun _ s2 => ∃ x H', Inv X pins σ H' s2 ∧ RelV x u ∧ J.yld i H x H' ∧ tn (i + 1) s2.heap ∧ ∀ b ∈ fp, H' b = none) E s1) E s
  done : ∀ (X : Cx), X.prog = P → X.w = w → X.K = K → X.calm = true → ∀ (i : Nat) (pins : List (Addr × Obj)) (s : Shared) (σ : St) (H : Hp) (E : Value → Shared → Prop), Inv X pins σ H s → (∀ b ∈ fp, FpOk X pins H b) → tn i s.heap → J.stop i H →
    wpAny (model P w) X.A (pyNext (.ref it)) (fun r s1 => r = none ∧ Inv X pins σ H s1) E s
  self : ∀ (A : Around) (i : Nat) (s : Shared) (Q : Value → Shared → Prop) (E : Value → Shared → Prop), tn i s.heap → Q (.ref it) s → wpAny (model P w) A (pyIter (.ref it)) Q E s
abbrev TI := St → Hp → (It → Hp → Prop) → Prop
def PIE (X : Cx) (pins : List (Addr × Obj)) (σ : St) (tg : Expr) (R : It → Hp → Prop) (itv : Value) (s2 : Shared) : Prop :=
  ∃ (it : Addr) (fp : List Addr) (tn : Nat → Heap → Prop) (J : It) (H' : Hp), itv = .ref it ∧ Inv X pins σ H' s2 ∧ Turn X.prog X.w X.K tg J fp it tn ∧ tn 0 s2.heap ∧ (∀ b ∈ fp, FpOk X pins H' b) ∧ R J H'
def PI (X : Cx) (tg iter : Expr) (wi : TI) : Prop :=
  ∀ (pins : List (Addr × Obj)) (s : Shared) (σ : St) (H : Hp) (R : It → Hp → Prop), Inv X pins σ H s → wi σ H R →
    wpAny (model X.prog X.w) X.A (eval iter X.env) (fun v s1 => wpAny (model X.prog X.w) X.A (pyIter v) (PIE X pins σ tg R) X.xe s1) X.xe s

theorem go_of {M : Model} {A : Around} {E : Value → Shared → Prop} {s : Shared} {tg : Expr} {it : Addr} {u : Value} {o : Obj} {n : String} {vs : Array Value} {Q : Unit → Shared → Prop} (ho : s.heap.get? it = some o) (hc : o.cls = .type n) (hd : o.data = .fields vs)
    (hn : ["enumerate", "zip", "dict_itemiterator", "dict_reverseitemiterator", "odict_iterator", "itertools.zip_longest", "itertools.pairwise"].contains n = false) (hQ : Q () s) : wpAny M A (letOwnedTupleGo tg (.ref it) u) Q E s := by
  unfold letOwnedTupleGo
  cases tg <;> first
    | exact wpAny_pure hQ
    | (cases u <;> first
        | exact wpAny_pure hQ
        | (refine wpAny_bind (wpAny_load ho ?_)
           rw [hc, hd]
           show wpAny M A (if (["enumerate", "zip", "dict_itemiterator", "dict_reverseitemiterator", "odict_iterator", "itertools.zip_longest", "itertools.pairwise"].contains n && vs[0]? == some (rawInt _)) = true then _ else _) Q E s
           rw [if_neg (by intro h; rw [hn, Bool.false_and] at h; cases h)]
           exact wpAny_pure hQ))

def Itl (K : PySem.W.Frag) (a : Addr) : It :=
  ⟨fun i H => ∃ xs x, SqL K H a xs ∧ xs[i]? = some x, fun i H x H' => H' = H ∧ ∀ xs, SqL K H a xs → xs[i]? = some x, fun i H => ∃ xs, SqL K H a xs ∧ xs.length ≤ i⟩
def Itt (K : PySem.W.Frag) (a : Addr) : It :=
  ⟨fun i H => ∃ xs x, SqT K H a xs ∧ xs[i]? = some x, fun i H x H' => H' = H ∧ ∀ xs, SqT K H a xs → xs[i]? = some x, fun i H => ∃ xs, SqT K H a xs ∧ xs.length ≤ i⟩
def Itr (lo : Int) (n : Nat) : It := ⟨fun i _ => i < n, fun i H x H' => H' = H ∧ x = .int (lo + i), fun i _ => n ≤ i⟩
theorem turn_list {P : Program} {w : World} {K : PySem.W.Frag} {tg : Expr} (a it : Addr) : Turn P w K tg (Itl K a) [it] it (fun i h => h.IsListIter it a i) where
  mem := by simp
  obj := fun i h st b hb => by
    have e : b = it := by simpa using hb
    subst e
    obtain ⟨o, e, c, d⟩ := st
    exact ⟨o, e, fun v z => by rw [d] at z; cases z⟩
  keep := fun i h h' st k => st.at fun o e => k it (by simp) o e
  item := by
    intro X hP hw hK hc i pins s σ H E I hf st hg
    subst hP hw hK
    obtain ⟨xs, x, hq, hx⟩ := hg
    obtain ⟨its, rv, p, hz⟩ := I.list hq
    obtain ⟨u, hu, ru⟩ := rv.get hx
    obtain ⟨f0, f1, f2, f3, f4, f5⟩ := hf it (by simp)
    refine wpAny_pyNext_list_item st p.isList (x := u) (by simpa using hu) fun h' st' sb => ?_
    have I1 : Inv X pins σ H { s with heap := h' } := I.turned (t' := s.toks) (fun b o hb e => (sb.2 b hb).trans e) f0 f1 f3 f4 f5
    obtain ⟨o, e, c, d⟩ := id st'
    exact ⟨u, rfl, go_of (s := { s with heap := h' }) e c d (by decide) ⟨x, H, I1, ru, ⟨rfl, fun ys hy => by rw [I.list_inj hy hq]; exact hx⟩, st', fun b hb => (hf b hb).1⟩⟩
  done := by
    intro X hP hw hK hc i pins s σ H E I hf st hg
    subst hP hw hK
    obtain ⟨xs, hq, hx⟩ := hg
    obtain ⟨its, rv, p, hz⟩ := I.list hq
    obtain ⟨f0, f1, f2, f3, f4, f5⟩ := hf it (by simp)
    have hl := rv.length
    exact wpAny_pyNext_list_end (I.ok.hd hc) st p.isList (by simp; omega) fun h' eb => ⟨rfl, I.turned (t' := s.toks) (fun b o hb e => eb b o hb e) f0 f1 f3 f4 f5⟩
  self := fun _ _ _ _ _ st h => wpAny_pyIter_listiter st h
theorem turn_tuple {P : Program} {w : World} {K : PySem.W.Frag} {tg : Expr} (a it : Addr) : Turn P w K tg (Itt K a) [it] it (fun i h => h.IsTupleIter it a i) where
  mem := by simp
  obj := fun i h st b hb => by
    have e : b = it := by simpa using hb
    subst e
    obtain ⟨o, e, c, d⟩ := st
    exact ⟨o, e, fun v z => by rw [d] at z; cases z⟩
  keep := fun i h h' st k => st.at fun o e => k it (by simp) o e
  item := by
    intro X hP hw hK hc i pins s σ H E I hf st hg
    subst hP hw hK
    obtain ⟨xs, x, hq, hx⟩ := hg
    obtain ⟨its, rv, p, hz⟩ := I.tuple hq
    obtain ⟨u, hu, ru⟩ := rv.get hx
    obtain ⟨f0, f1, f2, f3, f4, f5⟩ := hf it (by simp)
    refine wpAny_pyNext_tuple_item st (show s.heap.IsTuple a its.toArray from p) (x := u) (by simpa using hu) fun h' st' sb => ?_
    have I1 : Inv X pins σ H { s with heap := h' } := I.turned (t' := s.toks) (fun b o hb e => (sb.2 b hb).trans e) f0 f1 f3 f4 f5
    obtain ⟨o, e, c, d⟩ := id st'
    exact ⟨u, rfl, go_of (s := { s with heap := h' }) e c d (by decide) ⟨x, H, I1, ru, ⟨rfl, fun ys hy => by rw [I.tuple_inj hy hq]; exact hx⟩, st', fun b hb => (hf b hb).1⟩⟩
  done := by
    intro X hP hw hK hc i pins s σ H E I hf st hg
    subst hP hw hK
    obtain ⟨xs, hq, hx⟩ := hg
    obtain ⟨its, rv, p, hz⟩ := I.tuple hq
    obtain ⟨f0, f1, f2, f3, f4, f5⟩ := hf it (by simp)
    have hl := rv.length
    exact wpAny_pyNext_tuple_end (I.ok.hd hc) st (show s.heap.IsTuple a its.toArray from p) (by simp; omega) fun h' eb => ⟨rfl, I.turned (t' := s.toks) (fun b o hb e => eb b o hb e) f0 f1 f3 f4 f5⟩
  self := fun _ _ _ _ _ st h => wpAny_pyIter_tupleiter st h
theorem turn_range {P : Program} {w : World} {K : PySem.W.Frag} {tg : Expr} (it : Addr) (lo : Int) (n : Nat) : Turn P w K tg (Itr lo n) [it] it (fun i h => IsRangeIter h it (lo + (i : Nat) * 1) ((n : Int) - (i : Nat)) 1) where
  mem := by simp
  obj := fun i h st b hb => by
    have e : b = it := by simpa using hb
    subst e
    exact ⟨_, st, fun v z => by
      have z' : Data.fields _ = Data.cell v := z
      cases z'⟩
  keep := fun i h h' st k => k it (by simp) _ st
  item := by
    intro X hP hw hK hc i pins s σ H E I hf st hg
    subst hP hw hK
    obtain ⟨f0, f1, f2, f3, f4, f5⟩ := hf it (by simp)
    have W := Walks.range (prog := X.prog) (w := X.w) (I.ok.hd hc) it lo 1 n
    refine W.item i s _ _ hg st fun v h' tk hv st' kk => ?_
    obtain ⟨t, rfl⟩ := hv
    have I1 : Inv X pins σ H { s with heap := h', toks := tk } := I.turned (fun b o hb e => kk b o (by simpa using hb) e) f0 f1 f3 f4 f5
    refine ⟨_, rfl, go_of (s := { s with heap := h', toks := tk }) (n := "range_iterator") st' rfl rfl (by decide) ⟨.int (lo + i), H, I1, ⟨t, ?_⟩, ⟨rfl, rfl⟩, st', fun b hb => (hf b hb).1⟩⟩
    rw [Int.mul_one]
  done := by
    intro X hP hw hK hc i pins s σ H E I hf st hg
    subst hP hw hK
    obtain ⟨f0, f1, f2, f3, f4, f5⟩ := hf it (by simp)
    exact wpAny_pyNext_range_end (I.ok.hd hc) st (by have : n ≤ i := hg; omega) fun h' eb => ⟨rfl, I.turned (t' := s.toks) (fun b o hb e => eb b o hb e) f0 f1 f3 f4 f5⟩
  self := fun _ _ _ _ _ st h => wpAny_pyIter_rangeiter st h
end L2

namespace L2
open PySem PySem.Spec PyProof.Rows
section
variable {X : Cx} {tg : Expr}
def iList (K : PySem.W.Frag) (tl : TE) : TI := fun σ H R => tl σ H fun x H1 => ∃ a, x = .ref a ∧ (∃ xs, SqL K H1 a xs) ∧ R (Itl K a) H1
def iTup (K : PySem.W.Frag) (tl : TE) : TI := fun σ H R => tl σ H fun x H1 => ∃ a, x = .ref a ∧ (∃ xs, SqT K H1 a xs) ∧ R (Itt K a) H1
theorem pi_list {l : Expr} {tl : TE} (hl : PE X l tl) : PI X tg l (iList X.K tl) := by
  intro pins s σ H R I h
  refine thn (hl pins s σ H _ I h) fun v s1 ⟨x, H1, I1, r1, q1⟩ => ?_
  obtain ⟨a, e, ⟨xs, hq⟩, q⟩ := q1
  subst e
  cases r1
  obtain ⟨its, rv, p, hz⟩ := I1.list hq
  refine wpAny_pyIter_list p.isList ?_
  refine ⟨s1.heap.objs.size, [s1.heap.objs.size], _, _, H1, rfl, I1.kept (t' := s1.toks) fun b o e => Heap.get?_push_of_some _ e, turn_list a _, ⟨_, Heap.get?_push_size _ rfl, rfl, rfl⟩, fun b hb => ?_, q⟩
  have e : b = s1.heap.objs.size := by simpa using hb
  subst e
  exact I1.fpOk (Nat.le_refl _) (I1.hok.fresh (Nat.le_refl _))
theorem pi_tup {l : Expr} {tl : TE} (hl : PE X l tl) : PI X tg l (iTup X.K tl) := by
  intro pins s σ H R I h
  refine thn (hl pins s σ H _ I h) fun v s1 ⟨x, H1, I1, r1, q1⟩ => ?_
  obtain ⟨a, e, ⟨xs, hq⟩, q⟩ := q1
  subst e
  cases r1
  obtain ⟨its, rv, p, hz⟩ := I1.tuple hq
  refine wpAny_pyIter_tuple (show s1.heap.IsTuple a its.toArray from p) ?_
  refine ⟨s1.heap.objs.size, [s1.heap.objs.size], _, _, H1, rfl, I1.kept (t' := s1.toks) fun b o e => Heap.get?_push_of_some _ e, turn_tuple a _, ⟨_, Heap.get?_push_size _ rfl, rfl, rfl⟩, fun b hb => ?_, q⟩
  have e : b = s1.heap.objs.size := by simpa using hb
  subst e
  exact I1.fpOk (Nat.le_refl _) (I1.hok.fresh (Nat.le_refl _))
theorem range_it {pins : List (Addr × Obj)} {σ : St} {H : Hp} {s : Shared} {R : It → Hp → Prop} {E : Value → Shared → Prop} {lo hi : Int} {t u v : Tok} {tk : Nat} (I : Inv X pins σ H s) (h1 : -(2 ^ 62) ≤ lo) (h2 : lo < 2 ^ 62) (h3 : -(2 ^ 62) ≤ hi) (h4 : hi < 2 ^ 62)
    (q : R (Itr lo (hi - lo).toNat) H) : wpAny (model X.prog X.w) X.A (pyIter (.ref s.heap.objs.size)) (PIE X pins σ tg R) E { s with heap := s.heap.push { cls := .type "range", data := .fields #[.int lo t, .int hi u, .int 1 v] }, toks := tk } := by
  refine wpAny_pyIter_range (IsRange.new ..) (small_one h1 h2 h3 h4) ?_
  have I1 : Inv X pins σ H { s with heap := s.heap.push { cls := .type "range", data := .fields #[.int lo t, .int hi u, .int 1 v] }, toks := tk } := I.kept fun b o e => Heap.get?_push_of_some _ e
  refine ⟨(s.heap.push { cls := .type "range", data := .fields #[.int lo t, .int hi u, .int 1 v] }).objs.size, [(s.heap.push { cls := .type "range", data := .fields #[.int lo t, .int hi u, .int 1 v] }).objs.size], _, _, H, rfl,
    I1.kept (t' := tk) fun b o e => Heap.get?_push_of_some _ e, turn_range _ lo (hi - lo).toNat, ?_, fun b hb => ?_, q⟩
  · have e1 : lo + ((0 : Nat) : Int) * 1 = lo := by simp
    have e2 : (((hi - lo).toNat : Nat) : Int) - ((0 : Nat) : Int) = Builtin.Range.rangeSize lo hi 1 := by rw [rangeSize_one]; split <;> omega
    show IsRangeIter _ _ (lo + ((0 : Nat) : Int) * 1) ((((hi - lo).toNat : Nat) : Int) - ((0 : Nat) : Int)) 1
    rw [e1, e2]
    exact Heap.get?_push_size _ rfl
  · have e : b = (s.heap.push { cls := .type "range", data := .fields #[.int lo t, .int hi u, .int 1 v] }).objs.size := by simpa using hb
    subst e
    exact I1.fpOk (Nat.le_refl _) (I1.hok.fresh (Nat.le_refl _))
def iRng1 (ta : TA) : TI := fun σ H R => ta σ H fun vs H1 => ∃ j : Int, vs = [.int j] ∧ -(2 ^ 62) ≤ j ∧ j < 2 ^ 62 ∧ R (Itr 0 j.toNat) H1
theorem pi_range1 {a : Expr} {ta : TA} {p pos : Pos} (hg : Gl X "range") (hm : X.mg "range" = none) (ha : PA X [a] ta) (hs : starEach [a] X.env = [(false, eval a X.env)] := by rfl) : PI X tg (.Call (.Name "range" p) [a] [] pos) (iRng1 ta) := by
  intro pins s σ H R I h
  refine Call_ (ld_blt I hg hm boot_range (PyProof.Rows.callWith_type1 (thn (ha pos pins s σ H _ I h) fun us s1 ⟨vs, H1, I1, r1, q1⟩ => ?_) hs rfl))
  obtain ⟨j, e, q1, q2, q⟩ := q1
  subst e
  cases r1 with
  | cons r rr =>
    cases rr
    obtain ⟨t, rfl⟩ := r
    exact call_range_1 (range_it I1 (by omega) (by omega) q1 q2 (by simpa using q))
def tFor (wi : TI) (g : TG) (tb : TS) : TS := fun D σ H => wi σ H fun J H1 => ∃ W : Nat → Nat → St → Hp → Prop, (∃ m, W 0 m σ H1) ∧ ∀ i m σ H, W i m σ H →
  (J.stop i H ∧ D.nx σ H) ∨ (J.go i H ∧ ∃ N : St → Hp → Prop, (∀ σ' H', N σ' H' → ∃ m', m' < m ∧ W (i + 1) m' σ' H') ∧ ∀ x H', J.yld i H x H' → g x σ H' fun σ2 H2 => tb { D with nx := N, ct := N, bk := D.nx } σ2 H2)
def pinsAt (fp : List Addr) (h : Heap) : List (Addr × Obj) := fp.filterMap fun b => (h.get? b).map fun o => (b, o)
theorem mem_pinsAt {fp : List Addr} {h : Heap} {b : Addr} {o : Obj} (hb : b ∈ fp) (e : h.get? b = some o) : (b, o) ∈ pinsAt fp h := List.mem_filterMap.mpr ⟨b, hb, by rw [e]; rfl⟩
theorem of_pinsAt {fp : List Addr} {h : Heap} {p : Addr × Obj} (hp : p ∈ pinsAt fp h) : p.1 ∈ fp ∧ h.get? p.1 = some p.2 := by
  obtain ⟨b, hb, e⟩ := List.mem_filterMap.mp hp
  cases q : h.get? b with
  | none => rw [q] at e; cases e
  | some o =>
    rw [q] at e
    have e' : (b, o) = p := Option.some.inj e
    subst e'
    exact ⟨hb, q⟩
theorem Inv.pinned {pins : List (Addr × Obj)} {σ : St} {H : Hp} {s : Shared} {fp : List Addr} (I : Inv X pins σ H s) (hf : ∀ b ∈ fp, FpOk X pins H b) (ho : ∀ b ∈ fp, ∃ o, s.heap.get? b = some o ∧ ∀ v, o.data ≠ .cell v) : Inv X (pins ++ pinsAt fp s.heap) σ H s :=
  I.pins_of fun p hp => (List.mem_append.mp hp).elim (fun z => I.pin p (List.mem_append_right _ z)) fun z => by
    obtain ⟨hb, e⟩ := of_pinsAt z
    obtain ⟨f0, f1, f2, _⟩ := hf p.1 hb
    obtain ⟨o, e', d⟩ := ho p.1 hb
    rw [e] at e'; cases e'
    exact ⟨e, f0, f1, f2, d⟩
theorem Inv.unpinned {pins pl : List (Addr × Obj)} {σ : St} {H : Hp} {s : Shared} (I : Inv X (pins ++ pl) σ H s) : Inv X pins σ H s := I.pins_of fun p hp => I.pin p (List.mem_append_right _ (List.mem_append_left _ hp))
theorem ps_for {iter : Expr} {body : List Stmt} {wi : TI} {g : TG} {tb : TS} {pos : Pos} (hp : PassesOwn (model X.prog X.w) X.A X.env X.xe) (hc : X.calm = true) (hi : PI X tg iter wi) (hg : PG X tg g) (hb : PSs X body tb)
    (hs : ∀ x, foldedSetIterable iter X.env x = pure x := by intro _; rfl) : PS X (.For tg iter body [] pos) (tFor wi g tb) := by
  intro pins s σ H D I h
  refine wpAny_For (thn (hi pins s σ H _ I h) fun v s1 h1 => thn h1 fun itv s2 h2 => ?_) hs
  obtain ⟨it, fp, tn, J, H2, e, I2, T, st2, f2, W, ⟨m0, w0⟩, turn⟩ := h2
  subst e
  have stat : ∀ {H' : Hp}, (∀ b ∈ fp, H' b = none) → ∀ b ∈ fp, FpOk X pins H' b := fun hn b hb => ⟨hn b hb, (f2 b hb).2⟩
  refine codeAny_forLoop_any (fun n s' => ∃ i σ' H', Inv X pins σ' H' s' ∧ tn i s'.heap ∧ (∀ b ∈ fp, H' b = none) ∧ W i n σ' H') ?_ m0 ⟨0, σ, H2, I2, st2, fun b hb => (f2 b hb).1, w0⟩
  rintro n s3 ⟨i, σ3, H3, I3, st3, fr3, w3⟩
  rcases turn i n σ3 H3 w3 with ⟨stop, qn⟩ | ⟨go, N, hN, step⟩
  · refine wpAny_passesOwn hp (thn (T.done X rfl rfl rfl hc i pins s3 σ3 H3 X.xe I3 (stat fr3) st3 stop) fun r s4 ⟨hr, I4⟩ => ?_)
    subst hr
    exact wpAny_execs_nil ⟨σ3, H3, I4, qn⟩
  · refine wpAny_passesOwn hp (thn (T.item X rfl rfl rfl hc i pins s3 σ3 H3 X.xe I3 (stat fr3) st3 go) fun r s4 ⟨u, hr, h4⟩ => ?_)
    subst hr
    refine wpAny_passesOwn hp (thn h4 fun _ s5 ⟨x, H5, I5, r5, y5, st5, fr5⟩ => ?_)
    have I5' := I5.pinned (stat fr5) (T.obj _ _ st5)
    refine wpAny_passesOwn hp (thn (hg _ s5 σ3 H5 x u _ I5' r5 (step x H5 y5)) fun _ s6 ⟨σ6, H6, I6, q6⟩ => ?_)
    refine wpAny_passesOwn hp (thn (hb _ s6 σ6 H6 _ I6 q6) fun f s7 q7 => ?_)
    have again : ∀ {σ7 : St} {H7 : Hp}, Inv X (pins ++ pinsAt fp s5.heap) σ7 H7 s7 → N σ7 H7 → ∃ m, m < n ∧ ∃ i σ' H', Inv X pins σ' H' s7 ∧ tn i s7.heap ∧ (∀ b ∈ fp, H' b = none) ∧ W i m σ' H' := fun {σ7 H7} I7 n7 => by
      obtain ⟨m', hm, w7⟩ := hN σ7 H7 n7
      refine ⟨m', hm, i + 1, σ7, H7, I7.unpinned, T.keep _ _ _ st5 fun b hb o e => (I7.pin (b, o) (List.mem_append_right _ (List.mem_append_right _ (mem_pinsAt hb e)))).1, fun b hb => ?_, w7⟩
      obtain ⟨o, e, d⟩ := T.obj _ _ st5 b hb
      exact (I7.pin (b, o) (List.mem_append_right _ (List.mem_append_right _ (mem_pinsAt hb e)))).2.1
    cases f with
    | next => obtain ⟨σ7, H7, I7, n7⟩ := q7; exact again I7 n7
    | cont => obtain ⟨σ7, H7, I7, n7⟩ := q7; exact again I7 n7
    | brk => obtain ⟨σ7, H7, I7, q7⟩ := q7; exact ⟨σ7, H7, I7.unpinned, q7⟩
    | ret v => obtain ⟨x7, σ7, H7, I7, r7, q7⟩ := q7; exact ⟨x7, σ7, H7, I7.unpinned, r7, q7⟩
end

theorem for_list {K : PySem.W.Frag} {a : Addr} {xs : List V} {g : TG} {tb : TS} {D : Ends} {σ : St} {H : Hp} (Pv : Nat → St → Hp → Prop) (h0 : Pv 0 σ H) (hl : ∀ i σ H, i ≤ xs.length → Pv i σ H → SqL K H a xs)
    (hs : ∀ i x σ H, xs[i]? = some x → Pv i σ H → g x σ H fun σ2 H2 => tb { D with nx := Pv (i + 1), ct := Pv (i + 1), bk := D.nx } σ2 H2) (hd : ∀ σ H, Pv xs.length σ H → D.nx σ H) :
    ∃ W : Nat → Nat → St → Hp → Prop, (∃ m, W 0 m σ H) ∧ ∀ i m σ H, W i m σ H →
      ((Itl K a).stop i H ∧ D.nx σ H) ∨ ((Itl K a).go i H ∧ ∃ N : St → Hp → Prop, (∀ σ' H', N σ' H' → ∃ m', m' < m ∧ W (i + 1) m' σ' H') ∧ ∀ x H', (Itl K a).yld i H x H' → g x σ H' fun σ2 H2 => tb { D with nx := N, ct := N, bk := D.nx } σ2 H2) := by
  refine ⟨fun i m σ H => m = xs.length - i ∧ i ≤ xs.length ∧ Pv i σ H, ⟨xs.length, by simp, Nat.zero_le _, h0⟩, ?_⟩
  rintro i m σ H ⟨rfl, hi, p⟩
  have q := hl i σ H hi p
  by_cases hlt : i < xs.length
  · refine .inr ⟨⟨xs, xs[i], q, by simp [hlt]⟩, Pv (i + 1), fun σ' H' p' => ⟨xs.length - (i + 1), by omega, rfl, hlt, p'⟩, fun x H' y => ?_⟩
    obtain ⟨e, y⟩ := y
    subst e
    exact hs i x σ _ (y xs q) p
  · have e : i = xs.length := by omega
    subst e
    exact .inl ⟨⟨xs, q, Nat.le_refl _⟩, hd σ H p⟩
theorem for_range {lo : Int} {n : Nat} {g : TG} {tb : TS} {D : Ends} {σ : St} {H : Hp} (Pv : Nat → St → Hp → Prop) (h0 : Pv 0 σ H)
    (hs : ∀ i σ H, i < n → Pv i σ H → g (.int (lo + i)) σ H fun σ2 H2 => tb { D with nx := Pv (i + 1), ct := Pv (i + 1), bk := D.nx } σ2 H2) (hd : ∀ σ H, Pv n σ H → D.nx σ H) :
    ∃ W : Nat → Nat → St → Hp → Prop, (∃ m, W 0 m σ H) ∧ ∀ i m σ H, W i m σ H →
      ((Itr lo n).stop i H ∧ D.nx σ H) ∨ ((Itr lo n).go i H ∧ ∃ N : St → Hp → Prop, (∀ σ' H', N σ' H' → ∃ m', m' < m ∧ W (i + 1) m' σ' H') ∧ ∀ x H', (Itr lo n).yld i H x H' → g x σ H' fun σ2 H2 => tb { D with nx := N, ct := N, bk := D.nx } σ2 H2) := by
  refine ⟨fun i m σ H => m = n - i ∧ i ≤ n ∧ Pv i σ H, ⟨n, by simp, Nat.zero_le _, h0⟩, ?_⟩
  rintro i m σ H ⟨rfl, hi, p⟩
  by_cases hlt : i < n
  · refine .inr ⟨hlt, Pv (i + 1), fun σ' H' p' => ⟨n - (i + 1), by omega, rfl, hlt, p'⟩, fun x H' y => ?_⟩
    obtain ⟨e, y⟩ := y
    subst e y
    exact hs i σ _ hlt p
  · have e : i = n := by omega
    subst e
    exact .inl ⟨Nat.le_refl _, hd σ H p⟩
end L2

namespace L2
open PySem PySem.Spec PyProof.Rows

abbrev R2 := V → V → Hp → VK → Prop
def OpR (X : Cx) (f : Value → Value → Sem Value) (r : R2) : Prop :=
  ∀ (pins : List (Addr × Obj)) (s : Shared) (σ : St) (H : Hp) (x y : V) (v u : Value) (Q : VK), Inv X pins σ H s → RelV x v → RelV y u → r x y H Q →
    wpAny (model X.prog X.w) X.A (f v u) (EP X pins σ Q) X.xe s
def CallR (X : Cx) (f : Value) (r : List V → Hp → VK → Prop) : Prop :=
  ∀ (pins : List (Addr × Obj)) (s : Shared) (σ : St) (H : Hp) (xs : List V) (us : List Value) (Q : VK), Inv X pins σ H s → Vals xs us → r xs H Q →
    wpAny (model X.prog X.w) X.A (call f us) (EP X pins σ Q) X.xe s
def TruR (X : Cx) (r : V → Hp → (Bool → Hp → Prop) → Prop) : Prop :=
  ∀ (pins : List (Addr × Obj)) (s : Shared) (σ : St) (H : Hp) (x : V) (v : Value) (Q : Bool → Hp → Prop), Inv X pins σ H s → RelV x v → r x H Q →
    wpAny (model X.prog X.w) X.A (truthy v) (TP X pins σ Q) X.xe s

def tOp (r : R2) (ta tb : TE) : TE := fun σ H Q => ta σ H fun x H1 => tb σ H1 fun y H2 => r x y H2 Q
def rI (C : Int → Int → Prop) (g : Int → Int → V) : R2 := fun x y H Q => ∃ i j, x = .int i ∧ y = .int j ∧ C i j ∧ Q (g i j) H
def rI0 (g : Int → Int → V) : R2 := fun x y H Q => ∃ i j, x = .int i ∧ y = .int j ∧ Q (g i j) H
section
variable {X : Cx} {a b c : Expr} {ta tb tc : TE} {pos : Pos}

theorem binT (ha : PE X a ta) (hb : PE X b tb) {pins : List (Addr × Obj)} {s : Shared} {σ : St} {H : Hp} {R : V → V → Hp → Prop} (I : Inv X pins σ H s)
    (h : ta σ H fun x H1 => tb σ H1 fun y H2 => R x y H2) {Q : Value → Shared → Prop} {f : Value → Value → Sem Value}
    (hf : ∀ v u s2 x y H2, Inv X pins σ H2 s2 → RelV x v → RelV y u → R x y H2 → wpAny (model X.prog X.w) X.A (f v u) Q X.xe s2) :
    wpAny (model X.prog X.w) X.A (eval a X.env) (fun v s₁ => wpAny (model X.prog X.w) X.A (eval b X.env) (fun u s₂ => wpAny (model X.prog X.w) X.A (f v u) Q X.xe s₂) X.xe s₁) X.xe s := by
  refine thn (ha pins s σ H _ I h) fun v s1 ⟨x, H1, I1, r1, q1⟩ => ?_
  refine thn (hb pins s1 σ H1 _ I1 q1) fun u s2 ⟨y, H2, I2, r2, q2⟩ => ?_
  exact hf v u s2 x y H2 I2 r1 r2 q2

theorem pe_op {op : Operator} {r : R2} (ho : OpR X (binaryOp op) r) (ha : PE X a ta) (hb : PE X b tb) : PE X (.BinOp a op b pos) (tOp r ta tb) := by
  intro pins s σ H Q I h
  exact wpAny_BinOp (binT ha hb I h fun v u s2 x y H2 I2 rx ry q => ho pins s2 σ H2 x y v u Q I2 rx ry q)
theorem opI {f : Value → Value → Sem Value} {C : Int → Int → Prop} {g : Int → Int → Int}
    (rule : ∀ (i j : Int) (t u : Tok) (s : Shared) (Q : Value → Shared → Prop) (E : Value → Shared → Prop), C i j → Q (.int (g i j) s.toks) { s with toks := s.toks + 1 } → wpAny (model X.prog X.w) X.A (f (.int i t) (.int j u)) Q E s) :
    OpR X f (rI C fun i j => .int (g i j)) := by
  intro pins s σ H x y v u Q I rx ry h
  obtain ⟨i, j, rfl, rfl, hc, q⟩ := h
  obtain ⟨t, rfl⟩ := rx
  obtain ⟨t', rfl⟩ := ry
  exact rule i j t t' s _ _ hc ⟨.int (g i j), H, I.tok _, ⟨_, rfl⟩, q⟩
theorem opI0 {f : Value → Value → Sem Value} {g : Int → Int → Int}
    (rule : ∀ (i j : Int) (t u : Tok) (s : Shared) (Q : Value → Shared → Prop) (E : Value → Shared → Prop), Q (.int (g i j) s.toks) { s with toks := s.toks + 1 } → wpAny (model X.prog X.w) X.A (f (.int i t) (.int j u)) Q E s) :
    OpR X f (rI0 fun i j => .int (g i j)) := by
  intro pins s σ H x y v u Q I rx ry h
  obtain ⟨i, j, rfl, rfl, q⟩ := h
  obtain ⟨t, rfl⟩ := rx
  obtain ⟨t', rfl⟩ := ry
  exact rule i j t t' s _ _ ⟨.int (g i j), H, I.tok _, ⟨_, rfl⟩, q⟩
theorem opB0 {f : Value → Value → Sem Value} {g : Int → Int → Bool}
    (rule : ∀ (i j : Int) (t u : Tok) (s : Shared) (Q : Value → Shared → Prop) (E : Value → Shared → Prop), Q (.bool (g i j)) s → wpAny (model X.prog X.w) X.A (f (.int i t) (.int j u)) Q E s) :
    OpR X f (rI0 fun i j => .bl (g i j)) := by
  intro pins s σ H x y v u Q I rx ry h
  obtain ⟨i, j, rfl, rfl, q⟩ := h
  obtain ⟨t, rfl⟩ := rx
  obtain ⟨t', rfl⟩ := ry
  exact rule i j t t' s _ _ ⟨.bl (g i j), H, I, rfl, q⟩

def CDiv (i j : Int) : Prop := 0 < j ∧ j < 1073741824
def CPow (i j : Int) : Prop := 0 ≤ j ∧ j ≤ 1000000 ∧ i.natAbs < 2 ^ 64
def CMul (i j : Int) : Prop := (-(2 ^ 64) < i ∧ i < 2 ^ 64) ∨ (-(2 ^ 64) < j ∧ j < 2 ^ 64)
theorem CMul.ok {i j : Int} (h : CMul i j) : IntMulOk i j := by
  rcases h with ⟨h1, h2⟩ | ⟨h1, h2⟩
  · exact .of_left (intBits_le_64 h1 h2)
  · exact .of_right (intBits_le_64 h1 h2)
theorem op_add : OpR X (binaryOp .Add) (rI0 fun i j => .int (i + j)) := opI0 fun _ _ _ _ _ _ _ q => add_int q
theorem op_mul : OpR X (binaryOp .Mult) (rI CMul fun i j => .int (i * j)) := opI fun _ _ _ _ _ _ _ hc q => mul_int q hc.ok
theorem op_fdiv : OpR X (binaryOp .FloorDiv) (rI CDiv fun i j => .int (i / j)) := opI fun i j _ _ _ _ _ hc q => by
  have h1 : (0 : Int) < j := hc.1
  have h2 : j < 1073741824 := hc.2
  exact floordiv_int (by omega) (by rw [Int.fdiv_eq_ediv_of_nonneg i (by omega)]; exact q) (.inl (PyProof.noPylong_small (by omega)))
theorem op_mod : OpR X (binaryOp .Mod) (rI (fun _ j => 0 < j) fun i j => .int (i % j)) := opI fun i j _ _ _ _ _ hc q => by
  have h1 : (0 : Int) < j := hc
  exact mod_int' (by omega) (by rw [Int.fmod_eq_emod_of_nonneg i (by omega)]; exact q)
theorem op_pow : OpR X (binaryOp .Pow) (rI CPow fun i j => .int (i ^ j.toNat)) := opI fun _ _ _ _ _ _ _ hc q => pow_int_small hc.1 hc.2.1 hc.2.2 q
end

def scal : V → V → Bool
  | .non, .non => true | .non, .int _ => true | .int _, .non => true | .non, .bl _ => true | .bl _, .non => true | .non, .str _ => true | .str _, .non => true
  | .int _, .int _ => true | .bl _, .bl _ => true | .str _, .str _ => true | .byt _, .byt _ => true
  | .int _, .str _ => true | .str _, .int _ => true | .bl _, .str _ => true | .str _, .bl _ => true
  | _, _ => false
def rEq : R2 := fun x y H Q => scal x y = true ∧ Q (.bl (decide (x = y))) H
def rNe : R2 := fun x y H Q => scal x y = true ∧ Q (.bl (!decide (x = y))) H

theorem dec_int {i j : Int} : decide (V.int i = V.int j) = (i == j) := by
  rw [Bool.eq_iff_iff]
  simp
theorem dec_bl {i j : Bool} : decide (V.bl i = V.bl j) = (i == j) := by
  rw [Bool.eq_iff_iff]
  simp
theorem dec_str {i j : Str} : decide (V.str i = V.str j) = (i == j) := by
  rw [Bool.eq_iff_iff]
  simp
theorem dec_byt {i j : Array UInt8} : decide (V.byt i = V.byt j) = (i.toList == j.toList) := by
  rw [Bool.eq_iff_iff]
  cases i
  cases j
  simp

section
variable {X : Cx} {a b c : Expr} {ta tb tc : TE} {pos : Pos}
theorem fin_bl {pins : List (Addr × Obj)} {σ : St} {H : Hp} {s : Shared} {Q : VK} {k k' : Bool} (I : Inv X pins σ H s) (q : Q (.bl k) H) (e : k = k') : EP X pins σ Q (.bool k') s := by
  subst e
  exact ⟨.bl k, H, I, rfl, q⟩
theorem op_eq : OpR X (compareOp .Eq) rEq := by
  intro pins s σ H x y v u Q I rx ry h
  obtain ⟨hs, q⟩ := h
  cases x with
  | non =>
    cases rx
    cases y with
    | non => cases ry; exact PySem.EqNone.eq_none_none (fin_bl I q (by simp))
    | bl j => cases ry; exact PySem.EqNone.eq_none_bool (fin_bl I q (by simp))
    | int j => obtain ⟨t', rfl⟩ := ry; exact PySem.EqNone.eq_none_int (fin_bl I q (by simp))
    | str j => obtain ⟨t', rfl⟩ := ry; exact PySem.EqNone.eq_none_str (fin_bl I q (by simp))
    | _ => exact absurd (show false = true from hs) Bool.false_ne_true
  | bl i =>
    cases rx
    cases y with
    | non => cases ry; exact PySem.EqNone.eq_bool_none (fin_bl I q (by simp))
    | bl j => cases ry; exact eq_bool (fin_bl I q dec_bl)
    | str j => obtain ⟨t', rfl⟩ := ry; exact PySem.EqMixed.eq_bool_str (fin_bl I q (by simp))
    | _ => exact absurd (show false = true from hs) Bool.false_ne_true
  | int i =>
    obtain ⟨t, rfl⟩ := rx
    cases y with
    | non => cases ry; exact PySem.EqNone.eq_int_none (fin_bl I q (by simp))
    | int j => obtain ⟨t', rfl⟩ := ry; exact eq_int (fin_bl I q dec_int)
    | str j => obtain ⟨t', rfl⟩ := ry; exact PySem.EqMixed.eq_int_str (fin_bl I q (by simp))
    | _ => exact absurd (show false = true from hs) Bool.false_ne_true
  | str i =>
    obtain ⟨t, rfl⟩ := rx
    cases y with
    | non => cases ry; exact PySem.EqNone.eq_str_none (fin_bl I q (by simp))
    | bl j => cases ry; exact PySem.EqMixed.eq_str_bool (fin_bl I q (by simp))
    | int j => obtain ⟨t', rfl⟩ := ry; exact PySem.EqMixed.eq_str_int (fin_bl I q (by simp))
    | str j => obtain ⟨t', rfl⟩ := ry; exact eq_str (fin_bl I q dec_str)
    | _ => exact absurd (show false = true from hs) Bool.false_ne_true
  | byt i =>
    obtain ⟨t, rfl⟩ := rx
    cases y with
    | byt j => obtain ⟨t', rfl⟩ := ry; exact PySem.W.eq_bytes (fin_bl I q dec_byt)
    | _ => exact absurd (show false = true from hs) Bool.false_ne_true
  | _ => cases y <;> exact absurd (show false = true from hs) Bool.false_ne_true
theorem op_ne : OpR X (compareOp .NotEq) rNe := by
  intro pins s σ H x y v u Q I rx ry h
  obtain ⟨hs, q⟩ := h
  cases x with
  | non =>
    cases rx
    cases y with
    | non => cases ry; exact PySem.EqNone.ne_none_none (fin_bl I q (by simp))
    | bl j => cases ry; exact PySem.EqNone.ne_none_bool (fin_bl I q (by simp))
    | int j => obtain ⟨t', rfl⟩ := ry; exact PySem.EqNone.ne_none_int (fin_bl I q (by simp))
    | str j => obtain ⟨t', rfl⟩ := ry; exact PySem.EqNone.ne_none_str (fin_bl I q (by simp))
    | _ => exact absurd (show false = true from hs) Bool.false_ne_true
  | bl i =>
    cases rx
    cases y with
    | non => cases ry; exact PySem.EqNone.ne_bool_none (fin_bl I q (by simp))
    | bl j => cases ry; exact ne_bool (fin_bl I q (congrArg not dec_bl))
    | str j => obtain ⟨t', rfl⟩ := ry; exact PySem.EqMixed.ne_bool_str (fin_bl I q (by simp))
    | _ => exact absurd (show false = true from hs) Bool.false_ne_true
  | int i =>
    obtain ⟨t, rfl⟩ := rx
    cases y with
    | non => cases ry; exact PySem.EqNone.ne_int_none (fin_bl I q (by simp))
    | int j => obtain ⟨t', rfl⟩ := ry; exact ne_int (fin_bl I q (congrArg not dec_int))
    | str j => obtain ⟨t', rfl⟩ := ry; exact PySem.EqMixed.ne_int_str (fin_bl I q (by simp))
    | _ => exact absurd (show false = true from hs) Bool.false_ne_true
  | str i =>
    obtain ⟨t, rfl⟩ := rx
    cases y with
    | non => cases ry; exact PySem.EqNone.ne_str_none (fin_bl I q (by simp))
    | bl j => cases ry; exact PySem.EqMixed.ne_str_bool (fin_bl I q (by simp))
    | int j => obtain ⟨t', rfl⟩ := ry; exact PySem.EqMixed.ne_str_int (fin_bl I q (by simp))
    | str j => obtain ⟨t', rfl⟩ := ry; exact ne_str (fin_bl I q (congrArg not dec_str))
    | _ => exact absurd (show false = true from hs) Bool.false_ne_true
  | byt i =>
    obtain ⟨t, rfl⟩ := rx
    cases y with
    | byt j => obtain ⟨t', rfl⟩ := ry; exact PySem.W.ne_bytes (fin_bl I q (congrArg not dec_byt))
    | _ => exact absurd (show false = true from hs) Bool.false_ne_true
  | _ => cases y <;> exact absurd (show false = true from hs) Bool.false_ne_true

theorem op_lt : OpR X (compareOp .Lt) (rI0 fun i j => .bl (decide (i < j))) := opB0 fun _ _ _ _ _ _ _ q => lt_int q
theorem op_le : OpR X (compareOp .LtE) (rI0 fun i j => .bl (decide (i ≤ j))) := opB0 fun _ _ _ _ _ _ _ q => le_int q
theorem op_gt : OpR X (compareOp .Gt) (rI0 fun i j => .bl (decide (j < i))) := opB0 fun _ _ _ _ _ _ _ q => gt_int q
theorem op_in_str : OpR X (compareOp .In) (fun x y H Q => ∃ i j, x = .str i ∧ y = .str j ∧ Q (.bl (!(Builtin.Str.occurrences j i 0 j.length 1).isEmpty)) H) := by
  intro pins s σ H x y v u Q I rx ry h
  obtain ⟨i, j, rfl, rfl, q⟩ := h
  obtain ⟨t, rfl⟩ := rx
  obtain ⟨t', rfl⟩ := ry
  exact in_str (fin_bl I q rfl)

theorem nomark (b : Expr) {op : CmpOp} (h : op ≠ .In := by decide) (h2 : op ≠ .NotIn := by decide) : behindInMarks op b = false := by
  have e1 : (op == CmpOp.In) = false := by cases op <;> first | rfl | exact absurd rfl h
  have e2 : (op == CmpOp.NotIn) = false := by cases op <;> first | rfl | exact absurd rfl h2
  cases b <;> simp [behindInMarks, e1, e2]
theorem pe_cmpR {op : CmpOp} {r : R2} (ho : OpR X (compareOp op) r) (ha : PE X a ta) (hb : PE X b tb) (hm : behindInMarks op b = false) : PE X (.Compare a [op] [b] pos) (tOp r ta tb) := by
  intro pins s σ H Q I h
  exact wpAny_Compare1 (binT ha hb I h fun v u s2 x y H2 I2 rx ry q => ho pins s2 σ H2 x y v u Q I2 rx ry q) hm
def tTest (t : TE) : TT := fun σ H Q => t σ H fun x H' => ∃ k, x = .bl k ∧ Q k H'
theorem pt_cmpR {op : CmpOp} {r : R2} (ho : OpR X (compareOp op) r) (ha : PE X a ta) (hb : PE X b tb) (hm : behindInMarks op b = false) : PT X (.Compare a [op] [b] pos) (tTest (tOp r ta tb)) := by
  intro pins s σ H Q I h
  refine wpAny_isTrue_Compare1 (thn (ha pins s σ H _ I h) fun v s1 ⟨x, H1, I1, r1, q1⟩ => thn (hb pins s1 σ H1 _ I1 q1) fun u s2 ⟨y, H2, I2, r2, q2⟩ =>
    thn (ho pins s2 σ H2 x y v u _ I2 r1 r2 q2) fun c s3 ⟨z, H3, I3, r3, k, e, q3⟩ => ?_) hm
  subst e
  cases r3
  exact wpAny_truthy_bool ⟨H3, I3, q3⟩
def tChain (r r' : R2) (ta tb tc : TE) : TE := fun σ H Q => ta σ H fun x H1 => tb σ H1 fun y H2 => r x y H2 fun z H3 => ∃ k, z = .bl k ∧
  (if k = true then tc σ H3 fun w' H4 => r' y w' H4 Q else Q (.bl false) H3)
theorem pe_chain {op op' : CmpOp} {r r' : R2} (ho : OpR X (compareOp op) r) (ho' : OpR X (compareOp op') r') (ha : PE X a ta) (hb : PE X b tb) (hc : PE X c tc)
    (hm : lastMarks [op, op'] [b, c] = false := by with_unfolding_all rfl) : PE X (.Compare a [op, op'] [b, c] pos) (tChain r r' ta tb tc) := by
  intro pins s σ H Q I h
  refine Compare_chain (thn (ha pins s σ H _ I h) fun v s1 ⟨x, H1, I1, r1, q1⟩ => chain_link (thn (hb pins s1 σ H1 _ I1 q1) fun u s2 ⟨y, H2, I2, r2, q2⟩ =>
    thn (ho pins s2 σ H2 x y v u _ I2 r1 r2 q2) fun d s3 ⟨z, H3, I3, r3, k, e, q3⟩ => ?_)) hm
  subst e
  cases r3
  refine wpAny_truthy_bool ?_
  cases k with
  | false => exact ite_ff ⟨.bl false, H3, I3, rfl, q3⟩
  | true => exact ite_tt (chain_last (thn (hc pins s3 σ H3 _ I3 q3) fun w' s4 ⟨z', H4, I4, r4, q4⟩ => ho' pins s4 σ H4 y z' u w' Q I4 r2 r4 q4))
def TruV (K : PySem.W.Frag) (x : V) (H : Hp) (k : Bool) : Prop :=
  match x with
  | .non => k = false
  | .bl b => k = b
  | .int i => k = (i != 0)
  | .str y => y.length ≤ sizeLine ∧ k = ((y.length : Int) != 0)
  | .byt y => y.size ≤ sizeLine ∧ k = ((y.size : Int) != 0)
  | .ref p => (∃ xs, SqL K H p xs ∧ k = !xs.isEmpty) ∨ (∃ xs, SqT K H p xs ∧ k = !xs.isEmpty) ∨ ∃ kvs, H p = some (.dK kvs) ∧ k = !kvs.isEmpty
  | _ => False
theorem isEmpty_kv {κ : Type} {kvs : List (κ × V)} {vs : List (κ × Value)} (r : KV kvs vs) : (!vs.isEmpty) = !kvs.isEmpty := by
  cases r <;> rfl
theorem isEmpty_of {xs : List V} {its : List Value} (r : Vals xs its) : (!its.toArray.isEmpty) = !xs.isEmpty := by
  cases r <;> simp
theorem line63 : (sizeLine : Nat) < 2 ^ 63 := by rw [sizeLine_eq]; decide
theorem tru_ok : TruR X (fun x H Q => ∃ k, TruV X.K x H k ∧ Q k H) := by
  intro pins s σ H x v Q I rx h
  obtain ⟨k, e, q⟩ := h
  have hl := line63
  have hs : sizeLine = 16777216 := sizeLine_eq
  cases x with
  | non =>
    cases rx
    have e' : k = false := e
    subst e'
    exact truthy_none ⟨H, I, q⟩
  | bl b =>
    cases rx
    have e' : k = b := e
    subst e'
    exact wpAny_truthy_bool ⟨H, I, q⟩
  | int i =>
    obtain ⟨t, rfl⟩ := rx
    have e' : k = (i != 0) := e
    subst e'
    exact PySem.P.truthy_int ⟨H, I, q⟩
  | str y =>
    obtain ⟨t, rfl⟩ := rx
    obtain ⟨hy, e'⟩ : y.length ≤ sizeLine ∧ k = ((y.length : Int) != 0) := e
    subst e'
    exact PySem.P.truthy_str (by omega) ⟨H, I.tok _, q⟩
  | byt y =>
    obtain ⟨t, rfl⟩ := rx
    obtain ⟨hy, e'⟩ : y.size ≤ sizeLine ∧ k = ((y.size : Int) != 0) := e
    subst e'
    exact PySem.W.truthy_bytes (by omega) ⟨H, I.tok _, q⟩
  | ref p =>
    cases rx
    have e' : (∃ xs, SqL X.K H p xs ∧ k = !xs.isEmpty) ∨ (∃ xs, SqT X.K H p xs ∧ k = !xs.isEmpty) ∨ ∃ kvs, H p = some (.dK kvs) ∧ k = !kvs.isEmpty := e
    rcases e' with ⟨xs, hx, e'⟩ | ⟨xs, hx, e'⟩ | ⟨kvs, hx, e'⟩
    · subst e'
      obtain ⟨its, r, pl, hz⟩ := I.list hx
      have hlen := r.length
      exact wpAny_truthy_list pl.isList (by simp only [List.size_toArray]; omega) ⟨H, I.tok _, by rw [isEmpty_of r]; exact q⟩
    · subst e'
      obtain ⟨its, r, pl, hz⟩ := I.tuple hx
      have hlen := r.length
      exact truthy_tuple pl (by simp only [List.size_toArray]; omega) ⟨H, I.tok _, by rw [isEmpty_of r]; exact q⟩
    · subst e'
      obtain ⟨hz, hS, vs, r, m⟩ : kvs.length ≤ sizeLine ∧ (p == sysModules) = false ∧ ∃ vs, KV kvs vs ∧ s.heap.DictOf (mixKind X.prog X.w) p vs := I.hok p _ hx
      have hlen : kvs.length = vs.length := Paired.length r
      exact wpAny_truthy_dict hS m (by omega) ⟨H, I.tok _, by rw [isEmpty_kv r]; exact q⟩
  | _ => exact (show False from e).elim
theorem pt_truth (ha : PE X a ta) (he : ∀ whole, isTrue a X.env whole = (do let v ← whole; standAt a.pos; holding [v] (truthy v))) :
    PT X a (fun σ H Q => ta σ H fun x H' => ∃ k, TruV X.K x H' k ∧ Q k H') := by
  intro pins s σ H Q I h
  exact isTrue_plain (thn (ha pins s σ H _ I h) fun v s1 ⟨x, H1, I1, r1, q1⟩ => tru_ok pins s1 σ H1 x v Q I1 r1 q1) (he _)

theorem vals1 {x : V} {us : List Value} (r : Vals [x] us) : ∃ u, us = [u] ∧ RelV x u := by
  cases r with
  | cons r1 r2 => cases r2; exact ⟨_, rfl, r1⟩
theorem vals2 {x y : V} {us : List Value} (r : Vals [x, y] us) : ∃ u w', us = [u, w'] ∧ RelV x u ∧ RelV y w' := by
  cases r with
  | cons r1 r2 =>
    cases r2 with
    | cons r3 r4 => cases r4; exact ⟨_, _, rfl, r1, r3⟩
theorem call_abs : CallR X (.builtin "abs") (fun xs H Q => ∃ i, xs = [.int i] ∧ Q (.int (if i < 0 then -i else i)) H) := by
  intro pins s σ H xs us Q I r h
  obtain ⟨i, rfl, q⟩ := h
  obtain ⟨u, rfl, t, rfl⟩ := vals1 r
  exact call_abs_int fun u tk => ⟨.int (if i < 0 then -i else i), H, I.tok _, ⟨_, rfl⟩, q⟩
def LenV (K : PySem.W.Frag) (x : V) (H : Hp) (n : Nat) : Prop :=
  match x with
  | .str y => y.length ≤ sizeLine ∧ n = y.length
  | .byt y => y.size ≤ sizeLine ∧ n = y.size
  | .ref p => (∃ xs, SqL K H p xs ∧ n = xs.length) ∨ ∃ xs, SqT K H p xs ∧ n = xs.length
  | _ => False
theorem call_len : CallR X (.builtin "len") (fun xs H Q => ∃ x n, xs = [x] ∧ LenV X.K x H n ∧ Q (.int n) H) := by
  intro pins s σ H xs us Q I r h
  obtain ⟨x, n, rfl, e, q⟩ := h
  obtain ⟨u, rfl, rx⟩ := vals1 r
  have hl := line63
  have hs : sizeLine = 16777216 := sizeLine_eq
  cases x with
  | str y =>
    obtain ⟨t, rfl⟩ := rx
    obtain ⟨hy, e'⟩ : y.length ≤ sizeLine ∧ n = y.length := e
    subst e'
    exact len_str (by omega) ⟨.int _, H, I.tok _, ⟨_, rfl⟩, q⟩
  | byt y =>
    obtain ⟨t, rfl⟩ := rx
    obtain ⟨hy, e'⟩ : y.size ≤ sizeLine ∧ n = y.size := e
    subst e'
    exact PySem.W.len_bytes (by omega) ⟨.int _, H, I.tok _, ⟨_, rfl⟩, q⟩
  | ref p =>
    cases rx
    have e' : (∃ xs, SqL X.K H p xs ∧ n = xs.length) ∨ ∃ xs, SqT X.K H p xs ∧ n = xs.length := e
    rcases e' with ⟨xs, hx, e'⟩ | ⟨xs, hx, e'⟩
    · subst e'
      obtain ⟨its, r', pl, hz⟩ := I.list hx
      have hlen := r'.length
      exact Calls.call_len_list pl.isList (by simp only [List.size_toArray]; omega) ⟨.int xs.length, H, I.tok _, ⟨_, by simp only [List.size_toArray]; rw [hlen]⟩, q⟩
    · subst e'
      obtain ⟨its, r', pl, hz⟩ := I.tuple hx
      have hlen := r'.length
      exact len_tuple pl (by simp only [List.size_toArray]; omega) ⟨.int xs.length, H, I.tok _, ⟨_, by simp only [List.size_toArray]; rw [hlen]⟩, q⟩
  | _ => exact (show False from e).elim
end
end L2

namespace L2
open PySem PySem.Spec PyProof.Rows

structure ObjM (h : Heap) (x dx C : Addr) (mA : Str → Option Value) : Prop where
  obj : h.get? x = some (PySem.W.instObj C dx)
  ns : h.Ns1 dx mA
  ne : dx ≠ x

theorem lookIn_ns {h : Heap} {dx : Addr} {mA : Str → Option Value} (n : h.Ns1 dx mA) : ∃ od, h.get? dx = some od ∧ ∀ name, PySem.W.lookIn name od = some (mA name) := by
  obtain ⟨o, es, ep, ho, hd, hk, _, hm⟩ := n
  refine ⟨o, ho, fun name => ?_⟩
  have e := hm name
  unfold nsFind findBy at e
  rw [← Array.find?_toList] at e
  unfold PySem.W.lookIn
  rw [hd]
  dsimp only
  split
  · rename_i y q
    rw [q] at e
    exact congrArg some e
  · rename_i q
    rw [q] at e
    have a : es.toList.any (·.refKey) = false := by
      rw [List.any_eq_false]
      intro y hy
      obtain ⟨z, t, hkey⟩ := hk y (Array.mem_toList_iff.mp hy)
      simp [DictEntry.refKey, hkey]
    have a' : ¬ es.toList.any (·.refKey) = true := by rw [a]; exact Bool.false_ne_true
    rw [if_neg a']
    exact congrArg some e

theorem ObjM.look {h : Heap} {x dx C : Addr} {mA : Str → Option Value} (I : ObjM h x dx C mA) : ∃ od, PySem.W.InstAt h x (PySem.W.instObj C dx) C (some od) ∧ ∀ name, PySem.W.lookIn name od = some (mA name) :=
  let ⟨od, ho, hl⟩ := lookIn_ns I.ns
  ⟨od, ⟨I.obj, rfl, rfl, ho⟩, hl⟩

section
variable {prog : Program} {w : World} {A : Around} {E : Value → Shared → Prop} {s : Shared} {K : PySem.W.Frag} {x dx C f : Addr} {mA : Str → Option Value} {name : Str} {v : Value}

end

theorem RelO.some_of {v : V} {o : Option Value} (r : RelO (some v) o) : ∃ u, o = some u ∧ RelV v u := by
  cases o with
  | none => exact (show False from r).elim
  | some u => exact ⟨u, rfl, r⟩
section
variable {P : Program} {w : World} {H H' : Hp} {h h' : Heap} {a C dx : Addr} {fs fs' : List (Str × V)}
theorem ins_get (hok : HOk P w H h) (e : H a = some (.ins C dx fs)) : ∃ mA, ObjM h a dx C mA ∧ (∀ f, RelO (fs.lookup f) (mA f)) ∧ PySem.Within mA (fs.map (·.1)) ∧ fs.length ≤ 1000 ∧ H dx = some (.own a) := by
  obtain ⟨d, z, ne, ob, mA, n, r, q⟩ := (show ObjOk P w H h a (.ins C dx fs) from hok a _ e)
  exact ⟨mA, ⟨ob, n, ne⟩, r, q, z, d⟩
end

structure Cls (K : PySem.W.Frag) (C : Addr) : Prop where
  pg : PySem.W.plainGet K C Str.empty = true
  hd : PySem.W.hasDictIn K C = true
  po : PySem.W.plainOver K C = true
  sa : PySem.W.findIn K (.ref C) "__setattr__" = some (some (.builtin "object.__setattr__"))
theorem Cls.get {K : PySem.W.Frag} {C : Addr} (c : Cls K C) (f : Str) : PySem.W.plainGet K C f = true := c.pg
structure Con (K : PySem.W.Frag) (C : Addr) (f : Str) (v : V) (u : Value) : Prop where
  at_ : PySem.W.findIn K (.ref C) f = some (some u)
  rel : RelV v u
  get : PySem.W.specialIn K u "__get__" = some none
  cp : PySem.W.copiedNames.contains f = false
structure Meth (K : PySem.W.Frag) (C : Addr) (m : Str) (f : Addr) : Prop where
  at_ : PySem.W.findIn K (.ref C) m = some (some (.ref f))
  fn : PySem.W.isFn K (.ref f) = true
  kp : PySem.W.keepIn K (.ref f) = true

section
variable {X : Cx} {pins : List (Addr × Obj)} {σ : St} {H : Hp} {s : Shared} {a C dx : Addr} {fs : List (Str × V)} {f : Str} {v : V} {A : Around} {E : Value → Shared → Prop}

end

section
variable {X : Cx} {o e value : Expr} {f : Str} {pos pos' tpos : Pos} {ta tv : TE}
end

section
variable {X : Cx} {pins : List (Addr × Obj)} {σ : St} {H : Hp} {s : Shared} {A : Around} {E : Value → Shared → Prop} {Q : Value → Shared → Prop} {c : Value} {b : Bool}
inductive TyOf (K : PySem.W.Frag) (H : Hp) : V → Value → Prop where
  | non : TyOf K H .non (.type "NoneType")
  | bl (x : Bool) : TyOf K H (.bl x) (.type "bool")
  | int (i : Int) : TyOf K H (.int i) (.type "int")
  | str (x : Str) : TyOf K H (.str x) (.type "str")
  | flt (x : UInt64) : TyOf K H (.flt x) (.type "float")
  | lst {a : Addr} {xs : List V} (e : H a = some (.lst xs)) : TyOf K H (.ref a) (.type "list")
  | frz {a : Addr} {o : Obj} {xs : List V} (e : H a = some (.frz o (.lst xs))) : TyOf K H (.ref a) (.type "list")
  | tup {a : Addr} {xs : List V} (e : H a = some (.tup xs)) : TyOf K H (.ref a) (.type "tuple")
  | dK {a : Addr} {kvs : List (Key × V)} (e : H a = some (.dK kvs)) : TyOf K H (.ref a) (.type "dict")
  | dT {a : Addr} {kvs : List (List Key × V)} (e : H a = some (.dT kvs)) : TyOf K H (.ref a) (.type "dict")
  | ins {a C dx : Addr} {fs : List (Str × V)} (e : H a = some (.ins C dx fs)) (cl : Cls K C) (ha : PySem.W.findIn K (.ref C) "__class__" = some (some (.builtin "object.__class__")))
      (hn : PySem.W.specialIn K (.builtin "object.__class__") "__get__" = some (some (.builtin "getset_descriptor.__get__"))) (htk : PySem.W.takesIn K (.builtin "object.__class__") = some true)
      (hm : PySem.W.mroIn K C (.type "object") = some true) : TyOf K H (.ref a) (.ref C)
theorem isinst_ok {x : V} {u t : Value} (I : Inv X pins σ H s) (rx : RelV x u) (ty : TyOf X.K H x t) (e : PySem.W.kitOne X.K t c = some b) (h : ∀ tk, Q (.bool b) { s with toks := tk }) :
    wpAny (model X.prog X.w) A (call (.builtin "isinstance") [u, c]) Q E s := by
  cases ty with
  | non => cases (show u = Value.none from rx); exact PySem.W.kia_one PySem.W.kitx_none I.kIn True.intro e (fun z => nomatch z) h
  | bl y => cases (show u = Value.bool y from rx); exact PySem.W.kia_one PySem.W.kitx_bool I.kIn True.intro e (fun z => nomatch z) h
  | int i => obtain ⟨t, q⟩ := (show ∃ t, u = Value.int i t from rx); cases q; exact PySem.W.kia_one PySem.W.kitx_int I.kIn True.intro e (fun z => nomatch z) h
  | str y => obtain ⟨t, q⟩ := (show ∃ t, u = Value.str y t from rx); cases q; exact PySem.W.kia_one PySem.W.kitx_str I.kIn True.intro e (fun z => nomatch z) h
  | flt y => obtain ⟨t, q⟩ := (show ∃ t, u = Value.float y t from rx); cases q; exact PySem.W.kia_one PySem.W.kitx_float I.kIn True.intro e (fun z => nomatch z) h
  | @lst a xs ea =>
    cases (show u = Value.ref a from rx)
    obtain ⟨_, _, n, _, h1⟩ := (show ObjOk X.prog X.w H s.heap a (.lst xs) from I.hok a _ ea)
    exact PySem.W.kia_one PySem.W.kitx_list I.kIn ⟨_, h1, rfl⟩ e (fun z => nomatch z) h
  | @frz a ob xs ea =>
    cases (show u = Value.ref a from rx)
    obtain ⟨_, _, _, n, _, h1⟩ := (show ObjOk X.prog X.w H s.heap a (.frz ob (.lst xs)) from I.hok a _ ea)
    exact PySem.W.kia_one PySem.W.kitx_list I.kIn ⟨_, h1, rfl⟩ e (fun z => nomatch z) h
  | @tup a xs ea =>
    cases (show u = Value.ref a from rx)
    obtain ⟨_, _, _, p⟩ := (show ObjOk X.prog X.w H s.heap a (.tup xs) from I.hok a _ ea)
    obtain ⟨o, h1, h2, _⟩ := p
    exact PySem.W.kia_one PySem.W.kitx_tuple I.kIn ⟨o, h1, h2⟩ e (fun z => nomatch z) h
  | @dK a kvs ea =>
    cases (show u = Value.ref a from rx)
    obtain ⟨_, _, vs, _, p⟩ := (show ObjOk X.prog X.w H s.heap a (.dK kvs) from I.hok a _ ea)
    obtain ⟨o, es, ep, h1, h2, _⟩ := p
    exact PySem.W.kia_one PySem.W.kitx_dict I.kIn ⟨o, h1, h2.1⟩ e (fun z => nomatch z) h
  | @dT a kvs ea =>
    cases (show u = Value.ref a from rx)
    obtain ⟨_, _, xs, _, o, es, ep, h1, h2, _⟩ := (show ObjOk X.prog X.w H s.heap a (.dT kvs) from I.hok a _ ea)
    exact PySem.W.kia_one PySem.W.kitx_dict I.kIn ⟨o, h1, h2.1⟩ e (fun z => nomatch z) h
  | @ins a C dx fs ea cl ha hn htk hm =>
    cases (show u = Value.ref a from rx)
    obtain ⟨mA, O, _⟩ := ins_get I.hok ea
    obtain ⟨od, J, _⟩ := O.look
    exact PySem.W.kia_one (PySem.W.kitx_own (cl.get _) cl.hd ha hn htk hm) I.kIn J e (fun z => nomatch z) h
end
end L2

namespace L2
open PySem PySem.Spec PyProof.Rows

structure Room (k : Nat) (A : Around) : Prop where
  hd : A.handled = none
  dp : A.depth + 3 * k + 5 < recursionLimit
  un : A.units + 16 * k + 200 < cLine
theorem Room.mono {j k : Nat} {A : Around} (r : Room k A) (h : j ≤ k) : Room j A := ⟨r.hd, by have := r.dp; omega, by have := r.un; omega⟩
theorem Room.deeper {k : Nat} {A : Around} (r : Room (k + 1) A) (env : Env) : Room k (A.deeper env) :=
  ⟨r.hd, by have := r.dp; show A.depth + 1 + 3 * k + 5 < _; omega, by have := r.un; show A.units + 3 + 16 * k + 200 < _; omega⟩
theorem Room.depth {k : Nat} {A : Around} (r : Room k A) : A.depth < recursionLimit := by have := r.dp; omega
theorem Room.units {k : Nat} {A : Around} (r : Room k A) : A.units + 64 < cLine := by have := r.un; omega
theorem Room.units0 {k : Nat} {A : Around} (r : Room k A) : A.units < cLine := by have := r.un; omega

def tNil : TA := fun _ H Q => Q [] H
def tCons (ta : TE) (tr : TA) : TA := fun σ H Q => ta σ H fun x H1 => tr σ H1 fun xs H2 => Q (x :: xs) H2
section
variable {X : Cx} {e : Expr} {es : List Expr} {te : TE} {t : TA} {pos : Pos}
theorem pa_nil : PA X [] tNil := fun _ _ _ _ H Q I h => Calls.spliced_nil ⟨[], H, I, .nil, h⟩
theorem pa_cons (ha : PE X e te) (hr : PA X es t) (hs : starEach (e :: es) X.env = (false, eval e X.env) :: starEach es X.env := by rfl) : PA X (e :: es) (tCons te t) := by
  intro pos pins s σ H Q I h
  rw [hs]
  show wpAny _ _ (spliced ((false, eval e X.env) :: backTo pos (starEach es X.env))) _ _ s
  refine Calls.spliced_cons (thn (ha pins s σ H _ I h) fun u s1 ⟨x, H1, I1, r1, q1⟩ => ?_)
  exact thn (hr pos pins s1 σ H1 _ I1 q1) fun us s2 ⟨xs, H2, I2, r2, q2⟩ => ⟨x :: xs, H2, I2, .cons r1 r2, q2⟩

def tTup (t : TA) : TE := fun σ H Q => t σ H fun xs H1 => xs.length ≤ sizeLine ∧ ∀ p, H1 p = none → Q (.ref p) (upd H1 p (.tup xs))
def tLst (t : TA) : TE := fun σ H Q => t σ H fun xs H1 => xs.length ≤ sizeLine ∧ ∀ p, H1 p = none → Q (.ref p) (upd H1 p (.lst xs))
theorem pe_tup {x1} (h : PA X es t) : PE X (.Tuple es x1 pos) (tTup t) := by
  intro pins s σ H Q I hq
  refine wpAny_Tuple_spliced (thn (h pos pins s σ H _ I hq) fun us s1 ⟨xs, H1, I1, r, z, q⟩ => ⟨by rw [← r.length]; exact z, ?_⟩)
  have hf : H1 s1.heap.objs.size = none := I1.hok.fresh (Nat.le_refl _)
  refine ⟨.ref s1.heap.objs.size, upd H1 s1.heap.objs.size (.tup xs), I1.laid (t' := s1.toks) (fun b u e => Heap.get?_push_of_some _ e) (Nat.le_refl _) ?_, rfl, q _ hf⟩
  exact ⟨z, us, r, ⟨_, Heap.get?_push_size _ rfl, rfl, _, rfl⟩⟩
theorem pe_lst (h : PA X es t) : PE X (.List es pos) (tLst t) := by
  intro pins s σ H Q I hq
  refine wpAny_List_spliced (thn (h pos pins s σ H _ I hq) fun us s1 ⟨xs, H1, I1, r, z, q⟩ => ⟨by rw [← r.length]; exact z, ?_⟩)
  have hf : H1 s1.heap.objs.size = none := I1.hok.fresh (Nat.le_refl _)
  refine ⟨.ref s1.heap.objs.size, upd H1 s1.heap.objs.size (.lst xs), I1.laid (t' := s1.toks) (fun b u e => Heap.get?_push_of_some _ e) (Nat.le_refl _) ?_, rfl, q _ hf⟩
  exact ⟨z, us, 0, r, Heap.get?_push_size _ rfl⟩
end

abbrev Sp := List V → Hp → VK → XK → Prop
abbrev CXT := List Env → Hp → Shared → XK → Value → Shared → Prop

structure Env0 (P : Program) (w : World) (K : PySem.W.Frag) (mg : Str → Option Value) (base : Heap) (A : Around) (outer : List Env) (s : Shared) (H : Hp) : Prop where
  frames : A.frames = some outer
  mod : Mod K mg base
  bs : ∀ b o, base.get? b = some o → s.heap.get? b = some o ∧ H b = none
  bsz : base.objs.size ≤ s.heap.objs.size
  funs : s.heap.FunFrames base outer
  frf : ∀ b ∈ frs outer, H b = none
  hok : HOk P w H s.heap
  bare : AllBare s.gens
def CE (outer : List Env) (P : Program) (w : World) (H : Hp) (s : Shared) (Q : VK) (u : Value) (s' : Shared) : Prop :=
  ∃ v H', s'.os = s.os ∧ AllBare s'.gens ∧ Un (frs outer) [] H H' s.heap s'.heap ∧ HOk P w H' s'.heap ∧ RelV v u ∧ Q v H'
def CR (CX : CXT) (outer : List Env) (P : Program) (w : World) (H : Hp) (s : Shared) (Q : VK) (E : XK) (r : Result) (s' : Shared) : Prop :=
  match r with
  | .ok (.ret u) => CE outer P w H s Q u s'
  | .ok _ => False
  | .error e => CX outer H s E e s'
structure FnOk (P : Program) (w : World) (K : PySem.W.Frag) (mg : Str → Option Value) (base : Heap) (CX : CXT) (k : Nat) (f : Addr) (fd : FuncData) (ps : List Str) (sp : Sp) : Prop where
  len : ∀ vs H Q E, sp vs H Q E → vs.length = ps.length
  run : ∀ (A : Around) (outer : List Env) (s : Shared) (H : Hp) (args : Args) (us : List Value) (vs : List V) (Q : VK) (E : XK), Room k A → Env0 P w K mg base A outer s H → BindsTo s fd args (ps.zip us) → Vals vs us → sp vs H Q E →
    codeAny (model P w) A (.call (.ref f) args) (CR CX outer P w H s Q E) s
section
variable {X : Cx} {pins : List (Addr × Obj)} {σ : St} {H : Hp} {s s' : Shared}
theorem Inv.env0 (I : Inv X pins σ H s) : Env0 X.prog X.w X.K X.mg X.base X.A X.stack s H :=
  ⟨I.ok.frames, I.ok.mod, I.bs, Nat.le_trans I.ok.bsz I.sz, I.stack, I.stkFree, I.hok, I.bare⟩
theorem Inv.after {Q : VK} {u : Value} (I : Inv X pins σ H s) (h : CE X.stack X.prog X.w H s Q u s') : EP X pins σ Q u s' := by
  obtain ⟨v, H', os, bare, un, hok, r, q⟩ := h
  obtain ⟨hh, g, d, t, os'⟩ := s'
  obtain rfl : os' = s.os := os
  exact ⟨v, H', I.call (h' := hh) (g' := g) (d' := d) (t' := t) (ch := []) un hok bare (fun b z => absurd z (by simp)), r, q⟩
end

def tCall (sp : Sp) (dvs : List V) (E : XK) (t : TA) : TE := fun σ H Q => t σ H fun vs H1 => sp (vs ++ dvs) H1 Q E
def Binds (K : PySem.W.Frag) (fd : FuncData) (ps : List Str) (ds : List Value) : Prop :=
  ∀ (s : Shared) (us : List Value), K.In s.heap → (us ++ ds).length = ps.length → BindsTo s fd ⟨us, []⟩ (ps.zip (us ++ ds))
theorem Binds.all {K : PySem.W.Frag} {fd : FuncData} {ps : List Str} (h : ∀ us : List Value, us.length = ps.length → bindArgs fd ⟨us, []⟩ = pure (ps.zip us)) : Binds K fd ps [] := fun s us _ hl => by
  rw [List.append_nil] at hl ⊢
  exact .of_eq (h us hl)

def Passes (CX : CXT) (X : Cx) (E : XK) : Prop := ∀ (pins : List (Addr × Obj)) (σ : St) (H : Hp) (s : Shared) (e : Value) (s' : Shared), Inv X pins σ H s → CX X.stack H s E e s' → X.xe e s'

section
variable {X : Cx} {CX : CXT} {k : Nat} {f C : Addr} {fd : FuncData} {ps : List Str} {sp : Sp} {dvs : List V} {ds : List Value} {E : XK} {x m : Str} {p pos apos : Pos} {e o : Expr} {es : List Expr} {ta : TE} {t : TA}

theorem run_fn {pins : List (Addr × Obj)} {σ : St} {H : Hp} {s : Shared} {Q : VK} {us : List Value} {vs : List V} (F : FnOk X.prog X.w X.K X.mg X.base CX k f fd ps sp) (hr : Room k X.A) (hb : Binds X.K fd ps ds) (hd : Vals dvs ds) (hx : Passes CX X E)
    (I : Inv X pins σ H s) (r : Vals vs us) (h : sp (vs ++ dvs) H Q E) : wpAny (model X.prog X.w) X.A (call (.ref f) us) (EP X pins σ Q) X.xe s := by
  have r2 : Vals (vs ++ dvs) (us ++ ds) := r.append hd
  have hl : (us ++ ds).length = ps.length := by rw [← r2.length]; exact F.len _ _ _ _ h
  refine wpAny_call (codeAny_mono (F.run X.A X.stack s H ⟨us, []⟩ (us ++ ds) (vs ++ dvs) Q E hr I.env0 (hb s us I.kIn hl) r2 h) fun r s' hq => ?_)
  cases r with
  | error e => exact hx pins σ H s e s' I hq
  | ok fl =>
    cases fl with
    | ret u => exact I.after hq
    | next => exact False.elim hq
    | brk => exact False.elim hq
    | cont => exact False.elim hq

theorem pe_call (F : FnOk X.prog X.w X.K X.mg X.base CX k f fd ps sp) (hr : Room k X.A) (hg : Gl X x) (hm : X.mg x = some (.ref f)) (hk : PySem.W.keepIn X.K (.ref f) = true) (hb : Binds X.K fd ps ds) (hd : Vals dvs ds) (hx : Passes CX X E)
    (ha : PA X (e :: es) t) (hdb : (x == ("__debug__" : Str)) = false := by decide) (he : starEach (e :: es) X.env = (false, eval e X.env) :: starEach es X.env := by rfl) (hpl : (backTo pos (starEach es X.env)).any (·.1) = false := by rfl) :
    PE X (.Call (.Name x p) (e :: es) [] pos) (tCall sp dvs E t) := by
  intro pins s σ H Q I h
  refine wpAny_Call_Name_kw (ld_glob I hg hm ?_ hdb)
  refine PySem.W.callWith_K (h₀ := X.base) I.ok.mod.kin hk (thn (ha pos pins s σ H _ I h) fun us s1 ⟨vs, H1, I1, r, q⟩ => ⟨I1.kIn, ?_⟩) he hpl
  exact run_fn F hr hb hd hx I1 r q
structure Mk (K : PySem.W.Frag) (C f : Addr) : Prop where
  makes : PySem.W.makesIn K C = true
  init : PySem.W.findIn K (.ref C) "__init__" = some (some (.ref f))
  fn : PySem.W.isFn K (.ref f) = true
  kp : PySem.W.keepIn K (.ref C) = true

end

section
variable {X : Cx} {CX : CXT} {k : Nat} {f C : Addr} {fd : FuncData} {ps ks : List Str} {sp : Sp} {E : XK} {x m : Str} {p pos apos kpos : Pos} {e o : Expr} {es : List Expr} {kws : List Keyword} {te ta : TE} {t tk : TA} {nm : Option Str}
structure KBinds (K : PySem.W.Frag) (fd : FuncData) (ps ks : List Str) (g : List Value → List Value → List Value) (gV : List V → List V → List V) : Prop where
  to : ∀ (s : Shared) (us ws : List Value), K.In s.heap → (g us ws).length = ps.length → BindsTo s fd ⟨us, ks.zip ws⟩ (ps.zip (g us ws))
  rel : ∀ {vs : List V} {us : List Value} {zs : List V} {ws : List Value}, Vals vs us → Vals zs ws → Vals (gV vs zs) (g us ws)
variable {g : List Value → List Value → List Value} {gV : List V → List V → List V}
end

structure FnScope (N P : List Str) (sc : Scope) : Prop where
  kind : sc.kind = .function
  co : sc.isCoroutine = false
  gen : sc.isGenerator = false
  nd : N.Nodup
  pre : N.take P.length = P
  par : ∀ x ∈ P, sc.names.lookup x = some .local ∨ sc.names.lookup x = some .cell
  nofree : ∀ y ∈ sc.names, y.2 ≠ .free

theorem bindL_out {kindOf : Str → Option NameKind} {x : Str} : ∀ {binds : List (Str × Value)} {m : Str → Option Value}, (∀ v, (x, v) ∉ binds) → bindL kindOf binds m x = m x
  | [], _, _ => rfl
  | (n, v) :: r, m, h => by
    unfold bindL
    rw [bindL_out fun w hw => h w (List.mem_cons_of_mem _ hw)]
    split
    · have : x ≠ n := by rintro rfl; exact h v List.mem_cons_self
      simp [this]
    · rfl
theorem bindC_out {kindOf : Str → Option NameKind} {x : Str} : ∀ {binds : List (Str × Value)} {m : Str → Option Value}, (∀ v, (x, v) ∉ binds) → bindC kindOf binds m x = m x
  | [], _, _ => rfl
  | (n, v) :: r, m, h => by
    unfold bindC
    rw [bindC_out fun w hw => h w (List.mem_cons_of_mem _ hw)]
    split
    · rfl
    · have : x ≠ n := by rintro rfl; exact h v List.mem_cons_self
      simp [this]
theorem bindL_get {kindOf : Str → Option NameKind} {x : Str} {v : Value} : ∀ {P : List Str} {vs : List Value} {i : Nat} {m : Str → Option Value}, P.Nodup → P[i]? = some x → vs[i]? = some v → kindOf x = some .local →
    bindL kindOf (P.zip vs) m x = some v
  | [], _, _, _, _, h, _, _ => by simp at h
  | _ :: _, [], _, _, _, _, h, _ => by simp at h
  | p :: P, w :: vs, 0, m, nd, h1, h2, hk => by
    simp at h1 h2; subst h1; subst h2
    show bindL kindOf ((p, w) :: P.zip vs) m p = _
    unfold bindL
    rw [bindL_out fun v hv => (List.nodup_cons.mp nd).1 (List.of_mem_zip hv).1, if_pos hk]
    simp
  | p :: P, w :: vs, i + 1, m, nd, h1, h2, hk => by
    show bindL kindOf ((p, w) :: P.zip vs) m x = _
    unfold bindL
    exact bindL_get (i := i) (List.nodup_cons.mp nd).2 (by simpa using h1) (by simpa using h2) hk
theorem bindC_get {kindOf : Str → Option NameKind} {x : Str} {v : Value} : ∀ {P : List Str} {vs : List Value} {i : Nat} {m : Str → Option Value}, P.Nodup → P[i]? = some x → vs[i]? = some v → kindOf x ≠ some .local →
    bindC kindOf (P.zip vs) m x = some v
  | [], _, _, _, _, h, _, _ => by simp at h
  | _ :: _, [], _, _, _, _, h, _ => by simp at h
  | p :: P, w :: vs, 0, m, nd, h1, h2, hk => by
    simp at h1 h2; subst h1; subst h2
    show bindC kindOf ((p, w) :: P.zip vs) m p = _
    unfold bindC
    rw [bindC_out fun v hv => (List.nodup_cons.mp nd).1 (List.of_mem_zip hv).1, if_neg hk]
    simp
  | p :: P, w :: vs, i + 1, m, nd, h1, h2, hk => by
    show bindC kindOf ((p, w) :: P.zip vs) m x = _
    unfold bindC
    exact bindC_get (i := i) (List.nodup_cons.mp nd).2 (by simpa using h1) (by simpa using h2) hk

def start (N : List Str) (vs : List V) : St := vs.map some ++ List.replicate (N.length - vs.length) none

def cxOf (CX : CXT) (P : Program) (w : World) (K : PySem.W.Frag) (mg : Str → Option Value) (base : Heap) (N : List Str) (qual : Str) (scope : Scope) (f : Addr) (cd : Value) (A : Around) (outer : List Env) (s : Shared) (H : Hp) (E : XK) : Cx where
  prog := P
  w := w
  K := K
  mg := mg
  base := base
  A := A.deeper (envOfC qual scope s.heap.objs.size f cd)
  N := N
  s₀ := s
  H₀ := H
  env := envOfC qual scope s.heap.objs.size f cd
  outer := outer
  stack := envOfC qual scope s.heap.objs.size f cd :: outer
  ex := []
  calm := true
  fn := fun _ => true
  pn := []
  xe := fun e s' => wpAny (model P w) (A.deeper (envOfC qual scope s.heap.objs.size f cd)) (leaving (envOfC qual scope s.heap.objs.size f cd) e) (fun _ s'' => CX outer H s E e s'') (fun e' s'' => CX outer H s E e' s'') s'

theorem cell_has {sc : Scope} {n : Nat} {x : Str} (h : sc.names.lookup x = some .cell) : ∃ c, (cellsFrom n sc.names []).lookup x = some c := by
  have q := PySem.W.cellsFrom_some sc.names n [] (.inl h)
  exact Option.isSome_iff_exists.mp q

theorem inv_start {CX : CXT} {P : Program} {w : World} {K : PySem.W.Frag} {mg : Str → Option Value} {base : Heap} {N ps : List Str} {qual : Str} {scope : Scope} {f : Addr} {cd : Value} {A : Around} {outer : List Env} {s s1 : Shared} {H : Hp} {E : XK} {us : List Value} {vs : List V}
    (S : FnScope N ps scope) (hd : A.handled = none) (e0 : Env0 P w K mg base A outer s H) (hl : vs.length = ps.length) (r : Vals vs us)
    (x : InCallC s s.heap.objs.size (bindL (envOfC qual scope s.heap.objs.size f cd).kindOf (ps.zip us) fun _ => none) (cellsFrom (s.heap.objs.size + 1) scope.names []) (bindC (envOfC qual scope s.heap.objs.size f cd).kindOf (ps.zip us) fun _ => none) s1) :
    Inv (cxOf CX P w K mg base N qual scope f cd A outer s H E) [] (start N vs) H s1 := by
  have hpl : ps.length ≤ N.length := by have := congrArg List.length S.pre; rw [List.length_take] at this; omega
  obtain ⟨h1, tk, rfl, hk⟩ := x.done
  have noA : ∀ b : Addr, b ∉ (cxOf CX P w K mg base N qual scope f cd A outer s H E).ex := fun b z => absurd (show b ∈ ([] : List Addr) from z) (by simp)
  refine ⟨⟨e0.mod, S.kind, rfl, rfl, Nat.le_refl _, fun y z c h1 h2 => ?_, fun y hy => ?_, fun y c _ h => ?_, fun _ => hd, Around.frames_deeper e0.frames, .inr ⟨rfl, rfl⟩, fun b z => absurd z (noA b), e0.bs, e0.bsz, fun b _ _ => noA b, fun b z => absurd z (noA b), e0.funs, e0.frf⟩,
    rfl, e0.bare, Un.kept hk, ⟨_, x.toInCall.ns, fun i y v h1 h2 h3 => ?_⟩, fun y c h => ⟨_, x.cell y c h⟩, e0.hok.fresh (Nat.le_refl _), fun y c h => ?_, fun p hp => absurd (show p ∈ ([] : List (Addr × Obj)) from hp) (by simp), e0.hok.kept hk, ?_⟩
  · exact name_of_addr x.apart (PySem.mem_of_lookup h1) (PySem.mem_of_lookup h2)
  · have hy : scope.names.lookup y = some .cell ∨ scope.names.lookup y = some .free := hy
    rcases hy with hy | hy
    · exact cell_has hy
    · exact absurd rfl (S.nofree _ (PySem.mem_of_lookup hy))
  · exact Nat.le_of_lt (x.above y c (PySem.mem_of_lookup h))
  · have hi : i < vs.length := by
      unfold start at h2
      by_cases hi : i < vs.length
      · exact hi
      · rw [List.getElem?_append_right (by simpa using hi)] at h2
        rw [List.getElem?_replicate] at h2
        split at h2 <;> cases h2
    have ha : vs[i]? = some v := by
      unfold start at h2
      rw [List.getElem?_append_left (by simpa using hi), List.getElem?_map] at h2
      cases e : vs[i]? with
      | none => rw [e] at h2; cases h2
      | some a => rw [e] at h2; cases h2; rfl
    obtain ⟨u, hu, rv⟩ := r.get ha
    have hp : ps[i]? = some y := by
      rw [← S.pre, List.getElem?_take_of_lt (by omega)]; exact h1
    have ndP : ps.Nodup := by rw [← S.pre]; exact S.nd.sublist (List.take_sublist _ _)
    refine ⟨u, rv, ?_⟩
    rcases S.par y (List.mem_of_getElem? hp) with k | k
    · exact .inl ⟨k, bindL_get ndP hp hu k⟩
    · obtain ⟨c, e⟩ := cell_has (n := s.heap.objs.size + 1) k
      refine .inr ⟨.inl k, c, e, ?_⟩
      have q := x.cell y c e
      rw [bindC_get ndP hp hu (by show scope.names.lookup y ≠ _; rw [k]; decide)] at q
      exact q
  · exact e0.hok.fresh (Nat.le_of_lt (x.above y c (PySem.mem_of_lookup h)))
  · unfold start
    show _ = N.length
    rw [List.length_append, List.length_map, List.length_replicate]
    omega

theorem fn_of {CX : CXT} {P : Program} {w : World} {K : PySem.W.Frag} {mg : Str → Option Value} {base : Heap} {k : Nat} {f : Addr} {name qual : Str} {params : Arguments} {body : List Stmt} {scope : Scope} {dV kV doc pm cdv ct oc : Value} {an od : Option Addr}
    {osl : Array (Option Value)} {N ps : List Str} {sp : Sp} (lk : K.lookup f = some ⟨oc, od, .func (PySem.W.fnOf name qual params body scope dV kV doc pm an cdv ct), osl⟩) (hcd : PySem.W.codeIn K cdv qual = true) (S : FnScope N ps scope)
    (len : ∀ vs H Q E, sp vs H Q E → vs.length = ps.length)
    (hbody : ∀ (A : Around) (outer : List Env) (s : Shared) (H : Hp) (vs : List V) (Q : VK) (E : XK), Room k (A.deeper (envOfC qual scope s.heap.objs.size f cdv)) → sp vs H Q E →
      ∃ t, PSs (cxOf CX P w K mg base N qual scope f cdv A outer s H E) body t ∧ t { nx := fun _ H' => Q .non H', rt := Q } (start N vs) H) :
    FnOk P w K mg base CX (k + 1) f (PySem.W.fnOf name qual params body scope dV kV doc pm an cdv ct) ps sp := by
  refine ⟨len, fun A outer s H args us vs Q E hr e0 hb r hsp => ?_⟩
  have hl := len _ _ _ _ hsp
  have KX : K.In s.heap := e0.mod.kin.keeps fun b o e => (e0.bs b o e).1
  have lim : s.heap.NoLimit := e0.mod.nolimit.keeps fun b o e => (e0.bs b o e).1
  have hkind : ∀ y ∈ ps.zip us, scope.names.lookup y.1 = some .local ∨ (scope.names.lookup y.1 = some .cell ∧ ((cellsFrom (s.heap.objs.size + 1) scope.names []).lookup y.1).isSome = true) := fun ⟨n, v⟩ hy => by
    rcases S.par n (List.of_mem_zip hy).1 with q | q
    · exact .inl q
    · exact .inr ⟨q, PySem.W.cellsFrom_some _ _ _ (.inl q)⟩
  refine codeAny_call_function hr.depth (KX _ _ lk) rfl S.co S.gen rfl (PySem.W.codeRec_of KX hcd) (hb _ _ _ _ ?_)
  refine wpAny_newFunctionEnv_cells S.kind hkind fun env he s1 x => ?_
  subst he
  refine ⟨lim.keeps x.toInCall.keep, codeAny_func ?_⟩
  obtain ⟨t, ht, hq⟩ := hbody A outer s H vs Q E (hr.deeper _) hsp
  have I : Inv (cxOf CX P w K mg base N qual scope f cdv A outer s H E) [] (start N vs) H s1 := inv_start S hr.hd e0 hl r x
  refine wpAny_mono (ht [] s1 (start N vs) H _ I hq) (fun fl s' hs => ?_) fun e s' hs => hs
  have fin : ∀ {σ' : St} {H' : Hp} {v : V} {u : Value}, Inv (cxOf CX P w K mg base N qual scope f cdv A outer s H E) [] σ' H' s' → RelV v u → Q v H' → CE outer P w H s Q u s' :=
    fun {σ' H' v u} J rv q => ⟨v, H', J.os, J.bare, J.base, J.hok, rv, q⟩
  cases fl with
  | ret u =>
    obtain ⟨v, σ', H', J, rv, q⟩ := hs
    exact fin J rv q
  | next =>
    obtain ⟨σ', H', J, q⟩ := hs
    exact fin (v := V.non) (u := Value.none) J rfl q
  | brk =>
    obtain ⟨_, _, _, q⟩ := hs
    exact False.elim q
  | cont =>
    obtain ⟨_, _, _, q⟩ := hs
    exact False.elim q
end L2

namespace L2
open PySem PySem.Spec PyProof.Rows
section
variable {X : Cx} {x : Str} {p pos : Pos} {e : Expr} {es : List Expr} {t : TA} {id T : String} {r : List V → Hp → VK → Prop}

def tCB (r : List V → Hp → VK → Prop) (t : TA) : TE := fun σ H Q => t σ H fun vs H1 => r vs H1 Q
theorem pe_callB (hc : CallR X (.builtin id) r) (hg : Gl X x) (hm : X.mg x = none) (hv : bootBuiltins x = some (.builtin id)) (ha : PA X (e :: es) t) (hn : x ≠ "__name__" := by decide) (hdb : (x == ("__debug__" : Str)) = false := by decide)
    (he : starEach (e :: es) X.env = (false, eval e X.env) :: starEach es X.env := by rfl) (hpl : (backTo pos (starEach es X.env)).any (·.1) = false := by rfl) : PE X (.Call (.Name x p) (e :: es) [] pos) (tCB r t) := by
  intro pins s σ H Q I h
  refine wpAny_Call_Name_kw (ld_blt I hg hm hv ?_ hn hdb)
  exact PyProof.Rows.callWith_builtin1 (thn (ha pos pins s σ H _ I h) fun us s1 ⟨vs, H1, I1, r1, q1⟩ => hc pins s1 σ H1 vs us Q I1 r1 q1) he hpl
theorem pe_callTy (hc : CallR X (.type T) r) (hg : Gl X x) (hm : X.mg x = none) (hv : bootBuiltins x = some (.type T)) (ha : PA X (e :: es) t) (hn : x ≠ "__name__" := by decide) (hdb : (x == ("__debug__" : Str)) = false := by decide)
    (he : starEach (e :: es) X.env = (false, eval e X.env) :: starEach es X.env := by rfl) (hpl : (backTo pos (starEach es X.env)).any (·.1) = false := by rfl) : PE X (.Call (.Name x p) (e :: es) [] pos) (tCB r t) := by
  intro pins s σ H Q I h
  refine wpAny_Call_Name_kw (ld_blt I hg hm hv ?_ hn hdb)
  exact PyProof.Rows.callWith_type1 (thn (ha pos pins s σ H _ I h) fun us s1 ⟨vs, H1, I1, r1, q1⟩ => hc pins s1 σ H1 vs us Q I1 r1 q1) he hpl
end
end L2

namespace HT
open PySem PyProof.Rows

section
open PySem.SeqAt
open PySem.AutoSeq1 (wpAny_loadPart')
open PySem.MeetsSeq PySem.MeetsSeq2 PySem.MeetsSeq3

end

section
variable {prog : Program} {w : World} {A : Around} {E : Value → Shared → Prop} {s : Shared}

theorem cat_tup {t b : Addr} {vs ws : List Value} {Q : Value → Shared → Prop} (ht : IsTup s.heap t vs.toArray) (hb : IsTup s.heap b ws.toArray) (hv : vs ≠ [])
    (h1 : ws = [] → Q (.ref t) s) (h2 : ws ≠ [] → Q (.ref s.heap.objs.size) { s with heap := s.heap.push { cls := .type "tuple", data := .seq (vs ++ ws).toArray } })
    (hsz : vs.length + ws.length ≤ sizeLine) : wpAny (model prog w) A (binaryOp .Add (.ref t) (.ref b)) Q E s := by
  obtain ⟨⟨cls, dd, data, sl⟩, ho, hc, n, hd⟩ := id ht
  obtain ⟨⟨cls2, dd2, data2, sl2⟩, ho2, hc2, n2, hd2⟩ := id hb
  simp only at hc hd hc2 hd2
  subst hc hd hc2 hd2
  have e : vs.toArray ++ ws.toArray = (vs ++ ws).toArray := by simp
  by_cases hw : ws = []
  · exact concat_meets ⟨_, ho, rfl⟩ ⟨_, ho2, rfl⟩ noFill_tuple_add seq_tuple_add PySem.F.slot_tuple_add PySem.F.entry_tuple_add (PySem.F.args_tuple_add_2 _ _)
      (tuple_addW1 t b vs.toArray ws.toArray n n2 dd dd2 sl sl2 (by simpa using hv) (by simp [hw])) ⟨ho, ho2, h1 hw⟩
  · refine concat_meets ⟨_, ho, rfl⟩ ⟨_, ho2, rfl⟩ noFill_tuple_add seq_tuple_add PySem.F.slot_tuple_add PySem.F.entry_tuple_add (PySem.F.args_tuple_add_2 _ _)
      (tuple_addW2 t b vs.toArray ws.toArray n n2 dd dd2 sl sl2 (by simpa using hv) (by simpa using hw) (by rw [List.size_toArray, List.size_toArray]; exact hsz)) ⟨ho, ho2, ?_⟩
    rw [e]
    exact h2 hw

def sIx (n d : Nat) : Option Int → Nat
  | none => d
  | some v => if v < 0 then (v + (n : Int)).toNat else min v.toNat n
theorem sIx_none (n d : Nat) : sIx n d none = d := rfl
theorem sIx_nat (n d k : Nat) : sIx n d (some (k : Int)) = min k n := by
  show (if (k : Int) < 0 then ((k : Int) + (n : Int)).toNat else min (k : Int).toNat n) = min k n
  rw [if_neg (by omega), Int.toNat_natCast]
theorem sIx_le (n d : Nat) (hd : d ≤ n) (o : Option Int) : sIx n d o ≤ n := by
  cases o with
  | none => exact hd
  | some v =>
    show (if v < 0 then (v + (n : Int)).toNat else min v.toNat n) ≤ n
    by_cases hv : v < 0
    · rw [if_pos hv]; omega
    · rw [if_neg hv]; exact Nat.min_le_right _ _
theorem clip_eq (v : Int) (n d : Nat) : (if v < 0 then max (v + (n : Int)) 0 else min v (n : Int)) = ((sIx n d (some v) : Nat) : Int) := by
  show (if v < 0 then max (v + (n : Int)) 0 else min v (n : Int)) = (((if v < 0 then (v + (n : Int)).toNat else min v.toNat n) : Nat) : Int)
  by_cases hv : v < 0
  · simp only [if_pos hv]; omega
  · simp only [if_neg hv]; omega
theorem adjust_gen (lo hi : Option Int) (n : Nat) : Builtin.Slice.sliceAdjust lo hi 1 (n : Int) = (((sIx n 0 lo : Nat) : Int), ((sIx n n hi : Nat) : Int)) := by
  have h1 : ¬ ((1 : Int) < 0) := by omega
  unfold Builtin.Slice.sliceAdjust
  simp only [h1, if_false]
  refine Prod.ext ?_ ?_
  · cases lo with
    | none => rfl
    | some v => exact clip_eq v n 0
  · cases hi with
    | none => rfl
    | some v => exact clip_eq v n n
theorem places_gen (i j : Nat) : Builtin.Slice.slicePlaces (i : Int) (j : Int) 1 = j - i := by
  unfold Builtin.Slice.slicePlaces
  have h1 : (1 : Int) > 0 := by omega
  simp only [h1, if_true, Int.ediv_one]
  split <;> omega
theorem slicePart_ {v : Value} {o : Option Int} {Q : Option Int → Shared → Prop} (p : IsPart v o) (h : Q o s) : wpAny (model prog w) A (Builtin.Slice.slicePartIndex v) Q E s := by
  cases p with
  | none => exact slicePart_none h
  | int i t => exact slicePart_int h
theorem sliceApplied_gen {sl : Addr} {vl vu : Value} {lo hi : Option Int} {n : Nat} {Q : Int × Int × Nat → Shared → Prop} (hs : s.heap.IsSliceOf sl vl vu .none) (pl : IsPart vl lo) (pu : IsPart vu hi)
    (h : Q (((sIx n 0 lo : Nat) : Int), 1, sIx n n hi - sIx n 0 lo) s) : wpAny (model prog w) A (Builtin.Slice.sliceApplied (.ref sl) (pure (n : Int))) Q E s := by
  obtain ⟨os, hos, hcs, hds⟩ := id hs
  unfold Builtin.Slice.sliceApplied Builtin.Slice.sliceFields
  refine wpAny_bind (wpAny_bind (wpAny_field hos hds (x := vl) rfl (wpAny_bind (wpAny_field hos hds (x := vu) rfl (wpAny_bind (wpAny_field hos hds (x := .none) rfl (wpAny_pure ?_)))))))
  refine wpAny_bind (slicePart_none ?_)
  show wpAny _ _ (if ((1 : Int) == 0) = true then _ else _) _ _ s
  rw [if_neg (by decide)]
  refine wpAny_bind (slicePart_ pl (wpAny_bind (slicePart_ pu (wpAny_bind (wpAny_pure ?_)))))
  show wpAny _ _ (match Builtin.Slice.sliceAdjust lo hi 1 (n : Int) with | (lo, hi) => pure (lo, (1 : Int), Builtin.Slice.slicePlaces lo hi 1)) _ _ s
  rw [adjust_gen lo hi n]
  show wpAny _ _ (pure (((sIx n 0 lo : Nat) : Int), (1 : Int), Builtin.Slice.slicePlaces ((sIx n 0 lo : Nat) : Int) ((sIx n n hi : Nat) : Int) 1)) _ _ s
  rw [places_gen]
  exact wpAny_pure h
theorem pick_gen (xs : Array Value) (i k : Nat) : ((List.range k).filterMap fun (m : Nat) => xs[((i : Int) + (m : Int) * 1).toNat]?).toArray = ((xs.toList.drop i).take k).toArray := by
  have e : (fun (m : Nat) => xs[((i : Int) + (m : Int) * 1).toNat]?) = fun m => xs[i + m]? := by
    funext m
    have : ((i : Int) + (m : Int) * 1).toNat = i + m := by omega
    rw [this]
  rw [e]
  have := pick_run xs i k
  rw [List.filterMap_map] at this
  have e2 : ((fun x => xs[x]?) ∘ fun x => i + x) = fun m => xs[i + m]? := rfl
  rw [e2] at this
  rw [this]

theorem getItem_tuple_cut {t sl : Addr} {items : Array Value} {vl vu : Value} {lo hi : Option Int} {Q : Value → Shared → Prop} (ht : IsTup s.heap t items) (hs : s.heap.IsSliceOf sl vl vu .none) (pl : IsPart vl lo) (pu : IsPart vu hi)
    (hw : ¬ (sIx items.size 0 lo = 0 ∧ sIx items.size items.size hi = items.size))
    (h : Q (.ref s.heap.objs.size) { s with heap := s.heap.push { cls := .type "tuple", data := .seq ((items.toList.drop (sIx items.size 0 lo)).take (sIx items.size items.size hi - sIx items.size 0 lo)).toArray } })
    (hsz : items.size ≤ sizeLine) : wpAny (model prog w) A (getItem (.ref t) (.ref sl)) Q E s := by
  have htake : sizeOk (.seq ((items.toList.drop (sIx items.size 0 lo)).take (sIx items.size items.size hi - sIx items.size 0 lo)).toArray) := by
    show ((items.toList.drop (sIx items.size 0 lo)).take (sIx items.size items.size hi - sIx items.size 0 lo)).toArray.size ≤ sizeLine
    rw [List.size_toArray, List.length_take, List.length_drop, Array.length_toList]
    omega
  have hj : sIx items.size items.size hi ≤ items.size := sIx_le _ _ (Nat.le_refl _) hi
  obtain ⟨os, hos, hcs, hds⟩ := id hs
  have hTs : s.TypeIs (.ref sl) "slice" := ⟨os, hos, hcs⟩
  unfold getItem
  try with_reducible refine wpAny_holding ?_
  first | refine wpAny_bind (wpAny_pure ?_) | skip
  refine wpAny_bind (wpAny_sequenceKey ht.typeIs (by decide) ?_)
  refine wpAny_bind (wpAny_callSpecial?_slot (name := Str.ofString "__getitem__") ht.typeIs PyProof.Rows.slot_tuple_getitem
    (wpAny_call_entry PyProof.Rows.slot_tuple_getitem ht.typeIs entry_tuple_getitem ?_ (args_tuple_getitem _ _)))
  show wpAny _ _ (Builtin.Tuple.tupleItemsOf (.ref t) >>= _) _ _ s
  refine wpAny_bind (tupleItemsOf_ ht ?_)
  refine wpAny_bind (wpAny_typeOf hTs ?_)
  rw [if_pos (by decide)]
  refine wpAny_bind (sliceApplied_gen hs pl pu ?_)
  have hno : ¬ ((((sIx items.size 0 lo : Nat) : Int) == 0 && (1 : Int) == 1 && (sIx items.size items.size hi - sIx items.size 0 lo) == items.size) = true) := by
    intro q
    rw [Bool.and_eq_true, Bool.and_eq_true] at q
    have q1 : ((sIx items.size 0 lo : Nat) : Int) = 0 := eq_of_beq q.1.1
    have q2 : sIx items.size items.size hi - sIx items.size 0 lo = items.size := eq_of_beq q.2
    exact hw ⟨by omega, by omega⟩
  show wpAny _ _ (if (((sIx items.size 0 lo : Nat) : Int) == 0 && (1 : Int) == 1 && (sIx items.size items.size hi - sIx items.size 0 lo) == items.size) = true then _ else _) _ _ s
  rw [if_neg hno, pick_gen]
  first
    | exact wpAny_bind (m := Builtin.Tuple.tupleExact _) (wpAny_newObj_type (wpAny_pure ⟨_, rfl, wpAny_pure h⟩) htake)
    | exact wpAny_bind (m := Builtin.Tuple.tupleExact _) (wpAny_newObj_type (wpAny_bind (wpAny_pure (wpAny_pure ⟨_, rfl, wpAny_pure h⟩))) htake)
    | exact wpAny_bind (wpAny_bind (m := Builtin.Tuple.tupleExact _) (wpAny_newObj_type (wpAny_pure (wpAny_pure ⟨_, rfl, wpAny_pure h⟩)) htake))
    | exact wpAny_bind (wpAny_bind (m := Builtin.Tuple.tupleExact _) (wpAny_newObj_type (wpAny_pure ⟨_, rfl, wpAny_pure h⟩) htake))
end
end HT

namespace L2
open PySem PySem.Spec PyProof.Rows

abbrev TO := St → Hp → (Option Int → Hp → Prop) → Prop
def PO (X : Cx) (e : Option Expr) (t : TO) : Prop :=
  ∀ (pins : List (Addr × Obj)) (s : Shared) (σ : St) (H : Hp) (Q : Option Int → Hp → Prop), Inv X pins σ H s → t σ H Q →
    wpAny (model X.prog X.w) X.A (evalPart e X.env) (fun u s' => ∃ o H', Inv X pins σ H' s' ∧ IsPart u o ∧ Q o H') X.xe s
def tNoPart : TO := fun _ H Q => Q none H
def tPart (t : TE) : TO := fun σ H Q => t σ H fun x H1 => ∃ i, x = .int i ∧ Q (some i) H1

section
variable {X : Cx} {e : Expr} {te : TE} {lo hi : Option Expr} {tl th : TO} {pos p2 : Pos}

theorem po_none : PO X none tNoPart := by
  intro pins s σ H Q I h
  rw [evalPart_none]
  exact wpAny_pure ⟨none, H, I, .none, h⟩
theorem po_some (h : PE X e te) : PO X (some e) (tPart te) := by
  intro pins s σ H Q I hw
  rw [evalPart_some]
  refine thn (h pins s σ H _ I hw) fun u s1 ⟨x, H1, I1, r1, q1⟩ => ?_
  obtain ⟨i, rfl, q⟩ := q1
  obtain ⟨t, rfl⟩ := r1
  exact ⟨some i, H1, I1, .int i t, q⟩

def SlR (X : Cx) (r : V → Option Int → Option Int → Hp → VK → Prop) : Prop :=
  ∀ (pins : List (Addr × Obj)) (s : Shared) (σ : St) (H : Hp) (x : V) (v vl vu : Value) (lo hi : Option Int) (sl : Addr) (Q : VK), Inv X pins σ H s → RelV x v → s.heap.IsSliceOf sl vl vu .none → IsPart vl lo → IsPart vu hi → r x lo hi H Q →
    ∃ T id, typeLookup (.type T) "__getitem__" = pure (some (.builtin id)) ∧ s.TypeIs v T ∧ wpAny (model X.prog X.w) X.A (getItem v (.ref sl)) (EP X pins σ Q) X.xe s
def tSl (r : V → Option Int → Option Int → Hp → VK → Prop) (te : TE) (tl th : TO) : TE := fun σ H Q => te σ H fun x H1 => tl σ H1 fun l H2 => th σ H2 fun u H3 => r x l u H3 Q
theorem pe_slice {r : V → Option Int → Option Int → Hp → VK → Prop} (hr : SlR X r) (he : PE X e te) (hl : PO X lo tl) (hu : PO X hi th) : PE X (.Subscript e (.Slice lo hi none p2) pos) (tSl r te tl th) := by
  intro pins s σ H Q I h
  refine Subscript_ (thn (he pins s σ H _ I h) fun v s1 ⟨x, H1, I1, r1, q1⟩ => ?_)
  refine wpAny_Slice (thn (hl pins s1 σ H1 _ I1 q1) fun vl s2 ⟨l, H2, I2, pl, q2⟩ => thn (hu pins s2 σ H2 _ I2 q2) fun vu s3 ⟨u, H3, I3, pu, q3⟩ => ?_)
  rw [evalPart_none]
  refine wpAny_pure ?_
  have I4 : Inv X pins σ H3 { s3 with heap := s3.heap.push { cls := .type "slice", data := .fields #[vl, vu, .none] } } := I3.kept (t' := s3.toks) fun b ob q => Heap.get?_push_of_some _ q
  obtain ⟨T, id, hT, ht, hg⟩ := hr pins { s3 with heap := s3.heap.push { cls := .type "slice", data := .fields #[vl, vu, .none] } } σ H3 x v vl vu l u s3.heap.objs.size Q I4 r1 (Heap.IsSliceOf.new ..) pl pu q3
  show wpAny (model X.prog X.w) X.A (subscriptTail e (.Slice lo hi none p2) v (.ref s3.heap.objs.size)) (EP X pins σ Q) X.xe { s3 with heap := s3.heap.push { cls := .type "slice", data := .fields #[vl, vu, .none] } }
  exact tail_any (ops := [.ref s3.heap.objs.size, v]) ht hT hg (by with_unfolding_all rfl)

def cutV (xs : List V) (lo hi : Option Int) : List V := (xs.drop (HT.sIx xs.length 0 lo)).take (HT.sIx xs.length xs.length hi - HT.sIx xs.length 0 lo)
theorem cutV_length (xs : List V) (lo hi : Option Int) : (cutV xs lo hi).length ≤ xs.length := by
  unfold cutV
  rw [List.length_take, List.length_drop]
  omega
def rSlT (K : PySem.W.Frag) : V → Option Int → Option Int → Hp → VK → Prop := fun x lo hi H Q => ∃ a xs, x = .ref a ∧ SqT K H a xs ∧
  ¬ (HT.sIx xs.length 0 lo = 0 ∧ HT.sIx xs.length xs.length hi = xs.length) ∧ ∀ p, H p = none → Q (.ref p) (upd H p (.tup (cutV xs lo hi)))
theorem sl_tup : SlR X (rSlT X.K) := by
  intro pins s σ H x v vl vu lo hi sl Q I rx hs pl pu h
  obtain ⟨a, xs, rfl, hx, hw, q⟩ := h
  cases rx
  obtain ⟨its, r, ht, hz⟩ := I.tuple hx
  have hlen : its.toArray.size = xs.length := by rw [List.size_toArray]; exact r.length.symm
  refine ⟨"tuple", _, PyProof.Rows.slot_tuple_getitem.lookup, ht.typeIs, ?_⟩
  refine HT.getItem_tuple_cut ht hs pl pu (by rw [hlen]; exact hw) ?_ (by rw [hlen]; exact hz)
  rw [hlen]
  refine ⟨.ref s.heap.objs.size, _, I.laid (t' := s.toks) (o := .tup (cutV xs lo hi)) (fun b ob q => Heap.get?_push_of_some _ q) (Nat.le_refl _) ?_, rfl, q _ (I.hok.fresh (Nat.le_refl _))⟩
  exact ⟨Nat.le_trans (cutV_length xs lo hi) hz, _, (r.drop (HT.sIx xs.length 0 lo)).take (HT.sIx xs.length xs.length hi - HT.sIx xs.length 0 lo), IsTup.new _ _⟩

theorem Vals.nil_iff {xs : List V} {us : List Value} (r : Vals xs us) : us = [] ↔ xs = [] := by
  cases r with
  | nil => simp
  | cons _ _ => simp
end
end L2

namespace L2
open PySem PySem.Spec PyProof.Rows

def ixN (n : Nat) (i : Int) : Option Nat := if 0 ≤ i then (if i < n then some i.toNat else none) else if -(n : Int) ≤ i then some (i + n).toNat else none
def atI {α : Type} (xs : List α) (i : Int) : Option α := (ixN xs.length i).bind fun j => xs[j]?
theorem ixN_seq {n : Nat} {i : Int} {j : Nat} (h : ixN n i = some j) : seqIndex? i n = some j ∧ j < n ∧ -(n : Int) ≤ i ∧ i < n := by
  unfold ixN at h
  by_cases h0 : 0 ≤ i
  · rw [if_pos h0] at h
    by_cases h1 : i < n
    · rw [if_pos h1] at h
      have e : i.toNat = j := Option.some.inj h
      exact ⟨by rw [seqIndex_of h0 h1, e], by omega, by omega, h1⟩
    · rw [if_neg h1] at h; cases h
  · rw [if_neg h0] at h
    by_cases h1 : -(n : Int) ≤ i
    · rw [if_pos h1] at h
      have e : (i + n).toNat = j := Option.some.inj h
      exact ⟨by rw [seqIndex_neg (by omega) h1, e], by omega, h1, by omega⟩
    · rw [if_neg h1] at h; cases h
theorem atI_get {α : Type} {xs : List α} {i : Int} {v : α} (h : atI xs i = some v) : ∃ j, seqIndex? i xs.length = some j ∧ xs[j]? = some v ∧ j < xs.length ∧ -(xs.length : Int) ≤ i ∧ i < xs.length := by
  unfold atI at h
  cases e : ixN xs.length i with
  | none => rw [e] at h; cases h
  | some j =>
    rw [e] at h
    obtain ⟨h1, h2, h3, h4⟩ := ixN_seq e
    exact ⟨j, h1, h, h2, h3, h4⟩
theorem atI_nat {α : Type} {xs : List α} {j : Nat} {v : α} (h : xs[j]? = some v) : atI xs (j : Int) = some v := by
  have hj : j < xs.length := (List.getElem?_eq_some_iff.mp h).1
  have e : ixN xs.length (j : Int) = some j := by
    unfold ixN
    rw [if_pos (by omega), if_pos (by omega)]; simp
  unfold atI; rw [e]; exact h
def PlainIx (b : Expr) : Prop := ∀ o i, subscripted b false o i = operate [o, i] (getItem o i)
def IxR (X : Cx) (r : R2) : Prop :=
  ∀ (value slice : Expr) (pins : List (Addr × Obj)) (s : Shared) (σ : St) (H : Hp) (x y : V) (v u : Value) (Q : VK), Inv X pins σ H s → RelV x v → RelV y u → r x y H Q →
    subscripted slice false v u = operate [v, u] (getItem v u) → wpAny (model X.prog X.w) X.A (subscriptTail value slice v u) (EP X pins σ Q) X.xe s
def MtR (X : Cx) (id : String) (r : V → List V → Hp → VK → Prop) : Prop :=
  ∀ (pins : List (Addr × Obj)) (s : Shared) (σ : St) (H : Hp) (x : V) (xs : List V) (v : Value) (us : List Value) (Q : VK), Inv X pins σ H s → RelV x v → Vals xs us → r x xs H Q →
    wpAny (model X.prog X.w) X.A (call (.builtin id) (v :: us)) (EP X pins σ Q) X.xe s
section
variable {X : Cx} {a b : Expr} {ta tb : TE} {pos : Pos}
theorem pe_ix {r : R2} (hr : IxR X r) (ha : PE X a ta) (hb : PE X b tb) (hs : PlainIx b) : PE X (.Subscript a b pos) (tOp r ta tb) := by
  intro pins s σ H Q I h
  exact Subscript_ (binT ha hb I h fun v u s2 x y H2 I2 rx ry q => hr a b pins s2 σ H2 x y v u Q I2 rx ry q (hs _ _))

def rIxL (K : PySem.W.Frag) : R2 := fun x y H Q => ∃ p xs i v, x = .ref p ∧ y = .int i ∧ SqL K H p xs ∧ atI xs i = some v ∧ Q v H
def rIxT (K : PySem.W.Frag) : R2 := fun x y H Q => ∃ p xs i v, x = .ref p ∧ y = .int i ∧ SqT K H p xs ∧ atI xs i = some v ∧ Q v H
theorem ix_list : IxR X (rIxL X.K) := by
  intro value slice pins s σ H x y v u Q I rx ry h hs
  obtain ⟨p, xs, i, z, rfl, rfl, hq, he, q⟩ := h
  cases rx
  obtain ⟨t, rfl⟩ := ry
  obtain ⟨its, r, pl, hz⟩ := I.list hq
  obtain ⟨j, h1, h2, h3, h4, h5⟩ := atI_get he
  obtain ⟨w, ew, rw'⟩ := r.get h2
  have hl := r.length
  have hn := line63
  have fin : EP X pins σ Q w s := ⟨z, H, I, rw', q⟩
  by_cases h0 : 0 ≤ i
  · have hj : i.toNat = j := by
      rw [seqIndex_of h0 h5] at h1
      exact Option.some.inj h1
    exact item_listR pl.isList h0 (by omega) (by rw [hj]; simpa using ew) fin hs
  · have hj : (i + (its.toArray.size : Int)).toNat = j := by
      rw [seqIndex_neg (by omega) h4] at h1
      rw [List.size_toArray, ← hl]
      exact Option.some.inj h1
    exact subscriptTail_builtinR (x := w) pl.isList.typeIs slot_list_getitem.lookup
      (wpAny_getItem_list_neg (Q := fun r s' => r = w ∧ EP X pins σ Q r s') pl.isList (by omega) (by rw [List.size_toArray] <;> omega) (by omega) (by rw [hj]; simpa using ew) ⟨rfl, fin⟩) hs
theorem ix_tup : IxR X (rIxT X.K) := by
  intro value slice pins s σ H x y v u Q I rx ry h hs
  obtain ⟨p, xs, i, z, rfl, rfl, hq, he, q⟩ := h
  cases rx
  obtain ⟨t, rfl⟩ := ry
  obtain ⟨its, r, pl, hz⟩ := I.tuple hq
  obtain ⟨j, h1, h2, h3, h4, h5⟩ := atI_get he
  obtain ⟨w, ew, rw'⟩ := r.get h2
  have hl := r.length
  have hn := line63
  have fin : EP X pins σ Q w s := ⟨z, H, I, rw', q⟩
  exact subscriptTail_builtinR (x := w) pl.typeIs slot_tuple_getitem.lookup
    (getItem_tuple (j := j) (Q := fun r s' => r = w ∧ EP X pins σ Q r s') pl (by omega) (by omega) (by rw [List.size_toArray, ← hl]; exact h1) (by simpa using ew) ⟨rfl, fin⟩) hs
theorem mapSeq_set (its : List Value) (n j : Nat) (u : Value) : Obj.mapSeq (·.setIfInBounds j u) { cls := .type "list", data := .seq its.toArray n } = { cls := .type "list", data := .seq (its.set j u).toArray n } := by
  simp [Obj.mapSeq]
theorem Inv.lst {pins : List (Addr × Obj)} {σ : St} {H : Hp} {s : Shared} {p : Addr} {xs : List V} (I : Inv X pins σ H s) (h : H p = some (.lst xs)) :
    ∃ (its : List Value) (n : Nat), Vals xs its ∧ s.heap.get? p = some { cls := .type "list", data := .seq its.toArray n } ∧ xs.length ≤ sizeLine := by
  obtain ⟨z, its, n, r, e⟩ := I.hok p _ h
  exact ⟨its, n, r, e, z⟩
theorem Inv.lstUpd {pins : List (Addr × Obj)} {σ : St} {H : Hp} {s : Shared} {p : Addr} {xs ys : List V} {its its' : List Value} {n n' : Nat} {f : Obj → Obj} (I : Inv X pins σ H s) (h : H p = some (.lst xs))
    (ho : s.heap.get? p = some { cls := .type "list", data := .seq its.toArray n }) (hf : f { cls := .type "list", data := .seq its.toArray n } = { cls := .type "list", data := .seq its'.toArray n' }) (r : Vals ys its') (hz : ys.length ≤ sizeLine) (t : Nat) :
    Inv X pins σ (upd H p (.lst ys)) { s with heap := s.heap.update p f, toks := t } := by
  have e : (s.heap.update p f).get? p = some { cls := .type "list", data := .seq its'.toArray n' } := by
    rw [Heap.get?_update_self f ho (by rw [hf] <;> rfl), hf]
  refine I.write (x := p) (e := p) (by rw [h]; trivial) (.inl rfl) (fun b u hb q => (Heap.get?_update_other _ _ (Ne.symm hb)).trans q) ⟨_, e⟩ ?_
  exact ⟨hz, its', n', r, e⟩
def rSetL : V → V → V → Hp → (Hp → Prop) → Prop := fun o i v H Q => ∃ p xs k j, o = .ref p ∧ i = .int k ∧ H p = some (.lst xs) ∧ ixN xs.length k = some j ∧ Q (upd H p (.lst (xs.set j v)))
theorem set_list : PSet X rSetL := by
  intro pins s σ H o i v ov iv u Q I ro ri rv h
  obtain ⟨p, xs, k, j, rfl, rfl, hp, hj, q⟩ := h
  cases ro
  obtain ⟨t, rfl⟩ := ri
  obtain ⟨its, n, r, ho, hz⟩ := I.lst hp
  obtain ⟨h1, h2, h3, h4⟩ := ixN_seq hj
  have hl := r.length
  have hn := line63
  have I' : Inv X pins σ (upd H p (.lst (xs.set j v))) { s with heap := s.heap.update p (Obj.mapSeq (·.setIfInBounds j u)) } :=
    I.lstUpd hp ho (mapSeq_set its n j u) (r.set rv j) (by rw [List.length_set]; exact hz) s.toks
  by_cases h0 : 0 ≤ k
  · have hk : k.toNat = j := by
      rw [seqIndex_of h0 h4] at h1
      exact Option.some.inj h1
    exact PySem.W.ki_setAt ho h0 (by omega) (by rw [List.size_toArray, ← hl]; exact h4) (by rw [hk]; exact ⟨_, I', q⟩)
  · have hk : (k + (its.toArray.size : Int)).toNat = j := by
      rw [seqIndex_neg (by omega) h3] at h1
      rw [List.size_toArray, ← hl]
      exact Option.some.inj h1
    exact PySem.W.ki_setBack ho (by omega) (by rw [List.size_toArray, ← hl]; exact h3) (by omega) (by rw [hk]; exact ⟨_, I', q⟩)

theorem slice_bounds (lo hi : Option Int) (n : Nat) : (sliceBounds lo hi none n).1 = ((HT.sIx n 0 lo : Nat) : Int) ∧ (sliceBounds lo hi none n).2.1 = ((HT.sIx n n hi : Nat) : Int) ∧ (sliceBounds lo hi none n).2.2 = 1 := by
  refine ⟨?_, ?_, rfl⟩
  · cases lo with
    | none => simp [sliceBounds, HT.sIx]
    | some i =>
      simp only [sliceBounds, HT.sIx, Option.getD_none, show (1 : Int) > 0 by decide, if_true]
      by_cases h : i < 0
      · simp only [h, if_true] <;> omega
      · simp only [h, if_false] <;> omega
  · cases hi with
    | none => simp [sliceBounds, HT.sIx]
    | some i =>
      simp only [sliceBounds, HT.sIx, Option.getD_none, show (1 : Int) > 0 by decide, if_true]
      by_cases h : i < 0
      · simp only [h, if_true] <;> omega
      · simp only [h, if_false] <;> omega
theorem slicePick_cut (its : List Value) (lo hi : Option Int) : slicePick its.toArray lo hi none = ((its.drop (HT.sIx its.length 0 lo)).take (HT.sIx its.length its.length hi - HT.sIx its.length 0 lo)).toArray := by
  obtain ⟨h1, h2, h3⟩ := slice_bounds lo hi its.toArray.size
  unfold slicePick
  rw [h1, h2, h3]
  simp only [sliceRange_one, pick_run, List.size_toArray] <;> rfl
def rSlL (K : PySem.W.Frag) : V → Option Int → Option Int → Hp → VK → Prop := fun x lo hi H Q => ∃ a xs, x = .ref a ∧ SqL K H a xs ∧ ∀ p, H p = none → Q (.ref p) (upd H p (.lst (cutV xs lo hi)))
theorem sl_list : SlR X (rSlL X.K) := by
  intro pins s σ H x v vl vu lo hi sl Q I rx hs pl pu h
  obtain ⟨a, xs, rfl, hx, q⟩ := h
  cases rx
  obtain ⟨its, r, ht, hz⟩ := I.list hx
  have hlen := r.length
  refine ⟨"list", _, slot_list_getitem.lookup, ht.isList.typeIs, ?_⟩
  refine wpAny_getItem_list_slice ht.isList hs pl pu .none (by simp) ?_ (by rw [List.size_toArray] <;> omega)
  rw [slicePick_cut, ← hlen]
  refine ⟨.ref s.heap.objs.size, _, I.laid (t' := s.toks) (o := .lst (cutV xs lo hi)) (fun b ob q => Heap.get?_push_of_some _ q) (Nat.le_refl _) ?_, rfl, q _ (I.hok.fresh (Nat.le_refl _))⟩
  exact ⟨Nat.le_trans (cutV_length xs lo hi) hz, _, 0, (r.drop (HT.sIx xs.length 0 lo)).take (HT.sIx xs.length xs.length hi - HT.sIx xs.length 0 lo), Heap.get?_push_size _ rfl⟩

theorem op_notIn_str : OpR X (compareOp .NotIn) (fun x y H Q => ∃ i j, x = .str i ∧ y = .str j ∧ Q (.bl (!(!(Builtin.Str.occurrences j i 0 j.length 1).isEmpty))) H) := by
  intro pins s σ H x y v u Q I rx ry h
  obtain ⟨i, j, rfl, rfl, q⟩ := h
  obtain ⟨t, rfl⟩ := rx
  obtain ⟨t', rfl⟩ := ry
  exact notIn_str ⟨.bl _, H, I, rfl, q⟩

theorem call_list_of : CallR X (.type "list") (fun xs H Q => ∃ p ys, xs = [.ref p] ∧ (SqL X.K H p ys ∨ SqT X.K H p ys) ∧ ∀ l, H l = none → Q (.ref l) (upd H l (.lst ys))) := by
  intro pins s σ H xs us Q I r h
  obtain ⟨p, ys, rfl, hq, q⟩ := h
  obtain ⟨u, rfl, rx⟩ := vals1 r
  cases rx
  have fin : ∀ (its : List Value), Vals ys its → ys.length ≤ sizeLine → ∀ (h' : Heap) (c' : Nat), (∀ b o', s.heap.get? b = some o' → h'.get? b = some o') →
      h'.get? s.heap.objs.size = some { cls := .type "list", dict := none, data := .seq its.toArray c', slots := #[] } → EP X pins σ Q (.ref s.heap.objs.size) { s with heap := h' } := fun its r' hz h' c' kp e =>
    ⟨.ref s.heap.objs.size, _, I.laid (t' := s.toks) kp (Nat.le_refl _) (show ObjOk X.prog X.w _ h' _ (.lst ys) from ⟨hz, its, c', r', e⟩), rfl, q _ (I.hok.fresh (Nat.le_refl _))⟩
  rcases hq with hq | hq
  · obtain ⟨its, r', pl, hz⟩ := I.list hq
    have hlen := r'.length
    obtain ⟨o, ho, hc, n, hd⟩ := pl.isList
    exact call_list_seq p (.inl rfl) ho hc hd (fun h' c' kp e => fin its r' hz h' c' kp e) (by simp only [List.size_toArray] <;> omega)
  · obtain ⟨its, r', pl, hz⟩ := I.tuple hq
    have hlen := r'.length
    obtain ⟨o, ho, hc, n, hd⟩ := pl
    exact call_list_seq p (.inr rfl) ho hc hd (fun h' c' kp e => fin its r' hz h' c' kp e) (by simp only [List.size_toArray] <;> omega)
theorem call_tuple_of : CallR X (.type "tuple") (fun xs H Q => ∃ p ys, xs = [.ref p] ∧ ((SqL X.K H p ys ∧ ∀ l, H l = none → Q (.ref l) (upd H l (.tup ys))) ∨ (SqT X.K H p ys ∧ Q (.ref p) H))) := by
  intro pins s σ H xs us Q I r h
  obtain ⟨p, ys, rfl, h⟩ := h
  obtain ⟨u, rfl, rx⟩ := vals1 r
  cases rx
  rcases h with ⟨hq, q⟩ | ⟨hq, q⟩
  · obtain ⟨its, r', pl, hz⟩ := I.list hq
    have hlen := r'.length
    refine call_tuple_list pl.isList (fun h' kp => ?_) (by simp only [List.size_toArray] <;> omega)
    have I1 : Inv X pins σ H { s with heap := h' } := I.kept (t' := s.toks) kp
    have I2 : Inv X pins σ (upd H h'.objs.size (.tup ys)) { s with heap := h'.push { cls := .type "tuple", data := .seq its.toArray } } :=
      I1.laid (t' := s.toks) (fun b o e => Heap.get?_push_of_some _ e) (Nat.le_refl _) (show ObjOk X.prog X.w _ _ _ (.tup ys) from ⟨hz, its, r', IsTup.new _ _⟩)
    exact ⟨.ref h'.objs.size, _, I2, rfl, q _ (I1.hok.fresh (Nat.le_refl _))⟩
  · obtain ⟨its, r', pl, hz⟩ := I.tuple hq
    exact call_tuple_same pl ⟨.ref p, H, I, rfl, q⟩

def tyV (K : PySem.W.Frag) (T : String) (x : V) (H : Hp) : Prop := match x with
  | .str _ => T = "str"
  | .int _ => T = "int"
  | .ref p => (T = "list" ∧ ∃ xs, SqL K H p xs) ∨ (T = "tuple" ∧ ∃ o, K.lookup p = some o ∧ o.cls = .type "tuple" ∧ o.dict = none) ∨
      (T = "dict" ∧ ((∃ kvs, H p = some (.dK kvs)) ∨ ∃ kvs, H p = some (.dT kvs))) ∨ (T = "set" ∧ ∃ S n, H p = some (.set S n))
  | _ => False
theorem tyV_is {pins : List (Addr × Obj)} {σ : St} {H : Hp} {s : Shared} {T : String} {x : V} {v : Value} (I : Inv X pins σ H s) (r : RelV x v) (ty : tyV X.K T x H) :
    s.TypeIs v T ∧ ∀ a, v = .ref a → ∃ ob, s.heap.get? a = some ob ∧ ob.dict = none := by
  cases x with
  | str z =>
    obtain ⟨t, rfl⟩ := r
    cases (show T = "str" from ty)
    exact ⟨typeIs_str s z t, fun _ e => nomatch e⟩
  | int i =>
    obtain ⟨t, rfl⟩ := r
    cases (show T = "int" from ty)
    exact ⟨typeIs_int s i t, fun _ e => nomatch e⟩
  | ref p =>
    cases r
    rcases ty with ⟨rfl, xs, hq⟩ | ⟨rfl, o, hk, hc, hd⟩ | ⟨rfl, hk⟩ | ⟨rfl, S, n, hk⟩
    · obtain ⟨its, _, pl, _⟩ := I.list hq
      refine ⟨pl.isList.typeIs, fun a e => ?_⟩
      cases e
      obtain ⟨o, n, e, c, hd, _⟩ := pl
      exact ⟨o, e, hd⟩
    · refine ⟨⟨o, I.kIn p o hk, hc⟩, fun a e => ?_⟩
      cases e
      exact ⟨o, I.kIn _ o hk, hd⟩
    · have z : ∃ o, s.heap.get? p = some o ∧ o.ExactDict := by
        rcases hk with ⟨kvs, hk⟩ | ⟨kvs, hk⟩
        · obtain ⟨_, _, _, _, o, _, _, e, ex, _⟩ := I.hok p _ hk
          exact ⟨o, e, ex⟩
        · obtain ⟨_, _, _, _, o, _, _, e, ex, _⟩ := I.hok p _ hk
          exact ⟨o, e, ex⟩
      obtain ⟨o, e, ex⟩ := z
      refine ⟨⟨o, e, ex.1⟩, fun a e2 => ?_⟩
      cases e2
      exact ⟨o, e, ex.2.1⟩
    · obtain ⟨o, _, _, _, e, ex, _⟩ := I.hok p _ hk
      refine ⟨⟨o, e, ex.1⟩, fun a e2 => ?_⟩
      cases e2
      exact ⟨o, e, ex.2.1⟩
  | _ => exact False.elim ty
def tBM (K : PySem.W.Frag) (T : String) (r : V → List V → Hp → VK → Prop) (to : TE) (t : TA) : TE := fun σ H Q => to σ H fun x H1 => tyV K T x H1 ∧ t σ H1 fun xs H2 => r x xs H2 Q
variable {o e : Expr} {es : List Expr} {to : TE} {t : TA} {name : Str} {apos cpos : Pos} {T id : String} {r : V → List V → Hp → VK → Prop}
theorem pe_bm (pa : PlainAttrs T) (slot : Slot T name id) (hty : typeOf (.builtin id) = pure (.type "method_descriptor")) (hm : MtR X id r) (ho : PE X o to) (ha : PA X (e :: es) t)
    (hbase : attributeBase o name X.env (eval o X.env) = eval o X.env := by rfl)
    (hfew : ((backTo cpos (starEach (e :: es) X.env)).all (fun x => !x.1) && (backToKw cpos (keywordEach [] X.env)).all (fun x => x.1.isSome)
      && decide ((e :: es).length + ([] : List Keyword).length + (if ([] : List Keyword).isEmpty then 0 else 1) < 30)) = true := by rfl)
    (hline : (apos.endLine == cpos.line) = true := by rfl) (hs : starEach (e :: es) X.env = (false, eval e X.env) :: starEach es X.env := by rfl) (hplain : (backTo cpos (starEach es X.env)).any (·.1) = false := by rfl) :
    PE X (.Call (.Attribute o name apos) (e :: es) [] cpos) (tBM X.K T r to t) := by
  intro pins s σ H Q I h
  refine wpAny_Call_method_late hbase hfew hline rfl (thn (ho pins s σ H _ I h) fun v s1 ⟨x, H1, I1, r1, ty, q1⟩ => ?_)
  obtain ⟨h1, h2⟩ := tyV_is I1 r1 ty
  refine ⟨T, id, pa, slot, hty, h1, h2, ?_⟩
  have hA := ha cpos pins s1 σ H1 _ I1 q1
  rw [hs] at hA ⊢
  refine Calls.callWith_builtin (by show (false || (backTo cpos (starEach es X.env)).any (·.1)) = false; rw [hplain] <;> rfl) (Calls.evalArgs_plain ?_)
  exact thn hA fun us s2 ⟨vs, H2, I2, r2, q2⟩ => hm pins s2 σ H2 x vs v us Q I2 r1 r2 q2
/- xs.append(e), list.index on a module's tuple .. are MtR facts of 06m -/
end
end L2

namespace L2
open PySem PySem.Spec PyProof.Rows

def MtM (X : Cx) (id : String) (r : V → List V → Hp → VK → Prop) : Prop :=
  ∀ (pins : List (Addr × Obj)) (s : Shared) (σ : St) (H : Hp) (x : V) (xs : List V) (v : Value) (us : List Value) (Q : VK), Inv X pins σ H s → RelV x v → Vals xs us → r x xs H Q →
    wpAny (model X.prog X.w) X.A (call (.builtin id) (v :: us)) (EP X pins σ Q) X.xe s

theorem Vals.one : ∀ {x : V} {us : List Value}, Vals [x] us → ∃ u, us = [u] ∧ RelV x u
  | _, _, .cons r .nil => ⟨_, rfl, r⟩
theorem Vals.rep {xs : List V} {us : List Value} (h : Vals xs us) : ∀ k : Nat, Vals (List.replicate k xs).flatten (List.replicate k us).flatten
  | 0 => .nil
  | k + 1 => by
    rw [List.replicate_succ, List.replicate_succ, List.flatten_cons, List.flatten_cons]
    exact Vals.append h (Vals.rep h k)
theorem foldl_rep (its : List Value) : ∀ (k : Nat) (acc : List Value),
    List.foldl (fun x1 x2 => x1 ++ x2) acc.toArray (List.replicate k its.toArray) = (acc ++ (List.replicate k its).flatten).toArray
  | 0, acc => by simp
  | k + 1, acc => by
    have e : acc.toArray ++ its.toArray = (acc ++ its).toArray := by simp
    have e2 : (acc ++ its) ++ (List.replicate k its).flatten = acc ++ (List.replicate (k + 1) its).flatten := by
      rw [List.replicate_succ, List.flatten_cons, List.append_assoc]
    rw [← e2, ← foldl_rep its k (acc ++ its), ← e, List.replicate_succ, List.foldl_cons]

section
variable {X : Cx} {pins : List (Addr × Obj)} {σ : St} {H : Hp} {s : Shared} {l b : Addr} {xs ys zs : List V}

theorem Inv.lset {its its' : List Value} {n : Nat} {f : Array Value → Array Value} {t' : Nat} (I : Inv X pins σ H s) (hH : H l = some (.lst xs))
    (e : s.heap.get? l = some { cls := .type "list", data := .seq its.toArray n }) (hf : f its.toArray = its'.toArray) (hv : Vals ys its') (hz : ys.length ≤ sizeLine) :
    Inv X pins σ (upd H l (.lst ys)) { s with heap := s.heap.update l (Obj.mapSeq f), toks := t' } := by
  have q := PySem.IsL.update e f
  rw [hf] at q
  refine I.write (x := l) (e := l) (by rw [hH]; exact trivial) (.inl rfl) (fun b' u hb hu => (Heap.get?_update_other s.heap (Obj.mapSeq f) (Ne.symm hb)).trans hu) ⟨_, q⟩ ?_
  exact ⟨hz, its', _, hv, q⟩
theorem Inv.lnew {its : List Value} {t' : Nat} (I : Inv X pins σ H s) (hv : Vals ys its) (hz : ys.length ≤ sizeLine) :
    Inv X pins σ (upd H s.heap.objs.size (.lst ys)) { s with heap := s.heap.push { cls := .type "list", data := .seq its.toArray }, toks := t' } :=
  I.laid (fun _ _ q => Heap.get?_push_of_some _ q) (Nat.le_refl _) ⟨hz, its, 0, hv, Heap.get?_push_size _ rfl⟩
theorem Inv.fresh (I : Inv X pins σ H s) : H s.heap.objs.size = none := I.hok.fresh (Nat.le_refl _)
theorem Inv.lstM (I : Inv X pins σ H s) (hH : H l = some (.lst xs)) : xs.length ≤ sizeLine ∧ ∃ (its : List Value) (n : Nat), Vals xs its ∧ xs.length = its.length ∧ s.heap.get? l = some { cls := .type "list", data := .seq its.toArray n } := by
  obtain ⟨z, its, n, r, e⟩ := I.hok l _ hH
  exact ⟨z, its, n, r, r.length, e⟩

end

section
variable {X : Cx}

def rAppend : V → List V → Hp → VK → Prop := fun x vs H Q => ∃ l xs y, x = .ref l ∧ vs = [y] ∧ H l = some (.lst xs) ∧ xs.length < sizeLine ∧ Q .non (upd H l (.lst (xs ++ [y])))
theorem mt_append : MtM X "list.append" rAppend := by
  intro pins s σ H x vs v us Q I rx rv h
  obtain ⟨l, xs, y, rfl, rfl, hH, hz, q⟩ := h
  cases rx
  obtain ⟨u, rfl, ru⟩ := rv.one
  obtain ⟨z, its, n, r, hl, e⟩ := I.lstM hH
  refine call_meets F.slot_list_append ⟨_, e, rfl⟩ F.entry_list_append (F.args_list_append_2 _ _) (PySem.list_append l its.toArray n u (by rw [List.size_toArray]; omega)) ⟨e, ?_⟩
  refine ⟨.non, _, I.lset (its' := its ++ [u]) hH e (by simp) (r.append (.cons ru .nil)) ?_, rfl, q⟩
  rw [List.length_append, List.length_singleton]
  omega

def rCat : R2 := fun x y H Q => ∃ l b xs zs, x = .ref l ∧ y = .ref b ∧ H l = some (.lst xs) ∧ H b = some (.lst zs) ∧ xs.length + zs.length ≤ sizeLine ∧ ∀ p, H p = none → Q (.ref p) (upd H p (.lst (xs ++ zs)))
theorem op_cat : OpR X (binaryOp .Add) rCat := by
  intro pins s σ H x y v u Q I rx ry h
  obtain ⟨l, b, xs, zs, rfl, rfl, hH, hB, hz, q⟩ := h
  cases rx
  cases ry
  obtain ⟨z, its, n, r, hl, e⟩ := I.lstM hH
  obtain ⟨z2, its2, n2, r2, hl2, e2⟩ := I.lstM hB
  refine PySem.P.add_list e e2 ?_ (by rw [List.size_toArray, List.size_toArray]; omega)
  have ea : its.toArray ++ its2.toArray = (its ++ its2).toArray := by simp
  rw [ea]
  exact ⟨.ref _, _, I.lnew (t' := s.toks) (r.append r2) (by rw [List.length_append]; omega), rfl, q _ I.fresh⟩
theorem len_rep {α : Type} (xs : List α) (k : Nat) : (List.replicate k xs).flatten.length = k * xs.length := by
  induction k with
  | zero => simp
  | succ k ih => rw [List.replicate_succ, List.flatten_cons, List.length_append, ih, Nat.succ_mul, Nat.add_comm]
end

section
variable {prog : Program} {w : World} {A : Around} {E : Value → Shared → Prop} {s : Shared}
end

section
variable {X : Cx}
end
end L2

namespace L2
open PySem PySem.Spec PyProof.Rows

section
variable {κ : Type} [DecidableEq κ]
def valV (kvs : List (κ × V)) (k : κ) : Option V := (kvs.find? fun kv => decide (kv.1 = k)).map (·.2)
def putK (kvs : List (κ × V)) (k : κ) (v : V) : List (κ × V) :=
  if (kvs.any fun kv => decide (kv.1 = k)) = true then kvs.map (fun kv => if kv.1 = k then (kv.1, v) else kv) else kvs ++ [(k, v)]
theorem valV_pos {p : κ × V} {r : List (κ × V)} {k : κ} (e : p.1 = k) : valV (p :: r) k = some p.2 := by simp [valV, List.find?_cons, e]
theorem valV_neg {p : κ × V} {r : List (κ × V)} {k : κ} (e : ¬ p.1 = k) : valV (p :: r) k = valV r k := by simp [valV, List.find?_cons, e]
theorem valV_any (k : κ) : ∀ kvs : List (κ × V), (kvs.any fun kv => decide (kv.1 = k)) = (valV kvs k).isSome
  | [] => rfl
  | p :: r => by
    rw [List.any_cons]
    by_cases e : p.1 = k
    · simp only [valV_pos e, decide_eq_true e, Bool.true_or, Option.isSome_some]
    · rw [valV_neg e, decide_eq_false e, Bool.false_or]; exact valV_any k r
theorem length_putK (kvs : List (κ × V)) (k : κ) (v : V) : (putK kvs k v).length ≤ kvs.length + 1 := by
  unfold putK
  split
  · rw [List.length_map]; omega
  · rw [List.length_append, List.length_cons, List.length_nil]; omega
theorem putK_new {kvs : List (κ × V)} {k : κ} (v : V) (h : valV kvs k = none) : putK kvs k v = kvs ++ [(k, v)] := by
  unfold putK
  rw [valV_any, h]
  exact if_neg (by decide)

theorem RelO.isSome_eq {o : Option V} {u : Option Value} (r : RelO o u) : o.isSome = u.isSome := by
  cases o with
  | none => cases u with
    | none => rfl
    | some _ => exact (show False from r).elim
  | some _ => cases u with
    | none => exact (show False from r).elim
    | some _ => rfl
theorem RelO.getD {o : Option V} {u : Option Value} {d : V} {d' : Value} (r : RelO o u) (rd : RelV d d') : RelV (o.getD d) (u.getD d') := by
  cases o with
  | none => cases u with
    | none => exact rd
    | some _ => exact (show False from r).elim
  | some _ => cases u with
    | none => exact (show False from r).elim
    | some _ => exact r

theorem KV.val {kvs : List (κ × V)} {vs : List (κ × Value)} (r : KV kvs vs) (k : κ) : RelO (valV kvs k) (valueAt vs k) := by
  unfold KV at r
  induction r with
  | nil => exact True.intro
  | @cons p q ps qs h t ih =>
    obtain ⟨h1, h2⟩ := h
    by_cases e : p.1 = k
    · have e' : q.1 = k := h1.symm.trans e
      have b : valueAt (q :: qs) k = some q.2 := by simp [valueAt, List.find?_cons, e']
      rw [valV_pos e, b]; exact h2
    · have e' : ¬ q.1 = k := fun z => e (h1.trans z)
      have b : valueAt (q :: qs) k = valueAt qs k := by simp [valueAt, List.find?_cons, e']
      rw [valV_neg e, b]; exact ih
theorem KV.any {kvs : List (κ × V)} {vs : List (κ × Value)} (r : KV kvs vs) (k : κ) : (kvs.any fun kv => decide (kv.1 = k)) = vs.any fun kv => decide (kv.1 = k) := by
  unfold KV at r
  induction r with
  | nil => rfl
  | cons h t ih => rw [List.any_cons, List.any_cons, ih, h.1]
theorem KV.repl {kvs : List (κ × V)} {vs : List (κ × Value)} (r : KV kvs vs) (k : κ) {y : V} {u : Value} (ry : RelV y u) :
    KV (kvs.map fun kv => if kv.1 = k then (kv.1, y) else kv) (vs.map fun kv => if kv.1 = k then (kv.1, u) else kv) := by
  unfold KV at r ⊢
  induction r with
  | nil => exact .nil
  | @cons p q ps qs h t ih =>
    rw [List.map_cons, List.map_cons]
    refine .cons ?_ ih
    obtain ⟨h1, h2⟩ := h
    by_cases e : p.1 = k
    · rw [if_pos e, if_pos (h1.symm.trans e)]; exact ⟨h1, ry⟩
    · rw [if_neg e, if_neg (fun z => e (h1.trans z))]; exact ⟨h1, h2⟩
theorem KV.put {kvs : List (κ × V)} {vs : List (κ × Value)} (r : KV kvs vs) (k : κ) {y : V} {u : Value} (ry : RelV y u) : KV (putK kvs k y) (stored vs k u) := by
  unfold putK stored
  rw [r.any k]
  by_cases e : (vs.any fun kv => decide (kv.1 = k)) = true
  · rw [if_pos e, if_pos e]; exact r.repl k ry
  · rw [if_neg e, if_neg e]; exact Paired.snoc r ⟨rfl, ry⟩
theorem KV.keys {kvs : List (κ × V)} {vs : List (κ × Value)} (r : KV kvs vs) : kvs.map (·.1) = vs.map (·.1) := by
  unfold KV at r
  induction r with
  | nil => rfl
  | cons h t ih => rw [List.map_cons, List.map_cons, ih, h.1]
theorem KV.length {kvs : List (κ × V)} {vs : List (κ × Value)} (r : KV kvs vs) : kvs.length = vs.length := Paired.length r
end


theorem kV_is {P : Program} {w : World} {k : Key} {u : Value} (r : RelV (kV k) u) : (mixKind P w).is k u = true := by
  cases k with
  | inl i => obtain ⟨t, e⟩ := (show ∃ t, u = Value.int i t from r); subst e; exact mixKind_int P w i t
  | inr x => obtain ⟨t, e⟩ := (show ∃ t, u = Value.str x t from r); subst e; exact mixKind_str P w x t
theorem items_are {P : Program} {w : World} : ∀ {ks : List Key} {us : List Value}, Vals (ks.map kV) us → ItemsAre (mixKind P w) ks us
  | [], _, r => by rw [List.map_nil] at r; cases r; exact .nil
  | k :: ks, _, r => by
    rw [List.map_cons] at r
    cases r with
    | cons h t => exact .cons (kV_is h) (items_are t)

abbrev KT (H : Hp) : List (List Key × V) → List (List Key × Addr × Value) → Prop := Paired fun p q => p.1 = q.1 ∧ H q.2.1 = some (.tup (p.1.map kV)) ∧ RelV p.2 q.2.2
theorem KT.val {H : Hp} {kvs : List (List Key × V)} {xs : List (List Key × Addr × Value)} (r : KT H kvs xs) (k : List Key) : RelO (valV kvs k) ((atKey xs k).map (·.2)) := by
  induction r with
  | nil => exact True.intro
  | @cons p q ps qs h t ih =>
    obtain ⟨h1, _, h2⟩ := h
    by_cases e : p.1 = k
    · have e' : q.1 = k := h1.symm.trans e
      have b : atKey (q :: qs) k = some q.2 := by simp [atKey, List.find?_cons, e']
      rw [valV_pos e, b]; exact h2
    · have e' : ¬ q.1 = k := fun z => e (h1.trans z)
      have b : atKey (q :: qs) k = atKey qs k := by simp [atKey, List.find?_cons, e']
      rw [valV_neg e, b]; exact ih
theorem KT.repl {H : Hp} {kvs : List (List Key × V)} {xs : List (List Key × Addr × Value)} (r : KT H kvs xs) (k : List Key) {y : V} {u : Value} (ry : RelV y u) :
    KT H (kvs.map fun kv => if kv.1 = k then (kv.1, y) else kv) (xs.map (putAt k u)) := by
  induction r with
  | nil => exact .nil
  | @cons p q ps qs h t ih =>
    rw [List.map_cons, List.map_cons]
    refine .cons ?_ ih
    obtain ⟨h1, h2, h3⟩ := h
    unfold putAt
    by_cases e : p.1 = k
    · rw [if_pos e, if_pos (h1.symm.trans e)]; exact ⟨h1, h2, ry⟩
    · rw [if_neg e, if_neg (fun z => e (h1.trans z))]; exact ⟨h1, h2, h3⟩
theorem KT.put {H : Hp} {kvs : List (List Key × V)} {xs : List (List Key × Addr × Value)} (r : KT H kvs xs) (k : List Key) {b : Addr} {y : V} {u : Value} (hb : H b = some (.tup (k.map kV))) (ry : RelV y u) :
    KT H (putK kvs k y) (storedH xs k b u) := by
  have e : (kvs.any fun kv => decide (kv.1 = k)) = (atKey xs k).isSome := by
    rw [valV_any, (r.val k).isSome_eq, Option.isSome_map]
  unfold putK storedH
  rw [e]
  by_cases q : (atKey xs k).isSome = true
  · rw [if_pos q, if_pos q]; exact r.repl k ry
  · rw [if_neg q, if_neg q]; exact Paired.snoc r ⟨rfl, hb, ry⟩
theorem KT.keeps {H H' : Hp} {kvs : List (List Key × V)} {xs : List (List Key × Addr × Value)} (r : KT H kvs xs) (ht : ∀ b ys, H b = some (.tup ys) → H' b = some (.tup ys)) : KT H' kvs xs :=
  Paired.mapP r fun _ _ z => ⟨z.1, ht _ _ z.2.1, z.2.2⟩

section
variable {P : Program} {w : World} {H : Hp} {h : Heap} {a : Addr}
theorem rd_of {u : HO} (ok : HOk P w H h) (e : Rd H a u) : ObjOk P w H h a u := e.ok ok
theorem dk_rd {kvs : List (Key × V)} (ok : HOk P w H h) (e : Rd H a (.dK kvs)) : kvs.length ≤ sizeLine ∧ (a == sysModules) = false ∧ ∃ vs, KV kvs vs ∧ h.DictOf (mixKind P w) a vs :=
  show ObjOk P w H h a (.dK kvs) from rd_of ok e
theorem dk_of {kvs : List (Key × V)} (ok : HOk P w H h) (e : H a = some (.dK kvs)) : kvs.length ≤ sizeLine ∧ (a == sysModules) = false ∧ ∃ vs, KV kvs vs ∧ h.DictOf (mixKind P w) a vs := dk_rd ok (.inl e)
theorem key_of {ks : List Key} (ok : HOk P w H h) (e : H a = some (.tup (ks.map kV))) : (tupleKind (mixKind P w)).is h ks a := by
  obtain ⟨_, its, r, o, h1, h2, n, h3⟩ := (show ObjOk P w H h a (.tup (ks.map kV)) from ok a _ e)
  exact ⟨o, its.toArray, n, h1, h2, h3, by simpa using items_are r⟩
theorem dt_rd {kvs : List (List Key × V)} (ok : HOk P w H h) (e : Rd H a (.dT kvs)) : kvs.length ≤ sizeLine ∧ (a == sysModules) = false ∧
    ∃ xs, KT H kvs xs ∧ h.DictOfH (tupleKind (mixKind P w)) a xs := by
  obtain ⟨z, y, xs, r, o, es, ep, h1, h2, h3, h4, h5⟩ := (show ObjOk P w H h a (.dT kvs) from rd_of ok e)
  refine ⟨z, y, xs, r, o, es, ep, h1, h2, h3, h4, fun x hx => ?_, h5⟩
  have all : ∀ {l : List (List Key × V)} {m : List (List Key × Addr × Value)}, KT H l m → ∀ x ∈ m, (tupleKind (mixKind P w)).is h x.1 x.2.1 := by
    intro l m q
    induction q with
    | nil => intro x hx; exact nomatch hx
    | @cons p q ps qs hq t ih =>
      intro x hx
      rcases List.mem_cons.mp hx with e | hx
      · subst e
        exact key_of ok (by rw [← hq.1]; exact hq.2.1)
      · exact ih x hx
  exact all r x hx
theorem dt_of {kvs : List (List Key × V)} (ok : HOk P w H h) (e : H a = some (.dT kvs)) : kvs.length ≤ sizeLine ∧ (a == sysModules) = false ∧
    ∃ xs, KT H kvs xs ∧ h.DictOfH (tupleKind (mixKind P w)) a xs := dt_rd ok (.inl e)
end

def DGet (H : Hp) (a : Addr) (y : V) (r : Option V) : Prop :=
  (∃ kvs k, Rd H a (.dK kvs) ∧ y = kV k ∧ r = valV kvs k) ∨ ∃ kvs k b, Rd H a (.dT kvs) ∧ y = .ref b ∧ H b = some (.tup (k.map kV)) ∧ r = valV kvs k
def DPut (H : Hp) (a : Addr) (y v : V) (H' : Hp) : Prop :=
  (∃ kvs k, H a = some (.dK kvs) ∧ y = kV k ∧ kvs.length < sizeLine ∧ H' = upd H a (.dK (putK kvs k v))) ∨
  ∃ kvs k b, H a = some (.dT kvs) ∧ y = .ref b ∧ H b = some (.tup (k.map kV)) ∧ kvs.length < sizeLine ∧ H' = upd H a (.dT (putK kvs k v))
theorem DGet.k {H : Hp} {a : Addr} {kvs : List (Key × V)} {k : Key} (e : H a = some (.dK kvs)) : DGet H a (kV k) (valV kvs k) := .inl ⟨kvs, k, .inl e, rfl, rfl⟩
section
variable {X : Cx} {pins : List (Addr × Obj)} {σ : St} {H : Hp} {s : Shared} {a : Addr} {y v : V} {u r : Value} {o : Option V} {A : Around} {E : Value → Shared → Prop}

theorem Inv.big (I : Inv X pins σ H s) : sysModules < s.heap.objs.size := by
  have h : mainGlobals < s.heap.objs.size := (I.mod.glob.keeps I.bk).lt
  exact Nat.lt_trans (by decide) h

theorem d_getItem {Q : Value → Shared → Prop} (hu : A.units + 1 < cLine) (I : Inv X pins σ H s) (g : DGet H a y (some v)) (ry : RelV y u) (h : ∀ w' s', Inv X pins σ H s' → RelV v w' → Q w' s') :
    wpAny (model X.prog X.w) A (getItem (.ref a) u) Q E s := by
  rcases g with ⟨kvs, k, e, ey, l⟩ | ⟨kvs, k, b, e, ey, eb, l⟩
  · subst ey
    obtain ⟨z, hd, vs, rel, dd⟩ := dk_rd I.hok e
    obtain ⟨w', hw, rw'⟩ := RelO.some_of (v := v) (o := valueAt vs k) (by rw [l]; exact rel.val k)
    exact wpAny_getItem_of (kV_is ry) dd.mapOf hw (h w' _ (I.tok _) rw')
  · subst ey
    cases (show u = Value.ref b from ry)
    obtain ⟨z, hd, xs, rel, dd⟩ := dt_rd I.hok e
    obtain ⟨w', hw, rw'⟩ := RelO.some_of (v := v) (o := (atKey xs k).map (·.2)) (by rw [l]; exact rel.val k)
    obtain ⟨p, hp, hp2⟩ := Option.map_eq_some_iff.mp hw
    refine wpAny_getItem_heap (tupleKind_room_in1 hu) (key_of I.hok eb) dd hp ?_
    rw [hp2]
    exact h w' _ (I.tok _) rw'
theorem d_write {h' : Heap} {t' : Nat} {ob : HO} (I : Inv X pins σ H s) (mu : Mut (H a)) (hs : Heap.SameBut a s.heap h') (he : ∃ q, h'.get? a = some q) (new : ObjOk X.prog X.w (upd H a ob) h' a ob) :
    Inv X pins σ (upd H a ob) { s with heap := h', toks := t' } :=
  I.write (x := a) (e := a) mu (.inl rfl) (fun b q hb z => (hs.2 b hb).trans z) he new
theorem dk_new {P : Program} {w : World} {H' : Hp} {h' : Heap} {kvs : List (Key × V)} {vs : List (Key × Value)} (z : kvs.length ≤ sizeLine) (hd : (a == sysModules) = false) (rel : KV kvs vs) (dd : h'.DictOf (mixKind P w) a vs) :
    ObjOk P w H' h' a (.dK kvs) := ⟨z, hd, vs, rel, dd⟩
theorem d_setItem {H' : Hp} {Q : Unit → Shared → Prop} (hu : A.units + 1 < cLine) (I : Inv X pins σ H s) (g : DPut H a y v H') (ry : RelV y u) (rv : RelV v r) (h : ∀ s', Inv X pins σ H' s' → Q () s') :
    wpAny (model X.prog X.w) A (setItem (.ref a) u r) Q E s := by
  rcases g with ⟨kvs, k, e, ey, l, eH⟩ | ⟨kvs, k, b, e, ey, eb, l, eH⟩
  · subst ey eH
    obtain ⟨z, hd, vs, rel, dd⟩ := dk_of I.hok e
    have hz : vs.length ≤ sizeLine := by rw [← rel.length]; exact z
    have hl : (putK kvs k v).length ≤ sizeLine := by have := length_putK kvs k v; omega
    refine wpAny_setItem_pairs (hsz := hz) (kV_is ry) dd fun h' dd' hs => h _ ?_
    have he : ∃ q, h'.get? a = some q := let ⟨q, _, _, hq, _⟩ := dd'; ⟨q, hq⟩
    exact d_write I (by rw [e]; exact True.intro) hs he (dk_new hl hd (rel.put k rv) dd')
  · subst ey eH
    cases (show u = Value.ref b from ry)
    obtain ⟨z, hd, xs, rel, dd⟩ := dt_of I.hok e
    have hz : xs.length ≤ sizeLine := by rw [← Paired.length rel]; exact z
    have hl : (putK kvs k v).length ≤ sizeLine := by have := length_putK kvs k v; omega
    refine wpAny_setItem_heap (hsz := hz) (tupleKind_room_in1 hu) (key_of I.hok eb) dd fun h' dd' hs => h _ ?_
    obtain ⟨q, es, ep, hq, h2, h3, h4, _, h5⟩ := dd'
    refine d_write I (by rw [e]; exact True.intro) hs ⟨q, hq⟩ ⟨hl, hd, _, (rel.put k eb rv).keeps fun c ys ec => ?_, q, es, ep, hq, h2, h3, h4, h5⟩
    rw [upd_ne (ne_of ec e (fun z => nomatch z))]
    exact ec
end

section
variable {X : Cx} {pins : List (Addr × Obj)} {σ : St} {H : Hp} {s : Shared} {a : Addr} {kvs : List (Key × V)} {k : Key} {u : Value} {A : Around} {E : Value → Shared → Prop}
theorem d_len {Q : Value → Shared → Prop} (I : Inv X pins σ H s) (e : Rd H a (.dK kvs)) (h : ∀ t s', Inv X pins σ H s' → Q (.int kvs.length t) s') : wpAny (model X.prog X.w) A (call (.builtin "len") [.ref a]) Q E s := by
  obtain ⟨z, hd, vs, rel, dd⟩ := dk_rd I.hok e
  refine call_len_dict hd dd (by rw [← rel.length]; rw [sizeLine_eq] at z; omega) ?_
  rw [← rel.length]
  exact h _ _ (I.tok _)
end


def NoSl (i : Expr) : Prop := ∀ ov iv, subscripted i false ov iv = operate [ov, iv] (getItem ov iv)
theorem subD_of {prog : Program} {w : World} {A : Around} {E : Value → Shared → Prop} {s : Shared} {env : Env} {value slice : Expr} {pos : Pos} {T id : String} {Q : Value → Shared → Prop}
    (hl : typeLookup (.type T) "__getitem__" = pure (some (.builtin id))) (hs : NoSl slice)
    (h : wpAny (model prog w) A (eval value env) (fun o s₁ => wpAny (model prog w) A (eval slice env) (fun i s₂ => s₂.TypeIs o T ∧ wpAny (model prog w) A (getItem o i) Q E s₂) E s₁) E s) :
    wpAny (model prog w) A (eval (.Subscript value slice pos) env) Q E s := by
  refine Subscript_ (wpAny_mono h (fun o s₁ h₁ => wpAny_mono h₁ (fun i s₂ h₂ => ?_) fun _ _ x => x) fun _ _ x => x)
  obtain ⟨hT, h₂⟩ := h₂
  unfold subscriptTail
  refine wpAny_bind ?_
  rw [getitemInPython_of_ne hT.not_modules]
  refine wpAny_bind (wpAny_specialOf hT hl ?_)
  have fin : wpAny (model prog w) A (subscripted slice false o i) (fun r s₃ => wpAny (model prog w) A (letTemporaryGo value o r >>= fun _ => pure r) Q E s₃) E s₂ := by
    rw [hs o i]
    exact wpAny_operating (wpAny_mono h₂ (fun r s₃ h₃ => wpAny_bind (wpAny_letTemporaryGo (wpAny_pure h₃))) fun _ _ x => x)
  first
    | exact wpAny_pure (wpAny_bind fin)
    | exact wpAny_bind (wpAny_pure (wpAny_bind fin))
    | exact wpAny_bind fin

theorem dict_typeIs {X : Cx} {pins : List (Addr × Obj)} {σ : St} {H : Hp} {s : Shared} {a : Addr} {y : V} {o : Option V} (I : Inv X pins σ H s) (g : DGet H a y o) : s.TypeIs (.ref a) "dict" := by
  rcases g with ⟨kvs, k, e, _, _⟩ | ⟨kvs, k, b, e, _, _, _⟩
  · obtain ⟨_, _, vs, _, dd⟩ := dk_rd I.hok e
    exact dd.typeIs
  · obtain ⟨_, _, xs, _, dd⟩ := dt_rd I.hok e
    exact dd.typeIs
def tDGet (td ty : TE) : TE := fun σ H Q => td σ H fun x H1 => ty σ H1 fun y H2 => ∃ a v, x = .ref a ∧ DGet H2 a y (some v) ∧ Q v H2
def sDPut (td ty tv : TE) : TS := fun D σ H => tv σ H fun v H1 => td σ H1 fun x H2 => ty σ H2 fun y H3 => ∃ a H4, x = .ref a ∧ DPut H3 a y v H4 ∧ D.nx σ H4
section
variable {X : Cx} {o i e value : Expr} {pos pos' tpos : Pos} {td ty tv : TE}
theorem pe_dget (hu : X.A.units + 1 < cLine) (ho : PE X o td) (hi : PE X i ty) (hs : NoSl i) : PE X (.Subscript o i pos) (tDGet td ty) := by
  intro pins s σ H Q I h
  refine subD_of PySem.F.slot_dict_getitem.lookup hs (thn (ho pins s σ H _ I h) fun u s1 ⟨x, H1, I1, rx, q1⟩ => thn (hi pins s1 σ H1 _ I1 q1) fun iv s2 ⟨y, H2, I2, ry, a, v, ex, g, q2⟩ => ?_)
  subst ex
  obtain rfl : u = Value.ref a := rx
  exact ⟨dict_typeIs I2 g, d_getItem hu I2 g ry fun w' s3 I3 rw' => ⟨v, H2, I3, rw', q2⟩⟩
theorem ps_dput (hu : X.A.units + 1 < cLine) (ho : PE X o td) (hi : PE X i ty) (hv : PE X value tv) (hs : swapsWith value (some (.Subscript o i pos')) pos.line X.env = pure false) :
    PS X (.Assign [.Subscript o i pos'] value pos) (sDPut td ty tv) := by
  intro pins s σ H D I h
  refine wpAny_Assign_Subscript (thn (hv pins s σ H _ I h) fun r s1 ⟨v, H1, I1, rv, q1⟩ => thn (ho pins s1 σ H1 _ I1 q1) fun u s2 ⟨x, H2, I2, rx, q2⟩ => thn (hi pins s2 σ H2 _ I2 q2) fun iv s3 ⟨y, H3, I3, ry, a, H4, ex, g, q3⟩ => ?_) hs
  subst ex
  obtain rfl : u = Value.ref a := rx
  exact d_setItem hu I3 g ry rv fun s4 I4 => ⟨σ, H4, I4, q3⟩
end


theorem dk_empty {P : Program} {w : World} {H : Hp} (h : Heap) (hb : sysModules < h.objs.size) : ObjOk P w H (h.push { cls := .type "dict", data := .dict #[] }) h.objs.size (.dK []) :=
  ⟨Nat.zero_le _, beq_eq_false_iff_ne.mpr (Ne.symm (Nat.ne_of_lt hb)), [], .nil, Heap.DictOf.new h⟩
def tDNewK : TE := fun _ H Q => ∀ p, H p = none → Q (.ref p) (upd H p (.dK []))
section
variable {X : Cx} {pos : Pos}
theorem pe_dnewK : PE X (.Dict [] [] pos) tDNewK := fun pins s σ H Q I h =>
  wpAny_Dict_empty ⟨.ref s.heap.objs.size, _, I.laid (a := s.heap.objs.size) (o := .dK []) (t' := s.toks) (fun _ _ q => Heap.get?_push_of_some _ q) (Nat.le_refl _) (dk_empty s.heap I.big), rfl, h _ (I.hok.fresh (Nat.le_refl _))⟩
end

def tPairs : List (TE × TE) → St → Hp → (List (V × V) → Hp → Prop) → Prop
  | [], _, H, Q => Q [] H
  | (tk, tv) :: r, σ, H, Q => tk σ H fun x H1 => tv σ H1 fun y H2 => tPairs r σ H2 fun ps H3 => Q ((x, y) :: ps) H3
abbrev VV : List (V × V) → List (Value × Value) → Prop := Paired fun p q => RelV p.1 q.1 ∧ RelV p.2 q.2
def PPs (X : Cx) (pos : Pos) (keys : List (Option Expr)) (values : List Expr) (trs : List (TE × TE)) : Prop :=
  ∀ (pins : List (Addr × Obj)) (s : Shared) (σ : St) (H : Hp) (Q : List (V × V) → Hp → Prop), Inv X pins σ H s → tPairs trs σ H Q →
    wpAny (model X.prog X.w) X.A (evalPairs (pairTrees keys values X.env pos)) (fun vs s' => ∃ ps H', Inv X pins σ H' s' ∧ VV ps vs ∧ Q ps H') X.xe s
theorem pps_nil {X : Cx} {pos : Pos} : PPs X pos [] [] [] := fun pins s σ H Q I h => pairTrees_nil_walk ⟨[], H, I, .nil, h⟩
theorem pps_cons {X : Cx} {pos : Pos} {k v : Expr} {ks : List (Option Expr)} {vs : List Expr} {tk tv : TE} {trs : List (TE × TE)} (hk : PE X k tk) (hv : PE X v tv) (hr : PPs X pos ks vs trs) :
    PPs X pos (some k :: ks) (v :: vs) ((tk, tv) :: trs) := fun pins s σ H Q I h =>
  pairTrees_cons_walk (thn (hk pins s σ H _ I h) fun u s1 ⟨x, H1, I1, rx, q1⟩ => thn (hv pins s1 σ H1 _ I1 q1) fun w2 s2 ⟨y, H2, I2, ry, q2⟩ =>
    thn (hr pins s2 σ H2 _ I2 q2) fun ws s3 ⟨ps, H3, I3, rel, q3⟩ => ⟨(x, y) :: ps, H3, I3, .cons ⟨rx, ry⟩ rel, q3⟩)

def mergeK (kvs more : List (Key × V)) : List (Key × V) := more.foldl (fun acc kv => putK acc kv.1 kv.2) kvs
theorem KV.merge : ∀ {more : List (Key × V)} {rs : List (Key × Value)} {kvs : List (Key × V)} {vs : List (Key × Value)}, KV more rs → KV kvs vs → KV (mergeK kvs more) (merged vs rs) := by
  intro more rs kvs vs r
  unfold KV at r
  induction r generalizing kvs vs with
  | nil => intro q; exact q
  | @cons p q ps qs h t ih =>
    intro r0
    have e : KV (putK kvs p.1 p.2) (stored vs q.1 q.2) := by
      have := r0.put p.1 h.2
      rw [← h.1]; exact this
    exact ih e
theorem length_mergeK : ∀ (more kvs : List (Key × V)), (mergeK kvs more).length ≤ kvs.length + more.length
  | [], kvs => by show kvs.length ≤ kvs.length + 0; omega
  | p :: r, kvs => by
    have h1 := length_mergeK r (putK kvs p.1 p.2)
    have h2 := length_putK kvs p.1 p.2
    show (mergeK (putK kvs p.1 p.2) r).length ≤ _
    rw [List.length_cons]; omega
theorem carries_of {P : Program} {w : World} : ∀ {kvs : List (Key × V)} {ws : List (Value × Value)}, VV (kvs.map fun kv => (kV kv.1, kv.2)) ws → ∃ rs, Carries (mixKind P w) ws rs ∧ KV kvs rs
  | [], _, r => by rw [List.map_nil] at r; cases r; exact ⟨[], True.intro, .nil⟩
  | p :: kvs, _, r => by
    rw [List.map_cons] at r
    cases r with
    | @cons a b as bs h t =>
      obtain ⟨rs, c, q⟩ := carries_of (P := P) (w := w) t
      obtain ⟨b1, b2⟩ := b
      exact ⟨(p.1, b2) :: rs, ⟨kV_is h.1, rfl, c⟩, .cons ⟨rfl, h.2⟩ q⟩
def tDisp (trs : List (TE × TE)) : TE := fun σ H Q => ∀ p, H p = none → tPairs trs σ (upd H p (.dK [])) fun ps H2 => H2 p = some (.dK []) ∧ ∃ kvs : List (Key × V), ps = kvs.map (fun kv => (kV kv.1, kv.2)) ∧ kvs.length ≤ 15 ∧ Q (.ref p) (upd H2 p (.dK (mergeK [] kvs)))
theorem pe_disp {X : Cx} {pos : Pos} {keys : List (Option Expr)} {values : List Expr} {trs : List (TE × TE)} (h : PPs X pos keys values trs) (hall : keys.all (·.isSome) = true) (hl : keys.length = values.length) (h0 : keys ≠ [])
    (h15 : keys.length ≤ 15) : PE X (.Dict keys values pos) (tDisp trs) := by
  intro pins s σ H Q I q
  have hn := I.hok.fresh (Nat.le_refl s.heap.objs.size)
  have I1 := I.laid (a := s.heap.objs.size) (o := .dK []) (h' := s.heap.push { cls := .type "dict", data := .dict #[] }) (t' := s.toks) (fun _ _ q => Heap.get?_push_of_some _ q) (Nat.le_refl _) (dk_empty s.heap I.big)
  refine wpAny_Dict_walk (knd := mixKind X.prog X.w) hall hl h0 h15 (thn (h pins _ σ _ _ I1 (q _ hn)) fun ws s2 ⟨ps, H2, I2, rel, e, kvs, ep, lk, q2⟩ => ?_)
  subst ep
  obtain ⟨rs, c, rk⟩ := carries_of (P := X.prog) (w := X.w) rel
  obtain ⟨z, hd, vs0, r0, dd⟩ := dk_of I2.hok e
  cases r0
  refine ⟨rs, c, dd, fun h' dd' hs => ⟨.ref s.heap.objs.size, _, ?_, rfl, q2⟩⟩
  have hz : (mergeK [] kvs).length ≤ sizeLine := by
    have h1 := length_mergeK kvs []
    rw [List.length_nil] at h1
    rw [sizeLine_eq]; omega
  have he : ∃ q, h'.get? s.heap.objs.size = some q := let ⟨q, _, _, hq, _⟩ := dd'; ⟨q, hq⟩
  exact d_write I2 (by rw [e]; exact True.intro) hs he (dk_new hz hd (rk.merge .nil) dd')


structure M1 (X : Cx) (o : Expr) (m : Str) (apos : Pos) (e : Expr) (cpos : Pos) : Prop where
  base : attributeBase o m X.env (eval o X.env) = eval o X.env
  few : ((backTo cpos (starEach [e] X.env)).all (fun x => !x.1) && (backToKw cpos (keywordEach [] X.env)).all (fun x => x.1.isSome)
    && decide (([e] : List Expr).length + ([] : List Keyword).length + (if ([] : List Keyword).isEmpty then 0 else 1) < 30)) = true
  line : (apos.endLine == cpos.line) = true
  trees : backTo cpos (starEach [e] X.env) = [(false, eval e X.env)]
structure M2 (X : Cx) (o : Expr) (m : Str) (apos : Pos) (e f : Expr) (cpos : Pos) : Prop where
  base : attributeBase o m X.env (eval o X.env) = eval o X.env
  few : ((backTo cpos (starEach [e, f] X.env)).all (fun x => !x.1) && (backToKw cpos (keywordEach [] X.env)).all (fun x => x.1.isSome)
    && decide (([e, f] : List Expr).length + ([] : List Keyword).length + (if ([] : List Keyword).isEmpty then 0 else 1) < 30)) = true
  line : (apos.endLine == cpos.line) = true
  trees : backTo cpos (starEach [e, f] X.env) = [(false, eval e X.env), (false, eval f X.env)]

def IsD (H : Hp) (a : Addr) : Prop := (∃ kvs, Rd H a (.dK kvs)) ∨ ∃ kvs, Rd H a (.dT kvs)
theorem isD_at {X : Cx} {pins : List (Addr × Obj)} {σ : St} {H : Hp} {s : Shared} {a : Addr} (I : Inv X pins σ H s) (d : IsD H a) :
    s.TypeIs (.ref a) "dict" ∧ (∀ b, Value.ref a = .ref b → ∃ ob, s.heap.get? b = some ob ∧ ob.dict = none) ∧ (a == sysModules) = false := by
  rcases d with ⟨kvs, e⟩ | ⟨kvs, e⟩
  · obtain ⟨_, hd, vs, _, dd⟩ := dk_rd I.hok e
    refine ⟨dd.typeIs, fun b q => ?_, hd⟩
    cases q
    obtain ⟨ob, _, _, h1, h2, _⟩ := dd
    exact ⟨ob, h1, h2.2.1⟩
  · obtain ⟨_, hd, xs, _, dd⟩ := dt_rd I.hok e
    refine ⟨dd.typeIs, fun b q => ?_, hd⟩
    cases q
    obtain ⟨ob, _, _, h1, h2, _⟩ := dd
    exact ⟨ob, h1, h2.2.1⟩

section
variable {X : Cx} {pins : List (Addr × Obj)} {σ : St} {H : Hp} {s : Shared} {a : Addr} {y d : V} {u r : Value} {o : Option V} {A : Around} {E : Value → Shared → Prop}
theorem d_get2 {Q : Value → Shared → Prop} (hu : A.units + 1 < cLine) (I : Inv X pins σ H s) (g : DGet H a y o) (ry : RelV y u) (rd : RelV d r) (h : ∀ w' s', Inv X pins σ H s' → RelV (o.getD d) w' → Q w' s') :
    wpAny (model X.prog X.w) A (call (.builtin "dict.get") [.ref a, u, r]) Q E s := by
  rcases g with ⟨kvs, k, e, ey, l⟩ | ⟨kvs, k, b, e, ey, eb, l⟩
  · subst ey
    obtain ⟨z, hd, vs, rel, dd⟩ := dk_rd I.hok e
    refine call_meetsIn PySem.F.slot_dict_get dd.typeIs PySem.F.entry_dict_get (PySem.F.args_dict_get_3 _ _ _) (meets_dict_get_default (mixKind X.prog X.w) a (kV_is ry) hd r) ⟨_, dd.mapOf, h _ _ (I.tok _) ?_⟩
    rw [l]
    exact (rel.val k).getD rd
  · subst ey
    cases (show u = Value.ref b from ry)
    obtain ⟨z, hd, xs, rel, dd⟩ := dt_rd I.hok e
    refine call_meetsIn PySem.F.slot_dict_get dd.typeIs PySem.F.entry_dict_get (PySem.F.args_dict_get_3 _ _ _) (meetsH_dict_get_default (tupleKind (mixKind X.prog X.w)) a b hd r) ⟨tupleKind_room_in1 hu, k, xs, key_of I.hok eb, dd, h _ _ (I.tok _) ?_⟩
    rw [l]
    exact (rel.val k).getD rd
end

def tDGet2 (td ty tx : TE) : TE := fun σ H Q => td σ H fun x H1 => ∃ a, x = .ref a ∧ IsD H1 a ∧ ty σ H1 fun y H2 => tx σ H2 fun z H3 => ∃ o, DGet H3 a y o ∧ Q (o.getD z) H3
section
variable {X : Cx} {o e f : Expr} {apos cpos : Pos} {td ty tx : TE}
theorem pe_dget2 (hu : X.A.units + 1 < cLine) (ho : PE X o td) (he : PE X e ty) (hf : PE X f tx) (m : M2 X o "get" apos e f cpos) : PE X (.Call (.Attribute o "get" apos) [e, f] [] cpos) (tDGet2 td ty tx) := by
  intro pins s σ H Q I h
  refine wpAny_Call_method m.base m.few m.line PySem.F.plainAttrs_dict PySem.F.slot_dict_get PySem.F.type_dict_get (thn (ho pins s σ H _ I h) fun u s1 ⟨x, H1, I1, rx, a, ex, d, q1⟩ => ?_)
  subst ex
  obtain rfl : u = Value.ref a := rx
  obtain ⟨t1, t2, _⟩ := isD_at I1 d
  refine ⟨t1, t2, ?_⟩
  rw [m.trees]
  refine Calls.callWith_builtin rfl (Calls.evalArgs_plain (Calls.spliced_cons (thn (he pins s1 σ H1 _ I1 q1) fun iv s2 ⟨y, H2, I2, ry, q2⟩ =>
    Calls.spliced_cons (thn (hf pins s2 σ H2 _ I2 q2) fun fv s3 ⟨z, H3, I3, rz, ov, g, q3⟩ => Calls.spliced_nil ?_))))
  exact d_get2 hu I3 g ry rz fun w' s4 I4 rw' => ⟨_, H3, I4, rw', q3⟩
end

section
variable {X : Cx} {pins : List (Addr × Obj)} {σ : St} {H : Hp} {s : Shared} {a : Addr} {kvs : List (Key × V)} {A : Around} {E : Value → Shared → Prop}
end


section
variable {X : Cx} {pins : List (Addr × Obj)} {σ : St} {H : Hp} {s : Shared} {a : Addr} {y : V} {u : Value} {A : Around} {E : Value → Shared → Prop}
end
end L2

namespace Att
open PySem PySem.W PySem.Calls PyProof.Rows

theorem ints_of_wellAll {P : Params} {h : Heap} : ∀ (ns : List Int) (vs : List Value), WellAll P h vs (ns.map WData.int) → IntsAre vs ns := by
  intro ns
  induction ns with
  | nil =>
    intro vs w
    rw [List.map_nil] at w
    cases w
    exact .nil
  | cons n ns ih =>
    intro vs w
    rw [List.map_cons] at w
    cases w with
    | cons a b =>
      cases a
      exact .cons _ _ (ih _ b)

theorem script_of {l : OpenLaw} {n : Nat} (hn : l.most = some n) {P : Params} {h : Heap} {args : List WData} {vals : List Value}
    (hpre : l.row.toRowW.claim.pre args = true) (hwl : WellAll P h vals args) :
    ∃ a vs ns, vals = [Value.ref a] ∧ args = [WData.list (ns.map WData.int)] ∧ h.get? a = some { cls := .type "list", data := .seq vs.toArray } ∧ IntsAre vs ns ∧ ns.length ≤ n := by
  have hsh : WShape.hasAll [] args [.list .int] = true := (pre_splitW hpre).1
  have hc : l.pre.holds [] { args := args } = true := (pre_splitW hpre).2
  obtain ⟨d, r, rfl, h1, h2⟩ := hasAllW_cons hsh
  obtain rfl := hasAllW_nil h2
  obtain ⟨xs, rfl, h3⟩ := hasW_list h1
  obtain ⟨ns, rfl⟩ := items_int h3
  have hlen : ns.length ≤ n := by
    unfold OpenLaw.pre at hc
    have h4 : (WTm.not (.lt (.lit (.int (n : Int))) (.len (.arg 0)))).holds [] { args := [.list (ns.map .int)] } = true := by
      have h4 := (holds_andW hc).1
      rw [hn] at h4
      exact h4
    have h5 := condW_of h4 (w_not (w_lt w_lit (w_len_list (w_arg rfl))))
    rw [List.length_map] at h5
    refine Nat.le_of_not_lt fun q => ?_
    have q' : (n : Int) < ((ns.length : Nat) : Int) := by omega
    first
      | (rw [decide_eq_true q'] at h5; exact absurd h5 (by decide))
      | (simp at h5; omega)
  cases hwl with
  | cons w1 w2 =>
    cases w2
    cases w1 with
    | list ho hall => exact ⟨_, _, ns, rfl, rfl, ho, ints_of_wellAll ns _ hall, hlen⟩

theorem post_true (l : OpenLaw) (args : List WData) : l.row.toRowW.claim.post args (.bool true) args = true :=
  postW_of (r := l.row.toRowW) (X := (true == true))
    (show WShape.has [] (.bool true) .bool = true by first | rfl | decide | simp [WShape.has, WShape.arms, WShape.armsAll])
    (show (WTm.eq .res (.lit (.bool true))).value [] { args := args, res := some (.bool true), after := args } = some (.bool (true == true)) from w_eq_bool (w_res rfl) w_lit) rfl

theorem attach_call {l : OpenLaw} {n : Nat} {q : Program} {loose : List Str} {XP : (Str → Option Value) → Heap → Prop} {YP : World → Heap → Prop} {d : DefRec}
    (hn : l.most = some n) (hdf : d.params.defaults = [])
    (call : ∀ (w : World) (s₀ s₁ : Shared) (mg mb : Str → Option Value) (fa : Addr) (o : Obj) (pm cd doc : Value) (a : Addr) (vs : List Value) (ns : List Int),
      Ground q loose [] XP w s₀ mg mb s₁.heap → YP w s₁.heap →
      s₁.heap.get? fa = some o → o.data = .func (docDef d.name d.params d.body d.scope pm cd doc) → s₁.heap.CodeRec cd d.name → mg d.name = some (.ref fa) →
      s₁.heap.get? a = some { cls := .type "list", data := .seq vs.toArray } → IntsAre vs ns → ns.length ≤ n → s₁.gens = #[] →
      codeAny (model l.prog w) callerA (.call (.ref fa) ⟨[.ref a], []⟩) (fun r s' => r = .ok (.ret (.bool true)) ∧ OldK s₁.heap s'.heap ∧ s'.os = s₁.os ∧ AllBare s'.gens) s₁) :
    WalkO q loose XP YP l.row.toRowW d [] (fun f vs => PySem.call f vs) := by
  intro w s₀ s₁ mg mb G Y fa o pm cd doc dV kV ho hd hcd hD hmg hg args vals as hpre hlay hrd hwl hlo
  obtain rfl : dV = .none := Dflts.none hD hdf
  obtain rfl : kV = .none := Dflts.noKw hD
  obtain ⟨a, vs, ns, rfl, rfl, hobj, hints, hlen⟩ := script_of hn hpre hwl
  refine enter_call (codeAny_mono (call w s₀ s₁ mg mb fa o pm cd doc a vs ns G Y ho (fd_plain hd) hcd hmg hobj hints hlen hg) fun r s' hq => ?_)
  obtain ⟨rfl, h2, h3, h4⟩ := hq
  exact ⟨.inl ⟨.bool true, .bool true, [], rfl, fun _ => rfl, .bool true, post_true l _, fun _ => ⟨List.Pairwise.nil, fun _ hm => (nomatch hm)⟩⟩, h2, h3, h4⟩

section
variable {prog : Program} {w : World} {A : Around} {E : Value → Shared → Prop} {s : Shared} {K : Frag}

def ledger (h : Heap) (L d : Addr) : List (Addr × Obj) := (List.range h.objs.size).filterMap fun a => if a = L ∨ a = d then none else (h.get? a).map fun o => (a, o)
end
end Att

namespace L2
open PySem PySem.Spec PyProof.Rows

theorem vals_ints : ∀ {vs : List Value} {ns : List Int}, IntsAre vs ns → Vals (ns.map V.int) vs
  | _, _, .nil => .nil
  | _, _, .cons n t h => .cons ⟨t, rfl⟩ (vals_ints h)

def Only (H : Hp) : Prop := ∀ b, H b = none ∨ ∃ o xs, H b = some (.frz o (.lst xs))

theorem law_call {P : Program} {w : World} {K : PySem.W.Frag} {mg mb : Str → Option Value} {CX : CXT} {k : Nat} {fa a : Addr} {fd : FuncData} {x : Str} {sp : Sp} {s₁ : Shared} {vs : List Value} {ns : List Int}
    (KX : K.In s₁.heap) (hns : s₁.heap.Ns mainGlobals mg) (hb : s₁.heap.Ns builtinsNs mb) (hbb : ∀ x : Str, x ≠ "__name__" → mb x = bootBuiltins x) (hlim : s₁.heap.NoLimit) (hg : s₁.gens = #[])
    (ha : s₁.heap.get? a = some { cls := .type "list", data := .seq vs.toArray }) (hi : IntsAre vs ns) (hl : ns.length ≤ sizeLine) (hr : Room k callerA)
    (F : ∀ base : Heap, K.In base → base.Ns mainGlobals mg → FnOk P w K mg base CX k fa fd [x] sp) (hbind : ∀ (s : Shared) (u : Value), BindsTo s fd ⟨[u], []⟩ [(x, u)])
    (hsp : ∀ H : Hp, Only H → SqL K H a (ns.map V.int) → sp [.ref a] H (fun v _ => v = .bl true) fun _ _ _ => False)
    (hCX : ∀ H e s', CX [] H s₁ (fun _ _ _ => False) e s' → False) :
    codeAny (model P w) callerA (.call (.ref fa) ⟨[.ref a], []⟩) (fun r s' => r = .ok (.ret (.bool true)) ∧ OldK s₁.heap s'.heap ∧ s'.os = s₁.os ∧ AllBare s'.gens) s₁ := by
  have rv := vals_ints hi
  have lenV := hi.length
  have core : ∀ H : Hp, Only H → SqL K H a (ns.map V.int) → HOk P w H s₁.heap → (∀ b, H b ≠ none → b = a) → (H a ≠ none → K.lookup a = none) →
      codeAny (model P w) callerA (.call (.ref fa) ⟨[.ref a], []⟩) (fun r s' => r = .ok (.ret (.bool true)) ∧ OldK s₁.heap s'.heap ∧ s'.os = s₁.os ∧ AllBare s'.gens) s₁ := by
    intro H hO hS hok hA hK
    have base_of : ∀ {b : Addr} {o : Obj}, s₁.heap.get? b = some o → H b = none → (hidT s₁.heap H).get? b = some o := fun e n => hidT_get e n
    have noA : ∀ {b : Addr} {o : Obj} {es : Array DictEntry} {ep : Nat}, s₁.heap.get? b = some o → o.data = .dict es ep → H b = none := fun {b o es ep} e d => by
      cases q : H b with
      | none => rfl
      | some u =>
        have e' : b = a := hA b (by rw [q]; simp)
        subst e'
        rw [ha] at e; cases e
        have d' : Data.seq vs.toArray _ = Data.dict es ep := d
        cases d'
    have nsK : ∀ {b : Addr} {m : Str → Option Value}, s₁.heap.Ns b m → (hidT s₁.heap H).Ns b m := fun {b m} ⟨o, es, ep, e, d, r⟩ => ⟨o, es, ep, base_of e (noA e d), d, r⟩
    have hKb : K.In (hidT s₁.heap H) := fun b o e => base_of (KX b o e) (by
      cases q : H b with
      | none => rfl
      | some u =>
        have e' : b = a := hA b (by rw [q]; simp)
        subst e'
        rw [hK (by rw [q]; simp)] at e; cases e)
    have hM : Mod K mg (hidT s₁.heap H) := ⟨hKb, nsK hns, ⟨mb, nsK hb, hbb⟩, let ⟨mc, h1, h2⟩ := hlim; ⟨mc, nsK h1, h2⟩⟩
    have e0 : Env0 P w K mg (hidT s₁.heap H) callerA [] s₁ H := ⟨rfl, hM, fun b o e => of_hidT e, Nat.le_of_eq (hidT_size _ _), trivial, fun b hb => absurd (show b ∈ ([] : List Addr) from hb) (by simp), hok, .of_eq hg⟩
    refine codeAny_mono ((F _ hKb (nsK hns)).run callerA [] s₁ H ⟨[.ref a], []⟩ [.ref a] [.ref a] _ _ hr e0 (hbind s₁ (.ref a)) (.cons rfl .nil) (hsp H hO hS)) fun r s' h => ?_
    cases r with
    | error e => exact (hCX H e s' h).elim
    | ok fl =>
      cases fl with
      | next => exact False.elim h
      | brk => exact False.elim h
      | cont => exact False.elim h
      | ret u =>
        obtain ⟨v, H', os, bare, un, hok', r', q⟩ := h
        have q' : v = .bl true := q
        subst q'
        obtain rfl : u = Value.bool true := r'
        refine ⟨rfl, OldK.of_keep fun b o e => ?_, os, bare⟩
        cases q : H b with
        | none => exact un.keep b o e q (by intro z; exact absurd (show b ∈ ([] : List Addr) from z) (by simp)) (by simp)
        | some u =>
          rcases hO b with z | ⟨ob, xs, z⟩
          · rw [q] at z; cases z
          · have z2 := un.frzs b ob _ z
            obtain ⟨e1, _⟩ := hok b _ z
            obtain ⟨e2, _⟩ := hok' b _ z2
            rw [e] at e1; cases e1
            exact e2
  cases hk : K.lookup a with
  | some o =>
    have e := KX a o hk
    rw [ha] at e
    cases e
    refine core (fun _ => none) (fun _ => .inl rfl) (.inr ⟨_, vs.toArray, _, hk, rfl, rfl, rfl, by rw [List.size_toArray, lenV]; exact hl, by simpa using rv⟩) (fun b u z => by have z' : (none : Option HO) = some u := z; cases z') (fun b z => absurd rfl z) fun z => absurd rfl z
  | none =>
    refine core (fun b => if b = a then some (.frz { cls := .type "list", data := .seq vs.toArray } (.lst (ns.map V.int))) else none) (fun b => ?_) (.inl (.inr ⟨{ cls := .type "list", data := .seq vs.toArray }, if_pos rfl⟩)) (fun b u z => ?_) (fun b z => ?_) fun _ => hk
    · by_cases hb : b = a
      · exact .inr ⟨_, _, if_pos hb⟩
      · exact .inl (if_neg hb)
    · by_cases hb : b = a
      · have z' := (if_pos hb).symm.trans z
        cases z'
        subst hb
        exact ⟨ha, by rw [List.length_map]; exact hl, vs, _, rv, ha⟩
      · have z' := (if_neg hb).symm.trans z
        cases z'
    · by_cases hb : b = a
      · exact hb
      · exact absurd (if_neg hb) z
end L2

namespace L2
open PySem PySem.Spec PyProof.Rows

abbrev KOf {K : PySem.W.Frag} {h : Heap} (_ : K.In h) : PySem.W.Frag := K

theorem walk_of {l : PySem.W.OpenLaw} {n k : Nat} {q : Program} {loose : List Str} {XP : (Str → Option Value) → Heap → Prop} {YP : World → Heap → Prop} {d : DefRec} {K : Params → PySem.W.Frag} {CX : World → CXT} {sp : World → Sp} {x : Str}
    (hn : l.most = some n) (hn2 : n ≤ sizeLine) (hdf : d.params.defaults = []) (hr : Room k callerA)
    (hY : ∀ (w : World) (h : Heap), YP w h → (K w.params).In h)
    (F : ∀ (w : World) (mg : Str → Option Value) (fa : Addr) (h : Heap), (K w.params).In h → h.Ns mainGlobals mg → mg d.name = some (.ref fa) →
      ∃ fd : FuncData, (∀ (s : Shared) (u : Value), BindsTo s fd ⟨[u], []⟩ [(x, u)]) ∧
        ∀ base : Heap, (K w.params).In base → base.Ns mainGlobals mg → FnOk l.prog w (K w.params) mg base (CX w) k fa fd [x] (sp w))
    (hsp : ∀ (w : World) (H : Hp) (a : Addr) (ns : List Int), ns.length ≤ n → Only H → SqL (K w.params) H a (ns.map V.int) → sp w [.ref a] H (fun v _ => v = .bl true) fun _ _ _ => False)
    (hCX : ∀ (w : World) (H : Hp) (s : Shared) (e : Value) (s' : Shared), CX w [] H s (fun _ _ _ => False) e s' → False) :
    PySem.W.WalkO q loose XP YP l.row.toRowW d [] (fun f vs => PySem.call f vs) := by
  refine Att.attach_call hn hdf fun w s₀ s₁ mg mb fa o pm cd doc a vs ns G Y ho hd hcd hmg hobj hints hlen hg => ?_
  have KX := hY w _ Y
  obtain ⟨fd, hb, hF⟩ := F w mg fa _ KX G.T.g hmg
  exact law_call KX G.T.g G.T.b G.T.builtins G.T.nolimit hg hobj hints (Nat.le_trans hlen hn2) hr hF hb (fun H hO hS => hsp w H a ns hlen hO hS) fun H e s' => hCX w H s₁ e s'
end L2

/- THE LAST THEOREM (shape; LID, My.* are yours):
   My.Adr: a structure of the addresses that your layer names (classes, functions); My.Txt K t: a structure (Prop) of the equations over K;
   My.txt_mk : {K} {implicit addresses ..} (e1 : nsIn K mainGlobals "law" = some (some (.ref f))) (e2 : K.lookup f = some ⟨oc, od, .func (fnOf "law" "law" params body scope dV kV doc pm an cdv ct), sl⟩) (e3 : codeIn K cdv "law" = true) .. : ∃ t, My.Txt K t

set_option maxRecDepth 100000 in
set_option maxHeartbeats 0 in
theorem PySem.Challenge.cw_LID_holds : PySem.Challenge.rw_LID.Holds := by
  w_on; o_law; k_head; (case hw => w_witness2)
  k_fill
  refine L2.walk_of (l := PySem.Challenge.rw_LID) (n := 63) (k := 40) (x := "script") (CX := fun w => ..) (sp := fun _ => My.sp_law) rfl (by decide) rfl ⟨rfl, by decide, by decide⟩ (fun w h Y => PySem.W.kIn_of Y) ?F ?S ?C
  case F =>
    intro w mg fa h KX G hmg
    have T : ∃ t, My.Txt (L2.KOf KX) t := by
      dsimp only [L2.KOf]                          -- K must stand as «<heap const> w.params» for k_is
      refine' My.txt_mk ?e1 ?e2 ?e3 ..
      (case e1 => PySem.W.k_is)                    -- in the order: a name -> its address -> its object -> its parts
      (case e2 => PySem.W.k_is)
      ..
    obtain ⟨t, T⟩ := T
    have e0 := hmg.symm.trans (PySem.W.mg_of KX G T.law)
    cases e0                                       -- fa is the law's own address
    exact ⟨_, fun s u => .of_eq rfl, fun base kb nb => My.law_fn T kb nb⟩     -- if «.of_eq rfl» comes too early: refine' ⟨_, ?b, fun base kb nb => My.law_fn T kb nb⟩; exact fun s u => .of_eq rfl
  case S => exact fun w H a ns hl hO hS => ..
  case C => exact ..
(the tactic k_is has no namespace: write k_is) -/

namespace L2
open PySem PySem.Spec PyProof.Rows

def defArgs (s : Stmt) : Arguments := match s with
  | .FunctionDef _ a _ _ _ _ _ _ _ _ => a
  | _ => { posonlyargs := [], args := [], vararg := none, kwonlyargs := [], kw_defaults := [], kwarg := none, defaults := [] }
def defBody (s : Stmt) : List Stmt := match s with
  | .FunctionDef _ _ b _ _ _ _ _ _ _ => b
  | _ => []
def defScope (s : Stmt) : Scope := match s with
  | .FunctionDef _ _ _ _ _ _ sc _ _ _ => sc
  | _ => { kind := .function, names := [], isGenerator := false, isCoroutine := false }

abbrev CX0 : CXT := fun _ _ _ _ _ _ => False
abbrev E0 : XK := fun _ _ _ => False
theorem pass0 {X : Cx} : Passes CX0 X E0 := fun _ _ _ _ _ _ _ h => h.elim

structure Fun (K : PySem.W.Frag) (x qual : Str) (st : Stmt) (f : Addr) (fd : FuncData) : Prop where
  ex : ∃ (oc : Value) (od : Option Addr) (kV doc pm : Value) (an : Option Addr) (cdv ct : Value) (osl : Array (Option Value)),
    fd = PySem.W.fnOf x qual (defArgs st) (defBody st) (defScope st) .none kV doc pm an cdv ct ∧ K.lookup f = some ⟨oc, od, .func fd, osl⟩ ∧ PySem.W.codeIn K cdv qual = true
  kp : PySem.W.keepIn K (.ref f) = true
section
variable {P : Program} {w : World} {K : PySem.W.Frag} {mg : Str → Option Value} {base : Heap}
theorem Fun.ok {x qual : Str} {st : Stmt} {f : Addr} {fd : FuncData} {N ps : List Str} {k : Nat} {sp : Sp} (F : Fun K x qual st f fd) (S : FnScope N ps (defScope st)) (len : ∀ vs H Q E, sp vs H Q E → vs.length = ps.length)
    (hbody : ∀ (cdv : Value) (A : Around) (outer : List Env) (s : Shared) (H : Hp) (vs : List V) (Q : VK) (E : XK), Room k (A.deeper (envOfC qual (defScope st) s.heap.objs.size f cdv)) → sp vs H Q E →
      ∃ t, PSs (cxOf CX0 P w K mg base N qual (defScope st) f cdv A outer s H E).nox (defBody st) t ∧ t { nx := fun _ H' => Q .non H', rt := Q } (start N vs) H) : FnOk P w K mg base CX0 (k + 1) f fd ps sp := by
  obtain ⟨oc, od, kV, doc, pm, an, cdv, ct, osl, rfl, lk, hcd⟩ := F.ex
  refine fn_of lk hcd S len fun A outer s H vs Q E hr hsp => ?_
  obtain ⟨t, h, q⟩ := hbody cdv A outer s H vs Q E hr hsp
  exact ⟨t, h.nox, q⟩
theorem Fun.binds {x qual : Str} {st : Stmt} {f : Addr} {fd : FuncData} {ps : List Str} (F : Fun K x qual st f fd)
    (h : ∀ (kV doc pm : Value) (an : Option Addr) (cdv ct : Value) (us : List Value), us.length = ps.length → bindArgs (PySem.W.fnOf x qual (defArgs st) (defBody st) (defScope st) .none kV doc pm an cdv ct) ⟨us, []⟩ = pure (ps.zip us)) : Binds K fd ps [] := by
  obtain ⟨oc, od, kV, doc, pm, an, cdv, ct, osl, rfl, lk, hcd⟩ := F.ex
  exact .all (h kV doc pm an cdv ct)
theorem fun_mk {x qual : Str} {st : Stmt} {f : Addr} {oc : Value} {od an : Option Addr} {osl : Array (Option Value)} {kV doc pm cdv ct : Value} (l : K.lookup f = some ⟨oc, od, .func (PySem.W.fnOf x qual (defArgs st) (defBody st) (defScope st) .none kV doc pm an cdv ct), osl⟩)
    (c : PySem.W.codeIn K cdv qual = true) (k : PySem.W.keepIn K (.ref f) = true) : Fun K x qual st f (PySem.W.fnOf x qual (defArgs st) (defBody st) (defScope st) .none kV doc pm an cdv ct) := ⟨⟨oc, od, kV, doc, pm, an, cdv, ct, osl, rfl, l, c⟩, k⟩
end
theorem hu_of {A : Around} {k : Nat} (hr : Room k A) : A.units + 1 < cLine := Nat.lt_of_le_of_lt (Nat.add_le_add_left (by decide : 1 ≤ 64) _) hr.units
theorem small1000 {n : Nat} (h : n ≤ 1000) : n < sizeLine := Nat.lt_of_le_of_lt h (by decide)

section
variable {X : Cx}
theorem pv (i : Nat) {x : Str} {pos : Pos} (hN : X.N[i]? = some x := by rfl) (hv : Vis X.env.scope x := by first | exact Or.inl rfl | exact Or.inr (Or.inl rfl) | exact Or.inr (Or.inr rfl)) (hd : (x == ("__debug__" : Str)) = false := by decide)
    (hcd : (x == ("__classdict__" : Str)) = false := by decide) : PE X (.Name x pos) (tVar i) := pe_var hN hv hd hcd
end

theorem iteF {A B : Prop} (h : B) : if false = true then A else B := by
  rw [if_neg Bool.false_ne_true]
  exact h
theorem iteT {A B : Prop} (h : A) : if true = true then A else B := by
  rw [if_pos rfl]
  exact h
theorem ite2 {c A B : Prop} [Decidable c] (h1 : c → A) (h2 : ¬ c → B) : if c then A else B := by
  by_cases h : c
  · rw [if_pos h]
    exact h1 h
  · rw [if_neg h]
    exact h2 h
def Same (H H' : Hp) : Prop := ∀ b o, H b = some o → H' b = some o
theorem Same.refl (H : Hp) : Same H H := fun _ _ h => h
theorem Same.trans {H H1 H2 : Hp} (a : Same H H1) (b : Same H1 H2) : Same H H2 := fun c o h => b c o (a c o h)
end L2

namespace L2
open PySem PySem.Spec PyProof.Rows
section
variable {X : Cx}
theorem call_lenD : CallR X (.builtin "len") (fun xs H Q => ∃ a kvs, xs = [V.ref a] ∧ H a = some (.dK kvs) ∧ Q (.int kvs.length) H) := by
  intro pins s σ H xs us Q I r h
  obtain ⟨a, kvs, rfl, ha, q⟩ := h
  obtain ⟨u, rfl, ru⟩ := vals1 r
  cases ru
  exact d_len I (.inl ha) fun t s' I' => ⟨.int kvs.length, H, I', ⟨t, rfl⟩, q⟩
end
section
variable {κ : Type} [DecidableEq κ]
end
end L2

set_option Elab.async false
set_option linter.all false
set_option maxRecDepth 100000
set_option maxHeartbeats 4000000
namespace L2
open PySem PySem.Spec PyProof.Rows

def Its (z : Str) : It := ⟨fun i _ => i < z.cps.size, fun i H x H' => H' = H ∧ ∃ c, z.cps[i]? = some c ∧ x = .str ⟨#[c]⟩, fun i _ => i = z.cps.size⟩
theorem walks_str {prog : Program} {w : World} {A : Around} (hh : A.handled = none) (I : Addr) (x : Str) (t : Tok) :
    Walks prog w A I [I] [I] x.cps.size (SignAt x) (fun i h => h.IsStrIter I (strIterType x) x t i) := by
  unfold strIterType
  cases x.cps.all (· < 128) with
  | true => exact Walks.strAscii hh I x t
  | false => exact Walks.strWide hh I x t
theorem strIter_plain (x : Str) : ["enumerate", "zip", "dict_itemiterator", "dict_reverseitemiterator", "odict_iterator", "itertools.zip_longest", "itertools.pairwise"].contains (strIterType x) = false := by
  unfold strIterType
  cases x.cps.all (· < 128) with
  | true => decide
  | false => decide
theorem turn_str {P : Program} {w : World} {K : PySem.W.Frag} {tg : Expr} (it : Addr) (z : Str) (t : Tok) : Turn P w K tg (Its z) [it] it (fun i h => h.IsStrIter it (strIterType z) z t i) where
  mem := by simp
  obj := fun i h st b hb => by
    have e : b = it := by simpa using hb
    subst e
    obtain ⟨o, e, c, d⟩ := st
    exact ⟨o, e, fun v z => by rw [d] at z; cases z⟩
  keep := fun i h h' st k => by
    obtain ⟨o, e, r⟩ := st
    exact ⟨o, k it (by simp) o e, r⟩
  item := by
    intro X hP hw hK hc i pins s σ H E I hf st hg
    subst hP hw hK
    obtain ⟨f0, f1, f2, f3, f4, f5⟩ := hf it (by simp)
    have W := walks_str (prog := X.prog) (w := X.w) (I.ok.hd hc) it z t
    refine W.item i s _ _ hg st fun v h' tk hv st' kk => ?_
    obtain ⟨c, u, hc', rfl⟩ := hv
    have I1 : Inv X pins σ H { s with heap := h', toks := tk } := I.turned (fun b o hb e => kk b o (by simpa using hb) e) f0 f1 f3 f4 f5
    obtain ⟨o, e, c1, d1⟩ := id st'
    exact ⟨_, rfl, go_of (s := { s with heap := h', toks := tk }) e c1 d1 (strIter_plain z) ⟨.str ⟨#[c]⟩, H, I1, ⟨u, rfl⟩, ⟨rfl, c, hc', rfl⟩, st', fun b hb => (hf b hb).1⟩⟩
  done := by
    intro X hP hw hK hc i pins s σ H E I hf st hg
    subst hP hw hK
    obtain ⟨f0, f1, f2, f3, f4, f5⟩ := hf it (by simp)
    have W := walks_str (prog := X.prog) (w := X.w) (I.ok.hd hc) it z t
    have e : i = z.cps.size := hg
    subst e
    exact W.done s _ _ st fun h' tk kk => ⟨rfl, I.turned (fun b o hb e => kk b o (by simpa using hb) e) f0 f1 f3 f4 f5⟩
  self := fun A i s Q E st h => by
    unfold strIterType at st
    cases hx : z.cps.all (· < 128) with
    | true => rw [hx] at st; exact wpAny_pyIter_striter_ascii st h
    | false => rw [hx] at st; exact wpAny_pyIter_striter_wide st h
section
variable {X : Cx} {tg : Expr}
def iStr (tl : TE) : TI := fun σ H R => tl σ H fun x H1 => ∃ z, x = .str z ∧ R (Its z) H1
theorem pi_str {l : Expr} {tl : TE} (hl : PE X l tl) : PI X tg l (iStr tl) := by
  intro pins s σ H R I h
  refine thn (hl pins s σ H _ I h) fun v s1 ⟨x, H1, I1, r1, q1⟩ => ?_
  obtain ⟨z, e, q⟩ := q1
  subst e
  obtain ⟨t, rfl⟩ := r1
  refine wpAny_pyIter_strU ?_
  have I2 : Inv X pins σ H1 { s1 with heap := s1.heap.push { cls := .type (strIterType z), data := .fields #[.str z t, .int 0 0] } } := I1.kept (t' := s1.toks) fun b o e => Heap.get?_push_of_some _ e
  refine ⟨s1.heap.objs.size, [s1.heap.objs.size], _, Its z, H1, rfl, I2, turn_str s1.heap.objs.size z t, ⟨_, Heap.get?_push_size _ rfl, rfl, rfl⟩, fun b hb => ?_, q⟩
  have e : b = s1.heap.objs.size := by simpa using hb
  subst e
  exact I1.fpOk (Nat.le_refl _) (I1.hok.fresh (Nat.le_refl _))
end

def frees (scope : Scope) : List Str := (scope.names.filter fun p => p.2 == .free).map (·.1)
def clOf (scope : Scope) (env : Env) : List (Str × Addr) := (frees scope).reverse.map fun n => (n, (env.cells.lookup n).getD 0)
theorem clos_go (env : Env) : ∀ (names : List (Str × NameKind)) (cs : List (Str × Addr)), (∀ n ∈ (names.filter fun p => p.2 == .free).map (·.1), ∃ c, env.cells.lookup n = some c) →
    (forIn names cs fun (x : Str × NameKind) (r : List (Str × Addr)) => (if x.2 == .free then do let c ← cellOf env x.1; pure (ForInStep.yield ((x.1, c) :: r)) else pure (ForInStep.yield r) : Sem (ForInStep (List (Str × Addr))))) =
      pure ((((names.filter fun p => p.2 == .free).map (·.1)).reverse.map fun n => (n, (env.cells.lookup n).getD 0)) ++ cs)
  | [], cs, _ => rfl
  | (n, k) :: r, cs, h => by
    rw [List.forIn_cons]
    cases hk : (k == NameKind.free) with
    | false =>
      have h' : ∀ m ∈ (r.filter fun p => p.2 == .free).map (·.1), ∃ c, env.cells.lookup m = some c := fun m hm => h m (by simpa [List.filter_cons, hk] using hm)
      have ih := clos_go env r cs h'
      simp only [hk, Bool.false_eq_true, if_false, List.filter_cons, pure_bind]
      exact ih
    | true =>
      obtain ⟨c, hc⟩ := h n (by simp [List.filter_cons, hk])
      have h' : ∀ m ∈ (r.filter fun p => p.2 == .free).map (·.1), ∃ c, env.cells.lookup m = some c := fun m hm => h m (by
        simp only [List.filter_cons, hk, if_true, List.map_cons]
        exact List.mem_cons_of_mem _ hm)
      have ih := clos_go env r ((n, c) :: cs) h'
      have ec : cellOf env n = pure c := by unfold cellOf; rw [hc]
      simp only [hk, if_true, List.filter_cons, List.map_cons, List.reverse_cons, List.map_append, List.map_nil, List.append_assoc, List.cons_append, List.nil_append, ec, pure_bind, hc, Option.getD_some]
      exact ih
theorem closureFor_some {scope : Scope} {env : Env} (h : ∀ n ∈ frees scope, ∃ c, env.cells.lookup n = some c) : closureFor scope env = pure (clOf scope env) := by
  have e := clos_go env scope.names [] h
  rw [List.append_nil] at e
  have q : closureFor scope env = ((forIn scope.names ([] : List (Str × Addr)) fun (x : Str × NameKind) (r : List (Str × Addr)) => (if x.2 == .free then do let c ← cellOf env x.1; pure (ForInStep.yield ((x.1, c) :: r)) else pure (ForInStep.yield r) : Sem (ForInStep (List (Str × Addr))))) >>= fun r => pure r) := rfl
  rw [q, bind_pure]
  exact e
theorem lookup_pairs {β : Type} (g : Str → β) (y : Str) : ∀ l : List Str, (l.map fun n => (n, g n)).lookup y = if y ∈ l then some (g y) else none
  | [] => by simp
  | n :: r => by
    have ih := lookup_pairs g y r
    rw [List.map_cons, List.lookup_cons]
    cases e : (y == n) with
    | true =>
      have e' : y = n := eq_of_beq e
      subst e'
      simp
    | false =>
      have e' : y ≠ n := fun q => by rw [q] at e; simp at e
      show (r.map fun n => (n, g n)).lookup y = _
      rw [ih]
      simp [e']
theorem clOf_lookup {scope : Scope} {env : Env} (h : ∀ n ∈ frees scope, ∃ c, env.cells.lookup n = some c) {y : Str} {c : Addr} : (clOf scope env).lookup y = some c ↔ y ∈ frees scope ∧ env.cells.lookup y = some c := by
  unfold clOf
  rw [lookup_pairs (fun n => (env.cells.lookup n).getD 0)]
  by_cases hy : y ∈ frees scope
  · obtain ⟨d, hd⟩ := h y hy
    rw [if_pos (List.mem_reverse.mpr hy), hd]
    simp [hy]
  · rw [if_neg fun q => hy (List.mem_reverse.mp q)]
    simp [hy]
theorem lookup_kinds (f : Str → NameKind → NameKind) (y : Str) : ∀ names : List (Str × NameKind), (names.map fun p => (p.1, f p.1 p.2)).lookup y = (names.lookup y).map (f y)
  | [] => rfl
  | (n, k) :: r => by
    have ih := lookup_kinds f y r
    rw [List.map_cons, List.lookup_cons, List.lookup_cons]
    cases e : (y == n) with
    | true =>
      have e' : y = n := eq_of_beq e
      subst e'
      rfl
    | false => exact ih
theorem relabel_lookup (scope : Scope) (env : Env) (y : Str) : (relabel scope env).names.lookup y = (scope.names.lookup y).map fun k => if (k == .free && env.scope.kind == .function && env.kindOf y == some .cell) = true then NameKind.cell else k := by
  have e : (relabel scope env).names = scope.names.map fun p => (p.1, (fun (n : Str) (k : NameKind) => if (k == .free && env.scope.kind == .function && env.kindOf n == some .cell) = true then NameKind.cell else k) p.1 p.2) := by
    unfold relabel
    refine List.map_congr_left fun p _ => ?_
    obtain ⟨n, k⟩ := p
    show (if (k == .free && env.scope.kind == .function && env.kindOf n == some .cell) = true then (n, NameKind.cell) else (n, k)) = _
    split <;> simp_all
  rw [e]
  exact lookup_kinds (fun (n : Str) (k : NameKind) => if (k == .free && env.scope.kind == .function && env.kindOf n == some .cell) = true then NameKind.cell else k) y scope.names
structure CompSc (X : Cx) (scope : Scope) (x : Str) (fs : List Str) (fr : List Nat) : Prop where
  kind : scope.kind = .function
  loc : scope.names.lookup x = some .local
  names : ∀ y ∈ scope.names, y.2 = .local → scope.names.lookup y.1 = some .local
  nocell : ∀ y ∈ scope.names, y.2 ≠ .cell
  free : ∀ n ∈ frees scope, X.env.kindOf n = some .cell ∧ scope.names.lookup n = some .free
  nd : (x :: fs).Nodup
  len : fr.length = fs.length
  slots : ∀ (j : Nat) (y : Str) (k : Nat), fs[j]? = some y → fr[j]? = some k → X.N[k]? = some y ∧ y ∈ frees scope
abbrev compX (X : Cx) (N' : List Str) (scope : Scope) (C : Addr) (s : Shared) (H : Hp) (ex : List Addr) : Cx :=
  { X with N := N', s₀ := s, H₀ := H, env := compEnvC scope (clOf scope X.env) C X.env, outer := X.stack, stack := X.stack, ex := ex, fn := fun _ => false, pn := [], xe := fun _ _ => False }
def CT (X : Cx) (ifs : List Expr) (tt : TT) : Prop :=
  ∀ (pins : List (Addr × Obj)) (s : Shared) (σ : St) (H : Hp) (Q : Bool → Hp → Prop), Inv X pins σ H s → tt σ H Q →
    wpAny (model X.prog X.w) X.A (forIn ifs true fun c r => if r = true then do let ok ← isTrue c X.env (eval c X.env); pure (ForInStep.yield ok) else pure (ForInStep.yield r)) (TP X pins σ Q) X.xe s
def tTrue : TT := fun _ H Q => Q true H
theorem ct_nil {X : Cx} : CT X [] tTrue := fun _ _ _ H _ I h => wpAny_tests_nil ⟨H, I, h⟩
theorem ct_one {X : Cx} {c : Expr} {tc : TT} (h : PT X c tc) : CT X [c] tc := fun pins s σ H Q I hq => wpAny_tests_one (h pins s σ H Q I hq)
def slotsOf (fr : List Nat) (σ : St) : St := fr.map fun k => (σ[k]?).getD none
def tComp (wi : TI) (fr : List Nat) (tt : TT) (te : TE) : TE := fun σ H Q => wi σ H fun J H1 => ∃ W : Nat → Nat → List V → Hp → Prop, (∃ m, W 0 m [] H1) ∧ ∀ i m ys H2, W i m ys H2 →
  (J.stop i H2 ∧ ys.length ≤ sizeLine ∧ ∀ l, H2 l = none → Q (.ref l) (upd H2 l (.lst ys))) ∨
  (J.go i H2 ∧ ys.length < sizeLine ∧ ∀ v H3, J.yld i H2 v H3 → tt (some v :: slotsOf fr σ) H3 fun b H4 =>
    if b = true then te (some v :: slotsOf fr σ) H4 (fun y H5 => ∃ m', m' < m ∧ W (i + 1) m' (ys ++ [y]) H5) else ∃ m', m' < m ∧ W (i + 1) m' ys H4)

section
variable {X : Cx}
theorem isCell_keep {h h' : Heap} {c : Addr} {v : Option Value} (k : ∀ b o, h.get? b = some o → h'.get? b = some o) (z : h.IsCell c v) : h'.IsCell c v := by
  obtain ⟨o, e, d⟩ := z
  exact ⟨o, k _ _ e, d⟩
theorem Inv.adopt {pins : List (Addr × Obj)} {σ : St} {H : Hp} {s : Shared} {D : Addr} {ys : List V} {vs : List Value} {k : Nat} (I : Inv X pins σ H s) (hn : H D = none) (e : s.heap.get? D = some { cls := .type "list", data := .seq vs.toArray k }) (r : Vals ys vs) (hz : ys.length ≤ sizeLine)
    (h1 : X.s₀.heap.objs.size ≤ D) (hL : D ≠ X.env.locals) (h2 : ∀ x c, X.env.cells.lookup x = some c → c ≠ D) (h3 : ∀ p ∈ X.pn ++ pins, p.1 ≠ D) : Inv X pins σ (upd H D (.lst ys)) s := by
  have nD : ∀ b u, H b = some u → b ≠ D := fun b u q z => by rw [z, hn] at q; cases q
  have hok : HOk X.prog X.w (upd H D (.lst ys)) s.heap := fun b u q => by
    by_cases hb : b = D
    · subst hb
      rw [upd_same] at q
      cases q
      exact ⟨hz, vs, k, r, e⟩
    · rw [upd_ne hb] at q
      exact (I.hok b u q).stay (fun _ _ _ z => z) (fun c z => by rw [upd_ne (nD c _ z)]; exact z) fun c xs z => by rw [upd_ne (nD c _ z)]; exact z
  have J := I.step (H' := upd H D (.lst ys)) (h' := s.heap) (g' := s.gens) (t' := s.toks) (d' := s.drawn) (ch := [D])
    (fun b hb => by
      have e' : b = D := by simpa using hb
      subst e'
      exact ⟨.inr h1, hL, h2, h3⟩)
    (fun b o _ _ _ q _ => q) (fun b o _ _ _ q _ => ⟨o.slots, q⟩) (fun b o hc _ n => by rw [upd_ne fun z => hc (by simp [z])]; exact n) (fun b o _ q => ⟨o, q⟩)
    (fun b xs q => by rw [upd_ne (nD b _ q)]; exact q) (fun b o u q => by rw [upd_ne (nD b _ q)]; exact q) (fun b ps q => ⟨#[], by rw [upd_ne (nD b _ q), q]; simp⟩) (fun m hm => hm) hok I.bare
  exact J
theorem comp_ok {pins : List (Addr × Obj)} {σ : St} {H : Hp} {s : Shared} {scope : Scope} {x : Str} {fs : List Str} {fr : List Nat} {D : Addr} {fp : List Addr} {s2 : Shared} (S : CompSc X scope x fs fr) (I2 : Inv X pins σ H s2) (I3 : Inv X pins σ H s)
    (hD : D = s2.heap.objs.size) (hs : s.heap.objs.size = D + 1) (hlt : ∀ b ∈ fp, b < D) (f2 : ∀ b ∈ fp, FpOk X pins H b) : (compX X (x :: fs) scope s.heap.objs.size s H (D :: fp)).Ok := by
  have hcl : ∀ n ∈ frees scope, ∃ c, X.env.cells.lookup n = some c := fun n hn => I3.ok.has n (.inl (S.free n hn).1)
  have sub : ∀ {y : Str} {c : Addr}, (clOf scope X.env).lookup y = some c → X.env.cells.lookup y = some c := fun h => ((clOf_lookup hcl).mp h).2
  refine ⟨I3.ok.mod, S.kind, I3.ok.glob, I3.ok.blt, Nat.le_refl _, fun a b c h1 h2 => I3.ok.inj a b c (sub h1) (sub h2), fun y hy => ?_, (fun _ _ h => by cases h), I3.ok.hd, I3.ok.frames, .inl rfl, fun b hb => ?_, I3.bs, Nat.le_trans I3.ok.bsz I3.sz, fun b o e hb => ?_, fun b hb hf => ?_, I3.stack, I3.stkFree⟩
  · have q : (relabel scope X.env).names.lookup y = some .cell ∨ (relabel scope X.env).names.lookup y = some .free := hy
    have nf : scope.names.lookup y = some .free := by
      rw [relabel_lookup] at q
      cases e : scope.names.lookup y with
      | none => rw [e] at q; simp at q
      | some k =>
        rw [e] at q
        cases k with
        | free => rfl
        | cell =>
          have hm : (y, NameKind.cell) ∈ scope.names := by
            have := List.lookup_eq_some_iff.mp e
            obtain ⟨l1, l2, z, _⟩ := this
            rw [z]
            simp
          exact absurd rfl (S.nocell _ hm)
        | _ => simp at q
    have hm : y ∈ frees scope := by
      obtain ⟨l1, l2, z, _⟩ := List.lookup_eq_some_iff.mp nf
      unfold frees
      rw [z]
      simp
    obtain ⟨c, hc⟩ := hcl y hm
    exact ⟨c, (clOf_lookup hcl).mpr ⟨hm, hc⟩⟩
  · rcases List.mem_cons.mp hb with rfl | hb
    · refine ⟨fun z => ?_, fun y c h z => ?_⟩
      · exact absurd (hs.symm.trans z.symm : b + 1 = b) (Nat.succ_ne_self b)
      · obtain ⟨v, q⟩ := I2.cell y c (sub h)
        have := q.lt
        rw [z, hD] at this
        exact absurd this (Nat.lt_irrefl _)
    · refine ⟨fun z => ?_, fun y c h => (f2 b hb).2.2.2.2.1 y c (sub h)⟩
      have q : b < D + 1 := Nat.lt_succ_of_lt (hlt b hb)
      rw [z] at q
      exact absurd q (by show ¬ s.heap.objs.size < D + 1; rw [hs]; exact Nat.lt_irrefl _)
  · have hb' : b < X.base.objs.size := Heap.lt_size e
    have h1 := I2.ok.bsz
    have h2 := I2.sz
    rcases List.mem_cons.mp hb with rfl | hb
    · rw [hD] at hb'
      exact absurd (Nat.lt_of_lt_of_le hb' (Nat.le_trans h1 h2)) (Nat.lt_irrefl _)
    · rcases (f2 b hb).2.2.2.1 with z | z
      · exact I2.ok.noex b o e z
      · exact absurd (Nat.lt_of_lt_of_le hb' (Nat.le_trans h1 z)) (Nat.lt_irrefl _)
  · have hf' : b ∈ frs X.stack := hf
    rcases List.mem_cons.mp (I2.stkSub b hf') with z | z
    · rcases List.mem_cons.mp hb with rfl | hb
      · have := I2.lt
        rw [← z, hD] at this
        exact absurd this (Nat.lt_irrefl _)
      · exact (f2 b hb).2.1 z
    · rcases List.mem_cons.mp hb with rfl | hb
      · exact I2.nofs (Nat.le_of_eq hD.symm) z
      · exact (f2 b hb).2.2.1 z
theorem comp_inv {pins : List (Addr × Obj)} {σ : St} {H : Hp} {s : Shared} {scope : Scope} {x : Str} {fs : List Str} {fr : List Nat} {ex : List Addr} {h4 : Heap} {m : Str → Option Value} {t : Nat} (S : CompSc X scope x fs fr) (I3 : Inv X pins σ H s)
    (ok : (compX X (x :: fs) scope s.heap.objs.size s H ex).Ok) (hn : h4.Ns s.heap.objs.size m) (old : ∀ b o, s.heap.get? b = some o → h4.get? b = some o) :
    Inv (compX X (x :: fs) scope s.heap.objs.size s H ex) [] (none :: slotsOf fr σ) H { s with heap := h4, toks := t } := by
  have hcl : ∀ n ∈ frees scope, ∃ c, X.env.cells.lookup n = some c := fun n hn => I3.ok.has n (.inl (S.free n hn).1)
  have sub : ∀ {y : Str} {c : Addr}, (clOf scope X.env).lookup y = some c → X.env.cells.lookup y = some c := fun h => ((clOf_lookup hcl).mp h).2
  refine ⟨ok, rfl, I3.bare, Un.kept old, ⟨m, hn, fun i y v e1 e2 e3 => ?_⟩, fun y c h => ?_, I3.hok.fresh (Nat.le_refl _), fun y c h => I3.freeC y c (sub h), fun p hp => absurd hp (by simp), I3.hok.kept old, ?_⟩
  · cases i with
    | zero =>
      have e2' : (none : Option V) = some v := by simpa using e2
      cases e2'
    | succ j =>
      have e1' : fs[j]? = some y := by simpa using e1
      have e2' : (slotsOf fr σ)[j]? = some (some v) := by simpa using e2
      unfold slotsOf at e2'
      rw [List.getElem?_map] at e2'
      cases hk : fr[j]? with
      | none => rw [hk] at e2'; cases e2'
      | some k =>
        rw [hk] at e2'
        have e4 : (σ[k]?).getD none = some v := by simpa using e2'
        have e5 : σ[k]? = some (some v) := by
          cases q : σ[k]? with
          | none => rw [q] at e4; cases e4
          | some z => rw [q] at e4; exact congrArg some e4
        obtain ⟨n1, n2⟩ := S.slots j y k e1' hk
        obtain ⟨m0, _, hl⟩ := I3.loc
        obtain ⟨u, ru, l⟩ := hl k y v n1 e5 (.inr (.inl (S.free y n2).1))
        have kc := (S.free y n2).1
        rcases l with ⟨l, _⟩ | ⟨_, c, hc, cl⟩
        · rw [kc] at l; cases l
        · refine ⟨u, ru, .inr ⟨.inl ?_, c, (clOf_lookup hcl).mpr ⟨n2, hc⟩, isCell_keep old cl⟩⟩
          show (relabel scope X.env).names.lookup y = some .cell
          have kf : X.env.scope.kind = .function := I3.ok.kind
          rw [relabel_lookup, (S.free y n2).2, kf, kc]
          rfl
  · obtain ⟨v, z⟩ := I3.cell y c (sub h)
    exact ⟨v, isCell_keep old z⟩
  · show (none :: slotsOf fr σ).length = (x :: fs).length
    simp [slotsOf, S.len]
abbrev lobj (vs : List Value) (k : Nat) : Obj := { cls := .type "list", data := .seq vs.toArray k }
theorem pe_compG {elt iter : Expr} {x : Str} {px : Pos} {ifs : List Expr} {scope : Scope} {pos : Pos} {wi : TI} {fs : List Str} {fr : List Nat} {tt : TT} {te : TE} (hc : X.calm = true) (S : CompSc X scope x fs fr) (hi : PI X (.Name x px) iter wi)
    (ht : ∀ C s H ex, CT (compX X (x :: fs) scope C s H ex) ifs tt) (he : ∀ C s H ex, PE (compX X (x :: fs) scope C s H ex) elt te) (hs : ∀ z, foldedSetIterable iter X.env z = pure z := by intro _; rfl) :
    PE X (.ListComp elt [⟨.Name x px, iter, ifs, 0⟩] scope pos) (tComp wi fr tt te) := by
  intro pins s σ H Q I h
  rw [eval_ListComp]
  refine wpAny_comprehension_free (use := none) rfl hs (closureFor_some fun n hn => I.ok.has n (.inl (S.free n hn).1)) S.kind S.names ?_
  refine thn (hi pins s σ H _ I h) fun v s1 h1 => thn h1 fun itv s2 h2 => ?_
  obtain ⟨it, fp, tn, J, H2, e, I2, T, st2, f2, W, ⟨m0, w0⟩, turn⟩ := h2
  subst e
  have hlt : ∀ b ∈ fp, b < s2.heap.objs.size := fun b hb => by
    obtain ⟨o, e, _⟩ := T.obj 0 _ st2 b hb
    exact Heap.lt_size e
  refine wpAny_newObj_type (wpAny_newFunctionEnv S.nocell (by intro y hy; simp at hy) (fun h4 hns4 hsb4 => ?_) S.kind)
  dsimp only at hns4 hsb4 ⊢
  generalize hH3 : s2.heap.push { cls := .type "list", dict := none, data := .seq ([] : List Value).toArray } = g3 at hns4 hsb4 ⊢
  have hC : g3.objs.size = s2.heap.objs.size + 1 := by rw [← hH3, Heap.size_push]
  have old3 : ∀ b o, s2.heap.get? b = some o → g3.get? b = some o := fun b o e => hH3 ▸ Heap.get?_push_of_some _ e
  have I3 : Inv X pins σ H2 { s2 with heap := g3 } := I2.kept (t' := s2.toks) old3
  have acc3 : g3.get? s2.heap.objs.size = some (lobj [] 0) := hH3 ▸ Heap.get?_push_size _ rfl
  have old4 : ∀ b o, g3.get? b = some o → h4.get? b = some o := fun b o e => hsb4.extBut b o (Nat.ne_of_lt (Heap.lt_size e)) (Heap.get?_push_of_some _ e)
  have ok := comp_ok (s := { s2 with heap := g3 }) (D := s2.heap.objs.size) (fp := fp) S I2 I3 rfl hC hlt f2
  have I4 := comp_inv (t := s2.toks + ([] : List (Str × Value)).length) S I3 ok hns4 old4
  have dne := ok.exf s2.heap.objs.size List.mem_cons_self
  have dnf := ok.exfs s2.heap.objs.size List.mem_cons_self
  have fpok : ∀ {H' : Hp} {vs : List Value} {k : Nat}, (∀ b ∈ fp, H' b = none) → ∀ b ∈ fp, FpOk (compX X (x :: fs) scope g3.objs.size { s2 with heap := g3 } H2 (s2.heap.objs.size :: fp)) [(s2.heap.objs.size, lobj vs k)] H' b := fun {H' vs k} hn b hb => by
    have q := ok.exf b (List.mem_cons_of_mem _ hb)
    refine ⟨hn b hb, q.1, ok.exfs b (List.mem_cons_of_mem _ hb), .inl (List.mem_cons_of_mem _ hb), q.2, fun p hp => ?_⟩
    have e : p = (s2.heap.objs.size, lobj vs k) := by simpa using hp
    rw [e]
    exact Nat.ne_of_gt (hlt b hb)
  have start : Inv (compX X (x :: fs) scope g3.objs.size { s2 with heap := g3 } H2 (s2.heap.objs.size :: fp)) [(s2.heap.objs.size, lobj [] 0)] (none :: slotsOf fr σ) H2 { s2 with heap := h4, toks := s2.toks + ([] : List (Str × Value)).length } :=
    I4.pins_of fun p hp => by
      have e : p = (s2.heap.objs.size, lobj [] 0) := by simpa using hp
      subst e
      exact ⟨old4 _ _ acc3, I2.hok.fresh (Nat.le_refl _), dne.1, dnf, fun v z => by cases z⟩
  have stn : tn 0 h4 := T.keep 0 _ _ st2 fun b _ o e => old4 b o (old3 b o e)
  have fin : ∀ {i : Nat} {σ0 : Option V} {H' : Hp} {ys : List V} {vs : List Value} {k : Nat} {s' : Shared}, Inv (compX X (x :: fs) scope g3.objs.size { s2 with heap := g3 } H2 (s2.heap.objs.size :: fp)) [(s2.heap.objs.size, lobj vs k)] (σ0 :: slotsOf fr σ) H' s' → Vals ys vs → ys.length ≤ sizeLine →
      (∀ l, H' l = none → Q (.ref l) (upd H' l (.lst ys))) → ∃ m, s'.heap.Ns g3.objs.size m ∧ ∀ h', Heap.SameBut g3.objs.size s'.heap h' → EP X pins σ Q (.ref s2.heap.objs.size) { s' with heap := h' } := by
    intro i σ0 H' ys vs k s' J1 rv hz q
    obtain ⟨m, hn, _⟩ := id J1.loc
    refine ⟨m, hn, fun h' sb => ?_⟩
    have below : ∀ y c, X.env.cells.lookup y = some c → c < s2.heap.objs.size := fun y c z => by
      obtain ⟨v, q⟩ := I2.cell y c z
      exact q.lt
    have pbelow : ∀ p ∈ X.pn ++ pins, p.1 < s2.heap.objs.size := fun p hp => Heap.lt_size (I2.pin p hp).1
    have I5 : Inv X pins σ H' s' := I3.call' (ch := s2.heap.objs.size :: fp) J1.os J1.base J1.hok J1.bare fun b hb => by
      rcases List.mem_cons.mp hb with e | hb
      · rw [e]
        exact ⟨.inr I2.sz, Nat.ne_of_gt I2.lt, fun y c z => Nat.ne_of_lt (below y c z), fun p hp => Nat.ne_of_lt (pbelow p hp)⟩
      · exact ⟨(f2 b hb).2.2.2.1, (f2 b hb).2.1, (f2 b hb).2.2.2.2.1, (f2 b hb).2.2.2.2.2⟩
    have szC : s2.heap.objs.size < g3.objs.size := by omega
    have I6 : Inv X pins σ H' { s' with heap := h' } := I5.turned (t' := s'.toks) (it := g3.objs.size) (fun b o hb e => sb.extBut b o hb e) J1.free (Nat.ne_of_gt (Nat.lt_trans I2.lt szC)) (.inr (Nat.le_of_lt (Nat.lt_of_le_of_lt I2.sz szC)))
      (fun y c z => Nat.ne_of_lt (Nat.lt_trans (below y c z) szC)) (fun p hp => Nat.ne_of_lt (Nat.lt_trans (pbelow p hp) szC))
    obtain ⟨eD, nD, _⟩ := J1.pin (s2.heap.objs.size, lobj vs k) (by simp)
    have eD' : h'.get? s2.heap.objs.size = some (lobj vs k) := sb.extBut _ _ dne.1 eD
    exact ⟨.ref s2.heap.objs.size, _, I6.adopt nD eD' rv hz I2.sz (Nat.ne_of_gt I2.lt) (fun y c z => Nat.ne_of_lt (below y c z)) (fun p hp => Nat.ne_of_lt (pbelow p hp)), rfl, q _ nD⟩
  have loop : ∀ s4 : Shared, s4 = { s2 with heap := h4, toks := s2.toks + ([] : List (Str × Value)).length } →
      codeAny (model X.prog X.w) X.A (.compLoop (.ListComp elt [⟨.Name x px, iter, ifs, 0⟩] scope pos) 0 (.ref it) (.ref s2.heap.objs.size) (compEnvC scope (clOf scope X.env) g3.objs.size X.env))
        (compPost (model X.prog X.w) X.A X.xe none (EP X pins σ Q) (.ref s2.heap.objs.size) g3.objs.size) s4 := by
    rintro s4 rfl
    refine codeAny_compLoop_tests (fun n s' => ∃ i σ0 H' ys vs k, Inv (compX X (x :: fs) scope g3.objs.size { s2 with heap := g3 } H2 (s2.heap.objs.size :: fp)) [(s2.heap.objs.size, lobj vs k)] (σ0 :: slotsOf fr σ) H' s' ∧ tn i s'.heap ∧ (∀ b ∈ fp, H' b = none) ∧ Vals ys vs ∧ W i n ys H') ?_ m0
      ⟨0, none, H2, [], [], 0, start, stn, fun b hb => (f2 b hb).1, .nil, w0⟩
    rintro n s' ⟨i, σ0, H', ys, vs, k, J1, st, fr1, rv, w1⟩
    rcases turn i n ys H' w1 with ⟨stop, hz, q⟩ | ⟨go, hz, step⟩
    · refine thn (T.done (compX X (x :: fs) scope g3.objs.size { s2 with heap := g3 } H2 (s2.heap.objs.size :: fp)) rfl rfl rfl hc i _ s' _ H' _ J1 (fpok fr1) st stop) fun r s5 ⟨hr, J2⟩ => ?_
      subst hr
      exact fin (i := i) J2 rv hz q
    · refine thn (T.item (compX X (x :: fs) scope g3.objs.size { s2 with heap := g3 } H2 (s2.heap.objs.size :: fp)) rfl rfl rfl hc i _ s' _ H' _ J1 (fpok fr1) st go) fun r s5 ⟨u, hr, h5⟩ => ?_
      subst hr
      change wpAny _ _ (letOwnedTupleGo (.Name x px) (.ref it) u >>= fun _ => assign (.Name x px) (compEnvC scope (clOf scope X.env) g3.objs.size X.env) u) _ _ s5
      refine wpAny_bind (thn h5 fun _ s6 ⟨v, H6, J6, r6, y6, st6, fr6⟩ => ?_)
      have J6' := J6.pinned (fp := fp) (fpok fr6) (T.obj _ _ st6)
      have loc := lookup_relabel_local (env := X.env) S.loc
      refine wpAny_mono (pg_name (i := 0) S.nd rfl (.inl loc) (.inr loc) _ s6 _ H6 v u (fun σ' H' => σ' = some v :: slotsOf fr σ ∧ H' = H6) J6' r6 ⟨rfl, rfl⟩) (fun _ s7 ⟨σ7, H7, J7, e7, e7'⟩ => ?_) (fun _ _ z => z.elim)
      subst e7 e7'
      have pfp : ∀ {σ8 : St} {H8 : Hp} {s8 : Shared}, Inv (compX X (x :: fs) scope g3.objs.size { s2 with heap := g3 } H2 (s2.heap.objs.size :: fp)) ([(s2.heap.objs.size, lobj vs k)] ++ pinsAt fp s6.heap) σ8 H8 s8 →
          tn (i + 1) s8.heap ∧ ∀ b ∈ fp, H8 b = none := fun {σ8 H8 s8} J8 => by
        refine ⟨T.keep _ _ _ st6 fun b hb o e => (J8.pin (b, o) (List.mem_append_right _ (List.mem_append_right _ (mem_pinsAt hb e)))).1, fun b hb => ?_⟩
        obtain ⟨o, e, d⟩ := T.obj _ _ st6 b hb
        exact (J8.pin (b, o) (List.mem_append_right _ (List.mem_append_right _ (mem_pinsAt hb e)))).2.1
      refine wpAny_mono (ht _ _ _ _ _ s7 _ H7 _ J7 (step v H7 y6)) (fun ok8 s8 ⟨H8, J8, q8⟩ => ?_) (fun _ _ z => z.elim)
      cases ok8 with
      | false =>
        rw [if_neg Bool.false_ne_true] at q8
        rw [if_neg Bool.false_ne_true]
        obtain ⟨m', hm, w8⟩ := q8
        obtain ⟨t8, n8⟩ := pfp J8
        exact ⟨m', hm, i + 1, some v, H8, ys, vs, k, J8.unpinned, t8, n8, rv, w8⟩
      | true =>
        rw [if_pos rfl] at q8
        rw [if_pos rfl]
        refine wpAny_mono (he _ _ _ _ _ s8 _ H8 _ J8 q8) (fun y s9 ⟨yv, H9, J9, r9, m', hm, w9⟩ => ?_) (fun _ _ z => z.elim)
        obtain ⟨t9, n9⟩ := pfp J9
        obtain ⟨eD, nD, _⟩ := J9.pin (s2.heap.objs.size, lobj vs k) (by simp)
        have hl := rv.length
        refine call_meets F.slot_list_append ⟨_, eD, rfl⟩ F.entry_list_append (F.args_list_append_2 _ _) (PySem.list_append s2.heap.objs.size vs.toArray k y (by rw [List.size_toArray]; omega)) ⟨eD, ?_⟩
        have eN := PySem.IsL.update (h := s9.heap) (l := s2.heap.objs.size) (items := vs.toArray) (n := k) eD (·.push y)
        have eV : vs.toArray.push y = (vs ++ [y]).toArray := by simp
        rw [eV] at eN
        obtain ⟨k', eN⟩ : ∃ k', (s9.heap.update s2.heap.objs.size (Obj.mapSeq (·.push y))).get? s2.heap.objs.size = some (lobj (vs ++ [y]) k') := ⟨_, eN⟩
        have K9 : Inv (compX X (x :: fs) scope g3.objs.size { s2 with heap := g3 } H2 (s2.heap.objs.size :: fp)) [] (some v :: slotsOf fr σ) H9 s9 := J9.pins_of fun p hp => absurd hp (by simp)
        have K10 : Inv (compX X (x :: fs) scope g3.objs.size { s2 with heap := g3 } H2 (s2.heap.objs.size :: fp)) [] (some v :: slotsOf fr σ) H9 { s9 with heap := s9.heap.update s2.heap.objs.size (Obj.mapSeq (·.push y)) } :=
          K9.turned (t' := s9.toks) (it := s2.heap.objs.size) (fun b o hb e => (Heap.get?_update_other s9.heap (Obj.mapSeq (·.push y)) (Ne.symm hb)).trans e) nD dne.1 (.inl List.mem_cons_self) dne.2 (fun p hp => absurd hp (by simp))
        refine ⟨m', hm, i + 1, some v, H9, ys ++ [yv], vs ++ [y], k', K10.pins_of fun p hp => ?_, T.keep _ _ _ t9 fun b hb o e => (Heap.get?_update_other s9.heap (Obj.mapSeq (·.push y)) (Nat.ne_of_gt (hlt b hb))).trans e, n9, rv.append (.cons r9 .nil), w9⟩
        have e : p = (s2.heap.objs.size, lobj (vs ++ [y]) k') := List.mem_singleton.mp hp
        rw [e]
        exact ⟨eN, nD, dne.1, dnf, fun v z => by cases z⟩
  exact codeAny_compStart_list (loop _ rfl) (T.self X.A 0 _ _ _ stn (loop _ rfl))
theorem pe_comp {elt iter : Expr} {x : Str} {px : Pos} {scope : Scope} {pos : Pos} {wi : TI} {fs : List Str} {fr : List Nat} {te : TE} (hc : X.calm = true) (S : CompSc X scope x fs fr) (hi : PI X (.Name x px) iter wi)
    (he : ∀ C s H ex, PE (compX X (x :: fs) scope C s H ex) elt te) (hs : ∀ z, foldedSetIterable iter X.env z = pure z := by intro _; rfl) :
    PE X (.ListComp elt [⟨.Name x px, iter, [], 0⟩] scope pos) (tComp wi fr tTrue te) := pe_compG hc S hi (fun _ _ _ _ => ct_nil) he hs
theorem pe_compIf {elt iter c : Expr} {x : Str} {px : Pos} {scope : Scope} {pos : Pos} {wi : TI} {fs : List Str} {fr : List Nat} {tc : TT} {te : TE} (hc : X.calm = true) (S : CompSc X scope x fs fr) (hi : PI X (.Name x px) iter wi)
    (ht : ∀ C s H ex, PT (compX X (x :: fs) scope C s H ex) c tc) (he : ∀ C s H ex, PE (compX X (x :: fs) scope C s H ex) elt te) (hs : ∀ z, foldedSetIterable iter X.env z = pure z := by intro _; rfl) :
    PE X (.ListComp elt [⟨.Name x px, iter, [c], 0⟩] scope pos) (tComp wi fr tc te) := pe_compG hc S hi (fun C s H ex => ct_one (ht C s H ex)) he hs
end
theorem rel_key {k : Key} {v : Value} (h : keyIs k v = true) : RelV (kV k) v := by
  rcases keyIs_shape h with ⟨i, t, rfl, rfl⟩ | ⟨x, t, rfl, rfl⟩
  · exact ⟨t, rfl⟩
  · exact ⟨t, rfl⟩
theorem range_all (bs : List Bool) : ((List.range bs.length).all fun i => (bs[i]?).getD true) = bs.all id := by
  rw [Bool.eq_iff_iff, List.all_eq_true, List.all_eq_true]
  constructor
  · intro h b hb
    obtain ⟨i, hi⟩ := List.mem_iff_getElem?.mp hb
    have := h i (List.mem_range.mpr (List.getElem?_eq_some_iff.mp hi).1)
    rw [hi] at this
    exact this
  · intro h i hi
    have hlt := List.mem_range.mp hi
    rw [List.getElem?_eq_getElem hlt]
    exact h _ (List.getElem_mem hlt)
section
variable {X : Cx}
theorem call_all_bools (hc : X.calm = true) : CallR X (.builtin "all") (fun xs H Q => ∃ (a : Addr) (bs : List Bool), xs = [.ref a] ∧ SqL X.K H a (bs.map V.bl) ∧ Q (.bl (bs.all id)) H) := by
  intro pins s σ H xs us Q I r h
  obtain ⟨a, bs, rfl, ha, q⟩ := h
  obtain ⟨u, rfl, ru⟩ := vals1 r
  cases ru
  obtain ⟨its, rv, p, hz⟩ := I.list ha
  have hl : its.length = bs.length := by
    have := rv.length
    simpa using this.symm
  have hne : a ≠ s.heap.objs.size := by
    obtain ⟨o, n, e, _⟩ := id p
    exact Nat.ne_of_lt (Heap.lt_size e)
  refine call_all_walk (wpAny_pyIter_list p.isList ?_)
  refine ⟨s.heap.objs.size, _, _, its.toArray.size, _, _, fun i => (bs[i]?).getD true, rfl, Walks.list (A := X.A.in1) (show X.A.in1.handled = none from I.ok.hd hc) s.heap.objs.size a hne its.toArray, ⟨⟨_, Heap.get?_push_size _ rfl, rfl, rfl⟩, p.isList.at fun o e => Heap.get?_push_of_some _ e⟩, ?_, fun h' tk kp => ?_⟩
  · intro i v s' Q' E' hP hQ
    have hP' : its[i]? = some v := by simpa using hP
    have hi : i < bs.length := by
      rw [← hl]
      exact (List.getElem?_eq_some_iff.mp hP').1
    have e1 : (bs.map V.bl)[i]? = some (.bl bs[i]) := by rw [List.getElem?_map, List.getElem?_eq_getElem hi]; rfl
    obtain ⟨u, hu, ru⟩ := rv.get e1
    rw [hP'] at hu
    cases hu
    cases ru
    refine wpAny_truthy_bool ?_
    have e2 : (bs[i]?).getD true = bs[i] := by rw [List.getElem?_eq_getElem hi]; rfl
    rw [← e2]
    exact hQ
  · refine ⟨.bl (bs.all id), H, I.kept (t' := tk) fun b o e => kp b o (by simpa using Nat.ne_of_lt (Heap.lt_size e)) (Heap.get?_push_of_some _ e), ?_, q⟩
    show Value.bool _ = Value.bool _
    rw [List.size_toArray, hl, range_all]
theorem call_isinst : CallR X (.builtin "isinstance") (fun xs H Q => ∃ x n t b, xs = [x, .ty n] ∧ TyOf X.K H x t ∧ PySem.W.kitOne X.K t (.type n) = some b ∧ Q (.bl b) H) := by
  intro pins s σ H xs us Q I r h
  obtain ⟨x, n, t, b, rfl, ty, e, q⟩ := h
  obtain ⟨u, w', rfl, ru, rw'⟩ := vals2 r
  cases rw'
  exact isinst_ok I ru ty e fun tk => ⟨.bl b, H, I.tok tk, rfl, q⟩
def CDivL (_i j : Int) : Prop := 0 < j ∧ j.natAbs.log2 < 9000
theorem op_fdivL : OpR X (binaryOp .FloorDiv) (rI CDivL fun i j => .int (i / j)) := opI fun i j _ _ _ _ _ hc q => by
  have h1 : (0 : Int) < j := hc.1
  exact floordiv_int (by omega) (by rw [Int.fdiv_eq_ediv_of_nonneg i (by omega)]; exact q) (.inl (PyProof.noPylong_of_log2 hc.2))

end
mutual
def Dt (K : PySem.W.Frag) (H : Hp) : PyData → V → Prop
  | .none, x => x = .non
  | .bool b, x => x = .bl b
  | .int i, x => x = .int i
  | .str z, x => x = .str z
  | .list ds, x => ∃ a xs, x = .ref a ∧ SqL K H a xs ∧ DtAll K H ds xs
  | .tuple ds, x => ∃ a xs, x = .ref a ∧ SqT K H a xs ∧ DtAll K H ds xs
  | .dict _, _ => False
def DtAll (K : PySem.W.Frag) (H : Hp) : List PyData → List V → Prop
  | [], xs => xs = []
  | d :: ds, xs => ∃ x r, xs = x :: r ∧ Dt K H d x ∧ DtAll K H ds r
end
section
variable {X : Cx}
mutual
theorem reads_of {pins : List (Addr × Obj)} {s : Shared} {σ : St} {H : Hp} (I : Inv X pins σ H s) : ∀ (d : PyData) (x : V) (v : Value), Dt X.K H d x → RelV x v → ∃ as, Reads s.heap v d as
  | .none, x, v, h, r => by
    rw [Dt] at h
    subst h
    cases r
    exact ⟨_, .none⟩
  | .bool b, x, v, h, r => by
    rw [Dt] at h
    subst h
    cases r
    exact ⟨_, .bool b⟩
  | .int i, x, v, h, r => by
    rw [Dt] at h
    subst h
    obtain ⟨t, rfl⟩ := r
    exact ⟨_, .int i t⟩
  | .str z, x, v, h, r => by
    rw [Dt] at h
    subst h
    obtain ⟨t, rfl⟩ := r
    exact ⟨_, .str z t⟩
  | .list ds, x, v, h, r => by
    rw [Dt] at h
    obtain ⟨a, xs, rfl, hq, ha⟩ := h
    cases r
    obtain ⟨its, rv, ⟨o, n, e, c, _, d⟩, _⟩ := I.list hq
    obtain ⟨as, ra⟩ := readsAll_of I ds xs its ha rv
    exact ⟨_, .list e c d (by simpa using ra)⟩
  | .tuple ds, x, v, h, r => by
    rw [Dt] at h
    obtain ⟨a, xs, rfl, hq, ha⟩ := h
    cases r
    obtain ⟨its, rv, ⟨o, e, c, n, d⟩, _⟩ := I.tuple hq
    obtain ⟨as, ra⟩ := readsAll_of I ds xs its ha rv
    exact ⟨_, .tuple e c d (by simpa using ra)⟩
  | .dict _, x, v, h, r => by
    rw [Dt] at h
    exact h.elim
theorem readsAll_of {pins : List (Addr × Obj)} {s : Shared} {σ : St} {H : Hp} (I : Inv X pins σ H s) : ∀ (ds : List PyData) (xs : List V) (vs : List Value), DtAll X.K H ds xs → Vals xs vs → ∃ as, ReadsAll s.heap vs ds as
  | [], xs, vs, h, r => by
    rw [DtAll] at h
    subst h
    cases r
    exact ⟨_, .nil⟩
  | d :: ds, xs, vs, h, r => by
    rw [DtAll] at h
    obtain ⟨x, r', rfl, h1, h2⟩ := h
    cases r with
    | cons r1 r2 =>
      obtain ⟨as, q1⟩ := reads_of I d x _ h1 r1
      obtain ⟨bs, q2⟩ := readsAll_of I ds r' _ h2 r2
      exact ⟨_, .cons q1 q2⟩
end
def rEqD (K : PySem.W.Frag) (neg : Bool) : R2 := fun x y H Q => ∃ d e, Dt K H d x ∧ Dt K H e y ∧ SeqAt.shaped d = true ∧ SeqAt.shaped e = true ∧ Q (.bl (if neg then !PyData.eqv d e else PyData.eqv d e)) H
theorem op_neD (hu : X.A.units + 64 < cLine) : OpR X (compareOp .NotEq) (rEqD X.K true) := by
  intro pins s σ H x y v u Q I rx ry h
  obtain ⟨d, e, h1, h2, h3, h4, q⟩ := h
  obtain ⟨as, r1⟩ := reads_of I d x v h1 rx
  obtain ⟨bs, r2⟩ := reads_of I e y u h2 ry
  exact ne_dataH r1 r2 h3 h4 hu ⟨.bl _, H, I, rfl, q⟩
end
theorem dtAll_strs {K : PySem.W.Frag} {H : Hp} : ∀ zs : List Str, DtAll K H (zs.map PyData.str) (zs.map V.str)
  | [] => by rw [List.map_nil, DtAll]; rfl
  | z :: r => by
    rw [List.map_cons, List.map_cons, DtAll]
    exact ⟨_, _, rfl, by rw [Dt], dtAll_strs r⟩
theorem eqvAll_strs : ∀ xs ys : List Str, PyData.eqvAll (xs.map PyData.str) (ys.map PyData.str) = decide (xs = ys)
  | [], [] => by simp [PyData.eqvAll]
  | [], _ :: _ => by simp [PyData.eqvAll]
  | _ :: _, [] => by simp [PyData.eqvAll]
  | a :: r, b :: t => by
    simp only [List.map_cons, PyData.eqvAll, PyData.eqv, eqvAll_strs r t]
    by_cases h : a = b <;> by_cases h' : r = t <;> simp [h, h']
theorem lay_strs : ∀ zs : List Str, (∀ z ∈ zs, PyData.strOk z = true) → PyData.canLayAll0 (zs.map PyData.str) = true
  | [], _ => rfl
  | z :: r, h => by
    have h1 := h z List.mem_cons_self
    have h2 := lay_strs r fun y hy => h y (List.mem_cons_of_mem _ hy)
    simp [PyData.canLayAll0, PyData.canLay0, h1, h2]
theorem depth_strs : ∀ zs : List Str, PyData.depthAll (zs.map PyData.str) = 0
  | [] => rfl
  | _ :: r => by simp [PyData.depthAll, PyData.depth, depth_strs r]
theorem shaped_strs (zs : List Str) (h : ∀ z ∈ zs, PyData.strOk z = true) : SeqAt.shaped (.list (zs.map PyData.str)) = true := by
  simp [SeqAt.shaped, PyData.canLay0, PyData.depth, lay_strs zs h, depth_strs]
def cscOk (osc : Scope) (N : List Str) (scope : Scope) (x : Str) (fs : List Str) (fr : List Nat) : Bool :=
  scope.kind == .function && scope.names.lookup x == some .local && scope.names.all (fun y => !(y.2 == .local) || scope.names.lookup y.1 == some .local) && scope.names.all (fun y => !(y.2 == .cell)) &&
    (frees scope).all (fun n => osc.names.lookup n == some .cell && scope.names.lookup n == some .free) && decide ((x :: fs).Nodup) && fr.length == fs.length &&
    (List.range fs.length).all (fun j => match fs[j]?, fr[j]? with | some y, some k => N[k]? == some y && decide (y ∈ frees scope) | _, _ => false)
theorem compSc_mk {X : Cx} {scope : Scope} {x : Str} {fs : List Str} {fr : List Nat} (h : cscOk X.env.scope X.N scope x fs fr = true := by kernel_rfl) : CompSc X scope x fs fr := by
  unfold cscOk at h
  simp only [Bool.and_eq_true] at h
  obtain ⟨⟨⟨⟨⟨⟨⟨h1, h2⟩, h3⟩, h4⟩, h5⟩, h6⟩, h7⟩, h8⟩ := h
  refine ⟨eq_of_beq h1, eq_of_beq h2, fun y hy e => ?_, fun y hy e => ?_, fun n hn => ?_, of_decide_eq_true h6, eq_of_beq h7, fun j y k e1 e2 => ?_⟩
  · have := List.all_eq_true.mp h3 y hy
    rw [e] at this
    simpa using this
  · have := List.all_eq_true.mp h4 y hy
    rw [e] at this
    simp at this
  · have := List.all_eq_true.mp h5 n hn
    rw [Bool.and_eq_true] at this
    exact ⟨eq_of_beq this.1, eq_of_beq this.2⟩
  · have := List.all_eq_true.mp h8 j (List.mem_range.mpr (List.getElem?_eq_some_iff.mp e1).1)
    rw [e1, e2] at this
    simp only [Bool.and_eq_true] at this
    exact ⟨eq_of_beq this.1, of_decide_eq_true this.2⟩

def DefOk (P : Program) (w : World) (K : PySem.W.Frag) (mg : Str → Option Value) (base : Heap) (k : Nat) (x : Str) (ps : List Str) (sp : Sp) : Prop :=
  ∃ f fd, FnOk P w K mg base CX0 k f fd ps sp ∧ mg x = some (.ref f) ∧ PySem.W.keepIn K (.ref f) = true ∧ Binds K fd ps []
theorem cl {X : Cx} {k : Nat} {x : Str} {ps : List Str} {sp : Sp} {j : Nat} {e : Expr} {es : List Expr} {t : TA} {p pos : Pos} (D : DefOk X.prog X.w X.K X.mg X.base k x ps sp) (hr : Room j X.A) (ha : PA X (e :: es) t) (hk : k ≤ j := by decide) (hg : Gl X x := by rfl)
    (hdb : (x == ("__debug__" : Str)) = false := by decide) (he : starEach (e :: es) X.env = (false, eval e X.env) :: starEach es X.env := by rfl) (hpl : (backTo pos (starEach es X.env)).any (·.1) = false := by rfl) :
    PE X (.Call (.Name x p) (e :: es) [] pos) (tCall sp [] E0 t) := by
  obtain ⟨f, fd, F, m, kp, b⟩ := D
  exact pe_call F (hr.mono hk) hg m kp b .nil pass0 ha hdb he hpl
theorem noFill_tuple_mul : fillsNumberSlot (.type "tuple") "mul" = pure false :=
  PySem.fillsNumberSlot_seq (id := "tuple.__mul__") (r := some (.builtin "tuple.__rmul__")) F.slot_tuple_mul.lookup (by decide +kernel) F.slot_tuple_rmul.lookup (by decide +kernel)
theorem repeat_tuple : seqRepeat? (.type "tuple") = pure (some (.builtin "tuple.__mul__")) := by
  unfold seqRepeat?
  rw [PySem.seqSlot_of (T := "tuple") (name := "__mul__") (id := "tuple.__mul__") F.slot_tuple_mul.lookup (by decide +kernel), PySem.seqSlot_of (T := "tuple") (name := "__rmul__") (id := "tuple.__rmul__") F.slot_tuple_rmul.lookup (by decide +kernel)]
  rfl
theorem int_rmul_tuple (a : Int) (t : Tok) (l : Addr) (dd : Option Addr) (items : Array Value) (n : Nat) (sl : Array (Option Value)) :
    Meets (Builtin.«int.__rmul__» ⟨[.int a t, .ref l], []⟩) (fun _ R s => s.heap.get? l = some { cls := .type "tuple", dict := dd, data := .seq items n, slots := sl } ∧ R (.ok (.ret Value.notImplemented)) s) :=
  .of_wp fun prog w A R s h => by obtain ⟨hp, g, d, tk, os⟩ := s; obtain ⟨hl, h⟩ := h; wp_walk; exact ⟨_, rfl, h⟩
theorem tuple_mul (l : Addr) (dd : Option Addr) (items : Array Value) (n : Nat) (sl : Array (Option Value)) (x : Int) (u : Tok) (h2 : 2 ≤ x) (hx : x < 2 ^ 63) (hne : items.isEmpty = false) (hcap : ¬ (items.size : Int) * x > (2 ^ 63 - 1) / 8) (hm : Builtin.Tuple.tupleTooMany ((items.size : Int) * x) = false)
    (hz : (List.foldl (fun x1 x2 => x1 ++ x2) #[] (List.replicate x.toNat items)).size ≤ sizeLine) :
    Meets (Builtin.«tuple.__mul__» ⟨[.ref l, .int x u], []⟩) (fun _ R s => s.heap.get? l = some { cls := .type "tuple", dict := dd, data := .seq items n, slots := sl } ∧ R (.ok (.ret (.ref s.heap.objs.size))) { s with heap := s.heap.push { cls := .type "tuple", data := .seq (List.foldl (fun x1 x2 => x1 ++ x2) #[] (List.replicate x.toNat items)) }, toks := s.toks }) :=
  .of_wp fun prog w A R s h => by
    obtain ⟨hp, g, d, tk, os⟩ := s; obtain ⟨hl, h⟩ := h
    have c1 : (decide (x < -(2 ^ 63)) || decide (x ≥ 2 ^ 63)) = false := by
      rw [decide_eq_false (by omega), decide_eq_false (by omega)]; rfl
    have c2 : (x == 1) = false := by simp; omega
    have c3 : decide (x ≤ 0) = false := decide_eq_false (by omega)
    wp_walk using wpAny_loadPart' hl
    refine wpAny_ite_false (by rw [c1]; rfl) ?_
    wp_walk using wpAny_loadPart' hl
    refine wpAny_ite_false (decide_eq_false hcap) ?_
    wp_walk using wpAny_loadPart' hl
    exact ⟨_, rfl, h⟩
section
variable {X : Cx}
def rMulT (K : PySem.W.Frag) : R2 := fun x y H Q => ∃ a k xs, x = .ref a ∧ y = .int k ∧ SqT K H a xs ∧ xs ≠ [] ∧ 2 ≤ k ∧ k ≤ 1000 ∧ xs.length ≤ 1000 ∧ ∀ p, H p = none → Q (.ref p) (upd H p (.tup (List.replicate k.toNat xs).flatten))
theorem op_mulT : OpR X (binaryOp .Mult) (rMulT X.K) := by
  intro pins s σ H x y v u Q I rx ry h
  obtain ⟨a, k, xs, rfl, rfl, hH, hne, h1, h2, hz, q⟩ := h
  cases rx
  obtain ⟨t, rfl⟩ := ry
  obtain ⟨its, r, ⟨⟨cls, dd, data, sl⟩, e, hc, n, hd⟩, z⟩ := I.tuple hH
  simp only at hc hd
  subst hc hd
  have hl := r.length
  have hfold : List.foldl (fun x1 x2 => x1 ++ x2) #[] (List.replicate k.toNat its.toArray) = (List.replicate k.toNat its).flatten.toArray := by
    have := foldl_rep its k.toNat []
    rw [List.nil_append] at this
    exact this
  have hlen : ((List.replicate k.toNat its).flatten).length ≤ 1000000 := by
    rw [len_rep]
    exact Nat.le_trans (Nat.mul_le_mul (show k.toNat ≤ 1000 by omega) (show its.length ≤ 1000 by omega)) (by decide)
  have hsl : (1000000 : Nat) ≤ sizeLine := by rw [sizeLine_eq]; decide
  have hprod : (its.toArray.size : Int) * k ≤ 1000000 := by
    rw [List.size_toArray]
    have e1 : (its.length : Int) * k ≤ 1000 * 1000 := Int.mul_le_mul (by omega) h2 (by omega) (by decide)
    omega
  have hempty : its.toArray.isEmpty = false := by
    cases its with
    | nil => cases r; exact absurd rfl hne
    | cons b l => rfl
  refine wpAny_binaryOp_repeat_ref (T := "tuple") (U := "int") (by decide) ⟨_, e, rfl⟩ (fun s' => typeIs_int s' k t) noFill_tuple_mul F.fills_int_mul F.slot_int_rmul repeat_tuple F.slot_int_index.lookup
    (call_meets F.slot_int_rmul (typeIs_int s k t) F.entry_int_rmul (F.args_int_rmul_2 _ _) (int_rmul_tuple k t a dd its.toArray n sl)
      ⟨e, rfl, ⟨_, e, rfl⟩, call_meets F.slot_tuple_mul ⟨_, e, rfl⟩ F.entry_tuple_mul (F.args_tuple_mul_2 _ _) (tuple_mul a dd its.toArray n sl k t h1 (by omega) hempty (by omega) (by
        unfold Builtin.Tuple.tupleTooMany
        refine decide_eq_false ?_
        have : ((1000000 : Nat) : Int) ≤ (sizeLine : Int) := Int.ofNat_le.mpr hsl
        omega) (by rw [hfold, List.size_toArray]; exact Nat.le_trans hlen hsl)) ⟨e, ?_⟩⟩)
  rw [hfold]
  refine ⟨.ref s.heap.objs.size, _, I.laid (t' := s.toks) (o := .tup (List.replicate k.toNat xs).flatten) (fun b ob q => Heap.get?_push_of_some _ q) (Nat.le_refl _) ?_, rfl, q _ (I.hok.fresh (Nat.le_refl _))⟩
  refine ⟨?_, _, r.rep k.toNat, IsTup.new _ _⟩
  rw [len_rep]
  exact Nat.le_trans (Nat.mul_le_mul (show k.toNat ≤ 1000 by omega) hz) (by rw [sizeLine_eq]; decide)
end
theorem cut {X : Cx} {body : List Stmt} {D : Ends} {σ0 : St} {H0 : Hp} (n : Nat) (C : St → Hp → Prop) (ht : ∃ t2, PSs X (body.drop n) t2 ∧ ∀ σ H, C σ H → t2 D σ H)
    (hh : ∀ t2, PSs X (body.drop n) t2 → ∃ t, PSs X body t ∧ ((∀ σ H, C σ H → t2 D σ H) → t D σ0 H0)) : ∃ t, PSs X body t ∧ t D σ0 H0 := by
  obtain ⟨t2, p, q⟩ := ht
  obtain ⟨t, p', q'⟩ := hh t2 p
  exact ⟨t, p', q' q⟩
theorem cutA {X : Cx} {body : List Stmt} {D : Ends} {B : St → Hp → Prop} (n : Nat) (C : St → Hp → Prop) (ht : ∃ t2, PSs X (body.drop n) t2 ∧ ∀ σ H, C σ H → t2 D σ H)
    (hh : ∀ t2, PSs X (body.drop n) t2 → ∃ t, PSs X body t ∧ ((∀ σ H, C σ H → t2 D σ H) → ∀ σ H, B σ H → t D σ H)) : ∃ t, PSs X body t ∧ ∀ σ H, B σ H → t D σ H := by
  obtain ⟨t2, p, q⟩ := ht
  obtain ⟨t, p', q'⟩ := hh t2 p
  exact ⟨t, p', q' q⟩
theorem pe_globI {X : Cx} {x : Str} {i : Int} {pos : Pos} (hg : Gl X x) (hm : ∃ t, X.mg x = some (.int i t)) (hd : (x == ("__debug__" : Str)) = false := by decide) : PE X (.Name x pos) (tC (.int i)) := by
  obtain ⟨t, hm⟩ := hm
  exact pe_glob hg hm ⟨t, rfl⟩ hd
theorem pe_globS {X : Cx} {x : Str} {z : Str} {pos : Pos} (hg : Gl X x) (hm : ∃ t, X.mg x = some (.str z t)) (hd : (x == ("__debug__" : Str)) = false := by decide) : PE X (.Name x pos) (tC (.str z)) := by
  obtain ⟨t, hm⟩ := hm
  exact pe_glob hg hm ⟨t, rfl⟩ hd
section
variable {X : Cx} {K : PySem.W.Frag}
theorem ix_listK (h : X.K = K := by rfl) : IxR X (rIxL K) := h ▸ ix_list
theorem call_lenK (h : X.K = K := by rfl) : CallR X (.builtin "len") (fun xs H Q => ∃ x n, xs = [x] ∧ LenV K x H n ∧ Q (.int n) H) := h ▸ call_len
end
theorem rd_true {σ : St} {H : Hp} {A B : Hp → Prop} (h : A H) : tTrue σ H (fun b H4 => if b = true then A H4 else B H4) := by
  show (if true = true then A H else B H)
  rw [if_pos rfl]
  exact h
end L2

set_option Elab.async false
set_option linter.all false
set_option maxRecDepth 100000
set_option maxHeartbeats 4000000
namespace HT
open PySem PySem.Spec PyProof.Rows
section
variable {prog : Program} {w : World} {A : Around} {E : Value → Shared → Prop} {s : Shared}
theorem getItem_tuple_whole {t sl : Addr} {items : Array Value} {vl vu : Value} {lo hi : Option Int} {Q : Value → Shared → Prop} (ht : IsTup s.heap t items) (hs : s.heap.IsSliceOf sl vl vu .none) (pl : IsPart vl lo) (pu : IsPart vu hi)
    (hw : sIx items.size 0 lo = 0 ∧ sIx items.size items.size hi = items.size) (h : Q (.ref t) s) : wpAny (model prog w) A (getItem (.ref t) (.ref sl)) Q E s := by
  obtain ⟨os, hos, hcs, hds⟩ := id hs
  have hTs : s.TypeIs (.ref sl) "slice" := ⟨os, hos, hcs⟩
  unfold getItem
  try with_reducible refine wpAny_holding ?_
  first | refine wpAny_bind (wpAny_pure ?_) | skip
  refine wpAny_bind (wpAny_sequenceKey ht.typeIs (by decide) ?_)
  refine wpAny_bind (wpAny_callSpecial?_slot (name := Str.ofString "__getitem__") ht.typeIs PyProof.Rows.slot_tuple_getitem
    (wpAny_call_entry PyProof.Rows.slot_tuple_getitem ht.typeIs entry_tuple_getitem ?_ (args_tuple_getitem _ _)))
  show wpAny _ _ (Builtin.Tuple.tupleItemsOf (.ref t) >>= _) _ _ s
  refine wpAny_bind (tupleItemsOf_ ht ?_)
  refine wpAny_bind (wpAny_typeOf hTs ?_)
  rw [if_pos (by decide)]
  refine wpAny_bind (sliceApplied_gen hs pl pu ?_)
  have hyes : (((sIx items.size 0 lo : Nat) : Int) == 0 && (1 : Int) == 1 && (sIx items.size items.size hi - sIx items.size 0 lo) == items.size) = true := by
    rw [hw.1, hw.2]
    simp
  show wpAny _ _ (if (((sIx items.size 0 lo : Nat) : Int) == 0 && (1 : Int) == 1 && (sIx items.size items.size hi - sIx items.size 0 lo) == items.size) = true then _ else _) _ _ s
  rw [if_pos hyes]
  unfold Builtin.Tuple.tupleIsExact
  refine wpAny_bind (wpAny_bind (wpAny_typeOf ht.typeIs ?_))
  refine wpAny_pure ?_
  rw [if_pos (by decide)]
  wp_walk
  exact ⟨_, rfl, wpAny_pure h⟩

theorem cat_tupA {t b : Addr} {vs ws : List Value} {Q : Value → Shared → Prop} (ht : IsTup s.heap t vs.toArray) (hb : IsTup s.heap b ws.toArray) (h0 : vs = [] → Q (.ref b) s)
    (h1 : vs ≠ [] → ws = [] → Q (.ref t) s) (h2 : vs ≠ [] → ws ≠ [] → Q (.ref s.heap.objs.size) { s with heap := s.heap.push { cls := .type "tuple", data := .seq (vs ++ ws).toArray } })
    (hsz : vs.length + ws.length ≤ sizeLine) : wpAny (model prog w) A (binaryOp .Add (.ref t) (.ref b)) Q E s := by
  by_cases hv : vs = []
  · obtain ⟨⟨cls, dd, data, sl⟩, ho, hc, n, hd⟩ := id ht
    obtain ⟨⟨cls2, dd2, data2, sl2⟩, ho2, hc2, n2, hd2⟩ := id hb
    simp only at hc hd hc2 hd2
    subst hc hd hc2 hd2
    exact concat_meets ⟨_, ho, rfl⟩ ⟨_, ho2, rfl⟩ noFill_tuple_add seq_tuple_add PySem.F.slot_tuple_add PySem.F.entry_tuple_add (PySem.F.args_tuple_add_2 _ _)
      (tuple_addW0 t b vs.toArray ws.toArray n n2 dd dd2 sl sl2 (by simp [hv])) ⟨ho, ho2, h0 hv⟩
  · exact cat_tup ht hb hv (h1 hv) (h2 hv) hsz
end
end HT
namespace L2
open PySem PySem.Spec PyProof.Rows
section
variable {X : Cx}
def rSlA (K : PySem.W.Frag) : V → Option Int → Option Int → Hp → VK → Prop := fun x lo hi H Q => ∃ a xs, x = .ref a ∧ SqT K H a xs ∧
  ((HT.sIx xs.length 0 lo = 0 ∧ HT.sIx xs.length xs.length hi = xs.length) → Q (.ref a) H) ∧
  (¬ (HT.sIx xs.length 0 lo = 0 ∧ HT.sIx xs.length xs.length hi = xs.length) → ∀ p, H p = none → Q (.ref p) (upd H p (.tup (cutV xs lo hi))))
theorem sl_tupA : SlR X (rSlA X.K) := by
  intro pins s σ H x v vl vu lo hi sl Q I rx hs pl pu h
  obtain ⟨a, xs, rfl, hx, q1, q2⟩ := h
  by_cases hw : HT.sIx xs.length 0 lo = 0 ∧ HT.sIx xs.length xs.length hi = xs.length
  · cases rx
    obtain ⟨its, r, ht, hz⟩ := I.tuple hx
    have hlen : its.toArray.size = xs.length := by rw [List.size_toArray]; exact r.length.symm
    refine ⟨"tuple", _, PyProof.Rows.slot_tuple_getitem.lookup, ht.typeIs, ?_⟩
    exact HT.getItem_tuple_whole ht hs pl pu (by rw [hlen]; exact hw) ⟨.ref a, H, I, rfl, q1 hw⟩
  · exact sl_tup pins s σ H (.ref a) v vl vu lo hi sl Q I rx hs pl pu ⟨a, xs, rfl, hx, hw, q2 hw⟩
def rCatA (K : PySem.W.Frag) : R2 := fun x y H Q => ∃ a b xs ys, x = .ref a ∧ y = .ref b ∧ SqT K H a xs ∧ SqT K H b ys ∧ xs.length + ys.length ≤ sizeLine ∧
  (xs = [] → Q (.ref b) H) ∧ (xs ≠ [] → ys = [] → Q (.ref a) H) ∧ (xs ≠ [] → ys ≠ [] → ∀ p, H p = none → Q (.ref p) (upd H p (.tup (xs ++ ys))))
theorem op_catA : OpR X (binaryOp .Add) (rCatA X.K) := by
  intro pins s σ H x y v u Q I rx ry h
  obtain ⟨a, b, xs, ys, rfl, rfl, ha, hb, hz, q0, q1, q2⟩ := h
  cases rx
  cases ry
  obtain ⟨its, r1, p1, _⟩ := I.tuple ha
  obtain ⟨its2, r2, p2, _⟩ := I.tuple hb
  refine HT.cat_tupA p1 p2 (fun z => ⟨.ref b, H, I, rfl, q0 (r1.nil_iff.mp z)⟩) (fun n z => ⟨.ref a, H, I, rfl, q1 (fun z => n (r1.nil_iff.mpr z)) (r2.nil_iff.mp z)⟩) (fun n z => ?_) (by rw [← r1.length, ← r2.length]; exact hz)
  refine ⟨.ref s.heap.objs.size, _, I.laid (t' := s.toks) (o := .tup (xs ++ ys)) (fun b ob q => Heap.get?_push_of_some _ q) (Nat.le_refl _) ?_, rfl, q2 (fun z => n (r1.nil_iff.mpr z)) (fun w => z (r2.nil_iff.mpr w)) _ (I.hok.fresh (Nat.le_refl _))⟩
  exact ⟨by rw [List.length_append]; exact hz, _, r1.append r2, IsTup.new _ _⟩
def rNil (K : PySem.W.Frag) (neg : Bool) : R2 := fun x y H Q => ∃ a b xs, x = .ref a ∧ y = .ref b ∧ SqL K H a xs ∧ SqL K H b [] ∧ Q (.bl (if neg then !xs.isEmpty else xs.isEmpty)) H
theorem op_eqN (hu : X.A.units < cLine) : OpR X (compareOp .Eq) (rNil X.K false) := by
  intro pins s σ H x y v u Q I rx ry h
  obtain ⟨a, b, xs, rfl, rfl, ha, hb, q⟩ := h
  cases rx
  cases ry
  obtain ⟨its, r1, p1, _⟩ := I.list ha
  obtain ⟨its2, r2, p2, _⟩ := I.list hb
  cases r2
  cases xs with
  | nil =>
    cases r1
    exact SeqAt.eq_listAt (e := fun _ => true) p1.isList p2.isList rfl hu (fun j h1 _ => absurd h1 (Nat.not_lt_zero _)) ⟨.bl true, H, I, rfl, q⟩
  | cons c l =>
    cases r1 with
    | cons r0 r1 => exact SeqAt.eq_list_lengthsAt p1.isList p2.isList (by simp) hu ⟨.bl false, H, I, rfl, q⟩
theorem op_neN (hu : X.A.units < cLine) : OpR X (compareOp .NotEq) (rNil X.K true) := by
  intro pins s σ H x y v u Q I rx ry h
  obtain ⟨a, b, xs, rfl, rfl, ha, hb, q⟩ := h
  cases rx
  cases ry
  obtain ⟨its, r1, p1, _⟩ := I.list ha
  obtain ⟨its2, r2, p2, _⟩ := I.list hb
  cases r2
  cases xs with
  | nil =>
    cases r1
    exact SeqAt.RcNeAt.lists (e := fun _ => true) p1.isList p2.isList rfl hu (fun j h1 _ => absurd h1 (Nat.not_lt_zero _)) X.prog X.w X.xe _ ⟨.bl false, H, I, rfl, q⟩
  | cons c l =>
    cases r1 with
    | cons r0 r1 => exact SeqAt.RcNeAt.lists_lengths p1.isList p2.isList (by simp) hu X.prog X.w X.xe _ ⟨.bl true, H, I, rfl, q⟩
end
end L2
namespace L2
open PySem PySem.Spec PyProof.Rows
section
variable {K : PySem.W.Frag} {a : Addr} {xs : List V} {fr : List Nat} {tt : TT} {te : TE} {σ : St} {H1 : Hp} {R : Addr → List V → Hp → Prop}
abbrev CompGoal (J : It) (fr : List Nat) (tt : TT) (te : TE) (σ : St) (H1 : Hp) (R : Addr → List V → Hp → Prop) : Prop :=
  ∃ W : Nat → Nat → List V → Hp → Prop, (∃ m, W 0 m [] H1) ∧ ∀ i m ys H2, W i m ys H2 →
  (J.stop i H2 ∧ ys.length ≤ sizeLine ∧ ∀ l, H2 l = none → R l ys H2) ∨
  (J.go i H2 ∧ ys.length < sizeLine ∧ ∀ v H3, J.yld i H2 v H3 → tt (some v :: slotsOf fr σ) H3 fun b H4 =>
    if b = true then te (some v :: slotsOf fr σ) H4 (fun y H5 => ∃ m', m' < m ∧ W (i + 1) m' (ys ++ [y]) H5) else ∃ m', m' < m ∧ W (i + 1) m' ys H4)
theorem comp_tup (Pv : Nat → List V → Hp → Prop) (hx : xs.length < sizeLine) (h0 : Pv 0 [] H1) (hl : ∀ i ys H, i ≤ xs.length → Pv i ys H → SqT K H a xs ∧ ys.length ≤ i)
    (hs : ∀ (i : Nat) (x : V) (ys : List V) (H : Hp) (N : List V → Hp → Prop), xs[i]? = some x → Pv i ys H → (∀ ys' H', Pv (i + 1) ys' H' → N ys' H') →
      tt (some x :: slotsOf fr σ) H fun b H4 => if b = true then te (some x :: slotsOf fr σ) H4 (fun y H5 => N (ys ++ [y]) H5) else N ys H4)
    (hd : ∀ ys H, Pv xs.length ys H → ∀ l, H l = none → R l ys H) : CompGoal (Itt K a) fr tt te σ H1 R := by
  refine ⟨fun i m ys H => m = xs.length - i ∧ i ≤ xs.length ∧ Pv i ys H, ⟨xs.length, by simp, Nat.zero_le _, h0⟩, ?_⟩
  rintro i m ys H ⟨rfl, hi, p⟩
  obtain ⟨q, hy⟩ := hl i ys H hi p
  by_cases hlt : i < xs.length
  · refine .inr ⟨⟨xs, _, q, List.getElem?_eq_getElem hlt⟩, by omega, ?_⟩
    rintro v H3 ⟨rfl, hv⟩
    exact hs i v ys H3 (fun ys' H' => ∃ m', m' < xs.length - i ∧ m' = xs.length - (i + 1) ∧ i + 1 ≤ xs.length ∧ Pv (i + 1) ys' H') (hv xs q) p fun ys' H' p' => ⟨_, by omega, rfl, hlt, p'⟩
  · have e : i = xs.length := by omega
    subst e
    exact .inl ⟨⟨xs, q, Nat.le_refl _⟩, by omega, hd ys H p⟩
theorem comp_list (Pv : Nat → List V → Hp → Prop) (hx : xs.length < sizeLine) (h0 : Pv 0 [] H1) (hl : ∀ i ys H, i ≤ xs.length → Pv i ys H → SqL K H a xs ∧ ys.length ≤ i)
    (hs : ∀ (i : Nat) (x : V) (ys : List V) (H : Hp) (N : List V → Hp → Prop), xs[i]? = some x → Pv i ys H → (∀ ys' H', Pv (i + 1) ys' H' → N ys' H') →
      tt (some x :: slotsOf fr σ) H fun b H4 => if b = true then te (some x :: slotsOf fr σ) H4 (fun y H5 => N (ys ++ [y]) H5) else N ys H4)
    (hd : ∀ ys H, Pv xs.length ys H → ∀ l, H l = none → R l ys H) : CompGoal (Itl K a) fr tt te σ H1 R := by
  refine ⟨fun i m ys H => m = xs.length - i ∧ i ≤ xs.length ∧ Pv i ys H, ⟨xs.length, by simp, Nat.zero_le _, h0⟩, ?_⟩
  rintro i m ys H ⟨rfl, hi, p⟩
  obtain ⟨q, hy⟩ := hl i ys H hi p
  by_cases hlt : i < xs.length
  · refine .inr ⟨⟨xs, _, q, List.getElem?_eq_getElem hlt⟩, by omega, ?_⟩
    rintro v H3 ⟨rfl, hv⟩
    exact hs i v ys H3 (fun ys' H' => ∃ m', m' < xs.length - i ∧ m' = xs.length - (i + 1) ∧ i + 1 ≤ xs.length ∧ Pv (i + 1) ys' H') (hv xs q) p fun ys' H' p' => ⟨_, by omega, rfl, hlt, p'⟩
  · have e : i = xs.length := by omega
    subst e
    exact .inl ⟨⟨xs, q, Nat.le_refl _⟩, by omega, hd ys H p⟩
theorem comp_str {z : Str} (Pv : Nat → List V → Hp → Prop) (hx : z.cps.size < sizeLine) (h0 : Pv 0 [] H1) (hl : ∀ i ys H, i ≤ z.cps.size → Pv i ys H → ys.length ≤ i)
    (hs : ∀ (i : Nat) (c : Nat) (ys : List V) (H : Hp) (N : List V → Hp → Prop), z.cps[i]? = some c → Pv i ys H → (∀ ys' H', Pv (i + 1) ys' H' → N ys' H') →
      tt (some (.str ⟨#[c]⟩) :: slotsOf fr σ) H fun b H4 => if b = true then te (some (.str ⟨#[c]⟩) :: slotsOf fr σ) H4 (fun y H5 => N (ys ++ [y]) H5) else N ys H4)
    (hd : ∀ ys H, Pv z.cps.size ys H → ∀ l, H l = none → R l ys H) : CompGoal (Its z) fr tt te σ H1 R := by
  refine ⟨fun i m ys H => m = z.cps.size - i ∧ i ≤ z.cps.size ∧ Pv i ys H, ⟨z.cps.size, by simp, Nat.zero_le _, h0⟩, ?_⟩
  rintro i m ys H ⟨rfl, hi, p⟩
  have hy := hl i ys H hi p
  by_cases hlt : i < z.cps.size
  · refine .inr ⟨hlt, by omega, ?_⟩
    rintro v H3 ⟨rfl, c, hc, rfl⟩
    exact hs i c ys H3 (fun ys' H' => ∃ m', m' < z.cps.size - i ∧ m' = z.cps.size - (i + 1) ∧ i + 1 ≤ z.cps.size ∧ Pv (i + 1) ys' H') hc p fun ys' H' p' => ⟨_, by omega, rfl, hlt, p'⟩
  · have e : i = z.cps.size := by omega
    subst e
    exact .inl ⟨rfl, by omega, hd ys H p⟩
end
end L2

set_option Elab.async false
set_option linter.all false
set_option maxRecDepth 100000
set_option maxHeartbeats 4000000
namespace L2
open PySem PySem.Spec PyProof.Rows
section
variable {X : Cx}
end
section
variable {P : Program} {w : World} {A : Around} {E : Value → Shared → Prop} {z : Shared}
end
section
variable {X : Cx} {pins : List (Addr × Obj)} {σ : St} {H : Hp} {s : Shared} {h' : Heap}
end
section
variable {X : Cx} {elts : List Expr} {kk : Nat} {ps : Pos}
end
end L2
namespace L2
open PySem PySem.Spec PyProof.Rows
end L2

set_option Elab.async false
set_option linter.all false
set_option maxRecDepth 100000
set_option maxHeartbeats 4000000
namespace L2
open PySem PySem.Spec PyProof.Rows
section
variable {X : Cx}
end
section
variable {X : Cx} {K : PySem.W.Frag}
theorem sl_listK (h : X.K = K := by rfl) : SlR X (rSlL K) := h ▸ sl_list
end
end L2

set_option Elab.async false
set_option linter.all false
set_option maxRecDepth 100000
set_option maxHeartbeats 4000000
namespace L2
open PySem PySem.Spec PyProof.Rows
section
variable {prog : Program} {w : World} {A : Around} {E : Value → Shared → Prop}
theorem dp_list_getattr : typeLookup (.type "list") "__getattr__" = pure none := by rw [typeLookup_type, builtinLookup_eq_fast]; kernel_rfl
theorem dp_list_keys : typeLookup (.type "list") "keys" = pure none := by rw [typeLookup_type, builtinLookup_eq_fast]; kernel_rfl
theorem dp_miss {a : Addr} {its : Array Value} {n : Nat} {sl} {u : Tok} {h : Heap} {g : Array GenState} {d : Drawn} {t : Nat} {os : OsState} {Q : Fin → Shared → Prop} (hx : h.get? a = some { cls := .type "list", dict := none, data := .seq its n, slots := sl }) (hA : A.handled = none)
    (k : ∀ h' tk e, Heap.NewAttrErr h h' e (.ref a) "keys" → E (.ref e) ⟨h', g, d, tk, os⟩) :
    wpAny (model prog w) A (Builtin.«object.__getattribute__» ⟨[.ref a, .str "keys" u], []⟩) Q E ⟨h, g, d, t, os⟩ := by
  have hT : (⟨h, g, d, t, os⟩ : Shared).TypeIs (.ref a) "list" := ⟨_, hx, rfl⟩
  have f4 := dp_list_keys
  unfold Builtin.«object.__getattribute__»
  repeat (any_goals (first | (assumption) | (wp_step)))
  refine wpAny_raiseAttrError hA k ?_
  exact attrMsg_fits (by decide +kernel) (by size_fits)
theorem dp_call {a : Addr} {its : Array Value} {n : Nat} {sl} {u : Tok} {h : Heap} {g : Array GenState} {d : Drawn} {t : Nat} {os : OsState} {R : Result → Shared → Prop} (hx : h.get? a = some { cls := .type "list", dict := none, data := .seq its n, slots := sl }) (hA : A.handled = none)
    (k : ∀ h' tk e, Heap.NewAttrErr h h' e (.ref a) "keys" → R (.error (.ref e)) ⟨h', g, d, tk, os⟩) :
    codeAny (model prog w) A (.call (.builtin "list.__getattribute__") ⟨[.ref a, .str "keys" u], []⟩) R ⟨h, g, d, t, os⟩ :=
  codeAny_call_builtin F.slot_list_getattribute.plain F.entry_list_ga (F.slot_list_getattribute.check _ _ _ _ _ _ _ _ (show (⟨h, g, d, t, os⟩ : Shared).TypeIs (.ref a) "list" from ⟨_, hx, rfl⟩) (F.args_list_getattribute_2 _ _) (dp_miss hx hA k))
theorem dp_by {a : Addr} {its : Array Value} {n : Nat} {sl} {u : Tok} {h : Heap} {g : Array GenState} {d : Drawn} {t : Nat} {os : OsState} {Q : Value → Shared → Prop} (hx : h.get? a = some { cls := .type "list", dict := none, data := .seq its n, slots := sl }) (hA : A.handled = none)
    (k : ∀ h' tk e, Heap.NewAttrErr h h' e (.ref a) "keys" → E (.ref e) ⟨h', g, d, tk, os⟩) :
    wpAny (model prog w) A (getAttrBy (.ref a) (.str "keys" u) false) Q E ⟨h, g, d, t, os⟩ := by
  have hT : (⟨h, g, d, t, os⟩ : Shared).TypeIs (.ref a) "list" := ⟨_, hx, rfl⟩
  have g2 := F.slot_list_getattribute.lookup
  have g3 := F.slot_list_getattribute.bind (.ref a)
  have f5 := dp_list_getattr
  have f1 := sub_AttributeError
  repeat (any_goals (first | (assumption) | (wp_step)))
  refine dp_call hx hA fun h' tk e ne => ?_
  obtain ⟨t', u', he⟩ := ne.there
  show wpAny (model prog w) A (getattributeRaised (.ref a) (.str "keys" u) _ _ _ _ _) _ _ _
  unfold getattributeRaised
  repeat (any_goals (first | (assumption) | (wp_step)))
  exact k _ _ _ ne
theorem dp_attr {a : Addr} {its : Array Value} {n : Nat} {sl} {h : Heap} {g : Array GenState} {d : Drawn} {t : Nat} {os : OsState} {Q : Option Value → Shared → Prop} (hx : h.get? a = some { cls := .type "list", dict := none, data := .seq its n, slots := sl }) (hA : A.handled = none)
    (k : ∀ h' tk e, Heap.NewAttrErr h h' e (.ref a) "keys" → Q none ⟨h', g, d, tk, os⟩) :
    wpAny (model prog w) A (getAttr? (.ref a) "keys") Q E ⟨h, g, d, t, os⟩ := by
  have f1 := sub_AttributeError
  unfold getAttr? getAttrBy?
  repeat (any_goals (first | assumption | (with_reducible refine dp_by hx hA fun h' tk e ne => ?_) | wp_step))
  obtain ⟨t', u', he⟩ := ne.there
  repeat (any_goals (first | (assumption) | (wp_step)))
  exact k _ _ _ ne
theorem Paired.at' {α β : Type} {F : α → β → Prop} : ∀ {l₁ : List α} {l₂ : List β} {i : Nat} {x : α}, Paired F l₁ l₂ → l₁[i]? = some x → ∃ y, l₂[i]? = some y ∧ F x y
  | _, _, _, _, .nil, e => by simp at e
  | _, _, 0, _, .cons r _, e => by simp at e; subst e; exact ⟨_, rfl, r⟩
  | _, _, i + 1, x, .cons _ t, e => by
    obtain ⟨y, h1, h2⟩ := Paired.at' (i := i) (x := x) t (by simpa using e)
    exact ⟨y, by simpa using h1, h2⟩
theorem dp_entry : entryFor table "dict.update.loop" = some Builtin.«dict.update.loop» := entryFor_of_tree (by kernel_rfl)
def PairAt (prog : Program) (w : World) (h0 : Heap) (x : Value) (kv : Key × Value) : Prop := ∃ t o n ku, x = .ref t ∧ h0.get? t = some o ∧ o.cls = .type "tuple" ∧ o.data = .seq #[ku, kv.2] n ∧ (mixKind prog w).is kv.1 ku = true
theorem dp_loop {l d it : Addr} {items : List Value} {h0 : Heap} {pairs : List (Key × Value)} {R : Result → Shared → Prop} (hA : A.handled = none) (hd0 : h0.get? d = none) (hi0 : h0.get? it = none) (hdi : d ≠ it)
    (hl : h0.IsList l items.toArray) (hp : Paired (PairAt prog w h0) items pairs) (hsz : pairs.length ≤ sizeLine) (g : Array GenState) (dr : Drawn) (os : OsState)
    (k : ∀ h' tk, (∀ b o, h0.get? b = some o → h'.get? b = some o) → h'.DictOf (mixKind prog w) d (merged [] pairs) → R (.ok (.ret .none)) ⟨h', g, dr, tk, os⟩) :
    ∀ (m i : Nat) (h : Heap) (tk : Nat), items.length - i = m → i ≤ items.length → (∀ b o, h0.get? b = some o → h.get? b = some o) → h.IsListIter it l i → h.DictOf (mixKind prog w) d (merged [] (pairs.take i)) →
      codeAny (model prog w) A (.builtin "dict.update.loop" ⟨[.ref d, .ref it, rawInt i, .none], []⟩) R ⟨h, g, dr, tk, os⟩ := by
  intro m
  have lp : items.length = pairs.length := Paired.length hp
  induction m with
  | zero =>
    intro i h tk em hi kp hit hd
    have ei : i = items.length := by omega
    refine codeAny_builtin dp_entry ?_
    unfold Builtin.«dict.update.loop»
    obtain ⟨ol, hol, hlc, nl, hld⟩ := hl
    show wpAny _ _ (pyNext (.ref it) >>= _) _ _ _
    refine wpAny_bind (wpAny_pyNext_list_end (show (A.under _).handled = none from hA) hit ⟨ol, kp _ _ hol, hlc, nl, hld⟩ (by rw [ei]; simp) fun h' hs => ?_)
    show wpAny _ _ (Builtin.Dict.addKeywords d [] >>= _) _ _ _
    refine wpAny_bind (wpAny_pure (wpAny_pure ?_))
    rw [ei, lp, List.take_length] at hd
    exact k h' _ (fun b o hb => hs b o (fun e => by rw [e, hi0] at hb; cases hb) (kp b o hb)) (hd.extBut hs hdi)
  | succ m ih =>
    intro i h tk em hi kp hit hd
    have hlt : i < items.length := by omega
    obtain ⟨x, hx⟩ : ∃ x, items[i]? = some x := ⟨_, List.getElem?_eq_getElem hlt⟩
    obtain ⟨kv, hkv, t, o, n, ku, rfl, hto, htc, htd, hku⟩ := Paired.at' hp hx
    refine codeAny_builtin dp_entry ?_
    unfold Builtin.«dict.update.loop»
    obtain ⟨ol, hol, hlc, nl, hld⟩ := hl
    show wpAny _ _ (pyNext (.ref it) >>= _) _ _ _
    refine wpAny_bind (wpAny_pyNext_list_item hit ⟨ol, kp _ _ hol, hlc, nl, hld⟩ (x := .ref t) (by simpa using hx) fun h1 hit1 hs1 => ?_)
    have kp1 : ∀ b o, h0.get? b = some o → h1.get? b = some o := fun b o hb => (hs1.2 b (fun e => by rw [e, hi0] at hb; cases hb)).trans (kp b o hb)
    have hd1 := hd.sameBut hs1 hdi
    refine wpAny_bind (wpAny_holding (wpAny_bind (wpAny_tryCatch ?_)))
    unfold Builtin.Dict.pairItems
    refine wpAny_bind (wpAny_typeOf (T := "tuple") ⟨o, kp1 _ _ hto, htc⟩ ?_)
    rw [if_pos (by decide)]
    refine wpAny_bind (wpAny_seqItems (kp1 _ _ hto) htd (wpAny_pure ?_))
    show wpAny _ _ (holding [ku, kv.2] (dictSet d ku kv.2)) _ _ _
    have lm : (merged [] (pairs.take i)).length ≤ sizeLine := by
      have e1 := merged_length_le [] (pairs.take i)
      rw [List.length_take] at e1
      simp only [List.length_nil] at e1
      omega
    refine wpAny_holding (wpAny_dictSet_pairs (hsz := lm) hku hd1 fun h2 hd2 hs2 => ?_)
    refine wpAny_pure ⟨Code.quiet_builtin _ (by decide +kernel), ?_⟩
    have hit2 : h2.IsListIter it l (i + 1) := by
      obtain ⟨oi, hoi, r⟩ := hit1
      exact ⟨oi, (hs2.2 it (Ne.symm hdi)).trans hoi, r⟩
    have kp2 : ∀ b o, h0.get? b = some o → h2.get? b = some o := fun b o hb => (hs2.2 b (fun e => by rw [e, hd0] at hb; cases hb)).trans (kp1 b o hb)
    exact ih (i + 1) h2 _ (by omega) hlt kp2 hit2 (by rw [merged_take_succ [] pairs i kv hkv]; exact hd2)
theorem dp_dict {p : Addr} {items : List Value} {pairs : List (Key × Value)} {s : Shared} {Q : Value → Shared → Prop} (hA : A.handled = none) (pl : PlainL s.heap p items.toArray) (hp : Paired (PairAt prog w s.heap) items pairs) (hsz : pairs.length ≤ sizeLine)
    (k : ∀ h' tk, (∀ b o, s.heap.get? b = some o → h'.get? b = some o) → h'.DictOf (mixKind prog w) s.heap.objs.size (merged [] pairs) → Q (.ref s.heap.objs.size) { s with heap := h', toks := tk }) :
    wpAny (model prog w) A (call (.type "dict") [.ref p]) Q E s := by
  refine callType_codes (Q₁ := fun v1 z1 => v1 = .ref s.heap.objs.size ∧ z1 = { s with heap := s.heap.push { cls := .type "dict", data := .dict #[] } }) F.kt_called_dict (F.kt_typeCall_dict_1 _) F.entry_dict_init (kt_code_dict_new _ ⟨rfl, rfl⟩) ?_
  rintro v1 z1 ⟨rfl, rfl⟩
  obtain ⟨hp0, g, dr, tk, os⟩ := s
  obtain ⟨⟨oc, od, oda, osl⟩, n, ho, hc, hdn, hdd⟩ := pl
  have hc : oc = .type "list" := hc
  have hdn : od = none := hdn
  have hdd : oda = .seq items.toArray n := hdd
  subst hc hdn hdd
  have hnew : (hp0.push { cls := .type "dict", data := .dict #[] }).DictOf (mixKind prog w) hp0.objs.size [] := Heap.DictOf.new hp0
  have ho1 := Heap.get?_push_of_some { cls := .type "dict", data := .dict #[] } ho
  refine ⟨hnew.typeIs, F.args_dict_init_2 _ _, ?_⟩
  unfold Builtin.«dict.__init__»
  refine wpAny_bind ?_
  unfold Builtin.Dict.selfAndRest
  refine wpAny_bind (wpAny_notOrdered_dict hnew.typeIs (wpAny_pure ?_))
  show wpAny (model prog w) _ (Builtin.Dict.updateFrom "dict.__init__" hp0.objs.size (.ref p) [] .none) _ _ _
  unfold Builtin.Dict.updateFrom
  refine wpAny_bind (wpAny_typeOf (T := "list") ⟨_, ho1, rfl⟩ ?_)
  rw [if_pos (by decide)]
  refine wpAny_bind (dp_attr ho1 hA fun h2 tk2 e ne => ?_)
  rw [if_pos (by decide)]
  refine wpAny_bind (wpAny_rule ?_)
  have ho2 := ne.keeps _ _ ho1
  refine wpAny_bind (wpAny_pyIter_list (items := items.toArray) ⟨_, ho2, rfl, n, rfl⟩ ?_)
  have kp : ∀ b o, hp0.get? b = some o → (h2.push { cls := .type "list_iterator", data := .fields #[.ref p, .int 0 0] }).get? b = some o := fun b o hb => Heap.get?_push_of_some _ (ne.keeps _ _ (Heap.get?_push_of_some _ hb))
  have hd2 : h2.DictOf (mixKind prog w) hp0.objs.size [] := by
    obtain ⟨o', es, ep, h', r⟩ := hnew
    exact ⟨o', es, ep, ne.keeps _ _ h', r⟩
  have ld : hp0.objs.size < h2.objs.size := by
    obtain ⟨o', es, ep, h', r⟩ := hd2
    exact Heap.lt_size h'
  refine wpAny_pure ⟨Code.quiet_builtin _ (by decide +kernel), ?_⟩
  refine dp_loop (l := p) (d := hp0.objs.size) (it := h2.objs.size) (items := items) (h0 := hp0) (pairs := pairs) (show A.in1.handled = none from hA) (Heap.get?_none_of_le (Nat.le_refl _)) (Heap.get?_none_of_le (Nat.le_of_lt ld)) (Nat.ne_of_lt ld) ⟨_, ho, rfl, n, rfl⟩ hp hsz g dr os (fun h' tk' kp' hd' => ⟨rfl, k h' tk' kp' hd'⟩) items.length 0 _ _ rfl (Nat.zero_le _) kp ?_ (hd2.push _)
  exact ⟨_, Heap.get?_push_size _ rfl, rfl, rfl⟩
end
section
variable {X : Cx}
def rDictP (K : PySem.W.Frag) : List V → Hp → VK → Prop := fun xs H Q => ∃ p ys kvs, xs = [.ref p] ∧ SqL K H p ys ∧ Paired (fun (y : V) (kv : Key × V) => ∃ t, y = .ref t ∧ H t = some (.tup [kV kv.1, kv.2])) ys kvs ∧ ∀ d, H d = none → Q (.ref d) (upd H d (.dK (mergeK [] kvs)))
theorem pairs_of {P : Program} {w : World} {H : Hp} {h : Heap} (ok : HOk P w H h) : ∀ {ys : List V} {us : List Value} {kvs : List (Key × V)}, Vals ys us → Paired (fun (y : V) (kv : Key × V) => ∃ t, y = .ref t ∧ H t = some (.tup [kV kv.1, kv.2])) ys kvs → ∃ ps, Paired (PairAt P w h) us ps ∧ KV kvs ps
  | _, _, _, .nil, .nil => ⟨[], .nil, .nil⟩
  | _, _, _, .cons (b := u) r t, .cons (b := kv) ⟨a, ea, ha⟩ q => by
    obtain ⟨ps, h1, h2⟩ := pairs_of ok t q
    subst ea
    cases (show u = Value.ref a from r)
    obtain ⟨_, its, ri, o, e1, e2, n, e3⟩ := (show ObjOk P w H h a (.tup [kV kv.1, kv.2]) from ok a _ ha)
    match its, ri with
    | [ku, vu], .cons rk (.cons rv .nil) => exact ⟨(kv.1, vu) :: ps, .cons ⟨a, o, n, ku, rfl, e1, e2, e3, kV_is rk⟩ h1, .cons ⟨rfl, rv⟩ h2⟩
theorem call_dict_pairs (hA : X.A.handled = none) : CallR X (.type "dict") (rDictP X.K) := by
  intro pins s σ H xs us Q I r h
  obtain ⟨p, ys, kvs, rfl, hq, hk, q⟩ := h
  obtain ⟨u, rfl, rx⟩ := vals1 r
  cases rx
  obtain ⟨its, r', pl, hz⟩ := I.list hq
  obtain ⟨ps, h1, h2⟩ := pairs_of I.hok r' hk
  have l1 : its.length = ps.length := Paired.length h1
  have l2 := r'.length
  refine dp_dict hA pl h1 (by omega) fun h' tk kp hd => ?_
  have rel : KV (mergeK [] kvs) (merged [] ps) := KV.merge h2 .nil
  have lz : (mergeK [] kvs).length ≤ sizeLine := by
    have e1 := merged_length_le [] ps
    rw [rel.length]
    simp only [List.length_nil] at e1
    omega
  exact ⟨.ref s.heap.objs.size, _, I.laid (t' := tk) kp (Nat.le_refl _) (dk_new lz (beq_eq_false_iff_ne.mpr (Ne.symm (Nat.ne_of_lt I.big))) rel hd), rfl, q _ (I.hok.fresh (Nat.le_refl _))⟩
theorem op_isB : OpR X (compareOp .Is) (fun x y H Q => ∃ a b, x = .bl a ∧ y = .bl b ∧ Q (.bl (a == b)) H) := by
  intro pins s σ H x y v u Q I rx ry h
  obtain ⟨a, b, rfl, rfl, q⟩ := h
  cases rx
  cases ry
  exact wpAny_of_eq (a := Value.bool (a == b)) (by cases a <;> cases b <;> rfl) (fin_bl I q rfl)
theorem op_isnotB : OpR X (compareOp .IsNot) (fun x y H Q => ∃ a b, x = .bl a ∧ y = .bl b ∧ Q (.bl (!(a == b))) H) := by
  intro pins s σ H x y v u Q I rx ry h
  obtain ⟨a, b, rfl, rfl, q⟩ := h
  cases rx
  cases ry
  exact wpAny_of_eq (a := Value.bool (!(a == b))) (by cases a <;> cases b <;> rfl) (fin_bl I q rfl)
end
end L2

set_option Elab.async false
set_option linter.all false
set_option maxRecDepth 100000
set_option maxHeartbeats 4000000
namespace L2
open PySem PySem.Spec PyProof.Rows
section
variable {prog : Program} {w : World} {A : Around} {s : Shared} {R : Result → Shared → Prop}
theorem comp_loopT {elt tg iter : Expr} {ifs : List Expr} {scope : Scope} {pos : Pos} {it acc : Value} {env : Env} (Iv : Nat → Shared → Prop)
    (turn : ∀ n z, Iv n z → wpAny (model prog w) A (pyNext it) (fun r z1 => match r with
      | none => R (.ok .next) z1
      | some v => wpAny (model prog w) A (letOwnedTupleGo tg it v) (fun _ y2 => wpAny (model prog w) A (assign tg env v) (fun _ z2 =>
          wpAny (model prog w) A (forIn ifs true fun c r => if r = true then do let ok ← isTrue c env (eval c env); pure (ForInStep.yield ok) else pure (ForInStep.yield r)) (fun ok z3 =>
            if ok = true then wpAny (model prog w) A (eval elt env) (fun x z4 =>
              wpAny (model prog w) A (call (.builtin "list.append") [acc, x]) (fun _ z5 => ∃ m, m < n ∧ Iv m z5) (notedBy (model prog w) A env fun e z' => R (.error e) z') z4) (notedBy (model prog w) A env fun e z' => R (.error e) z') z3
            else ∃ m, m < n ∧ Iv m z3) (notedBy (model prog w) A env fun e z' => R (.error e) z') z2) (notedBy (model prog w) A env fun e z' => R (.error e) z') y2) (notedBy (model prog w) A env fun e z' => R (.error e) z') z1) (notedBy (model prog w) A env fun e z' => R (.error e) z') z)
    (n : Nat) (h : Iv n s) : codeAny (model prog w) A (.compLoop (.ListComp elt [⟨tg, iter, ifs, 0⟩] scope pos) 0 it acc env) R s := by
  refine codeAny_loop rfl Iv (fun n z hI => ?_) n h
  show wpAny (model prog w) A ((compTurn (.ListComp elt [⟨tg, iter, ifs, 0⟩] scope pos) 0 it acc env).onRaise (fun x => do noteFrame x env; theTreesLotGoes x)) _ _ z
  refine wpAny_noted ?_
  rw [compTurn_list]
  refine wpAny_bind (wpAny_standAt (wpAny_bind (wpAny_mono (turn n z hI) (fun r z1 q1 => ?_) fun _ _ q => q)))
  cases r with
  | none => exact wpAny_pure q1
  | some v =>
    refine wpAny_bind (wpAny_mono q1 (fun _ z2 q3 => wpAny_bind (wpAny_mono q3 (fun _ z3 q4 => wpAny_bind (wpAny_mono q4 (fun ok z4 q5 => ?_) fun _ _ q => q)) fun _ _ q => q)) fun _ _ q => q)
    cases ok with
    | false => exact wpAny_pure ⟨rfl, q5⟩
    | true => exact wpAny_bind (wpAny_bind (wpAny_mono q5 (fun x z5 q6 => wpAny_bind (wpAny_mono q6 (fun _ z6 q7 => wpAny_pure (wpAny_pure ⟨rfl, q7⟩)) fun _ _ q => q)) fun _ _ q => q))
end
structure CompScT (X : Cx) (scope : Scope) (x : Str) (more fs : List Str) (fr : List Nat) : Prop where
  one : CompSc X scope x fs fr
  nd2 : (x :: more ++ fs).Nodup
def tCompT (wi : TI) (k : Nat) (fr : List Nat) (g : TG) (tt : TT) (te : TE) : TE := fun σ H Q => wi σ H fun J H1 => ∃ W : Nat → Nat → List V → Hp → Prop, (∃ m, W 0 m [] H1) ∧ ∀ i m ys H2, W i m ys H2 →
  (J.stop i H2 ∧ ys.length ≤ sizeLine ∧ ∀ l, H2 l = none → Q (.ref l) (upd H2 l (.lst ys))) ∨
  (J.go i H2 ∧ ys.length < sizeLine ∧ ∀ v H3, J.yld i H2 v H3 → ∀ own : St, own.length = k → g v (own ++ slotsOf fr σ) H3 fun σ4 H4 => ∃ own4, σ4 = own4 ++ slotsOf fr σ ∧ own4.length = k ∧ tt σ4 H4 fun b H5 =>
    if b = true then te σ4 H5 (fun y H6 => ∃ m', m' < m ∧ W (i + 1) m' (ys ++ [y]) H6) else ∃ m', m' < m ∧ W (i + 1) m' ys H5)
section
variable {X : Cx}
theorem ok_names {N1 : List Str} (N2 : List Str) {scope : Scope} {C : Addr} {s : Shared} {H : Hp} {ex : List Addr} (h : (compX X N1 scope C s H ex).Ok) : (compX X N2 scope C s H ex).Ok :=
  ⟨h.mod, h.kind, h.glob, h.blt, h.above, h.inj, h.has, h.cab, h.hd, h.frames, h.stk, h.exf, h.bs, h.bsz, h.noex, h.exfs, h.funs, h.frf⟩
theorem comp_invT {pins : List (Addr × Obj)} {σ : St} {H : Hp} {s : Shared} {scope : Scope} {x : Str} {more fs : List Str} {fr : List Nat} {ex : List Addr} {h4 : Heap} {m : Str → Option Value} {t : Nat} (S : CompScT X scope x more fs fr) (I3 : Inv X pins σ H s)
    (ok : (compX X (x :: fs) scope s.heap.objs.size s H ex).Ok) (hn : h4.Ns s.heap.objs.size m) (old : ∀ b o, s.heap.get? b = some o → h4.get? b = some o) :
    Inv (compX X (x :: more ++ fs) scope s.heap.objs.size s H ex) [] (List.replicate (more.length + 1) none ++ slotsOf fr σ) H { s with heap := h4, toks := t } := by
  have J := comp_inv (t := t) S.one I3 ok hn old
  refine ⟨ok_names _ J.ok, J.os, J.bare, J.base, ?_, J.cell, J.free, J.freeC, J.pin, J.hok, ?_⟩
  · obtain ⟨m1, hn1, hl⟩ := J.loc
    refine ⟨m1, hn1, fun i y v e1 e2 e3 => ?_⟩
    by_cases hi : i < more.length + 1
    · have e2 : (List.replicate (more.length + 1) (none : Option V) ++ slotsOf fr σ)[i]? = some (some v) := e2
      rw [List.getElem?_append_left (by rw [List.length_replicate]; exact hi), List.getElem?_replicate, if_pos hi] at e2
      cases e2
    · obtain ⟨j, rfl⟩ : ∃ j, i = more.length + 1 + j := ⟨i - (more.length + 1), by omega⟩
      have e2 : (List.replicate (more.length + 1) (none : Option V) ++ slotsOf fr σ)[more.length + 1 + j]? = some (some v) := e2
      have e1 : ((x :: more) ++ fs)[more.length + 1 + j]? = some y := e1
      rw [List.getElem?_append_right (by rw [List.length_replicate]; omega), List.length_replicate, Nat.add_sub_cancel_left] at e2
      rw [List.getElem?_append_right (by rw [List.length_cons]; omega), List.length_cons, Nat.add_sub_cancel_left] at e1
      exact hl (j + 1) y v (by simpa using e1) (by simpa using e2) e3
  · show (List.replicate (more.length + 1) none ++ slotsOf fr σ).length = ((x :: more) ++ fs).length
    have h1 := S.one.len
    simp [slotsOf, h1]
    omega
theorem pe_compGT {elt iter tg : Expr} {x : Str} {more : List Str} {g : TG} {ifs : List Expr} {scope : Scope} {pos : Pos} {wi : TI} {fs : List Str} {fr : List Nat} {tt : TT} {te : TE} (hc : X.calm = true) (ST : CompScT X scope x more fs fr) (hi : PI X tg iter wi) (hg : ∀ C s H ex, PG (compX X (x :: more ++ fs) scope C s H ex) tg g)
    (ht : ∀ C s H ex, CT (compX X (x :: more ++ fs) scope C s H ex) ifs tt) (he : ∀ C s H ex, PE (compX X (x :: more ++ fs) scope C s H ex) elt te) (hs : ∀ z, foldedSetIterable iter X.env z = pure z := by intro _; rfl) :
    PE X (.ListComp elt [⟨tg, iter, ifs, 0⟩] scope pos) (tCompT wi (more.length + 1) fr g tt te) := by
  intro pins s σ H Q I h
  have S := ST.one
  rw [eval_ListComp]
  refine wpAny_comprehension_free (use := none) rfl hs (closureFor_some fun n hn => I.ok.has n (.inl (S.free n hn).1)) S.kind S.names ?_
  refine thn (hi pins s σ H _ I h) fun v s1 h1 => thn h1 fun itv s2 h2 => ?_
  obtain ⟨it, fp, tn, J, H2, e, I2, T, st2, f2, W, ⟨m0, w0⟩, turn⟩ := h2
  subst e
  have hlt : ∀ b ∈ fp, b < s2.heap.objs.size := fun b hb => by
    obtain ⟨o, e, _⟩ := T.obj 0 _ st2 b hb
    exact Heap.lt_size e
  refine wpAny_newObj_type (wpAny_newFunctionEnv S.nocell (by intro y hy; simp at hy) (fun h4 hns4 hsb4 => ?_) S.kind)
  dsimp only at hns4 hsb4 ⊢
  generalize hH3 : s2.heap.push { cls := .type "list", dict := none, data := .seq ([] : List Value).toArray } = g3 at hns4 hsb4 ⊢
  have hC : g3.objs.size = s2.heap.objs.size + 1 := by rw [← hH3, Heap.size_push]
  have old3 : ∀ b o, s2.heap.get? b = some o → g3.get? b = some o := fun b o e => hH3 ▸ Heap.get?_push_of_some _ e
  have I3 : Inv X pins σ H2 { s2 with heap := g3 } := I2.kept (t' := s2.toks) old3
  have acc3 : g3.get? s2.heap.objs.size = some (lobj [] 0) := hH3 ▸ Heap.get?_push_size _ rfl
  have old4 : ∀ b o, g3.get? b = some o → h4.get? b = some o := fun b o e => hsb4.extBut b o (Nat.ne_of_lt (Heap.lt_size e)) (Heap.get?_push_of_some _ e)
  have ok1 := comp_ok (s := { s2 with heap := g3 }) (D := s2.heap.objs.size) (fp := fp) S I2 I3 rfl hC hlt f2
  have ok := ok_names (x :: more ++ fs) ok1
  have I4 := comp_invT (t := s2.toks + ([] : List (Str × Value)).length) ST I3 ok1 hns4 old4
  have dne := ok.exf s2.heap.objs.size List.mem_cons_self
  have dnf := ok.exfs s2.heap.objs.size List.mem_cons_self
  have fpok : ∀ {H' : Hp} {vs : List Value} {k : Nat}, (∀ b ∈ fp, H' b = none) → ∀ b ∈ fp, FpOk (compX X (x :: more ++ fs) scope g3.objs.size { s2 with heap := g3 } H2 (s2.heap.objs.size :: fp)) [(s2.heap.objs.size, lobj vs k)] H' b := fun {H' vs k} hn b hb => by
    have q := ok.exf b (List.mem_cons_of_mem _ hb)
    refine ⟨hn b hb, q.1, ok.exfs b (List.mem_cons_of_mem _ hb), .inl (List.mem_cons_of_mem _ hb), q.2, fun p hp => ?_⟩
    have e : p = (s2.heap.objs.size, lobj vs k) := by simpa using hp
    rw [e]
    exact Nat.ne_of_gt (hlt b hb)
  have start : Inv (compX X (x :: more ++ fs) scope g3.objs.size { s2 with heap := g3 } H2 (s2.heap.objs.size :: fp)) [(s2.heap.objs.size, lobj [] 0)] (List.replicate (more.length + 1) none ++ slotsOf fr σ) H2 { s2 with heap := h4, toks := s2.toks + ([] : List (Str × Value)).length } :=
    I4.pins_of fun p hp => by
      have e : p = (s2.heap.objs.size, lobj [] 0) := by simpa using hp
      subst e
      exact ⟨old4 _ _ acc3, I2.hok.fresh (Nat.le_refl _), dne.1, dnf, fun v z => by cases z⟩
  have stn : tn 0 h4 := T.keep 0 _ _ st2 fun b _ o e => old4 b o (old3 b o e)
  have fin : ∀ {i : Nat} {σ0 : St} {H' : Hp} {ys : List V} {vs : List Value} {k : Nat} {s' : Shared}, Inv (compX X (x :: more ++ fs) scope g3.objs.size { s2 with heap := g3 } H2 (s2.heap.objs.size :: fp)) [(s2.heap.objs.size, lobj vs k)] (σ0 ++ slotsOf fr σ) H' s' → Vals ys vs → ys.length ≤ sizeLine →
      (∀ l, H' l = none → Q (.ref l) (upd H' l (.lst ys))) → ∃ m, s'.heap.Ns g3.objs.size m ∧ ∀ h', Heap.SameBut g3.objs.size s'.heap h' → EP X pins σ Q (.ref s2.heap.objs.size) { s' with heap := h' } := by
    intro i σ0 H' ys vs k s' J1 rv hz q
    obtain ⟨m, hn, _⟩ := id J1.loc
    refine ⟨m, hn, fun h' sb => ?_⟩
    have below : ∀ y c, X.env.cells.lookup y = some c → c < s2.heap.objs.size := fun y c z => by
      obtain ⟨v, q⟩ := I2.cell y c z
      exact q.lt
    have pbelow : ∀ p ∈ X.pn ++ pins, p.1 < s2.heap.objs.size := fun p hp => Heap.lt_size (I2.pin p hp).1
    have I5 : Inv X pins σ H' s' := I3.call' (ch := s2.heap.objs.size :: fp) J1.os J1.base J1.hok J1.bare fun b hb => by
      rcases List.mem_cons.mp hb with e | hb
      · rw [e]
        exact ⟨.inr I2.sz, Nat.ne_of_gt I2.lt, fun y c z => Nat.ne_of_lt (below y c z), fun p hp => Nat.ne_of_lt (pbelow p hp)⟩
      · exact ⟨(f2 b hb).2.2.2.1, (f2 b hb).2.1, (f2 b hb).2.2.2.2.1, (f2 b hb).2.2.2.2.2⟩
    have szC : s2.heap.objs.size < g3.objs.size := by omega
    have I6 : Inv X pins σ H' { s' with heap := h' } := I5.turned (t' := s'.toks) (it := g3.objs.size) (fun b o hb e => sb.extBut b o hb e) J1.free (Nat.ne_of_gt (Nat.lt_trans I2.lt szC)) (.inr (Nat.le_of_lt (Nat.lt_of_le_of_lt I2.sz szC)))
      (fun y c z => Nat.ne_of_lt (Nat.lt_trans (below y c z) szC)) (fun p hp => Nat.ne_of_lt (Nat.lt_trans (pbelow p hp) szC))
    obtain ⟨eD, nD, _⟩ := J1.pin (s2.heap.objs.size, lobj vs k) (by simp)
    have eD' : h'.get? s2.heap.objs.size = some (lobj vs k) := sb.extBut _ _ dne.1 eD
    exact ⟨.ref s2.heap.objs.size, _, I6.adopt nD eD' rv hz I2.sz (Nat.ne_of_gt I2.lt) (fun y c z => Nat.ne_of_lt (below y c z)) (fun p hp => Nat.ne_of_lt (pbelow p hp)), rfl, q _ nD⟩
  have loop : ∀ s4 : Shared, s4 = { s2 with heap := h4, toks := s2.toks + ([] : List (Str × Value)).length } →
      codeAny (model X.prog X.w) X.A (.compLoop (.ListComp elt [⟨tg, iter, ifs, 0⟩] scope pos) 0 (.ref it) (.ref s2.heap.objs.size) (compEnvC scope (clOf scope X.env) g3.objs.size X.env))
        (compPost (model X.prog X.w) X.A X.xe none (EP X pins σ Q) (.ref s2.heap.objs.size) g3.objs.size) s4 := by
    rintro s4 rfl
    refine comp_loopT (fun n s' => ∃ i σ0 H' ys vs k, σ0.length = more.length + 1 ∧ Inv (compX X (x :: more ++ fs) scope g3.objs.size { s2 with heap := g3 } H2 (s2.heap.objs.size :: fp)) [(s2.heap.objs.size, lobj vs k)] (σ0 ++ slotsOf fr σ) H' s' ∧ tn i s'.heap ∧ (∀ b ∈ fp, H' b = none) ∧ Vals ys vs ∧ W i n ys H') ?_ m0
      ⟨0, List.replicate (more.length + 1) none, H2, [], [], 0, List.length_replicate, start, stn, fun b hb => (f2 b hb).1, .nil, w0⟩
    rintro n s' ⟨i, σ0, H', ys, vs, k, h0, J1, st, fr1, rv, w1⟩
    rcases turn i n ys H' w1 with ⟨stop, hz, q⟩ | ⟨go, hz, step⟩
    · refine thn (T.done (compX X (x :: more ++ fs) scope g3.objs.size { s2 with heap := g3 } H2 (s2.heap.objs.size :: fp)) rfl rfl rfl hc i _ s' _ H' _ J1 (fpok fr1) st stop) fun r s5 ⟨hr, J2⟩ => ?_
      subst hr
      exact fin (i := i) J2 rv hz q
    · refine thn (T.item (compX X (x :: more ++ fs) scope g3.objs.size { s2 with heap := g3 } H2 (s2.heap.objs.size :: fp)) rfl rfl rfl hc i _ s' _ H' _ J1 (fpok fr1) st go) fun r s5 ⟨u, hr, h5⟩ => ?_
      subst hr
      refine thn h5 fun _ s6 ⟨v, H6, J6, r6, y6, st6, fr6⟩ => ?_
      have J6' := J6.pinned (fp := fp) (fpok fr6) (T.obj _ _ st6)
      refine wpAny_mono (hg _ _ _ _ _ s6 _ H6 v u _ J6' r6 (step v H6 y6 σ0 h0)) (fun _ s7 ⟨σ7, H7, J7, own, e7, l7, q7⟩ => ?_) (fun _ _ z => z.elim)
      subst e7
      have pfp : ∀ {σ8 : St} {H8 : Hp} {s8 : Shared}, Inv (compX X (x :: more ++ fs) scope g3.objs.size { s2 with heap := g3 } H2 (s2.heap.objs.size :: fp)) ([(s2.heap.objs.size, lobj vs k)] ++ pinsAt fp s6.heap) σ8 H8 s8 →
          tn (i + 1) s8.heap ∧ ∀ b ∈ fp, H8 b = none := fun {σ8 H8 s8} J8 => by
        refine ⟨T.keep _ _ _ st6 fun b hb o e => (J8.pin (b, o) (List.mem_append_right _ (List.mem_append_right _ (mem_pinsAt hb e)))).1, fun b hb => ?_⟩
        obtain ⟨o, e, d⟩ := T.obj _ _ st6 b hb
        exact (J8.pin (b, o) (List.mem_append_right _ (List.mem_append_right _ (mem_pinsAt hb e)))).2.1
      refine wpAny_mono (ht _ _ _ _ _ s7 _ H7 _ J7 q7) (fun ok8 s8 ⟨H8, J8, q8⟩ => ?_) (fun _ _ z => z.elim)
      cases ok8 with
      | false =>
        rw [if_neg Bool.false_ne_true] at q8
        rw [if_neg Bool.false_ne_true]
        obtain ⟨m', hm, w8⟩ := q8
        obtain ⟨t8, n8⟩ := pfp J8
        exact ⟨m', hm, i + 1, own, H8, ys, vs, k, l7, J8.unpinned, t8, n8, rv, w8⟩
      | true =>
        rw [if_pos rfl] at q8
        rw [if_pos rfl]
        refine wpAny_mono (he _ _ _ _ _ s8 _ H8 _ J8 q8) (fun y s9 ⟨yv, H9, J9, r9, m', hm, w9⟩ => ?_) (fun _ _ z => z.elim)
        obtain ⟨t9, n9⟩ := pfp J9
        obtain ⟨eD, nD, _⟩ := J9.pin (s2.heap.objs.size, lobj vs k) (by simp)
        have hl := rv.length
        refine call_meets F.slot_list_append ⟨_, eD, rfl⟩ F.entry_list_append (F.args_list_append_2 _ _) (PySem.list_append s2.heap.objs.size vs.toArray k y (by rw [List.size_toArray]; omega)) ⟨eD, ?_⟩
        have eN := PySem.IsL.update (h := s9.heap) (l := s2.heap.objs.size) (items := vs.toArray) (n := k) eD (·.push y)
        have eV : vs.toArray.push y = (vs ++ [y]).toArray := by simp
        rw [eV] at eN
        obtain ⟨k', eN⟩ : ∃ k', (s9.heap.update s2.heap.objs.size (Obj.mapSeq (·.push y))).get? s2.heap.objs.size = some (lobj (vs ++ [y]) k') := ⟨_, eN⟩
        have K9 : Inv (compX X (x :: more ++ fs) scope g3.objs.size { s2 with heap := g3 } H2 (s2.heap.objs.size :: fp)) [] (own ++ slotsOf fr σ) H9 s9 := J9.pins_of fun p hp => absurd hp (by simp)
        have K10 : Inv (compX X (x :: more ++ fs) scope g3.objs.size { s2 with heap := g3 } H2 (s2.heap.objs.size :: fp)) [] (own ++ slotsOf fr σ) H9 { s9 with heap := s9.heap.update s2.heap.objs.size (Obj.mapSeq (·.push y)) } :=
          K9.turned (t' := s9.toks) (it := s2.heap.objs.size) (fun b o hb e => (Heap.get?_update_other s9.heap (Obj.mapSeq (·.push y)) (Ne.symm hb)).trans e) nD dne.1 (.inl List.mem_cons_self) dne.2 (fun p hp => absurd hp (by simp))
        refine ⟨m', hm, i + 1, own, H9, ys ++ [yv], vs ++ [y], k', l7, K10.pins_of fun p hp => ?_, T.keep _ _ _ t9 fun b hb o e => (Heap.get?_update_other s9.heap (Obj.mapSeq (·.push y)) (Nat.ne_of_gt (hlt b hb))).trans e, n9, rv.append (.cons r9 .nil), w9⟩
        have e : p = (s2.heap.objs.size, lobj (vs ++ [y]) k') := List.mem_singleton.mp hp
        rw [e]
        exact ⟨eN, nD, dne.1, dnf, fun v z => by cases z⟩
  exact codeAny_compStart_list (loop _ rfl) (T.self X.A 0 _ _ _ stn (loop _ rfl))
theorem pe_compT {elt iter tg : Expr} {x : Str} {more : List Str} {g : TG} {scope : Scope} {pos : Pos} {wi : TI} {fs : List Str} {fr : List Nat} {te : TE} (hc : X.calm = true) (S : CompScT X scope x more fs fr) (hi : PI X tg iter wi) (hg : ∀ C s H ex, PG (compX X (x :: more ++ fs) scope C s H ex) tg g)
    (he : ∀ C s H ex, PE (compX X (x :: more ++ fs) scope C s H ex) elt te) (hs : ∀ z, foldedSetIterable iter X.env z = pure z := by intro _; rfl) :
    PE X (.ListComp elt [⟨tg, iter, [], 0⟩] scope pos) (tCompT wi (more.length + 1) fr g tTrue te) := pe_compGT hc S hi hg (fun _ _ _ _ => ct_nil) he hs
theorem compScT_mk {scope : Scope} {x : Str} {more fs : List Str} {fr : List Nat} (h : cscOk X.env.scope X.N scope x fs fr = true := by kernel_rfl) (h2 : decide (x :: more ++ fs).Nodup = true := by kernel_rfl) : CompScT X scope x more fs fr := ⟨compSc_mk h, of_decide_eq_true h2⟩
theorem pg_tupK {K : PySem.W.Frag} {es : List Expr} {k : Nat} {t : TGs} {n : Nat} {pos : Pos} (hc : X.calm = true) (h : PGs X es t) (hK : X.K = K := by rfl)
    (hn : (assignEach es X.env).length = n := by rfl) (hst : (assignEach es X.env).findIdx? (·.1) = none := by rfl) : PG X (.Tuple es k pos) (gTup K n t) := hK ▸ pg_tup hc h hn hst
theorem pg_nameC {i : Nat} {x : Str} {pos : Pos} (hN : decide X.N.Nodup = true := by kernel_rfl) (hi : X.N[i]? = some x := by rfl) (hl : X.env.scope.names.lookup x = some .local := by first | rfl | exact lookup_relabel_local rfl) : PG X (.Name x pos) (gName i) :=
  pg_name (of_decide_eq_true hN) hi (.inl hl) (.inr hl)
end
section
variable {K : PySem.W.Frag} {a : Addr} {xs : List V} {fr : List Nat} {tt : TT} {te : TE} {σ : St} {H1 : Hp} {R : Addr → List V → Hp → Prop}
abbrev gPair (K : PySem.W.Frag) : TG := gTup K 2 (gCons (gName 0) (gCons (gName 1) gNil))
abbrev CompGoalT (J : It) (k : Nat) (fr : List Nat) (g : TG) (tt : TT) (te : TE) (σ : St) (H1 : Hp) (R : Addr → List V → Hp → Prop) : Prop :=
  ∃ W : Nat → Nat → List V → Hp → Prop, (∃ m, W 0 m [] H1) ∧ ∀ i m ys H2, W i m ys H2 →
  (J.stop i H2 ∧ ys.length ≤ sizeLine ∧ ∀ l, H2 l = none → R l ys H2) ∨
  (J.go i H2 ∧ ys.length < sizeLine ∧ ∀ v H3, J.yld i H2 v H3 → ∀ own : St, own.length = k → g v (own ++ slotsOf fr σ) H3 fun σ4 H4 => ∃ own4, σ4 = own4 ++ slotsOf fr σ ∧ own4.length = k ∧ tt σ4 H4 fun b H5 =>
    if b = true then te σ4 H5 (fun y H6 => ∃ m', m' < m ∧ W (i + 1) m' (ys ++ [y]) H6) else ∃ m', m' < m ∧ W (i + 1) m' ys H5)
theorem pair_in {v a b : V} {p : Addr} {H : Hp} {Q : St → Hp → Prop} {own rest : St} (ho : own.length = 2) (ev : v = .ref p) (hp : SqT K H p [a, b]) (h : Q (some a :: some b :: rest) H) : gPair K v (own ++ rest) H Q := by
  match own, ho with
  | [o1, o2], _ => exact ⟨p, _, ev, hp, rfl, _, _, rfl, _, _, rfl, rfl, h⟩
end
end L2

set_option Elab.async false
set_option linter.all false
set_option maxRecDepth 100000
set_option maxHeartbeats 4000000
namespace L2
open PySem PySem.Spec PyProof.Rows
def leS (a b : Str) : Bool := !decide (b.cps.toList < a.cps.toList)
theorem leS_iff (a b : Str) : leS a b = true ↔ a.cps.toList ≤ b.cps.toList := by
  unfold leS
  rw [Bool.not_eq_true', decide_eq_false_iff_not]
  exact Iff.rfl
theorem leS_trans (a b c : Str) (h1 : leS a b = true) (h2 : leS b c = true) : leS a c = true := by
  rw [leS_iff] at *
  exact List.le_trans h1 h2
theorem leS_anti {a b : Str} (h1 : leS a b = true) (h2 : leS b a = true) : a = b := by
  rw [leS_iff] at *
  exact ext_toList (List.le_antisymm h1 h2)
theorem leS_total (a b : Str) : (leS a b || leS b a) = true := by
  rcases List.le_total a.cps.toList b.cps.toList with h | h
  · rw [(leS_iff a b).mpr h, Bool.true_or]
  · rw [(leS_iff b a).mpr h, Bool.or_true]
def sortS (zs : List Str) : List Str := zs.mergeSort leS
theorem sortS_perm (zs : List Str) : (sortS zs).Perm zs := List.mergeSort_perm zs leS
theorem sortS_pair (zs : List Str) : (sortS zs).Pairwise (fun a b => leS a b = true) := List.pairwise_mergeSort leS_trans leS_total zs
theorem rising_pair : ∀ (r : List Str) (p : Str), risingS p r = true → (p :: r).Pairwise (fun a b => leS a b = true)
  | [], p, _ => by simp
  | x :: r, p, h => by
    have h' : (!ltCps x.cps.toList p.cps.toList && risingS x r) = true := h
    rw [Bool.and_eq_true] at h'
    have ih := rising_pair r x h'.2
    have h1 : leS p x = true := by
      have := h'.1
      rw [ltCps_eq] at this
      exact this
    refine List.pairwise_cons.mpr ⟨fun y hy => ?_, ih⟩
    rcases List.mem_cons.mp hy with rfl | hy
    · exact h1
    · exact leS_trans p x y h1 (List.rel_of_pairwise_cons ih hy)
theorem sorted_pair : ∀ (l : List Str), sortedS l = true → l.Pairwise (fun a b => leS a b = true)
  | [], _ => .nil
  | x :: r, h => rising_pair r x h
theorem perm_eq : ∀ {l m : List Str}, l.Perm m → l.Pairwise (fun a b => leS a b = true) → m.Pairwise (fun a b => leS a b = true) → l = m
  | [], m, h, _, _ => (List.nil_perm.mp h).symm
  | a :: l, [], h, _, _ => absurd h.length_eq (by simp)
  | a :: l, b :: m, h, h1, h2 => by
    have e : a = b := by
      rcases List.mem_cons.mp (h.mem_iff.mp (List.mem_cons_self (a := a) (l := l))) with e | e
      · exact e
      · rcases List.mem_cons.mp (h.mem_iff.mpr (List.mem_cons_self (a := b) (l := m))) with q | q
        · exact q.symm
        · exact leS_anti (List.rel_of_pairwise_cons h1 q) (List.rel_of_pairwise_cons h2 e)
    subst e
    rw [perm_eq (List.perm_cons a |>.mp h) (List.pairwise_cons.mp h1).2 (List.pairwise_cons.mp h2).2]
theorem sortS_of {l zs : List Str} (h : l.Perm zs) (hs : sortedS l = true) : l = sortS zs := perm_eq (h.trans (sortS_perm zs).symm) (sorted_pair l hs) (sortS_pair zs)
theorem strsS_of : ∀ {zs : List Str} {us : List Value}, Vals (zs.map V.str) us → StrsAre us zs
  | [], _, .nil => .nil
  | z :: r, _, .cons ⟨t, e⟩ h => by
    subst e
    exact .cons _ _ (strsS_of h)
theorem strsS_to : ∀ {zs : List Str} {us : List Value}, StrsAre us zs → Vals (zs.map V.str) us
  | _, _, .nil => .nil
  | _, _, .cons y t h => .cons ⟨t, rfl⟩ (strsS_to h)
section
variable {X : Cx}
def rSortS (K : PySem.W.Frag) : List V → Hp → VK → Prop := fun xs H Q => ∃ p zs, xs = [.ref p] ∧ SqL K H p (zs.map V.str) ∧ zs.length < 64 ∧ ∀ l, H l = none → Q (.ref l) (upd H l (.lst ((sortS zs).map V.str)))
theorem call_sorted : CallR X (.builtin "sorted") (rSortS X.K) := by
  intro pins s σ H xs us Q I r h
  obtain ⟨p, zs, rfl, hq, hz, q⟩ := h
  obtain ⟨u, rfl, rx⟩ := vals1 r
  cases rx
  obtain ⟨its, r', pl, hz'⟩ := I.list hq
  have hl := r'.length
  rw [List.length_map] at hl
  refine sorted_strs pl.isList (strsS_of r') (by omega) fun out ss' a1 a2 a3 => ?_
  have e := sortS_of a2 a3
  subst e
  obtain ⟨n, he⟩ := sortedAll_at s.heap its out
  have ln : ((sortS zs).map V.str).length ≤ sizeLine := by
    rw [List.length_map, (sortS_perm zs).length_eq]
    exact Nat.le_of_lt (small1000 (by omega))
  refine ⟨.ref (s.heap.objs.size + 1), _, I.laid (t' := s.toks) (fun b o hb => sortedAll_old hb) (Nat.le_succ _) (show ObjOk X.prog X.w _ _ _ (.lst ((sortS zs).map V.str)) from ⟨ln, out.toList, n, strsS_to a1, ?_⟩), rfl, q _ (I.hok.fresh (Nat.le_succ _))⟩
  exact he
def rInD (K : PySem.W.Frag) (neg : Bool) : R2 := fun x y H Q => ∃ d ds, Dt K H d x ∧ (Dt K H (.tuple ds) y ∨ Dt K H (.list ds) y) ∧ PyData.canLayAll0 ds = true ∧ d.canLay0 = true ∧ d.depth ≤ 60 ∧ Q (.bl (if neg then !(ds.any fun e => PyData.eqv e d) else ds.any fun e => PyData.eqv e d)) H
theorem op_notInD (hu : X.A.units + 64 < cLine) : OpR X (compareOp .NotIn) (rInD X.K true) := by
  intro pins s σ H x y v u Q I rx ry h
  obtain ⟨d, ds, h1, h2, h3, h4, h5, q⟩ := h
  obtain ⟨as, r1⟩ := reads_of I d x v h1 rx
  have hm : min (PyData.depthAll ds) d.depth ≤ 60 := Nat.le_trans (Nat.min_le_right _ _) h5
  rcases h2 with h2 | h2
  · obtain ⟨bs, r2⟩ := reads_of I _ y u h2 ry
    exact SeqAt.notIn_tuple_reads r2 r1 h3 h4 (by omega) ⟨.bl _, H, I, rfl, q⟩
  · obtain ⟨bs, r2⟩ := reads_of I _ y u h2 ry
    exact SeqAt.notIn_list_reads r2 r1 h3 h4 (by omega) ⟨.bl _, H, I, rfl, q⟩
theorem op_notInDK {K : PySem.W.Frag} (hu : X.A.units + 64 < cLine) (h : X.K = K := by rfl) : OpR X (compareOp .NotIn) (rInD K true) := h ▸ op_notInD hu
end
end L2

set_option Elab.async false
set_option linter.all false
set_option maxRecDepth 100000
set_option maxHeartbeats 4000000
namespace L2
open PySem PySem.Spec PyProof.Rows
section
variable {X : Cx} {pins : List (Addr × Obj)} {σ : St} {H : Hp} {s : Shared} {h' : Heap} {a : Addr} {o : HO}
end
section
variable {X : Cx} {C : Addr} {x : Str} {p pos : Pos} {e : Expr} {es : List Expr} {t : TA}
end
section
variable {prog : Program} {w : World} {A : Around} {E : Value → Shared → Prop} {h : Heap} {g : Array GenState} {d : Drawn} {t : Nat} {os : OsState}
  {nm qn : Str} {C N fI : Addr} {bs bm bmB : List Value} {hd : Bool} {sn : List Str} {sub : List Value} {ab : Bool} {col : Option Bool} {dd : Option Addr} {k0 k1 k2 k3 k5 : Option Value} {B nid iid : String} {us : List Value}
end
section
variable {X : Cx} {CX : CXT} {k : Nat} {C f : Addr} {fd : FuncData} {ps : List Str} {sp : Sp} {ds : List Value} {dvs : List V} {E : XK} {x : Str} {p pos : Pos} {e : Expr} {es : List Expr} {t : TA}
end
section
variable {prog : Program} {w : World} {A : Around} {E : Value → Shared → Prop} {h : Heap} {g : Array GenState} {d : Drawn} {t : Nat} {os : OsState}
  {nm qn : Str} {C N fI e ta : Addr} {bs bm bmB : List Value} {hd : Bool} {sn : List Str} {sub : List Value} {ab : Bool} {col : Option Bool} {dd de : Option Addr} {k0 k1 k2 k3 k5 : Option Value} {B nid iid : String} {us : List Value}
end
section
variable {X : Cx} {A0 : Addr} {o e : Expr} {es : List Expr} {ta : TE} {t : TA} {apos pos : Pos}
end
end L2

set_option Elab.async false
set_option linter.all false
set_option maxRecDepth 100000
set_option maxHeartbeats 4000000
namespace L2
open PySem PySem.Spec PyProof.Rows PySem.W Builtin Builtin.ObjectAttr
def exTail : List Value → Bool
  | .ref _ :: r => exTail r
  | l => l == [.type "ValueError", .type "Exception", .type "BaseException", .type "object"]
structure ExcK (K : Frag) (C : Addr) : Prop where
  ga : findIn K (.ref C) "__getattribute__" = some (some (.builtin "BaseException.__getattribute__"))
  gt : findIn K (.ref C) "__getattr__" = some none
  sa : findIn K (.ref C) "__setattr__" = some (some (.builtin "object.__setattr__"))
  be : mroIn K C (.type "BaseException") = some true
  ob : mroIn K C (.type "object") = some true
  hd : hasDictIn K C = true
  tl : (clsIn K C).any (fun cd => exTail cd.mro) = true
  cl : findIn K (.ref C) "__class__" = some (some (.builtin "object.__class__"))
  cg : specialIn K (.builtin "object.__class__") "__get__" = some (some (.builtin "getset_descriptor.__get__"))
  ct : takesIn K (.builtin "object.__class__") = some true
section
variable {prog : Program} {w : World} {A : Around} {E : Value → Shared → Prop} {s : Shared} {K : Frag} {x C : Addr} {ox : Obj} {od : Option Obj} {name : Str}
end
end L2

set_option Elab.async false
set_option linter.all false
set_option maxRecDepth 100000
set_option maxHeartbeats 4000000
namespace L2
open PySem PySem.Spec PyProof.Rows PySem.W Builtin Builtin.ObjectAttr
section
variable {X : Cx} {pins : List (Addr × Obj)} {σ : St} {H : Hp} {s : Shared} {a C : Addr}
end
section
variable {X : Cx} {e o value : Expr} {ta tv : TE} {f : Str} {pos pos' : Pos}
end
end L2

set_option Elab.async false
set_option linter.all false
set_option maxRecDepth 100000
set_option maxHeartbeats 4000000
namespace L2
open PySem PySem.Spec PyProof.Rows PySem.W
abbrev excO (C : Addr) (dd : Option Addr) (t : Addr) (tb : Value) : Obj := { cls := .ref C, dict := dd, data := .fields #[.ref t, tb, .none, .none, .bool false, .none] }
def ExcG (e C : Addr) (dd : Option Addr) : Heap → Prop := fun h => ∃ t tb, h.get? e = some (excO C dd t tb)
def gone (H : Hp) (e C : Addr) (dd : Option Addr) : Hp := upd H e (.ext (ExcG e C dd))
section
variable {M : Model} {A : Around} {E : Value → Shared → Prop} {s : Shared}
end
section
variable {X : Cx} {pins : List (Addr × Obj)} {σ : St} {H : Hp} {s : Shared} {e C : Addr} {dd : Option Addr}
end
section
variable {P : Program} {w : World} {K : PySem.W.Frag} {mg : Str → Option Value} {base : Heap} {N : List Str} {qual : Str} {scope : Scope} {f : Addr} {cd : Value} {A : Around} {outer : List Env} {s : Shared} {H : Hp} {E : XK}
end
end L2

set_option Elab.async false
set_option linter.all false
set_option maxRecDepth 100000
set_option maxHeartbeats 4000000
namespace L2
open PySem PySem.Spec PyProof.Rows PySem.W
section
variable {P : Program} {w : World} {K : PySem.W.Frag} {mg : Str → Option Value} {base : Heap}
end
section
variable {X : Cx} {E : XK} {x : Expr} {te : TE} {pos : Pos}
end
abbrev Cx.held (X : Cx) (q : List (Addr × Obj)) (E : Value → Shared → Prop) : Cx := { X with pn := q, xe := E }
section
variable {X : Cx} {pins : List (Addr × Obj)} {σ : St} {H : Hp} {s : Shared}
end
section
variable {X : Cx} {E : XK} {pos hpos p : Pos} {body suite : List Stmt} {b0 : Stmt} {n x : Str} {C0 : Addr} {tb ts : TS} {i : Nat}
end
end L2

set_option Elab.async false
set_option linter.all false
set_option maxRecDepth 100000
set_option maxHeartbeats 4000000
namespace L2
open PySem PySem.Spec PyProof.Rows PySem.W
section
variable {X : Cx}
end
section
variable {X : Cx} {K : Frag}
theorem call_list_ofK (h : X.K = K := by rfl) : CallR X (.type "list") (fun xs H Q => ∃ p ys, xs = [.ref p] ∧ (SqL K H p ys ∨ SqT K H p ys) ∧ ∀ l, H l = none → Q (.ref l) (upd H l (.lst ys))) := h ▸ call_list_of
end
section
variable {X : Cx} {pins : List (Addr × Obj)} {σ : St} {H : Hp} {s : Shared} {a C : Addr} {fs : List (Str × V)}
end
section
variable {X : Cx} {e : Expr} {ta : TE} {f : Str} {pos : Pos}
end
end L2

set_option Elab.async false
set_option linter.all false
set_option maxRecDepth 100000
set_option maxHeartbeats 4000000
namespace L2
open PySem PySem.Spec PyProof.Rows
section
variable {X : Cx}
end
end L2

set_option Elab.async false
set_option linter.all false
set_option maxRecDepth 100000
set_option maxHeartbeats 4000000
namespace L2
open PySem PySem.Spec PyProof.Rows
section
variable {P : Program} {w : World} {A : Around} {E : Value → Shared → Prop} {v : Shared}
structure Zt (h : Heap) (z ti to i1 i2 l1 l2 : Addr) (f : Value) (k : Nat) : Prop where
  self : IsZip h z ti to f
  ins : IsPair h ti (.ref i1) (.ref i2)
  outs : ∃ a b, IsPair h to a b
  w1 : h.IsTupleIter i1 l1 k
  w2 : h.IsTupleIter i2 l2 k
structure Ztd (z ti to i1 i2 l1 l2 : Addr) : Prop where
  ntt : ti ≠ to
  nii : i1 ≠ i2
  nl1 : l1 ≠ to
  nl2 : l2 ≠ to
end
end L2

set_option Elab.async false
set_option linter.all false
set_option maxRecDepth 100000
set_option maxHeartbeats 4000000
namespace L2
open PySem PySem.Spec PyProof.Rows
section
variable {X : Cx} {pins : List (Addr × Obj)} {σ : St} {H : Hp} {s : Shared}
theorem Inv.freeze {d : Addr} {kvs : List (Key × V)} {o : Obj} (I : Inv X pins σ H s) (hd : H d = some (.dK kvs)) (ho : s.heap.get? d = some o) : Inv X pins σ (upd H d (.frz o (.dK kvs))) s := by
  have nd : ∀ b u, H b = some u → (∀ l, u ≠ .dK l) → b ≠ d := fun b u q n z => by
    rw [z, hd] at q
    exact n kvs (Option.some.inj q).symm
  have hne : ∀ b, H b = none → b ≠ d := fun b q z => by rw [z, hd] at q; cases q
  refine I.un (h' := s.heap) (t' := s.toks) ⟨fun b u e _ _ _ => e, fun b u e _ _ _ => ⟨u.slots, e⟩, fun b u e n _ => by rw [upd_ne (hne b n)]; exact n, fun b u e _ => ⟨u, e⟩, fun b xs q => by rw [upd_ne (nd b _ q fun l z => by cases z)]; exact q, fun b u v q => by rw [upd_ne (nd b _ q fun l z => by cases z)]; exact q, fun b ps q => ⟨#[], by rw [upd_ne (nd b _ q fun l z => by cases z), q]; simp⟩⟩ fun b u g => ?_
  by_cases hb : b = d
  · subst hb
    rw [upd_same] at g
    cases g
    exact ⟨ho, I.hok b _ hd⟩
  · rw [upd_ne hb] at g
    exact (I.hok b u g).stay (fun c v hc q => q) (fun c q => by rw [upd_ne (nd c _ q fun l z => by cases z)]; exact q) fun c ys q => by rw [upd_ne (nd c _ q fun l z => by cases z)]; exact q
end
def Itd (d : Addr) (o : Obj) (kvs : List (Key × V)) : It :=
  ⟨fun i H => H d = some (.frz o (.dK kvs)) ∧ i < kvs.length, fun i H x H' => H' = H ∧ ∃ kv, kvs[i]? = some kv ∧ x = kV kv.1, fun i H => H d = some (.frz o (.dK kvs)) ∧ kvs.length ≤ i⟩
def iDict (tl : TE) : TI := fun σ H R => tl σ H fun x H1 => ∃ d kvs, x = .ref d ∧ H1 d = some (.dK kvs) ∧ ∀ o, R (Itd d o kvs) (upd H1 d (.frz o (.dK kvs)))
theorem turn_dict {P : Program} {w : World} {K : PySem.W.Frag} {tg : Expr} {d it : Addr} {o : Obj} {kvs : List (Key × V)} {vs : List (Key × Value)} {es : Array DictEntry} {ep : Nat} (rel : KV kvs vs)
    (m : o.ExactDict ∧ o.data = .dict es ep ∧ KeysOf (mixKind P w) es ∧ Pairs (mixKind P w) es.toList vs ∧ (vs.map (·.1)).Nodup) : Turn P w K tg (Itd d o kvs) [it] it (fun i h => h.IsKeyIter it d i vs.length ep) where
  mem := by simp
  obj := fun i h st b hb => by
    have e : b = it := by simpa using hb
    subst e
    obtain ⟨u, e, c, q⟩ := st
    exact ⟨u, e, fun v z => by rw [q] at z; cases z⟩
  keep := fun i h h' st k => by
    obtain ⟨u, e, r⟩ := st
    exact ⟨u, k it (by simp) u e, r⟩
  item := by
    intro X hP hw hK hc i pins s σ H E I hf st hg
    subst hP hw hK
    obtain ⟨hd, hi⟩ := hg
    have hl : kvs.length = vs.length := rel.length
    have ga : s.heap.get? d = some o := (I.hok d _ hd).1
    have at' : s.heap.DictAt (mixKind X.prog X.w) d vs ep := ⟨o, es, ga, m⟩
    obtain ⟨f0, f1, f2, f3, f4, f5⟩ := hf it (by simp)
    obtain ⟨kv, hkv⟩ : ∃ kv, kvs[i]? = some kv := ⟨_, List.getElem?_eq_getElem hi⟩
    obtain ⟨qv, hqv⟩ : ∃ qv, vs[i]? = some qv := ⟨_, List.getElem?_eq_getElem (by omega)⟩
    have ek : kv.1 = qv.1 := by
      obtain ⟨y, hy, r⟩ := Paired.at' rel hkv
      rw [hqv] at hy
      cases hy
      exact r.1
    refine wpAny_pyNext_dict_item (k := qv.1) (v := qv.2) st at' hqv fun key h' hk st' sb => ?_
    have I1 : Inv X pins σ H { s with heap := h' } := I.turned (t' := s.toks) (fun b o hb e => (sb.2 b hb).trans e) f0 f1 f3 f4 f5
    obtain ⟨u, e, c, q⟩ := id st'
    exact ⟨key, rfl, go_of (s := { s with heap := h' }) e c q (by decide) ⟨kV kv.1, H, I1, rel_key (by rw [ek]; exact hk), ⟨rfl, kv, hkv, rfl⟩, st', fun b hb => (hf b hb).1⟩⟩
  done := by
    intro X hP hw hK hc i pins s σ H E I hf st hg
    subst hP hw hK
    obtain ⟨hd, hi⟩ := hg
    have hl : kvs.length = vs.length := rel.length
    have ga : s.heap.get? d = some o := (I.hok d _ hd).1
    have at' : s.heap.DictAt (mixKind X.prog X.w) d vs ep := ⟨o, es, ga, m⟩
    obtain ⟨f0, f1, f2, f3, f4, f5⟩ := hf it (by simp)
    exact wpAny_pyNext_dict_end (I.ok.hd hc) st at' (List.getElem?_eq_none (by omega)) fun h' eb => ⟨rfl, I.turned (t' := s.toks) (fun b o hb e => eb b o hb e) f0 f1 f3 f4 f5⟩
  self := fun _ _ _ _ _ st h => wpAny_pyIter_keyiter st h
theorem pi_dict {X : Cx} {tg l : Expr} {tl : TE} (hl : PE X l tl) : PI X tg l (iDict tl) := by
  intro pins s σ H R I h
  refine thn (hl pins s σ H _ I h) fun v s1 ⟨x, H1, I1, r1, q1⟩ => ?_
  obtain ⟨d, kvs, e, hd, q⟩ := q1
  subst e
  cases r1
  obtain ⟨hz, lo, vs, rel, o, es, ep, ga, m⟩ := dk_of I1.hok hd
  have at' : s1.heap.DictAt (mixKind X.prog X.w) d vs ep := ⟨o, es, ga, m⟩
  refine wpAny_pyIter_dict lo at' ?_
  have I2 := I1.freeze hd ga
  refine ⟨s1.heap.objs.size, [s1.heap.objs.size], _, _, _, rfl, I2.kept (t' := s1.toks) fun b o e => Heap.get?_push_of_some _ e, turn_dict rel m, ⟨_, Heap.get?_push_size _ rfl, rfl, rfl⟩, fun b hb => ?_, q o⟩
  have e : b = s1.heap.objs.size := by simpa using hb
  subst e
  exact I2.fpOk (Nat.le_refl _) (I2.hok.fresh (Nat.le_refl _))
theorem comp_dict {d : Addr} {o : Obj} {kvs : List (Key × V)} {fr : List Nat} {tt : TT} {te : TE} {σ : St} {H1 : Hp} {R : Addr → List V → Hp → Prop} (Pv : Nat → List V → Hp → Prop) (hx : kvs.length < sizeLine) (h0 : Pv 0 [] H1) (hl : ∀ i ys H, i ≤ kvs.length → Pv i ys H → H d = some (.frz o (.dK kvs)) ∧ ys.length ≤ i)
    (hs : ∀ (i : Nat) (kv : Key × V) (ys : List V) (H : Hp) (N : List V → Hp → Prop), kvs[i]? = some kv → Pv i ys H → (∀ ys' H', Pv (i + 1) ys' H' → N ys' H') →
      tt (some (kV kv.1) :: slotsOf fr σ) H fun b H4 => if b = true then te (some (kV kv.1) :: slotsOf fr σ) H4 (fun y H5 => N (ys ++ [y]) H5) else N ys H4)
    (hd : ∀ ys H, Pv kvs.length ys H → ∀ l, H l = none → R l ys H) : CompGoal (Itd d o kvs) fr tt te σ H1 R := by
  refine ⟨fun i m ys H => m = kvs.length - i ∧ i ≤ kvs.length ∧ Pv i ys H, ⟨kvs.length, by simp, Nat.zero_le _, h0⟩, ?_⟩
  rintro i m ys H ⟨rfl, hi, p⟩
  obtain ⟨q, hy⟩ := hl i ys H hi p
  by_cases hlt : i < kvs.length
  · refine .inr ⟨⟨q, hlt⟩, by omega, ?_⟩
    rintro v H3 ⟨rfl, kv, hkv, rfl⟩
    exact hs i kv ys H3 (fun ys' H' => ∃ m', m' < kvs.length - i ∧ m' = kvs.length - (i + 1) ∧ i + 1 ≤ kvs.length ∧ Pv (i + 1) ys' H') hkv p fun ys' H' p' => ⟨_, by omega, rfl, hlt, p'⟩
  · have e : i = kvs.length := by omega
    subst e
    exact .inl ⟨⟨q, Nat.le_refl _⟩, by omega, hd ys H p⟩
section
variable {X : Cx}
theorem call_str1 : CallR X (.type "str") (fun xs H Q => ∃ i : Int, xs = [.int i] ∧ i.natAbs.log2 < 1920 ∧ Q (.str (Str.ofString (toString i))) H) := by
  intro pins s σ H xs us Q I r h
  obtain ⟨i, rfl, hl, q⟩ := h
  obtain ⟨u, rfl, t, rfl⟩ := vals1 r
  exact P.str_of_int hl ⟨.str (Str.ofString (toString i)), H, I.tok _, ⟨_, rfl⟩, q⟩
end
section
variable {X : Cx} {pins : List (Addr × Obj)} {σ : St} {H : Hp} {s : Shared} {h' : Heap}
theorem Inv.turnedL {t' : Nat} {ch : List Addr} {p : Addr} {xs : List V} {us : List Value} (I : Inv X pins σ H s) (k : ∀ b o, b ∉ ch → s.heap.get? b = some o → h'.get? b = some o) (fc : ∀ b ∈ ch, FpOk X pins H b)
    (hp : s.heap.objs.size ≤ p) (ht : IsTup h' p us.toArray) (r : Vals xs us) (hz : xs.length ≤ sizeLine) : Inv X pins σ (upd H p (.tup xs)) { s with heap := h', toks := t' } := by
  have hn := I.hok.fresh hp
  have fp := I.fpOk hp hn
  have nH : ∀ b u, H b = some u → b ∉ ch ∧ b ≠ p := fun b u g => ⟨(fun z => by rw [(fc b z).1] at g; cases g), fun z => by rw [z, hn] at g; cases g⟩
  refine I.step (g' := s.gens) (d' := s.drawn) (ch := p :: ch) (fun b hb => ?_) (fun b o _ _ hc g _ => k b o (fun z => hc (List.mem_cons_of_mem _ z)) g) (fun b o _ _ hc g _ => ⟨o.slots, k b o (fun z => hc (List.mem_cons_of_mem _ z)) g⟩)
    (fun b o hc g n => by rw [upd_ne fun z => hc (by rw [z]; exact List.mem_cons_self)]; exact n) (fun b o hc g => ⟨o, k b o (fun z => hc (List.mem_cons_of_mem _ z)) g⟩)
    (fun b ys g => by rw [upd_ne (nH b _ g).2]; exact g) (fun b o u g => by rw [upd_ne (nH b _ g).2]; exact g) (fun b ps g => ⟨#[], by rw [upd_ne (nH b _ g).2, g]; simp⟩) (fun m hm => ?_) (fun b u g => ?_) I.bare
  · rcases List.mem_cons.mp hb with rfl | z
    · exact ⟨fp.2.2.2.1, fp.2.1, fp.2.2.2.2.1, fp.2.2.2.2.2⟩
    · have f := fc b z
      exact ⟨f.2.2.2.1, f.2.1, f.2.2.2.2.1, f.2.2.2.2.2⟩
  · obtain ⟨o, es, ep, ho, r'⟩ := hm
    exact ⟨o, es, ep, k _ o (fun z => (fc _ z).2.1 rfl) ho, r'⟩
  · by_cases hb : b = p
    · subst hb
      rw [upd_same] at g
      cases g
      exact ⟨hz, us, r, ht⟩
    · rw [upd_ne hb] at g
      refine (I.hok b u g).stay (fun c v hc q => ?_) (fun c q => ?_) fun c ys q => ?_
      · rcases hc with z | z
        · rw [z]
          rw [z] at q
          exact k b v (nH b _ g).1 q
        · exact k c v (nH c _ z).1 q
      · rw [upd_ne (nH c _ q).2]
        exact q
      · rw [upd_ne (nH c _ q).2]
        exact q
end
section
variable {P : Program} {w : World} {A : Around} {E : Value → Shared → Prop} {v : Shared}
end
end L2

set_option Elab.async false
set_option linter.all false
set_option maxRecDepth 100000
set_option maxHeartbeats 4000000
namespace Tb
open PySem PySem.SetTable
def S : Nat → Nat
  | 0 => 0
  | n + 1 => 5 * S n + 1
def F : Nat → Nat → Nat
  | 0, i => i
  | n + 1, i => 5 * F n i + 1
theorem F_eq : ∀ n i, F n i = i + S n * (4 * i + 1)
  | 0, i => by simp [F, S]
  | n + 1, i => by
    show 5 * F n i + 1 = i + (5 * S n + 1) * (4 * i + 1)
    rw [F_eq n i, Nat.add_mul, Nat.mul_assoc, Nat.mul_add]
    generalize S n * (4 * i + 1) = z
    omega
theorem F_add (m : Nat) : ∀ n i, F (m + n) i = F m (F n i) := by
  intro n i
  induction m with
  | zero => simp [F]
  | succ m ih =>
    rw [show m + 1 + n = (m + n) + 1 by omega]
    show 5 * F (m + n) i + 1 = 5 * F m (F n i) + 1
    rw [ih]
theorem S_dbl (n : Nat) : S (n + n) = 2 * S n * (2 * S n + 1) := by
  have h := F_add n n 0
  rw [F_eq, F_eq n (F n 0), F_eq n 0] at h
  simp only [Nat.mul_zero, Nat.zero_add, Nat.mul_one] at h
  rw [h]
  generalize S n = x
  rw [Nat.mul_add, Nat.mul_add, show x * (4 * x) = 2 * x * (2 * x) by rw [Nat.mul_left_comm, show (4 : Nat) = 2 * 2 from rfl, Nat.mul_assoc, Nat.mul_assoc, Nat.mul_left_comm x 2 x]]
  omega
theorem S_pow : ∀ k, ∃ c, S (2 ^ k) = 2 ^ k * (2 * c + 1)
  | 0 => ⟨0, rfl⟩
  | k + 1 => by
    obtain ⟨c, hc⟩ := S_pow k
    refine ⟨2 * c * S (2 ^ k) + c + S (2 ^ k), ?_⟩
    rw [show 2 ^ (k + 1) = 2 ^ k + 2 ^ k by rw [Nat.pow_succ]; omega, S_dbl]
    generalize hs : S (2 ^ k) = s at hc
    have e : 2 * s * (2 * s + 1) = 2 * (2 ^ k * (2 * c + 1)) * (2 * s + 1) := by rw [← hc]
    rw [e, ← Nat.two_mul, ← Nat.mul_assoc, Nat.mul_assoc (2 * 2 ^ k)]
    congr 1
    rw [Nat.add_mul, Nat.mul_add, Nat.mul_add, Nat.mul_add]
    have : 2 * c * (2 * s) = 2 * (2 * c * s) := by rw [Nat.mul_left_comm]
    omega
theorem cover : ∀ (k i j : Nat), ∃ n, n < 2 ^ k ∧ F n i % 2 ^ k = j % 2 ^ k
  | 0, i, j => ⟨0, by decide, by simp [Nat.mod_one]⟩
  | k + 1, i, j => by
    obtain ⟨n, hn, e⟩ := cover k i j
    have hm : 0 < 2 ^ k := Nat.two_pow_pos k
    rw [Nat.pow_succ]
    by_cases c : F n i / 2 ^ k % 2 = j / 2 ^ k % 2
    · exact ⟨n, by omega, by rw [Nat.mod_mul, Nat.mod_mul, e, c]⟩
    · obtain ⟨z, hz⟩ := S_pow k
      refine ⟨2 ^ k + n, by omega, ?_⟩
      have e2 : F (2 ^ k + n) i = F n i + 2 ^ k * (2 * (z * (4 * F n i + 1) + 2 * F n i) + 1) := by
        rw [F_add, F_eq (2 ^ k), hz, Nat.mul_assoc]
        congr 2
        rw [Nat.add_mul, Nat.one_mul, Nat.mul_assoc]
        generalize z * (4 * F n i + 1) = w
        omega
      rw [e2, Nat.mod_mul, Nat.mod_mul, Nat.add_mul_mod_self_left, Nat.add_mul_div_left _ _ hm, e]
      congr 2
      generalize z * (4 * F n i + 1) + 2 * F n i = y
      omega
def adv (mask : Nat) (p : Probe) : Probe :=
  if p.more > 0 then { p with j := p.j + 1, more := p.more - 1 } else
  { p with j := (leap mask p.i p.perturb).1, more := runEnd mask (leap mask p.i p.perturb).1 - (leap mask p.i p.perturb).1, i := (leap mask p.i p.perturb).1, perturb := (leap mask p.i p.perturb).2 }
abbrev stt (mask i q : Nat) : Probe := { j := i, more := runEnd mask i - i, i := i, perturb := q, dummy := none }
def pr (mask : Nat) (h : Int) : Nat → Probe
  | 0 => stt mask (bits h % (mask + 1)) (bits h)
  | d + 1 => adv mask (pr mask h d)
theorem start_eq (t : SetTable) (h : Int) : t.probeStart h = pr t.mask h 0 := rfl
def ps (mask : Nat) (h : Int) (d : Nat) : Nat := (pr mask h d).j
def lp (mask : Nat) (h : Int) : Nat → Nat × Nat
  | 0 => (bits h % (mask + 1), bits h)
  | n + 1 => leap mask (lp mask h n).1 (lp mask h n).2
def run (mask i : Nat) : Nat := runEnd mask i - i
def Tn (mask : Nat) (h : Int) : Nat → Nat
  | 0 => 0
  | n + 1 => Tn mask h n + run mask (lp mask h n).1 + 1
theorem run_le (mask i : Nat) : run mask i ≤ 9 := by
  unfold run runEnd
  split <;> omega
theorem Tn_le (mask : Nat) (h : Int) : ∀ n, Tn mask h n ≤ 10 * n
  | 0 => Nat.le_refl _
  | n + 1 => by
    have := Tn_le mask h n
    have := run_le mask (lp mask h n).1
    show Tn mask h n + run mask (lp mask h n).1 + 1 ≤ _
    omega
theorem pr_leap (mask : Nat) (h : Int) : ∀ n, pr mask h (Tn mask h n) = stt mask (lp mask h n).1 (lp mask h n).2 ∧ ∀ e, e ≤ run mask (lp mask h n).1 → pr mask h (Tn mask h n + e) = { j := (lp mask h n).1 + e, more := run mask (lp mask h n).1 - e, i := (lp mask h n).1, perturb := (lp mask h n).2, dummy := none } := by
  have run_of : ∀ n, pr mask h (Tn mask h n) = stt mask (lp mask h n).1 (lp mask h n).2 → ∀ e, e ≤ run mask (lp mask h n).1 → pr mask h (Tn mask h n + e) = { j := (lp mask h n).1 + e, more := run mask (lp mask h n).1 - e, i := (lp mask h n).1, perturb := (lp mask h n).2, dummy := none } := by
    intro n h0 e
    induction e with
    | zero => intro _; rw [Nat.add_zero, h0]; rfl
    | succ e ih =>
      intro he
      rw [← Nat.add_assoc]
      show adv mask (pr mask h (Tn mask h n + e)) = _
      rw [ih (by omega)]
      unfold adv
      rw [if_pos (show run mask (lp mask h n).1 - e > 0 by omega)]
      show Probe.mk _ _ _ _ _ = Probe.mk _ _ _ _ _
      congr 1
  intro n
  induction n with
  | zero => exact ⟨rfl, run_of 0 rfl⟩
  | succ n ih =>
    have h1 : pr mask h (Tn mask h (n + 1)) = stt mask (lp mask h (n + 1)).1 (lp mask h (n + 1)).2 := by
      show adv mask (pr mask h (Tn mask h n + run mask (lp mask h n).1)) = _
      rw [ih.2 _ (Nat.le_refl _)]
      unfold adv
      rw [if_neg (by simp)]
      rfl
    exact ⟨h1, run_of _ h1⟩
theorem ps_run {mask : Nat} {h : Int} {n e : Nat} (he : e ≤ run mask (lp mask h n).1) : ps mask h (Tn mask h n + e) = (lp mask h n).1 + e := by
  unfold ps
  rw [(pr_leap mask h n).2 e he]
theorem lp_lt (mask : Nat) (h : Int) : ∀ n, (lp mask h n).1 < mask + 1
  | 0 => Nat.mod_lt _ (Nat.succ_pos _)
  | n + 1 => Nat.mod_lt _ (Nat.succ_pos _)
theorem lp_q (mask : Nat) (h : Int) : ∀ n, (lp mask h n).2 = bits h / 32 ^ n
  | 0 => by simp [lp]
  | n + 1 => by
    show (lp mask h n).2 / 32 = _
    rw [lp_q mask h n, Nat.div_div_eq_div_mul, Nat.pow_succ]
theorem bits_lt (h : Int) : bits h < 2 ^ 64 := by
  unfold bits
  omega
theorem lp_late {mask k : Nat} (hk : mask + 1 = 2 ^ k) (h : Int) : ∀ n, (lp mask h (13 + n)).1 = F n (lp mask h 13).1 % 2 ^ k
  | 0 => by
    have := lp_lt mask h 13
    show (lp mask h 13).1 = (lp mask h 13).1 % 2 ^ k
    rw [Nat.mod_eq_of_lt (by omega)]
  | n + 1 => by
    show ((lp mask h (13 + n)).1 * 5 + 1 + (lp mask h (13 + n)).2 / 32) % (mask + 1) = (5 * F n (lp mask h 13).1 + 1) % 2 ^ k
    have q0 : (lp mask h (13 + n)).2 / 32 = 0 := by
      rw [lp_q]
      have h1 := bits_lt h
      have h2 : 32 ^ 13 ≤ 32 ^ (13 + n) := Nat.pow_le_pow_right (by decide) (by omega)
      rw [Nat.div_eq_of_lt (show bits h < 32 ^ (13 + n) from Nat.lt_of_lt_of_le (Nat.lt_trans h1 (by decide)) h2)]
    rw [q0, lp_late hk h n, hk, Nat.add_zero, Nat.add_mod, Nat.mul_mod, Nat.mod_mod, ← Nat.mul_mod, ← Nat.add_mod, Nat.mul_comm]
theorem hits {mask k : Nat} (hk : mask + 1 = 2 ^ k) (h : Int) {j : Nat} (hj : j ≤ mask) : ∃ n, n ≤ 13 + mask ∧ (lp mask h n).1 = j ∧ ps mask h (Tn mask h n) = j := by
  obtain ⟨n, hn, e⟩ := cover k (lp mask h 13).1 j
  have e2 := lp_late hk h n
  rw [e, Nat.mod_eq_of_lt (by omega)] at e2
  refine ⟨13 + n, by omega, e2, ?_⟩
  have := ps_run (mask := mask) (h := h) (n := 13 + n) (e := 0) (Nat.zero_le _)
  rw [Nat.add_zero, Nat.add_zero] at this
  rw [this, e2]
theorem ps_le {mask : Nat} {h : Int} {d : Nat} : ps mask h d ≤ mask := by
  have key : ∀ d, (pr mask h d).j + (pr mask h d).more ≤ mask := by
    have base : ∀ i q, i < mask + 1 → (stt mask i q).j + (stt mask i q).more ≤ mask := fun i q hi => by
      show i + (runEnd mask i - i) ≤ mask
      unfold runEnd
      split <;> omega
    intro d
    induction d with
    | zero => exact base _ _ (Nat.mod_lt _ (Nat.succ_pos _))
    | succ d ih =>
      show (adv mask (pr mask h d)).j + (adv mask (pr mask h d)).more ≤ mask
      unfold adv
      split
      · show (pr mask h d).j + 1 + ((pr mask h d).more - 1) ≤ mask
        omega
      · exact base _ 0 (Nat.mod_lt _ (Nat.succ_pos _))
  have := key d
  unfold ps
  omega
theorem least {p : Nat → Prop} : ∀ {n}, p n → ∃ m, m ≤ n ∧ p m ∧ ∀ e, e < m → ¬ p e := by
  intro n
  induction n using Nat.strongRecOn with
  | ind n ih =>
    intro hn
    by_cases c : ∃ e, e < n ∧ p e
    · obtain ⟨e, he, pe⟩ := c
      obtain ⟨m, h1, h2, h3⟩ := ih e he pe
      exact ⟨m, by omega, h2, h3⟩
    · exact ⟨n, Nat.le_refl _, hn, fun e he pe => c ⟨e, he, pe⟩⟩
def Rise (xs : Array Nat) : Prop := ∀ i k, i < k → k < xs.size → xs.getD i 0 < xs.getD k 0
theorem getD_any {xs : Array Nat} {i a b : Nat} (h : i < xs.size) : xs.getD i a = xs.getD i b := by
  simp [Array.getD, h]
theorem getD_some {xs : Array Nat} {i j : Nat} : xs[i]? = some j ↔ i < xs.size ∧ xs.getD i 0 = j := by
  constructor
  · intro e
    obtain ⟨h, e⟩ := Array.getElem?_eq_some_iff.mp e
    exact ⟨h, by simp [Array.getD, h, e]⟩
  · rintro ⟨h, e⟩
    rw [Array.getElem?_eq_getElem h]
    simpa [Array.getD, h] using e
theorem below_go {xs : Array Nat} (hr : Rise xs) (j : Nat) : ∀ (f lo hi : Nat), lo ≤ hi → hi ≤ xs.size → hi - lo ≤ f → (∀ i, i < lo → xs.getD i 0 < j) → (∀ i, hi ≤ i → i < xs.size → j ≤ xs.getD i 0) →
    below.go xs j f lo hi ≤ xs.size ∧ (∀ i, i < below.go xs j f lo hi → xs.getD i 0 < j) ∧ ∀ i, below.go xs j f lo hi ≤ i → i < xs.size → j ≤ xs.getD i 0
  | 0, lo, hi, h1, h2, h3, h4, h5 => by
    show lo ≤ xs.size ∧ (∀ i, i < lo → xs.getD i 0 < j) ∧ ∀ i, lo ≤ i → i < xs.size → j ≤ xs.getD i 0
    exact ⟨by omega, h4, fun i a b => h5 i (by omega) b⟩
  | f + 1, lo, hi, h1, h2, h3, h4, h5 => by
    unfold below.go
    by_cases c : lo < hi
    · simp only [if_pos c]
      have hm : (lo + hi) / 2 < xs.size := by omega
      rw [getD_any (b := 0) hm]
      by_cases d : xs.getD ((lo + hi) / 2) 0 < j
      · simp only [if_pos d]
        refine below_go hr j f _ _ (by omega) h2 (by omega) (fun i hi' => ?_) h5
        by_cases e : i = (lo + hi) / 2
        · rw [e]; exact d
        · exact Nat.lt_trans (hr i _ (by omega) hm) d
      · simp only [if_neg d]
        refine below_go hr j f _ _ (by omega) (by omega) (by omega) h4 fun i a b => ?_
        by_cases e : i = (lo + hi) / 2
        · rw [e]; omega
        · have := hr ((lo + hi) / 2) i (by omega) b
          omega
    · simp only [if_neg c]
      exact ⟨by omega, h4, fun i a b => h5 i (by omega) b⟩
theorem below_spec {xs : Array Nat} (hr : Rise xs) (j : Nat) : below xs j ≤ xs.size ∧ (∀ i, i < below xs j → xs.getD i 0 < j) ∧ ∀ i, below xs j ≤ i → i < xs.size → j ≤ xs.getD i 0 :=
  below_go hr j xs.size 0 xs.size (Nat.zero_le _) (Nat.le_refl _) (by omega) (fun i h => absurd h (Nat.not_lt_zero _)) fun i a b => by omega
theorem below_at {xs : Array Nat} (hr : Rise xs) {i j : Nat} (e : xs[i]? = some j) : below xs j = i := by
  obtain ⟨h1, h2, h3⟩ := below_spec hr j
  obtain ⟨hi, e⟩ := getD_some.mp e
  rcases Nat.lt_trichotomy (below xs j) i with c | c | c
  · have := h3 _ (Nat.le_refl _) (by omega)
    have := hr _ _ c hi
    omega
  · exact c
  · have := h2 i c
    omega
theorem slot_live {t : SetTable} (hr : Rise t.place) {i j : Nat} (e : t.place[i]? = some j) : t.slot j = .live i := by
  unfold SetTable.slot
  rw [below_at hr e]
  simp [e]
theorem slot_none {t : SetTable} (hd : t.dummies = #[]) {j : Nat} (e : ∀ i : Nat, t.place[i]? ≠ some j) : t.slot j = .empty := by
  unfold SetTable.slot
  have h1 : ¬ (t.place[below t.place j]? == some j) = true := fun h => e _ (eq_of_beq h)
  rw [if_neg h1, hd]
  rw [if_neg (by simp [has])]
theorem free_place {xs : Array Nat} {mask : Nat} (hr : Rise xs) (hs : xs.size ≤ mask) : ∃ j : Nat, j ≤ mask ∧ ∀ i : Nat, xs[i]? ≠ some j := by
  by_cases c : ∃ j : Nat, j ≤ mask ∧ ∀ i : Nat, xs[i]? ≠ some j
  · exact c
  · exfalso
    have all : ∀ j : Nat, j ≤ mask → ∃ i : Nat, xs[i]? = some j := fun j hj => Classical.byContradiction fun n => c ⟨j, hj, fun i e => n ⟨i, e⟩⟩
    have key : ∀ m : Nat, m ≤ mask → xs[m]? = some m := by
      intro m
      induction m using Nat.strongRecOn with
      | ind m ih =>
        intro hm
        obtain ⟨i, e⟩ := all m hm
        rcases Nat.lt_trichotomy i m with q | q | q
        · have := ih i q (by omega)
          rw [this] at e
          cases e
          omega
        · rw [← q]; rw [q] at e ⊢; exact e
        · obtain ⟨hi, ei⟩ := getD_some.mp e
          have h1 := hr m i q hi
          have h2 : m ≤ xs.getD m 0 := by
            cases m with
            | zero => exact Nat.zero_le _
            | succ m =>
              obtain ⟨_, e3⟩ := getD_some.mp (ih m (by omega) (by omega))
              have := hr m (m + 1) (by omega) (by omega)
              omega
          omega
    obtain ⟨h, _⟩ := getD_some.mp (key mask (Nat.le_refl _))
    omega
end Tb

set_option Elab.async false
set_option linter.all false
set_option maxRecDepth 100000
set_option maxHeartbeats 4000000
namespace Tb
open PySem PySem.SetTable
structure Tab (t : SetTable) (hs : List Int) : Prop where
  pow : ∃ k, t.mask + 1 = 2 ^ k
  big : 7 ≤ t.mask
  dum : t.dummies = #[]
  rise : Rise t.place
  sz : t.place.size = hs.length
  few : hs.length ≤ t.mask
  le : ∀ i j : Nat, t.place[i]? = some j → j ≤ t.mask
  reach : ∀ (i : Nat) (h : Int), hs[i]? = some h → ∃ d, t.place[i]? = some (ps t.mask h d) ∧ ∀ e, e < d → ∃ i' : Nat, t.place[i']? = some (ps t.mask h e)
theorem Tab.fits {t : SetTable} {hs : List Int} (T : Tab t hs) : t.fits hs.length = true := by
  unfold SetTable.fits SetTable.fill
  have h1 := T.sz
  have h2 := T.few
  rw [T.dum, h1]
  simp [h2]
theorem Tab.way {t : SetTable} {hs : List Int} (T : Tab t hs) : t.gaveWay = false := by
  obtain ⟨k, hk⟩ := T.pow
  have := T.big
  unfold SetTable.gaveWay
  cases k with
  | zero => rw [Nat.pow_zero] at hk; omega
  | succ k => rw [Nat.pow_succ] at hk; simp; omega
theorem Tab.fresh (finger moves : Nat) (led : Bool) : Tab (.fresh finger moves led) [] where
  pow := ⟨3, rfl⟩
  big := Nat.le_refl 7
  dum := rfl
  rise := fun i k _ h => absurd h (Nat.not_lt_zero _)
  sz := rfl
  few := Nat.zero_le _
  le := fun i j e => by simp [SetTable.fresh] at e
  reach := fun i h e => by simp at e
structure Free (t : SetTable) (h : Int) (D : Nat) : Prop where
  lt : D < 10 * turns t.mask
  no : ∀ i : Nat, t.place[i]? ≠ some (ps t.mask h D)
  ahead : ∀ e, e < D → ∃ i : Nat, t.place[i]? = some (ps t.mask h e)
theorem Tab.free {t : SetTable} {hs : List Int} (T : Tab t hs) (h : Int) : ∃ D, Free t h D := by
  obtain ⟨k, hk⟩ := T.pow
  obtain ⟨j, hj, hn⟩ := free_place T.rise (show t.place.size ≤ t.mask by rw [T.sz]; exact T.few)
  obtain ⟨n, hn1, _, e⟩ := hits hk h hj
  obtain ⟨D, h1, h2, h3⟩ := least (p := fun d => ∀ i : Nat, t.place[i]? ≠ some (ps t.mask h d)) (n := Tn t.mask h n) (by rw [e]; exact hn)
  have := Tn_le t.mask h n
  refine ⟨D, by unfold turns; omega, h2, fun e he => Classical.byContradiction fun q => h3 e he fun i z => q ⟨i, z⟩⟩
theorem pr_dummy (mask : Nat) (h : Int) : ∀ d, (pr mask h d).dummy = none
  | 0 => rfl
  | d + 1 => by
    show (adv mask (pr mask h d)).dummy = none
    unfold adv
    split <;> exact pr_dummy mask h d
theorem Tab.live {t : SetTable} {hs : List Int} (T : Tab t hs) {i j : Nat} (e : t.place[i]? = some j) : ∃ h, hs[i]? = some h := by
  obtain ⟨hi, _⟩ := getD_some.mp e
  rw [T.sz] at hi
  exact ⟨_, List.getElem?_eq_getElem hi⟩
theorem probe_go {t : SetTable} {hs : List Int} (T : Tab t hs) {h : Int} {D : Nat} (fr : Free t h D) {hashAt : Nat → Int} (ha : ∀ (i : Nat) (g : Int), hs[i]? = some g → hashAt i = g) : ∀ (f d : Nat), d ≤ D → D - d < f →
    (probe.go t hashAt h f (pr t.mask h d) = some (.empty (ps t.mask h D) none) ∧ ∀ e, d ≤ e → e < D → ∀ i : Nat, t.place[i]? = some (ps t.mask h e) → hs[i]? ≠ some h) ∨
    ∃ e i, d ≤ e ∧ e < D ∧ t.place[i]? = some (ps t.mask h e) ∧ hs[i]? = some h ∧ probe.go t hashAt h f (pr t.mask h d) = some (.candidate (ps t.mask h e) i (pr t.mask h (e + 1))) ∧ ∀ e', d ≤ e' → e' < e → ∀ i' : Nat, t.place[i']? = some (ps t.mask h e') → hs[i']? ≠ some h
  | 0, d, _, hf => absurd hf (Nat.not_lt_zero _)
  | f + 1, d, hd, hf => by
    unfold probe.go
    by_cases c : d = D
    · subst c
      have e : t.slot (pr t.mask h d).j = .empty := slot_none T.dum fr.no
      rw [e]
      refine .inl ⟨?_, fun e a b => by omega⟩
      show some (Met.empty (ps t.mask h d) (pr t.mask h d).dummy) = _
      rw [pr_dummy]
    · obtain ⟨i, hi⟩ := fr.ahead d (by omega)
      have e : t.slot (pr t.mask h d).j = .live i := slot_live T.rise hi
      rw [e]
      obtain ⟨g, hg⟩ := T.live hi
      have hu : ∀ i' : Nat, t.place[i']? = some (ps t.mask h d) → i' = i := fun i' q => by rw [← below_at T.rise q, ← below_at T.rise hi]
      show ((if (hashAt i == h) = true then _ else _) = _ ∧ _) ∨ _
      by_cases c2 : hashAt i = h
      · refine .inr ⟨d, i, Nat.le_refl _, by omega, hi, ?_, ?_, fun e' a b => by omega⟩
        · rw [ha i g hg] at c2
          rw [hg, c2]
        · show (if (hashAt i == h) = true then some (Met.candidate (ps t.mask h d) i (t.advance (pr t.mask h d))) else probe.go t hashAt h f (t.advance (pr t.mask h d))) = _
          rw [if_pos (by rw [c2]; exact BEq.rfl)]
          rfl
      · have no : ∀ i' : Nat, t.place[i']? = some (ps t.mask h d) → hs[i']? ≠ some h := fun i' q z => by
          rw [hu i' q] at z
          exact c2 (ha i h z)
        have ih := probe_go T fr ha f (d + 1) (by omega) (by omega)
        have eq : (if (hashAt i == h) = true then some (Met.candidate (ps t.mask h d) i (t.advance (pr t.mask h d))) else probe.go t hashAt h f (t.advance (pr t.mask h d))) = probe.go t hashAt h f (pr t.mask h (d + 1)) := by
          rw [if_neg (by simpa using c2)]
          rfl
        rcases ih with ⟨h1, h2⟩ | ⟨e, i2, h1, h2, h3, h4, h5, h6⟩
        · refine .inl ⟨eq.trans h1, fun e a b i' q => ?_⟩
          by_cases z : e = d
          · rw [z] at q; exact no i' q
          · exact h2 e (by omega) b i' q
        · refine .inr ⟨e, i2, by omega, h2, h3, h4, eq.trans h5, fun e' a b i' q => ?_⟩
          by_cases z : e' = d
          · rw [z] at q; exact no i' q
          · exact h6 e' (by omega) b i' q
def insL {α : Type} (l : List α) (p : Nat) (x : α) : List α := l.take p ++ x :: l.drop p
theorem insL_get {α : Type} (l : List α) {p : Nat} (x : α) (hp : p ≤ l.length) (i : Nat) : (insL l p x)[i]? = if i < p then l[i]? else if i = p then some x else l[i - 1]? := by
  unfold insL
  by_cases c : i < p
  · rw [if_pos c, List.getElem?_append_left (by rw [List.length_take]; omega), List.getElem?_take_of_lt c]
  · rw [if_neg c, List.getElem?_append_right (by rw [List.length_take]; omega), List.length_take, Nat.min_eq_left hp]
    by_cases c2 : i = p
    · rw [if_pos c2, c2, Nat.sub_self]; rfl
    · rw [if_neg c2, show i - p = (i - p - 1) + 1 by omega, List.getElem?_cons_succ, List.getElem?_drop]
      congr 1
      omega
theorem insL_length {α : Type} (l : List α) {p : Nat} (x : α) (hp : p ≤ l.length) : (insL l p x).length = l.length + 1 := by
  unfold insL
  rw [List.length_append, List.length_cons, List.length_take, List.length_drop]
  omega
theorem insL_perm {α : Type} (l : List α) (p : Nat) (x : α) : (insL l p x).Perm (x :: l) := by
  unfold insL
  refine List.perm_middle.trans ?_
  rw [List.take_append_drop]
theorem insL_map {α β : Type} (f : α → β) (l : List α) (p : Nat) (x : α) : (insL l p x).map f = insL (l.map f) p (f x) := by
  unfold insL
  simp
theorem insertAt_toList {α : Type} (xs : Array α) (p : Nat) (x : α) : (insertAt xs p x).toList = insL xs.toList p x := by
  unfold insertAt insL
  simp [List.take_of_length_le]
theorem Rise.of_get {xs : Array Nat} (h : ∀ i k a b : Nat, i < k → xs[i]? = some a → xs[k]? = some b → a < b) : Rise xs := fun i k hik hk =>
  h i k _ _ hik (getD_some.mpr ⟨by omega, rfl⟩) (getD_some.mpr ⟨hk, rfl⟩)
theorem Rise.get {xs : Array Nat} (h : Rise xs) {i k a b : Nat} (hik : i < k) (ha : xs[i]? = some a) (hb : xs[k]? = some b) : a < b := by
  obtain ⟨h1, e1⟩ := getD_some.mp ha
  obtain ⟨h2, e2⟩ := getD_some.mp hb
  have := h i k hik h2
  omega
theorem put_place {t : SetTable} (hr : Rise t.place) (j i : Nat) : (t.put j).1.place[i]? = if i < below t.place j then t.place[i]? else if i = below t.place j then some j else t.place[i - 1]? := by
  show (insertAt t.place (below t.place j) j)[i]? = _
  rw [← Array.getElem?_toList, insertAt_toList, insL_get _ _ (by rw [Array.length_toList]; exact (below_spec hr j).1)]
  simp only [Array.getElem?_toList]
theorem put_has {t : SetTable} (hr : Rise t.place) {j : Nat} {i v : Nat} (e : t.place[i]? = some v) : ∃ i' : Nat, (t.put j).1.place[i']? = some v := by
  by_cases c : i < below t.place j
  · exact ⟨i, by rw [put_place hr, if_pos c, e]⟩
  · exact ⟨i + 1, by rw [put_place hr, if_neg (by omega), if_neg (by omega), Nat.add_sub_cancel, e]⟩
theorem Tab.put {t : SetTable} {hs : List Int} (T : Tab t hs) {h : Int} {D : Nat} (fr : Free t h D) (room : hs.length + 1 ≤ t.mask) : Tab (t.put (ps t.mask h D)).1 (insL hs (t.put (ps t.mask h D)).2 h) := by
  have hb := below_spec T.rise (ps t.mask h D)
  have hp : (t.put (ps t.mask h D)).2 = below t.place (ps t.mask h D) := rfl
  have hp1 : below t.place (ps t.mask h D) ≤ hs.length := by rw [← T.sz]; exact hb.1
  rw [hp]
  have pl := fun i => put_place T.rise (ps t.mask h D) i
  have hl := insL_get hs h hp1
  have at_ : (t.put (ps t.mask h D)).1.place[below t.place (ps t.mask h D)]? = some (ps t.mask h D) := by rw [pl, if_neg (Nat.lt_irrefl _), if_pos rfl]
  have lo : ∀ i a : Nat, i < below t.place (ps t.mask h D) → t.place[i]? = some a → a < ps t.mask h D := fun i a c e => by
    obtain ⟨_, e⟩ := getD_some.mp e
    have := hb.2.1 i c
    omega
  have hi : ∀ i a : Nat, below t.place (ps t.mask h D) ≤ i → t.place[i]? = some a → ps t.mask h D < a := fun i a c e => by
    obtain ⟨l, e'⟩ := getD_some.mp e
    have := hb.2.2 i c l
    have ne : a ≠ ps t.mask h D := fun z => fr.no i (by rw [e, z])
    omega
  refine ⟨T.pow, T.big, ?_, ?_, ?_, ?_, fun i j e => ?_, fun i g e => ?_⟩
  · show (if has t.dummies (ps t.mask h D) = true then _ else t.dummies) = _
    rw [T.dum]
    simp [has]
  · refine Rise.of_get fun i k a b hik ha hb' => ?_
    rw [pl] at ha hb'
    by_cases c1 : i < below t.place (ps t.mask h D)
    · rw [if_pos c1] at ha
      by_cases c2 : k < below t.place (ps t.mask h D)
      · rw [if_pos c2] at hb'
        exact T.rise.get hik ha hb'
      · rw [if_neg c2] at hb'
        by_cases c3 : k = below t.place (ps t.mask h D)
        · rw [if_pos c3] at hb'
          cases hb'
          exact lo i a c1 ha
        · rw [if_neg c3] at hb'
          exact Nat.lt_trans (lo i a c1 ha) (hi _ b (by omega) hb')
    · rw [if_neg c1] at ha
      rw [if_neg (by omega), if_neg (by omega)] at hb'
      by_cases c3 : i = below t.place (ps t.mask h D)
      · rw [if_pos c3] at ha
        cases ha
        exact hi _ b (by omega) hb'
      · rw [if_neg c3] at ha
        exact T.rise.get (by omega) ha hb'
  · rw [insL_length _ _ hp1, ← T.sz, ← Array.length_toList]
    show (insertAt t.place (below t.place (ps t.mask h D)) (ps t.mask h D)).toList.length = _
    rw [insertAt_toList, insL_length _ _ (by rw [Array.length_toList]; exact hb.1), Array.length_toList]
  · rw [insL_length _ _ hp1]
    exact room
  · rw [pl] at e
    by_cases c1 : i < below t.place (ps t.mask h D)
    · rw [if_pos c1] at e
      exact T.le i j e
    · rw [if_neg c1] at e
      by_cases c3 : i = below t.place (ps t.mask h D)
      · rw [if_pos c3] at e
        cases e
        exact ps_le
      · rw [if_neg c3] at e
        exact T.le _ j e
  · have mk : (t.put (ps t.mask h D)).1.mask = t.mask := rfl
    rw [mk]
    rw [hl] at e
    by_cases c1 : i < below t.place (ps t.mask h D)
    · rw [if_pos c1] at e
      obtain ⟨d, h1, h2⟩ := T.reach i g e
      exact ⟨d, by rw [pl, if_pos c1]; exact h1, fun x hx => let ⟨_, q⟩ := h2 x hx; put_has T.rise q⟩
    · rw [if_neg c1] at e
      by_cases c3 : i = below t.place (ps t.mask h D)
      · rw [if_pos c3] at e
        cases e
        exact ⟨D, by rw [c3]; exact at_, fun x hx => let ⟨_, q⟩ := fr.ahead x hx; put_has T.rise q⟩
      · rw [if_neg c3] at e
        obtain ⟨d, h1, h2⟩ := T.reach _ g e
        exact ⟨d, by rw [pl, if_neg c1, if_neg c3]; exact h1, fun x hx => let ⟨_, q⟩ := h2 x hx; put_has T.rise q⟩
theorem Tab.of_eq {t t' : SetTable} {hs : List Int} (T : Tab t hs) (h1 : t'.mask = t.mask) (h2 : t'.place = t.place) (h3 : t'.dummies = t.dummies) : Tab t' hs := by
  obtain ⟨a1, a2, a3, a4, a5, a6, a7, a8⟩ := T
  rw [← h1] at a1 a2 a6 a7 a8
  rw [← h2] at a4 a5 a7 a8
  rw [← h3] at a3
  exact ⟨a1, a2, a3, a4, a5, a6, a7, a8⟩
end Tb

set_option Elab.async false
set_option linter.all false
set_option maxRecDepth 100000
set_option maxHeartbeats 4000000
namespace Tb
open PySem PySem.SetTable
structure Own (mask : Nat) (ow : Array (Option Nat)) (hs : List Int) : Prop where
  sz : ow.size = mask + 1
  lt : ∀ j i : Nat, ow[j]? = some (some i) → i < hs.length
  inj : ∀ j j' i : Nat, ow[j]? = some (some i) → ow[j']? = some (some i) → j = j'
  at_ : ∀ (i : Nat) (h : Int), hs[i]? = some h → ∃ d, ow[ps mask h d]? = some (some i) ∧ ∀ e, e < d → ∃ i' : Nat, ow[ps mask h e]? = some (some i')
theorem Own.empty {mask : Nat} {ow : Array (Option Nat)} {hs : List Int} (O : Own mask ow hs) (few : hs.length ≤ mask) : ∃ j : Nat, j ≤ mask ∧ ow[j]? = some none := by
  by_cases c : ∃ j : Nat, j ≤ mask ∧ ow[j]? = some none
  · exact c
  · exfalso
    have all : ∀ j : Nat, j ≤ mask → ow[j]? = some (some ((ow.getD j none).getD 0)) := fun j hj => by
      have hl : j < ow.size := by rw [O.sz]; omega
      have e : ow[j]? = some (ow.getD j none) := by rw [Array.getElem?_eq_getElem hl]; simp [Array.getD, hl]
      cases q : ow.getD j none with
      | none => exact (c ⟨j, hj, by rw [e, q]⟩).elim
      | some i => rw [e, q]; rfl
    have nd : ((List.range (mask + 1)).map fun j => (ow.getD j none).getD 0).Nodup := by
      refine List.pairwise_map.mpr (List.Pairwise.imp_of_mem (fun {a b} ha hb ne e => ne (O.inj a b _ (all a ?_) (e ▸ all b ?_))) List.nodup_range)
      · have := List.mem_range.mp ha; omega
      · have := List.mem_range.mp hb; omega
    have sub : ((List.range (mask + 1)).map fun j => (ow.getD j none).getD 0) ⊆ List.range hs.length := fun x hx => by
      obtain ⟨j, hj, rfl⟩ := List.mem_map.mp hx
      have := List.mem_range.mp hj
      exact List.mem_range.mpr (O.lt j _ (all j (by omega)))
    have := List.Nodup.length_le_of_subset nd sub
    rw [List.length_map, List.length_range, List.length_range] at this
    omega
theorem Tn_mono (mask : Nat) (h : Int) {m n : Nat} (hmn : m ≤ n) : Tn mask h m ≤ Tn mask h n := by
  induction n with
  | zero => rw [Nat.le_zero.mp hmn]; exact Nat.le_refl _
  | succ n ih =>
    by_cases c : m = n + 1
    · rw [c]; exact Nat.le_refl _
    · have := ih (by omega)
      show _ ≤ Tn mask h n + run mask (lp mask h n).1 + 1
      omega
theorem run_len (mask i : Nat) : runEnd mask i + 1 - i = run mask i + 1 := by
  unfold run runEnd
  split <;> omega
theorem free_go {mask : Nat} {ow : Array (Option Nat)} {h : Int} {D n0 : Nat} (hD : ow[ps mask h D]? = some none) (hb : ∀ e, e < D → ∃ i' : Nat, ow[ps mask h e]? = some (some i')) (hn0 : D ≤ Tn mask h n0) : ∀ (f n : Nat), Tn mask h n ≤ D → n0 - n < f → layClean.free mask ow f (lp mask h n).1 (lp mask h n).2 = some (ps mask h D)
  | 0, n, _, hf => absurd hf (Nat.not_lt_zero _)
  | f + 1, n, hn, hf => by
    have own : ∀ e, e ≤ run mask (lp mask h n).1 → Tn mask h n + e < D → (ow.getD ((lp mask h n).1 + e) (some 0)).isNone = false := fun e he hlt => by
      obtain ⟨i', q⟩ := hb _ hlt
      rw [ps_run he] at q
      obtain ⟨l, q⟩ := Array.getElem?_eq_some_iff.mp q
      simp [Array.getD, l, q]
    unfold layClean.free
    rw [run_len]
    by_cases c : D ≤ Tn mask h n + run mask (lp mask h n).1
    · have e1 : (List.range (run mask (lp mask h n).1 + 1)).find? (fun k => (ow.getD ((lp mask h n).1 + k) (some 0)).isNone) = some (D - Tn mask h n) := by
        refine List.find?_range_eq_some.mpr ⟨?_, List.mem_range.mpr (by omega), fun j hj => ?_⟩
        · have q := hD
          rw [show D = Tn mask h n + (D - Tn mask h n) by omega, ps_run (by omega)] at q
          obtain ⟨l, q⟩ := Array.getElem?_eq_some_iff.mp q
          simp [Array.getD, l, q]
        · rw [own j (by omega) (by omega)]; rfl
      simp only [e1]
      rw [← ps_run (mask := mask) (h := h) (n := n) (e := D - Tn mask h n) (by omega), show Tn mask h n + (D - Tn mask h n) = D by omega]
    · have e1 : (List.range (run mask (lp mask h n).1 + 1)).find? (fun k => (ow.getD ((lp mask h n).1 + k) (some 0)).isNone) = none := by
        refine List.find?_range_eq_none.mpr fun j hj => ?_
        rw [own j (by omega) (by omega)]; rfl
      simp only [e1]
      have lt : n < n0 := by
        rcases Nat.lt_or_ge n n0 with q | q
        · exact q
        · have := Tn_mono mask h q
          omega
      exact free_go hD hb hn0 f (n + 1) (by show Tn mask h n + run mask (lp mask h n).1 + 1 ≤ D; omega) (by omega)
abbrev layStep (mask : Nat) (acc : Option (Array (Option Nat) × Nat)) (h : Int) : Option (Array (Option Nat) × Nat) := do
    let (owner, k) ← acc
    let j ← layClean.free mask owner (turns mask) (bits h % (mask + 1)) (bits h)
    pure (owner.setIfInBounds j (some k), k + 1)
theorem layClean_eq (mask : Nat) (hashes : Array Int) : layClean mask hashes = (hashes.toList.foldl (layStep mask) (some (Array.replicate (mask + 1) none, 0))).map (·.1) := by
  rw [Array.foldl_toList]
  rfl
theorem Own.step {mask k : Nat} (hk : mask + 1 = 2 ^ k) {ow : Array (Option Nat)} {hs : List Int} (O : Own mask ow hs) (few : hs.length < mask) (h : Int) : ∃ ow', layStep mask (some (ow, hs.length)) h = some (ow', hs.length + 1) ∧ Own mask ow' (hs ++ [h]) := by
  obtain ⟨j, hj, ej⟩ := O.empty (Nat.le_of_lt few)
  obtain ⟨n0, hn0, _, e0⟩ := hits hk h hj
  obtain ⟨D, h1, h2, h3⟩ := least (p := fun d => ow[ps mask h d]? = some none) (n := Tn mask h n0) (by rw [e0]; exact ej)
  have hb : ∀ e, e < D → ∃ i' : Nat, ow[ps mask h e]? = some (some i') := fun e he => by
    have l : ps mask h e < ow.size := by rw [O.sz]; have := ps_le (mask := mask) (h := h) (d := e); omega
    cases q : ow[ps mask h e] with
    | none => exact (h3 e he (by rw [Array.getElem?_eq_getElem l, q])).elim
    | some i => exact ⟨i, by rw [Array.getElem?_eq_getElem l, q]⟩
  have ef := free_go h2 hb h1 (turns mask) 0 (Nat.zero_le _) (by unfold turns; omega)
  have ef' : layClean.free mask ow (turns mask) (bits h % (mask + 1)) (bits h) = some (ps mask h D) := ef
  refine ⟨ow.setIfInBounds (ps mask h D) (some hs.length), by simp [layStep, ef'], ?_⟩
  have l : ps mask h D < ow.size := by rw [O.sz]; have := ps_le (mask := mask) (h := h) (d := D); omega
  have get : ∀ x : Nat, (ow.setIfInBounds (ps mask h D) (some hs.length))[x]? = if x = ps mask h D then some (some hs.length) else ow[x]? := fun x => by
    rw [Array.getElem?_setIfInBounds]
    by_cases c : x = ps mask h D
    · rw [if_pos c, if_pos c.symm, if_pos l]
    · rw [if_neg c, if_neg (Ne.symm c)]
  have keep : ∀ x i : Nat, ow[x]? = some (some i) → (ow.setIfInBounds (ps mask h D) (some hs.length))[x]? = some (some i) := fun x i e => by
    rw [get, if_neg fun z => by rw [z, h2] at e; cases e]
    exact e
  refine ⟨by simp [O.sz], fun x i e => ?_, fun x y i ex ey => ?_, fun i g e => ?_⟩
  · rw [get] at e
    rw [List.length_append, List.length_singleton]
    by_cases c : x = ps mask h D
    · rw [if_pos c] at e
      cases e
      omega
    · rw [if_neg c] at e
      have := O.lt x i e
      omega
  · rw [get] at ex ey
    by_cases c : x = ps mask h D
    · rw [if_pos c] at ex
      cases ex
      by_cases c2 : y = ps mask h D
      · rw [c, c2]
      · rw [if_neg c2] at ey
        exact absurd (O.lt y _ ey) (Nat.lt_irrefl _)
    · rw [if_neg c] at ex
      by_cases c2 : y = ps mask h D
      · rw [if_pos c2] at ey
        cases ey
        exact absurd (O.lt x _ ex) (Nat.lt_irrefl _)
      · rw [if_neg c2] at ey
        exact O.inj x y i ex ey
  · by_cases c : i < hs.length
    · rw [List.getElem?_append_left c] at e
      obtain ⟨d, q1, q2⟩ := O.at_ i g e
      exact ⟨d, keep _ _ q1, fun x hx => let ⟨i', q⟩ := q2 x hx; ⟨i', keep _ _ q⟩⟩
    · rw [List.getElem?_append_right (by omega)] at e
      have ei : i = hs.length := by
        rcases Nat.lt_trichotomy i hs.length with q | q | q
        · omega
        · exact q
        · rw [List.getElem?_eq_none (by rw [List.length_singleton]; omega)] at e; cases e
      subst ei
      rw [Nat.sub_self] at e
      cases e
      exact ⟨D, by rw [get, if_pos rfl], fun x hx => let ⟨i', q⟩ := hb x hx; ⟨i', keep _ _ q⟩⟩
theorem own_fold {mask k : Nat} (hk : mask + 1 = 2 ^ k) : ∀ (rest : List Int) (ow : Array (Option Nat)) (hs : List Int), Own mask ow hs → (hs ++ rest).length ≤ mask → ∃ ow', rest.foldl (layStep mask) (some (ow, hs.length)) = some (ow', (hs ++ rest).length) ∧ Own mask ow' (hs ++ rest)
  | [], ow, hs, O, _ => ⟨ow, by simp, by simpa using O⟩
  | h :: rest, ow, hs, O, few => by
    rw [List.length_append, List.length_cons] at few
    obtain ⟨ow1, e1, O1⟩ := O.step hk (by omega) h
    obtain ⟨ow2, e2, O2⟩ := own_fold hk rest ow1 (hs ++ [h]) O1 (by rw [List.length_append, List.length_append, List.length_singleton]; omega)
    rw [List.append_assoc] at e2 O2
    refine ⟨ow2, ?_, O2⟩
    rw [List.foldl_cons, e1]
    rw [List.length_append, List.length_singleton] at e2
    exact e2
theorem laid_ok {mask k : Nat} (hk : mask + 1 = 2 ^ k) (big : 7 ≤ mask) (finger moves : Nat) (led plain : Bool) (hs : List Int) (few : hs.length ≤ mask) :
    ∃ t order, laid mask finger moves led plain hs.toArray = some (t, order) ∧ t.mask = mask ∧ t.finger = finger ∧ t.led = led ∧ t.moves = moves ∧ t.plain = plain ∧ order.toList.Perm (List.range hs.length) ∧ Tab t (order.toList.map fun i => hs.getD i 0) := by
  have O0 : Own mask (Array.replicate (mask + 1) none) [] := ⟨by simp, fun j i e => by simp [Array.getElem?_replicate] at e, fun j j' i e => by simp [Array.getElem?_replicate] at e, fun i h e => by simp at e⟩
  obtain ⟨ow, e, O⟩ := own_fold hk hs _ _ O0 (by simpa using few)
  rw [List.nil_append] at e O
  have el : layClean mask hs.toArray = some ow := by
    rw [layClean_eq]
    have e' : (hs.toArray.toList.foldl (layStep mask) (some (Array.replicate (mask + 1) none, 0))) = some (ow, hs.length) := e
    rw [e']
    rfl
  obtain ⟨live, hlv⟩ : ∃ live, live = (List.range (mask + 1)).filterMap fun j => (ow.getD j none).map (j, ·) := ⟨_, rfl⟩
  have mem : ∀ p : Nat × Nat, p ∈ live ↔ ow[p.1]? = some (some p.2) := fun p => by
    rw [hlv, List.mem_filterMap]
    constructor
    · rintro ⟨j, hj, q⟩
      have lj : j < ow.size := by rw [O.sz]; exact List.mem_range.mp hj
      obtain ⟨i, q1, q2⟩ := Option.map_eq_some_iff.mp q
      subst q2
      rw [Array.getElem?_eq_getElem lj]
      have q3 : ow[j] = some i := by simpa [Array.getD, lj] using q1
      rw [q3]
    · intro q
      obtain ⟨l, q'⟩ := Array.getElem?_eq_some_iff.mp q
      refine ⟨p.1, List.mem_range.mpr (by rw [← O.sz]; exact l), ?_⟩
      have q3 : ow.getD p.1 none = some p.2 := by simp [Array.getD, l, q']
      rw [q3]
      rfl
  have sub : ∀ (j : Nat) (b : Nat × Nat), (ow.getD j none).map (j, ·) = some b → b.1 = j ∧ ow[j]? = some (some b.2) := fun j b q => by
    obtain ⟨i, q1, q2⟩ := Option.map_eq_some_iff.mp q
    subst q2
    refine ⟨rfl, ?_⟩
    by_cases l : j < ow.size
    · rw [Array.getElem?_eq_getElem l]
      have q3 : ow[j] = some i := by simpa [Array.getD, l] using q1
      rw [q3]
    · simp [Array.getD, l] at q1
  have p1 : live.Pairwise (fun a b => a.1 < b.1) := by
    rw [hlv]
    refine List.Pairwise.filterMap _ (fun a a' hlt b hb b' hb' => ?_) List.pairwise_lt_range
    rw [(sub a b hb).1, (sub a' b' hb').1]
    exact hlt
  have p2 : live.Pairwise (fun a b => a.2 ≠ b.2) := by
    rw [hlv]
    refine List.Pairwise.filterMap _ (fun a a' hlt b hb b' hb' ne => ?_) List.pairwise_lt_range
    have q1 := (sub a b hb).2
    have q2 := (sub a' b' hb').2
    rw [← ne] at q2
    have := O.inj a a' _ q1 q2
    omega
  have perm : (live.map (·.2)).Perm (List.range hs.length) := by
    refine (List.perm_ext_iff_of_nodup (List.pairwise_map.mpr p2) List.nodup_range).mpr fun i => ?_
    rw [List.mem_range, List.mem_map]
    constructor
    · rintro ⟨p, hp, rfl⟩
      exact O.lt _ _ ((mem p).mp hp)
    · intro hi
      obtain ⟨d, q, _⟩ := O.at_ i _ (List.getElem?_eq_getElem hi)
      exact ⟨(_, i), (mem (_, i)).mpr q, rfl⟩
  have ll : live.length = hs.length := by
    have := perm.length_eq
    rwa [List.length_map, List.length_range] at this
  have pl : ∀ m : Nat, ((live.map (·.1)).toArray)[m]? = live[m]?.map (·.1) := fun m => by simp
  refine ⟨{ mask, place := (live.map (·.1)).toArray, dummies := #[], finger, led, moves, plain }, (live.map (·.2)).toArray, ?_, rfl, rfl, rfl, rfl, rfl, by simpa using perm, ?_⟩
  · unfold laid
    rw [el, hlv]
    rfl
  · refine ⟨⟨k, hk⟩, big, rfl, ?_, ?_, ?_, fun i j q => ?_, fun m h q => ?_⟩
    · refine Rise.of_get fun i k a b hik ha hb => ?_
      rw [pl] at ha hb
      obtain ⟨x, hx, rfl⟩ := Option.map_eq_some_iff.mp ha
      obtain ⟨y, hy, rfl⟩ := Option.map_eq_some_iff.mp hb
      obtain ⟨lx, ex⟩ := List.getElem?_eq_some_iff.mp hx
      obtain ⟨ly, ey⟩ := List.getElem?_eq_some_iff.mp hy
      subst ex ey
      exact List.pairwise_iff_getElem.mp p1 i k lx ly hik
    · simp
    · simp [ll, few]
    · rw [pl] at q
      obtain ⟨x, hx, rfl⟩ := Option.map_eq_some_iff.mp q
      have := (mem x).mp (List.mem_of_getElem? hx)
      obtain ⟨l, _⟩ := Array.getElem?_eq_some_iff.mp this
      rw [O.sz] at l
      show x.1 ≤ mask
      omega
    · have q' : (live.map fun p => hs.getD p.2 0)[m]? = some h := by
        have e3 : (live.map (·.2)).toArray.toList.map (fun i => hs.getD i 0) = live.map fun p => hs.getD p.2 0 := by simp
        rw [← e3]
        exact q
      rw [List.getElem?_map] at q'
      obtain ⟨x, hx, rfl⟩ := Option.map_eq_some_iff.mp q'
      have hw := (mem x).mp (List.mem_of_getElem? hx)
      have hl := O.lt _ _ hw
      have eh : hs[x.2]? = some (hs.getD x.2 0) := by rw [List.getElem?_eq_getElem hl]; simp [hl]
      obtain ⟨d, d1, d2⟩ := O.at_ x.2 _ eh
      have ej := O.inj _ _ _ d1 hw
      refine ⟨d, ?_, fun e he => ?_⟩
      · show ((live.map (·.1)).toArray)[m]? = some (ps mask (hs.getD x.2 0) d)
        rw [pl, hx, ej]
        rfl
      · obtain ⟨i', q3⟩ := d2 e he
        obtain ⟨m', hm'⟩ := List.mem_iff_getElem?.mp ((mem (_, i')).mpr q3)
        refine ⟨m', ?_⟩
        show ((live.map (·.1)).toArray)[m']? = some (ps mask (hs.getD x.2 0) e)
        rw [pl, hm']
        rfl
theorem sizeAbove_go (n : Nat) : ∀ (f j : Nat), n < 2 ^ (j + f) → ∃ k, j ≤ k ∧ sizeAbove.go n f (2 ^ j) = 2 ^ k ∧ n < 2 ^ k ∧ (k = j ∨ 2 ^ k ≤ 2 * n)
  | 0, j, h => ⟨j, Nat.le_refl _, rfl, h, .inl rfl⟩
  | f + 1, j, h => by
    unfold sizeAbove.go
    by_cases c : 2 ^ j ≤ n
    · rw [if_pos c, ← Nat.pow_succ]
      obtain ⟨k, h1, h2, h3, h4⟩ := sizeAbove_go n f (j + 1) (by rw [show j + 1 + f = j + (f + 1) by omega]; exact h)
      refine ⟨k, by omega, h2, h3, .inr ?_⟩
      rcases h4 with h4 | h4
      · rw [h4, Nat.pow_succ]; omega
      · exact h4
    · rw [if_neg c]
      exact ⟨j, Nat.le_refl _, rfl, by omega, .inl rfl⟩
theorem sizeAbove_ok {n : Nat} (h : n < 2 ^ 64) : ∃ k, sizeAbove n = 2 ^ k ∧ 8 ≤ 2 ^ k ∧ n < 2 ^ k ∧ 2 ^ k ≤ 2 * n + 8 := by
  obtain ⟨k, h1, h2, h3, h4⟩ := sizeAbove_go n 64 3 (Nat.lt_of_lt_of_le h (by decide))
  have : 2 ^ 3 ≤ 2 ^ k := Nat.pow_le_pow_right (by decide) h1
  refine ⟨k, h2, this, h3, ?_⟩
  rcases h4 with h4 | h4
  · rw [h4]; omega
  · omega
theorem relaid_ok (t : SetTable) (hs : List Int) {n : Nat} (h : n < 2 ^ 64) (few : hs.length < n) : ∃ t' order, t.relaid hs.toArray n = some (t', order) ∧ n ≤ t'.mask ∧ t'.mask ≤ 2 * n + 7 ∧ t'.finger = t.finger ∧ t'.led = t.led ∧ t'.plain = t.plain ∧ order.toList.Perm (List.range hs.length) ∧ Tab t' (order.toList.map fun i => hs.getD i 0) := by
  obtain ⟨k, e, h1, h2, h3⟩ := sizeAbove_ok h
  obtain ⟨t', order, q1, q2, q3, q4, _, q5, q6, q7⟩ := laid_ok (mask := sizeAbove n - 1) (k := k) (by rw [e]; omega) (by rw [e]; omega) t.finger (t.movedTo (sizeAbove n - 1)) t.led t.plain hs (by rw [e]; omega)
  exact ⟨t', order, q1, by rw [q2, e]; omega, by rw [q2, e]; omega, q3, q4, q5, q6, q7⟩
theorem range_get {α : Type} : ∀ l : List α, (List.range l.length).filterMap (fun i => l[i]?) = l
  | [] => rfl
  | x :: l => by
    rw [List.length_cons, List.range_succ_eq_map, List.filterMap_cons]
    show x :: _ = _
    rw [List.filterMap_map]
    congr 1
    exact range_get l
theorem order_list {α : Type} {es : Array α} {order : Array Nat} (hp : order.toList.Perm (List.range es.size)) : (order.filterMap (es[·]?)).toList.Perm es.toList ∧ ∀ (g : α → Int), (order.filterMap (es[·]?)).toList.map g = order.toList.map fun i => (es.toList.map g).getD i 0 := by
  have e1 : (order.filterMap (es[·]?)).toList = order.toList.filterMap (es.toList[·]?) := by simp
  rw [e1]
  constructor
  · have := hp.filterMap (es.toList[·]?)
    rw [← Array.length_toList] at this
    rwa [range_get] at this
  · intro g
    have lt : ∀ i ∈ order.toList, i < es.toList.length := fun i hi => by rw [Array.length_toList]; exact List.mem_range.mp (hp.mem_iff.mp hi)
    generalize order.toList = l at lt
    clear hp e1
    induction l with
    | nil => rfl
    | cons i l ih =>
      have li := lt i (List.mem_cons_self ..)
      rw [List.filterMap_cons, List.getElem?_eq_getElem li]
      show g _ :: _ = _
      rw [List.map_cons, ih fun j hj => lt j (List.mem_cons_of_mem _ hj)]
      congr 1
      rw [List.getD_eq_getElem?_getD, List.getElem?_map, List.getElem?_eq_getElem li]
      rfl
end Tb

set_option Elab.async false
set_option linter.all false
set_option maxRecDepth 100000
set_option maxHeartbeats 4000000
namespace Tb
open PySem PySem.SetTable
section
variable {prog : Program} {w : World} {K : Type} [DecidableEq K] {knd : KeyKind prog w K} {A : Around} {E : Value → Shared → Prop} {s : Shared}
abbrev ent (knd : KeyKind prog w K) (x : List K × Addr) : Int × Value := (tupleKeyHash knd x.1, Value.ref x.2)
structure SetH (knd : KeyKind prog w K) (h : Heap) (a : Addr) (o : Obj) (ep : Nat) (t : SetTable) (xs : List (List K × Addr)) : Prop where
  ob : h.get? a = some o
  ex : o.ExactSet
  data : o.data = .set (xs.map (ent knd)).toArray ep t
  tab : Tab t (xs.map fun x => tupleKeyHash knd x.1)
  few : xs.length * 5 < t.mask * 3
  cap : t.mask ≤ 8 * xs.length + 15
  nd : (xs.map (·.1)).Nodup
  is : ∀ x ∈ xs, IsTupleKey knd h x.1 x.2
theorem SetH.fits {h : Heap} {a : Addr} {o : Obj} {ep : Nat} {t : SetTable} {xs : List (List K × Addr)} (S : SetH knd h a o ep t xs) : t.fits ((xs.map (ent knd)).toArray).size = true := by
  have := S.tab.fits
  rw [List.length_map] at this
  simpa using this
theorem SetH.state {a : Addr} {o : Obj} {ep : Nat} {t : SetTable} {xs : List (List K × Addr)} {Q : (Array (Int × Value) × Nat × SetTable) → Shared → Prop} (S : SetH knd s.heap a o ep t xs) (h : Q ((xs.map (ent knd)).toArray, ep, t) s) : wpAny (model prog w) A (setState a) Q E s :=
  wpAny_setState_of S.ob S.data S.fits h
theorem SetH.ne {h : Heap} {a b : Addr} {o : Obj} {ep : Nat} {t : SetTable} {xs : List (List K × Addr)} {ks : List K} (S : SetH knd h a o ep t xs) (hk : IsTupleKey knd h ks b) : b ≠ a := by
  rintro rfl
  obtain ⟨o', items, n, ho', _, hd', _⟩ := hk
  obtain rfl : o' = o := Option.some.inj (ho'.symm.trans S.ob)
  rw [S.data] at hd'
  cases hd'
theorem wp_class {ks : List K} {b : Addr} {Q : Bool → Shared → Prop} (hx : IsTupleKey knd s.heap ks b) (h : Q false s) : wpAny (model prog w) A (ofAClassStatement 8 (.ref b)) Q E s := by
  have hT := hx.typeIs
  obtain ⟨o, items, n, ho, _, hd, hi⟩ := hx
  unfold ofAClassStatement
  refine wpAny_bind (wpAny_typeOf hT ?_)
  dsimp only
  rw [if_pos (by decide)]
  refine wpAny_bind (wpAny_pure ?_)
  simp only [Bool.not_true, Bool.false_eq_true, if_false]
  refine wpAny_bind (wpAny_seqItems ho hd ?_)
  refine wpAny_bind ?_
  show wpAny _ _ (forIn items _ _) _ _ s
  rw [← Array.forIn_toList]
  refine wpAny_forIn_list _ (fun rest r s' => r.1 = none ∧ s' = s ∧ ∀ v ∈ rest, carriedByValue v = true) _ ?_ ?_ _ _ ⟨rfl, rfl, hi.byValue⟩
  · rintro v rest r s' ⟨hr, rfl, hall⟩
    have hv := hall v List.mem_cons_self
    have e : ofAClassStatement 7 v = pure false := by
      cases v with
      | ref a => simp [carriedByValue] at hv
      | _ => first | rfl | (unfold ofAClassStatement; rfl)
    rw [e]
    refine wpAny_bind (wpAny_pure ?_)
    simp only [Bool.false_eq_true, if_false]
    exact wpAny_pure ⟨rfl, rfl, fun u hu' => hall u (List.mem_cons_of_mem _ hu')⟩
  · rintro ⟨r1, r2⟩ s' ⟨hr, rfl, _⟩
    simp only at hr
    subst hr
    exact wpAny_pure h
theorem wp_seen {x : List K} {b : Addr} {Q : Bool → Shared → Prop} (hx : IsTupleKey knd s.heap x b) (l : List Value) (hl : ∀ v ∈ l, ∃ ks c, v = Value.ref c ∧ IsTupleKey knd s.heap ks c) (h : Q false s) : wpAny (model prog w) A (searchCouldBeSeen (.ref b) l) Q E s := by
  unfold searchCouldBeSeen
  refine wpAny_bind ?_
  refine wpAny_forIn_list _ (fun rest r s' => r.1 = none ∧ s' = s ∧ ∀ v ∈ rest, ∃ ks c, v = Value.ref c ∧ IsTupleKey knd s.heap ks c) _ ?_ ?_ _ _ ⟨rfl, rfl, hl⟩
  · rintro v rest r s' ⟨hr, rfl, hall⟩
    obtain ⟨ks, c, rfl, hk⟩ := hall v List.mem_cons_self
    have rest' : ∀ v ∈ rest, ∃ ks c, v = Value.ref c ∧ IsTupleKey knd s'.heap ks c := fun u hu' => hall u (List.mem_cons_of_mem _ hu')
    dsimp only
    by_cases e : (b == c || (carriedByValue (.ref b) && carriedByValue (.ref c))) = true
    · rw [if_pos e]
      exact wpAny_pure ⟨rfl, rfl, rest'⟩
    · rw [if_neg e]
      refine wpAny_bind (wpAny_eqIsQuiet_tuple hx ?_)
      simp only [Bool.not_true, Bool.false_eq_true, if_false]
      refine wpAny_bind (wpAny_eqIsQuiet_tuple hk ?_)
      simp only [Bool.not_true, Bool.false_eq_true, if_false]
      refine wpAny_bind (wp_class hx ?_)
      simp only [Bool.false_eq_true, if_false]
      refine wpAny_bind (wp_class hk ?_)
      simp only [Bool.false_eq_true, if_false]
      exact wpAny_pure ⟨rfl, rfl, rest'⟩
  · rintro ⟨r1, r2⟩ s' ⟨hr, rfl, _⟩
    simp only at hr
    subst hr
    exact wpAny_pure h
theorem wp_search {a b : Addr} {o : Obj} {ep : Nat} {t : SetTable} {xs : List (List K × Addr)} {k : List K} {Q : SetFound → Shared → Prop} (hu : A.units < cLine) (S : SetH knd s.heap a o ep t xs) (hk : IsTupleKey knd s.heap k b) {D : Nat} (fr : Free t (tupleKeyHash knd k) D)
    (h1 : (∃ x ∈ xs, x.1 = k) → Q (.there none) s) (h2 : (∀ x ∈ xs, x.1 ≠ k) → Q (.free (ps t.mask (tupleKeyHash knd k) D) false) s) :
    ∀ (m fuel d : Nat) (st : Option Probe), D - d = m → d ≤ D → m < fuel → st.getD (t.probeStart (tupleKeyHash knd k)) = pr t.mask (tupleKeyHash knd k) d → (∀ e, e < d → ∀ (i : Nat) (x : List K × Addr), t.place[i]? = some (ps t.mask (tupleKeyHash knd k) e) → xs[i]? = some x → x.1 ≠ k) →
      wpAny (model prog w) A (setSearchFrom a (.ref b) (tupleKeyHash knd k) true fuel st) Q E s := by
  intro m
  induction m using Nat.strongRecOn with
  | ind m ih =>
    intro fuel d st hm hd hf hst hno
    cases fuel with
    | zero => exact absurd hf (Nat.not_lt_zero _)
    | succ fuel =>
      unfold setSearchFrom
      refine wpAny_bind (S.state ?_)
      dsimp only
      rw [S.tab.way]
      simp only [Bool.false_eq_true, if_false]
      rw [hst]
      have hsL : ∀ (i : Nat) (x : List K × Addr), xs[i]? = some x → (xs.map fun x => tupleKeyHash knd x.1)[i]? = some (tupleKeyHash knd x.1) := fun i x e => by rw [List.getElem?_map, e]; rfl
      have hsR : ∀ (i : Nat) (g : Int), (xs.map fun x => tupleKeyHash knd x.1)[i]? = some g → ∃ x, xs[i]? = some x ∧ tupleKeyHash knd x.1 = g := fun i g e => by
        rw [List.getElem?_map] at e
        exact Option.map_eq_some_iff.mp e
      rcases probe_go S.tab fr (hashAt := fun i => ((((xs.map (ent knd)).toArray)[i]?).map (·.1)).getD 0) (fun i g e => by
        obtain ⟨x, hx, rfl⟩ := hsR i g e
        simp [hx]) (10 * turns t.mask) d hd (by have := fr.lt; omega) with ⟨e1, e2⟩ | ⟨e, i, a1, a2, a3, a4, a5, a6⟩
      · have e1' : t.probe (fun i => ((((xs.map (ent knd)).toArray)[i]?).map (·.1)).getD 0) (tupleKeyHash knd k) (pr t.mask (tupleKeyHash knd k) d) = some (.empty (ps t.mask (tupleKeyHash knd k) D) none) := e1
        show wpAny (model prog w) A (match t.probe (fun i => ((((xs.map (ent knd)).toArray)[i]?).map (·.1)).getD 0) (tupleKeyHash knd k) (pr t.mask (tupleKeyHash knd k) d) with | some met => _ | _ => _) Q E s
        rw [e1']
        refine wpAny_pure (h2 fun x hx ex => ?_)
        obtain ⟨i, hi⟩ := List.mem_iff_getElem?.mp hx
        obtain ⟨d', q1, q2⟩ := S.tab.reach i _ (hsL i x hi)
        rw [ex] at q1 q2
        have lt : d' < D := by
          rcases Nat.lt_trichotomy d' D with q | q | q
          · exact q
          · rw [q] at q1; exact (fr.no i q1).elim
          · obtain ⟨i', z⟩ := q2 D q
            exact (fr.no i' z).elim
        by_cases c : d' < d
        · exact hno d' c i x q1 hi ex
        · exact e2 d' (by omega) lt i q1 (by rw [hsL i x hi, ex])
      · obtain ⟨y, hy, ey⟩ := hsR i _ a4
        have a5' : t.probe (fun i => ((((xs.map (ent knd)).toArray)[i]?).map (·.1)).getD 0) (tupleKeyHash knd k) (pr t.mask (tupleKeyHash knd k) d) = some (.candidate (ps t.mask (tupleKeyHash knd k) e) i (pr t.mask (tupleKeyHash knd k) (e + 1))) := a5
        show wpAny (model prog w) A (match t.probe (fun i => ((((xs.map (ent knd)).toArray)[i]?).map (·.1)).getD 0) (tupleKeyHash knd k) (pr t.mask (tupleKeyHash knd k) d) with | some met => _ | _ => _) Q E s
        rw [a5']
        dsimp only
        have ym := List.mem_of_getElem? hy
        have yk := S.is y ym
        have eL : ((xs.map (ent knd)).toArray)[i]? = some (ent knd y) := by simp [hy]
        have cont : wpAny (model prog w) A (do
            let some (_, y) := ((xs.map (ent knd)).toArray)[i]? | unsupported "internal:set-entry"
            let equal ← holding [y] (eqBool y (.ref b))
            let (es', _, t') ← setState a
            if true && equal then return .there none
            let some same := t'.sameMemory t.moves t.mask | unsupported "set.changed-during-lookup:is-the-new-block-at-the-old-address"
            let still ← match (if same then t'.slot (ps t.mask (tupleKeyHash knd k) e) else .empty) with
              | .live i' => match es'[i']? with
                | some (_, y') => do pure (if ← isSame y' y then some i' else none)
                | none => pure none
              | _ => pure none
            match still with
            | none => rule "set.search.anew"; setSearchFrom a (.ref b) (tupleKeyHash knd k) true fuel none
            | some i' => if equal then return .there (some i') else setSearchFrom a (.ref b) (tupleKeyHash knd k) true fuel (some (pr t.mask (tupleKeyHash knd k) (e + 1)))) Q E s := by
          rw [eL]
          dsimp only
          refine wpAny_bind (wpAny_holding (wpAny_eqBool_tuple hu yk hk ?_))
          refine wpAny_bind (S.state ?_)
          by_cases c : y.1 = k
          · rw [decide_eq_true c]
            simp only [Bool.and_self, if_true]
            exact wpAny_pure (h1 ⟨y, ym, c⟩)
          · rw [decide_eq_false c]
            simp only [Bool.and_false, Bool.false_eq_true, if_false]
            have sm : t.sameMemory t.moves t.mask = some true := by simp [SetTable.sameMemory]
            rw [sm]
            simp only [if_true]
            rw [slot_live S.tab.rise a3]
            dsimp only
            rw [eL]
            dsimp only
            have iss : isSame (Value.ref y.2) (Value.ref y.2) = pure true := by simp [isSame]
            rw [iss]
            refine wpAny_bind (wpAny_pure ?_)
            simp only [if_true]
            refine wpAny_bind (wpAny_pure ?_)
            dsimp only
            refine ih (D - (e + 1)) (by omega) fuel (e + 1) _ rfl (by omega) (by omega) rfl fun e' he' i' x q1 q2 qk => ?_
            by_cases c2 : e' < d
            · exact hno e' c2 i' x q1 q2 qk
            · by_cases c3 : e' = e
              · rw [c3] at q1
                have : i' = i := by rw [← below_at S.tab.rise q1, ← below_at S.tab.rise a3]
                rw [this, hy] at q2
                cases q2
                exact c qk
              · exact a6 e' (by omega) (by omega) i' q1 (by rw [hsL i' x q2, qk])
        by_cases led : t.led = true
        · rw [led]
          simp only [Bool.not_true, Bool.false_eq_true, if_false]
          exact cont
        · have lf : t.led = false := by cases q : t.led with | false => rfl | true => exact (led q).elim
          rw [lf]
          simp only [Bool.not_false, if_true]
          refine wpAny_bind (wp_seen hk _ (fun v hv => ?_) ?_)
          · obtain ⟨p, hp, rfl⟩ := List.mem_map.mp hv
            have hp' : p ∈ xs.map (ent knd) := by
              have := (Array.mem_filter.mp (Array.mem_toList_iff.mp hp)).1
              simpa using this
            obtain ⟨x, hx, rfl⟩ := List.mem_map.mp hp'
            exact ⟨x.1, x.2, rfl, S.is x hx⟩
          · simp only [Bool.false_eq_true, if_false]
            exact cont
end
end Tb

set_option Elab.async false
set_option linter.all false
set_option maxRecDepth 100000
set_option maxHeartbeats 4000000
namespace Tb
open PySem PySem.SetTable
section
variable {prog : Program} {w : World} {K : Type} [DecidableEq K] {knd : KeyKind prog w K} {A : Around} {E : Value → Shared → Prop} {s : Shared}
theorem hbv_byValue (n : Nat) {v : Value} (h : carriedByValue v = true) : ∃ b, hashByValue n v = pure b := by
  cases v with
  | ref a => simp [carriedByValue] at h
  | _ => cases n <;> exact ⟨_, rfl⟩
theorem wp_hbv {ks : List K} {b : Addr} {Q : Bool → Shared → Prop} (hx : IsTupleKey knd s.heap ks b) (h : ∀ c, Q c s) : wpAny (model prog w) A (hashByValue 8 (.ref b)) Q E s := by
  have hT := hx.typeIs
  obtain ⟨o, items, n, ho, _, hd, hi⟩ := hx
  unfold hashByValue
  refine wpAny_bind (wpAny_specialOf hT F.slot_tuple_hash.lookup ?_)
  dsimp only
  refine wpAny_bind (wpAny_seqItems ho hd ?_)
  refine wpAny_bind ?_
  show wpAny _ _ (forIn items _ _) _ _ s
  rw [← Array.forIn_toList]
  refine wpAny_forIn_list _ (fun rest r s' => r.1 = none ∧ s' = s ∧ ∀ v ∈ rest, carriedByValue v = true) _ ?_ ?_ _ _ ⟨rfl, rfl, hi.byValue⟩
  · rintro v rest r s' ⟨hr, rfl, hall⟩
    obtain ⟨c, e⟩ := hbv_byValue 7 (hall v List.mem_cons_self)
    rw [e]
    refine wpAny_bind (wpAny_pure ?_)
    cases c with
    | false =>
      simp only [Bool.not_false, if_true]
      exact wpAny_pure (wpAny_pure (h false))
    | true =>
      simp only [Bool.not_true, Bool.false_eq_true, if_false]
      exact wpAny_pure ⟨rfl, rfl, fun u hu' => hall u (List.mem_cons_of_mem _ hu')⟩
  · rintro ⟨r1, r2⟩ s' ⟨hr, rfl, _⟩
    simp only at hr
    subst hr
    exact wpAny_pure (h true)
theorem wp_relay {a : Addr} {o : Obj} {ep : Nat} {t : SetTable} {xs : List (List K × Addr)} {n : Nat} {Q : Unit → Shared → Prop} (ob : s.heap.get? a = some o) (ex : o.ExactSet) (hd : o.data = .set (xs.map (ent knd)).toArray ep t) (tab : Tab t (xs.map fun x => tupleKeyHash knd x.1)) (nd : (xs.map (·.1)).Nodup) (is : ∀ x ∈ xs, IsTupleKey knd s.heap x.1 x.2)
    (hn : xs.length * 2 ≤ n) (hn4 : n ≤ xs.length * 4) (h0 : 0 < n) (hx : xs.length ≤ 100000) (hn2 : n ≤ 100000) (h : ∀ h' ys o' ep' t', Heap.SameBut a s.heap h' → SetH knd h' a o' ep' t' ys → t'.led = t.led → ys.Perm xs → Q () { s with heap := h' }) : wpAny (model prog w) A (setRelay a n) Q E s := by
  have fits : t.fits ((xs.map (ent knd)).toArray).size = true := by
    have := tab.fits
    rw [List.length_map] at this
    simpa using this
  unfold setRelay
  refine wpAny_bind (wpAny_setState_of ob hd fits ?_)
  dsimp only
  obtain ⟨k, e1, e2, e3, e4⟩ := sizeAbove_ok (n := n) (by omega)
  rw [if_neg (by rw [e1, sizeLine_eq]; omega)]
  have hm : ((xs.map (ent knd)).toArray).map (·.1) = (xs.map fun x => tupleKeyHash knd x.1).toArray := by simp [Function.comp_def]
  obtain ⟨t', order, q1, q2, qc, q3, q4, q5, q6, q7⟩ := relaid_ok t (xs.map fun x => tupleKeyHash knd x.1) (n := n) (by omega) (by rw [List.length_map]; omega)
  rw [hm, q1]
  rw [List.length_map] at q6
  have oz : order.toList.Perm (List.range ((xs.map (ent knd)).toArray).size) := by simpa using q6
  obtain ⟨o1, o2⟩ := order_list oz
  have hys : (order.filterMap (((xs.map (ent knd)).toArray)[·]?)) = ((order.toList.filterMap (xs[·]?)).map (ent knd)).toArray := by
    apply Array.toList_inj.mp
    simp [List.map_filterMap]
  have py : (order.toList.filterMap (xs[·]?)).Perm xs := by
    have := q6.filterMap (xs[·]?)
    rwa [range_get] at this
  have ly := py.length_eq
  have hh : (order.toList.filterMap (xs[·]?)).map (fun x => tupleKeyHash knd x.1) = order.toList.map fun i => (xs.map fun x => tupleKeyHash knd x.1).getD i 0 := by
    have := o2 (·.1)
    rw [hys] at this
    simpa [Function.comp_def] using this
  rw [← hh] at q7
  generalize order.toList.filterMap (xs[·]?) = ys at *
  refine wpAny_bind ?_
  show wpAny (model prog w) A (if ((order.filterMap (((xs.map (ent knd)).toArray)[·]?)).size != ((xs.map (ent knd)).toArray).size) = true then unsupported _ else pure (order.filterMap (((xs.map (ent knd)).toArray)[·]?), t')) _ E s
  rw [hys, if_neg (by simp [ly])]
  refine wpAny_pure ?_
  dsimp only
  refine wpAny_storeSet_of ob hd ?_ (by rw [List.size_toArray, List.length_map, ly, sizeLine_eq]; omega)
  have S2 : SetH knd (s.heap.update a (Obj.putSet (ys.map (ent knd)).toArray t')) a { o with data := .set (ys.map (ent knd)).toArray (ep + 1) t' } (ep + 1) t' ys := by
    have sb := Heap.SameBut.update s.heap a (Obj.putSet (ys.map (ent knd)).toArray t')
    refine ⟨?_, ex, rfl, q7, by omega, by omega, (py.map _).nodup_iff.mpr nd, fun x hx => ?_⟩
    · have := Heap.get?_update_self (Obj.putSet (ys.map (ent knd)).toArray t') ob (by rw [putSet_of _ t' hd]; rfl)
      rw [putSet_of _ t' hd] at this
      exact this
    · have hx' := is x (py.mem_iff.mp hx)
      have ne : x.2 ≠ a := by
        intro z
        obtain ⟨o', items, n, ho', _, hd', _⟩ := hx'
        rw [z] at ho'
        obtain rfl : o' = o := Option.some.inj (ho'.symm.trans ob)
        rw [hd] at hd'
        cases hd'
      obtain ⟨o', items, n, ho', hc, hd', hi⟩ := hx'
      exact ⟨o', items, n, (sb.2 _ ne).trans ho', hc, hd', hi⟩
  exact h _ ys _ _ _ (Heap.SameBut.update s.heap a _) S2 q4 py
theorem wp_add {a b : Addr} {o : Obj} {ep : Nat} {t : SetTable} {xs : List (List K × Addr)} {k : List K} {Q : Bool → Shared → Prop} (hu : A.units < cLine) (S : SetH knd s.heap a o ep t xs) (hk : IsTupleKey knd s.heap k b) (hx : xs.length ≤ 1000)
    (h1 : (∃ x ∈ xs, x.1 = k) → Q false s) (h2 : (∀ x ∈ xs, x.1 ≠ k) → ∀ h' ys o' ep' t', Heap.SameBut a s.heap h' → SetH knd h' a o' ep' t' ys → t'.led = t.led → ys.Perm ((k, b) :: xs) → Q true { s with heap := h' }) :
    wpAny (model prog w) A (setAddHashed a (.ref b) (tupleKeyHash knd k)) Q E s := by
  unfold setAddHashed setAddHashedIn
  refine wpAny_holding (wpAny_bind (S.state ?_))
  dsimp only
  have nb : byScan (.ref b) (xs.map (ent knd)).toArray = false := by simp [byScan, Value.scannable]
  rw [nb]
  simp only [Bool.false_eq_true, if_false]
  obtain ⟨D, fr⟩ := S.tab.free (tupleKeyHash knd k)
  unfold setSearch
  have bound := fr.lt
  have hm := S.cap
  unfold turns at bound
  refine wpAny_bind (wp_search hu S hk fr (fun q => wpAny_pure (h1 q)) (fun q => ?_) D 100000 0 none rfl (Nat.zero_le _) (by omega) (start_eq t _) fun e he => absurd he (Nat.not_lt_zero _))
  dsimp only
  refine wpAny_bind (S.state ?_)
  dsimp only
  have big := S.tab.big
  have few := S.few
  have room : (xs.map fun x => tupleKeyHash knd x.1).length + 1 ≤ t.mask := by rw [List.length_map]; omega
  have tb := S.tab.put fr room
  generalize ep1 : t.put (ps t.mask (tupleKeyHash knd k) D) = tp at tb
  obtain ⟨t1, p⟩ := tp
  have mk1 : t1.mask = t.mask := by
    have : (t.put (ps t.mask (tupleKeyHash knd k) D)).1.mask = t.mask := rfl
    rw [ep1] at this
    exact this
  have ld1 : t1.led = t.led := by
    have : (t.put (ps t.mask (tupleKeyHash knd k) D)).1.led = t.led := rfl
    rw [ep1] at this
    exact this
  dsimp only at tb ⊢
  have esz : ((xs.map (ent knd)).toArray).size = xs.length := by simp
  have ins : insertAt (xs.map (ent knd)).toArray p (tupleKeyHash knd k, Value.ref b) = ((insL xs p (k, b)).map (ent knd)).toArray := by
    apply Array.toList_inj.mp
    rw [insertAt_toList, insL_map]
  have hsI : (insL xs p (k, b)).map (fun x => tupleKeyHash knd x.1) = insL (xs.map fun x => tupleKeyHash knd x.1) p (tupleKeyHash knd k) := insL_map _ _ _ _
  have pI := insL_perm xs p (k, b)
  have nI : ((insL xs p (k, b)).map (·.1)).Nodup := by
    refine (pI.map _).nodup_iff.mpr ?_
    rw [List.map_cons]
    refine List.nodup_cons.mpr ⟨fun z => ?_, S.nd⟩
    obtain ⟨x, hx, e⟩ := List.mem_map.mp z
    exact q x hx e
  have isI : ∀ x ∈ insL xs p (k, b), IsTupleKey knd s.heap x.1 x.2 := fun x hx => by
    rcases List.mem_cons.mp (pI.mem_iff.mp hx) with rfl | hx
    · exact hk
    · exact S.is x hx
  have lI : (insL xs p (k, b)).length = xs.length + 1 := by rw [pI.length_eq]; rfl
  have fin : ∀ t2 : SetTable, t2.mask = t1.mask → t2.place = t1.place → t2.dummies = t1.dummies → t2.led = t1.led → wpAny (model prog w) A (do
      storeSet a (insertAt (xs.map (ent knd)).toArray p (tupleKeyHash knd k, Value.ref b)) t2
      if (!false && t2.tooFull) = true then
        setRelay a (SetTable.grown (((xs.map (ent knd)).toArray).size + 1))
        pure true
      else pure true) Q E s := fun t2 e1 e2 e3 e4 => by
    have tb2 : Tab t2 ((insL xs p (k, b)).map fun x => tupleKeyHash knd x.1) := by
      rw [hsI]
      exact tb.of_eq e1 e2 e3
    rw [ins]
    refine wpAny_bind (wpAny_storeSet_of S.ob S.data ?_ (by rw [List.size_toArray, List.length_map, lI, sizeLine_eq]; omega))
    have sb := Heap.SameBut.update s.heap a (Obj.putSet ((insL xs p (k, b)).map (ent knd)).toArray t2)
    have ob2 : (s.heap.update a (Obj.putSet ((insL xs p (k, b)).map (ent knd)).toArray t2)).get? a = some { o with data := .set ((insL xs p (k, b)).map (ent knd)).toArray (ep + 1) t2 } := by
      have := Heap.get?_update_self (Obj.putSet ((insL xs p (k, b)).map (ent knd)).toArray t2) S.ob (by rw [putSet_of _ t2 S.data]; rfl)
      rw [putSet_of _ t2 S.data] at this
      exact this
    have fl : t2.tooFull = decide ((xs.length + 1) * 5 ≥ t.mask * 3) := by
      unfold SetTable.tooFull SetTable.fill
      rw [tb2.dum, tb2.sz, List.length_map, lI, e1, mk1]
      rfl
    have is2 : ∀ x ∈ insL xs p (k, b), IsTupleKey knd (s.heap.update a (Obj.putSet ((insL xs p (k, b)).map (ent knd)).toArray t2)) x.1 x.2 := fun x hx => by
      have ne := S.ne (isI x hx)
      obtain ⟨o', items, n, ho', hc, hd', hi⟩ := isI x hx
      exact ⟨o', items, n, (sb.2 _ ne).trans ho', hc, hd', hi⟩
    by_cases c : t2.tooFull = true
    · rw [c]
      simp only [Bool.not_false, Bool.and_self, if_true]
      have g : SetTable.grown (((xs.map (ent knd)).toArray).size + 1) = (xs.length + 1) * 4 := by
        unfold SetTable.grown
        rw [esz, if_neg (by omega)]
      rw [g]
      refine wpAny_bind (wp_relay (s := { s with heap := s.heap.update a (Obj.putSet ((insL xs p (k, b)).map (ent knd)).toArray t2) }) ob2 S.ex rfl tb2 nI is2 (by omega) (by omega) (by omega) (by omega) (by omega) fun h' ys o' ep' t' sb' S' l' py => ?_)
      exact wpAny_pure (h2 q h' ys o' ep' t' (sb.trans sb') S' (l'.trans (e4.trans ld1)) (py.trans pI))
    · rw [Bool.eq_false_iff.mpr c]
      simp only [Bool.and_false, Bool.false_eq_true, if_false]
      rw [fl] at c
      have c' : ¬ (xs.length + 1) * 5 ≥ t.mask * 3 := fun z => c (decide_eq_true z)
      exact wpAny_pure (h2 q _ (insL xs p (k, b)) _ _ _ sb ⟨ob2, S.ex, rfl, tb2, by rw [lI, e1, mk1]; omega, by rw [lI, e1, mk1]; omega, nI, is2⟩ (e4.trans ld1) pI)
  by_cases c : t1.plain = true
  · rw [if_pos c]
    refine wpAny_bind (wp_hbv hk fun bv => ?_)
    cases bv with
    | true => exact fin t1 rfl rfl rfl rfl
    | false => exact fin { t1 with plain := false } rfl rfl rfl rfl
  · rw [if_neg c]
    refine wpAny_bind (wpAny_pure ?_)
    exact fin t1 rfl rfl rfl rfl
end
end Tb

set_option Elab.async false
set_option linter.all false
set_option maxRecDepth 100000
set_option maxHeartbeats 4000000
namespace Tb
open PySem
theorem erase_perm {α : Type} {l : List α} {i : Nat} (h : i < l.length) : (l[i] :: l.eraseIdx i).Perm l := by
  rw [List.eraseIdx_eq_take_drop_succ]
  refine List.perm_middle.symm.trans ?_
  rw [List.getElem_cons_drop, List.take_append_drop]
theorem pick_go {α : Type} (next : Nat → Nat) : ∀ (f k : Nat) (left : List α) (out : Array α), f = left.length → (pickOrder.go next f k left out).toList.Perm (out.toList ++ left)
  | 0, k, left, out, h => by
    rw [List.length_eq_zero_iff.mp h.symm, List.append_nil]
    exact .refl _
  | f + 1, k, left, out, h => by
    have hl : next k % left.length < left.length := Nat.mod_lt _ (by omega)
    unfold pickOrder.go
    rw [List.getElem?_eq_getElem hl]
    refine (pick_go next f (k + 1) (left.eraseIdx (next k % left.length)) (out.push left[next k % left.length]) (by rw [List.length_eraseIdx_of_lt hl]; omega)).trans ?_
    rw [Array.toList_push, List.append_assoc]
    exact (erase_perm hl).append_left _
theorem pick_perm {α : Type} (next : Nat → Nat) (xs : Array α) : (pickOrder next xs).toList.Perm xs.toList := by
  have := pick_go next xs.size 0 xs.toList #[] (by simp)
  rw [List.nil_append] at this
  exact this
section
variable {M : Model} {A : Around} {E : Value → Shared → Prop}
theorem wp_draw {α : Type} : ∀ (n : Nat) (xs : List α) (s : Shared) {Q : List α → Shared → Prop}, n = xs.length → (∀ ys d, ys.Perm xs → Q ys { s with drawn := d }) → wpAny M A (drawOrder n xs) Q E s
  | 0, xs, s, Q, hn, h => by
    have e : xs = [] := List.length_eq_zero_iff.mp hn.symm
    subst e
    unfold drawOrder
    exact wpAny_pure (h [] s.drawn (.refl _))
  | n + 1, [], s, Q, hn, h => by simp at hn
  | n + 1, x :: xs, s, Q, hn, h => by
    unfold drawOrder
    refine wpAny_bind (fun Γ p hΓ => ?_)
    refine ⟨by simp, ?_⟩
    have hl : M.w.draws .order (s.drawn.get .order) % (x :: xs).length < (x :: xs).length := Nat.mod_lt _ (by simp)
    generalize M.w.draws .order (s.drawn.get .order) % (x :: xs).length = i at hl
    have key : wpAny M A (match (x :: xs)[i]? with
      | some y => do return y :: (← drawOrder n ((x :: xs).eraseIdx i))
      | none => unsupported "internal:drawOrder") Q E { s with drawn := s.drawn.bump .order } := by
      rw [List.getElem?_eq_getElem hl]
      dsimp only
      refine wpAny_bind (wp_draw n _ _ (by rw [List.length_eraseIdx_of_lt hl]; omega) fun ys d hp => wpAny_pure ?_)
      exact h _ d ((hp.cons _).trans (erase_perm hl))
    exact key
end
end Tb

set_option Elab.async false
set_option linter.all false
set_option maxRecDepth 100000
set_option maxHeartbeats 4000000
namespace Tb
open PySem PySem.SetTable PyProof.Rows
section
variable {prog : Program} {w : World} {K : Type} [DecidableEq K] {knd : KeyKind prog w K}
theorem tk_mono {h h' : Heap} {k : List K} {b : Addr} (x : IsTupleKey knd h k b) (kp : ∀ b o, h.get? b = some o → h'.get? b = some o) : IsTupleKey knd h' k b := by
  obtain ⟨o, its, n, ho, r⟩ := x
  exact ⟨o, its, n, kp _ _ ho, r⟩
structure Held (knd : KeyKind prog w K) (ks : List (List K)) (bs : List Addr) (i : Nat) (xs : List (List K × Addr)) : Prop where
  len : xs.length ≤ i
  mem : ∀ k, k ∈ xs.map (·.1) ↔ k ∈ ks.take i
  from_ : ∀ x ∈ xs, ∃ j : Nat, ks[j]? = some x.1 ∧ bs[j]? = some x.2
section
variable {A : Around} {R : Result → Shared → Prop} {I : Addr} {fp wr : List Addr} {G : Array GenState → Array GenState → Prop} {n : Nat} {P : Nat → Value → Prop} {St : Nat → Shared → Prop}
theorem loopT (W : WalksS prog w A.in1 I fp wr G n P St) (S : Addr) (nS : S ∉ fp) {h0 : Heap} (hS0 : h0.get? S = none) (hw0 : ∀ b ∈ wr, h0.get? b = none) (ks : List (List K)) (bs : List Addr) (lk : ks.length = n) (lb : bs.length = n) (hv : ∀ (i : Nat) v, P i v → ∃ b, bs[i]? = some b ∧ v = .ref b)
    (hk : ∀ (i : Nat) k b, ks[i]? = some k → bs[i]? = some b → IsTupleKey knd h0 k b) (hu : A.in1.units < cLine) (hn : n ≤ 1000) (led : Bool) (m : Nat) :
    ∀ (i : Nat) (s : Shared) (o : Obj) (ep : Nat) (t : SetTable) (xs : List (List K × Addr)), n - i = m → i ≤ n → St i s → (∀ b o, h0.get? b = some o → s.heap.get? b = some o) → SetH knd s.heap S o ep t xs → t.led = led → Held knd ks bs i xs →
      (∀ s' o ep t xs, Moved (S :: wr) G s s' → SetH knd s'.heap S o ep t xs → t.led = led → Held knd ks bs n xs → R (.ok (.ret .none)) s') →
      codeAny (model prog w) A (.builtin "set.update.loop" ⟨[.ref S, .ref I], []⟩) R s := by
  have nw : S ∉ wr := fun h => nS (W.sub _ h)
  have sub : ∀ b ∈ wr, b ∈ S :: wr := fun b q => List.mem_cons_of_mem _ q
  have stay : ∀ {s s' : Shared} {o : Obj} {ep : Nat} {t : SetTable} {xs : List (List K × Addr)} {i : Nat}, Moved wr G s s' → (∀ b o, h0.get? b = some o → s.heap.get? b = some o) → SetH knd s.heap S o ep t xs → Held knd ks bs i xs → SetH knd s'.heap S o ep t xs ∧ ∀ b o, h0.get? b = some o → s'.heap.get? b = some o := fun {s s' o ep t xs i} hm kp hS hH => by
    have kp' : ∀ b o, h0.get? b = some o → s'.heap.get? b = some o := fun b o e => hm.heap b o (fun z => by rw [hw0 b z] at e; cases e) (kp b o e)
    refine ⟨⟨hm.heap S _ nw hS.ob, hS.ex, hS.data, hS.tab, hS.few, hS.cap, hS.nd, fun x hx => ?_⟩, kp'⟩
    obtain ⟨j, j1, j2⟩ := hH.from_ x hx
    exact tk_mono (hk j _ _ j1 j2) kp'
  induction m with
  | zero =>
    intro i s o ep t xs hm hi st kp hS hl hH hR
    have e : i = n := by omega
    subst e
    refine codeAny_builtin PyProof.Rows.F.entry_set_update_loop ?_
    rw [Around.under_plainId PyProof.Rows.F.plain_set_update_loop _]
    refine wpAny_bind (m := pyNext (.ref I)) (W.done s _ _ st fun s' hm => wpAny_pure (hR s' o ep t xs (hm.mono sub) (stay hm kp hS hH).1 hl hH))
  | succ m ih =>
    intro i s o ep t xs hm hi st kp hS hl hH hR
    have hlt : i < n := by omega
    refine codeAny_builtin PyProof.Rows.F.entry_set_update_loop ?_
    rw [Around.under_plainId PyProof.Rows.F.plain_set_update_loop _]
    refine wpAny_bind (m := pyNext (.ref I)) (W.item i s _ _ hlt st fun v s' hP st' hm => ?_)
    obtain ⟨b, hb, rfl⟩ := hv i v hP
    obtain ⟨k, hk'⟩ : ∃ k, ks[i]? = some k := ⟨_, List.getElem?_eq_getElem (by omega)⟩
    obtain ⟨hS', kp'⟩ := stay hm kp hS hH
    have kb : IsTupleKey knd s'.heap k b := tk_mono (hk i k b hk' hb) kp'
    have et : ks.take (i + 1) = ks.take i ++ [k] := by rw [List.take_add_one, hk']; rfl
    have hl1 := hH.len
    refine wpAny_bind (m := holding [Value.ref b] (setAdd S (.ref b))) (wpAny_holding ?_)
    unfold setAdd
    refine wpAny_holding (wpAny_bind (wpAny_pyHash_tuple hu kb ?_))
    refine wp_add (s := { s' with toks := s'.toks + (k.length + 1) }) hu hS' kb (by omega) (fun q => ?_) fun q h' ys o' ep' t' sb S2 led' py => ?_
    · have hH2 : Held knd ks bs (i + 1) xs := ⟨by omega, fun z => by
        rw [et, List.mem_append, ← hH.mem, List.mem_singleton]
        exact ⟨.inl, fun c => c.elim id fun e => by
          obtain ⟨x, hx, ex⟩ := q
          rw [e, ← ex]
          exact List.mem_map.mpr ⟨x, hx, rfl⟩⟩, hH.from_⟩
      refine wpAny_pure ⟨plainId_quiet PyProof.Rows.F.plain_set_update_loop _, ih (i + 1) _ o ep t xs (by omega) hlt (W.frame _ s' s'.heap _ st' (Nat.le_add_right _ _) fun b q o e => e) kp' hS' hl hH2 fun s2 o2 ep2 t2 xs2 m2 a1 a2 a3 => hR s2 o2 ep2 t2 xs2 (Moved.trans W.gtrans ((hm.mono sub).then_heap (h' := s'.heap) (Nat.le_add_right _ _) fun b o _ e => e) m2) a1 a2 a3⟩
    · have hH2 : Held knd ks bs (i + 1) ys := ⟨by rw [py.length_eq, List.length_cons]; omega, fun z => by
        rw [et, List.mem_append, ← hH.mem, List.mem_singleton, (py.map (·.1)).mem_iff, List.map_cons, List.mem_cons]
        exact Or.comm, fun x hx => by
        rcases List.mem_cons.mp (py.mem_iff.mp hx) with rfl | hx
        · exact ⟨i, hk', hb⟩
        · exact hH.from_ x hx⟩
      refine wpAny_pure ⟨plainId_quiet PyProof.Rows.F.plain_set_update_loop _, ih (i + 1) _ o' ep' t' ys (by omega) hlt (W.frame _ s' h' _ st' (Nat.le_add_right _ _) fun b q o e => ?_) (fun b o e => ?_) S2 (led'.trans hl) hH2 fun s2 o2 ep2 t2 xs2 m2 a1 a2 a3 => hR s2 o2 ep2 t2 xs2 (Moved.trans W.gtrans ((hm.mono sub).then_heap (h' := h') (Nat.le_add_right _ _) fun b o q e => ?_) m2) a1 a2 a3⟩
      · rw [sb.2 b fun h : b = S => nS (h ▸ q)]
        exact e
      · rw [sb.2 b fun h : b = S => by rw [h, hS0] at e; cases e]
        exact kp' b o e
      · rw [sb.2 b fun h : b = S => q (h ▸ List.mem_cons_self)]
        exact e
end
section
variable {A : Around} {E : Value → Shared → Prop} {s : Shared}
abbrev ledW (w : World) : Bool := !w.params.followText "set-order"
abbrev setT0 (led : Bool) : Obj := { cls := .type "set", dict := none, data := .set #[] 0 (.fresh 0 0 led) }
theorem code_set_new (a : Value) {Q₁ : Value → Shared → Prop} (h : Q₁ (.ref s.heap.objs.size) { s with heap := s.heap.push (setT0 (ledW w)) }) :
    codeAny (model prog w) A (.call (.builtin "set.__new__") ⟨[.type "set", a], []⟩) (wants Q₁ E) s := by
  refine codeAny_of_tree ?_
  show wpAny _ A.in1 (do checkBuiltinCall "set.__new__" ⟨[.type "set", a], []⟩; again (.builtin "set.__new__" ⟨[.type "set", a], []⟩)) _ _ s
  refine wpAny_bind (wpAny_of_eq (PySem.F.newCall_set_1 a) (wpAny_pure ⟨plainId_quiet PySem.F.plain_set_new _, codeAny_builtin PySem.F.entry_set_new ?_⟩))
  rw [Around.under_plainId PySem.F.plain_set_new _]
  unfold Builtin.«set.__new__» Builtin.Frozenset.newClass
  have hsub := sub_set_self
  obtain ⟨hp, g, d, tk, os⟩ := s
  dsimp only
  wp_walk
  refine wpAny_askSetting (wpAny_pure ?_)
  dsimp only
  simp only [newObj]
  refine wpAny_bind (wpAny_alloc (wpAny_pure ?_))
  exact wpAny_pure h
theorem call_setT {l : Addr} {bs : List Addr} {ks : List (List K)} {items : Array Value} {Q : Value → Shared → Prop} (hA : A.handled = none) (hu : A.in1.in1.in1.units < cLine) (hl : s.heap.IsList l items) (hi : items.toList = bs.map Value.ref) (lb : ks.length = bs.length) (hk : ∀ (i : Nat) k b, ks[i]? = some k → bs[i]? = some b → IsTupleKey knd s.heap k b) (hb : bs.length ≤ 1000)
    (k : ∀ (h' : Heap) (tk : Nat) o ep t xs, SetH knd h' s.heap.objs.size o ep t xs → t.led = ledW w → Held knd ks bs bs.length xs → (∀ b o, s.heap.get? b = some o → h'.get? b = some o) → Q (.ref s.heap.objs.size) { s with heap := h', toks := tk }) :
    wpAny (model prog w) A (call (.type "set") [.ref l]) Q E s := by
  obtain ⟨c, tl, hmro⟩ := PySem.F.called_set.mro
  have ft := PySem.F.called_set
  have hmade := ft.made
  have hsub := ft.sub
  refine wpAny_call (codeAny_of_tree ?_); show wpAny _ _ (callAny (.type "set") _) _ _ _
  refine wpAny_pure ⟨Code.quiet_builtin _ (by decide +kernel), codeAny_builtin PySem.F.entry_type_call ?_⟩
  rw [Around.under_plain (weight_type_call_type "set" [.ref l] []) rfl]
  have h1 := ft.notType
  have h2 := ft.canCreate
  have hct := PySem.F.typeCall_set_1 (.ref l)
  repeat (any_goals (first | assumption | wp_step))
  refine codeAny_mono (code_set_new (.ref l) (E := E) (Q₁ := fun x z => x = .ref s.heap.objs.size ∧ z = { s with heap := s.heap.push (setT0 (ledW w)) }) ⟨rfl, rfl⟩) fun r z hr => ?_
  cases r with
  | error e => exact hr
  | ok fl =>
    cases fl with
    | ret x =>
      obtain ⟨rfl, rfl⟩ := hr
      have hS : (s.heap.push (setT0 (ledW w))).get? s.heap.objs.size = some (setT0 (ledW w)) := Heap.get?_push_size _ rfl
      have hT : Shared.TypeIs { s with heap := s.heap.push (setT0 (ledW w)) } (.ref s.heap.objs.size) "set" := ⟨_, hS, rfl⟩
      have hli := ft.init.lookup
      have hbi := ft.init.bind (.ref s.heap.objs.size)
      repeat (any_goals (first | assumption | wp_step))
      refine codeAny_mono (codeAny_call_builtin (R := wants (fun r z => r = .none ∧ ∃ h' tk o ep t xs, z = { s with heap := h', toks := tk } ∧ SetH knd h' s.heap.objs.size o ep t xs ∧ t.led = ledW w ∧ Held knd ks bs bs.length xs ∧ (∀ b o, s.heap.get? b = some o → h'.get? b = some o)) E) ft.init.plain PySem.F.entry_set_init (check_set_init_1 hT ?_)) fun r2 z2 hr2 => ?_
      · obtain ⟨⟨oc, od, oda, osl⟩, hol, hcl, nl, hdl⟩ := hl
        simp only at hcl hdl
        subst hcl hdl
        have hol' := Heap.get?_push_of_some (setT0 (ledW w)) hol
        have hsls := PySem.F.sub_list_set
        have hslf := PySem.F.sub_list_frozenset
        have hne : (Value.type "list" == Value.type "dict") = false := by decide
        have hl1 : (s.heap.push (setT0 (ledW w))).IsList l items := ⟨_, hol', rfl, nl, rfl⟩
        have hh3 : A.in1.in1.in1.handled = none := by simp [hA]
        unfold Builtin.«set.__init__» noKeywords Builtin.Frozenset.updateFrom
        generalize hPI : pyIter = PI
        wp_walk
        subst hPI
        refine wpAny_pyIter_list hl1 (wpAny_bind (wpAny_runValue ?_))
        have hlS : l < s.heap.objs.size := Heap.lt_size hol
        have nI : l ≠ (s.heap.push (setT0 (ledW w))).objs.size := by rw [Heap.size_push]; exact Nat.ne_of_lt (Nat.lt_succ_of_lt hlS)
        have nS : s.heap.objs.size ∉ [(s.heap.push (setT0 (ledW w))).objs.size, l] := by
          rw [Heap.size_push]
          intro hm
          rcases List.mem_cons.mp hm with hm | hm
          · exact absurd hm (Nat.ne_of_lt (Nat.lt_succ_self _))
          · exact absurd (List.mem_singleton.mp hm) (Nat.ne_of_gt hlS)
        have hsz : items.size = bs.length := by rw [← Array.length_toList, hi, List.length_map]
        refine loopT (knd := knd) (h0 := s.heap) ((Walks.list hh3 _ l nI items).toS) s.heap.objs.size nS (Heap.get?_none_of_le (Nat.le_refl _)) (fun b hb => Heap.get?_none_of_le (by rw [List.mem_singleton.mp hb, Heap.size_push]; exact Nat.le_succ _)) ks bs (by omega) (by omega) (fun i v hv => ?_) hk (by first | exact hu | simpa using hu) (by omega) (ledW w) items.size 0 _ (setT0 (ledW w)) 0 (.fresh 0 0 (ledW w)) [] rfl (Nat.zero_le _) ⟨⟨_, Heap.get?_push_size _ rfl, rfl, rfl⟩, hl1.push _⟩ (fun b o e => Heap.get?_push_of_some _ (Heap.get?_push_of_some _ e)) ?_ rfl ⟨Nat.le_refl _, fun k => by simp, fun x hx => nomatch hx⟩ fun s' o ep t xs hm hS' hl' hH => ?_
        · have e : items.toList[i]? = some v := by rw [Array.getElem?_toList]; exact hv
          rw [hi, List.getElem?_map] at e
          obtain ⟨b, hb, rfl⟩ := Option.map_eq_some_iff.mp e
          exact ⟨b, hb, rfl⟩
        · exact ⟨Heap.get?_push_of_some _ hS, ⟨rfl, rfl, rfl⟩, rfl, Tab.fresh 0 0 _, by show 0 * 5 < 7 * 3; decide, by show 7 ≤ 15; decide, List.nodup_nil, fun x hx => nomatch hx⟩
        · obtain ⟨h', g', d', tk', os'⟩ := s'
          have eg : g' = s.gens := hm.gens
          have ed : d' = s.drawn := hm.drawn
          have eo : os' = s.os := hm.os
          subst eg ed eo
          rw [hsz] at hH
          refine wpAny_pure (wpAny_pure ⟨rfl, h', tk', o, ep, t, xs, rfl, hS', hl', hH, fun b o e => hm.heap b o ?_ (Heap.get?_push_of_some _ (Heap.get?_push_of_some _ e))⟩)
          have lt := Heap.lt_size e
          rintro (_ | ⟨_, q⟩)
          · exact Nat.lt_irrefl _ lt
          · rw [List.mem_singleton.mp q, Heap.size_push] at lt
            exact absurd lt (Nat.not_lt.mpr (Nat.le_succ _))
      · cases r2 with
        | error e => exact hr2
        | ok fl2 =>
          cases fl2 with
          | ret r =>
            obtain ⟨rfl, h', tk, o, ep, t, xs, rfl, hS', hl', hH, hk'⟩ := hr2
            repeat (any_goals (first | assumption | wp_step))
            exact k _ _ o ep t xs hS' hl' hH hk'
          | _ => exact hr2.elim
    | _ => exact hr.elim
end
end
end Tb

set_option Elab.async false
set_option linter.all false
set_option maxRecDepth 100000
set_option maxHeartbeats 4000000
namespace Tb
open PySem PySem.SetTable
theorem entry_set_iter : entryFor table "set.__iter__" = some Builtin.«frozenset.__iter__» :=
  entryFor_alias (id' := "frozenset.__iter__") (by kernel_rfl) rfl (by decide +kernel) (by kernel_rfl)
theorem slot_seti_next : Slot "set_iterator" "__next__" "set_iterator.__next__" :=
  .of (owner := "set_iterator") (n := "__next__") (by rw [typeLookup_type, builtinLookup_eq_fast]; kernel_rfl) (by decide +kernel) (by decide +kernel) (by decide +kernel)
    (by first | exact .inl (by decide +kernel) | exact .inr (by decide +kernel)) (by rw [isSubtype_type]; kernel_rfl)
theorem entry_seti_next : entryFor table "set_iterator.__next__" = some Builtin.«set_iterator.__next__» := entryFor_of_tree (by kernel_rfl)
theorem args_seti_next (a : Value) : argsOk "set_iterator.__next__" ⟨[a], []⟩ := by unfold argsOk; kernel_rfl
theorem slot_seti_iter : Slot "set_iterator" "__iter__" "set_iterator.__iter__" :=
  .of (owner := "set_iterator") (n := "__iter__") (by rw [typeLookup_type, builtinLookup_eq_fast]; kernel_rfl) (by decide +kernel) (by decide +kernel) (by decide +kernel)
    (by first | exact .inl (by decide +kernel) | exact .inr (by decide +kernel)) (by rw [isSubtype_type]; kernel_rfl)
theorem entry_seti_iter : entryFor table "set_iterator.__iter__" = some Builtin.«dict_keyiterator.__iter__» :=
  entryFor_alias (id' := "dict_keyiterator.__iter__") (by kernel_rfl) rfl (by decide +kernel) (by kernel_rfl)
theorem args_seti_iter (a : Value) : argsOk "set_iterator.__iter__" ⟨[a], []⟩ := by unfold argsOk; kernel_rfl
theorem set_len : typeLookup (.type "set") "__len__" = pure (some (.builtin "set.__len__")) := by rw [typeLookup_type, builtinLookup_eq_fast]; kernel_rfl
section
variable {prog : Program} {w : World} {A : Around} {E : Value → Shared → Prop} {s : Shared}
structure Sat (w : World) (h : Heap) (S : Addr) (es : Array (Int × Value)) (ep : Nat) (t : SetTable) : Prop where
  ob : ∃ o, h.get? S = some o ∧ o.ExactSet ∧ o.data = .set es ep t
  fits : t.fits es.size = true
  led : t.led = !w.params.followText "set-order"
  rise : Rise t.place
theorem Sat.keep {h h' : Heap} {S : Addr} {es : Array (Int × Value)} {ep : Nat} {t : SetTable} (x : Sat w h S es ep t) (k : ∀ o, h.get? S = some o → h'.get? S = some o) : Sat w h' S es ep t := by
  obtain ⟨⟨o, ho, r⟩, a, b, c⟩ := x
  exact ⟨⟨o, k o ho, r⟩, a, b, c⟩
theorem Sat.state {S : Addr} {es : Array (Int × Value)} {ep : Nat} {t : SetTable} {Q : (Array (Int × Value) × Nat × SetTable) → Shared → Prop} (x : Sat w s.heap S es ep t) (h : Q (es, ep, t) s) : wpAny (model prog w) A (setState S) Q E s := by
  obtain ⟨⟨o, ho, _, hd⟩, hf, _, _⟩ := x
  exact wpAny_setState_of ho hd hf h
theorem wp_byText {Q : Bool → Shared → Prop} (h : Q (w.params.followText "set-order") s) : wpAny (model prog w) A setsByText Q E s := by
  unfold setsByText
  exact wpAny_bind (wpAny_askSetting (wpAny_pure h))
def outOf (w : World) (S : Addr) (es : Array (Int × Value)) (ep : Nat) : List (Int × Value) := if w.params.followText "set-order" = true then (pickOrder (w.params.setOrder S ep) es).toList else es.toList
def slOf (w : World) (t : SetTable) : Nat → Nat
  | 0 => 0
  | i + 1 => if w.params.followText "set-order" = true then 0 else t.place.getD i 0 + 1
theorem out_perm (w : World) (S : Addr) (es : Array (Int × Value)) (ep : Nat) : (outOf w S es ep).Perm es.toList := by
  unfold outOf
  split
  · exact pick_perm _ _
  · exact .refl _
def slB (t : SetTable) : Nat → Nat
  | 0 => 0
  | i + 1 => t.place.getD i 0 + 1
theorem below_sl {t : SetTable} (hr : Rise t.place) : ∀ i, i ≤ t.place.size → below t.place (slB t i) = i := by
  intro i hi
  obtain ⟨h1, h2, h3⟩ := below_spec hr (slB t i)
  generalize eb : below t.place (slB t i) = b at h1 h2 h3 ⊢
  rcases Nat.lt_trichotomy b i with c | c | c
  · cases i with
    | zero => omega
    | succ i =>
      have := h3 b (Nat.le_refl _) (by omega)
      rw [show slB t (i + 1) = t.place.getD i 0 + 1 from rfl] at this
      by_cases e : b = i
      · rw [e] at this; omega
      · have := hr b i (by omega) (by omega)
        omega
  · exact c
  · have := h2 i c
    cases i with
    | zero => rw [show slB t 0 = 0 from rfl] at this; omega
    | succ i =>
      rw [show slB t (i + 1) = t.place.getD i 0 + 1 from rfl] at this
      have := hr i (i + 1) (by omega) (by omega)
      omega
theorem wp_next {S : Addr} {es : Array (Int × Value)} {ep : Nat} {t : SetTable} {i : Nat} {Q : Option (Value × Nat) → Shared → Prop} (x : Sat w s.heap S es ep t) (hi : i ≤ es.size) (hd : w.params.followText "set-order" = true ∨ (!t.plain && decide (es.size > 1)) = false)
    (h : Q ((outOf w S es ep)[i]?.map fun e => (e.2, slOf w t (i + 1))) s) : wpAny (model prog w) A (setNext S (slOf w t i) i ep) Q E s := by
  unfold setNext
  refine wpAny_bind (x.state ?_)
  dsimp only
  refine wpAny_bind (wp_byText ?_)
  by_cases c : w.params.followText "set-order" = true
  · rw [if_pos c]
    rw [if_neg (by simp)]
    refine wpAny_bind ?_
    unfold setWalk
    refine wpAny_bind (x.state ?_)
    dsimp only
    refine wpAny_bind (wp_byText ?_)
    rw [if_pos c]
    refine wpAny_bind (wpAny_askSetting (wpAny_pure (wpAny_pure ?_)))
    have e1 : outOf w S es ep = (pickOrder (w.params.setOrder S ep) es).toList := if_pos c
    have e2 : slOf w t (i + 1) = slOf w t i := by
      cases i with
      | zero => exact if_pos c
      | succ i => exact (if_pos c).trans (if_pos c).symm
    rw [e1, e2, Array.getElem?_toList] at h
    exact h
  · rw [if_neg c]
    have hd' := hd.resolve_left c
    have cf : w.params.followText "set-order" = false := Bool.eq_false_iff.mpr c
    have fz := x.fits
    have sz : t.place.size = es.size := by
      unfold SetTable.fits at fz
      have := (Bool.and_eq_true_iff.mp fz).1
      exact eq_of_beq this
    show wpAny (model prog w) A (if (!t.plain && decide (es.size > 1)) = true then _ else _) Q E s
    rw [hd']
    simp only [Bool.false_eq_true, if_false]
    refine wpAny_bind ?_
    show wpAny (model prog w) A (if (!t.led && !es.isEmpty) = true then _ else _) _ E s
    rw [x.led, cf]
    simp only [Bool.not_false, Bool.not_true, Bool.false_and, Bool.false_eq_true, if_false]
    refine wpAny_pure (wpAny_pure ?_)
    have e0 : slOf w t i = slB t i := by
      cases i with
      | zero => rfl
      | succ i => exact if_neg c
    rw [e0, below_sl x.rise i (by omega)]
    have e1 : outOf w S es ep = es.toList := if_neg c
    rw [e1, Array.getElem?_toList] at h
    by_cases lt : i < es.size
    · have g1 : es[i]? = some es[i] := Array.getElem?_eq_getElem lt
      have g2 : t.place[i]? = some (t.place.getD i 0) := getD_some.mpr ⟨by omega, rfl⟩
      have g3 : slOf w t (i + 1) = t.place.getD i 0 + 1 := if_neg c
      rw [g1] at h ⊢
      rw [g2]
      rw [Option.map_some, g3] at h
      exact h
    · have g1 : es[i]? = none := Array.getElem?_eq_none (by omega)
      rw [g1] at h ⊢
      exact h
theorem seti_self {I : Addr} {Q : Value → Shared → Prop} (hT : s.TypeIs (.ref I) "set_iterator") (h : Q (.ref I) s) : wpAny (model prog w) A (pyIter (.ref I)) Q E s := by
  refine wpAny_pyIter_slot hT slot_seti_iter (wpAny_call_entry slot_seti_iter hT entry_seti_iter ?_ (args_seti_iter _))
  show wpAny _ _ (ret (.ref I)) _ _ s
  exact wpAny_pure ⟨_, rfl, "set_iterator", _, hT, slot_seti_next.lookup, h⟩
abbrev itO (first : Value) (i : Nat) (S : Addr) (n ep : Nat) : Obj := { cls := .type "set_iterator", data := .fields #[first, .int i 0, .ref S, .int n 0, .int ep 0] }
theorem wp_stop {α : Type} {Q : α → Shared → Prop} {h : Heap} (hh : A.handled = none) (k : ∀ (h' : Heap) (e : Addr), (∀ b o, h.get? b = some o → h'.get? b = some o) → (∃ o, h'.get? e = some o ∧ o.cls = .type "StopIteration") → E (.ref e) { s with heap := h' }) :
    wpAny (model prog w) A (newExc (.type "StopIteration") [] >>= fun e => (raiseNew e : Sem α)) Q E { s with heap := h } := by
  refine wpAny_bind ?_
  simp only [newExc, newTuple]
  refine wpAny_bind (wpAny_newObj_type ?_ (by size_fits))
  refine wpAny_bind (m := firstArgMember _ _) (wpAny_of_eq (a := Value.none) (by first | rfl | (simp only [firstArgMember]; rfl)) ?_)
  refine wpAny_newObj_type ?_ (by size_fits)
  simp only [raiseNew]
  refine wpAny_bind (wpAny_handled ?_)
  rw [hh]
  refine wpAny_bind (wpAny_pure (wpAny_throw ?_))
  exact k _ _ (fun b o e => Heap.get?_push_of_some _ (Heap.get?_push_of_some _ e)) ⟨_, Heap.get?_push_size _ rfl, rfl⟩
theorem upd_fields {h : Heap} {a : Addr} {cls : Value} {vs : Array Value} {i : Nat} {x : Value} (ho : h.get? a = some { cls := cls, data := .fields vs }) : (h.update a (Obj.mapFields (·.setIfInBounds i x))).get? a = some { cls := cls, data := .fields (vs.setIfInBounds i x) } := Heap.get?_update_self _ ho rfl
theorem walkA (hh : A.handled = none) {S I : Addr} {es : Array (Int × Value)} {ep : Nat} {t : SetTable} (ne : S ≠ I) (hd : w.params.followText "set-order" = true ∨ (!t.plain && decide (es.size > 1)) = false) :
    WalksS prog w A I [I, S] [I] (fun a b => b = a) es.size (fun i v => ((outOf w S es ep).map (·.2))[i]? = some v) (fun i s => Sat w s.heap S es ep t ∧ s.heap.get? I = some (itO (.int (slOf w t i) 0) i S es.size ep)) where
  sub := fun b hb => by rw [List.mem_singleton.mp hb]; exact List.mem_cons_self
  grefl := fun _ => rfl
  gtrans := fun _ _ _ h1 h2 => h2.trans h1
  frame := fun i s h' tk st _ hk => ⟨st.1.keep fun o e => hk S (by simp) o e, hk I (by simp) _ st.2⟩
  item := by
    intro i s Q E hi ⟨x, hI⟩ k
    have hT : s.TypeIs (.ref I) "set_iterator" := ⟨_, hI, rfl⟩
    unfold pyNext
    refine wpAny_bind (wpAny_attempt (wpAny_callSpecial?_slot (name := Str.ofString "__next__") hT slot_seti_next (wpAny_call_entry slot_seti_next hT entry_seti_next ?_ (args_seti_next _))))
    unfold Builtin.«set_iterator.__next__» slotArgs
    simp only [List.isEmpty_nil, Bool.not_true, Bool.false_eq_true, if_false, List.length_nil, bne_self_eq_false]
    refine wpAny_bind (wpAny_bind (wpAny_pure (wpAny_pure ?_)))
    refine wpAny_bind (wpAny_fieldsOf hI rfl ?_)
    dsimp only
    refine wpAny_bind ?_
    unfold setEntries
    refine wpAny_bind (x.state (wpAny_pure ?_))
    dsimp only
    rw [if_neg (by simp)]
    simp only [Int.toNat_natCast]
    refine wpAny_bind (wp_next x (Nat.le_of_lt hi) hd ?_)
    have lo : i < (outOf w S es ep).length := by rw [(out_perm w S es ep).length_eq, Array.length_toList]; exact hi
    rw [List.getElem?_eq_getElem lo, Option.map_some]
    dsimp only
    refine wpAny_bind (wpAny_setField hI rfl (by simp) ?_)
    have hI1 := upd_fields (i := 0) (x := rawInt (slOf w t (i + 1))) hI
    refine wpAny_bind (wpAny_setField hI1 rfl (by simp) ?_)
    have hI2 := upd_fields (i := 1) (x := rawInt ((i : Int) + 1)) hI1
    refine wpAny_pure ⟨_, rfl, wpAny_pure ?_⟩
    have oth : ∀ b o, b ≠ I → s.heap.get? b = some o → ((s.heap.update I (Obj.mapFields (·.setIfInBounds 0 (rawInt (slOf w t (i + 1)))))).update I (Obj.mapFields (·.setIfInBounds 1 (rawInt ((i : Int) + 1))))).get? b = some o := fun b o nb e => (Heap.get?_update_other _ _ (Ne.symm nb)).trans ((Heap.get?_update_other _ _ (Ne.symm nb)).trans e)
    refine k _ _ (by rw [List.getElem?_map, List.getElem?_eq_getElem lo]; rfl) ⟨x.keep fun o e => oth S o ne e, ?_⟩ ⟨fun b o hb e => oth b o (fun z => hb (List.mem_singleton.mpr z)) e, rfl, rfl, rfl, Nat.le_refl _⟩
    exact hI2
  done := by
    intro s Q E ⟨x, hI⟩ k
    have hT : s.TypeIs (.ref I) "set_iterator" := ⟨_, hI, rfl⟩
    unfold pyNext
    refine wpAny_bind (wpAny_attempt (wpAny_callSpecial?_slot (name := Str.ofString "__next__") hT slot_seti_next (wpAny_call_entry slot_seti_next hT entry_seti_next ?_ (args_seti_next _))))
    unfold Builtin.«set_iterator.__next__» slotArgs
    simp only [List.isEmpty_nil, Bool.not_true, Bool.false_eq_true, if_false, List.length_nil, bne_self_eq_false]
    refine wpAny_bind (wpAny_bind (wpAny_pure (wpAny_pure ?_)))
    refine wpAny_bind (wpAny_fieldsOf hI rfl ?_)
    dsimp only
    refine wpAny_bind ?_
    unfold setEntries
    refine wpAny_bind (x.state (wpAny_pure ?_))
    dsimp only
    rw [if_neg (by simp)]
    simp only [Int.toNat_natCast]
    refine wpAny_bind (wp_next x (Nat.le_refl _) hd ?_)
    have lo : (outOf w S es ep)[es.size]? = none := List.getElem?_eq_none (by rw [(out_perm w S es ep).length_eq, Array.length_toList]; exact Nat.le_refl _)
    rw [lo, Option.map_none]
    dsimp only
    refine wpAny_bind (wpAny_setField hI rfl (by simp) ?_)
    have oth : ∀ b o, b ≠ I → s.heap.get? b = some o → (s.heap.update I (Obj.mapFields (·.setIfInBounds 2 Value.none))).get? b = some o := fun b o nb e => (Heap.get?_update_other _ _ (Ne.symm nb)).trans e
    refine wp_stop (s := s) (show A.in1.handled = none from hh) fun h' e kp ⟨o, ho, hc⟩ => ?_
    refine wpAny_bind (wpAny_isInstance (T := "StopIteration") (b := true) ⟨o, ho, hc⟩ isSubtype_stop (wpAny_pure (k _ ⟨fun b o hb q => kp b o (oth b o (fun z => hb (List.mem_singleton.mpr z)) q), rfl, rfl, rfl, Nat.le_refl _⟩)))
  self := by
    intro i s Q E ⟨x, hI⟩ h
    exact seti_self ⟨_, hI, rfl⟩ h
theorem walkC (hh : A.handled = none) {S I T : Addr} {es : Array (Int × Value)} {ep : Nat} {t : SetTable} (ne : S ≠ I) (nT : T ≠ I) {ps : List Nat} (hp : ps.Perm (List.range es.size)) :
    WalksS prog w A I [I, S, T] [I] (fun a b => b = a) es.size (fun i v => ((ps.filterMap (es[·]?)).map (·.2))[i]? = some v) (fun i s => Sat w s.heap S es ep t ∧ s.heap.get? I = some (itO (.ref T) i S es.size ep) ∧ s.heap.get? T = some { cls := .type "tuple", data := .seq (ps.map fun (i : Nat) => rawInt i).toArray }) where
  sub := fun b hb => by rw [List.mem_singleton.mp hb]; exact List.mem_cons_self
  grefl := fun _ => rfl
  gtrans := fun _ _ _ h1 h2 => h2.trans h1
  frame := fun i s h' tk st _ hk => ⟨st.1.keep fun o e => hk S (by simp) o e, hk I (by simp) _ st.2.1, hk T (by simp) _ st.2.2⟩
  item := by
    intro i s Q E hi ⟨x, hI, hTt⟩ k
    have hT : s.TypeIs (.ref I) "set_iterator" := ⟨_, hI, rfl⟩
    unfold pyNext
    refine wpAny_bind (wpAny_attempt (wpAny_callSpecial?_slot (name := Str.ofString "__next__") hT slot_seti_next (wpAny_call_entry slot_seti_next hT entry_seti_next ?_ (args_seti_next _))))
    unfold Builtin.«set_iterator.__next__» slotArgs
    simp only [List.isEmpty_nil, Bool.not_true, Bool.false_eq_true, if_false, List.length_nil, bne_self_eq_false]
    refine wpAny_bind (wpAny_bind (wpAny_pure (wpAny_pure ?_)))
    refine wpAny_bind (wpAny_fieldsOf hI rfl ?_)
    dsimp only
    refine wpAny_bind ?_
    unfold setEntries
    refine wpAny_bind (x.state (wpAny_pure ?_))
    dsimp only
    rw [if_neg (by simp)]
    simp only [Int.toNat_natCast]
    refine wpAny_bind (wpAny_seqItems hTt rfl ?_)
    have lp : ps.length = es.size := by rw [hp.length_eq, List.length_range]
    have li : i < ps.length := by omega
    have lpi : ps[i] < es.size := List.mem_range.mp (hp.mem_iff.mp (List.getElem_mem li))
    have e1 : ((ps.map fun (i : Nat) => rawInt i).toArray)[i]? = some (.int (ps[i] : Nat) 0) := by simp [li, rawInt]
    dsimp only
    rw [e1]
    dsimp only
    refine wpAny_bind ?_
    unfold setNextDrawn
    refine wpAny_bind (x.state ?_)
    dsimp only
    rw [if_neg (by simp)]
    simp only [Int.toNat_natCast]
    rw [Array.getElem?_eq_getElem lpi]
    refine wpAny_pure ?_
    refine wpAny_bind (wpAny_setField hI rfl (by simp) ?_)
    have hI1 := upd_fields (i := 1) (x := rawInt ((i : Int) + 1)) hI
    refine wpAny_pure ⟨_, rfl, wpAny_pure ?_⟩
    have oth : ∀ b o, b ≠ I → s.heap.get? b = some o → (s.heap.update I (Obj.mapFields (·.setIfInBounds 1 (rawInt ((i : Int) + 1))))).get? b = some o := fun b o nb e => (Heap.get?_update_other _ _ (Ne.symm nb)).trans e
    refine k _ _ ?_ ⟨x.keep fun o e => oth S o ne e, hI1, oth T _ nT hTt⟩ ⟨fun b o hb e => oth b o (fun z => hb (List.mem_singleton.mpr z)) e, rfl, rfl, rfl, Nat.le_refl _⟩
    have all : ∀ (l : List Nat), (∀ p ∈ l, p < es.size) → ∀ j : Nat, (l.filterMap (es[·]?))[j]? = (l[j]?).bind (es[·]?) := by
      intro l
      induction l with
      | nil => intro _ j; simp
      | cons p l ih =>
        intro hl j
        have lp := hl p List.mem_cons_self
        rw [List.filterMap_cons, Array.getElem?_eq_getElem lp]
        cases j with
        | zero => simp [lp]
        | succ j =>
          simp only [List.getElem?_cons_succ]
          exact ih (fun q hq => hl q (List.mem_cons_of_mem _ hq)) j
    rw [List.getElem?_map, all ps (fun p hq => List.mem_range.mp (hp.mem_iff.mp hq)) i, List.getElem?_eq_getElem li]
    simp [lpi]
  done := by
    intro s Q E ⟨x, hI, hTt⟩ k
    have hT : s.TypeIs (.ref I) "set_iterator" := ⟨_, hI, rfl⟩
    unfold pyNext
    refine wpAny_bind (wpAny_attempt (wpAny_callSpecial?_slot (name := Str.ofString "__next__") hT slot_seti_next (wpAny_call_entry slot_seti_next hT entry_seti_next ?_ (args_seti_next _))))
    unfold Builtin.«set_iterator.__next__» slotArgs
    simp only [List.isEmpty_nil, Bool.not_true, Bool.false_eq_true, if_false, List.length_nil, bne_self_eq_false]
    refine wpAny_bind (wpAny_bind (wpAny_pure (wpAny_pure ?_)))
    refine wpAny_bind (wpAny_fieldsOf hI rfl ?_)
    dsimp only
    refine wpAny_bind ?_
    unfold setEntries
    refine wpAny_bind (x.state (wpAny_pure ?_))
    dsimp only
    rw [if_neg (by simp)]
    simp only [Int.toNat_natCast]
    refine wpAny_bind (wpAny_seqItems hTt rfl ?_)
    have lp : ps.length = es.size := by rw [hp.length_eq, List.length_range]
    have e1 : ((ps.map fun (i : Nat) => rawInt i).toArray)[es.size]? = none := by simp [lp]
    dsimp only
    rw [e1]
    dsimp only
    refine wpAny_bind (wpAny_setField hI rfl (by simp) ?_)
    have hI1 := upd_fields (i := 0) (x := rawInt 0) hI
    refine wpAny_bind (wpAny_setField hI1 rfl (by simp) ?_)
    have oth : ∀ b o, b ≠ I → s.heap.get? b = some o → ((s.heap.update I (Obj.mapFields (·.setIfInBounds 0 (rawInt 0)))).update I (Obj.mapFields (·.setIfInBounds 2 Value.none))).get? b = some o := fun b o nb e => (Heap.get?_update_other _ _ (Ne.symm nb)).trans ((Heap.get?_update_other _ _ (Ne.symm nb)).trans e)
    refine wp_stop (s := s) (show A.in1.handled = none from hh) fun h' e kp ⟨o, ho, hc⟩ => ?_
    refine wpAny_bind (wpAny_isInstance (T := "StopIteration") (b := true) ⟨o, ho, hc⟩ isSubtype_stop (wpAny_pure (k _ ⟨fun b o hb q => kp b o (oth b o (fun z => hb (List.mem_singleton.mpr z)) q), rfl, rfl, rfl, Nat.le_refl _⟩)))
  self := by
    intro i s Q E ⟨x, hI, _⟩ h
    exact seti_self ⟨_, hI, rfl⟩ h
theorem hint_set {r : Addr} {Q : Bool → Shared → Prop} (hT : s.TypeIs (.ref r) "set") (h : Q false s) : wpAny (model prog w) A (Builtin.List.listLengthHint (.ref r)) Q E s := by
  unfold Builtin.List.listLengthHint
  refine wpAny_bind (wpAny_specialOf hT set_len ?_)
  generalize hid : ("set.__len__" : String) = id0
  wp_delta
  rw [show splitId id0 = some ("set", "__len__") from by subst hid; decide +kernel]
  subst hid
  refine wpAny_bind (wpAny_isInstance (T := "set") (b := true) hT (by rw [isSubtype_type]; kernel_rfl) ?_)
  refine wpAny_ite_split (fun hab => absurd hab (by decide)) (fun _ => ?_)
  refine wpAny_ite_split (fun _ => ?_) (fun hab => absurd (by decide +kernel) hab)
  refine wpAny_bind (wpAny_typeOf hT ?_)
  exact wpAny_pure h
end
end Tb

set_option Elab.async false
set_option linter.all false
set_option maxRecDepth 100000
set_option maxHeartbeats 4000000
namespace Tb
open PySem PySem.SetTable
section
variable {prog : Program} {w : World} {A : Around} {E : Value → Shared → Prop} {s : Shared}
theorem wp_iter {S : Addr} {es : Array (Int × Value)} {ep : Nat} {t : SetTable} {Q : Value → Shared → Prop} (x : Sat w s.heap S es ep t) (hn : es.size ≤ 100000)
    (h1 : (w.params.followText "set-order" = true ∨ (!t.plain && decide (es.size > 1)) = false) → Q (.ref s.heap.objs.size) { s with heap := s.heap.push (itO (.int 0 0) 0 S es.size ep) })
    (h2 : ∀ (ps : List Nat) d, ps.Perm (List.range es.size) → Q (.ref (s.heap.objs.size + 1)) { s with heap := (s.heap.push { cls := .type "tuple", data := .seq (ps.map fun (i : Nat) => rawInt i).toArray }).push (itO (.ref s.heap.objs.size) 0 S es.size ep), drawn := d }) :
    wpAny (model prog w) A (pyIter (.ref S)) Q E s := by
  obtain ⟨o, ho, hex, hd⟩ := x.ob
  have hT : s.TypeIs (.ref S) "set" := ⟨o, ho, hex.1⟩
  refine wpAny_pyIter_slot hT F.slot_set_iter (wpAny_call_entry F.slot_set_iter hT entry_set_iter ?_ (F.args_set_iter_1 _))
  unfold Builtin.«frozenset.__iter__» Builtin.Frozenset.slot0 slotArgs
  simp only [List.isEmpty_nil, Bool.not_true, Bool.false_eq_true, if_false, List.length_nil, bne_self_eq_false]
  refine wpAny_bind (wpAny_bind (wpAny_pure (wpAny_pure ?_)))
  refine wpAny_bind ?_
  unfold Builtin.Frozenset.sizeOf setEntries
  refine wpAny_bind (wpAny_bind (x.state (wpAny_pure (wpAny_pure ?_))))
  dsimp only
  refine wpAny_bind ?_
  unfold setDrawn
  refine wpAny_bind (x.state ?_)
  dsimp only
  refine wpAny_bind (wp_byText ?_)
  refine wpAny_pure ?_
  show wpAny (model prog w) _ (if (!w.params.followText "set-order" && (!t.plain && decide (es.size > 1))) = true then _ else _) _ _ s
  by_cases c : (!w.params.followText "set-order" && (!t.plain && decide (es.size > 1))) = true
  · rw [if_pos c]
    refine wpAny_bind (wp_draw es.size (List.range es.size) s (by simp) fun ps d hp => ?_)
    refine wpAny_bind (m := newTuple _) (wpAny_newObj_type ?_ (by show (ps.map _).toArray.size ≤ _; rw [List.size_toArray, List.length_map, hp.length_eq, List.length_range, sizeLine_eq]; omega))
    have x2 : Sat w (s.heap.push { cls := .type "tuple", data := .seq (ps.map fun (i : Nat) => rawInt i).toArray }) S es ep t := x.keep fun o e => Heap.get?_push_of_some _ e
    refine wpAny_bind ?_
    unfold setEpoch
    refine wpAny_bind (Sat.state (s := { s with heap := s.heap.push { cls := .type "tuple", data := .seq (ps.map fun (i : Nat) => rawInt i).toArray }, drawn := d }) x2 (wpAny_pure ?_))
    refine wpAny_bind (wpAny_newObj_type (wpAny_pure ⟨_, rfl, "set_iterator", _, ⟨_, Heap.get?_push_size _ rfl, rfl⟩, slot_seti_next.lookup, ?_⟩))
    have := h2 ps d hp
    show Q (.ref (s.heap.push { cls := .type "tuple", data := .seq (ps.map fun (i : Nat) => rawInt i).toArray }).objs.size) _
    rw [Heap.size_push]
    exact this
  · rw [if_neg c]
    refine wpAny_bind (wpAny_pure ?_)
    refine wpAny_bind ?_
    unfold setEpoch
    refine wpAny_bind (x.state (wpAny_pure ?_))
    refine wpAny_bind (wpAny_newObj_type (wpAny_pure ⟨_, rfl, "set_iterator", _, ⟨_, Heap.get?_push_size _ rfl, rfl⟩, slot_seti_next.lookup, h1 ?_⟩))
    cases q : w.params.followText "set-order" with
    | true => exact .inl rfl
    | false =>
      rw [q] at c
      simp only [Bool.not_false, Bool.true_and] at c
      exact .inr (Bool.eq_false_iff.mpr c)
theorem perm_of (l : List Value) (acc : Array Value) (ha : ItemsOf (fun i v => l[i]? = some v) acc l.length) : acc.toList = l := by
  refine List.ext_getElem? fun i => ?_
  by_cases c : i < l.length
  · have ci : i < acc.size := by rw [ha.1]; exact c
    have := ha.2 i acc[i] (Array.getElem?_eq_getElem ci)
    rw [this, Array.getElem?_toList, Array.getElem?_eq_getElem ci]
  · rw [List.getElem?_eq_none (by rw [Array.length_toList, ha.1]; omega), List.getElem?_eq_none (by omega)]
theorem rg_get {α : Type} : ∀ l : List α, (List.range l.length).filterMap (fun i => l[i]?) = l
  | [] => rfl
  | x :: l => by
    rw [List.length_cons, List.range_succ_eq_map, List.filterMap_cons]
    show x :: _ = _
    rw [List.filterMap_map]
    congr 1
    exact rg_get l
theorem extend_set {S L : Addr} {es : Array (Int × Value)} {ep : Nat} {t : SetTable} {R : Result → Shared → Prop} {res : Value} {c₀ : Nat} (hh : A.handled = none) (x : Sat w s.heap S es ep t) (hn : es.size ≤ 100000) (neL : L ≠ S) (hL : s.heap.get? L = some { cls := .type "list", data := .seq #[] c₀ })
    (hR : ∀ h' tk d acc c, (∀ b o, b ≠ L → s.heap.get? b = some o → h'.get? b = some o) → h'.get? L = some { cls := .type "list", dict := none, data := .seq acc c, slots := #[] } → acc.toList.Perm (es.toList.map (·.2)) → R (.ok (.ret res)) { s with heap := h', toks := tk, drawn := d }) :
    wpAny (model prog w) A.in1 (Builtin.List.listExtendWith (.ref L) (.ref S) res)
      (fun fin s' => match fin with | .done f => R (.ok f) s' | .again c' => c'.quiet = true ∧ codeAny (model prog w) A c' R s') (fun e s' => R (.error e) s') s := by
  obtain ⟨o, ho, hex, hd⟩ := x.ob
  have hS : S < s.heap.objs.size := Heap.lt_size ho
  have hLl : L < s.heap.objs.size := Heap.lt_size hL
  have key : ∀ (I : Addr) (fp : List Addr) (P : Nat → Value → Prop) (St : Nat → Shared → Prop), WalksS prog w A.in1 I fp [I] (fun a b => b = a) es.size P St → s.heap.objs.size ≤ I → L ∉ fp → (∀ acc : Array Value, ItemsOf P acc es.size → acc.toList.Perm (es.toList.map (·.2))) →
      ∀ (h : Heap) (d : Drawn) (c₁ tk : Nat), (∀ b o, b ≠ L → s.heap.get? b = some o → h.get? b = some o) → h.get? L = some { cls := .type "list", data := .seq #[] c₁ } → St 0 { s with heap := h, toks := tk, drawn := d } →
      codeAny (model prog w) A (.builtin "list.extend.loop" ⟨[.ref L, .ref I, res], []⟩) R { s with heap := h, toks := tk, drawn := d } := by
    intro I fp P St W hI nf hP h d c₁ tk hk hL₁ st
    refine codeAny_extend_loopS W (by rw [sizeLine_eq]; omega) _ nf _ es.size 0 _ _ _ rfl (Nat.zero_le _) st hL₁ (ItemsOf.nil P) fun s' acc' c' hm hS' hacc => ?_
    obtain ⟨h', g', d', tk', os'⟩ := s'
    have eg : g' = s.gens := hm.gens
    have ed : d' = d := hm.drawn
    have eo : os' = s.os := hm.os
    subst eg ed eo
    refine hR h' tk' d' acc' c' (fun b o hb e => hm.heap b o ?_ (hk b o hb e)) hS' (hP acc' hacc)
    have lt := Heap.lt_size e
    intro q
    rcases List.mem_cons.mp q with q | q
    · exact hb q
    · rw [List.mem_singleton.mp q] at lt
      exact absurd (Nat.lt_of_lt_of_le lt hI) (Nat.lt_irrefl _)
  have tail : ∀ (I : Addr) (fp : List Addr) (P : Nat → Value → Prop) (St : Nat → Shared → Prop), WalksS prog w A.in1 I fp [I] (fun a b => b = a) es.size P St → s.heap.objs.size ≤ I → L ∉ fp → (∀ acc : Array Value, ItemsOf P acc es.size → acc.toList.Perm (es.toList.map (·.2))) →
      ∀ (h : Heap) (d : Drawn), (∀ b o, s.heap.get? b = some o → h.get? b = some o) → St 0 { s with heap := h, drawn := d } →
      wpAny (model prog w) A.in1 (Builtin.List.listTouch (.ref L) >>= fun _ => again (.builtin "list.extend.loop" ⟨[.ref L, .ref I, res], []⟩)) (fun fin s' => match fin with | .done f => R (.ok f) s' | .again c' => c'.quiet = true ∧ codeAny (model prog w) A c' R s') (fun e s' => R (.error e) s') { s with heap := h, drawn := d } := by
    intro I fp P St W hI nf hP h d hk st
    refine wpAny_bind ?_
    show wpAny _ A.in1 (updateSeq L (·.push .none) >>= fun _ => updateSeq L (·.pop)) _ _ _
    have hS₁ := hk _ _ hL
    refine wpAny_bind (wpAny_updateSeq (s := { s with heap := h, drawn := d }) hS₁ rfl ?_)
    have hS₂ := Heap.get?_update_self (Obj.mapSeq (·.push Value.none)) hS₁ rfl
    refine wpAny_updateSeq (s := { s with heap := h.update L (Obj.mapSeq (·.push Value.none)), drawn := d }) hS₂ rfl ?_
    have hS₃ := Heap.get?_update_self (Obj.mapSeq (·.pop)) hS₂ rfl
    have oth : ∀ b o, b ≠ L → h.get? b = some o → ((h.update L (Obj.mapSeq (·.push Value.none))).update L (Obj.mapSeq (·.pop))).get? b = some o :=
      fun b o hb e => (Heap.get?_update_other _ _ (Ne.symm hb)).trans ((Heap.get?_update_other _ _ (Ne.symm hb)).trans e)
    exact wpAny_pure ⟨plainId_quiet F.plain_extend_loop _, key I fp P St W hI nf hP _ d _ s.toks (fun b o hb e => oth b o hb (hk b o e)) hS₃ (W.frame 0 { s with heap := h, drawn := d } _ s.toks st (Nat.le_refl _) fun b hb o e => oth b o (fun z => nf (z ▸ hb)) e)⟩
  have hT : s.TypeIs (.ref S) "set" := ⟨o, ho, hex.1⟩
  have e1 : Builtin.List.listSameRef (.ref L) (.ref S) = false := by simp [Builtin.List.listSameRef, neL]
  have e2 : (Value.type "set" == Value.type "list") = false := by decide
  have e3 : (Value.type "set" == Value.type "tuple") = false := by decide
  unfold Builtin.List.listExtendWith
  refine wpAny_bind (wpAny_typeOf (T := "set") hT ?_)
  simp only [e1, e2, e3, Bool.or_false, Bool.false_eq_true, if_false]
  refine wpAny_bind (wp_iter x hn (fun hc => ?_) fun ps d hp => ?_)
  · have W := walkA (prog := prog) (A := A.in1) (ep := ep) (by simpa using hh) (Nat.ne_of_lt hS) hc
    have nf : L ∉ [s.heap.objs.size, S] := fun hb => by
      rcases List.mem_cons.mp hb with q | q
      · exact absurd q (Nat.ne_of_lt hLl)
      · exact neL (List.mem_singleton.mp q)
    have hP : ∀ acc : Array Value, ItemsOf (fun i v => ((outOf w S es ep).map (·.2))[i]? = some v) acc es.size → acc.toList.Perm (es.toList.map (·.2)) := fun acc ha => by
      have lo : ((outOf w S es ep).map (·.2)).length = es.size := by rw [List.length_map, (out_perm w S es ep).length_eq, Array.length_toList]
      rw [← lo] at ha
      rw [perm_of _ acc ha]
      exact (out_perm w S es ep).map _
    have kp : ∀ b o, s.heap.get? b = some o → (s.heap.push (itO (.int 0 0) 0 S es.size ep)).get? b = some o := fun b o e => Heap.get?_push_of_some _ e
    have st : Sat w (s.heap.push (itO (.int 0 0) 0 S es.size ep)) S es ep t ∧ (s.heap.push (itO (.int 0 0) 0 S es.size ep)).get? s.heap.objs.size = some (itO (.int (slOf w t 0) 0) 0 S es.size ep) := ⟨x.keep fun o e => kp _ _ e, Heap.get?_push_size _ rfl⟩
    refine wpAny_bind (wpAny_holding (hint_set ⟨o, kp _ _ ho, hex.1⟩ ?_))
    refine wpAny_ite_split (fun _ => ?_) (fun _ => wpAny_pure ⟨plainId_quiet F.plain_extend_loop _, key _ _ _ _ W (Nat.le_refl _) nf hP _ s.drawn c₀ s.toks (fun b o _ e => kp b o e) (kp _ _ hL) st⟩)
    exact wpAny_bind (wpAny_rule (tail _ _ _ _ W (Nat.le_refl _) nf hP _ s.drawn kp st))
  · have nT : s.heap.objs.size ≠ s.heap.objs.size + 1 := Nat.ne_of_lt (Nat.lt_succ_self _)
    have W := walkC (prog := prog) (w := w) (A := A.in1) (S := S) (I := s.heap.objs.size + 1) (T := s.heap.objs.size) (ep := ep) (t := t) (by simpa using hh) (Nat.ne_of_lt (Nat.lt_succ_of_lt hS)) nT hp
    have nf : L ∉ [s.heap.objs.size + 1, S, s.heap.objs.size] := fun hb => by
      rcases List.mem_cons.mp hb with q | q
      · exact absurd q (Nat.ne_of_lt (Nat.lt_succ_of_lt hLl))
      · rcases List.mem_cons.mp q with q | q
        · exact neL q
        · exact absurd (List.mem_singleton.mp q) (Nat.ne_of_lt hLl)
    have hP : ∀ acc : Array Value, ItemsOf (fun i v => ((ps.filterMap (es[·]?)).map (·.2))[i]? = some v) acc es.size → acc.toList.Perm (es.toList.map (·.2)) := fun acc ha => by
      have hl : (ps.filterMap (es[·]?)).Perm es.toList := by
        have := hp.filterMap (es.toList[·]?)
        rw [← Array.length_toList] at this
        have e4 : (ps.filterMap (es[·]?)) = ps.filterMap (es.toList[·]?) := by simp
        rw [e4]
        rwa [rg_get] at this
      have lo : ((ps.filterMap (es[·]?)).map (·.2)).length = es.size := by rw [List.length_map, hl.length_eq, Array.length_toList]
      rw [← lo] at ha
      rw [perm_of _ acc ha]
      exact hl.map _
    generalize hh2 : (s.heap.push { cls := .type "tuple", data := .seq (ps.map fun (i : Nat) => rawInt i).toArray }).push (itO (.ref s.heap.objs.size) 0 S es.size ep) = hp2
    have kp : ∀ b o, s.heap.get? b = some o → hp2.get? b = some o := fun b o e => by rw [← hh2]; exact Heap.get?_push_of_some _ (Heap.get?_push_of_some _ e)
    have gI : hp2.get? (s.heap.objs.size + 1) = some (itO (.ref s.heap.objs.size) 0 S es.size ep) := by
      have := Heap.get?_push_size (s.heap.push { cls := .type "tuple", data := .seq (ps.map fun (i : Nat) => rawInt i).toArray }) (o := itO (.ref s.heap.objs.size) 0 S es.size ep) rfl
      rw [Heap.size_push] at this
      rw [← hh2]
      exact this
    have gT : hp2.get? s.heap.objs.size = some { cls := .type "tuple", data := .seq (ps.map fun (i : Nat) => rawInt i).toArray } := by rw [← hh2]; exact Heap.get?_push_of_some _ (Heap.get?_push_size _ rfl)
    have st : Sat w hp2 S es ep t ∧ hp2.get? (s.heap.objs.size + 1) = some (itO (.ref s.heap.objs.size) 0 S es.size ep) ∧ hp2.get? s.heap.objs.size = some { cls := .type "tuple", data := .seq (ps.map fun (i : Nat) => rawInt i).toArray } := ⟨x.keep fun o e => kp _ _ e, gI, gT⟩
    refine wpAny_bind (wpAny_holding (hint_set ⟨o, kp _ _ ho, hex.1⟩ ?_))
    refine wpAny_ite_split (fun _ => ?_) (fun _ => wpAny_pure ⟨plainId_quiet F.plain_extend_loop _, key _ _ _ _ W (Nat.le_succ _) nf hP hp2 d c₀ s.toks (fun b o _ e => kp b o e) (kp _ _ hL) st⟩)
    exact wpAny_bind (wpAny_rule (tail _ _ _ _ W (Nat.le_succ _) nf hP hp2 d kp st))
theorem collect_set {S : Addr} {es : Array (Int × Value)} {ep : Nat} {t : SetTable} {R : List Value → Shared → Prop} (hh : A.handled = none) (x : Sat w s.heap S es ep t) (hn : es.size ≤ 100000)
    (h : ∀ h' tk d vs, vs.Perm (es.toList.map (·.2)) → (∀ b o, s.heap.get? b = some o → h'.get? b = some o) → R vs { s with heap := h', toks := tk, drawn := d }) : wpAny (model prog w) A (collect (.ref S)) R E s := by
  obtain ⟨o, ho, hex, hd⟩ := x.ob
  have hS : S < s.heap.objs.size := Heap.lt_size ho
  unfold collect
  refine wpAny_bind (wpAny_runValue (codeAny_builtin F.entry_proto_collect ?_))
  rw [Around.under_plainId F.plain_proto_collect _]
  show wpAny _ A.in1 (newList [] >>= fun l => again (.builtin "list.__iadd__" ⟨[l, .ref S], []⟩)) _ _ s
  refine wpAny_bind (wpAny_newObj_type ?_)
  refine wpAny_pure ⟨plainId_quiet F.plain_list_iadd _, codeAny_builtin F.entry_list_iadd ?_⟩
  rw [Around.under_plainId F.plain_list_iadd _]
  show wpAny _ A.in1 (Builtin.List.listExtendWith (.ref s.heap.objs.size) (.ref S) (.ref s.heap.objs.size)) _ _ _
  have k1 : ∀ b o, s.heap.get? b = some o → (s.heap.push { cls := .type "list", data := .seq ([] : List Value).toArray }).get? b = some o := fun b o e => Heap.get?_push_of_some _ e
  have hL : (s.heap.push { cls := .type "list", data := .seq ([] : List Value).toArray }).get? s.heap.objs.size = some { cls := .type "list", data := .seq #[] } := Heap.get?_push_size _ rfl
  have key := extend_set (prog := prog) (A := A) (s := { s with heap := s.heap.push { cls := .type "list", data := .seq ([] : List Value).toArray } }) (res := .ref s.heap.objs.size)
    (R := fun (q : Result) (s' : Shared) => ∃ (h' : Heap) (tk : Nat) (d : Drawn) (acc' : Array Value) (c' : Nat), q = .ok (.ret (.ref s.heap.objs.size)) ∧ s' = { s with heap := h', toks := tk, drawn := d } ∧
      (∀ b o, s.heap.get? b = some o → h'.get? b = some o) ∧ h'.get? s.heap.objs.size = some { cls := .type "list", dict := none, data := .seq acc' c', slots := #[] } ∧ acc'.toList.Perm (es.toList.map (·.2)))
    hh (x.keep fun o e => k1 _ _ e) hn (Nat.ne_of_gt hS) hL fun h' tk d acc c kp g pm => ⟨h', tk, d, acc, c, rfl, rfl, fun b o e => kp b o (Nat.ne_of_lt (Heap.lt_size e)) (k1 _ _ e), g, pm⟩
  refine wpAny_mono key (fun fin s' x => ?_) fun e s' x => ?_
  · cases fin with
    | done f =>
      obtain ⟨h', tk, d, acc', c', e, rfl, hk, hS', pm⟩ := x
      cases e
      show wpAny _ A (load s.heap.objs.size >>= _) _ _ _
      refine wpAny_bind (wpAny_load hS' ?_)
      exact wpAny_pure (h h' tk d acc'.toList pm hk)
    | again c₁ =>
      refine ⟨x.1, codeAny_mono x.2 fun q s₂ y => ?_⟩
      obtain ⟨h', tk, d, acc', c', rfl, rfl, hk, hS', pm⟩ := y
      show wpAny _ A (load s.heap.objs.size >>= _) _ _ _
      refine wpAny_bind (wpAny_load hS' ?_)
      exact wpAny_pure (h h' tk d acc'.toList pm hk)
  · obtain ⟨_, _, _, _, _, e', _⟩ := x
    cases e'
end
end Tb

set_option Elab.async false
set_option linter.all false
set_option maxRecDepth 100000
set_option maxHeartbeats 4000000
namespace Srt
open PySem PySem.W PyProof.Rows
def ev {α : Type} (lt : Nat → Nat → Bool) : KasT α → α
  | .ret a => a
  | .ask i j k => ev lt (k (lt i j))
theorem ev_bind {α β : Type} {lt : Nat → Nat → Bool} {f : α → KasT β} : ∀ t : KasT α, ev lt (t.bind f) = ev lt (f (ev lt t))
  | .ret _ => rfl
  | .ask i j k => ev_bind (k (lt i j))
section
variable {rk : Nat → Nat}
abbrev ltR (rk : Nat → Nat) (i j : Nat) : Bool := decide (rk i < rk j)
abbrev gK (rk : Nat → Nat) (p : Array Nat) (k : Nat) : Nat := rk (p.getD k 0)
theorem gK_congr {p q : Array Nat} {i j : Nat} (h : p[i]? = q[j]?) : gK rk p i = gK rk q j := by
  unfold gK
  rw [Array.getD_eq_getD_getElem?, Array.getD_eq_getD_getElem?, h]
theorem gK_bubble {p : Array Nat} {src d : Nat} (hs : src < p.size) (hd : d ≤ src) (k : Nat) : gK rk (bubble p src d) k = if k = src - d then gK rk p src else if src - d < k ∧ k ≤ src then gK rk p (k - 1) else gK rk p k := by
  have e := getElem?_bubble hs d hd k
  by_cases h1 : k = src - d
  · rw [if_pos h1] at e ⊢
    exact gK_congr e
  · rw [if_neg h1] at e ⊢
    by_cases h2 : src - d < k ∧ k ≤ src
    · rw [if_pos h2] at e ⊢
      exact gK_congr e
    · rw [if_neg h2] at e ⊢
      exact gK_congr e
theorem gK_rev {p : Array Nat} {i j : Nat} (hj : j ≤ p.size) (k : Nat) : gK rk (kas_rev p i j) k = if i ≤ k ∧ k < j then gK rk p (i + j - 1 - k) else gK rk p k := by
  have e := getElem?_mirror_all (i := i) hj k
  unfold kas_rev
  by_cases h1 : i ≤ k ∧ k < j
  · rw [if_pos h1] at e ⊢
    exact gK_congr e
  · rw [if_neg h1] at e ⊢
    exact gK_congr e
theorem rev_size (p : Array Nat) (i j : Nat) : (kas_rev p i j).size = p.size := mirror_size _ _ _ _
theorem rev_perm (p : Array Nat) (i j : Nat) : (kas_rev p i j).Perm p := mirror_perm _ _ _ _
def Up (rk : Nat → Nat) (p : Array Nat) (n : Nat) : Prop := ∀ i j, i ≤ j → j < n → gK rk p i ≤ gK rk p j
def Dn (rk : Nat → Nat) (p : Array Nat) (n : Nat) : Prop := ∀ i j, i ≤ j → j < n → gK rk p j ≤ gK rk p i
theorem Up.more {p : Array Nat} {n : Nat} (h : Up rk p n) (h1 : 1 ≤ n) (hn : gK rk p (n - 1) ≤ gK rk p n) : Up rk p (n + 1) := fun i j hij hj => by
  by_cases e : j = n
  · subst e
    by_cases e2 : i = j
    · rw [e2]; exact Nat.le_refl _
    · exact Nat.le_trans (h i (j - 1) (by omega) (by omega)) hn
  · exact h i j hij (by omega)
theorem Dn.more {p : Array Nat} {n : Nat} (h : Dn rk p n) (h1 : 1 ≤ n) (hn : gK rk p n ≤ gK rk p (n - 1)) : Dn rk p (n + 1) := fun i j hij hj => by
  by_cases e : j = n
  · subst e
    by_cases e2 : i = j
    · rw [e2]; exact Nat.le_refl _
    · exact Nat.le_trans hn (h i (j - 1) (by omega) (by omega))
  · exact h i j hij (by omega)
theorem ev_asc {p : Array Nat} : ∀ (f n : Nat), 1 ≤ n → Up rk p n → n ≤ ev (ltR rk) (kas_asc p f n) ∧ ev (ltR rk) (kas_asc p f n) ≤ n + f ∧ Up rk p (ev (ltR rk) (kas_asc p f n)) ∧ (ev (ltR rk) (kas_asc p f n) = n + f ∨ gK rk p (ev (ltR rk) (kas_asc p f n)) < gK rk p (ev (ltR rk) (kas_asc p f n) - 1))
  | 0, n, _, hu => ⟨Nat.le_refl _, Nat.le_refl _, hu, .inl rfl⟩
  | f + 1, n, h1, hu => by
    show n ≤ ev _ (if ltR rk (p.getD n 0) (p.getD (n - 1) 0) = true then KasT.ret n else kas_asc p f (n + 1)) ∧ _
    show n ≤ ev (ltR rk) (if ltR rk (p.getD n 0) (p.getD (n - 1) 0) = true then KasT.ret n else kas_asc p f (n + 1)) ∧ ev (ltR rk) (if ltR rk (p.getD n 0) (p.getD (n - 1) 0) = true then KasT.ret n else kas_asc p f (n + 1)) ≤ n + (f + 1) ∧ Up rk p (ev (ltR rk) (if ltR rk (p.getD n 0) (p.getD (n - 1) 0) = true then KasT.ret n else kas_asc p f (n + 1))) ∧ (ev (ltR rk) (if ltR rk (p.getD n 0) (p.getD (n - 1) 0) = true then KasT.ret n else kas_asc p f (n + 1)) = n + (f + 1) ∨ gK rk p (ev (ltR rk) (if ltR rk (p.getD n 0) (p.getD (n - 1) 0) = true then KasT.ret n else kas_asc p f (n + 1))) < gK rk p (ev (ltR rk) (if ltR rk (p.getD n 0) (p.getD (n - 1) 0) = true then KasT.ret n else kas_asc p f (n + 1)) - 1))
    by_cases c : ltR rk (p.getD n 0) (p.getD (n - 1) 0) = true
    · rw [if_pos c]
      exact ⟨Nat.le_refl _, Nat.le_add_right _ _, hu, .inr (of_decide_eq_true c)⟩
    · rw [if_neg c]
      have c' : gK rk p (n - 1) ≤ gK rk p n := Nat.le_of_not_lt fun h => c (decide_eq_true h)
      obtain ⟨a1, a2, a3, a4⟩ := ev_asc f (n + 1) (by omega) (hu.more h1 c')
      exact ⟨by omega, by omega, a3, a4.imp (fun e => by omega) id⟩
structure Fall (rk : Nat → Nat) (p : Array Nat) (n q : Nat) : Prop where
  dn : Dn rk p n
  q1 : q + 1 ≤ n
  eq : ∀ k, n - (q + 1) ≤ k → k < n → gK rk p k = gK rk p (n - 1)
theorem rev_alike {p : Array Nat} {i j : Nat} (hj : j ≤ p.size) (he : ∀ k, i ≤ k → k < j → gK rk p k = gK rk p (j - 1)) (k : Nat) : gK rk (kas_rev p i j) k = gK rk p k := by
  rw [gK_rev hj]
  split
  · rw [he _ (by omega) (by omega), he k (by omega) (by omega)]
  · rfl
theorem Dn.of {p p' : Array Nat} {n : Nat} (h : Dn rk p n) (e : ∀ k, gK rk p' k = gK rk p k) : Dn rk p' n := fun i j hij hj => by rw [e, e]; exact h i j hij hj
theorem ev_desc : ∀ (f : Nat) (p : Array Nat) (n q : Nat), n + f ≤ p.size → Fall rk p n q → ∃ p' m q', ev (ltR rk) (kas_desc f p n q) = (p', m, q') ∧ p'.Perm p ∧ n ≤ m ∧ m ≤ n + f ∧ Fall rk p' m q'
  | 0, p, n, q, _, hf => ⟨p, n, q, rfl, .refl _, Nat.le_refl _, Nat.le_refl _, hf⟩
  | f + 1, p, n, q, hs, hf => by
    have q1 := hf.q1
    show ∃ p' m q', ev (ltR rk) (if ltR rk (p.getD n 0) (p.getD (n - 1) 0) = true then (if q > 0 then kas_desc f (kas_rev p (n - (q + 1)) n) (n + 1) 0 else kas_desc f p (n + 1) 0) else .ask (p.getD (n - 1) 0) (p.getD n 0) fun d => if d = true then .ret (p, n, q) else kas_desc f p (n + 1) (q + 1)) = (p', m, q') ∧ _
    by_cases c : ltR rk (p.getD n 0) (p.getD (n - 1) 0) = true
    · rw [if_pos c]
      have c' : gK rk p n < gK rk p (n - 1) := of_decide_eq_true c
      by_cases hq : q > 0
      · rw [if_pos hq]
        have al := rev_alike (rk := rk) (p := p) (i := n - (q + 1)) (j := n) (by omega) hf.eq
        obtain ⟨p', m, q', e, hp, h1, h2, h3⟩ := ev_desc f (kas_rev p (n - (q + 1)) n) (n + 1) 0 (by rw [rev_size]; omega) ⟨(hf.dn.of al).more (by omega) (by rw [al, al]; omega), by omega, fun k hk1 hk2 => by rw [show k = n by omega]; rfl⟩
        exact ⟨p', m, q', e, hp.trans (rev_perm _ _ _), by omega, by omega, h3⟩
      · rw [if_neg hq]
        obtain ⟨p', m, q', e, hp, h1, h2, h3⟩ := ev_desc f p (n + 1) 0 (by omega) ⟨hf.dn.more (by omega) (by omega), by omega, fun k hk1 hk2 => by rw [show k = n by omega]; rfl⟩
        exact ⟨p', m, q', e, hp, by omega, by omega, h3⟩
    · rw [if_neg c]
      have c' : gK rk p (n - 1) ≤ gK rk p n := Nat.le_of_not_lt fun h => c (decide_eq_true h)
      show ∃ p' m q', ev (ltR rk) (if ltR rk (p.getD (n - 1) 0) (p.getD n 0) = true then .ret (p, n, q) else kas_desc f p (n + 1) (q + 1)) = (p', m, q') ∧ _
      by_cases d : ltR rk (p.getD (n - 1) 0) (p.getD n 0) = true
      · rw [if_pos d]
        exact ⟨p, n, q, rfl, .refl _, Nat.le_refl _, Nat.le_add_right _ _, hf⟩
      · rw [if_neg d]
        have d' : gK rk p n ≤ gK rk p (n - 1) := Nat.le_of_not_lt fun h => d (decide_eq_true h)
        obtain ⟨p', m, q', e, hp, h1, h2, h3⟩ := ev_desc f p (n + 1) (q + 1) (by omega) ⟨hf.dn.more (by omega) d', by omega, fun k hk1 hk2 => by
          show gK rk p k = gK rk p n
          by_cases ek : k = n
          · rw [ek]
          · rw [hf.eq k (by omega) (by omega)]; omega⟩
        exact ⟨p', m, q', e, hp, by omega, by omega, h3⟩
theorem ev_tail {p : Array Nat} {n N : Nat} (h1 : 1 ≤ n) (hn : n ≤ N) (hN : N ≤ p.size) (hd : Dn rk p n) : ∃ m p', ev (ltR rk) (kas_tail3 n N p) = (m, p') ∧ p'.Perm p ∧ 1 ≤ m ∧ m ≤ N ∧ Up rk p' m := by
  unfold kas_tail3
  rw [ev_bind]
  have hu : Up rk (kas_rev p 0 n) n := fun i j hij hj => by
    rw [gK_rev (by omega), gK_rev (by omega), if_pos (by omega), if_pos (by omega)]
    exact hd _ _ (by omega) (by omega)
  obtain ⟨a1, a2, a3, _⟩ := ev_asc (rk := rk) (p := kas_rev p 0 n) (N - n) n h1 hu
  exact ⟨_, _, rfl, rev_perm _ _ _, by omega, by omega, a3⟩
theorem ev_descPart {p : Array Nat} {n N : Nat} (h1 : 1 ≤ n) (hn : n < N) (hN : N ≤ p.size) (hd : Dn rk p (n + 1)) : ∃ m p', ev (ltR rk) (kas_descPart n N p) = (m, p') ∧ p'.Perm p ∧ 1 ≤ m ∧ m ≤ N ∧ Up rk p' m := by
  unfold kas_descPart
  rw [ev_bind]
  obtain ⟨p', m, q', e, hp, a1, a2, hf⟩ := ev_desc (rk := rk) (N - (n + 1)) p (n + 1) 0 (by omega) ⟨hd, by omega, fun k hk1 hk2 => by rw [show k = n by omega]; rfl⟩
  rw [e]
  have sz : p'.size = p.size := hp.size_eq
  show ∃ m1 p1, ev (ltR rk) (if q' > 0 then kas_tail3 m N (kas_rev p' (m - (q' + 1)) m) else kas_tail3 m N p') = (m1, p1) ∧ _
  by_cases hq : q' > 0
  · rw [if_pos hq]
    have al := rev_alike (rk := rk) (p := p') (i := m - (q' + 1)) (j := m) (by omega) hf.eq
    obtain ⟨m1, p1, e1, hp1, b1, b2, b3⟩ := ev_tail (rk := rk) (p := kas_rev p' (m - (q' + 1)) m) (n := m) (N := N) (by omega) (by omega) (by rw [rev_size]; omega) (hf.dn.of al)
    exact ⟨m1, p1, e1, (hp1.trans (rev_perm _ _ _)).trans hp, b1, b2, b3⟩
  · rw [if_neg hq]
    obtain ⟨m1, p1, e1, hp1, b1, b2, b3⟩ := ev_tail (rk := rk) (p := p') (n := m) (N := N) (by omega) (by omega) (by omega) hf.dn
    exact ⟨m1, p1, e1, hp1.trans hp, b1, b2, b3⟩
theorem ev_count {p : Array Nat} {N : Nat} (h1 : 1 ≤ N) (hN : N ≤ p.size) : ∃ m p', ev (ltR rk) (kas_count N p) = (m, p') ∧ p'.Perm p ∧ 1 ≤ m ∧ m ≤ N ∧ Up rk p' m := by
  unfold kas_count
  rw [ev_bind]
  obtain ⟨a1, a2, a3, a4⟩ := ev_asc (rk := rk) (p := p) (N - 1) 1 (Nat.le_refl _) (fun i j hij hj => by rw [show i = j by omega]; exact Nat.le_refl _)
  generalize ev (ltR rk) (kas_asc p (N - 1) 1) = n at a1 a2 a3 a4
  by_cases hnn : n = N
  · rw [if_pos (by simpa using hnn)]
    exact ⟨n, p, rfl, .refl _, by omega, by omega, a3⟩
  · rw [if_neg (by simpa using hnn)]
    have hlt : gK rk p n < gK rk p (n - 1) := a4.resolve_left (by omega)
    by_cases hgt : n > 1
    · rw [if_pos hgt]
      show ∃ m p', ev (ltR rk) (if ltR rk (p.getD 0 0) (p.getD (n - 1) 0) = true then .ret (n, p) else kas_descPart n N (kas_rev p 0 n)) = (m, p') ∧ _
      by_cases c : ltR rk (p.getD 0 0) (p.getD (n - 1) 0) = true
      · rw [if_pos c]
        exact ⟨n, p, rfl, .refl _, by omega, by omega, a3⟩
      · rw [if_neg c]
        have c' : gK rk p (n - 1) ≤ gK rk p 0 := Nat.le_of_not_lt fun h => c (decide_eq_true h)
        have hall : ∀ k, 0 ≤ k → k < n → gK rk p k = gK rk p (n - 1) := fun k _ hk => by
          have b1 := a3 0 k (by omega) hk
          have b2 := a3 k (n - 1) (by omega) (by omega)
          omega
        have al := rev_alike (rk := rk) (p := p) (i := 0) (j := n) (by omega) hall
        obtain ⟨m1, p1, e1, hp1, b1, b2, b3⟩ := ev_descPart (rk := rk) (p := kas_rev p 0 n) (n := n) (N := N) (by omega) (by omega) (by rw [rev_size]; omega) (fun i j hij hj => by
          rw [al, al]
          by_cases hjn : j = n
          · by_cases hin : i = n
            · rw [hin, hjn]; exact Nat.le_refl _
            · rw [hjn, hall i (by omega) (by omega)]; omega
          · rw [hall i (by omega) (by omega), hall j (by omega) (by omega)]; exact Nat.le_refl _)
        exact ⟨m1, p1, e1, hp1.trans (rev_perm _ _ _), b1, b2, b3⟩
    · rw [if_neg hgt]
      have e1 : n = 1 := by omega
      subst e1
      have hlt : gK rk p 1 < gK rk p 0 := hlt
      exact ev_descPart (by omega) (by omega) hN fun i j hij hj => by
        by_cases e : i = j
        · rw [e]; exact Nat.le_refl _
        · rw [show i = 0 by omega, show j = 1 by omega]; omega
theorem ev_place {p : Array Nat} {k : Nat} (hu : Up rk p k) : ∀ (f l r : Nat), l ≤ r → r ≤ k → r - l ≤ f → (∀ i, i < l → gK rk p i ≤ gK rk p k) → (∀ i, r ≤ i → i < k → gK rk p k ≤ gK rk p i) → ∃ x, ev (ltR rk) (kas_place p k f l r) = x ∧ x ≤ k ∧ (∀ i, i < x → gK rk p i ≤ gK rk p k) ∧ ∀ i, x ≤ i → i < k → gK rk p k ≤ gK rk p i
  | 0, l, r, h1, h2, h3, h4, h5 => ⟨l, rfl, by omega, h4, fun i a b => h5 i (by omega) b⟩
  | f + 1, l, r, h1, h2, h3, h4, h5 => by
    show ∃ x, ev (ltR rk) (if l ≥ r then KasT.ret l else .ask (p.getD k 0) (p.getD ((l + r) / 2) 0) fun c => if c = true then kas_place p k f l ((l + r) / 2) else kas_place p k f ((l + r) / 2 + 1) r) = x ∧ _
    by_cases c : l ≥ r
    · rw [if_pos c]
      exact ⟨l, rfl, by omega, h4, fun i a b => h5 i (by omega) b⟩
    · rw [if_neg c]
      show ∃ x, ev (ltR rk) (if ltR rk (p.getD k 0) (p.getD ((l + r) / 2) 0) = true then kas_place p k f l ((l + r) / 2) else kas_place p k f ((l + r) / 2 + 1) r) = x ∧ _
      by_cases d : ltR rk (p.getD k 0) (p.getD ((l + r) / 2) 0) = true
      · rw [if_pos d]
        have d' : gK rk p k < gK rk p ((l + r) / 2) := of_decide_eq_true d
        exact ev_place hu f l ((l + r) / 2) (by omega) (by omega) (by omega) h4 fun i a b => Nat.le_trans (Nat.le_of_lt d') (hu _ i a b)
      · rw [if_neg d]
        have d' : gK rk p ((l + r) / 2) ≤ gK rk p k := Nat.le_of_not_lt fun h => d (decide_eq_true h)
        exact ev_place hu f ((l + r) / 2 + 1) r (by omega) h2 (by omega) (fun i hi => Nat.le_trans (hu i ((l + r) / 2) (by omega) (by omega)) d') h5
theorem ev_bin : ∀ (f : Nat) (p : Array Nat) (k : Nat), k + f ≤ p.size → Up rk p k → ∃ p', ev (ltR rk) (kas_bin f p k) = p' ∧ p'.Perm p ∧ Up rk p' (k + f)
  | 0, p, k, _, hu => ⟨p, rfl, .refl _, hu⟩
  | f + 1, p, k, hs, hu => by
    show ∃ p', ev (ltR rk) ((kas_place p k k 0 k).bind fun l => kas_bin f (bubble p k (k - l)) (k + 1)) = p' ∧ _
    rw [ev_bind]
    obtain ⟨x, e, hx, h1, h2⟩ := ev_place hu k 0 k (Nat.zero_le _) (Nat.le_refl _) (by omega) (fun i hi => absurd hi (Nat.not_lt_zero _)) fun i a b => by omega
    rw [e]
    have hb := fun j => gK_bubble (rk := rk) (p := p) (src := k) (d := k - x) (by omega) (by omega) j
    rw [show k - (k - x) = x by omega] at hb
    have hu' : Up rk (bubble p k (k - x)) (k + 1) := fun i j hij hj => by
      rw [hb, hb]
      by_cases c1 : i = x
      · rw [if_pos c1]
        by_cases c2 : j = x
        · rw [if_pos c2]; exact Nat.le_refl _
        · rw [if_neg c2, if_pos (by omega)]
          exact h2 (j - 1) (by omega) (by omega)
      · rw [if_neg c1]
        by_cases c3 : x < i ∧ i ≤ k
        · rw [if_pos c3, if_neg (by omega), if_pos (by omega)]
          exact hu _ _ (by omega) (by omega)
        · rw [if_neg c3]
          by_cases c2 : j = x
          · rw [if_pos c2]
            exact h1 i (by omega)
          · rw [if_neg c2]
            by_cases c4 : x < j ∧ j ≤ k
            · rw [if_pos c4]
              exact hu _ _ (by omega) (by omega)
            · rw [if_neg c4]
              exact hu _ _ hij (by omega)
    obtain ⟨p', e', hp, hu2⟩ := ev_bin f (bubble p k (k - x)) (k + 1) (by rw [bubble_size]; omega) hu'
    exact ⟨p', e', hp.trans (bubble_perm _ _ _), by rw [show k + (f + 1) = k + 1 + f by omega]; exact hu2⟩
theorem ev_sort {n : Nat} (h1 : 1 ≤ n) : ∃ p, ev (ltR rk) (kas_sort n) = p ∧ p.toList.Perm (List.range n) ∧ Up rk p n := by
  unfold kas_sort
  rw [ev_bind]
  have sz : (List.toArray (List.range n)).size = n := by simp
  obtain ⟨m, p, e, hp, b1, b2, hu⟩ := ev_count (rk := rk) (p := List.toArray (List.range n)) (N := n) h1 (by omega)
  rw [e]
  have sp : p.size = n := by rw [hp.size_eq, sz]
  have hl : p.toList.Perm (List.range n) := by
    have := Array.perm_iff_toList_perm.mp hp
    simpa using this
  show ∃ p1, ev (ltR rk) (if m < n then kas_bin (n - max m 1) p (max m 1) else KasT.ret p) = p1 ∧ _
  by_cases c : m < n
  · rw [if_pos c, show max m 1 = m by omega]
    obtain ⟨p', e', hp', hu'⟩ := ev_bin (rk := rk) (n - m) p m (by omega) hu
    exact ⟨p', e', (Array.perm_iff_toList_perm.mp hp').trans hl, by rw [show n = m + (n - m) by omega]; exact hu'⟩
  · rw [if_neg c]
    exact ⟨p, rfl, hl, by rw [show n = m by omega]; exact hu⟩
end
end Srt

set_option Elab.async false
set_option linter.all false
set_option maxRecDepth 100000
set_option maxHeartbeats 4000000
namespace Srt
open PySem PySem.W PyProof.Rows
def Asks {α : Type} (n : Nat) (P : α → Prop) : KasT α → Prop
  | .ret a => P a
  | .ask i j k => i < n ∧ j < n ∧ ∀ b, Asks n P (k b)
theorem Asks.bind {α β : Type} {n : Nat} {P : α → Prop} {R : β → Prop} {f : α → KasT β} : ∀ {t : KasT α}, Asks n P t → (∀ a, P a → Asks n R (f a)) → Asks n R (t.bind f)
  | .ret a, h, k => k a h
  | .ask i j g, h, k => ⟨h.1, h.2.1, fun b => Asks.bind (h.2.2 b) k⟩
theorem ev_wpI {α : Type} {n : Nat} {P : α → Prop} {lt : Nat → Nat → Bool} {cmp : Nat → Nat → (Bool → Shared → Prop) → Shared → Prop} {J : Shared → Prop} {Q : α → Shared → Prop} (hc : ∀ i j C s, i < n → j < n → J s → (∀ s', J s' → C (lt i j) s') → cmp i j C s) : ∀ (t : KasT α) (s : Shared), Asks n P t → J s → (∀ s', J s' → Q (ev lt t) s') → t.kasWp cmp Q s
  | .ret _, s, _, hj, h => h s hj
  | .ask i j k, s, a, hj, h => hc i j _ s a.1 a.2.1 hj fun s' hj' => ev_wpI hc (k (lt i j)) s' (a.2.2 _) hj' h
def Bd (n : Nat) (p : Array Nat) : Prop := ∀ x ∈ p, x < n
theorem Bd.getD {n : Nat} {p : Array Nat} (h : Bd n p) (h0 : 0 < n) (k : Nat) : p.getD k 0 < n := by
  by_cases c : k < p.size
  · have e : p.getD k 0 = p[k] := by simp [Array.getD, c]
    rw [e]
    exact h _ (Array.getElem_mem c)
  · have e : p.getD k 0 = 0 := by simp [Array.getD, c]
    rw [e]
    exact h0
theorem Bd.perm {n : Nat} {p q : Array Nat} (h : Bd n p) (hp : q.Perm p) : Bd n q := fun x hx => h x (hp.mem_iff.mp hx)
section
variable {n : Nat} (h0 : 0 < n)
include h0
theorem asks_asc {p : Array Nat} (hb : Bd n p) : ∀ f m, Asks n (fun _ => True) (kas_asc p f m)
  | 0, m => trivial
  | f + 1, m => ⟨hb.getD h0 _, hb.getD h0 _, fun b => by
    cases b with
    | true => exact trivial
    | false => exact asks_asc hb f (m + 1)⟩
theorem asks_desc : ∀ (f : Nat) (p : Array Nat) (m q : Nat), Bd n p → Asks n (fun r : Array Nat × Nat × Nat => Bd n r.1) (kas_desc f p m q)
  | 0, p, m, q, hb => hb
  | f + 1, p, m, q, hb => ⟨hb.getD h0 _, hb.getD h0 _, fun b => by
    cases b with
    | true =>
      show Asks n _ (if q > 0 then kas_desc f (kas_rev p (m - (q + 1)) m) (m + 1) 0 else kas_desc f p (m + 1) 0)
      split
      · exact asks_desc f _ _ _ (hb.perm (rev_perm _ _ _))
      · exact asks_desc f _ _ _ hb
    | false =>
      refine ⟨hb.getD h0 _, hb.getD h0 _, fun d => ?_⟩
      cases d with
      | true => exact hb
      | false => exact asks_desc f p (m + 1) (q + 1) hb⟩
theorem asks_tail {p : Array Nat} (hb : Bd n p) (m N : Nat) : Asks n (fun r : Nat × Array Nat => Bd n r.2) (kas_tail3 m N p) :=
  (asks_asc h0 (hb.perm (rev_perm _ _ _)) _ _).bind fun _ _ => hb.perm (rev_perm _ _ _)
theorem asks_descPart {p : Array Nat} (hb : Bd n p) (m N : Nat) : Asks n (fun r : Nat × Array Nat => Bd n r.2) (kas_descPart m N p) :=
  (asks_desc h0 _ _ _ _ hb).bind fun r hr => by
    split
    · exact asks_tail h0 (hr.perm (rev_perm _ _ _)) _ _
    · exact asks_tail h0 hr _ _
theorem asks_count {p : Array Nat} (hb : Bd n p) (N : Nat) : Asks n (fun r : Nat × Array Nat => Bd n r.2) (kas_count N p) :=
  (asks_asc h0 hb _ _).bind fun m _ => by
    split
    · exact hb
    · split
      · refine ⟨hb.getD h0 _, hb.getD h0 _, fun b => ?_⟩
        cases b with
        | true => exact hb
        | false => exact asks_descPart h0 (hb.perm (rev_perm _ _ _)) _ _
      · exact asks_descPart h0 hb _ _
theorem asks_place {p : Array Nat} (hb : Bd n p) (k : Nat) : ∀ f l r, Asks n (fun _ => True) (kas_place p k f l r)
  | 0, l, r => trivial
  | f + 1, l, r => by
    unfold kas_place
    split
    · exact trivial
    · refine ⟨hb.getD h0 _, hb.getD h0 _, fun b => ?_⟩
      cases b with
      | true => exact asks_place hb k f _ _
      | false => exact asks_place hb k f _ _
theorem asks_bin : ∀ (f : Nat) (p : Array Nat) (k : Nat), Bd n p → Asks n (Bd n) (kas_bin f p k)
  | 0, p, k, hb => hb
  | f + 1, p, k, hb => (asks_place h0 hb k _ _ _).bind fun l _ => asks_bin f _ _ (hb.perm (bubble_perm _ _ _))
theorem asks_sort : Asks n (Bd n) (kas_sort n) :=
  (asks_count h0 (p := List.toArray (List.range n)) (fun x hx => by simpa using hx) n).bind fun r hr => by
    split
    · exact asks_bin h0 _ _ _ hr
    · exact hr
end
end Srt

set_option Elab.async false
set_option linter.all false
set_option maxRecDepth 100000
set_option maxHeartbeats 4000000
namespace Srt
open PySem PySem.W PyProof.Rows PySem.Calls
section
variable {prog : Program} {w : World} {A : Around} {E : Value → Shared → Prop} {s : Shared} {vs : List Value}
def Tk (s s' : Shared) : Prop := ∃ t, s' = { s with toks := t }
theorem Tk.refl (s : Shared) : Tk s s := ⟨s.toks, rfl⟩
abbrev hp3 (h : Heap) (a : Addr) (vs : List Value) : Heap := ((h.update a (Obj.mapSeq fun _ => (#[] : Array Value))).push (seqObj "tuple" vs.toArray 0)).push (seqObj "list" #[] 0)
theorem sort_asked {a : Addr} {n : Nat} {P : PySem.Fin → Shared → Prop} {κ : SortKind} {rk : Nat → Nat} (ho : s.heap.get? a = some (seqObj "list" vs.toArray n)) (h2 : 2 ≤ vs.length) (h64 : vs.length < 64)
    (hk : ∀ s', Tk { s with heap := hp3 s.heap a vs } s' → wpAny (model prog w) A (keyKind' vs.toArray) (fun k s2 => k = κ ∧ Tk { s with heap := hp3 s.heap a vs } s2) (fun _ _ => False) s')
    (hc : ∀ i j C s', i < vs.length → j < vs.length → Tk { s with heap := hp3 s.heap a vs } s' → (∀ s2, Tk { s with heap := hp3 s.heap a vs } s2 → C (ltR rk i j) s2) → kas_ask prog w A κ vs i j C s')
    (k : ∀ (p : Array Nat) (h' : Heap) (tk c : Nat), p.toList.Perm (List.range vs.length) → Up rk p vs.length → h'.get? a = some (seqObj "list" (List.toArray (p.toList.map fun i => vs.getD i Value.none)) c) → (∀ b o, b ≠ a → s.heap.get? b = some o → h'.get? b = some o) → P (.done (.ret .none)) { s with heap := h', toks := tk }) :
    wpAny (model prog w) A (Builtin.«list.sort» ⟨[.ref a], []⟩) P E s := by
  have la : a < s.heap.objs.size := Heap.lt_size ho
  obtain ⟨e1, ho1⟩ : ∃ e1, (s.heap.update a (Obj.mapSeq fun _ => (#[] : Array Value))).get? a = some (seqObj "list" #[] e1) := ⟨_, get?_update_seq ho fun _ => #[]⟩
  have ha3 : (hp3 s.heap a vs).get? a = some (seqObj "list" #[] e1) := Heap.get?_push_of_some _ (Heap.get?_push_of_some _ ho1)
  have old3 : ∀ b o, b ≠ a → s.heap.get? b = some o → (hp3 s.heap a vs).get? b = some o := fun b o nb q => Heap.get?_push_of_some _ (Heap.get?_push_of_some _ ((Heap.SameBut.update s.heap a _).extBut b o nb q))
  rw [list_sort_plain]
  refine wpAny_bind (listItems_at ho rfl ?_)
  refine wpAny_bind (listUpdate_at ho rfl ?_ (by rw [List.size_toArray, sizeLine_eq]; omega) (Nat.zero_le _))
  refine wpAny_bind (seqEpoch_at ho1 rfl ?_)
  refine wpAny_bind (wpAny_newTuple ?_ (by show vs.length ≤ _; rw [sizeLine_eq]; omega))
  refine wpAny_bind (wpAny_newList ?_ (Nat.zero_le _))
  refine wpAny_holding ?_
  show wpAny (model prog w) A _ P E { s with heap := hp3 s.heap a vs }
  dsimp only
  have big : ¬ vs.toArray.size < 2 := by rw [List.size_toArray]; omega
  rw [if_neg big, if_neg big]
  refine wpAny_bind (wpAny_mono (hk _ (Tk.refl _)) (fun kd s0 hq => ?_) fun _ _ x => x.elim)
  obtain ⟨rfl, t0⟩ := hq
  obtain ⟨p, ep, hp, hu⟩ := ev_sort (rk := rk) (n := vs.length) (by omega)
  have hrun : (kas_sort vs.length).kasWp (kas_ask prog w A kd vs) (fun q s' => q = p ∧ Tk { s with heap := hp3 s.heap a vs } s') s0 := ev_wpI (lt := ltR rk) (J := Tk { s with heap := hp3 s.heap a vs }) hc _ s0 (asks_sort (by omega)) t0 fun s' t' => ⟨ep, t'⟩
  refine wpAny_bind (wpAny_mono (kat_run (Q := fun st' s' => arrOf st' = p.map (kas_item (vs.toArray.zip vs.toArray)) ∧ failedOf st' = none ∧ Tk { s with heap := hp3 s.heap a vs } s') rfl h2 h64 (fun p' st' s' a1 a2 a3 a4 => by
    obtain ⟨rfl, t'⟩ := a4
    exact ⟨a2, a3, t'⟩) hrun) ?_ fun _ _ e => e)
  rintro ⟨⟨⟩, st'⟩ s' ⟨har, hf, tk, rfl⟩
  dsimp only
  rw [kat_snds rfl har]
  have lp : (p.toList.map fun i => vs.getD i Value.none).length = vs.length := by rw [List.length_map, hp.length_eq, List.length_range]
  obtain ⟨out, eo⟩ : ∃ out, out = p.toList.map fun i => vs.getD i Value.none := ⟨_, rfl⟩
  rw [← eo] at lp ⊢
  obtain ⟨c2, hc2⟩ : ∃ c2, ((hp3 s.heap a vs).update a (Obj.mapSeq fun _ => out.toArray)).get? a = some (seqObj "list" out.toArray c2) := ⟨_, get?_update_seq ha3 fun _ => out.toArray⟩
  refine wpAny_bind (seqEpoch_at ha3 rfl ?_)
  refine wpAny_bind (listUpdate_at ha3 rfl ?_ (Nat.zero_le _) (by rw [List.size_toArray, lp, sizeLine_eq]; omega))
  rw [hf]
  simp only [bne_self_eq_false, Bool.false_eq_true, if_false]
  refine wpAny_pure (k p _ tk c2 hp hu ?_ fun b o nb q => (Heap.SameBut.update (hp3 s.heap a vs) a _).extBut b o nb (old3 b o nb q))
  rw [← eo]
  exact hc2
theorem sort_few {a : Addr} {n : Nat} {P : PySem.Fin → Shared → Prop} (ho : s.heap.get? a = some (seqObj "list" vs.toArray n)) (h2 : vs.length < 2)
    (k : ∀ (h' : Heap) (c : Nat), h'.get? a = some (seqObj "list" vs.toArray c) → (∀ b o, b ≠ a → s.heap.get? b = some o → h'.get? b = some o) → P (.done (.ret .none)) { s with heap := h' }) :
    wpAny (model prog w) A (Builtin.«list.sort» ⟨[.ref a], []⟩) P E s := by
  obtain ⟨e1, ho1⟩ : ∃ e1, (s.heap.update a (Obj.mapSeq fun _ => (#[] : Array Value))).get? a = some (seqObj "list" #[] e1) := ⟨_, get?_update_seq ho fun _ => #[]⟩
  have ha3 : (hp3 s.heap a vs).get? a = some (seqObj "list" #[] e1) := Heap.get?_push_of_some _ (Heap.get?_push_of_some _ ho1)
  have old3 : ∀ b o, b ≠ a → s.heap.get? b = some o → (hp3 s.heap a vs).get? b = some o := fun b o nb q => Heap.get?_push_of_some _ (Heap.get?_push_of_some _ ((Heap.SameBut.update s.heap a _).extBut b o nb q))
  rw [list_sort_plain]
  refine wpAny_bind (listItems_at ho rfl ?_)
  refine wpAny_bind (listUpdate_at ho rfl ?_ (by rw [List.size_toArray, sizeLine_eq]; omega) (Nat.zero_le _))
  refine wpAny_bind (seqEpoch_at ho1 rfl ?_)
  refine wpAny_bind (wpAny_newTuple ?_ (by show vs.length ≤ _; rw [sizeLine_eq]; omega))
  refine wpAny_bind (wpAny_newList ?_ (Nat.zero_le _))
  refine wpAny_holding ?_
  show wpAny (model prog w) A _ P E { s with heap := hp3 s.heap a vs }
  dsimp only
  have few : vs.toArray.size < 2 := by rw [List.size_toArray]; omega
  rw [if_pos few, if_pos few]
  refine wpAny_bind (wpAny_pure ?_)
  refine wpAny_bind (wpAny_pure ?_)
  dsimp only
  have es : (arrOf (SortSt.mk' general' (vs.toArray.zip vs.toArray) #[] 7 none)).map (·.2) = vs.toArray := by
    show (vs.toArray.zip vs.toArray).map (·.2) = vs.toArray
    apply Array.toList_inj.mp
    simp [List.map_snd_zip]
  rw [es]
  obtain ⟨c2, hc2⟩ : ∃ c2, ((hp3 s.heap a vs).update a (Obj.mapSeq fun _ => vs.toArray)).get? a = some (seqObj "list" vs.toArray c2) := ⟨_, get?_update_seq ha3 fun _ => vs.toArray⟩
  refine wpAny_bind (seqEpoch_at ha3 rfl ?_)
  refine wpAny_bind (listUpdate_at ha3 rfl ?_ (Nat.zero_le _) (by rw [List.size_toArray, sizeLine_eq]; omega))
  simp only [bne_self_eq_false, Bool.false_eq_true, if_false]
  exact wpAny_pure (k _ c2 hc2 fun b o nb q => (Heap.SameBut.update (hp3 s.heap a vs) a _).extBut b o nb (old3 b o nb q))
end
end Srt

set_option Elab.async false
set_option linter.all false
set_option maxRecDepth 100000
set_option maxHeartbeats 4000000
namespace Srt
open PySem PySem.W PyProof.Rows PySem.Calls
abbrev ltS (a b : Str) : Bool := decide (a.cps.toList < b.cps.toList)
def ltRow : List Str → List Str → Bool
  | _, [] => false
  | [], _ :: _ => true
  | a :: r, b :: q => if a = b then ltRow r q else ltS a b
theorem ltS_irrefl (a : Str) : ltS a a = false := decide_eq_false (List.lt_irrefl _)
theorem ltS_trans {a b c : Str} (h1 : ltS a b = true) (h2 : ltS b c = true) : ltS a c = true := decide_eq_true (List.lt_trans (of_decide_eq_true h1) (of_decide_eq_true h2))
theorem ltS_total {a b : Str} (h : ltS a b = false) (h2 : ltS b a = false) : a = b := by
  have h1 := List.not_lt.mp (of_decide_eq_false h)
  have h3 := List.not_lt.mp (of_decide_eq_false h2)
  exact ext_toList (List.le_antisymm h3 h1)
theorem ltRow_irrefl : ∀ a, ltRow a a = false
  | [] => rfl
  | a :: r => by
    unfold ltRow
    rw [if_pos rfl]
    exact ltRow_irrefl r
theorem ltRow_trans : ∀ {a b c : List Str}, ltRow a b = true → ltRow b c = true → ltRow a c = true
  | _, [], [], _, h => by unfold ltRow at h; cases h
  | _, _ :: _, [], _, h => by unfold ltRow at h; cases h
  | _, [], _ :: _, h, _ => by unfold ltRow at h; cases h
  | [], _ :: _, _ :: _, _, _ => rfl
  | a :: r, b :: q, c :: p, h1, h2 => by
    unfold ltRow at h1 h2 ⊢
    by_cases e1 : a = b
    · subst e1
      rw [if_pos rfl] at h1
      by_cases e2 : a = c
      · rw [if_pos e2] at h2 ⊢
        exact ltRow_trans h1 h2
      · rw [if_neg e2] at h2 ⊢
        exact h2
    · rw [if_neg e1] at h1
      by_cases e2 : b = c
      · subst e2
        rw [if_neg e1]
        exact h1
      · rw [if_neg e2] at h2
        have h3 := ltS_trans h1 h2
        have ne : a ≠ c := fun e => by rw [e, ltS_irrefl] at h3; cases h3
        rw [if_neg ne]
        exact h3
theorem ltRow_total : ∀ {a b : List Str}, ltRow a b = false → ltRow b a = false → a = b
  | [], [], _, _ => rfl
  | [], _ :: _, h, _ => by unfold ltRow at h; cases h
  | _ :: _, [], _, h => by unfold ltRow at h; cases h
  | a :: r, b :: q, h1, h2 => by
    unfold ltRow at h1 h2
    by_cases e : a = b
    · subst e
      rw [if_pos rfl] at h1 h2
      rw [ltRow_total h1 h2]
    · rw [if_neg e] at h1
      rw [if_neg (Ne.symm e)] at h2
      exact (e (ltS_total h1 h2)).elim
abbrev leRow (a b : List Str) : Bool := !ltRow b a
theorem leRow_trans (a b c : List Str) (h1 : leRow a b = true) (h2 : leRow b c = true) : leRow a c = true := by
  have h1' : ltRow b a = false := by simpa using h1
  have h2' : ltRow c b = false := by simpa using h2
  cases q : ltRow c a with
  | false => simp [leRow, q]
  | true =>
    cases p : ltRow a b with
    | true => rw [ltRow_trans q p] at h2'; cases h2'
    | false => rw [ltRow_total p h1', h2'] at q; cases q
theorem leRow_total (a b : List Str) : (leRow a b || leRow b a) = true := by
  cases q : ltRow b a with
  | false => simp [leRow, q]
  | true =>
    cases p : ltRow a b with
    | false => simp [leRow, p]
    | true => have := ltRow_trans q p; rw [ltRow_irrefl] at this; cases this
theorem leRow_anti {a b : List Str} (h1 : leRow a b = true) (h2 : leRow b a = true) : a = b := ltRow_total (by simpa using h2) (by simpa using h1)
def sortR (l : List (List Str)) : List (List Str) := l.mergeSort leRow
theorem sortR_perm (l : List (List Str)) : (sortR l).Perm l := List.mergeSort_perm l leRow
theorem sortR_pair (l : List (List Str)) : (sortR l).Pairwise (fun a b => leRow a b = true) := List.pairwise_mergeSort leRow_trans leRow_total l
theorem perm_eqR : ∀ {l m : List (List Str)}, l.Perm m → l.Pairwise (fun a b => leRow a b = true) → m.Pairwise (fun a b => leRow a b = true) → l = m
  | [], m, h, _, _ => (List.nil_perm.mp h).symm
  | a :: l, [], h, _, _ => absurd h.length_eq (by simp)
  | a :: l, b :: m, h, h1, h2 => by
    have e : a = b := by
      rcases List.mem_cons.mp (h.mem_iff.mp (List.mem_cons_self (a := a) (l := l))) with e | e
      · exact e
      · rcases List.mem_cons.mp (h.mem_iff.mpr (List.mem_cons_self (a := b) (l := m))) with q | q
        · exact q.symm
        · exact leRow_anti (List.rel_of_pairwise_cons h1 q) (List.rel_of_pairwise_cons h2 e)
    subst e
    rw [perm_eqR (List.perm_cons a |>.mp h) (List.pairwise_cons.mp h1).2 (List.pairwise_cons.mp h2).2]
theorem sortR_of {l zs : List (List Str)} (h : l.Perm zs) (hs : l.Pairwise (fun a b => leRow a b = true)) : l = sortR zs := perm_eqR (h.trans (sortR_perm zs).symm) hs (sortR_pair zs)
theorem sortR_congr {l m : List (List Str)} (h : l.Perm m) : sortR l = sortR m := sortR_of ((sortR_perm l).trans h) (sortR_pair l)
def rkR (rows : List (List Str)) (i : Nat) : Nat := rows.countP fun r => ltRow r (rows.getD i [])
theorem rk_lt {rows : List (List Str)} {i j : Nat} (hi : i < rows.length) (hj : j < rows.length) : ltR (rkR rows) i j = ltRow (rows.getD i []) (rows.getD j []) := by
  have mono : ∀ a b : List Str, ltRow a b = true → (∀ r ∈ rows, ltRow r a = true → ltRow r b = true) := fun a b h r _ hr => ltRow_trans hr h
  have strict : ∀ i j, i < rows.length → ltRow (rows.getD i []) (rows.getD j []) = true → rkR rows i < rkR rows j := fun i j hi h => by
    have hm : rows.getD i [] ∈ rows := by
      rw [List.getD_eq_getElem?_getD, List.getElem?_eq_getElem hi]
      exact List.getElem_mem hi
    unfold rkR
    obtain ⟨l1, l2, e⟩ := List.append_of_mem hm
    generalize rows.getD i [] = a at h hm e
    generalize rows.getD j [] = b at h
    have c1 : ∀ l : List (List Str), (l.countP fun r => ltRow r a) ≤ l.countP fun r => ltRow r b := fun l => List.countP_mono_left fun r _ hr => ltRow_trans hr h
    rw [e, List.countP_append, List.countP_append, List.countP_cons, List.countP_cons, ltRow_irrefl, h]
    have := c1 l1
    have := c1 l2
    simp
    omega
  cases q : ltRow (rows.getD i []) (rows.getD j []) with
  | true => exact decide_eq_true (strict i j hi q)
  | false =>
    refine decide_eq_false (Nat.not_lt.mpr ?_)
    cases p : ltRow (rows.getD j []) (rows.getD i []) with
    | true => exact Nat.le_of_lt (strict j i hj p)
    | false =>
      have e := ltRow_total q p
      unfold rkR
      rw [e]
      exact Nat.le_refl _
inductive RowIs : List Str → List Value → Prop where
  | nil : RowIs [] []
  | cons {z : Str} {t : Tok} {zs : List Str} {vs : List Value} : RowIs zs vs → RowIs (z :: zs) (.str z t :: vs)
def TupIs (h : Heap) (v : Value) (zs : List Str) : Prop := ∃ a o its n, v = .ref a ∧ h.get? a = some o ∧ o.cls = .type "tuple" ∧ o.data = .seq its n ∧ RowIs zs its.toList
theorem TupIs.mono {h h' : Heap} {v : Value} {zs : List Str} (x : TupIs h v zs) (kp : ∀ b o, h.get? b = some o → h'.get? b = some o) : TupIs h' v zs := by
  obtain ⟨a, o, its, n, e, ho, r⟩ := x
  exact ⟨a, o, its, n, e, kp _ _ ho, r⟩
section
variable {prog : Program} {w : World} {A : Around} {E : Value → Shared → Prop} {s : Shared}
theorem eq_str {a b : Str} {t u : Tok} {Q : Bool → Shared → Prop} (h : Q (decide (a = b)) s) : wpAny (model prog w) A (eqBool (.str a t) (.str b u)) Q E s :=
  (PySem.strKind prog w).eqBool (a := a) (b := b) (strKind_is _ _ _ _) (strKind_is _ _ _ _) h
theorem lex_row {C : Bool → Shared → Prop} {fin : Bool} : ∀ (xs ys : List Str) (vs us : List Value) (i : Nat) (s : Shared), RowIs xs vs → RowIs ys us → (fin = decide (xs.length < ys.length)) → C (ltRow xs ys) s → KatLex prog w A true fin C (vs.zip us) i s
  | [], [], _, _, i, s, .nil, .nil, hf, h => by
    refine kat_nil ?_
    rw [hf]
    exact h
  | [], _ :: _, _, _, i, s, .nil, .cons r, hf, h => by
    refine kat_nil ?_
    rw [hf]
    exact h
  | _ :: _, [], _, _, i, s, .cons r, .nil, hf, h => by
    refine kat_nil ?_
    rw [hf]
    exact h
  | a :: xs, b :: ys, _, _, i, s, .cons (t := t) r1, .cons (t := u) r2, hf, h => by
    refine kat_cons (eq_str ?_)
    unfold ltRow at h
    by_cases e : a = b
    · rw [decide_eq_true e]
      rw [if_pos e] at h
      refine kat_yes (lex_row xs ys _ _ (i + 1) s r1 r2 ?_ h)
      rw [hf]
      simp
    · rw [decide_eq_false e]
      rw [if_neg e] at h
      refine kat_no ?_
      cases i with
      | zero => exact oneLt_str h
      | succ i =>
        have e2 : (true && (i + 1 == 0)) = false := by simp
        rw [e2]
        refine kat_one _ _ ?_
        exact PyProof.Rows.lt_str h
theorem lt_row {x y : Value} {xs ys : List Str} {C : Bool → Shared → Prop} (hx : TupIs s.heap x xs) (hy : TupIs s.heap y ys) (h : C (ltRow xs ys) s) : wpAny (model prog w) A (keyLt' (tuples' true) x y) C E s := by
  obtain ⟨a, o, its, n, rfl, ho, hc, hd, hr⟩ := hx
  obtain ⟨b, p, itq, m, rfl, hp, hpc, hpd, hq⟩ := hy
  refine kat_lt ho hd hp hpd (lex_row xs ys _ _ 0 s hr hq ?_ h)
  have len : ∀ {zs : List Str} {vs : List Value}, RowIs zs vs → zs.length = vs.length := by
    intro zs vs r
    induction r with
    | nil => rfl
    | cons _ ih => simp [ih]
  rw [len hr, len hq, Array.length_toList, Array.length_toList]
theorem kind_row {vs : List Value} {rows : List (List Str)} {Q : SortKind → Shared → Prop} (hl : vs.length = rows.length) (h2 : 2 ≤ vs.length) (ht : ∀ (i : Nat) v r, vs[i]? = some v → rows[i]? = some r → TupIs s.heap v r) (hne : ∀ r ∈ rows, r ≠ []) (h : Q (tuples' true) s) : wpAny (model prog w) A (keyKind' vs.toArray) Q E s := by
  have key : ∀ (vs : List Value) (rows : List (List Str)), vs.length = rows.length → (∀ (i : Nat) v r, vs[i]? = some v → rows[i]? = some r → TupIs s.heap v r) → (∀ r ∈ rows, r ≠ []) → ∃ fs, KatTups s.heap vs fs ∧ fs.length = vs.length ∧ ∀ f ∈ fs, ∃ z t, f = Value.str z t := by
    intro vs
    induction vs with
    | nil => intro rows hl _ _; exact ⟨[], KatTups.nil, rfl, fun f hf => nomatch hf⟩
    | cons v vs ih =>
      intro rows hl ht hne
      cases rows with
      | nil => simp at hl
      | cons r rows =>
        obtain ⟨fs, h1, h2, h3⟩ := ih rows (by simpa using hl) (fun i v' r' e1 e2 => ht (i + 1) v' r' (by simpa using e1) (by simpa using e2)) fun r' hr => hne r' (List.mem_cons_of_mem _ hr)
        obtain ⟨a, o, its, n, rfl, ho, hc, hd, hr⟩ := ht 0 v r rfl rfl
        cases r with
        | nil => exact (hne [] List.mem_cons_self rfl).elim
        | cons z zs =>
          generalize eL : its.toList = L at hr
          cases hr with
          | @cons _ t _ vs' hr' =>
            have e0 : its[0]? = some (.str z t) := by rw [← Array.getElem?_toList, eL]; rfl
            refine ⟨.str z t :: fs, KatTups.cons ho hc hd e0 h1, by simp [h2], fun f hf => ?_⟩
            rcases List.mem_cons.mp hf with rfl | hf
            · exact ⟨z, t, rfl⟩
            · exact h3 f hf
  obtain ⟨fs, h1, h3, h4⟩ := key vs rows hl ht hne
  refine kat_kind (T := .type "str") h1 (by omega) (fun v hv => ?_) (by decide) ?_
  · obtain ⟨z, t, rfl⟩ := h4 v hv
    exact Looks.of_pure rfl
  · have e : ((Value.type "str") != Value.type "tuple") = true := by decide
    rw [e]
    exact h
theorem sort_rows {a : Addr} {n : Nat} {vs : List Value} {rows : List (List Str)} {P : PySem.Fin → Shared → Prop} (ho : s.heap.get? a = some (seqObj "list" vs.toArray n)) (hl : vs.length = rows.length) (ht : ∀ (i : Nat) v r, vs[i]? = some v → rows[i]? = some r → TupIs s.heap v r) (hne : 2 ≤ rows.length → ∀ r ∈ rows, r ≠ []) (h64 : vs.length < 64)
    (k : ∀ (h' : Heap) (tk c : Nat) (us : List Value), h'.get? a = some (seqObj "list" us.toArray c) → (∀ b o, b ≠ a → s.heap.get? b = some o → h'.get? b = some o) → us.Perm vs → (∀ (i : Nat) v r, us[i]? = some v → (sortR rows)[i]? = some r → TupIs s.heap v r) → P (.done (.ret .none)) { s with heap := h', toks := tk }) :
    wpAny (model prog w) A (Builtin.«list.sort» ⟨[.ref a], []⟩) P E s := by
  by_cases c2 : vs.length < 2
  · refine sort_few ho c2 fun h' c g kp => ?_
    have e : sortR rows = rows := by
      have : rows.length < 2 := by omega
      match rows, this with
      | [], _ => exact (sortR_of (.refl _) .nil).symm
      | [r], _ => exact (sortR_of (.refl _) (by simp)).symm
      | _ :: _ :: _, q => simp at q; omega
    rw [e] at k
    exact k h' s.toks c vs g kp (.refl _) ht
  · have na : ∀ v r, TupIs s.heap v r → v ≠ .ref a := fun v r x z => by
      obtain ⟨b, o, its, m, rfl, hb, hc, _⟩ := x
      cases z
      rw [ho] at hb
      cases hb
      have hc' : Value.type "list" = Value.type "tuple" := hc
      injection hc' with z
      exact absurd z (by decide)
    have ht3 : ∀ s', Tk { s with heap := hp3 s.heap a vs } s' → ∀ (i : Nat) v r, vs[i]? = some v → rows[i]? = some r → TupIs s'.heap v r := fun s' ⟨t, e⟩ i v r e1 e2 => by
      subst e
      have x := ht i v r e1 e2
      have ne := na v r x
      obtain ⟨b, o, its, m, rfl, hb, r⟩ := x
      have nb : b ≠ a := fun z => ne (by rw [z])
      exact ⟨b, o, its, m, rfl, Heap.get?_push_of_some _ (Heap.get?_push_of_some _ ((Heap.SameBut.update s.heap a _).extBut b o nb hb)), r⟩
    refine sort_asked (κ := tuples' true) (rk := rkR rows) ho (by omega) h64 (fun s' tk => ?_) (fun i j C s' hi hj tk q => ?_) fun p h' tk c hp hu g kp => ?_
    · exact kind_row hl (by omega) (ht3 s' tk) (hne (by omega)) ⟨rfl, tk⟩
    · have gi : vs.getD i Value.none = vs[i] := by simp [hi]
      have gj : vs.getD j Value.none = vs[j] := by simp [hj]
      have ri : rows.getD i [] = rows[i] := by simp [show i < rows.length by omega]
      have rj : rows.getD j [] = rows[j] := by simp [show j < rows.length by omega]
      unfold kas_ask
      rw [gi, gj]
      refine lt_row (xs := rows[i]) (ys := rows[j]) (ht3 s' tk i _ _ (List.getElem?_eq_getElem hi) (List.getElem?_eq_getElem (by omega))) (ht3 s' tk j _ _ (List.getElem?_eq_getElem hj) (List.getElem?_eq_getElem (by omega))) ?_
      have := q s' tk
      rw [rk_lt (by omega) (by omega), ri, rj] at this
      exact this
    · have lp : p.size = vs.length := by rw [← Array.length_toList, hp.length_eq, List.length_range]
      have ltp : ∀ i ∈ p.toList, i < vs.length := fun i hi => List.mem_range.mp (hp.mem_iff.mp hi)
      have rg : ∀ {α : Type} (l : List α) (d : α), (List.range l.length).map (fun i => l.getD i d) = l := fun l d => by
        refine List.ext_getElem (by simp) fun i h1 h2 => ?_
        simp [h2]
      refine k h' tk c _ g kp ?_ fun i v r e1 e2 => ?_
      · have := hp.map fun i => vs.getD i Value.none
        rwa [rg] at this
      · have er : p.toList.map (fun i => rows.getD i []) = sortR rows := by
          refine sortR_of ?_ ?_
          · have := hp.map fun i => rows.getD i []
            rw [hl] at this
            rwa [rg] at this
          · refine List.pairwise_map.mpr (List.pairwise_iff_getElem.mpr fun x y hx hy hxy => ?_)
            have hx' : x < p.size := by simpa using hx
            have hy' : y < p.size := by simpa using hy
            have := hu x y (Nat.le_of_lt hxy) (by omega)
            unfold gK at this
            have ex : p.getD x 0 = p.toList[x] := by simp [Array.getD, hx']
            have ey : p.getD y 0 = p.toList[y] := by simp [Array.getD, hy']
            rw [ex, ey] at this
            have q := rk_lt (rows := rows) (i := p.toList[y]) (j := p.toList[x]) (by have := ltp _ (List.getElem_mem hy); omega) (by have := ltp _ (List.getElem_mem hx); omega)
            have q2 : ltR (rkR rows) p.toList[y] p.toList[x] = false := decide_eq_false (Nat.not_lt.mpr this)
            rw [q2] at q
            show (!ltRow _ _) = true
            rw [← q]
            rfl
        rw [← er, List.getElem?_map] at e2
        rw [List.getElem?_map] at e1
        obtain ⟨x, hx, rfl⟩ := Option.map_eq_some_iff.mp e1
        rw [hx, Option.map_some] at e2
        cases e2
        have lx := ltp x (List.mem_of_getElem? hx)
        refine ht x _ _ ?_ ?_
        · rw [List.getElem?_eq_getElem lx]; simp [lx]
        · rw [List.getElem?_eq_getElem (by omega)]; simp [show x < rows.length by omega]
end
end Srt

set_option Elab.async false
set_option linter.all false
set_option maxRecDepth 100000
set_option maxHeartbeats 4000000
namespace L2
open PySem PySem.Spec PyProof.Rows Srt
abbrev RowsAt (K : PySem.W.Frag) (H : Hp) : List V → List (List Str) → Prop := Paired fun (y : V) (zs : List Str) => ∃ a, y = .ref a ∧ SqT K H a (zs.map V.str)
theorem rowIs_of : ∀ {zs : List Str} {us : List Value}, Vals (zs.map V.str) us → RowIs zs us
  | [], _, .nil => .nil
  | z :: r, _, .cons ⟨t, e⟩ h => by
    subst e
    exact .cons (rowIs_of h)
theorem keyRow {P : Program} {w : World} : ∀ {zs : List Str} {us : List Value}, Vals (zs.map V.str) us → ItemsAre (mixKind P w) (zs.map Sum.inr) us
  | [], _, .nil => .nil
  | z :: r, _, .cons ⟨t, e⟩ h => by
    subst e
    exact .cons (mixKind_str _ _ _ _) (keyRow h)
section
variable {X : Cx} {pins : List (Addr × Obj)} {σ : St} {H : Hp} {s : Shared}
theorem Inv.row (I : Inv X pins σ H s) {a : Addr} {zs : List Str} (h : SqT X.K H a (zs.map V.str)) : TupIs s.heap (.ref a) zs ∧ IsTupleKey (mixKind X.prog X.w) s.heap (zs.map Sum.inr) a := by
  obtain ⟨its, r, ⟨o, e, c, n, d⟩, _⟩ := I.tuple h
  exact ⟨⟨a, o, its.toArray, n, rfl, e, c, d, by simpa using rowIs_of r⟩, ⟨o, its.toArray, n, e, c, d, by simpa using keyRow r⟩⟩
theorem Inv.rows (I : Inv X pins σ H s) : ∀ {ys : List V} {rows : List (List Str)} {us : List Value}, RowsAt X.K H ys rows → Vals ys us → ∃ bs : List Addr, us = bs.map Value.ref ∧ ys = bs.map V.ref ∧ bs.length = rows.length ∧ ∀ (i : Nat) z b, rows[i]? = some z → bs[i]? = some b → SqT X.K H b (z.map V.str)
  | _, _, _, .nil, .nil => ⟨[], rfl, rfl, rfl, fun i z b e => by simp at e⟩
  | _, _, _, .cons (b := zs) ⟨a, e, h⟩ r, .cons (b := u) ru q => by
    obtain ⟨bs, h1, h2, h3, h4⟩ := I.rows r q
    subst e
    cases (show u = Value.ref a from ru)
    refine ⟨a :: bs, by rw [h1]; rfl, by rw [h2]; rfl, by simp [h3], fun i z b e1 e2 => ?_⟩
    cases i with
    | zero => cases e1; cases e2; exact h
    | succ i => exact h4 i z b (by simpa using e1) (by simpa using e2)
end
theorem rows_mk {K : PySem.W.Frag} {H : Hp} : ∀ {bs : List Addr} {rows : List (List Str)}, bs.length = rows.length → (∀ (i : Nat) z b, rows[i]? = some z → bs[i]? = some b → SqT K H b (z.map V.str)) → RowsAt K H (bs.map V.ref) rows
  | [], [], _, _ => .nil
  | [], _ :: _, h, _ => by simp at h
  | _ :: _, [], h, _ => by simp at h
  | b :: bs, z :: rows, h, k => .cons ⟨b, rfl, k 0 z b rfl rfl⟩ (rows_mk (by simpa using h) fun i z' b' e1 e2 => k (i + 1) z' b' (by simpa using e1) (by simpa using e2))
theorem vals_rf : ∀ bs : List Addr, Vals (bs.map V.ref) (bs.map Value.ref)
  | [] => .nil
  | b :: bs => .cons rfl (vals_rf bs)
def unref : Value → Addr
  | .ref a => a
  | _ => 0
theorem refs_of {us : List Value} {bs : List Addr} (h : us.Perm (bs.map Value.ref)) : ∃ cs : List Addr, us = cs.map Value.ref ∧ cs.Perm bs := by
  have all : ∀ {us : List Value}, (∀ u ∈ us, ∃ b, u = Value.ref b) → ∃ cs : List Addr, us = cs.map Value.ref := by
    intro us
    induction us with
    | nil => intro _; exact ⟨[], rfl⟩
    | cons u us ih =>
      intro hu
      obtain ⟨b, rfl⟩ := hu u List.mem_cons_self
      obtain ⟨cs, rfl⟩ := ih fun v hv => hu v (List.mem_cons_of_mem _ hv)
      exact ⟨b :: cs, rfl⟩
  obtain ⟨cs, rfl⟩ := all (us := us) fun u hu => by
    obtain ⟨b, _, e⟩ := List.mem_map.mp (h.mem_iff.mp hu)
    exact ⟨b, e.symm⟩
  refine ⟨cs, rfl, ?_⟩
  have e : ∀ l : List Addr, (l.map Value.ref).map unref = l := fun l => by
    induction l with
    | nil => rfl
    | cons a l ih => exact congrArg (a :: ·) ih
  rw [← e cs, ← e bs]
  exact h.map _
def dedR : List (List Str) → List (List Str)
  | [] => []
  | r :: l => if r ∈ l then dedR l else r :: dedR l
theorem mem_dedR (x : List Str) : ∀ l, x ∈ dedR l ↔ x ∈ l
  | [] => Iff.rfl
  | r :: l => by
    unfold dedR
    by_cases c : r ∈ l
    · rw [if_pos c, mem_dedR x l, List.mem_cons]
      exact ⟨.inr, fun h => h.elim (fun e => e ▸ c) id⟩
    · rw [if_neg c, List.mem_cons, List.mem_cons, mem_dedR x l]
theorem nodup_dedR : ∀ l, (dedR l).Nodup
  | [] => List.nodup_nil
  | r :: l => by
    unfold dedR
    by_cases c : r ∈ l
    · rw [if_pos c]; exact nodup_dedR l
    · rw [if_neg c]; exact List.nodup_cons.mpr ⟨fun h => c ((mem_dedR r l).mp h), nodup_dedR l⟩
def uniqR (l : List (List Str)) : List (List Str) := sortR (dedR l)
theorem uniqR_of {l rows : List (List Str)} (nd : l.Nodup) (h : ∀ r, r ∈ l ↔ r ∈ rows) : sortR l = uniqR rows :=
  sortR_congr ((List.perm_ext_iff_of_nodup nd (nodup_dedR rows)).mpr fun r => by rw [h, mem_dedR])
theorem mem_uniqR (x : List Str) (l : List (List Str)) : x ∈ uniqR l ↔ x ∈ l := by
  unfold uniqR
  rw [(sortR_perm _).mem_iff, mem_dedR]
section
variable {prog : Program} {w : World} {A : Around} {E : Value → Shared → Prop} {s : Shared}
theorem sorted_tail {vs : List Value} {rows : List (List Str)} {Q : Value → Shared → Prop} (hl : vs.length = rows.length) (ht : ∀ (i : Nat) v r, vs[i]? = some v → rows[i]? = some r → TupIs s.heap v r) (hne : 2 ≤ rows.length → ∀ r ∈ rows, r ≠ []) (h64 : vs.length < 64)
    (k : ∀ (h' : Heap) (tk c : Nat) (us : List Value), h'.get? s.heap.objs.size = some (seqObj "list" us.toArray c) → (∀ b o, s.heap.get? b = some o → h'.get? b = some o) → us.Perm vs → (∀ (i : Nat) v r, us[i]? = some v → (sortR rows)[i]? = some r → TupIs s.heap v r) → Q (.ref s.heap.objs.size) { s with heap := h', toks := tk }) :
    wpAny (model prog w) A (newList vs >>= fun l => holding [l] (call (.builtin "list.sort") [l] []) >>= fun _ => ret l) (fun fin s' => ∃ v, fin = Fin.done (.ret v) ∧ Q v s') E s := by
  refine wpAny_bind (wpAny_newList ?_ (by rw [sizeLine_eq]; omega))
  have hoL : (s.heap.push (seqObj "list" vs.toArray 0)).get? s.heap.objs.size = some (seqObj "list" vs.toArray 0) := Heap.get?_push_size _ rfl
  refine wpAny_bind (wpAny_holding (wpAny_call_entry slot_list_sort ⟨_, hoL, rfl⟩ entry_list_sort (sort_rows (s := { s with heap := s.heap.push (seqObj "list" vs.toArray 0) }) hoL hl (fun i v r e1 e2 => (ht i v r e1 e2).mono fun b o e => Heap.get?_push_of_some _ e) hne h64 fun h' tk c us g kp pm q => ⟨_, rfl, ?_⟩) (args_list_sort _)))
  refine wpAny_pure ⟨_, rfl, k h' tk c us g (fun b o e => kp b o (Nat.ne_of_lt (Heap.lt_size e)) (Heap.get?_push_of_some _ e)) pm fun i v r e1 e2 => ?_⟩
  have x := q i v r e1 e2
  have hv : v ∈ vs := pm.mem_iff.mp (List.mem_of_getElem? e1)
  obtain ⟨j, hj⟩ := List.mem_iff_getElem?.mp hv
  have hjl : j < rows.length := by
    have := (List.getElem?_eq_some_iff.mp hj).1
    omega
  have y := ht j v _ hj (List.getElem?_eq_getElem hjl)
  obtain ⟨b, o, its, m, rfl, hb, r1⟩ := y
  obtain ⟨b', o', its', m', e', hb', r1'⟩ := x
  cases e'
  have : o' = o := by
    have := Heap.get?_push_of_some (seqObj "list" vs.toArray 0) hb
    exact Option.some.inj (hb'.symm.trans this)
  subst this
  exact ⟨b, o', its', m', rfl, hb, r1'⟩
end
section
variable {X : Cx}
def SortedTo (K : PySem.W.Frag) (H : Hp) (ys : List V) (rows : List (List Str)) (Q : VK) : Prop := ∀ l zs, H l = none → RowsAt K H zs (sortR rows) → (∀ z ∈ zs, z ∈ ys) → Q (.ref l) (upd H l (.lst zs))
theorem sorted_fin {pins : List (Addr × Obj)} {σ : St} {H : Hp} {s s1 : Shared} {bs : List Addr} {rows : List (List Str)} {Q : VK} (I : Inv X pins σ H s1) (lb : bs.length = rows.length) (hb : ∀ (i : Nat) z b, rows[i]? = some z → bs[i]? = some b → SqT X.K H b (z.map V.str)) (hne : 2 ≤ rows.length → ∀ r ∈ rows, r ≠ []) (h64 : rows.length < 64) (q : SortedTo X.K H (bs.map V.ref) rows Q) {A : Around} {E : Value → Shared → Prop} :
    wpAny (model X.prog X.w) A (newList (bs.map Value.ref) >>= fun l => holding [l] (call (.builtin "list.sort") [l] []) >>= fun _ => ret l) (fun fin s' => ∃ v, fin = Fin.done (.ret v) ∧ ∃ v' H', Inv X pins σ H' s' ∧ RelV v' v ∧ Q v' H') E s1 := by
  refine sorted_tail (rows := rows) (by rw [List.length_map]; exact lb) (fun i v r e1 e2 => ?_) hne (by rw [List.length_map]; omega) fun h' tk c us g kp pm srt => ?_
  · rw [List.getElem?_map] at e1
    obtain ⟨b, e3, rfl⟩ := Option.map_eq_some_iff.mp e1
    exact (I.row (hb i r b e2 e3)).1
  · obtain ⟨cs, rfl, pc⟩ := refs_of pm
    have lc : cs.length = rows.length := by rw [pc.length_eq, lb]
    have lz : (cs.map V.ref).length ≤ sizeLine := by rw [List.length_map, sizeLine_eq]; omega
    refine ⟨.ref s1.heap.objs.size, _, I.laid (t' := tk) kp (Nat.le_refl _) (show ObjOk X.prog X.w _ _ _ (.lst (cs.map V.ref)) from ⟨lz, cs.map Value.ref, c, vals_rf cs, g⟩), rfl, q _ (cs.map V.ref) (I.hok.fresh (Nat.le_refl _)) (rows_mk (by rw [lc, (sortR_perm rows).length_eq]) fun i z b e1 e2 => ?_) fun z hz => (pc.map _).mem_iff.mp hz⟩
    have t := srt i (.ref b) z (by rw [List.getElem?_map, e2]; rfl) e1
    obtain ⟨j, hj⟩ := List.mem_iff_getElem?.mp (pc.mem_iff.mp (List.mem_of_getElem? e2))
    have hjl : j < rows.length := by
      have := (List.getElem?_eq_some_iff.mp hj).1
      omega
    have hr := hb j _ b (List.getElem?_eq_getElem hjl) hj
    have t2 := (I.row hr).1
    have e : rows[j] = z := by
      obtain ⟨b1, o1, i1, n1, e1, g1, c1, d1, r1⟩ := t
      obtain ⟨b2, o2, i2, n2, e2, g2, c2, d2, r2⟩ := t2
      cases e1
      cases e2
      rw [g1] at g2
      cases g2
      rw [d1] at d2
      cases d2
      have inj : ∀ {x y : List Str} {vs : List Value}, RowIs x vs → RowIs y vs → x = y := by
        intro x y vs hx
        induction hx generalizing y with
        | nil => intro hy; cases hy; rfl
        | cons _ ih => intro hy; cases hy with | cons hy => rw [ih hy]
      exact inj r2 r1
    rw [← e]
    exact hr
theorem call_sortedR : CallR X (.builtin "sorted") (fun xs H Q => ∃ p ys rows, xs = [.ref p] ∧ SqL X.K H p ys ∧ RowsAt X.K H ys rows ∧ (2 ≤ rows.length → ∀ r ∈ rows, r ≠ []) ∧ rows.length < 64 ∧ SortedTo X.K H ys rows Q) := by
  intro pins s σ H xs us Q I r h
  obtain ⟨p, ys, rows, rfl, hq, hr, hne, h64, q⟩ := h
  obtain ⟨u, rfl, rx⟩ := vals1 r
  cases rx
  obtain ⟨its, r', pl, hz⟩ := I.list hq
  obtain ⟨bs, rfl, rfl, lb, hb⟩ := I.rows hr r'
  refine Calls.call_function_entry kind_sorted plain_sorted entry_sorted (args_sorted1 _) ?_
  unfold Builtin.«sorted»
  refine wpAny_bind (m := checkCount "sorted" 1 1 _) (wpAny_pure ?_)
  refine wpAny_bind (collect_list pl.isList ?_ (by rw [List.length_map, sizeLine_eq]; omega))
  have kp : ∀ b o, s.heap.get? b = some o → ((s.heap.push (seqObj "list" #[] 0)).update s.heap.objs.size (Obj.mapSeq (· ++ (bs.map Value.ref).toArray))).get? b = some o := fun b o e => by
    rw [Heap.get?_update_ne _ _ _ _ (Nat.ne_of_lt (Heap.lt_size e))]
    exact Heap.get?_push_of_some _ e
  exact sorted_fin (s := s) (I.kept (t' := s.toks) kp) lb hb hne h64 q
end
end L2

set_option Elab.async false
set_option linter.all false
set_option maxRecDepth 100000
set_option maxHeartbeats 4000000
namespace L2
open PySem PySem.Spec PyProof.Rows Srt
theorem perm_map_inv {α β : Type} {f : α → β} : ∀ {l k : List β}, l.Perm k → ∀ {m : List α}, k = m.map f → ∃ m' : List α, m'.Perm m ∧ l = m'.map f := by
  intro l k h
  induction h with
  | nil => intro m e; exact ⟨m, .refl _, e⟩
  | @cons x l1 l2 _ ih =>
    intro m e
    cases m with
    | nil => cases e
    | cons a m =>
      rw [List.map_cons] at e
      injection e with e1 e2
      obtain ⟨m', p, q⟩ := ih e2
      exact ⟨a :: m', p.cons a, by rw [e1, q]; rfl⟩
  | swap x y l =>
    intro m e
    match m, e with
    | a :: b :: m, e =>
      rw [List.map_cons, List.map_cons] at e
      injection e with e1 e2
      injection e2 with e2 e3
      exact ⟨b :: a :: m, .swap _ _ _, by rw [e1, e2, e3]; rfl⟩
  | trans _ _ ih1 ih2 =>
    intro m e
    obtain ⟨m1, p1, q1⟩ := ih2 e
    obtain ⟨m2, p2, q2⟩ := ih1 q1
    exact ⟨m2, p2.trans p1, q2⟩
def unkey : Key → Str
  | .inr z => z
  | .inl _ => ""
theorem unkey_row (z : List Str) : (z.map (Sum.inr : Str → Key)).map unkey = z := by
  induction z with
  | nil => rfl
  | cons a z ih => exact congrArg (a :: ·) ih
def SetX (P : Program) (w : World) (a : Addr) (us : List (List Str × Addr)) : Heap → Prop := fun h => ∃ o ep t, h.get? a = some o ∧ o.ExactSet ∧ o.data = .set (us.map fun x => Tb.ent (mixKind P w) (x.1.map Sum.inr, x.2)).toArray ep t ∧ t.fits us.length = true ∧ t.led = Tb.ledW w ∧ Tb.Rise t.place
theorem setX_ok {P : Program} {w : World} {H : Hp} {h : Heap} {a : Addr} {us : List (List Str × Addr)} (x : SetX P w a us h) : ObjOk P w H h a (.ext (SetX P w a us)) :=
  ⟨x, let ⟨o, _, _, q, _⟩ := x; ⟨o, q⟩, fun _ _ ⟨o, ep, t, q, r⟩ k => ⟨o, ep, t, k _ q, r⟩⟩
section
variable {X : Cx} {pins : List (Addr × Obj)} {σ : St} {H : Hp} {s : Shared} {h' : Heap}
theorem Inv.keptD {t' : Nat} {d' : Drawn} (I : Inv X pins σ H s) (k : ∀ b u, s.heap.get? b = some u → h'.get? b = some u) : Inv X pins σ H { s with heap := h', drawn := d', toks := t' } :=
  I.step (g' := s.gens) (ch := []) (fun _ z => nomatch z) (fun b o _ _ _ e _ => k b o e) (fun b o _ _ _ e _ => ⟨o.slots, k b o e⟩) (fun _ _ _ _ n => n) (fun b o _ e => ⟨o, k b o e⟩) (fun _ _ e => e) (fun _ _ _ e => e) (fun b ps e => ⟨#[], by rw [e]; simp⟩) (fun m hm => by
    obtain ⟨o, es, ep, ho, r⟩ := hm
    exact ⟨o, es, ep, k _ _ ho, r⟩) (I.hok.kept k) I.bare
end
section
variable {X : Cx}
theorem call_setR (hA : X.A.handled = none) (hu : X.A.units + 64 < cLine) : CallR X (.type "set") (fun xs H Q => ∃ p ys rows, xs = [.ref p] ∧ SqL X.K H p ys ∧ RowsAt X.K H ys rows ∧ rows.length ≤ 1000 ∧ ∀ a us, H a = none → (us.map (·.1)).Nodup → (∀ r, r ∈ us.map (·.1) ↔ r ∈ rows) → us.length ≤ rows.length → (∀ x ∈ us, SqT X.K H x.2 (x.1.map V.str) ∧ V.ref x.2 ∈ ys) → Q (.ref a) (upd H a (.ext (SetX X.prog X.w a us)))) := by
  intro pins s σ H xs us Q I r h
  obtain ⟨p, ys, rows, rfl, hq, hr, hz, q⟩ := h
  obtain ⟨u, rfl, rx⟩ := vals1 r
  cases rx
  obtain ⟨its, r', pl, _⟩ := I.list hq
  obtain ⟨bs, rfl, rfl, lb, hb⟩ := I.rows hr r'
  refine Tb.call_setT (knd := mixKind X.prog X.w) (ks := rows.map fun z => z.map Sum.inr) (bs := bs) hA (by show X.A.units + 1 + 1 + 1 < cLine; omega) pl.isList (by simp) (by rw [List.length_map, lb]) (fun i k b e1 e2 => ?_) (by omega) fun h' tk o ep t xs S hl hH kp => ?_
  · rw [List.getElem?_map] at e1
    obtain ⟨z, e3, rfl⟩ := Option.map_eq_some_iff.mp e1
    exact (I.row (hb i z b e3 e2)).2
  · have inj : ∀ x ∈ xs, ∃ (j : Nat) (z : List Str), rows[j]? = some z ∧ x.1 = z.map Sum.inr ∧ bs[j]? = some x.2 := fun x hx => by
      obtain ⟨j, j1, j2⟩ := hH.from_ x hx
      rw [List.getElem?_map] at j1
      obtain ⟨z, e3, e4⟩ := Option.map_eq_some_iff.mp j1
      exact ⟨j, z, e3, e4.symm, j2⟩
    have back : (xs.map fun x => (x.1.map unkey, x.2)).map (fun x => ((x.1.map Sum.inr : List Key), x.2)) = xs := by
      rw [List.map_map]
      have : ∀ x ∈ xs, ((fun x : List Str × Addr => ((x.1.map Sum.inr : List Key), x.2)) ∘ fun x : List Key × Addr => (x.1.map unkey, x.2)) x = x := fun x hx => by
        obtain ⟨j, z, _, e, _⟩ := inj x hx
        show ((x.1.map unkey).map Sum.inr, x.2) = x
        rw [e, unkey_row]
        exact Prod.ext e.symm rfl
      rw [List.map_congr_left this, List.map_id']
    have fst : ∀ r, r ∈ (xs.map fun x => (x.1.map unkey, x.2)).map (·.1) ↔ r ∈ rows := fun r => by
      rw [List.map_map, List.mem_map]
      constructor
      · rintro ⟨x, hx, rfl⟩
        obtain ⟨j, z, e1, e, _⟩ := inj x hx
        show x.1.map unkey ∈ rows
        rw [e, unkey_row]
        exact List.mem_of_getElem? e1
      · intro hr
        have : r.map Sum.inr ∈ xs.map (·.1) := (hH.mem _).mpr (by
          rw [List.take_of_length_le (by rw [List.length_map, lb]; exact Nat.le_refl _)]
          exact List.mem_map.mpr ⟨r, hr, rfl⟩)
        obtain ⟨x, hx, e⟩ := List.mem_map.mp this
        exact ⟨x, hx, by show x.1.map unkey = r; rw [e, unkey_row]⟩
    have nd : ((xs.map fun x => (x.1.map unkey, x.2)).map (·.1)).Nodup := by
      have h1 := S.nd
      rw [← back, List.map_map] at h1
      have h2 : ((xs.map fun x => (x.1.map unkey, x.2)).map ((·.1) ∘ fun x : List Str × Addr => ((x.1.map Sum.inr : List Key), x.2))) = ((xs.map fun x => (x.1.map unkey, x.2)).map (·.1)).map fun z => z.map Sum.inr := by simp only [List.map_map]; rfl
      rw [h2] at h1
      exact (List.pairwise_map.mp h1).imp fun ne e => ne (by rw [e])
    have hd : o.data = .set ((xs.map fun x => (x.1.map unkey, x.2)).map fun x => Tb.ent (mixKind X.prog X.w) (x.1.map Sum.inr, x.2)).toArray ep t := by
      rw [S.data]
      congr 2
      have := congrArg (List.map (Tb.ent (mixKind X.prog X.w))) back
      rw [List.map_map] at this
      exact this.symm
    refine ⟨.ref s.heap.objs.size, _, I.laid (t' := tk) kp (Nat.le_refl _) (setX_ok ⟨o, ep, t, S.ob, S.ex, hd, ?_, hl, S.tab.rise⟩), rfl, q _ _ (I.hok.fresh (Nat.le_refl _)) nd fst ?_ fun x hx => ?_⟩
    · have := S.fits
      simpa using this
    · rw [List.length_map]
      have := hH.len
      omega
    · obtain ⟨y, hy, rfl⟩ := List.mem_map.mp hx
      obtain ⟨j, z, e1, e, e2⟩ := inj y hy
      refine ⟨?_, List.mem_map.mpr ⟨y.2, List.mem_of_getElem? e2, rfl⟩⟩
      show SqT X.K H y.2 ((y.1.map unkey).map V.str)
      rw [e, unkey_row]
      exact hb j z y.2 e1 e2
theorem call_sortedSet (hA : X.A.handled = none) : CallR X (.builtin "sorted") (fun xs H Q => ∃ a us ys, xs = [.ref a] ∧ H a = some (.ext (SetX X.prog X.w a us)) ∧ (∀ x ∈ us, SqT X.K H x.2 (x.1.map V.str) ∧ V.ref x.2 ∈ ys) ∧ (2 ≤ us.length → ∀ x ∈ us, x.1 ≠ []) ∧ us.length < 64 ∧ SortedTo X.K H ys (us.map (·.1)) Q) := by
  intro pins s σ H xs us Q I r h
  obtain ⟨a, us', ys, rfl, ha, hx, hne, h64, q⟩ := h
  obtain ⟨u, rfl, rx⟩ := vals1 r
  cases rx
  obtain ⟨⟨o, ep, t, ho, hex, hd, hf, hl, hrise⟩, _⟩ := (show ObjOk X.prog X.w H s.heap a (.ext (SetX X.prog X.w a us')) from I.hok a _ ha)
  refine Calls.call_function_entry kind_sorted plain_sorted entry_sorted (args_sorted1 _) ?_
  unfold Builtin.«sorted»
  refine wpAny_bind (m := checkCount "sorted" 1 1 _) (wpAny_pure ?_)
  refine wpAny_bind (Tb.collect_set (A := X.A.in1) (by simpa using hA) ⟨⟨o, ho, hex, hd⟩, by simpa using hf, hl, hrise⟩ (by simp; omega) fun h' tk d vs pm kp => ?_)
  have e0 : (us'.map fun x => Tb.ent (mixKind X.prog X.w) (x.1.map Sum.inr, x.2)).toArray.toList.map (·.2) = us'.map fun x => Value.ref x.2 := by simp [Function.comp_def]
  rw [e0] at pm
  obtain ⟨vs', pv, rfl⟩ := perm_map_inv pm rfl
  have lb : (vs'.map (·.2)).length = (vs'.map (·.1)).length := by rw [List.length_map, List.length_map]
  have lu := pv.length_eq
  have e1 : (vs'.map fun x => Value.ref x.2) = (vs'.map (·.2)).map Value.ref := by rw [List.map_map]; rfl
  rw [e1]
  have sc : sortR (vs'.map (·.1)) = sortR (us'.map (·.1)) := sortR_congr (pv.map _)
  refine sorted_fin (s := s) (I.keptD (t' := tk) (d' := d) kp) lb (fun i z b e2 e3 => ?_) (fun h2 r hr => ?_) (by rw [List.length_map]; omega) fun l zs hl2 hz hm => ?_
  · rw [List.getElem?_map] at e2 e3
    obtain ⟨x, ex, rfl⟩ := Option.map_eq_some_iff.mp e2
    rw [ex] at e3
    cases e3
    exact (hx x (pv.mem_iff.mp (List.mem_of_getElem? ex))).1
  · obtain ⟨x, hxm, rfl⟩ := List.mem_map.mp hr
    exact hne (by rw [List.length_map] at h2; omega) x (pv.mem_iff.mp hxm)
  · rw [sc] at hz
    refine q l zs hl2 hz fun z hzm => ?_
    obtain ⟨b, hb, rfl⟩ := List.mem_map.mp (hm z hzm)
    obtain ⟨x, hxm, rfl⟩ := List.mem_map.mp hb
    exact (hx x (pv.mem_iff.mp hxm)).2
theorem call_sortedD (hA : X.A.handled = none) : CallR X (.builtin "sorted") (fun xs H Q => ∃ (a : Addr) (kvs : List (Key × V)) (zs : List Str), xs = [.ref a] ∧ H a = some (.dK kvs) ∧ kvs.map (·.1) = zs.map Sum.inr ∧ zs.length < 64 ∧ ∀ l, H l = none → Q (.ref l) (upd H l (.lst ((sortS zs).map V.str)))) := by
  intro pins s σ H xs us Q I r h
  obtain ⟨a, kvs, zs, rfl, ha, hk, h64, q⟩ := h
  obtain ⟨u, rfl, ru⟩ := vals1 r
  cases ru
  obtain ⟨hz, lo, vs, rel, o, es, ep, m⟩ := dk_of I.hok ha
  have at' : s.heap.DictAt (mixKind X.prog X.w) a vs ep := ⟨o, es, m⟩
  have hl : kvs.length = vs.length := rel.length
  have hk2 : kvs.map (·.1) = vs.map (·.1) := rel.keys
  refine Calls.call_function_entry kind_sorted plain_sorted entry_sorted (args_sorted1 _) ?_
  unfold Builtin.«sorted»
  refine wpAny_bind (m := checkCount "sorted" 1 1 _) (wpAny_pure ?_)
  refine wpAny_bind (PySem.W.kdu_collect (A := X.A.in1) (PySem.W.kdl_dict lo) (by simpa using hA) at' (by rw [← hl]; exact hz) fun h' tk acc kp it => ?_)
  have hS : StrsAre acc.toList zs := by
    have len : acc.toList.length = zs.length := by
      have e1 := congrArg List.length hk
      simp only [List.length_map] at e1
      rw [Array.length_toList, it.1]
      omega
    have at_ : ∀ (j : Nat) (v : Value), acc.toList[j]? = some v → ∃ t, v = .str (zs.getD j "") t := fun j v e => by
      obtain ⟨k, y, e3, e4⟩ := it.2 j v (by rw [← Array.getElem?_toList]; exact e)
      have e5 : (zs.map (Sum.inr : Str → Key))[j]? = some k := by
        rw [← hk, hk2, List.getElem?_map, e3]
        rfl
      rw [List.getElem?_map] at e5
      obtain ⟨z, e6, rfl⟩ := Option.map_eq_some_iff.mp e5
      have e8 : RelV (kV (Sum.inr z)) v := rel_key (k := Sum.inr z) e4
      obtain ⟨t, e7⟩ := (show ∃ t, v = Value.str z t from e8)
      exact ⟨t, by rw [e7, List.getD_eq_getElem?_getD, e6]; rfl⟩
    have go : ∀ (us : List Value) (zs : List Str), us.length = zs.length → (∀ (j : Nat) (v : Value), us[j]? = some v → ∃ t, v = .str (zs.getD j "") t) → StrsAre us zs := by
      intro us
      induction us with
      | nil => intro zs hl _; rw [List.length_eq_zero_iff.mp hl.symm]; exact .nil
      | cons u us ih =>
        intro zs hl hk
        cases zs with
        | nil => simp at hl
        | cons z zs =>
          obtain ⟨t, rfl⟩ := hk 0 u rfl
          exact .cons z t (ih zs (by simpa using hl) fun j v e => by
            obtain ⟨t, e'⟩ := hk (j + 1) v (by simpa using e)
            exact ⟨t, by simpa using e'⟩)
    exact go _ _ len at_
  have hl64 : acc.toList.length < 64 := by
    have := hS.strs
    rw [← this, List.length_map] at h64
    exact h64
  refine wpAny_bind (wpAny_newList ?_ (by rw [sizeLine_eq]; omega))
  have hoL : (h'.push (seqObj "list" acc.toList.toArray 0)).get? h'.objs.size = some (seqObj "list" acc.toList.toArray 0) := Heap.get?_push_size _ rfl
  have I1 : Inv X pins σ H { s with heap := h', toks := tk } := I.kept kp
  refine wpAny_bind (wpAny_holding (wpAny_call_entry slot_list_sort ⟨_, hoL, rfl⟩ entry_list_sort (list_sort_treeK strKind_oneLt (s := { s with heap := h'.push (seqObj "list" acc.toList.toArray 0), toks := tk }) hoL hS.keysOf (fun v₁ v₂ rest e => keyKind_strs (by rw [← e]; exact hS)) hl64 fun st' hp hs => ⟨_, rfl, ?_⟩) (args_list_sort _)))
  obtain ⟨ss', h1, h2, h3⟩ := sorted_out_str hS hp hs
  have e := sortS_of h2 h3
  subst e
  generalize (arrOf st').map (·.2) = out at h1
  have lt : h'.objs.size < (h'.push (seqObj "list" acc.toList.toArray 0)).objs.size := Heap.lt_size hoL
  have ln : ((sortS zs).map V.str).length ≤ sizeLine := by
    rw [List.length_map, (sortS_perm zs).length_eq]
    exact Nat.le_of_lt (small1000 (by omega))
  obtain ⟨n, he⟩ : ∃ n, (sortedHeap (h'.push (seqObj "list" acc.toList.toArray 0)) h'.objs.size acc.toList out).get? h'.objs.size = some (seqObj "list" out n) := by
    obtain ⟨e1, ho1⟩ : ∃ e1, ((h'.push (seqObj "list" acc.toList.toArray 0)).update h'.objs.size (Obj.mapSeq fun _ => (#[] : Array Value))).get? h'.objs.size = some (seqObj "list" #[] e1) := ⟨_, get?_update_seq hoL fun _ => #[]⟩
    have ho3 := Heap.get?_push_of_some (seqObj "list" #[] 0) (Heap.get?_push_of_some (seqObj "tuple" acc.toList.toArray 0) ho1)
    exact ⟨_, get?_update_seq ho3 fun _ => out⟩
  have old : ∀ b o, h'.get? b = some o → (sortedHeap (h'.push (seqObj "list" acc.toList.toArray 0)) h'.objs.size acc.toList out).get? b = some o := fun b o e => by
    have nb : b ≠ h'.objs.size := Nat.ne_of_lt (Heap.lt_size e)
    have g1 := Heap.get?_push_of_some (seqObj "list" acc.toList.toArray 0) e
    have g2 := (Heap.SameBut.update (h'.push (seqObj "list" acc.toList.toArray 0)) h'.objs.size (Obj.mapSeq fun _ => (#[] : Array Value))).extBut b o nb g1
    have g3 := Heap.get?_push_of_some (seqObj "list" #[] 0) (Heap.get?_push_of_some (seqObj "tuple" acc.toList.toArray 0) g2)
    exact (Heap.SameBut.update _ h'.objs.size (Obj.mapSeq fun _ => out)).extBut b o nb g3
  refine wpAny_pure ⟨_, rfl, .ref h'.objs.size, _, I1.laid (t' := tk) old (Nat.le_refl _) (show ObjOk X.prog X.w _ _ _ (.lst ((sortS zs).map V.str)) from ⟨ln, out.toList, n, strsS_to h1, ?_⟩), rfl, q _ (I1.hok.fresh (Nat.le_refl _))⟩
  exact he
end
end L2

set_option Elab.async false
set_option linter.all false
set_option maxRecDepth 100000
set_option maxHeartbeats 4000000
namespace L2
open PySem PySem.Spec PyProof.Rows Srt
theorem m2_nl {X : Cx} {d x : Str} {pd px pl apos cpos : Pos} (hl : (apos.endLine == cpos.line) = true := by rfl) (hb : attributeBase (.Name d pd) "get" X.env (eval (.Name d pd) X.env) = eval (.Name d pd) X.env := by rfl) : M2 X (.Name d pd) "get" apos (.Name x px) (.List [] pl) cpos := ⟨hb, rfl, hl, rfl⟩
theorem entry_itemiter_iter : entryFor table "dict_itemiterator.__iter__" = some Builtin.«dict_keyiterator.__iter__» :=
  entryFor_alias (id' := "dict_keyiterator.__iter__") (by kernel_rfl) rfl (by decide +kernel) (by kernel_rfl)
section
variable {prog : Program} {w : World} {A : Around} {E : Value → Shared → Prop} {s : Shared}
theorem itemiter_self {it : Addr} {Q : Value → Shared → Prop} (hT : s.TypeIs (.ref it) "dict_itemiterator") (h : Q (.ref it) s) : wpAny (model prog w) A (pyIter (.ref it)) Q E s := by
  refine wpAny_pyIter_slot hT PySem.F.slot_dict_itemiterator_iter (wpAny_call_entry PySem.F.slot_dict_itemiterator_iter hT entry_itemiter_iter ?_ (PySem.F.args_dict_itemiterator_iter_1 _))
  show wpAny _ _ (ret (.ref it)) _ _ s
  exact wpAny_pure ⟨_, rfl, "dict_itemiterator", _, hT, PySem.F.slot_dict_itemiterator_next.lookup, h⟩
end
end L2

set_option Elab.async false
set_option linter.all false
set_option maxRecDepth 100000
set_option maxHeartbeats 4000000
namespace L2
open PySem PySem.Spec PyProof.Rows Srt
section
variable {prog : Program} {w : World} {A : Around} {E : Value → Shared → Prop} {s : Shared} {d it : Addr} {o : Obj} {es : Array DictEntry} {ep i : Nat}
theorem rw_iter {Q : Value → Shared → Prop} (lo : (d == sysModules) = false) (ho : s.heap.get? d = some o) (hx : o.ExactDict) (hd : o.data = .dict es ep)
    (q : Q (.ref s.heap.objs.size) { s with heap := s.heap.push { cls := .type "dict_keyiterator", data := .fields #[.ref d, .int 0 0, .int es.size 0, .int ep 0] } }) : wpAny (model prog w) A (pyIter (.ref d)) Q E s := by
  have ty : s.TypeIs (.ref d) "dict" := ⟨o, ho, hx.1⟩
  refine wpAny_pyIter_slot ty PySem.F.slot_dict_iter (wpAny_call_entry PySem.F.slot_dict_iter ty PySem.F.entry_dict_iter ?_ (PySem.F.args_dict_iter_1 _))
  unfold Builtin.«dict.__iter__» Builtin.Dict.dictSlotNone
  refine wpAny_bind (wpAny_bind (wpAny_notOrdered_dict ty (wpAny_pure (a := Value.ref d) ?_)))
  show wpAny _ _ (Builtin.Dict.showsAll d >>= _) _ _ s
  unfold Builtin.Dict.showsAll
  rw [lo]
  refine wpAny_bind (wpAny_pure (wpAny_bind (wpAny_dictEntries ho hd (wpAny_bind (wpAny_dictEpoch ho hd ?_)))))
  exact wpAny_bind (wpAny_newObj_type (wpAny_pure ⟨_, rfl, "dict_keyiterator", _, ⟨_, Heap.get?_push_size _ rfl, rfl⟩, PySem.F.slot_dict_keyiterator_next.lookup, q⟩))
theorem rw_key {Q : Option Value → Shared → Prop} (hit : s.heap.IsKeyIter it d i es.size ep) (ho : s.heap.get? d = some o) (hd : o.data = .dict es ep) (hi : i < es.size)
    (q : ∀ h', h'.IsKeyIter it d (i + 1) es.size ep → Heap.SameBut it s.heap h' → Q (some es[i].key) { s with heap := h' }) : wpAny (model prog w) A (pyNext (.ref it)) Q E s := by
  obtain ⟨oi, hoi, ci, di⟩ := id hit
  unfold pyNext
  refine wpAny_bind (wpAny_attempt (wpAny_callSpecial?_slot (name := Str.ofString "__next__") hit.typeIs PySem.F.slot_dict_keyiterator_next (wpAny_call_entry PySem.F.slot_dict_keyiterator_next hit.typeIs PySem.F.entry_dict_keyiterator_next ?_ (PySem.F.args_dict_keyiterator_next_1 _))))
  refine wpAny_bind (wpAny_pure (wpAny_bind (wpAny_bind (wpAny_bind (wpAny_typeNameOfWhole_keyiter hit.typeIs (wpAny_pure ?_))))))
  refine wpAny_bind (wpAny_fieldsOf hoi di ?_)
  have own : Builtin.Dict_items.ownsTuple "dict_keyiterator" = false := by decide
  simp only [own, Bool.false_eq_true, if_false]
  show wpAny _ _ (if (Value.ref d == Value.none) = true then _ else _) _ _ s
  rw [if_neg (show ¬ ((Value.ref d == Value.none) = true) from Bool.false_ne_true)]
  refine wpAny_bind (wpAny_pure (wpAny_bind (wpAny_dictEntries ho hd ?_)))
  rw [if_neg (by simp)]
  refine wpAny_bind (wpAny_pure (wpAny_bind (wpAny_dictEpoch ho hd ?_)))
  rw [if_neg (by simp)]
  refine wpAny_pure ?_
  simp only [show ¬ ((i : Int) < 0) from by omega, if_false, Int.toNat_natCast, Array.getElem?_eq_getElem hi]
  refine wpAny_bind (wpAny_bind (wpAny_typeNameOfWhole_keyiter hit.typeIs (wpAny_pure (wpAny_bind (wpAny_isOneOf_keyiter hit.typeIs ?_)))))
  show wpAny _ _ (setField (.ref it) 1 (rawInt ((i : Int) + 1)) >>= _) _ _ s
  refine wpAny_bind (wpAny_setField hoi di (by simp) ?_)
  have hit2 : (s.heap.update it (Obj.mapFields (·.setIfInBounds 1 (rawInt ((i : Int) + 1))))).IsKeyIter it d (i + 1) es.size ep :=
    ⟨_, Heap.get?_update_self _ hoi (Obj.isFreed_of_fields (Obj.data_mapFields di _)), (Obj.cls_mapFields ..).trans ci, by rw [Obj.data_mapFields di]; simp [rawInt]⟩
  refine wpAny_bind (wpAny_holding (wpAny_bind (wpAny_isOneOf_keyiter (s := { s with heap := s.heap.update it (Obj.mapFields (·.setIfInBounds 1 (rawInt ((i : Int) + 1)))) }) hit2.typeIs ?_)))
  show wpAny _ _ (pure es[i].key) _ _ _
  exact wpAny_pure (wpAny_pure ⟨_, rfl, wpAny_pure (q _ hit2 (Heap.SameBut.update ..))⟩)
theorem rw_keyEnd {Q : Option Value → Shared → Prop} (hh : A.handled = none) (hit : s.heap.IsKeyIter it d i es.size ep) (ho : s.heap.get? d = some o) (hd : o.data = .dict es ep) (hi : es.size ≤ i)
    (q : ∀ h', (∀ b x, b ≠ it → s.heap.get? b = some x → h'.get? b = some x) → Q none { s with heap := h' }) : wpAny (model prog w) A (pyNext (.ref it)) Q E s := by
  obtain ⟨oi, hoi, ci, di⟩ := id hit
  unfold pyNext
  refine wpAny_bind (wpAny_attempt (wpAny_callSpecial?_slot (name := Str.ofString "__next__") hit.typeIs PySem.F.slot_dict_keyiterator_next (wpAny_call_entry PySem.F.slot_dict_keyiterator_next hit.typeIs PySem.F.entry_dict_keyiterator_next ?_ (PySem.F.args_dict_keyiterator_next_1 _))))
  refine wpAny_bind (wpAny_pure (wpAny_bind (wpAny_bind (wpAny_bind (wpAny_typeNameOfWhole_keyiter hit.typeIs (wpAny_pure ?_))))))
  refine wpAny_bind (wpAny_fieldsOf hoi di ?_)
  have own : Builtin.Dict_items.ownsTuple "dict_keyiterator" = false := by decide
  simp only [own, Bool.false_eq_true, if_false]
  show wpAny _ _ (if (Value.ref d == Value.none) = true then _ else _) _ _ s
  rw [if_neg (show ¬ ((Value.ref d == Value.none) = true) from Bool.false_ne_true)]
  refine wpAny_bind (wpAny_pure (wpAny_bind (wpAny_dictEntries ho hd ?_)))
  rw [if_neg (by simp)]
  refine wpAny_bind (wpAny_pure (wpAny_bind (wpAny_dictEpoch ho hd ?_)))
  rw [if_neg (by simp)]
  refine wpAny_pure ?_
  simp only [show ¬ ((i : Int) < 0) from by omega, if_false, Int.toNat_natCast, Array.getElem?_eq_none hi]
  refine wpAny_bind (wpAny_bind (wpAny_typeNameOfWhole_keyiter hit.typeIs (wpAny_pure ?_)))
  show wpAny _ _ (setField (.ref it) 0 .none >>= _) _ _ s
  refine wpAny_bind (wpAny_setField hoi di (by simp) ?_)
  refine Tb.wp_stop (s := s) (show A.in1.handled = none from hh) fun h' e kp ⟨oe, he, ce⟩ => ?_
  exact wpAny_bind (wpAny_isInstance (T := "StopIteration") (b := true) ⟨oe, he, ce⟩ isSubtype_stop (wpAny_pure (q _ fun b x nb g => kp b x ((Heap.get?_update_other _ _ (Ne.symm nb)).trans g))))
theorem rw_item {Q : Option Value → Shared → Prop} {ok ov : Value} (hit : IsItemIter s.heap it d i es.size ep ok ov) (ho : s.heap.get? d = some o) (hd : o.data = .dict es ep) (hi : i < es.size)
    (q : ∀ h', IsItemIterOut h' it d (i + 1) es.size ep es[i].key es[i].val s.heap.objs.size → h'.get? s.heap.objs.size = some { cls := .type "tuple", data := .seq #[es[i].key, es[i].val] } → (∀ b x, b ≠ it → s.heap.get? b = some x → h'.get? b = some x) → Q (some (.ref s.heap.objs.size)) { s with heap := h' }) : wpAny (model prog w) A (pyNext (.ref it)) Q E s := by
  obtain ⟨hp, g, dr, tk, os⟩ := s
  have hT : Shared.TypeIs ⟨hp, g, dr, tk, os⟩ (.ref it) "dict_itemiterator" := ⟨_, hit, rfl⟩
  unfold pyNext
  refine wpAny_bind (wpAny_attempt (wpAny_callSpecial?_slot (name := Str.ofString "__next__") hT PySem.F.slot_dict_itemiterator_next (wpAny_call_entry PySem.F.slot_dict_itemiterator_next hT PySem.F.entry_dict_itemiterator_next ?_ (PySem.F.args_dict_itemiterator_next_1 _))))
  refine wpAny_bind (wpAny_pure (wpAny_bind (wpAny_bind (wpAny_bind (wpAny_typeNameOfWhole_itemiter hT (wpAny_pure ?_))))))
  refine wpAny_bind (wpAny_fieldsOf hit rfl ?_)
  have own : Builtin.Dict_items.ownsTuple "dict_itemiterator" = true := by decide
  simp only [own, if_true]
  show wpAny _ _ (if (Value.ref d == Value.none) = true then _ else _) _ _ _
  rw [if_neg (show ¬ ((Value.ref d == Value.none) = true) from Bool.false_ne_true)]
  refine wpAny_bind (wpAny_pure (wpAny_bind (wpAny_dictEntries ho hd ?_)))
  rw [if_neg (by simp)]
  refine wpAny_bind (wpAny_pure (wpAny_bind (wpAny_dictEpoch ho hd ?_)))
  rw [if_neg (by simp)]
  refine wpAny_pure ?_
  simp only [show ¬ ((i : Int) < 0) from by omega, if_false, Int.toNat_natCast, Array.getElem?_eq_getElem hi]
  refine wpAny_bind (wpAny_bind (wpAny_typeNameOfWhole_itemiter hT (wpAny_pure (wpAny_bind (wpAny_isOneOf_itemiter hT ?_)))))
  show wpAny _ _ (setField (.ref it) 3 (rawInt ((i : Int) + 1)) >>= _) _ _ ⟨hp, g, dr, tk, os⟩
  refine wpAny_bind (wpAny_setField_rec hit (by simp) fun h1 e1 s1 => ?_)
  have s1 : Heap.SameBut it hp h1 := s1
  have e1 : IsItemIter h1 it d (i + 1) es.size ep ok ov := by
    have e : ((i + 1 : Nat) : Int) = (i : Int) + 1 := by omega
    unfold IsItemIter
    rw [e]
    simpa [rawInt] using e1
  have hT1 : Shared.TypeIs ⟨h1, g, dr, tk, os⟩ (.ref it) "dict_itemiterator" := ⟨_, e1, rfl⟩
  refine wpAny_bind (wpAny_holding (wpAny_bind (wpAny_isOneOf_itemiter hT1 (wpAny_bind (wpAny_isOneOf_itemiter hT1 ?_)))))
  show wpAny _ _ (Builtin.Dict_items.pairFromOwner (.ref it) 6 es[i].key es[i].val) _ _ ⟨h1, g, dr, tk, os⟩
  unfold Builtin.Dict_items.pairFromOwner
  refine wpAny_bind (wpAny_newTuple ?_)
  have lt : it < hp.objs.size := Heap.lt_size hit
  have z1 : h1.objs.size = hp.objs.size := s1.1
  obtain ⟨h2, hh2⟩ : ∃ h2, h2 = h1.push { cls := .type "tuple", data := .seq #[es[i].key, es[i].val] } := ⟨_, rfl⟩
  have e2 : IsItemIter h2 it d (i + 1) es.size ep ok ov := by rw [hh2]; exact Heap.get?_push_of_some _ e1
  have t2 : h2.get? hp.objs.size = some { cls := .type "tuple", data := .seq #[es[i].key, es[i].val] } := by rw [hh2, ← z1]; exact Heap.get?_push_size _ rfl
  have k2 : ∀ b x, b ≠ it → hp.get? b = some x → h2.get? b = some x := fun b x nb e => by rw [hh2]; exact Heap.get?_push_of_some _ (s1.extBut b x nb e)
  show wpAny _ _ (Builtin.Dict_items.ownedTupleIsFree (.ref it) >>= _) _ _ ⟨h1.push { cls := .type "tuple", data := .seq #[es[i].key, es[i].val] }, g, dr, tk, os⟩
  rw [← hh2, z1]
  refine wpAny_bind ?_
  unfold Builtin.Dict_items.ownedTupleIsFree
  refine wpAny_bind (wpAny_field e2 rfl (x := .none) rfl (wpAny_pure ?_))
  simp only [if_true]
  refine wpAny_bind (wpAny_field e2 rfl (x := ok) rfl (wpAny_bind (wpAny_field e2 rfl (x := ov) rfl ?_)))
  refine wpAny_bind (wpAny_setField_rec e2 (by simp) fun h3 e3 s3 => ?_)
  have s3 : Heap.SameBut it h2 h3 := s3
  have e3 : IsItemIter h3 it d (i + 1) es.size ep es[i].key ov := e3
  refine wpAny_bind (wpAny_setField_rec e3 (by simp) fun h4 e4 s4 => ?_)
  have s4 : Heap.SameBut it h3 h4 := s4
  have e4 : IsItemIter h4 it d (i + 1) es.size ep es[i].key es[i].val := e4
  refine wpAny_bind (wpAny_setField_rec e4 (by simp) fun h5 e5 s5 => ?_)
  have s5 : Heap.SameBut it h4 h5 := s5
  have e5 : IsItemIterOut h5 it d (i + 1) es.size ep es[i].key es[i].val hp.objs.size := e5
  refine wpAny_bind (wpAny_setField_rec e5 (by simp) fun h6 e6 s6 => ?_)
  have s6 : Heap.SameBut it h5 h6 := s6
  have e6 : IsItemIterOut h6 it d (i + 1) es.size ep es[i].key es[i].val hp.objs.size := e6
  have up : ∀ b x, b ≠ it → h2.get? b = some x → h6.get? b = some x := fun b x nb e => s6.extBut b x nb (s5.extBut b x nb (s4.extBut b x nb (s3.extBut b x nb e)))
  exact wpAny_bind (wpAny_letGo (wpAny_pure (wpAny_pure ⟨_, rfl, wpAny_pure (q h6 e6 (up _ _ (Nat.ne_of_gt lt) t2) fun b x nb e => up b x nb (k2 b x nb e))⟩)))
theorem rw_itemEnd {Q : Option Value → Shared → Prop} {ok ov : Value} (hh : A.handled = none) (hit : IsItemIter s.heap it d i es.size ep ok ov) (ho : s.heap.get? d = some o) (hd : o.data = .dict es ep) (hi : es.size ≤ i)
    (q : ∀ h', (∀ b x, b ≠ it → s.heap.get? b = some x → h'.get? b = some x) → Q none { s with heap := h' }) : wpAny (model prog w) A (pyNext (.ref it)) Q E s := by
  have hT : s.TypeIs (.ref it) "dict_itemiterator" := ⟨_, hit, rfl⟩
  unfold pyNext
  refine wpAny_bind (wpAny_attempt (wpAny_callSpecial?_slot (name := Str.ofString "__next__") hT PySem.F.slot_dict_itemiterator_next (wpAny_call_entry PySem.F.slot_dict_itemiterator_next hT PySem.F.entry_dict_itemiterator_next ?_ (PySem.F.args_dict_itemiterator_next_1 _))))
  refine wpAny_bind (wpAny_pure (wpAny_bind (wpAny_bind (wpAny_bind (wpAny_typeNameOfWhole_itemiter hT (wpAny_pure ?_))))))
  refine wpAny_bind (wpAny_fieldsOf hit rfl ?_)
  have own : Builtin.Dict_items.ownsTuple "dict_itemiterator" = true := by decide
  simp only [own, if_true]
  show wpAny _ _ (if (Value.ref d == Value.none) = true then _ else _) _ _ s
  rw [if_neg (show ¬ ((Value.ref d == Value.none) = true) from Bool.false_ne_true)]
  refine wpAny_bind (wpAny_pure (wpAny_bind (wpAny_dictEntries ho hd ?_)))
  rw [if_neg (by simp)]
  refine wpAny_bind (wpAny_pure (wpAny_bind (wpAny_dictEpoch ho hd ?_)))
  rw [if_neg (by simp)]
  refine wpAny_pure ?_
  simp only [show ¬ ((i : Int) < 0) from by omega, if_false, Int.toNat_natCast, Array.getElem?_eq_none hi]
  refine wpAny_bind (wpAny_bind (wpAny_typeNameOfWhole_itemiter hT (wpAny_pure ?_)))
  show wpAny _ _ (setField (.ref it) 2 .none >>= _) _ _ s
  refine wpAny_bind (wpAny_setField hit rfl (by simp) ?_)
  refine Tb.wp_stop (s := s) (show A.in1.handled = none from hh) fun h' e kp ⟨oe, he, ce⟩ => ?_
  exact wpAny_bind (wpAny_isInstance (T := "StopIteration") (b := true) ⟨oe, he, ce⟩ isSubtype_stop (wpAny_pure (q _ fun b x nb g => kp b x ((Heap.get?_update_other _ _ (Ne.symm nb)).trans g))))
end
end L2

set_option Elab.async false
set_option linter.all false
set_option maxRecDepth 100000
set_option maxHeartbeats 4000000
namespace L2
open PySem PySem.Spec PyProof.Rows Srt
section
variable {prog : Program} {w : World} {A : Around} {E : Value → Shared → Prop} {s : Shared} {d : Addr} {o : Obj} {es : Array DictEntry} {ep : Nat} {key : Value} {h : Int}
theorem walk_no (ho : s.heap.get? d = some o) (hd : o.data = .dict es ep) (hq : ∀ (i : Nat) (e : DictEntry), es[i]? = some e → e.hash = h → SeqAt.EqAt A s e.key key false) (places : List Nat) {Q : Option Nat → Shared → Prop} (q : Q none s) : wpAny (model prog w) A (dictWalkPlain d key h es places) Q E s := by
  unfold dictWalkPlain
  refine wpAny_bind ?_
  refine wpAny_forIn_list _ (fun rest r s' => r.1 = none ∧ s' = s) _ ?_ ?_ _ _ ⟨rfl, rfl⟩
  · rintro i rest r s' ⟨hr, rfl⟩
    cases e : es[i]? with
    | none => exact wpAny_pure ⟨rfl, rfl⟩
    | some x =>
      dsimp only
      by_cases c : (x.hash == h) = true
      · rw [if_pos c]
        refine wpAny_bind (wpAny_dictEpoch ho hd ?_)
        refine wpAny_bind (hq i x e (eq_of_beq c) prog w E _ ?_)
        refine wpAny_bind (wpAny_dictEpoch ho hd ?_)
        rw [if_neg (by simp)]
        simp only [Bool.false_eq_true, if_false]
        exact wpAny_bind (wpAny_rule (wpAny_pure ⟨rfl, rfl⟩))
      · rw [if_neg c]
        exact wpAny_pure ⟨rfl, rfl⟩
  · rintro ⟨r1, r2⟩ s' ⟨hr, rfl⟩
    simp only at hr
    subst hr
    exact wpAny_pure q
theorem find_no (ho : s.heap.get? d = some o) (hd : o.data = .dict es ep) (hs : ∀ x t, key ≠ .str x t) (hall : ∀ e ∈ es, ∃ x t, e.key = .str x t) (hq : ∀ (i : Nat) (e : DictEntry), es[i]? = some e → e.hash = h → SeqAt.EqAt A s e.key key false)
    (hk : carriedByValue key = true ∨ ∃ b, key = .ref b ∧ ∀ (R : Bool → Shared → Prop), R true s → wpAny (model prog w) A (eqIsQuiet 8 key) R E s) {Q : Option Nat → Shared → Prop} (q : Q none s) : wpAny (model prog w) A (dictFind d key h) Q E s := by
  unfold dictFind
  refine wpAny_holding (wpAny_bind (wpAny_dictEntries ho hd ?_))
  have carr : ∀ v ∈ (placesWithHash es.size (fun i => es[i]?.map (·.hash)) h).filterMap (fun i => es[i]?.map (·.key)), ∃ x t, v = .str x t := fun v hv => by
    obtain ⟨i, _, e⟩ := List.mem_filterMap.mp hv
    obtain ⟨x, ex, rfl⟩ := Option.map_eq_some_iff.mp e
    exact hall x (Array.mem_of_getElem? ex)
  have main : wpAny (model prog w) A (do
      let places := placesWithHash es.size (fun i => es[i]?.map (·.hash)) h
      let stored := places.filterMap fun i => es[i]?.map (·.key)
      if (key :: stored).all carriedByValue then return ← dictWalkPlain d key h es places
      if let .ref _ := key then
        if es.any fun e => e.key == key && e.hash != h then unsupported "dict.find:a-stored-key-whose-hash-has-changed"
      let tells ← if stored == [key] then pure false else tableMayTell key stored
      if tells && stored.length ≥ 2 then unsupported "dict.find:order-among-keys-of-one-hash"
      let mut hit : Option Nat := none
      for i in places do
        if let some e := es[i]? then
          if e.hash == h then
            let before ← dictEpoch d (keyPart key)
            let same ← eqBool e.key key
            if (← dictEpoch d (keyPart key)) != before then unsupported "dict.changed-during-lookup"
            if same then
              if hit.isSome then unsupported "dict.find:order-among-keys-of-one-hash"
              rule "dict.find.hit"
              if stored.length < 2 then return some i
              hit := some i
            else
              rule "dict.find.same-hash-other-key"
              if tells && !(0 ≤ h && h < 32) then unsupported "dict.find:asked-again-or-not-hangs-on-the-table"
      return hit) Q E s := by
    dsimp only
    by_cases c : ((key :: (placesWithHash es.size (fun i => es[i]?.map (·.hash)) h).filterMap fun i => es[i]?.map (·.key)).all carriedByValue) = true
    · rw [if_pos c]
      exact walk_no ho hd hq _ q
    · rw [if_neg c]
      have hk' : carriedByValue key = false := by
        cases e : carriedByValue key with
        | false => rfl
        | true =>
          refine (c ?_).elim
          rw [List.all_cons, e, Bool.true_and, List.all_eq_true]
          intro v hv
          obtain ⟨x, t, rfl⟩ := carr v hv
          rfl
      rcases hk with hk | ⟨b, rfl, quiet⟩
      · rw [hk'] at hk; cases hk
      · dsimp only
        have nany : (es.any fun e => e.key == Value.ref b && e.hash != h) = false := by
          rw [Bool.eq_false_iff]
          intro z
          obtain ⟨e, he, z⟩ := Array.any_eq_true'.mp z
          obtain ⟨x, t, ek⟩ := hall e he
          rw [ek] at z
          exact absurd (Bool.and_eq_true_iff.mp z).1 (by intro y; cases y)
        rw [nany]
        simp only [Bool.false_eq_true, if_false]
        have nst : ((placesWithHash es.size (fun i => es[i]?.map (·.hash)) h).filterMap (fun i => es[i]?.map (·.key)) == [Value.ref b]) = false := by
          rw [Bool.eq_false_iff]
          intro z
          have z' := eq_of_beq z
          obtain ⟨x, t, e⟩ := carr (.ref b) (by rw [z']; exact List.mem_singleton.mpr rfl)
          cases e
        rw [nst]
        simp only [Bool.false_eq_true, if_false]
        have tell : ∀ (R : Bool → Shared → Prop), R false s → wpAny (model prog w) A (tableMayTell (.ref b) ((placesWithHash es.size (fun i => es[i]?.map (·.hash)) h).filterMap fun i => es[i]?.map (·.key))) R E s := fun R r => by
          unfold tableMayTell
          split
          · exact wpAny_pure r
          · refine wpAny_bind (quiet _ ?_)
            simp only [Bool.not_true, Bool.false_eq_true, if_false]
            refine wpAny_bind ?_
            refine wpAny_forIn_list _ (fun rest r' s' => r'.1 = none ∧ s' = s ∧ ∀ v ∈ rest, ∃ x t, v = Value.str x t) _ ?_ ?_ _ _ ⟨rfl, rfl, carr⟩
            · rintro v rest r' s' ⟨hr, rfl, hv⟩
              obtain ⟨x, t, rfl⟩ := hv v List.mem_cons_self
              rw [eqIsQuiet_byValue 8 rfl]
              refine wpAny_bind (wpAny_pure ?_)
              simp only [Bool.not_true, Bool.false_eq_true, if_false]
              exact wpAny_pure ⟨rfl, rfl, fun u hu => hv u (List.mem_cons_of_mem _ hu)⟩
            · rintro ⟨r1, r2⟩ s' ⟨hr, rfl, _⟩
              simp only at hr
              subst hr
              exact wpAny_pure r
        refine wpAny_bind (tell _ ?_)
        simp only [Bool.false_and, Bool.false_eq_true, if_false]
        refine wpAny_bind ?_
        refine wpAny_forIn_list _ (fun rest r s' => r.1 = none ∧ r.2 = none ∧ s' = s) _ ?_ ?_ _ _ ⟨rfl, rfl, rfl⟩
        · rintro i rest ⟨r1, r2⟩ s' ⟨hr, hr2, rfl⟩
          simp only at hr hr2
          subst hr hr2
          cases e : es[i]? with
          | none => exact wpAny_pure ⟨rfl, rfl, rfl⟩
          | some x =>
            dsimp only
            by_cases c : (x.hash == h) = true
            · rw [if_pos c]
              refine wpAny_bind (wpAny_dictEpoch ho hd ?_)
              refine wpAny_bind (hq i x e (eq_of_beq c) prog w E _ ?_)
              refine wpAny_bind (wpAny_dictEpoch ho hd ?_)
              rw [if_neg (by simp)]
              simp only [Bool.false_eq_true, if_false]
              exact wpAny_bind (wpAny_rule (wpAny_pure ⟨rfl, rfl, rfl⟩))
            · rw [if_neg c]
              exact wpAny_pure ⟨rfl, rfl, rfl⟩
        · rintro ⟨r1, r2⟩ s' ⟨hr, hr2, rfl⟩
          simp only at hr hr2
          subst hr hr2
          exact wpAny_pure q
  cases key with
  | str x t => exact (hs x t rfl).elim
  | _ => exact main
theorem find_yes {z : Str} {t0 : Tok} {j : Nat} {ej : DictEntry} (ho : s.heap.get? d = some o) (hd : o.data = .dict es ep) (hnot : (es.all fun e => isExactStrKey e.key) = false) (hj : es[j]? = some ej) (hjh : ej.hash = h) (hje : SeqAt.EqAt A s ej.key (.str z t0) true)
    (hq : ∀ (i : Nat) (e : DictEntry), i ≠ j → es[i]? = some e → e.hash = h → SeqAt.EqAt A s e.key (.str z t0) false)
    (hk : ∀ e ∈ es, ∀ (R : Bool → Shared → Prop), R true s → wpAny (model prog w) A (eqIsQuiet 8 e.key) R E s) {Q : Option Nat → Shared → Prop} (q : Q (some j) s) : wpAny (model prog w) A (dictFind d (.str z t0) h) Q E s := by
  unfold dictFind
  refine wpAny_holding (wpAny_bind (wpAny_dictEntries ho hd ?_))
  dsimp only
  rw [hnot]
  simp only [Bool.false_eq_true, if_false]
  have lj : j < es.size := (Array.getElem?_eq_some_iff.mp hj).1
  have jm : j ∈ placesWithHash es.size (fun i => es[i]?.map (·.hash)) h := by
    unfold placesWithHash
    refine List.mem_filter.mpr ⟨List.mem_range.mpr lj, ?_⟩
    simp [hj, hjh]
  have nd : (placesWithHash es.size (fun i => es[i]?.map (·.hash)) h).Nodup := List.Nodup.sublist List.filter_sublist List.nodup_range
  have stq : ∀ v ∈ (placesWithHash es.size (fun i => es[i]?.map (·.hash)) h).filterMap (fun i => es[i]?.map (·.key)), ∀ (R : Bool → Shared → Prop), R true s → wpAny (model prog w) A (eqIsQuiet 8 v) R E s := fun v hv => by
    obtain ⟨i, _, e⟩ := List.mem_filterMap.mp hv
    obtain ⟨x, ex, rfl⟩ := Option.map_eq_some_iff.mp e
    exact hk x (Array.mem_of_getElem? ex)
  generalize placesWithHash es.size (fun i => es[i]?.map (·.hash)) h = pl at jm nd stq
  by_cases c : ((Value.str z t0 :: pl.filterMap fun i => es[i]?.map (·.key)).all carriedByValue) = true
  · rw [if_pos c]
    unfold dictWalkPlain
    refine wpAny_bind ?_
    refine wpAny_forIn_list _ (fun rest r s' => r.1 = none ∧ s' = s ∧ j ∈ rest) _ ?_ ?_ _ _ ⟨rfl, rfl, jm⟩
    · rintro i rest r s' ⟨hr, rfl, hm⟩
      by_cases e0 : i = j
      · subst e0
        rw [hj]
        dsimp only
        rw [if_pos (by rw [hjh]; exact BEq.rfl)]
        refine wpAny_bind (wpAny_dictEpoch ho hd (wpAny_bind (hje prog w E _ (wpAny_bind (wpAny_dictEpoch ho hd ?_)))))
        rw [if_neg (by simp)]
        simp only [if_true]
        exact wpAny_bind (wpAny_rule (wpAny_pure (wpAny_pure q)))
      · have hm' : j ∈ rest := (List.mem_cons.mp hm).resolve_left (Ne.symm e0)
        cases e : es[i]? with
        | none => exact wpAny_pure ⟨rfl, rfl, hm'⟩
        | some x =>
          dsimp only
          by_cases c : (x.hash == h) = true
          · rw [if_pos c]
            refine wpAny_bind (wpAny_dictEpoch ho hd (wpAny_bind (hq i x e0 e (eq_of_beq c) prog w E _ (wpAny_bind (wpAny_dictEpoch ho hd ?_)))))
            rw [if_neg (by simp)]
            simp only [Bool.false_eq_true, if_false]
            exact wpAny_bind (wpAny_rule (wpAny_pure ⟨rfl, rfl, hm'⟩))
          · rw [if_neg c]
            exact wpAny_pure ⟨rfl, rfl, hm'⟩
    · rintro ⟨r1, r2⟩ s' ⟨hr, rfl, hm⟩
      cases hm
  · rw [if_neg c]
    have nst : (pl.filterMap (fun i => es[i]?.map (·.key)) == [Value.str z t0]) = false := by
      rw [Bool.eq_false_iff]
      intro y
      rw [eq_of_beq y] at c
      exact c rfl
    rw [nst]
    simp only [Bool.false_eq_true, if_false]
    have tell : ∀ (R : Bool → Shared → Prop), R false s → wpAny (model prog w) A (tableMayTell (.str z t0) (pl.filterMap fun i => es[i]?.map (·.key))) R E s := fun R r => by
      unfold tableMayTell
      split
      · exact wpAny_pure r
      · rw [eqIsQuiet_byValue 8 rfl]
        refine wpAny_bind (wpAny_pure ?_)
        simp only [Bool.not_true, Bool.false_eq_true, if_false]
        refine wpAny_bind ?_
        refine wpAny_forIn_list _ (fun rest r' s' => r'.1 = none ∧ s' = s ∧ ∀ v ∈ rest, ∀ (R : Bool → Shared → Prop), R true s → wpAny (model prog w) A (eqIsQuiet 8 v) R E s) _ ?_ ?_ _ _ ⟨rfl, rfl, stq⟩
        · rintro v rest r' s' ⟨hr, rfl, hv⟩
          refine wpAny_bind (hv v List.mem_cons_self _ ?_)
          simp only [Bool.not_true, Bool.false_eq_true, if_false]
          exact wpAny_pure ⟨rfl, rfl, fun u hu => hv u (List.mem_cons_of_mem _ hu)⟩
        · rintro ⟨r1, r2⟩ s' ⟨hr, rfl, _⟩
          simp only at hr
          subst hr
          exact wpAny_pure r
    refine wpAny_bind (tell _ ?_)
    simp only [Bool.false_and, Bool.false_eq_true, if_false]
    refine wpAny_bind ?_
    refine wpAny_forIn_list _ (fun rest r s' => r.1 = none ∧ s' = s ∧ ((r.2 = none ∧ j ∈ rest ∧ rest.Nodup) ∨ (r.2 = some j ∧ j ∉ rest))) _ ?_ ?_ _ _ ⟨rfl, rfl, .inl ⟨rfl, jm, nd⟩⟩
    · rintro i rest ⟨r1, r2⟩ s' ⟨hr, rfl, hm⟩
      simp only at hr hm
      subst hr
      by_cases e0 : i = j
      · subst e0
        rcases hm with ⟨rfl, hm, hn⟩ | ⟨_, hm⟩
        · rw [hj]
          dsimp only
          rw [if_pos (by rw [hjh]; exact BEq.rfl)]
          refine wpAny_bind (wpAny_dictEpoch ho hd (wpAny_bind (hje prog w E _ (wpAny_bind (wpAny_dictEpoch ho hd ?_)))))
          rw [if_neg (by simp)]
          simp only [if_true, Option.isSome_none, Bool.false_eq_true, if_false]
          refine wpAny_bind (wpAny_rule ?_)
          split
          · exact wpAny_pure (wpAny_pure q)
          · exact wpAny_pure ⟨rfl, rfl, .inr ⟨rfl, (List.nodup_cons.mp hn).1⟩⟩
        · exact (hm List.mem_cons_self).elim
      · have hm' : (r2 = none ∧ j ∈ rest ∧ rest.Nodup) ∨ (r2 = some j ∧ j ∉ rest) := by
          rcases hm with ⟨a, b, c⟩ | ⟨a, b⟩
          · exact .inl ⟨a, (List.mem_cons.mp b).resolve_left (Ne.symm e0), (List.nodup_cons.mp c).2⟩
          · exact .inr ⟨a, fun z => b (List.mem_cons_of_mem _ z)⟩
        cases e : es[i]? with
        | none => exact wpAny_pure ⟨rfl, rfl, hm'⟩
        | some x =>
          dsimp only
          by_cases c : (x.hash == h) = true
          · rw [if_pos c]
            refine wpAny_bind (wpAny_dictEpoch ho hd (wpAny_bind (hq i x e0 e (eq_of_beq c) prog w E _ (wpAny_bind (wpAny_dictEpoch ho hd ?_)))))
            rw [if_neg (by simp)]
            simp only [Bool.false_eq_true, if_false]
            exact wpAny_bind (wpAny_rule (wpAny_pure ⟨rfl, rfl, hm'⟩))
          · rw [if_neg c]
            exact wpAny_pure ⟨rfl, rfl, hm'⟩
    · rintro ⟨r1, r2⟩ s' ⟨hr, rfl, hm⟩
      simp only at hr
      subst hr
      rcases hm with ⟨_, hm, _⟩ | ⟨hm, _⟩
      · cases hm
      · simp only at hm
        subst hm
        exact wpAny_pure q
end
end L2

set_option Elab.async false
set_option linter.all false
set_option maxRecDepth 100000
set_option maxHeartbeats 4000000
namespace L2
open PySem PySem.Spec PyProof.Rows Srt
section
variable {prog : Program} {w : World} {A : Around} {E : Value → Shared → Prop} {s : Shared}
theorem hash_none {Q : Int → Shared → Prop} (q : ∀ t, Q 0xFCA86420 { s with toks := t }) : wpAny (model prog w) A (pyHash .none) Q E s := by
  have ty : s.TypeIs .none "NoneType" := rfl
  unfold pyHash pyHashByItsType
  refine wpAny_bind (wpAny_cRoomFor_byValue rfl (wpAny_bind (wpAny_specialOf ty PySem.F.slot_NoneType_hash.lookup ?_)))
  rw [if_neg (by rw [beq_builtin_none]; exact Bool.false_ne_true)]
  refine wpAny_bind (wpAny_specialOf ty PySem.F.slot_NoneType_hash.lookup ?_)
  refine wpAny_bind (wpAny_callSpecialIfBoundUnlessNone?_slot ty PySem.F.slot_NoneType_hash (wpAny_call_entry PySem.F.slot_NoneType_hash ty PySem.F.entry_NoneType_hash (show wpAny _ _ (do ret (← mkInt 0xFCA86420)) _ _ s from wpAny_ret_mkInt ?_) (PySem.F.args_NoneType_hash_1 _)))
  exact wpAny_pure (q _)
theorem hash_true {Q : Int → Shared → Prop} (q : ∀ t, Q 1 { s with toks := t }) : wpAny (model prog w) A (pyHash (.bool true)) Q E s := by
  have ty : s.TypeIs (.bool true) "bool" := rfl
  unfold pyHash pyHashByItsType
  refine wpAny_bind (wpAny_cRoomFor_byValue rfl (wpAny_bind (wpAny_specialOf ty PySem.F.slot_bool_hash.lookup ?_)))
  rw [if_neg (by rw [beq_builtin_none]; exact Bool.false_ne_true)]
  refine wpAny_bind (wpAny_specialOf ty PySem.F.slot_bool_hash.lookup ?_)
  refine wpAny_bind (wpAny_callSpecialIfBoundUnlessNone?_slot ty PySem.F.slot_bool_hash (wpAny_call_entry PySem.F.slot_bool_hash ty entry_int_hash (show wpAny _ _ (do ret (← mkInt 1)) _ _ s from wpAny_ret_mkInt ?_) (args_int_hash _)))
  exact wpAny_pure (q _)
theorem set_odd {d : Addr} {o : Obj} {es : Array DictEntry} {ep : Nat} {key v : Value} {Q : Unit → Shared → Prop} (ho : s.heap.get? d = some o) (hx : o.ExactDict) (hd : o.data = .dict es ep) (hz : es.size ≤ 1000) (hs : ∀ x t, key ≠ .str x t) (hall : ∀ e ∈ es, ∃ x t, e.key = .str x t)
    (hh : ∀ (A' : Around) (s' : Shared) (R : Int → Shared → Prop), A'.units ≤ A.units + 4 → s'.heap = s.heap → (∀ h t, R h { s' with toks := t }) → wpAny (model prog w) A' (pyHash key) R E s')
    (hq : ∀ (A' : Around) (s' : Shared), A'.units ≤ A.units + 4 → s'.heap = s.heap → ∀ e ∈ es, SeqAt.EqAt A' s' e.key key false)
    (hk : carriedByValue key = true ∨ ∃ b, key = .ref b ∧ ∀ (A' : Around) (s' : Shared) (R : Bool → Shared → Prop), s'.heap = s.heap → R true s' → wpAny (model prog w) A' (eqIsQuiet 8 key) R E s')
    (q : ∀ h' t ep' h, h'.get? d = some { o with data := .dict (es.push ⟨h, key, v⟩) ep' } → Heap.SameBut d s.heap h' → Q () { s with heap := h', toks := t }) : wpAny (model prog w) A (setItem (.ref d) key v) Q E s := by
  have ty : s.TypeIs (.ref d) "dict" := ⟨o, ho, hx.1⟩
  unfold setItem
  refine wpAny_holding ?_
  refine wpAny_bind (wpAny_sequenceKey ty (by decide) ?_)
  refine wpAny_bind (wpAny_callSpecial?_slot (name := Str.ofString "__setitem__") ty slot_dict_setitem (wpAny_call_entry slot_dict_setitem ty entry_dict_setitem ?_ (args_dict_setitem _ _ _)))
  show wpAny _ _ (Builtin.Dict.notOrdered "__setitem__" ⟨[.ref d, key, v], []⟩ >>= _) _ _ s
  refine wpAny_bind (wpAny_notOrdered_dict ty ?_)
  show wpAny _ _ (dictSet d key v >>= _) _ _ s
  refine wpAny_bind ?_
  unfold dictSet
  refine wpAny_holding (wpAny_bind (hh A.in1 s _ (show A.units + 1 ≤ A.units + 4 by omega) rfl fun h t => ?_))
  unfold dictSetHashed
  refine wpAny_holding (wpAny_bind (find_no (s := { s with toks := t }) ho hd hs hall (fun i e he _ => hq A.in1 { s with toks := t } (show A.units + 1 ≤ A.units + 4 by omega) rfl e (Array.mem_of_getElem? he)) (hk.imp id fun ⟨b, e, f⟩ => ⟨b, e, fun R r => f A.in1 { s with toks := t } R rfl r⟩) ?_))
  dsimp only
  refine wpAny_bind (wpAny_rule ?_)
  refine wpAny_updateDictKeys (s := { s with toks := t }) ho hd ?_ (by rw [sizeLine_eq]; omega)
  refine wpAny_pure ⟨.none, rfl, wpAny_pure ?_⟩
  obtain ⟨c, dd, dt, sl⟩ := o
  have hd' : dt = .dict es ep := hd
  subst hd'
  exact q _ t _ h (Heap.get?_update_self _ ho (Obj.isFreed_of_dict (Obj.data_mapDictKeys rfl _))) (Heap.SameBut.update ..)
end
end L2

set_option Elab.async false
set_option linter.all false
set_option maxRecDepth 100000
set_option maxHeartbeats 4000000
namespace L2
open PySem PySem.Spec PyProof.Rows Srt
def DX (P : Program) (w : World) (d : Addr) (kvs : List (Key × V)) (ok ov : V) : Heap → Prop := fun h => (d == sysModules) = false ∧ ∃ o es ep vs e, h.get? d = some o ∧ o.ExactDict ∧ o.data = .dict (es.push e) ep ∧ KV kvs vs ∧ KeysOf (mixKind P w) es ∧ Pairs (mixKind P w) es.toList vs ∧ (vs.map (·.1)).Nodup ∧ RelV ok e.key ∧ RelV ov e.val ∧ kvs.length ≤ 1000
theorem dx_ok {P : Program} {w : World} {H : Hp} {h : Heap} {d : Addr} {kvs : List (Key × V)} {ok ov : V} (x : DX P w d kvs ok ov h) : ObjOk P w H h d (.ext (DX P w d kvs ok ov)) :=
  ⟨x, let ⟨_, o, _, _, _, _, q, _⟩ := x; ⟨o, q⟩, fun _ _ ⟨l, o, es, ep, vs, e, q, r⟩ k => ⟨l, o, es, ep, vs, e, k _ q, r⟩⟩
def TextKeys (kvs : List (Key × V)) : Prop := ∀ kv ∈ kvs, ∃ z, kv.1 = Sum.inr z ∧ PyData.strOk z = true
def OddV (K : PySem.W.Frag) (H : Hp) (y : V) : Prop := y = .non ∨ y = .bl true ∨ ∃ (b : Addr) (zs : List Str), y = .ref b ∧ SqT K H b (zs.map V.str) ∧ ∀ z ∈ zs, PyData.strOk z = true
section
variable {X : Cx} {pins : List (Addr × Obj)} {σ : St} {H : Hp} {s : Shared}
theorem entry_text {P : Program} {w : World} {es : List DictEntry} {kvs : List (Key × V)} {vs : List (Key × Value)} (rel : KV kvs vs) (hp : Pairs (mixKind P w) es vs) (tk : TextKeys kvs) : ∀ e ∈ es, ∃ x t, e.key = Value.str x t ∧ PyData.strOk x = true := by
  unfold KV at rel
  induction hp generalizing kvs with
  | nil => intro e he; exact nomatch he
  | @cons e kv es vs hk hv _ ih =>
    cases rel with
    | @cons p _ ps _ hr t =>
      intro e' he
      rcases List.mem_cons.mp he with rfl | he
      · obtain ⟨z, hz, hs⟩ := tk p List.mem_cons_self
        have e1 : kv.1 = Sum.inr z := hr.1.symm.trans hz
        rw [e1] at hk
        have e8 : RelV (kV (Sum.inr z)) e'.key := rel_key (k := Sum.inr z) hk
        obtain ⟨t, e9⟩ := (show ∃ t, e'.key = Value.str z t from e8)
        exact ⟨z, t, e9, hs⟩
      · exact ih t (fun q hq => tk q (List.mem_cons_of_mem _ hq)) e' he
theorem lay_texts (zs : List Str) (h : ∀ z ∈ zs, PyData.strOk z = true) : (PyData.tuple (zs.map PyData.str)).canLay0 = true := lay_strs zs h
theorem odd_data {y : V} (h : OddV X.K H y) : ∃ d, Dt X.K H d y ∧ d.canLay0 = true ∧ (∀ x, PyData.eqv (.str x) d = false) := by
  rcases h with rfl | rfl | ⟨b, zs, rfl, hb, hz⟩
  · exact ⟨.none, rfl, rfl, fun _ => rfl⟩
  · exact ⟨.bool true, rfl, rfl, fun _ => rfl⟩
  · exact ⟨.tuple (zs.map PyData.str), ⟨b, _, rfl, hb, dtAll_strs zs⟩, lay_texts zs hz, fun _ => rfl⟩
theorem d_setOdd {A : Around} {E : Value → Shared → Prop} {a : Addr} {kvs : List (Key × V)} {y v : V} {u r : Value} {Q : Unit → Shared → Prop} (hu : A.units + 64 < cLine) (I : Inv X pins σ H s) (hd : H a = some (.dK kvs)) (tk : TextKeys kvs) (hl : kvs.length ≤ 1000) (hy : OddV X.K H y) (ry : RelV y u) (rv : RelV v r)
    (q : ∀ s', Inv X pins σ (upd H a (.ext (DX X.prog X.w a kvs y v))) s' → Q () s') : wpAny (model X.prog X.w) A (setItem (.ref a) u r) Q E s := by
  obtain ⟨hz, lo, vs, rel, o, es, ep, ga, hx, hdt, hk, hp, hn⟩ := dk_of I.hok hd
  have lv : es.size = vs.length := by rw [← hp.length]; simp
  have lk : kvs.length = vs.length := rel.length
  obtain ⟨dd, d1, d2, d3⟩ := odd_data hy
  have text := fun e (he : e ∈ es) => entry_text rel hp tk e (Array.mem_toList_iff.mpr he)
  have kind : (∀ (x : Str) (t : Tok), u ≠ .str x t) ∧ (carriedByValue u = true ∨ ∃ b, u = .ref b ∧ ∀ (A' : Around) (s' : Shared) (R : Bool → Shared → Prop), s'.heap = s.heap → R true s' → wpAny (model X.prog X.w) A' (eqIsQuiet 8 u) R E s') ∧
      ∀ (A' : Around) (s' : Shared) (R : Int → Shared → Prop), A'.units ≤ A.units + 4 → s'.heap = s.heap → (∀ h t, R h { s' with toks := t }) → wpAny (model X.prog X.w) A' (pyHash u) R E s' := by
    rcases hy with rfl | rfl | ⟨b, zs, rfl, hb, hz⟩
    · cases (show u = Value.none from ry)
      exact ⟨(fun _ _ z => by cases z), .inl rfl, fun A' s' R _ _ r => hash_none fun t => r _ t⟩
    · cases (show u = Value.bool true from ry)
      exact ⟨(fun _ _ z => by cases z), .inl rfl, fun A' s' R _ _ r => hash_true fun t => r _ t⟩
    · cases (show u = Value.ref b from ry)
      have tkb := (I.row hb).2
      refine ⟨(fun _ _ z => by cases z), .inr ⟨b, rfl, fun A' s' R e r => wpAny_eqIsQuiet_tuple (knd := mixKind X.prog X.w) (ks := zs.map Sum.inr) (by rw [e]; exact tkb) r⟩, fun A' s' R hA e r => wpAny_pyHash_tuple (knd := mixKind X.prog X.w) (ks := zs.map Sum.inr) (by omega) (by rw [e]; exact tkb) (r _ _)⟩
  refine set_odd ga hx hdt (by omega) kind.1 (fun e he => let ⟨x, t, q, _⟩ := text e he; ⟨x, t, q⟩) kind.2.2 (fun A' s' hA es' e he => ?_) kind.2.1 fun h' t ep' hh g sb => ?_
  · obtain ⟨x, t, ek, hs⟩ := text e he
    obtain ⟨as, ra⟩ := reads_of I (.str x) (.str x) e.key rfl ⟨t, ek⟩
    obtain ⟨bs, rb⟩ := reads_of I dd y u d1 ry
    have := SeqAt.eqAt_reads (.str x) dd A' s' e.key u as bs (by rw [es']; exact ra) (by rw [es']; exact rb) hs d2 (by
      have : min (PyData.str x).depth dd.depth ≤ 0 := Nat.min_le_left _ _
      omega)
    rw [d3] at this
    exact this
  · refine q _ (I.write (t' := t) (x := a) (e := a) (by rw [hd]; exact True.intro) (.inl rfl) (fun b o' nb e => (sb.2 b nb).trans e) ⟨_, g⟩ (dx_ok ⟨lo, _, es, ep', vs, ⟨hh, u, r⟩, g, hx, rfl, rel, hk, hp, hn, ry, rv, hl⟩))
end
def sDPutX (P : Program) (w : World) (K : PySem.W.Frag) (td ty tv : TE) : TS := fun D σ H => tv σ H fun v H1 => td σ H1 fun x H2 => ty σ H2 fun y H3 => ∃ a, x = .ref a ∧ ((∃ H4, DPut H3 a y v H4 ∧ D.nx σ H4) ∨ ∃ kvs, H3 a = some (.dK kvs) ∧ TextKeys kvs ∧ kvs.length ≤ 1000 ∧ OddV K H3 y ∧ D.nx σ (upd H3 a (.ext (DX P w a kvs y v))))
section
variable {X : Cx}
theorem ps_dputX {o i value : Expr} {pos pos' : Pos} {td ty tv : TE} (hu : X.A.units + 64 < cLine) (ho : PE X o td) (hi : PE X i ty) (hv : PE X value tv) (hs : swapsWith value (some (.Subscript o i pos')) pos.line X.env = pure false) :
    PS X (.Assign [.Subscript o i pos'] value pos) (sDPutX X.prog X.w X.K td ty tv) := by
  intro pins s σ H D I h
  refine wpAny_Assign_Subscript (thn (hv pins s σ H _ I h) fun r s1 ⟨v, H1, I1, rv, q1⟩ => thn (ho pins s1 σ H1 _ I1 q1) fun u s2 ⟨x, H2, I2, rx, q2⟩ => thn (hi pins s2 σ H2 _ I2 q2) fun iv s3 ⟨y, H3, I3, ry, a, ex, g⟩ => ?_) hs
  subst ex
  obtain rfl : u = Value.ref a := rx
  rcases g with ⟨H4, g, q⟩ | ⟨kvs, g, tk, hl, hy, q⟩
  · exact d_setItem (by omega) I3 g ry rv fun s4 I4 => ⟨σ, H4, I4, q⟩
  · exact d_setOdd hu I3 g tk hl hy ry rv fun s4 I4 => ⟨σ, _, I4, q⟩
end
section
variable {X : Cx} {pins : List (Addr × Obj)} {σ : St} {H : Hp} {s : Shared}
theorem Inv.freezeX {d : Addr} {φ : Heap → Prop} {o : Obj} (I : Inv X pins σ H s) (hd : H d = some (.ext φ)) (ho : s.heap.get? d = some o) : Inv X pins σ (upd H d (.frz o (.ext φ))) s := by
  have nd : ∀ b u, H b = some u → (∀ l, u ≠ .ext l) → b ≠ d := fun b u q n z => by
    rw [z, hd] at q
    exact n φ (Option.some.inj q).symm
  have hne : ∀ b, H b = none → b ≠ d := fun b q z => by rw [z, hd] at q; cases q
  refine I.un (h' := s.heap) (t' := s.toks) ⟨fun b u e _ _ _ => e, fun b u e _ _ _ => ⟨u.slots, e⟩, fun b u e n _ => by rw [upd_ne (hne b n)]; exact n, fun b u e _ => ⟨u, e⟩, fun b xs q => by rw [upd_ne (nd b _ q fun l z => by cases z)]; exact q, fun b u v q => by rw [upd_ne (nd b _ q fun l z => by cases z)]; exact q, fun b ps q => ⟨#[], by rw [upd_ne (nd b _ q fun l z => by cases z), q]; simp⟩⟩ fun b u g => ?_
  by_cases hb : b = d
  · subst hb
    rw [upd_same] at g
    cases g
    exact ⟨ho, I.hok b _ hd⟩
  · rw [upd_ne hb] at g
    exact (I.hok b u g).stay (fun c v hc q => q) (fun c q => by rw [upd_ne (nd c _ q fun l z => by cases z)]; exact q) fun c ys q => by rw [upd_ne (nd c _ q fun l z => by cases z)]; exact q
theorem Inv.thawU {d : Addr} {u : HO} {o : Obj} (I : Inv X pins σ H s) (hd : H d = some (.frz o u)) (hn : ∀ u v, X.H₀ d ≠ some (.frz u v)) : Inv X pins σ (upd H d u) s := by
  have nd : ∀ b u, H b = some u → (∀ v l, u ≠ .frz v l) → b ≠ d := fun b u q n z => by
    rw [z, hd] at q
    exact n _ _ (Option.some.inj q).symm
  have hne : ∀ b, H b = none → b ≠ d := fun b q z => by rw [z, hd] at q; cases q
  refine ⟨I.ok, I.os, I.bare, ⟨I.base.keep, I.base.slot, fun b u e n hx => ?_, I.base.there, fun b xs q => ?_, fun b u v q => ?_, fun b ps q => ?_⟩, I.loc, I.cell, ?_, fun x c e => ?_, fun p hp => ?_, fun b v g => ?_, I.len⟩
  · have z := I.base.free b u e n hx
    rw [upd_ne (hne b z)]
    exact z
  · have z := I.base.tups b xs q
    rw [upd_ne (nd b _ z fun v l t => by cases t)]
    exact z
  · have z := I.base.frzs b u v q
    rw [upd_ne (show b ≠ d from fun t => hn u v (by rw [← t]; exact q))]
    exact z
  · obtain ⟨m, z⟩ := I.base.tbls b ps q
    exact ⟨m, by rw [upd_ne (nd b _ z fun v l t => by cases t)]; exact z⟩
  · rw [upd_ne (hne _ I.free)]
    exact I.free
  · rw [upd_ne (hne _ (I.freeC x c e))]
    exact I.freeC x c e
  · obtain ⟨a1, a2, a3, a4, a5⟩ := I.pin p hp
    exact ⟨a1, by rw [upd_ne (hne _ a2)]; exact a2, a3, a4, a5⟩
  · by_cases hb : b = d
    · subst hb
      rw [upd_same] at g
      cases g
      exact ((I.hok b _ hd).2).stay (fun c v hc q => q) (fun c q => by rw [upd_ne (nd c _ q fun v l z => by cases z)]; exact q) fun c ys q => by rw [upd_ne (nd c _ q fun v l z => by cases z)]; exact q
    · rw [upd_ne hb] at g
      exact (I.hok b v g).stay (fun c v hc q => q) (fun c q => by rw [upd_ne (nd c _ q fun v l z => by cases z)]; exact q) fun c ys q => by rw [upd_ne (nd c _ q fun v l z => by cases z)]; exact q
end
def tThawU (t : TE) : TE := fun σ H Q => ∃ d : Addr, (∀ u v, H d ≠ some (.frz u v)) ∧ t σ H fun v H' => ∃ o u, H' d = some (.frz o u) ∧ Q v (upd H' d u)
theorem pe_thawU {X : Cx} {e : Expr} {t : TE} (h : PE X e t) : PE X e (tThawU t) := by
  intro pins s σ H Q I ht
  obtain ⟨d, hd, ht⟩ := ht
  have h0 : ∀ u v, X.H₀ d ≠ some (.frz u v) := fun u v e => hd u v (I.base.frzs d u v e)
  refine thn (h pins s σ H _ I ht) fun v s1 ⟨x, H1, I1, r1, o, u, e, q⟩ => ⟨x, _, I1.thawU e h0, r1, q⟩
def ItK (d : Addr) (o : Obj) (u : HO) (kvs : List (V × V)) : It :=
  ⟨fun i H => H d = some (.frz o u) ∧ i < kvs.length, fun i H x H' => H' = H ∧ ∃ kv, kvs[i]? = some kv ∧ x = kv.1, fun i H => H d = some (.frz o u) ∧ kvs.length ≤ i⟩
def ItI (d : Addr) (o : Obj) (u : HO) (kvs : List (V × V)) : It :=
  ⟨fun i H => H d = some (.frz o u) ∧ i < kvs.length, fun i H x H' => ∃ p kv, x = .ref p ∧ H p = none ∧ H' = upd H p (.tup [kv.1, kv.2]) ∧ kvs[i]? = some kv, fun i H => H d = some (.frz o u) ∧ kvs.length ≤ i⟩
def Ents (o : Obj) (es : Array DictEntry) (ep : Nat) (kvs : List (V × V)) : Prop := o.ExactDict ∧ o.data = .dict es ep ∧ Paired (fun (p : V × V) (e : DictEntry) => RelV p.1 e.key ∧ RelV p.2 e.val) kvs es.toList
theorem turn_K {P : Program} {w : World} {K : PySem.W.Frag} {tg : Expr} {d it : Addr} {o : Obj} {u : HO} {kvs : List (V × V)} {es : Array DictEntry} {ep : Nat} (m : Ents o es ep kvs) : Turn P w K tg (ItK d o u kvs) [it] it (fun i h => h.IsKeyIter it d i es.size ep) where
  mem := by simp
  obj := fun i h st b hb => by
    have e : b = it := by simpa using hb
    subst e
    obtain ⟨v, e, c, q⟩ := st
    exact ⟨v, e, fun v z => by rw [q] at z; cases z⟩
  keep := fun i h h' st k => by
    obtain ⟨v, e, r⟩ := st
    exact ⟨v, k it (by simp) v e, r⟩
  item := by
    intro X hP hw hK hc i pins s σ H E I hf st hg
    subst hP hw hK
    obtain ⟨hd, hi⟩ := hg
    have hl : kvs.length = es.size := by rw [Paired.length m.2.2, Array.length_toList]
    have ga : s.heap.get? d = some o := (I.hok d _ hd).1
    obtain ⟨f0, f1, f2, f3, f4, f5⟩ := hf it (by simp)
    obtain ⟨kv, hkv⟩ : ∃ kv, kvs[i]? = some kv := ⟨_, List.getElem?_eq_getElem hi⟩
    have hie : i < es.size := by omega
    obtain ⟨e, he, r⟩ := Paired.at' m.2.2 hkv
    have ee : es[i] = e := by
      rw [Array.getElem?_toList, Array.getElem?_eq_getElem hie] at he
      exact Option.some.inj he
    refine rw_key st ga m.2.1 hie fun h' st' sb => ?_
    have I1 : Inv X pins σ H { s with heap := h' } := I.turned (t' := s.toks) (fun b o hb e => (sb.2 b hb).trans e) f0 f1 f3 f4 f5
    obtain ⟨v, ev, c, q⟩ := id st'
    exact ⟨_, rfl, go_of (s := { s with heap := h' }) ev c q (by decide) ⟨kv.1, H, I1, by rw [ee]; exact r.1, ⟨rfl, kv, hkv, rfl⟩, st', fun b hb => (hf b hb).1⟩⟩
  done := by
    intro X hP hw hK hc i pins s σ H E I hf st hg
    subst hP hw hK
    obtain ⟨hd, hi⟩ := hg
    have hl : kvs.length = es.size := by rw [Paired.length m.2.2, Array.length_toList]
    have ga : s.heap.get? d = some o := (I.hok d _ hd).1
    obtain ⟨f0, f1, f2, f3, f4, f5⟩ := hf it (by simp)
    exact rw_keyEnd (I.ok.hd hc) st ga m.2.1 (by omega) fun h' eb => ⟨rfl, I.turned (t' := s.toks) (fun b o hb e => eb b o hb e) f0 f1 f3 f4 f5⟩
  self := fun _ _ _ _ _ st h => wpAny_pyIter_keyiter st h
theorem turn_I {P : Program} {w : World} {K : PySem.W.Frag} {elts : List Expr} {kk : Nat} {ps : Pos} {d it : Addr} {o : Obj} {u : HO} {kvs : List (V × V)} {es : Array DictEntry} {ep : Nat} (m : Ents o es ep kvs) : Turn P w K (.Tuple elts kk ps) (ItI d o u kvs) [it] it (fun i h => ∃ ok ov, IsItemIter h it d i es.size ep ok ov) where
  mem := by simp
  obj := fun i h st b hb => by
    have e : b = it := by simpa using hb
    subst e
    obtain ⟨ok, ov, q⟩ := st
    exact ⟨_, q, fun v z => by cases z⟩
  keep := fun i h h' st k => by
    obtain ⟨ok, ov, q⟩ := st
    exact ⟨ok, ov, k it (by simp) _ q⟩
  item := by
    intro X hP hw hK hc i pins s σ H E I hf st hg
    subst hP hw hK
    obtain ⟨hd, hi⟩ := hg
    obtain ⟨ok, ov, st⟩ := st
    have hl : kvs.length = es.size := by rw [Paired.length m.2.2, Array.length_toList]
    have ga : s.heap.get? d = some o := (I.hok d _ hd).1
    obtain ⟨kv, hkv⟩ : ∃ kv, kvs[i]? = some kv := ⟨_, List.getElem?_eq_getElem hi⟩
    have hie : i < es.size := by omega
    obtain ⟨e, he, r⟩ := Paired.at' m.2.2 hkv
    have ee : es[i] = e := by
      rw [Array.getElem?_toList, Array.getElem?_eq_getElem hie] at he
      exact Option.some.inj he
    have lz : it < s.heap.objs.size := Heap.lt_size st
    refine rw_item st ga m.2.1 hie fun h1 out ht kp => ⟨_, rfl, ?_⟩
    refine wpAny_letOwnedTupleGo_items (s := { s with heap := h1 }) out fun h2 it2 sb => ?_
    have sb' : Heap.SameBut it h1 h2 := sb
    have kp2 : ∀ c o, c ∉ [it] → s.heap.get? c = some o → h2.get? c = some o := fun c o hc e => sb'.extBut c o (fun t => hc (by simp [t])) (kp c o (fun t => hc (by simp [t])) e)
    have tp : IsTup h2 s.heap.objs.size ([es[i].key, es[i].val] : List Value).toArray := ⟨_, sb'.extBut _ _ (Nat.ne_of_gt lz) ht, rfl, _, rfl⟩
    have I2 := I.turnedL (t' := s.toks) (xs := [kv.1, kv.2]) kp2 hf (Nat.le_refl _) tp (.cons (by rw [ee]; exact r.1) (.cons (by rw [ee]; exact r.2) .nil)) (by show 2 ≤ sizeLine; decide)
    refine ⟨.ref s.heap.objs.size, _, I2, rfl, ⟨_, kv, rfl, I.hok.fresh (Nat.le_refl _), rfl, hkv⟩, ⟨_, _, it2⟩, fun b hb => ?_⟩
    have e : b = it := by simpa using hb
    subst e
    rw [upd_ne (Nat.ne_of_lt lz)]
    exact (hf b (by simp)).1
  done := by
    intro X hP hw hK hc i pins s σ H E I hf st hg
    subst hP hw hK
    obtain ⟨hd, hi⟩ := hg
    obtain ⟨ok, ov, st⟩ := st
    have hl : kvs.length = es.size := by rw [Paired.length m.2.2, Array.length_toList]
    have ga : s.heap.get? d = some o := (I.hok d _ hd).1
    obtain ⟨f0, f1, f2, f3, f4, f5⟩ := hf it (by simp)
    exact rw_itemEnd (I.ok.hd hc) st ga m.2.1 (by omega) fun h' eb => ⟨rfl, I.turned (t' := s.toks) (fun b o hb e => eb b o hb e) f0 f1 f3 f4 f5⟩
  self := fun _ _ _ _ _ st h => by
    obtain ⟨ok, ov, st⟩ := st
    exact itemiter_self ⟨_, st, rfl⟩ h
def DictV (P : Program) (w : World) (d : Addr) (u : HO) (kvs : List (V × V)) : Prop := (∃ l, u = .dK l ∧ kvs = l.map fun p => (kV p.1, p.2)) ∨ ∃ l ok ov, u = .ext (DX P w d l ok ov) ∧ kvs = (l.map fun p => (kV p.1, p.2)) ++ [(ok, ov)]
theorem pairs_ents {P : Program} {w : World} {es : List DictEntry} {kvs : List (Key × V)} {vs : List (Key × Value)} (rel : KV kvs vs) (hp : Pairs (mixKind P w) es vs) : Paired (fun (p : V × V) (e : DictEntry) => RelV p.1 e.key ∧ RelV p.2 e.val) (kvs.map fun p => (kV p.1, p.2)) es := by
  unfold KV at rel
  induction hp generalizing kvs with
  | nil => cases rel; exact .nil
  | @cons e kv es vs hk hv _ ih =>
    cases rel with
    | @cons p _ ps _ hr t => exact .cons ⟨rel_key (by rw [hr.1]; exact hk), by rw [hv]; exact hr.2⟩ (ih t)
theorem ents_of {P : Program} {w : World} {H : Hp} {h : Heap} {d : Addr} {u : HO} {kvs : List (V × V)} (x : ObjOk P w H h d u) (hv : DictV P w d u kvs) : (d == sysModules) = false ∧ ∃ o es ep, h.get? d = some o ∧ Ents o es ep kvs := by
  rcases hv with ⟨l, rfl, rfl⟩ | ⟨l, ok, ov, rfl, rfl⟩
  · obtain ⟨_, lo, vs, rel, o, es, ep, ga, hx, hd, _, hp, _⟩ := x
    exact ⟨lo, o, es, ep, ga, hx, hd, pairs_ents rel hp⟩
  · obtain ⟨⟨lo, o, es, ep, vs, e, ga, hx, hd, rel, _, hp, _, r1, r2, _⟩, _⟩ := x
    refine ⟨lo, o, _, ep, ga, hx, hd, ?_⟩
    rw [Array.toList_push]
    exact Paired.snoc (pairs_ents rel hp) ⟨r1, r2⟩
theorem Inv.freezeV {X : Cx} {pins : List (Addr × Obj)} {σ : St} {H : Hp} {s : Shared} {d : Addr} {u : HO} {kvs : List (V × V)} {o : Obj} (I : Inv X pins σ H s) (hd : H d = some u) (hv : DictV X.prog X.w d u kvs) (ho : s.heap.get? d = some o) : Inv X pins σ (upd H d (.frz o u)) s := by
  rcases hv with ⟨l, rfl, rfl⟩ | ⟨l, ok, ov, rfl, rfl⟩
  · exact I.freeze hd ho
  · exact I.freezeX hd ho
def iKeysV (P : Program) (w : World) (tl : TE) : TI := fun σ H R => tl σ H fun x H1 => ∃ d u kvs, x = .ref d ∧ H1 d = some u ∧ DictV P w d u kvs ∧ ∀ o, R (ItK d o u kvs) (upd H1 d (.frz o u))
def iItemsV (P : Program) (w : World) (tl : TE) : TI := fun σ H R => tl σ H fun x H1 => ∃ d u kvs, x = .ref d ∧ H1 d = some u ∧ DictV P w d u kvs ∧ ∀ o, R (ItI d o u kvs) (upd H1 d (.frz o u))
theorem pi_keysV {X : Cx} {tg l : Expr} {tl : TE} (hl : PE X l tl) : PI X tg l (iKeysV X.prog X.w tl) := by
  intro pins s σ H R I h
  refine thn (hl pins s σ H _ I h) fun v s1 ⟨x, H1, I1, r1, q1⟩ => ?_
  obtain ⟨d, u, kvs, e, hd, hv, q⟩ := q1
  subst e
  cases r1
  obtain ⟨lo, o, es, ep, ga, m⟩ := ents_of (I1.hok d _ hd) hv
  refine rw_iter lo ga m.1 m.2.1 ?_
  have I2 := I1.freezeV hd hv ga
  refine ⟨s1.heap.objs.size, [s1.heap.objs.size], _, _, _, rfl, I2.kept (t' := s1.toks) fun b o e => Heap.get?_push_of_some _ e, turn_K m, ⟨_, Heap.get?_push_size _ rfl, rfl, rfl⟩, fun b hb => ?_, q o⟩
  have e : b = s1.heap.objs.size := by simpa using hb
  subst e
  exact I2.fpOk (Nat.le_refl _) (I2.hok.fresh (Nat.le_refl _))
theorem rw_items {prog : Program} {w : World} {A : Around} {E : Value → Shared → Prop} {s : Shared} {v d : Addr} {o : Obj} {es : Array DictEntry} {ep : Nat} {Q : Value → Shared → Prop} (hv : s.heap.IsItemsView v d) (ho : s.heap.get? d = some o) (hd : o.data = .dict es ep)
    (q : Q (.ref s.heap.objs.size) { s with heap := s.heap.push { cls := .type "dict_itemiterator", data := .fields #[.none, .bool false, .ref d, .int 0 0, .int es.size 0, .int ep 0, .none, .none] } }) : wpAny (model prog w) A (pyIter (.ref v)) Q E s := by
  obtain ⟨ov, hov, hcv, hdv⟩ := id hv
  refine wpAny_pyIter_slot hv.typeIs PySem.F.slot_dict_items_iter (wpAny_call_entry PySem.F.slot_dict_items_iter hv.typeIs PySem.F.entry_dict_items_iter ?_ (PySem.F.args_dict_items_iter_1 _))
  unfold Builtin.«dict_items.__iter__» Builtin.Dict_items.dictOf Builtin.Dict_items.newIterator
  refine wpAny_bind (wpAny_pure (wpAny_bind (wpAny_bind (wpAny_field hov hdv (x := .ref d) rfl (wpAny_pure ?_)))))
  refine wpAny_bind (wpAny_bind (wpAny_dictEntries ho hd (wpAny_bind (wpAny_dictEpoch ho hd ?_))))
  have own : Builtin.Dict_items.ownsTuple "dict_itemiterator" = true := by decide
  simp only [own, if_true]
  refine wpAny_newObj_type (wpAny_pure ⟨_, rfl, "dict_itemiterator", _, ⟨_, Heap.get?_push_size _ rfl, rfl⟩, PySem.F.slot_dict_itemiterator_next.lookup, ?_⟩) (by simp only [sizeOk, Builtin.Dict_items.ownedTupleFields, List.size_toArray, List.length_append, List.length_cons, List.length_nil, sizeLine_eq]; omega)
  simpa [rawInt, Builtin.Dict_items.ownedTupleFields] using q
theorem pi_itemsV {X : Cx} {elts : List Expr} {kk : Nat} {ps apos cpos : Pos} {l : Expr} {tl : TE} (hl : PE X l tl) (hbase : attributeBase l "items" X.env (eval l X.env) = eval l X.env := by rfl) (hline : (apos.endLine == cpos.line) = true := by rfl) :
    PI X (.Tuple elts kk ps) (.Call (.Attribute l "items" apos) [] [] cpos) (iItemsV X.prog X.w tl) := by
  intro pins s σ H R I h
  refine wpAny_Call_method0_late hbase hline (thn (hl pins s σ H _ I h) fun v s1 ⟨x, H1, I1, r1, q1⟩ => ?_)
  obtain ⟨d, u, kvs, e, hd, hv, q⟩ := q1
  subst e
  cases r1
  obtain ⟨lo, o, es, ep, ga, m⟩ := ents_of (I1.hok d _ hd) hv
  have ty : s1.TypeIs (.ref d) "dict" := ⟨o, ga, m.1.1⟩
  refine ⟨"dict", "dict.items", PySem.F.plainAttrs_dict, PySem.F.slot_dict_items, PySem.F.type_dict_items, ty, fun b q => ?_, Calls.callWith_builtin rfl (PySem.evalArgs_none ?_)⟩
  · cases q
    exact ⟨o, ga, m.1.2.1⟩
  · refine wpAny_call_entry PySem.F.slot_dict_items ty PySem.F.entry_dict_items ?_ (PySem.F.args_dict_items_1 _)
    unfold Builtin.«dict.items» Builtin.Dict.noArgs
    refine wpAny_bind (wpAny_bind (wpAny_notOrdered_dict ty (wpAny_pure (a := d) ?_)))
    show wpAny _ _ (Builtin.Dict.showsAll d >>= _) _ _ s1
    unfold Builtin.Dict.showsAll
    rw [lo]
    refine wpAny_bind (wpAny_pure (wpAny_bind (wpAny_newObj_type (wpAny_pure ⟨_, rfl, ?_⟩))))
    have kp : ∀ b o', s1.heap.get? b = some o' → (s1.heap.push { cls := .type "dict_items", data := .fields #[.ref d] }).get? b = some o' := fun b o' e => Heap.get?_push_of_some _ e
    refine rw_items (s := { s1 with heap := s1.heap.push { cls := .type "dict_items", data := .fields #[.ref d] } }) ⟨_, Heap.get?_push_size _ rfl, rfl, rfl⟩ (kp _ _ ga) m.2.1 ?_
    have I2 := I1.freezeV hd hv ga
    obtain ⟨hp1, hh1⟩ : ∃ hp1, hp1 = s1.heap.push { cls := .type "dict_items", data := .fields #[.ref d] } := ⟨_, rfl⟩
    rw [← hh1] at kp ⊢
    have z1 : s1.heap.objs.size ≤ hp1.objs.size := by rw [hh1, Heap.size_push]; exact Nat.le_succ _
    refine ⟨hp1.objs.size, [hp1.objs.size], _, _, _, rfl, I2.kept (t' := s1.toks) fun b o e => Heap.get?_push_of_some _ (kp b o e), turn_I m, ⟨_, _, Heap.get?_push_size _ rfl⟩, fun b hb => ?_, q o⟩
    have e : b = hp1.objs.size := by simpa using hb
    subst e
    exact I2.fpOk z1 (I2.hok.fresh z1)
end L2

set_option Elab.async false
set_option linter.all false
set_option maxRecDepth 100000
set_option maxHeartbeats 4000000
namespace L2
open PySem PySem.Spec PyProof.Rows Srt
theorem entry_at {P : Program} {w : World} {es : List DictEntry} {kvs : List (Key × V)} {vs : List (Key × Value)} (rel : KV kvs vs) (hp : Pairs (mixKind P w) es vs) {z : Str} {v : V} (h : valV kvs (Sum.inr z) = some v) : ∃ (j : Nat) (e : DictEntry), es[j]? = some e ∧ (mixKind P w).is (Sum.inr z) e.key = true ∧ RelV v e.val ∧ (vs.map (·.1))[j]? = some (Sum.inr z) := by
  unfold KV at rel
  induction hp generalizing kvs with
  | nil => cases rel; cases h
  | @cons e kv es vs hk hv _ ih =>
    cases rel with
    | @cons p _ ps _ hr t =>
      by_cases c : p.1 = Sum.inr z
      · rw [valV_pos c] at h
        cases h
        have e1 : kv.1 = Sum.inr z := hr.1.symm.trans c
        exact ⟨0, e, rfl, by rw [← e1]; exact hk, by rw [hv]; exact hr.2, by rw [← e1]; rfl⟩
      · rw [valV_neg c] at h
        obtain ⟨j, e', h1, h2, h3, h4⟩ := ih t h
        exact ⟨j + 1, e', by simpa using h1, h2, h3, by simpa using h4⟩
section
variable {X : Cx} {pins : List (Addr × Obj)} {σ : St} {H : Hp} {s : Shared}
theorem d_getX {A : Around} {E : Value → Shared → Prop} {a : Addr} {ob : Obj} {kvs : List (Key × V)} {ok ov v : V} {z : Str} {u : Value} {Q : Value → Shared → Prop} (hu : A.units + 64 < cLine) (I : Inv X pins σ H s) (hd : H a = some (.frz ob (.ext (DX X.prog X.w a kvs ok ov)))) (tk : TextKeys kvs) (hy : OddV X.K H ok) (hv : valV kvs (Sum.inr z) = some v) (hzs : PyData.strOk z = true) (ru : RelV (.str z) u)
    (q : ∀ w' s', Inv X pins σ H s' → RelV v w' → Q w' s') : wpAny (model X.prog X.w) A (getItem (.ref a) u) Q E s := by
  obtain ⟨_, ⟨lo, o, es, ep, vs, e, ga, hx, hdt, rel, hk, hp, hn, r1, r2, hl⟩, _⟩ := (show ObjOk X.prog X.w H s.heap a (.frz ob (.ext (DX X.prog X.w a kvs ok ov))) from I.hok a _ hd)
  obtain ⟨t0, rfl⟩ := ru
  obtain ⟨dd, d1, d2, d3⟩ := odd_data hy
  have ty : s.TypeIs (.ref a) "dict" := ⟨o, ga, hx.1⟩
  obtain ⟨j, ej, hj, hjk, hjv, hjn⟩ := entry_at rel hp hv
  have lj : j < es.size := by
    have := (List.getElem?_eq_some_iff.mp hj).1
    simpa using this
  have gj : (es.push e)[j]? = some ej := by
    rw [Array.getElem?_push_lt lj]
    rw [Array.getElem?_toList, Array.getElem?_eq_getElem lj] at hj
    exact hj
  have text := fun e' (he : e' ∈ es) => entry_text rel hp tk e' (Array.mem_toList_iff.mpr he)
  have hejm : ej ∈ es := Array.mem_toList_iff.mp (List.mem_of_getElem? hj)
  have hash : ej.hash = hashStr X.w z := by
    obtain ⟨k, h1, h2⟩ := hk ej hejm
    have : k = Sum.inr z := (mixKind X.prog X.w).inj _ _ _ h1 hjk
    rw [h2, this]
    rfl
  have eqv_ne : ∀ (A' : Around) (s' : Shared) (e' : DictEntry) (x : Str) (t : Tok), A'.units ≤ A.units + 4 → s'.heap = s.heap → e'.key = Value.str x t → PyData.strOk x = true → SeqAt.EqAt A' s' e'.key (.str z t0) (decide (x = z)) := fun A' s' e' x t hA hs' ek hxs => by
    obtain ⟨as, ra⟩ := reads_of I (.str x) (.str x) e'.key rfl ⟨t, ek⟩
    obtain ⟨bs, rb⟩ := reads_of I (.str z) (.str z) (.str z t0) rfl ⟨t0, rfl⟩
    have := SeqAt.eqAt_reads (.str x) (.str z) A' s' e'.key (.str z t0) as bs (by rw [hs']; exact ra) (by rw [hs']; exact rb) hxs hzs (by
      have : min (PyData.str x).depth (PyData.str z).depth ≤ 0 := Nat.min_le_left _ _
      omega)
    have e4 : PyData.eqv (.str x) (.str z) = decide (x = z) := by
      have := eqvAll_strs [x] [z]
      simp [PyData.eqvAll] at this
      rw [this]
    rw [e4] at this
    exact this
  have odd_ne : ∀ (A' : Around) (s' : Shared), A'.units ≤ A.units + 4 → s'.heap = s.heap → SeqAt.EqAt A' s' e.key (.str z t0) false := fun A' s' hA hs' => by
    obtain ⟨as, ra⟩ := reads_of I dd ok e.key d1 r1
    obtain ⟨bs, rb⟩ := reads_of I (.str z) (.str z) (.str z t0) rfl ⟨t0, rfl⟩
    have := SeqAt.eqAt_reads dd (.str z) A' s' e.key (.str z t0) as bs (by rw [hs']; exact ra) (by rw [hs']; exact rb) d2 hzs (by
      have : min dd.depth (PyData.str z).depth ≤ 0 := Nat.min_le_right _ _
      omega)
    have e4 : PyData.eqv dd (.str z) = false := by
      rcases hy with rfl | rfl | ⟨b, zs, rfl, hb, hz⟩
      · rw [show dd = .none from by cases dd <;> simp_all [Dt]]; rfl
      · cases dd with
        | bool b => rfl
        | _ => simp_all [Dt]
      · cases dd with
        | tuple ds => rfl
        | list ds => rfl
        | _ => simp_all [Dt]
    rw [e4] at this
    exact this
  have quiet : ∀ (A' : Around) (s' : Shared), s'.heap = s.heap → ∀ e' ∈ es.push e, ∀ (R : Bool → Shared → Prop), R true s' → wpAny (model X.prog X.w) A' (eqIsQuiet 8 e'.key) R E s' := fun A' s' hs' e' he' R r => by
    rcases Array.mem_push.mp he' with he' | rfl
    · obtain ⟨x, t, ek, _⟩ := text e' he'
      rw [ek, eqIsQuiet_byValue 8 rfl]
      exact wpAny_pure r
    · rcases hy with rfl | rfl | ⟨b, zs, rfl, hb, hz⟩
      · rw [show e'.key = Value.none from r1, eqIsQuiet_byValue 8 rfl]
        exact wpAny_pure r
      · rw [show e'.key = Value.bool true from r1, eqIsQuiet_byValue 8 rfl]
        exact wpAny_pure r
      · rw [show e'.key = Value.ref b from r1]
        exact wpAny_eqIsQuiet_tuple (knd := mixKind X.prog X.w) (ks := zs.map Sum.inr) (by rw [hs']; exact (I.row hb).2) r
  have notall : ((es.push e).all fun e => isExactStrKey e.key) = false := by
    rw [Bool.eq_false_iff]
    intro y
    have := (Array.all_eq_true'.mp y) e (Array.mem_push_self)
    rcases hy with rfl | rfl | ⟨b, zs, rfl, hb, hz⟩
    · rw [show e.key = Value.none from r1] at this; cases this
    · rw [show e.key = Value.bool true from r1] at this; cases this
    · rw [show e.key = Value.ref b from r1] at this; cases this
  unfold getItem
  refine wpAny_holding ?_
  refine wpAny_bind (wpAny_sequenceKey ty (by decide) ?_)
  refine wpAny_bind (wpAny_callSpecial?_slot (name := Str.ofString "__getitem__") ty slot_dict_getitem (wpAny_call_entry slot_dict_getitem ty entry_dict_getitem ?_ (args_dict_getitem _ _)))
  show wpAny _ _ (dictGet a (.str z t0) >>= _) _ _ s
  refine wpAny_bind ?_
  unfold dictGet
  refine wpAny_holding (wpAny_bind (wpAny_pyHash_str (wpAny_bind (find_yes (s := { s with toks := s.toks + 1 }) ga hdt notall gj hash ?_ ?_ (quiet A.in1 { s with toks := s.toks + 1 } rfl) ?_))))
  · obtain ⟨x, t, ek, hxs⟩ := text ej hejm
    have e8 : RelV (kV (Sum.inr z)) ej.key := rel_key (k := Sum.inr z) hjk
    obtain ⟨t', e9⟩ := (show ∃ t, ej.key = Value.str z t from e8)
    have := eqv_ne A.in1 { s with toks := s.toks + 1 } ej z t' (show A.units + 1 ≤ A.units + 4 by omega) rfl e9 hzs
    rwa [decide_eq_true rfl] at this
  · intro i e' ne hi _
    by_cases c : i < es.size
    · rw [Array.getElem?_push_lt c] at hi
      have he' : e' ∈ es := by
        have := Option.some.inj hi
        rw [← this]
        exact Array.getElem_mem c
      obtain ⟨x, t, ek, hxs⟩ := text e' he'
      have := eqv_ne A.in1 { s with toks := s.toks + 1 } e' x t (show A.units + 1 ≤ A.units + 4 by omega) rfl ek hxs
      have nx : x ≠ z := by
        rintro rfl
        apply ne
        have li : i < vs.length := by
          have := hp.length
          rw [Array.length_toList] at this
          omega
        have g := hp.get? (e := e') (k := vs[i].1) (v := vs[i].2) (by rw [Array.getElem?_toList, Array.getElem?_eq_getElem c]; exact hi) (List.getElem?_eq_getElem li)
        have k1 : vs[i].1 = Sum.inr x := (mixKind X.prog X.w).inj _ _ _ g.1 (by rw [ek]; exact mixKind_str _ _ _ _)
        have lm : i < (vs.map (·.1)).length := by rw [List.length_map]; exact li
        have e1 : (vs.map (·.1))[i]? = some (Sum.inr x) := by rw [List.getElem?_map, List.getElem?_eq_getElem li]; exact congrArg some k1
        exact (List.getElem?_inj lm hn).mp (e1.trans hjn.symm)
      rwa [decide_eq_false nx] at this
    · have ei : i = es.size := by
        have := (Array.getElem?_eq_some_iff.mp hi).1
        rw [Array.size_push] at this
        omega
      subst ei
      rw [Array.getElem?_push_size] at hi
      cases hi
      exact odd_ne A.in1 { s with toks := s.toks + 1 } (show A.units + 1 ≤ A.units + 4 by omega) rfl
  · dsimp only
    refine wpAny_bind (wpAny_dictEntries (s := { s with toks := s.toks + 1 }) ga hdt (wpAny_pure ?_))
    rw [gj]
    exact wpAny_pure ⟨_, rfl, wpAny_pure (q _ _ (I.tok _) hjv)⟩
end
def tDGetX (P : Program) (w : World) (K : PySem.W.Frag) (td ty : TE) : TE := fun σ H Q => td σ H fun x H1 => ty σ H1 fun y H2 => ∃ a v, x = .ref a ∧ (DGet H2 a y (some v) ∨ ∃ ob kvs ok ov z, H2 a = some (.frz ob (.ext (DX P w a kvs ok ov))) ∧ TextKeys kvs ∧ OddV K H2 ok ∧ y = .str z ∧ PyData.strOk z = true ∧ valV kvs (Sum.inr z) = some v) ∧ Q v H2
section
variable {X : Cx} {o i : Expr} {pos : Pos} {td ty : TE}
theorem pe_dgetX (hu : X.A.units + 64 < cLine) (ho : PE X o td) (hi : PE X i ty) (hs : NoSl i) : PE X (.Subscript o i pos) (tDGetX X.prog X.w X.K td ty) := by
  intro pins s σ H Q I h
  refine subD_of PySem.F.slot_dict_getitem.lookup hs (thn (ho pins s σ H _ I h) fun u s1 ⟨x, H1, I1, rx, q1⟩ => thn (hi pins s1 σ H1 _ I1 q1) fun iv s2 ⟨y, H2, I2, ry, a, v, ex, g, q2⟩ => ?_)
  subst ex
  obtain rfl : u = Value.ref a := rx
  rcases g with g | ⟨ob, kvs, ok, ov, z, g, tk, hy, rfl, hz, hv⟩
  · exact ⟨dict_typeIs I2 g, d_getItem (by omega) I2 g ry fun w' s3 I3 rw' => ⟨v, H2, I3, rw', q2⟩⟩
  · refine ⟨?_, d_getX hu I2 g tk hy hv hz ry fun w' s3 I3 rw' => ⟨v, H2, I3, rw', q2⟩⟩
    obtain ⟨_, ⟨_, o, _, _, _, _, ga, hx, _⟩, _⟩ := (show ObjOk X.prog X.w H2 s2.heap a (.frz ob (.ext (DX X.prog X.w a kvs ok ov))) from I2.hok a _ g)
    exact ⟨o, ga, hx.1⟩
theorem call_isinstX : CallR X (.builtin "isinstance") (fun xs H Q => ∃ x n t b, xs = [x, .ty n] ∧ (TyOf X.K H x t ∨ (t = .type "dict" ∧ ∃ a kvs ok ov, x = .ref a ∧ H a = some (.ext (DX X.prog X.w a kvs ok ov)))) ∧ PySem.W.kitOne X.K t (.type n) = some b ∧ Q (.bl b) H) := by
  intro pins s σ H xs us Q I r h
  obtain ⟨x, n, t, b, rfl, ht, e, q⟩ := h
  rcases ht with ht | ⟨rfl, a, kvs, ok, ov, rfl, ha⟩
  · exact call_isinst pins s σ H [x, .ty n] us Q I r ⟨x, n, t, b, rfl, ht, e, q⟩
  · obtain ⟨u1, u2, rfl, ru1, ru2⟩ := vals2 r
    cases (show u1 = Value.ref a from ru1)
    cases (show u2 = Value.type n from ru2)
    obtain ⟨⟨_, o, _, _, _, _, ga, hx, _⟩, _⟩ := (show ObjOk X.prog X.w H s.heap a (.ext (DX X.prog X.w a kvs ok ov)) from I.hok a _ ha)
    exact PySem.W.kia_one PySem.W.kitx_dict I.kIn ⟨o, ga, hx.1⟩ e (fun z => nomatch z) fun tk => ⟨.bl b, H, I.tok tk, rfl, q⟩
end
end L2

set_option Elab.async false
set_option linter.all false
set_option maxRecDepth 100000
set_option maxHeartbeats 4000000
namespace L2
open PySem PySem.Spec PyProof.Rows Srt
def tThawS (t : TS) : TS := fun D σ H => ∃ d : Addr, (∀ u v, H d ≠ some (.frz u v)) ∧ t { D with nx := fun σ' H' => ∃ o u, H' d = some (.frz o u) ∧ D.nx σ' (upd H' d u), rt := fun v H' => ∃ o u, H' d = some (.frz o u) ∧ D.rt v (upd H' d u) } σ H
theorem ps_thawS {X : Cx} {st : Stmt} {t : TS} (h : PS X st t) : PS X st (tThawS t) := by
  intro pins s σ H D I ht
  obtain ⟨d, hd, ht⟩ := ht
  have h0 : ∀ u v, X.H₀ d ≠ some (.frz u v) := fun u v e => hd u v (I.base.frzs d u v e)
  refine thn (h pins s σ H _ I ht) fun f s1 q => ?_
  cases f with
  | next =>
    obtain ⟨σ', H', J, o, u, e, n⟩ := q
    exact ⟨σ', _, J.thawU e h0, n⟩
  | brk => exact q
  | cont => exact q
  | ret u =>
    obtain ⟨v, σ', H', J, r, o, u', e, n⟩ := q
    exact ⟨v, σ', _, J.thawU e h0, r, n⟩
section
variable {d : Addr} {o : Obj} {u : HO} {kvs : List (V × V)}
theorem for_keysV {g : TG} {tb : TS} {D : Ends} {σ : St} {H : Hp} (Pv : Nat → St → Hp → Prop) (h0 : Pv 0 σ H) (hl : ∀ i σ H, i ≤ kvs.length → Pv i σ H → H d = some (.frz o u))
    (hs : ∀ i kv σ H, kvs[i]? = some kv → Pv i σ H → g kv.1 σ H fun σ2 H2 => tb { D with nx := Pv (i + 1), ct := Pv (i + 1), bk := D.nx } σ2 H2) (hd : ∀ σ H, Pv kvs.length σ H → D.nx σ H) :
    ∃ W : Nat → Nat → St → Hp → Prop, (∃ m, W 0 m σ H) ∧ ∀ i m σ H, W i m σ H →
      ((ItK d o u kvs).stop i H ∧ D.nx σ H) ∨ ((ItK d o u kvs).go i H ∧ ∃ N : St → Hp → Prop, (∀ σ' H', N σ' H' → ∃ m', m' < m ∧ W (i + 1) m' σ' H') ∧ ∀ x H', (ItK d o u kvs).yld i H x H' → g x σ H' fun σ2 H2 => tb { D with nx := N, ct := N, bk := D.nx } σ2 H2) := by
  refine ⟨fun i m σ H => m = kvs.length - i ∧ i ≤ kvs.length ∧ Pv i σ H, ⟨kvs.length, by simp, Nat.zero_le _, h0⟩, ?_⟩
  rintro i m σ H ⟨rfl, hi, p⟩
  have q := hl i σ H hi p
  by_cases hlt : i < kvs.length
  · refine .inr ⟨⟨q, hlt⟩, Pv (i + 1), fun σ' H' p' => ⟨kvs.length - (i + 1), by omega, rfl, hlt, p'⟩, fun x H' y => ?_⟩
    obtain ⟨rfl, kv, hk, rfl⟩ := y
    exact hs i kv σ _ hk p
  · have e : i = kvs.length := by omega
    subst e
    exact .inl ⟨⟨q, Nat.le_refl _⟩, hd σ H p⟩
theorem comp2_items {K : PySem.W.Frag} {fr : List Nat} {tt : TT} {te : TE} {σ : St} {H1 : Hp} {R : Addr → List V → Hp → Prop} (Pv : Nat → List V → Hp → Prop) (hx : kvs.length < sizeLine) (h0 : Pv 0 [] H1) (hl : ∀ i ys H, i ≤ kvs.length → Pv i ys H → H d = some (.frz o u) ∧ ys.length ≤ i)
    (hs : ∀ (i : Nat) (kv : V × V) (ys : List V) (H : Hp) (p : Addr) (N : List V → Hp → Prop), kvs[i]? = some kv → Pv i ys H → H p = none → (∀ ys' H', Pv (i + 1) ys' H' → N ys' H') →
      tt (some kv.1 :: some kv.2 :: slotsOf fr σ) (upd H p (.tup [kv.1, kv.2])) fun b H4 => if b = true then te (some kv.1 :: some kv.2 :: slotsOf fr σ) H4 (fun y H5 => N (ys ++ [y]) H5) else N ys H4)
    (hd : ∀ ys H, Pv kvs.length ys H → ∀ l, H l = none → R l ys H) : CompGoalT (ItI d o u kvs) 2 fr (gPair K) tt te σ H1 R := by
  refine ⟨fun i m ys H => m = kvs.length - i ∧ i ≤ kvs.length ∧ Pv i ys H, ⟨kvs.length, by simp, Nat.zero_le _, h0⟩, ?_⟩
  rintro i m ys H ⟨rfl, hi, p⟩
  obtain ⟨q, hy⟩ := hl i ys H hi p
  by_cases hlt : i < kvs.length
  · refine .inr ⟨⟨q, hlt⟩, by omega, ?_⟩
    rintro v H3 ⟨pp, kv, rfl, hp, rfl, hkv⟩ own ho
    have h := hs i kv ys H pp (fun ys' H' => ∃ m', m' < kvs.length - i ∧ m' = kvs.length - (i + 1) ∧ i + 1 ≤ kvs.length ∧ Pv (i + 1) ys' H') hkv p hp fun ys' H' p' => ⟨_, by omega, rfl, hlt, p'⟩
    exact pair_in ho rfl (SqT.of upd_same) ⟨[some kv.1, some kv.2], rfl, rfl, h⟩
  · have e : i = kvs.length := by omega
    subst e
    exact .inl ⟨⟨q, Nat.le_refl _⟩, by omega, hd ys H p⟩
end
def SameAt (K : PySem.W.Frag) (H : Hp) : List (Key × V) → List (Key × V) → Prop := Paired fun p q => p.1 = q.1 ∧ ∃ d, Dt K H d p.2 ∧ Dt K H d q.2 ∧ SeqAt.shaped d = true ∧ PyData.eqv d d = true
def rEqM (K : PySem.W.Frag) (neg : Bool) : R2 := fun x y H Q => ∃ a b ka kb, x = .ref a ∧ y = .ref b ∧ H a = some (.dK ka) ∧ H b = some (.dK kb) ∧ SameAt K H ka kb ∧ Q (.bl (!neg)) H
section
variable {X : Cx}
theorem hits_of {pins : List (Addr × Obj)} {σ : St} {H : Hp} {s : Shared} (hu : X.A.units + 96 < cLine) (I : Inv X pins σ H s) {kb : List (Key × Value)} (nd : (kb.map (·.1)).Nodup) : ∀ {ka kb' : List (Key × V)} {va vb : List (Key × Value)}, SameAt X.K H ka kb' → KV ka va → KV kb' vb → (∀ p ∈ vb, p ∈ kb) → PySem.W.KeqHits X.A.in1 s kb va true := by
  intro ka kb' va vb h
  induction h generalizing va vb with
  | nil =>
    intro r1 r2 _
    cases r1
    exact .nil
  | @cons p q ps qs hr _ ih =>
    intro r1 r2 hm
    cases r1 with
    | @cons _ a _ as h1 t1 =>
      cases r2 with
      | @cons _ b _ bs h2 t2 =>
        obtain ⟨e, d, d1, d2, sh, ev⟩ := hr
        obtain ⟨k, v⟩ := a
        obtain ⟨k', v'⟩ := b
        have ek : k = k' := h1.1.symm.trans (e.trans h2.1)
        subst ek
        obtain ⟨as1, ra⟩ := reads_of I d p.2 v d1 h1.2
        obtain ⟨bs1, rb⟩ := reads_of I d q.2 v' d2 h2.2
        have at' := PySem.W.keq_at (A := X.A) ra rb sh sh (show X.A.units + 1 + 64 < cLine by omega)
        rw [ev] at at'
        obtain ⟨i, hi⟩ := List.mem_iff_getElem?.mp (hm (k, v') List.mem_cons_self)
        exact .hit (e := true) (b := true) (valueAt_of_get nd hi) at' (ih t1 t2 fun x hx => hm x (List.mem_cons_of_mem _ hx))
theorem op_eqM (hu : X.A.units + 96 < cLine) : OpR X (compareOp .Eq) (rEqM X.K false) := by
  intro pins s σ H x y v u Q I rx ry h
  obtain ⟨a, b, ka, kb, rfl, rfl, ha, hb, hs, q⟩ := h
  cases rx
  cases ry
  obtain ⟨_, la, va, ra, da⟩ := dk_of I.hok ha
  obtain ⟨_, lb, vb, rb, db⟩ := dk_of I.hok hb
  have le : va.length = vb.length := by rw [← ra.length, ← rb.length]; exact hs.length
  refine PySem.W.keq_eq (r := true) la lb da db (by omega) (fun _ => hits_of hu I ?_ hs ra rb fun _ h => h) ?_
  · obtain ⟨_, _, _, _, _, _, _, _, nd⟩ := db
    exact nd
  · rw [le]
    simp only [BEq.rfl, Bool.true_and]
    exact ⟨.bl true, H, I, rfl, q⟩
theorem op_neM (hu : X.A.units + 96 < cLine) : OpR X (compareOp .NotEq) (rEqM X.K true) := by
  intro pins s σ H x y v u Q I rx ry h
  obtain ⟨a, b, ka, kb, rfl, rfl, ha, hb, hs, q⟩ := h
  cases rx
  cases ry
  obtain ⟨_, la, va, ra, da⟩ := dk_of I.hok ha
  obtain ⟨_, lb, vb, rb, db⟩ := dk_of I.hok hb
  have le : va.length = vb.length := by rw [← ra.length, ← rb.length]; exact hs.length
  refine PySem.W.keq_ne (r := true) la lb da db (by omega) (fun _ => hits_of hu I ?_ hs ra rb fun _ h => h) ?_
  · obtain ⟨_, _, _, _, _, _, _, _, nd⟩ := db
    exact nd
  · rw [le]
    simp only [BEq.rfl, Bool.true_and, Bool.not_true]
    exact ⟨.bl false, H, I, rfl, q⟩
end
def rowD (r : List Str) : PyData := .tuple (r.map PyData.str)
def rowsD (rows : List (List Str)) : PyData := .list (rows.map rowD)
def OkRows (rows : List (List Str)) : Prop := ∀ r ∈ rows, ∀ z ∈ r, PyData.strOk z = true
section
variable {K : PySem.W.Frag} {H : Hp}
theorem dt_row {r : List Str} {y : V} (h : ∃ a, y = .ref a ∧ SqT K H a (r.map V.str)) : Dt K H (rowD r) y := by
  obtain ⟨a, rfl, h⟩ := h
  unfold rowD
  rw [Dt]
  exact ⟨a, _, rfl, h, dtAll_strs r⟩
theorem dt_allRows : ∀ {ys : List V} {rows : List (List Str)}, RowsAt K H ys rows → DtAll K H (rows.map rowD) ys := by
  intro ys rows h
  induction h with
  | nil => rw [List.map_nil, DtAll]
  | cons hr _ ih =>
    rw [List.map_cons, DtAll]
    exact ⟨_, _, rfl, dt_row hr, ih⟩
theorem dt_rows {p : Addr} {ys : List V} {rows : List (List Str)} (h : SqL K H p ys) (hr : RowsAt K H ys rows) : Dt K H (rowsD rows) (.ref p) := by
  unfold rowsD
  rw [Dt]
  exact ⟨p, ys, rfl, h, dt_allRows hr⟩
end
theorem eqv_row (r t : List Str) : PyData.eqv (rowD r) (rowD t) = decide (r = t) := by
  unfold rowD
  rw [PyData.eqv, eqvAll_strs]
theorem eqvAll_rows : ∀ a b : List (List Str), PyData.eqvAll (a.map rowD) (b.map rowD) = decide (a = b)
  | [], [] => by simp [PyData.eqvAll]
  | [], _ :: _ => by simp [PyData.eqvAll]
  | _ :: _, [] => by simp [PyData.eqvAll]
  | a :: r, b :: t => by
    simp only [List.map_cons, PyData.eqvAll, eqv_row, eqvAll_rows r t]
    by_cases h : a = b <;> by_cases h' : r = t <;> simp [h, h']
theorem eqv_rows (a b : List (List Str)) : PyData.eqv (rowsD a) (rowsD b) = decide (a = b) := by
  unfold rowsD
  rw [PyData.eqv, eqvAll_rows]
theorem lay_rows : ∀ rows : List (List Str), OkRows rows → PyData.canLayAll0 (rows.map rowD) = true
  | [], _ => rfl
  | z :: r, h => by
    have h1 : (rowD z).canLay0 = true := lay_strs z (h z List.mem_cons_self)
    have h2 := lay_rows r fun y hy => h y (List.mem_cons_of_mem _ hy)
    simp [PyData.canLayAll0, h1, h2]
theorem depth_rows : ∀ rows : List (List Str), PyData.depthAll (rows.map rowD) ≤ 1
  | [] => by simp [PyData.depthAll]
  | z :: r => by
    have h1 : (rowD z).depth = 1 := by simp [rowD, PyData.depth, depth_strs]
    have := depth_rows r
    simp [PyData.depthAll, h1]
    omega
theorem shaped_rows {rows : List (List Str)} (h : OkRows rows) : SeqAt.shaped (rowsD rows) = true := by
  have := depth_rows rows
  simp [SeqAt.shaped, rowsD, PyData.canLay0, PyData.depth, lay_rows rows h]
  omega
theorem RowsAt.keep {K : PySem.W.Frag} {H H' : Hp} {ys : List V} {rows : List (List Str)} (h : RowsAt K H ys rows) (k : ∀ a xs, SqT K H a xs → SqT K H' a xs) : RowsAt K H' ys rows := by
  induction h with
  | nil => exact .nil
  | cons hr _ ih =>
    obtain ⟨a, e, hr⟩ := hr
    exact .cons ⟨a, e, k _ _ hr⟩ ih
end L2

set_option Elab.async false
set_option linter.all false
set_option maxRecDepth 100000
set_option maxHeartbeats 4000000
namespace K05
open PySem PySem.Spec PyProof.Rows L2 Srt
seal L2.PE L2.PT L2.PW L2.PA L2.PS L2.PSs L2.PI L2.PO L2.PPs L2.PG L2.PGs
def top (i : Nat) : Stmt := PySem.Challenge.pw_askviews_k05_tables.main.body.getD i (.Pass ⟨0, 0, 0, 0⟩)
abbrev s_is_value : Stmt := top 4
abbrev s_is_row : Stmt := top 6
abbrev s_are_rows : Stmt := top 7
abbrev s_is_tables : Stmt := top 8
abbrev s_rows_of : Stmt := top 9
abbrev s_sorted_tables : Stmt := top 10
abbrev s_l_feed : Stmt := top 12
abbrev s_l_draw : Stmt := top 13
abbrev s_l_pool : Stmt := top 14
abbrev s_l_names : Stmt := top 15
abbrev s_l_values : Stmt := top 16
abbrev s_l_length : Stmt := top 17
abbrev s_l_tables : Stmt := top 18
abbrev s_l_word : Stmt := top 19
abbrev s_l_row : Stmt := top 20
abbrev s_l_is : Stmt := top 21
abbrev s_l_odd : Stmt := top 22
abbrev s_l_bent : Stmt := top 23
abbrev s_l_copy : Stmt := top 24
abbrev s_l_sorted_right : Stmt := top 25
abbrev s_law : Stmt := top 26
def Scr (K : PySem.W.Frag) (H : Hp) (a : Addr) (xs : List V) : Prop :=
  (∃ o, H a = some (.frz o (.lst xs))) ∨ ∃ (o : Obj) (its : Array Value) (n : Nat), K.lookup a = some o ∧ o.cls = .type "list" ∧ o.dict = none ∧ o.data = .seq its n ∧ its.size ≤ sizeLine ∧ Vals xs its.toList
theorem Scr.sq {K : PySem.W.Frag} {H : Hp} {a : Addr} {xs : List V} (h : Scr K H a xs) : SqL K H a xs := by
  rcases h with ⟨o, h⟩ | h
  · exact .inl (.inr ⟨o, h⟩)
  · exact .inr h
theorem Scr.but {K : PySem.W.Frag} {H : Hp} {a f : Addr} {xs ys : List V} {o : HO} (h : Scr K H a xs) (hf : H f = some (.lst ys)) : Scr K (upd H f o) a xs := by
  rcases h with ⟨ob, h⟩ | h
  · exact .inl ⟨ob, by rw [upd_ne (ne_of h hf fun z => by cases z)]; exact h⟩
  · exact .inr h
theorem Scr.new {K : PySem.W.Frag} {H : Hp} {a p : Addr} {xs : List V} {o : HO} (h : Scr K H a xs) (hp : H p = none) : Scr K (upd H p o) a xs := by
  rcases h with ⟨ob, h⟩ | h
  · exact .inl ⟨ob, by rw [upd_ne (ne_of_none h hp)]; exact h⟩
  · exact .inr h
def Feed (K : PySem.W.Frag) (f : Addr) (H : Hp) : Prop :=
  ∃ (a : Addr) (ns : List Int) (p q r : Int), H f = some (.lst [.ref a, .int p, .int q, .int r]) ∧ 0 ≤ p ∧ 0 ≤ q ∧ 0 ≤ r ∧ Scr K H a (ns.map V.int) ∧ ns.length ≤ 63
def Ext (f : Addr) (H H' : Hp) : Prop := ∀ b o, b ≠ f → H b = some o → H' b = some o
theorem Ext.refl (f : Addr) (H : Hp) : Ext f H H := fun _ _ _ h => h
theorem Ext.trans {f : Addr} {H H1 H2 : Hp} (a : Ext f H H1) (b : Ext f H1 H2) : Ext f H H2 := fun c o n h => b c o n (a c o n h)
theorem Ext.new {f : Addr} {H H1 : Hp} {p : Addr} (a : Ext f H H1) (h : H1 p = none) (o : HO) : Ext f H (upd H1 p o) := fun b u n q => by
  rw [upd_ne (ne_of_none (a b u n q) h)]
  exact a b u n q
theorem Ext.own {f : Addr} {H H1 : Hp} {p : Addr} (a : Ext f H H1) (h : H p = none) (o : HO) : Ext f H (upd H1 p o) := fun b u n q => by
  rw [upd_ne (ne_of_none q h)]
  exact a b u n q
theorem Ext.feed {f : Addr} {H H1 : Hp} (a : Ext f H H1) (o : HO) : Ext f H (upd H1 f o) := fun b u n q => by
  rw [upd_ne n]
  exact a b u n q
theorem Ext.none {f : Addr} {H H1 : Hp} (a : Ext f H H1) {p : Addr} (n : p ≠ f) (h : H1 p = Option.none) : H p = Option.none := by
  cases q : H p with
  | none => rfl
  | some o =>
    rw [a p o n q] at h
    cases h
theorem Feed.new {K : PySem.W.Frag} {f : Addr} {H : Hp} {p : Addr} (h : Feed K f H) (hp : H p = none) (o : HO) : Feed K f (upd H p o) := by
  obtain ⟨a, ns, x, y, z, hf, h1, h2, h3, hS, hn⟩ := h
  exact ⟨a, ns, x, y, z, by rw [upd_ne (ne_of_none hf hp)]; exact hf, h1, h2, h3, hS.new hp, hn⟩
theorem Feed.lst {K : PySem.W.Frag} {f : Addr} {H : Hp} {p : Addr} {xs : List V} (h : Feed K f H) (hp : H p = some (.lst xs)) (n : p ≠ f) (o : HO) : Feed K f (upd H p o) := by
  obtain ⟨a, ns, x, y, z, hf, h1, h2, h3, hS, hn⟩ := h
  exact ⟨a, ns, x, y, z, by rw [upd_ne n.symm]; exact hf, h1, h2, h3, hS.but hp, hn⟩
theorem Feed.nef {K : PySem.W.Frag} {f : Addr} {H : Hp} {p : Addr} (h : Feed K f H) (hp : H p = none) : p ≠ f := by
  obtain ⟨a, ns, x, y, z, hf, _⟩ := h
  exact (ne_of_none hf hp).symm

def spDraw (K : PySem.W.Frag) : Sp := fun vs H Q _ => ∃ (f : Addr) (many : Int), vs = [.ref f, .int many] ∧ Feed K f H ∧ 0 < many ∧ many < 1073741824 ∧ ∀ (i : Int) (H' : Hp), 0 ≤ i → i < many → Feed K f H' → Ext f H H' → Q (.int i) H'
def spPool (K : PySem.W.Frag) : Sp := fun vs H Q _ => ∃ (f pl : Addr) (many : Int) (xs : List V), vs = [.ref f, .ref pl, .int many] ∧ Feed K f H ∧ pl ≠ f ∧ H pl = some (.lst xs) ∧ 0 < xs.length ∧ xs.length ≤ 100 ∧ 0 ≤ many ∧ many ≤ 100 ∧
  ∀ (r : Addr) (ys : List V) (H' : Hp), Feed K f H' → Ext f H H' → r ≠ f → H' r = some (.lst ys) → (ys.length : Int) = many → (∀ y ∈ ys, y ∈ xs) → Q (.ref r) H'
def spSome (K : PySem.W.Frag) (texts : List Str) (most : Nat) : Sp := fun vs H Q _ => ∃ (f : Addr), vs = [.ref f] ∧ Feed K f H ∧
  ∀ (r : Addr) (ys : List V) (H' : Hp), Feed K f H' → Ext f H H' → r ≠ f → H' r = some (.lst ys) → 1 ≤ ys.length → ys.length ≤ most → (∀ y ∈ ys, y ∈ texts.map V.str) → Q (.ref r) H'
def namesPool : List Str := ["r", "s", "rs", "r1", "a", "tttttttt"]
def valuesPool : List Str := ["a", "ab", "12", "b", "a1", "zzzzzzzz", "r", "1"]
def spLength (K : PySem.W.Frag) : Sp := fun vs H Q _ => ∃ (f : Addr) (n : Str), vs = [.ref f, .str n] ∧ Feed K f H ∧ ∀ (i : Int) (H' : Hp), 1 ≤ i → i ≤ 4 → Feed K f H' → Ext f H H' → Q (.int i) H'
section
variable {P : Program} {w : World} {K : PySem.W.Frag} {mg : Str → Option Value} {base : Heap}
structure Txt (K : PySem.W.Frag) (mg : Str → Option Value) : Prop where
  n_len : mg "len" = none
  n_abs : mg "abs" = none
  n_range : mg "range" = none
  n_tuple : mg "tuple" = none
  n_list : mg "list" = none
  n_isinstance : mg "isinstance" = none
  n_all : mg "all" = none
  n_str : mg "str" = none
  n_bool : mg "bool" = none
  n_dict : mg "dict" = none
  n_sorted : mg "sorted" = none
  n_set : mg "set" = none
  g_SIGNS : ∃ t, mg "SIGNS" = some (.str "abcdefghijklmnopqrstuvwxyz0123456789" t)
  g_MOST_SIGNS : ∃ t, mg "MOST_SIGNS" = some (.int 8 t)
  g_MOST_TERMS : ∃ t, mg "MOST_TERMS" = some (.int 4 t)
theorem u96 {k : Nat} {A : Around} (r : Room k A) : A.units + 96 < cLine := by have := r.un; omega
theorem sc_l_feed : FnScope ["_law_script"] ["_law_script"] (defScope s_l_feed) := ⟨rfl, rfl, rfl, by decide +kernel, rfl, by decide +kernel, by decide +kernel⟩
theorem ok_feed {f : Addr} {fd : FuncData} (F : Fun K "_law_feed" "_law_feed" s_l_feed f fd) : FnOk P w K mg base CX0 1 f fd ["_law_script"] (fun vs H Q _ => ∃ (a : Addr) (ns : List Int), vs = [.ref a] ∧ Scr K H a (ns.map V.int) ∧ ns.length ≤ 63 ∧ ∀ (r : Addr) (H' : Hp), Feed K r H' → Same H H' → H r = none → Q (.ref r) H') := by
  refine F.ok sc_l_feed (fun vs H Q E h => ?_) (fun cdv A outer s H vs Q E hr h => ?_)
  · obtain ⟨a, ns, rfl, _⟩ := h
    rfl
  obtain ⟨a, ns, rfl, hS, hn, k⟩ := h
  refine ⟨_, (pss_one (ps_ret (pe_lst (pa_cons (pv 0) (pa_cons pe_int (pa_cons pe_int (pa_cons pe_int pa_nil))))))), ?_⟩
  refine ⟨_, rfl, (by show 4 ≤ sizeLine; decide), fun p hp => ?_⟩
  have sm : Same H (upd H p (.lst [.ref a, .int 0, .int 0, .int 0])) := fun b u q => by rw [upd_ne (ne_of_none q hp)]; exact q
  exact k p _ ⟨a, ns, 0, 0, 0, upd_same, Int.le_refl _, Int.le_refl _, Int.le_refl _, hS.new hp, hn⟩ sm hp
theorem sc_l_draw : FnScope ["_law_feed_here", "_law_many", "_law_script", "_law_figure", "_law_cell", "_law_mixed"] ["_law_feed_here", "_law_many"] (defScope s_l_draw) := ⟨rfl, rfl, rfl, by decide +kernel, rfl, by decide +kernel, by decide +kernel⟩
theorem ok_draw {f : Addr} {fd : FuncData} (F : Fun K "_law_draw" "_law_draw" s_l_draw f fd) (T : Txt K mg) : FnOk P w K mg base CX0 1 f fd ["_law_feed_here", "_law_many"] (spDraw K) := by
  refine F.ok sc_l_draw (fun vs H Q E h => ?_) (fun cdv A outer s H vs Q E hr h => ?_)
  · obtain ⟨a, ns, rfl, _⟩ := h
    rfl
  obtain ⟨fe, many, rfl, ⟨a, ns, p, q, r, hf, hp, hq, hr0, hS, hn⟩, hm, hm2, k⟩ := h
  have nl : (ns.map V.int).length = ns.length := List.length_map _
  have lo : ∀ (x m : Int), 0 < m → m < 2 ^ 32 → -(2 ^ 64) < x % m ∧ x % m < 2 ^ 64 := fun x m h1 h2 => by
    have h3 := Int.emod_nonneg x (show m ≠ 0 by omega)
    have h4 := Int.emod_lt_of_pos x h1
    omega
  refine cut 3 (fun σ H' => ∃ p' q' r', σ = [some (.ref fe), some (.int many), some (.ref a), none, none, none] ∧ H' fe = some (.lst [.ref a, .int p', .int q', .int r']) ∧ 0 ≤ p' ∧ 0 ≤ q' ∧ 0 ≤ r' ∧ Scr K H' a (ns.map V.int) ∧ Ext fe H H')
    (cutA 3 (fun σ H' => ∃ p' q' r' c, σ = [some (.ref fe), some (.int many), some (.ref a), none, some (.int c), none] ∧ H' fe = some (.lst [.ref a, .int p', .int q', .int r']) ∧ 0 ≤ p' ∧ 0 ≤ q' ∧ 0 ≤ r' ∧ Scr K H' a (ns.map V.int) ∧ Ext fe H H')
      ⟨_, (pss_cons (ps_set (i := 5) sc_l_draw.nd rfl (Or.inl rfl) (pe_op op_mod (pe_op op_add (pe_op op_add (pe_op op_mul (pe_op op_mod (pv 4) pe_int) pe_int) (pe_op op_mul (pe_ix ix_list (pv 0) pe_int (fun _ _ => rfl)) pe_int)) pe_int) pe_int))
      (pss_cons (ps_set (i := 5) sc_l_draw.nd rfl (Or.inl rfl) (pe_op op_mod (pe_op op_mul (pv 5) (pe_op op_add (pv 5) pe_int)) pe_int))
      (pss_one (ps_ret (pe_op op_mod (pe_op op_mod (pe_op op_mul (pv 5) pe_int) pe_int) (pv 1)))))), ?_⟩ (fun t2 ht => ⟨_, (pss_cons (ps_if (pt_cmpR op_gt (pe_ix ix_list (pv 0) pe_int (fun _ _ => rfl)) pe_int (nomark _)) (pss_cons (ps_set (i := 3) sc_l_draw.nd rfl (Or.inl rfl) (pe_op op_mod (pe_ix ix_list (pv 0) pe_int (fun _ _ => rfl)) (pv 1)))
      (pss_cons (ps_asg (pe_op op_fdiv (pe_ix ix_list (pv 0) pe_int (fun _ _ => rfl)) (pv 1)) (pg_sub (pv 0) pe_int set_list))
      (pss_one (ps_ret (pv 3))))) pss_nil)
      (pss_cons (ps_set (i := 4) sc_l_draw.nd rfl (Or.inl rfl) pe_int)
      (pss_cons (ps_if (pt_cmpR op_gt (pe_callB call_len rfl T.n_len PySem.boot_len (pa_cons (pv 2) pa_nil)) pe_int (nomark _)) (pss_one (ps_set (i := 4) sc_l_draw.nd rfl (Or.inl rfl) (pe_ix ix_list (pv 2) (pe_op op_mod (pe_ix ix_list (pv 0) pe_int (fun _ _ => rfl)) (pe_callB call_len rfl T.n_len PySem.boot_len (pa_cons (pv 2) pa_nil))) (fun _ _ => rfl)))) pss_nil) ht))), fun tl => ?_⟩)) (fun t2 ht => ⟨_, (pss_cons (ps_set (i := 2) sc_l_draw.nd rfl (Or.inl rfl) (pe_ix ix_list (pv 0) pe_int (fun _ _ => rfl)))
      (pss_cons (ps_asg (pe_op op_add (pe_ix ix_list (pv 0) pe_int (fun _ _ => rfl)) pe_int) (pg_sub (pv 0) pe_int set_list))
      (pss_cons (ps_if (PW.pt (pw_and (pt_cmpR op_eq (pe_ix ix_list (pv 0) pe_int (fun _ _ => rfl)) pe_int (nomark _)) (pw_and1 (pt_cmpR op_lt (pe_ix ix_list (pv 0) pe_int (fun _ _ => rfl)) (pe_callB call_len rfl T.n_len PySem.boot_len (pa_cons (pv 2) pa_nil)) (nomark _))))) (pss_cons (ps_asg (pe_op op_fdivL (pe_callB call_abs rfl T.n_abs (by decide +kernel) (pa_cons (pe_ix ix_list (pv 2) (pe_ix ix_list (pv 0) pe_int (fun _ _ => rfl)) (fun _ _ => rfl)) pa_nil)) (pe_op op_pow pe_int pe_int)) (pg_sub (pv 0) pe_int set_list))
      (pss_one (ps_asg (pe_op op_add (pe_ix ix_list (pv 0) pe_int (fun _ _ => rfl)) pe_int) (pg_sub (pv 0) pe_int set_list)))) pss_nil) ht))), fun tl => ?_⟩)
  · -- the mix
    rintro σ H' ⟨p', q', r', c, rfl, hf', hp', hq', hr', hS', ex⟩
    refine ⟨_, rfl, _, _, rfl, rfl, (by show (0 : Int) < 2147483647; decide), _, _, rfl, rfl, .inl (lo _ _ (by decide) (by decide)), _, rfl, fe, _, _, _, rfl, rfl, SqL.of hf', rfl, _, _, rfl, rfl, .inr ⟨by decide, by decide⟩, _, _, rfl, rfl, _, _, rfl, rfl, _, _, rfl, rfl, (by show (0 : Int) < 2147483629; decide), ?_⟩
    refine ⟨_, rfl, _, rfl, _, _, rfl, rfl, _, _, rfl, rfl, .inl (lo _ _ (by decide) (by decide)), _, _, rfl, rfl, (by show (0 : Int) < 2147483587; decide), ?_⟩
    refine ⟨_, rfl, _, _, rfl, rfl, .inl (lo _ _ (by decide) (by decide)), _, _, rfl, rfl, (by show (0 : Int) < 2147483563; decide), _, rfl, _, _, rfl, rfl, hm, ?_⟩
    exact k _ H' (Int.emod_nonneg _ (by omega)) (Int.emod_lt_of_pos _ hm) ⟨a, ns, p', q', r', hf', hp', hq', hr', hS', hn⟩ ex
  · -- the rest of a cell, or the cell
    rintro σ H' ⟨p', q', r', rfl, hf', hp', hq', hr', hS', ex⟩
    refine ⟨_, rfl, fe, _, _, _, rfl, rfl, SqL.of hf', rfl, _, _, rfl, rfl, _, rfl, ?_⟩
    refine ite2 (fun c => ?_) (fun c => ?_)
    · refine ⟨_, rfl, fe, _, _, _, rfl, rfl, SqL.of hf', rfl, _, rfl, _, _, rfl, rfl, hm, ?_⟩
      refine ⟨_, rfl, fe, _, _, _, rfl, rfl, SqL.of hf', rfl, _, rfl, _, _, rfl, rfl, ⟨hm, hm2⟩, _, rfl, fe, _, _, _, rfl, rfl, hf', rfl, ?_⟩
      refine ⟨_, rfl, ?_⟩
      exact k _ _ (Int.emod_nonneg _ (by omega)) (Int.emod_lt_of_pos _ hm) ⟨a, ns, p', q' / many, r', upd_same, hp', Int.ediv_nonneg hq' (Int.le_of_lt hm), hr', hS'.but hf', hn⟩ (ex.feed _)
    · -- cell = 0; if len(script) > 0
      refine ⟨_, rfl, _, _, rfl, .inl ⟨_, hS'.sq, rfl⟩, _, _, rfl, rfl, _, rfl, ?_⟩
      refine ite2 (fun c2 => ?_) (fun c2 => ?_)
      · have c3 : (0 : Int) < ((ns.map V.int).length : Int) := of_decide_eq_true c2
        have c4 := Int.emod_nonneg r' (show ((ns.map V.int).length : Int) ≠ 0 by omega)
        have c5 := Int.emod_lt_of_pos r' c3
        obtain ⟨v, hv⟩ : ∃ v, ns[(r' % ((ns.map V.int).length : Int)).toNat]? = some v := ⟨_, List.getElem?_eq_getElem (by rw [← nl]; omega)⟩
        have ev : atI (ns.map V.int) (r' % ((ns.map V.int).length : Int)) = some (.int v) := by
          have e0 : r' % ((ns.map V.int).length : Int) = (((r' % ((ns.map V.int).length : Int)).toNat : Nat) : Int) := by omega
          rw [e0]
          exact atI_nat (by rw [List.getElem?_map, hv]; rfl)
        refine ⟨_, rfl, _, rfl, fe, _, _, _, rfl, rfl, SqL.of hf', rfl, _, rfl, _, _, rfl, .inl ⟨_, hS'.sq, rfl⟩, _, _, rfl, rfl, c3, _, _, _, _, rfl, rfl, hS'.sq, ev, ?_⟩
        exact tl _ _ ⟨p', q', r', v, rfl, hf', hp', hq', hr', hS', ex⟩
      · exact tl _ _ ⟨p', q', r', 0, rfl, hf', hp', hq', hr', hS', ex⟩
  · -- feed[0]; feed[3] + 1
    refine ⟨_, rfl, fe, _, _, _, rfl, rfl, SqL.of hf, rfl, ?_⟩
    refine ⟨_, rfl, fe, _, _, _, rfl, rfl, SqL.of hf, rfl, _, _, rfl, rfl, _, rfl, fe, _, _, _, rfl, rfl, hf, rfl, ?_⟩
    have hf1 : upd H fe (.lst [.ref a, .int p, .int q, .int (r + 1)]) fe = some (.lst [.ref a, .int p, .int q, .int (r + 1)]) := upd_same
    have hS1 : Scr K (upd H fe (.lst [.ref a, .int p, .int q, .int (r + 1)])) a (ns.map V.int) := hS.but hf
    have ex1 : Ext fe H (upd H fe (.lst [.ref a, .int p, .int q, .int (r + 1)])) := (Ext.refl fe H).feed _
    refine ⟨_, rfl, fe, _, _, _, rfl, rfl, SqL.of hf1, rfl, rfl, _, rfl, ?_⟩
    refine ite2 (fun c => ?_) (fun c => ?_)
    · refine ⟨_, rfl, fe, _, _, _, rfl, rfl, SqL.of hf1, rfl, _, rfl, _, _, rfl, .inl ⟨_, hS1.sq, rfl⟩, _, _, rfl, rfl, _, rfl, ?_⟩
      refine ite2 (fun c2 => ?_) (fun c2 => ?_)
      · have c3 : p < ((ns.map V.int).length : Int) := of_decide_eq_true c2
        obtain ⟨v, hv⟩ : ∃ v, ns[p.toNat]? = some v := ⟨_, List.getElem?_eq_getElem (by rw [← nl]; omega)⟩
        have ev : atI (ns.map V.int) p = some (.int v) := by
          have e0 : p = ((p.toNat : Nat) : Int) := by omega
          rw [e0]
          exact atI_nat (by rw [List.getElem?_map, hv]; rfl)
        refine ⟨_, rfl, _, rfl, fe, _, _, _, rfl, rfl, SqL.of hf1, rfl, _, _, _, _, rfl, rfl, hS1.sq, ev, _, rfl, _, _, rfl, rfl, ⟨by decide, by decide, by decide⟩, _, _, rfl, rfl, ⟨by decide, by decide +kernel⟩, _, rfl, fe, _, _, _, rfl, rfl, hf1, rfl, ?_⟩
        refine ⟨_, rfl, fe, _, _, _, rfl, rfl, SqL.of upd_same, rfl, _, _, rfl, rfl, _, rfl, fe, _, _, _, rfl, rfl, upd_same, rfl, ?_⟩
        refine tl _ _ ⟨p + 1, _, r + 1, rfl, upd_same, by omega, Int.ediv_nonneg ?_ (by decide), by omega, ?_, (ex1.feed _).feed _⟩
        · split <;> omega
        · exact (hS1.but hf1).but upd_same
      · exact tl _ _ ⟨p, q, r + 1, rfl, hf1, hp, hq, by omega, hS1, ex1⟩
    · exact tl _ _ ⟨p, q, r + 1, rfl, hf1, hp, hq, by omega, hS1, ex1⟩
theorem sc_l_pool : FnScope ["_law_feed_here", "_law_pool_here", "_law_many", "_law_start"] ["_law_feed_here", "_law_pool_here", "_law_many"] (defScope s_l_pool) := ⟨rfl, rfl, rfl, by decide +kernel, rfl, by decide +kernel, by decide +kernel⟩
structure Dr (P : Program) (w : World) (K : PySem.W.Frag) (mg : Str → Option Value) (base : Heap) : Prop where
  l_draw : DefOk P w K mg base 1 "_law_draw" ["_law_feed_here", "_law_many"] (spDraw K)
structure Dr2 (P : Program) (w : World) (K : PySem.W.Frag) (mg : Str → Option Value) (base : Heap) : Prop extends Dr P w K mg base where
  l_pool : DefOk P w K mg base 2 "_law_pool" ["_law_feed_here", "_law_pool_here", "_law_many"] (spPool K)
theorem ok_pool {f : Addr} {fd : FuncData} (F : Fun K "_law_pool" "_law_pool" s_l_pool f fd) (T : Txt K mg) (D : Dr P w K mg base) : FnOk P w K mg base CX0 2 f fd ["_law_feed_here", "_law_pool_here", "_law_many"] (spPool K) := by
  refine F.ok sc_l_pool (fun vs H Q E h => ?_) (fun cdv A outer s H vs Q E hr h => ?_)
  · obtain ⟨a, b, c, d, rfl, _⟩ := h
    rfl
  obtain ⟨fe, pl, many, xs, rfl, hF, npl, hpl, hx1, hx2, hm1, hm2, k⟩ := h
  refine ⟨_, (pss_cons (ps_set (i := 3) sc_l_pool.nd rfl (Or.inr rfl) (cl D.l_draw hr (pa_cons (pv 0) (pa_cons (pe_callB call_len rfl T.n_len PySem.boot_len (pa_cons (pv 1) pa_nil)) pa_nil))))
      (pss_one (ps_ret (pe_comp rfl (compSc_mk (fs := ["_law_pool_here", "_law_start"]) (fr := [1, 3])) (pi_range1 rfl T.n_range (pa_cons (pv 2) pa_nil)) (fun _ _ _ _ => (pe_ix (ix_listK (K := K)) (pv 1) (pe_op op_mod (pe_op op_add (pv 2) (pv 0)) (pe_callB (call_lenK (K := K)) rfl T.n_len PySem.boot_len (pa_cons (pv 1) pa_nil))) (fun _ _ => rfl))))))), ?_⟩
  refine ⟨_, rfl, _, rfl, _, _, rfl, .inl ⟨_, SqL.of hpl, rfl⟩, fe, _, rfl, hF, by omega, by omega, fun i H1 i0 i1 hF1 ex1 => ?_⟩
  have hpl1 := ex1 _ _ npl hpl
  refine ⟨_, rfl, many, rfl, by omega, by omega, fun j m ys H2 => H2 = H1 ∧ j ≤ many.toNat ∧ m = many.toNat - j ∧ ys.length = j ∧ ∀ y ∈ ys, y ∈ xs, ⟨_, rfl, Nat.zero_le _, rfl, rfl, fun y hy => by cases hy⟩, ?_⟩
  rintro j m ys H2 ⟨rfl, hj, rfl, hl, hy⟩
  by_cases hlt : j < many.toNat
  · refine .inr ⟨hlt, by rw [hl]; exact small1000 (by omega), ?_⟩
    rintro v H3 ⟨rfl, rfl⟩
    have q0 : (0 : Int) < (xs.length : Int) := by omega
    have q1 := Int.emod_nonneg (i + (0 + (j : Int))) (show (xs.length : Int) ≠ 0 by omega)
    have q2 := Int.emod_lt_of_pos (i + (0 + (j : Int))) q0
    obtain ⟨v, hv⟩ : ∃ v, xs[((i + (0 + (j : Int))) % (xs.length : Int)).toNat]? = some v := ⟨_, List.getElem?_eq_getElem (by omega)⟩
    have ev : atI xs ((i + (0 + (j : Int))) % (xs.length : Int)) = some v := by
      have e0 : (i + (0 + (j : Int))) % (xs.length : Int) = ((((i + (0 + (j : Int))) % (xs.length : Int)).toNat : Nat) : Int) := by omega
      rw [e0]
      exact atI_nat hv
    refine rd_true ?_
    refine ⟨_, rfl, _, rfl, _, rfl, _, _, rfl, rfl, _, rfl, _, _, rfl, .inl ⟨_, SqL.of hpl1, rfl⟩, _, _, rfl, rfl, q0, _, _, _, _, rfl, rfl, SqL.of hpl1, ev, ?_⟩
    refine ⟨many.toNat - (j + 1), by omega, rfl, hlt, rfl, by rw [List.length_append, hl]; rfl, fun y hy' => ?_⟩
    rcases List.mem_append.mp hy' with z | z
    · exact hy y z
    · rw [List.mem_singleton.mp z]
      exact List.mem_of_getElem? hv
  · refine .inl ⟨by show many.toNat ≤ j; omega, by rw [hl]; exact Nat.le_of_lt (small1000 (by omega)), fun l hl' => ?_⟩
    have nl : l ≠ fe := hF1.nef hl'
    exact k l ys _ (hF1.new hl' _) (ex1.new hl' _) nl upd_same (by omega) hy
theorem sc_l_names : FnScope ["_law_feed_here"] ["_law_feed_here"] (defScope s_l_names) := ⟨rfl, rfl, rfl, by decide +kernel, rfl, by decide +kernel, by decide +kernel⟩
theorem ok_names {f : Addr} {fd : FuncData} (F : Fun K "_law_names" "_law_names" s_l_names f fd) (T : Txt K mg) (D : Dr2 P w K mg base) : FnOk P w K mg base CX0 3 f fd ["_law_feed_here"] (spSome K namesPool 3) := by
  refine F.ok sc_l_names (fun vs H Q E h => ?_) (fun cdv A outer s H vs Q E hr h => ?_)
  · obtain ⟨a, rfl, _⟩ := h
    rfl
  obtain ⟨fe, rfl, hF, k⟩ := h
  refine ⟨_, (pss_one (ps_ret (cl D.l_pool hr (pa_cons (pv 0) (pa_cons (pe_lst (pa_cons pe_str (pa_cons pe_str (pa_cons pe_str (pa_cons pe_str (pa_cons pe_str (pa_cons pe_str pa_nil))))))) (pa_cons (pe_op op_add pe_int (cl D.l_draw hr (pa_cons (pv 0) (pa_cons pe_int pa_nil)))) pa_nil)))))), ?_⟩
  refine ⟨_, rfl, (by show 6 ≤ sizeLine; decide), fun p hp => ?_⟩
  have np := hF.nef hp
  refine ⟨_, rfl, fe, 3, rfl, hF.new hp _, by decide, by decide, fun i H1 i0 i1 hF1 ex1 => ?_⟩
  have hp1 := ex1 p _ np upd_same
  refine ⟨_, _, rfl, rfl, fe, p, _, _, rfl, hF1, np, hp1, by decide, by decide, by omega, by omega, fun r ys H2 hF2 ex2 nr hr2 hl hy => ?_⟩
  exact k r ys H2 hF2 (((Ext.refl fe H).new hp _).trans (ex1.trans ex2)) nr hr2 (by omega) (by omega) hy
theorem sc_l_values : FnScope ["_law_feed_here"] ["_law_feed_here"] (defScope s_l_values) := ⟨rfl, rfl, rfl, by decide +kernel, rfl, by decide +kernel, by decide +kernel⟩
theorem ok_values {f : Addr} {fd : FuncData} (F : Fun K "_law_values" "_law_values" s_l_values f fd) (T : Txt K mg) (D : Dr2 P w K mg base) : FnOk P w K mg base CX0 3 f fd ["_law_feed_here"] (spSome K valuesPool 4) := by
  refine F.ok sc_l_values (fun vs H Q E h => ?_) (fun cdv A outer s H vs Q E hr h => ?_)
  · obtain ⟨a, rfl, _⟩ := h
    rfl
  obtain ⟨fe, rfl, hF, k⟩ := h
  refine ⟨_, (pss_one (ps_ret (cl D.l_pool hr (pa_cons (pv 0) (pa_cons (pe_lst (pa_cons pe_str (pa_cons pe_str (pa_cons pe_str (pa_cons pe_str (pa_cons pe_str (pa_cons pe_str (pa_cons pe_str (pa_cons pe_str pa_nil))))))))) (pa_cons (pe_op op_add pe_int (cl D.l_draw hr (pa_cons (pv 0) (pa_cons pe_int pa_nil)))) pa_nil)))))), ?_⟩
  refine ⟨_, rfl, (by show 8 ≤ sizeLine; decide), fun p hp => ?_⟩
  have np := hF.nef hp
  refine ⟨_, rfl, fe, 4, rfl, hF.new hp _, by decide, by decide, fun i H1 i0 i1 hF1 ex1 => ?_⟩
  have hp1 := ex1 p _ np upd_same
  refine ⟨_, _, rfl, rfl, fe, p, _, _, rfl, hF1, np, hp1, by decide, by decide, by omega, by omega, fun r ys H2 hF2 ex2 nr hr2 hl hy => ?_⟩
  exact k r ys H2 hF2 (((Ext.refl fe H).new hp _).trans (ex1.trans ex2)) nr hr2 (by omega) (by omega) hy
end

end K05

set_option Elab.async false
set_option linter.all false
set_option maxRecDepth 100000
set_option maxHeartbeats 4000000
namespace K05
open PySem PySem.Spec PyProof.Rows L2 Srt
seal L2.PE L2.PT L2.PW L2.PA L2.PS L2.PSs L2.PI L2.PO L2.PPs L2.PG L2.PGs
def SIGNS : Str := "abcdefghijklmnopqrstuvwxyz0123456789"
def sgn (c : Nat) : Bool := !(Builtin.Str.occurrences SIGNS ⟨#[c]⟩ 0 SIGNS.length 1).isEmpty
def isVal (s : Str) : Bool := decide ((1 : Int) ≤ (s.length : Int)) && (decide ((s.length : Int) ≤ 8) && (s.cps.toList.map sgn).all id)
theorem same_new {H : Hp} {p : Addr} (h : H p = none) (o : HO) : Same H (upd H p o) := fun b u q => by rw [upd_ne (ne_of_none q h)]; exact q
theorem pe_ty {X : Cx} {x : Str} {n : String} {pos : Pos} (hg : Gl X x) (hm : X.mg x = none) (hv : bootBuiltins x = some (.type n)) (hn : x ≠ "__name__" := by decide) (hd : (x == ("__debug__" : Str)) = false := by decide) : PE X (.Name x pos) (tC (.ty n)) := pe_bltn hg hm hv rfl hn hd
def isStr : V → Bool
  | .str _ => true
  | _ => false
def valB : V → Bool
  | .str z => isVal z
  | _ => false
def tupOf (H : Hp) : V → Option (List V)
  | .ref a => match H a with
    | some (.tup xs) => some xs
    | _ => none
  | _ => none
theorem tupOf_eq {H : Hp} (a : Addr) : tupOf H (.ref a) = (match H a with | some (.tup xs) => some xs | _ => none) := rfl
def Th (f : Addr) (m : Nat) (H : Hp) : Nat → V → Prop
  | 0, _ => False
  | n + 1, v => v = .non ∨ (∃ b, v = .bl b) ∨ (∃ i, v = .int i) ∨ (∃ z : Str, v = .str z ∧ z.length ≤ 100) ∨ (∃ a xs, v = .ref a ∧ a ≠ f ∧ H a = some (.lst xs)) ∨ (∃ a kvs, v = .ref a ∧ a ≠ f ∧ H a = some (.dK kvs)) ∨
    (∃ a xs, v = .ref a ∧ a ≠ f ∧ H a = some (.tup xs) ∧ xs.length ≤ m ∧ ∀ x ∈ xs, Th f m H n x)
theorem Th.keep {f : Addr} {m : Nat} {H H' : Hp} (e : Ext f H H') : ∀ {n : Nat} {v : V}, Th f m H n v → Th f m H' n v
  | 0, _, h => h
  | n + 1, v, h => by
    rcases h with h | h | h | h | ⟨a, xs, rfl, nf, h⟩ | ⟨a, kvs, rfl, nf, h⟩ | ⟨a, xs, rfl, nf, h, hl, hx⟩
    · exact .inl h
    · exact .inr (.inl h)
    · exact .inr (.inr (.inl h))
    · exact .inr (.inr (.inr (.inl h)))
    · exact .inr (.inr (.inr (.inr (.inl ⟨a, xs, rfl, nf, e _ _ nf h⟩))))
    · exact .inr (.inr (.inr (.inr (.inr (.inl ⟨a, kvs, rfl, nf, e _ _ nf h⟩)))))
    · exact .inr (.inr (.inr (.inr (.inr (.inr ⟨a, xs, rfl, nf, e _ _ nf h, hl, fun x hx' => Th.keep e (hx x hx')⟩)))))
theorem Th.up {f : Addr} {m m' : Nat} {H : Hp} (hm : m ≤ m') : ∀ {n n' : Nat} {v : V}, n ≤ n' → Th f m H n v → Th f m' H n' v
  | 0, _, _, _, h => h.elim
  | n + 1, 0, v, hn, h => absurd hn (Nat.not_succ_le_zero n)
  | n + 1, n' + 1, v, hn, h => by
    rcases h with h | h | h | h | h | h | ⟨a, xs, rfl, nf, h, hl, hx⟩
    · exact .inl h
    · exact .inr (.inl h)
    · exact .inr (.inr (.inl h))
    · exact .inr (.inr (.inr (.inl h)))
    · exact .inr (.inr (.inr (.inr (.inl h))))
    · exact .inr (.inr (.inr (.inr (.inr (.inl h)))))
    · exact .inr (.inr (.inr (.inr (.inr (.inr ⟨a, xs, rfl, nf, h, Nat.le_trans hl hm, fun x hx' => Th.up hm (Nat.le_of_succ_le_succ hn) (hx x hx')⟩)))))
theorem Ext.of {f : Addr} {H H' : Hp} (s : Same H H') : Ext f H H' := fun b o _ h => s b o h
section
variable {f : Addr} {m n : Nat} {H H' : Hp} {v : V}
theorem Th.str {z : Str} (h : z.length ≤ 100) : Th f m H (n + 1) (.str z) := .inr (.inr (.inr (.inl ⟨z, rfl, h⟩)))
theorem Th.tup {a : Addr} {xs : List V} (nf : a ≠ f) (h : H a = some (.tup xs)) (hl : xs.length ≤ m) (hx : ∀ x ∈ xs, Th f m H n x) : Th f m H (n + 1) (.ref a) :=
  .inr (.inr (.inr (.inr (.inr (.inr ⟨a, xs, rfl, nf, h, hl, hx⟩)))))
theorem Th.items (h : Th f m H n v) {xs : List V} (e : tupOf H v = some xs) : ∃ a, v = .ref a ∧ a ≠ f ∧ H a = some (.tup xs) ∧ xs.length ≤ m ∧ ∀ x ∈ xs, Th f m H (n - 1) x := by
  cases n with
  | zero => exact h.elim
  | succ n =>
    rcases h with rfl | ⟨b, rfl⟩ | ⟨i, rfl⟩ | ⟨z, rfl, _⟩ | ⟨a, ys, rfl, nf, h⟩ | ⟨a, kvs, rfl, nf, h⟩ | ⟨a, ys, rfl, nf, h, hl, hx⟩
    · cases e
    · cases e
    · cases e
    · cases e
    · rw [tupOf_eq, h] at e
      cases e
    · rw [tupOf_eq, h] at e
      cases e
    · rw [tupOf_eq, h] at e
      cases e
      exact ⟨a, rfl, nf, h, hl, hx⟩
theorem tupOf_ref {a : Addr} {xs : List V} (h : H a = some (.tup xs)) : tupOf H (.ref a) = some xs := by
  rw [tupOf_eq, h]
theorem Th.isStr (h : Th f m H n v) (e : isStr v = true) : ∃ z : Str, v = .str z ∧ z.length ≤ 100 := by
  cases n with
  | zero => exact h.elim
  | succ n =>
    rcases h with rfl | ⟨b, rfl⟩ | ⟨i, rfl⟩ | ⟨z, rfl, hz⟩ | ⟨a, ys, rfl, nf, h⟩ | ⟨a, kvs, rfl, nf, h⟩ | ⟨a, ys, rfl, nf, h, hl, hx⟩
    all_goals first | exact ⟨z, rfl, hz⟩ | cases e
theorem valB_no (e : ¬ isStr v = true) : valB v = false := by
  cases v <;> first | rfl | exact absurd rfl e
theorem Th.tupOf (h : Th f m H n v) (e : Ext f H H') : tupOf H' v = tupOf H v := by
  cases q : K05.tupOf H v with
  | some xs =>
    obtain ⟨a, rfl, nf, ha, _⟩ := h.items q
    exact tupOf_ref (e _ _ nf ha)
  | none =>
    cases n with
    | zero => exact h.elim
    | succ n =>
      rcases h with rfl | ⟨b, rfl⟩ | ⟨i, rfl⟩ | ⟨z, rfl, _⟩ | ⟨a, ys, rfl, nf, h⟩ | ⟨a, kvs, rfl, nf, h⟩ | ⟨a, ys, rfl, nf, h, hl, hx⟩
      · rfl
      · rfl
      · rfl
      · rfl
      · rw [tupOf_eq, e _ _ nf h]
      · rw [tupOf_eq, e _ _ nf h]
      · rw [tupOf_ref h] at q
        cases q
theorem ty_of {K : PySem.W.Frag} (h : Th f m H n v) : ∃ t, TyOf K H v t ∧ PySem.W.kitOne K t (.type "str") = some (K05.isStr v) ∧ PySem.W.kitOne K t (.type "tuple") = some (K05.tupOf H v).isSome := by
  cases n with
  | zero => exact h.elim
  | succ n =>
    rcases h with rfl | ⟨b, rfl⟩ | ⟨i, rfl⟩ | ⟨z, rfl, hz⟩ | ⟨a, ys, rfl, nf, h⟩ | ⟨a, kvs, rfl, nf, h⟩ | ⟨a, ys, rfl, nf, h, hl, hx⟩
    · exact ⟨_, .non, by rfl, by rfl⟩
    · exact ⟨_, .bl b, by rfl, by rfl⟩
    · exact ⟨_, .int i, by rfl, by rfl⟩
    · exact ⟨_, .str z, by rfl, by rfl⟩
    · refine ⟨_, .lst h, by rfl, ?_⟩
      rw [tupOf_eq, h]
      rfl
    · refine ⟨_, .dK h, by rfl, ?_⟩
      rw [tupOf_eq, h]
      rfl
    · refine ⟨_, .tup h, by rfl, ?_⟩
      rw [tupOf_ref h]
      rfl
end
end K05

set_option Elab.async false
set_option linter.all false
set_option maxRecDepth 100000
set_option maxHeartbeats 4000000
namespace K05
open PySem PySem.Spec PyProof.Rows L2 Srt
seal L2.PE L2.PT L2.PW L2.PA L2.PS L2.PSs L2.PI L2.PO L2.PPs L2.PG L2.PGs
theorem Paired.snoc' {α β : Type} {F : α → β → Prop} {l₁ : List α} {l₂ : List β} {a : α} {b : β} (h : Paired F l₁ l₂) (q : F a b) : Paired F (l₁ ++ [a]) (l₂ ++ [b]) := h.snoc q
theorem strs_of {texts : List Str} : ∀ {ys : List V}, (∀ y ∈ ys, y ∈ texts.map V.str) → ∃ zs : List Str, ys = zs.map V.str ∧ ∀ z ∈ zs, z ∈ texts
  | [], _ => ⟨[], rfl, fun _ h => by cases h⟩
  | y :: r, h => by
    obtain ⟨zs, e, hz⟩ := strs_of (ys := r) fun y hy => h y (List.mem_cons_of_mem _ hy)
    obtain ⟨z, hz1, e1⟩ := List.mem_map.mp (h y List.mem_cons_self)
    refine ⟨z :: zs, by rw [List.map_cons, e1, ← e], fun w hw => ?_⟩
    rcases List.mem_cons.mp hw with rfl | hw
    · exact hz1
    · exact hz w hw
theorem pick_str {zs : List Str} {i : Int} (h0 : 0 ≤ i) (h1 : i < (zs.length : Int)) : ∃ z, z ∈ zs ∧ atI (zs.map V.str) i = some (.str z) := by
  obtain ⟨z, hz⟩ : ∃ z, zs[i.toNat]? = some z := ⟨_, List.getElem?_eq_getElem (by omega)⟩
  refine ⟨z, List.mem_of_getElem? hz, ?_⟩
  have e : i = ((i.toNat : Nat) : Int) := by omega
  rw [e]
  exact atI_nat (by rw [List.getElem?_map, hz]; rfl)
@[irreducible] def PEi (X : Cx) (e : Expr) (t : TE) : Prop := PE X e t
theorem pe_of {X : Cx} {e : Expr} {t : TE} (h : PEi X e t) : PE X e t := by
  unfold PEi at h
  exact h
theorem pei_disp5 {X : Cx} {pos p0 p1 p2 p3 p4 q0 q1 q2 q3 q4 : Pos} {j0 j1 j2 j3 j4 k0 k1 k2 k3 k4 : Nat} {s0 s1 s2 s3 s4 : Str} {i0 i1 i2 i3 i4 : Int} : PEi X (.Dict [some (.Constant (.str s0) j0 p0), some (.Constant (.str s1) j1 p1), some (.Constant (.str s2) j2 p2), some (.Constant (.str s3) j3 p3), some (.Constant (.str s4) j4 p4)] [(.Constant (.int i0) k0 q0), (.Constant (.int i1) k1 q1), (.Constant (.int i2) k2 q2), (.Constant (.int i3) k3 q3), (.Constant (.int i4) k4 q4)] pos) (tDisp [(tC (.str s0), tC (.int i0)), (tC (.str s1), tC (.int i1)), (tC (.str s2), tC (.int i2)), (tC (.str s3), tC (.int i3)), (tC (.str s4), tC (.int i4))]) := by
  unfold PEi
  exact pe_disp (pps_cons pe_str pe_int (pps_cons pe_str pe_int (pps_cons pe_str pe_int (pps_cons pe_str pe_int (pps_cons pe_str pe_int pps_nil))))) rfl rfl (by simp) (by show 5 ≤ 15; decide)
theorem attr_dict {ks : List (Option Expr)} {vs : List Expr} {p : Pos} {m : Str} {env : Env} {ev : Sem Value} : attributeBase (.Dict ks vs p) m env ev = ev := rfl
theorem trees_nc {x : Str} {p q cpos : Pos} {c : Const} {k : Nat} {env : Env} : backTo cpos (starEach [.Name x p, .Constant c k q] env) = [(false, eval (.Name x p) env), (false, eval (.Constant c k q) env)] := rfl
theorem few_nc {x : Str} {p q cpos : Pos} {c : Const} {k : Nat} {env : Env} : ((backTo cpos (starEach [.Name x p, .Constant c k q] env)).all (fun x => !x.1) && (backToKw cpos (keywordEach [] env)).all (fun x => x.1.isSome)
    && decide (([.Name x p, .Constant c k q] : List Expr).length + ([] : List Keyword).length + (if ([] : List Keyword).isEmpty then 0 else 1) < 30)) = true := rfl
theorem pei_get {X : Cx} {o : Expr} {td : TE} {x : Str} {px pd apos cpos : Pos} {d : Int} {jd : Nat} {tx : TE} (hu : X.A.units + 1 < cLine) (ho : PEi X o td) (hx : PE X (.Name x px) tx) (line : (apos.endLine == cpos.line) = true)
    (hb : ∀ ev : Sem Value, attributeBase o "get" X.env ev = ev) : PEi X (.Call (.Attribute o "get" apos) [.Name x px, .Constant (.int d) jd pd] [] cpos) (tDGet2 td tx (tC (.int d))) := by
  unfold PEi
  exact pe_dget2 hu (pe_of ho) hx pe_int ⟨hb _, few_nc, line, trees_nc⟩
theorem ret_of {X : Cx} {e : Expr} {te : TE} {rpos : Pos} {D : Ends} {C : L2.St → Hp → Prop} (h : PEi X e te) (q : ∀ σ H, C σ H → te σ H D.rt) : ∃ t2, PSs X [.Return (some e) rpos] t2 ∧ ∀ σ H, C σ H → t2 D σ H :=
  ⟨_, pss_one (ps_ret (pe_of h)), q⟩
section
variable {P : Program} {w : World} {K : PySem.W.Frag} {mg : Str → Option Value} {base : Heap}
def lens : List (Key × V) := [(.inr "r", .int 2), (.inr "s", .int 1), (.inr "rs", .int 2), (.inr "r1", .int 3), (.inr "a", .int 2)]
theorem lens_ok : ((mergeK [] lens).all fun p => match p.2 with | .int i => decide (1 ≤ i ∧ i ≤ 4) | _ => false) = true := by decide +kernel
theorem lens_get (k : Key) : ∃ i : Int, (valV (mergeK [] lens) k).getD (.int 1) = .int i ∧ 1 ≤ i ∧ i ≤ 4 := by
  cases e : valV (mergeK [] lens) k with
  | none => exact ⟨1, rfl, by omega, by omega⟩
  | some v =>
    obtain ⟨p, hp, e2⟩ := Option.map_eq_some_iff.mp e
    have q := List.all_eq_true.mp lens_ok p (List.mem_of_find?_eq_some hp)
    rw [e2] at q
    cases v with
    | int i => exact ⟨i, rfl, (of_decide_eq_true q).1, (of_decide_eq_true q).2⟩
    | _ => exact absurd q Bool.false_ne_true
theorem sc_l_length : FnScope ["_law_feed_here", "_law_name"] ["_law_feed_here", "_law_name"] (defScope s_l_length) := ⟨rfl, rfl, rfl, by decide +kernel, rfl, by decide +kernel, by decide +kernel⟩
theorem ok_length {f : Addr} {fd : FuncData} (F : Fun K "_law_length" "_law_length" s_l_length f fd) (T : Txt K mg) (D : Dr P w K mg base) : FnOk P w K mg base CX0 2 f fd ["_law_feed_here", "_law_name"] (spLength K) := by
  refine F.ok sc_l_length (fun vs H Q E h => ?_) (fun cdv A outer s H vs Q E hr h => ?_)
  · obtain ⟨a, b, rfl, _⟩ := h
    rfl
  obtain ⟨fe, n, rfl, hF, k⟩ := h
  have hu := hu_of hr
  refine cut 1 (fun σ H1 => σ = [some (.ref fe), some (.str n)] ∧ Feed K fe H1 ∧ Ext fe H H1) (ret_of (pei_get hu pei_disp5 (pv 1) rfl (fun _ => attr_dict)) ?_) (fun t2 ht => ⟨_, (pss_cons (ps_if (pt_cmpR op_eq (cl D.l_draw hr (pa_cons (pv 0) (pa_cons pe_int pa_nil))) pe_int (nomark _)) (pss_one (ps_ret (pe_op op_add pe_int (cl D.l_draw hr (pa_cons (pv 0) (pa_cons pe_int pa_nil)))))) pss_nil) ht), fun tl => ?_⟩)
  case refine_2 =>
    refine ⟨_, rfl, fe, 9, rfl, hF, by decide, by decide, fun i H1 i0 i1 hF1 ex1 => ?_⟩
    refine ⟨rfl, _, rfl, ?_⟩
    refine ite2 (fun c => ?_) (fun c => ?_)
    · refine ⟨_, rfl, fe, 4, rfl, hF1, by decide, by decide, fun j H2 j0 j1 hF2 ex2 => ?_⟩
      refine ⟨_, _, rfl, rfl, ?_⟩
      exact k _ H2 (by omega) (by omega) hF2 (ex1.trans ex2)
    · exact tl _ _ ⟨rfl, hF1, ex1⟩
  case refine_1 =>
    rintro σ H1 ⟨rfl, hF1, ex1⟩
    intro p hp
    refine ⟨upd_same, lens, ?_, ?_, ?_⟩
    · show [((V.str "r", V.int 2) : V × V), (.str "s", .int 1), (.str "rs", .int 2), (.str "r1", .int 3), (.str "a", .int 2)] = _
      rfl
    · show 5 ≤ 15
      decide
    have e1 : upd (upd H1 p (.dK [])) p (.dK (mergeK [] lens)) p = some (.dK (mergeK [] lens)) := upd_same
    refine ⟨p, rfl, .inl ⟨_, .inl e1⟩, ?_⟩
    refine ⟨_, rfl, ?_⟩
    refine ⟨_, DGet.k (k := Sum.inr n) e1, ?_⟩
    obtain ⟨i, e, h1, h2⟩ := lens_get (Sum.inr n)
    show Q ((valV (mergeK [] lens) (Sum.inr n)).getD (.int 1)) _
    rw [e]
    refine k i _ h1 h2 ?_ ?_
    · rw [upd_upd]
      exact hF1.new hp _
    · rw [upd_upd]
      exact ex1.new hp _
end
theorem seq_to {t u : TS} {D : Ends} {σ : L2.St} {H : Hp} (h : ∀ R : L2.St → Hp → Prop, (∀ σ' H', u D σ' H' → R σ' H') → t { D with nx := R } σ H) : tSeq t u D σ H := h (u D) fun _ _ x => x
abbrev RowsH (f : Addr) (H : Hp) : List V → List (List Str) → Prop := Paired fun (y : V) (r : List Str) => ∃ b, y = .ref b ∧ b ≠ f ∧ H b = some (.tup (r.map V.str))
def GoodRow (r : List Str) : Prop := 1 ≤ r.length ∧ r.length ≤ 4 ∧ ∀ z ∈ r, z ∈ valuesPool
def TabE (f : Addr) (H : Hp) (kv : Key × V) : Prop := ∃ (z : Str) (a : Addr) (ys : List V) (rows : List (List Str)), kv = (Sum.inr z, .ref a) ∧ z ∈ namesPool ∧ a ≠ f ∧ H a = some (.lst ys) ∧ RowsH f H ys rows ∧ (∀ r ∈ rows, GoodRow r) ∧ rows.length ≤ 7
def TabAt (f : Addr) (H : Hp) (d : Addr) (kvs : List (Key × V)) : Prop := d ≠ f ∧ H d = some (.dK kvs) ∧ (kvs.map (·.1)).Nodup ∧ kvs.length ≤ 3 ∧ ∀ kv ∈ kvs, TabE f H kv
section
variable {f : Addr} {H H' : Hp}
theorem rowsH_keep {ys : List V} {rows : List (List Str)} (h : RowsH f H ys rows) (e : Ext f H H') : RowsH f H' ys rows :=
  Paired.mapP h fun y r ⟨b, e1, n, hb⟩ => ⟨b, e1, n, e _ _ n hb⟩
theorem rowsH_at {K : PySem.W.Frag} {ys : List V} {rows : List (List Str)} (h : RowsH f H ys rows) : RowsAt K H ys rows :=
  Paired.mapP h fun y r ⟨b, e1, n, hb⟩ => ⟨b, e1, SqT.of hb⟩
theorem TabE.keep {kv : Key × V} (h : TabE f H kv) (e : Ext f H H') : TabE f H' kv := by
  obtain ⟨z, a, ys, rows, e1, hz, na, ha, hr, hg, hl⟩ := h
  exact ⟨z, a, ys, rows, e1, hz, na, e _ _ na ha, rowsH_keep hr e, hg, hl⟩
theorem Feed.dic {K : PySem.W.Frag} {p : Addr} {xs : List (Key × V)} (h : Feed K f H) (hp : H p = some (.dK xs)) (n : p ≠ f) (o : HO) : Feed K f (upd H p o) := by
  obtain ⟨a, ns, x, y, z, hf, h1, h2, h3, hS, hn⟩ := h
  refine ⟨a, ns, x, y, z, by rw [upd_ne n.symm]; exact hf, h1, h2, h3, ?_, hn⟩
  rcases hS with ⟨ob, h⟩ | h
  · exact .inl ⟨ob, by rw [upd_ne (ne_of h hp fun z => by cases z)]; exact h⟩
  · exact .inr h
theorem putK_len {kvs : List (Key × V)} {k : Key} {v : V} : (putK kvs k v).length ≤ kvs.length + 1 := by
  unfold putK
  split
  · rw [List.length_map]
    omega
  · rw [List.length_append]
    exact Nat.le_refl _
theorem putK_mem {kvs : List (Key × V)} {k : Key} {v : V} {p : Key × V} (h : p ∈ putK kvs k v) : p ∈ kvs ∨ p = (k, v) := by
  unfold putK at h
  split at h
  · obtain ⟨q, hq, rfl⟩ := List.mem_map.mp h
    split
    next c => exact .inr (by rw [c])
    next => exact .inl hq
  · rcases List.mem_append.mp h with q | q
    · exact .inl q
    · exact .inr (List.mem_singleton.mp q)
theorem putK_nodup {kvs : List (Key × V)} {k : Key} {v : V} (h : (kvs.map (·.1)).Nodup) : ((putK kvs k v).map (·.1)).Nodup := by
  unfold putK
  split
  · rw [List.map_map]
    have e : ((fun x : Key × V => x.1) ∘ fun kv : Key × V => if kv.1 = k then (kv.1, v) else kv) = fun kv => kv.1 := by
      funext kv
      show (if kv.1 = k then (kv.1, v) else kv).1 = kv.1
      split <;> rfl
    rw [e]
    exact h
  · next c =>
    rw [List.map_append]
    refine List.nodup_append.mpr ⟨h, by simp, fun a ha b hb => ?_⟩
    rw [List.map_singleton, List.mem_singleton] at hb
    subst hb
    rintro rfl
    obtain ⟨q, hq, e⟩ := List.mem_map.mp ha
    exact c (List.any_eq_true.mpr ⟨q, hq, decide_eq_true e⟩)
end
section
variable {P : Program} {w : World} {K : PySem.W.Frag} {mg : Str → Option Value} {base : Heap}
structure Dl (P : Program) (w : World) (K : PySem.W.Frag) (mg : Str → Option Value) (base : Heap) : Prop extends Dr P w K mg base where
  l_length : DefOk P w K mg base 2 "_law_length" ["_law_feed_here", "_law_name"] (spLength K)
def spTables (K : PySem.W.Frag) : Sp := fun vs H Q _ => ∃ (f nl vl : Addr) (nms vls : List Str), vs = [.ref f, .ref nl, .ref vl] ∧ Feed K f H ∧ nl ≠ f ∧ vl ≠ f ∧ H nl = some (.lst (nms.map V.str)) ∧ nms.length ≤ 3 ∧ (∀ z ∈ nms, z ∈ namesPool) ∧
  H vl = some (.lst (vls.map V.str)) ∧ 1 ≤ vls.length ∧ vls.length ≤ 4 ∧ (∀ z ∈ vls, z ∈ valuesPool) ∧ ∀ (d : Addr) (kvs : List (Key × V)) (H' : Hp), Feed K f H' → Ext f H H' → TabAt f H' d kvs → H d = none → Q (.ref d) H'
theorem sc_l_tables : FnScope ["_law_feed_here", "_law_names_here", "_law_values_here", "_law_tables_here", "_law_name", "_law_rows", "_law_k"] ["_law_feed_here", "_law_names_here", "_law_values_here"] (defScope s_l_tables) := ⟨rfl, rfl, rfl, by decide +kernel, rfl, by decide +kernel, by decide +kernel⟩
theorem ok_tables {f : Addr} {fd : FuncData} (F : Fun K "_law_tables" "_law_tables" s_l_tables f fd) (T : Txt K mg) (D : Dl P w K mg base) : FnOk P w K mg base CX0 3 f fd ["_law_feed_here", "_law_names_here", "_law_values_here"] (spTables K) := by
  refine F.ok sc_l_tables (fun vs H Q E h => ?_) (fun cdv A outer s H vs Q E hr h => ?_)
  · obtain ⟨a, b, c, d, e, rfl, _⟩ := h
    rfl
  obtain ⟨fe, nl, vl, nms, vls, rfl, hF, nnl, nvl, hnl, hn2, hn3, hvl, hv1, hv2, hv3, k⟩ := h
  have hu := hu_of hr
  refine ⟨_, (pss_cons (ps_set (i := 3) sc_l_tables.nd rfl (Or.inl rfl) pe_dnewK)
      (pss_cons (ps_for PassesOwn.never rfl (pi_list (pv 1)) (pg_name (i := 4) sc_l_tables.nd rfl (Or.inl rfl))
      (pss_cons (ps_set (i := 5) sc_l_tables.nd rfl (Or.inl rfl) (pe_lst pa_nil))
      (pss_cons (ps_for PassesOwn.never rfl (pi_range1 rfl T.n_range (pa_cons (cl D.l_draw hr (pa_cons (pv 0) (pa_cons pe_int pa_nil))) pa_nil)) (pg_name (i := 6) sc_l_tables.nd rfl (Or.inl rfl))
      (pss_one (ps_expr (pe_bm PySem.F.plainAttrs_list PySem.F.slot_list_append PySem.F.type_list_append mt_append (pv 5) (pa_cons (pe_callTy call_tuple_of rfl T.n_tuple (by decide +kernel) (pa_cons (pe_comp rfl (compSc_mk (fs := ["_law_values_here", "_law_feed_here"]) (fr := [2, 0])) (pi_range1 rfl T.n_range (pa_cons (cl D.l_length hr (pa_cons (pv 0) (pa_cons (pv 4) pa_nil))) pa_nil)) (fun _ _ _ _ => (pe_ix (ix_listK (K := K)) (pv 1) (cl D.l_draw hr (pa_cons (pv 2) (pa_cons (pe_callB (call_lenK (K := K)) rfl T.n_len PySem.boot_len (pa_cons (pv 1) pa_nil)) pa_nil))) (fun _ _ => rfl)))) pa_nil)) pa_nil)))))
      (pss_cons (ps_if (PW.pt (pw_and (pt_cmpR op_gt (pe_callB call_len rfl T.n_len PySem.boot_len (pa_cons (pv 5) pa_nil)) pe_int (nomark _)) (pw_and1 (pt_cmpR op_eq (cl D.l_draw hr (pa_cons (pv 0) (pa_cons pe_int pa_nil))) pe_int (nomark _))))) (pss_one (ps_expr (pe_bm PySem.F.plainAttrs_list PySem.F.slot_list_append PySem.F.type_list_append mt_append (pv 5) (pa_cons (pe_ix ix_list (pv 5) pe_int (fun _ _ => rfl)) pa_nil)))) pss_nil)
      (pss_one (ps_if (PW.pt (pw_or (pt_cmpR op_gt (pe_callB call_len rfl T.n_len PySem.boot_len (pa_cons (pv 5) pa_nil)) pe_int (nomark _)) (pw_or1 (pt_cmpR op_eq (cl D.l_draw hr (pa_cons (pv 0) (pa_cons pe_int pa_nil))) pe_int (nomark _))))) (pss_one (ps_dput hu (pv 3) (pv 4) (pv 5) rfl)) pss_nil))))))
      (pss_one (ps_ret (pv 3))))), ?_⟩
  intro d hd
  have nd := hF.nef hd
  have lvl : (vls.map V.str).length = vls.length := List.length_map _
  have hnl0 : upd H d (.dK []) nl = some (.lst (nms.map V.str)) := by
    rw [upd_ne (ne_of_none hnl hd)]
    exact hnl
  refine ⟨_, rfl, nl, rfl, ⟨_, SqL.of hnl0⟩, for_list (K := K) (a := nl) (xs := nms.map V.str)
    (fun i σ H2 => ∃ (x4 x5 x6 : Option V) (kvs : List (Key × V)), σ = [some (.ref fe), some (.ref nl), some (.ref vl), some (.ref d), x4, x5, x6] ∧ Feed K fe H2 ∧ Ext fe H H2 ∧ H2 d = some (.dK kvs) ∧ (kvs.map (·.1)).Nodup ∧ kvs.length ≤ i ∧ ∀ kv ∈ kvs, TabE fe H2 kv)
    ⟨none, none, none, [], rfl, hF.new hd _, (Ext.refl fe H).new hd _, upd_same, List.nodup_nil, Nat.le_refl _, fun kv h => by cases h⟩ ?_ ?_ ?_⟩
  · rintro i σ H2 hi ⟨x4, x5, x6, kvs, rfl, hF2, ex2, hd2, nd2, hl2, he2⟩
    exact SqL.of (ex2 _ _ nnl hnl)
  · rintro i x σ H2 hx ⟨x4, x5, x6, kvs, rfl, hF2, ex2, hd2, nd2, hl2, he2⟩
    obtain ⟨z, hz, rfl⟩ := Option.map_eq_some_iff.mp (by rw [← List.getElem?_map]; exact hx)
    have li : i < nms.length := (List.getElem?_eq_some_iff.mp hz).1
    have zp := hn3 z (List.mem_of_getElem? hz)
    refine ⟨(by show 0 ≤ sizeLine; decide), fun rl hrl => ?_⟩
    have nrl := hF2.nef hrl
    have rl0 : H rl = none := ex2.none nrl hrl
    have x3 : Ext fe H2 (upd H2 rl (.lst [])) := (Ext.refl fe H2).new hrl _
    refine ⟨_, rfl, fe, 7, rfl, hF2.new hrl _, by decide, by decide, fun i3 H3 j0 j1 hF3 ex3 => ?_⟩
    have ex3' := x3.trans ex3
    have nrv : vl ≠ rl := ne_of_none hvl rl0
    refine ⟨_, rfl, by omega, by omega, for_range (lo := 0) (n := i3.toNat)
      (fun j σ H4 => ∃ (y6 : Option V) (ys : List V) (rows : List (List Str)), σ = [some (.ref fe), some (.ref nl), some (.ref vl), some (.ref d), some (.str z), some (.ref rl), y6] ∧ Feed K fe H4 ∧ Ext fe H2 H4 ∧ H4 rl = some (.lst ys) ∧ RowsH fe H4 ys rows ∧ (∀ r ∈ rows, GoodRow r) ∧ rows.length = j)
      ⟨x6, [], [], rfl, hF3, ex3', ex3 _ _ nrl upd_same, .nil, fun r h => (by cases h), rfl⟩ ?_ ?_⟩
    · rintro j σ H4 hj ⟨y6, ys, rows, rfl, hF4, ex4, hrl4, hr4, hg4, hj4⟩
      have ly : ys.length = rows.length := hr4.length
      refine ⟨_, rfl, .inl ⟨rfl, _, SqL.of hrl4⟩, _, rfl, _, rfl, fe, z, rfl, hF4, fun i6 H6 l1 l2 hF6 ex6 => ?_⟩
      refine ⟨_, rfl, by omega, by omega, fun j m zs H7 => ∃ ts : List Str, zs = ts.map V.str ∧ ts.length = j ∧ j ≤ i6.toNat ∧ m = i6.toNat - j ∧ Feed K fe H7 ∧ Ext fe H6 H7 ∧ ∀ t ∈ ts, t ∈ valuesPool, ⟨_, [], rfl, rfl, Nat.zero_le _, rfl, hF6, Ext.refl _ _, fun t h => by cases h⟩, ?_⟩
      rintro j5 m5 zs H7 ⟨ts, rfl, hlt, hle, rfl, hF7, ex7, hts⟩
      have ex7' := (ex4.trans ex6).trans ex7
      by_cases lt5 : j5 < i6.toNat
      · refine .inr ⟨lt5, by rw [List.length_map, hlt]; exact small1000 (by omega), ?_⟩
        rintro v H8 ⟨rfl, rfl⟩
        have hvl7 := (ex2.trans ex7') _ _ nvl hvl
        refine rd_true ?_
        refine ⟨_, rfl, _, rfl, _, rfl, _, _, rfl, .inl ⟨_, SqL.of hvl7, rfl⟩, fe, _, rfl, hF7, by omega, by omega, fun i8 H9 n0 n1 hF9 ex9 => ?_⟩
        obtain ⟨z9, hz9, ev9⟩ := pick_str (zs := vls) n0 (by omega)
        refine ⟨_, _, _, _, rfl, rfl, SqL.of (ex9 _ _ nvl hvl7), ev9, ?_⟩
        refine ⟨i6.toNat - (j5 + 1), by omega, ts ++ [z9], by rw [List.map_append]; rfl, by rw [List.length_append, hlt]; rfl, lt5, rfl, hF9, ex7.trans ex9, fun t h => ?_⟩
        rcases List.mem_append.mp h with q | q
        · exact hts t q
        · rw [List.mem_singleton.mp q]
          exact hv3 z9 hz9
      · refine .inl ⟨by show i6.toNat ≤ j5; omega, by rw [List.length_map, hlt]; exact Nat.le_of_lt (small1000 (by omega)), fun l hl => ?_⟩
        refine ⟨_, _, rfl, .inl ⟨SqL.of upd_same, fun tt htt => ?_⟩⟩
        have hrl7 := ex7 _ _ nrl (ex6 _ _ nrl hrl4)
        have n1 : rl ≠ l := ne_of_none hrl7 hl
        have htt7 : H7 tt = none := by
          have : tt ≠ l := fun e => by rw [e, upd_same] at htt; cases htt
          rw [upd_ne this] at htt
          exact htt
        have n2 : rl ≠ tt := ne_of_none hrl7 htt7
        have hrl9 : upd (upd H7 l (.lst (ts.map V.str))) tt (.tup (ts.map V.str)) rl = some (.lst ys) := by
          rw [upd_ne n2, upd_ne n1]
          exact hrl7
        refine ⟨_, _, _, rfl, rfl, hrl9, small1000 (by omega), ?_⟩
        have hF8 := hF7.new hl (.lst (ts.map V.str))
        have hF9 := hF8.new htt (.tup (ts.map V.str))
        have x8 : Ext fe H7 (upd H7 l (.lst (ts.map V.str))) := (Ext.refl fe H7).new hl _
        have x9 : Ext fe H7 (upd (upd H7 l (.lst (ts.map V.str))) tt (.tup (ts.map V.str))) := x8.new htt _
        have ntt := hF8.nef htt
        have hr9 : RowsH fe (upd (upd (upd H7 l (.lst (ts.map V.str))) tt (.tup (ts.map V.str))) rl (.lst (ys ++ [.ref tt]))) (ys ++ [.ref tt]) (rows ++ [ts]) := by
          refine Paired.snoc' (Paired.mapP (rowsH_keep hr4 ((ex6.trans ex7).trans x9)) fun y r ⟨b, e1, nb, hb⟩ => ⟨b, e1, nb, ?_⟩) ⟨tt, rfl, ntt, ?_⟩
          · rw [upd_ne (ne_of hb hrl9 fun z => by cases z)]
            exact hb
          · rw [upd_ne n2.symm, upd_same]
        refine ⟨_, _, rows ++ [ts], rfl, hF9.lst hrl9 nrl _, (ex7'.trans x9).own hrl _, upd_same, hr9, fun r h => ?_, by rw [List.length_append, hj4]; rfl⟩
        rcases List.mem_append.mp h with q | q
        · exact hg4 r q
        · rw [List.mem_singleton.mp q]
          exact ⟨by omega, by omega, hts⟩
    · rintro σ H4 ⟨y6, ys, rows, rfl, hF4, ex4, hrl4, hr4, hg4, hj4⟩
      have ly : ys.length = rows.length := hr4.length
      have fin : ∀ (H5 : Hp) (ys : List V) (rows : List (List Str)), Feed K fe H5 → Ext fe H2 H5 → H5 rl = some (.lst ys) → RowsH fe H5 ys rows → (∀ r ∈ rows, GoodRow r) → rows.length ≤ 7 → (∃ (x4 x5 x6 : Option V) (kvs' : List (Key × V)), [some (V.ref fe), some (.ref nl), some (.ref vl), some (.ref d), some (.str z), some (.ref rl), y6] = [some (.ref fe), some (.ref nl), some (.ref vl), some (.ref d), x4, x5, x6] ∧ Feed K fe (upd H5 d (.dK (putK kvs (Sum.inr z) (.ref rl)))) ∧ Ext fe H (upd H5 d (.dK (putK kvs (Sum.inr z) (.ref rl)))) ∧ upd H5 d (.dK (putK kvs (Sum.inr z) (.ref rl))) d = some (.dK kvs') ∧ (kvs'.map (·.1)).Nodup ∧ kvs'.length ≤ i + 1 ∧ ∀ kv ∈ kvs', TabE fe (upd H5 d (.dK (putK kvs (Sum.inr z) (.ref rl)))) kv) := fun H5 ys rows hF5 ex5 hrl5 hr5 hg5 hl5 => by
        have hd5 := ex5 _ _ nd hd2
        have nrd : rl ≠ d := fun e => by rw [e, hd5] at hrl5; cases hrl5
        have keep : ∀ {a : Addr} {o : HO}, H5 a = some o → a ≠ d → upd H5 d (.dK (putK kvs (Sum.inr z) (.ref rl))) a = some o := fun h n => by rw [upd_ne n]; exact h
        have keepR : ∀ {ys : List V} {rows : List (List Str)}, RowsH fe H5 ys rows → RowsH fe (upd H5 d (.dK (putK kvs (Sum.inr z) (.ref rl)))) ys rows := fun h => Paired.mapP h fun y r ⟨b, e1, nb, hb⟩ => ⟨b, e1, nb, keep hb fun e => by rw [e, hd5] at hb; cases hb⟩
        refine ⟨_, _, _, _, rfl, hF5.dic hd5 nd _, (ex2.trans ex5).own hd _, upd_same, putK_nodup nd2, Nat.le_trans putK_len (Nat.add_le_add_right hl2 1), fun kv hkv => ?_⟩
        rcases putK_mem hkv with q | rfl
        · obtain ⟨z', a, ys', rows', e1, hz', na, ha, hr', hg', hl'⟩ := (he2 kv q).keep ex5
          exact ⟨z', a, ys', rows', e1, hz', na, keep ha (fun e => by rw [e, hd5] at ha; cases ha), keepR hr', hg', hl'⟩
        · exact ⟨z, rl, ys, rows, rfl, zp, nrl, keep hrl5 nrd, keepR hr5, hg5, hl5⟩
      have fin2 : ∀ (H5 : Hp) (q : L2.St), q = [some (V.ref fe), some (.ref nl), some (.ref vl), some (.ref d), some (.str z), some (.ref rl), y6] → Feed K fe H5 → Ext fe H2 H5 → (∃ (x4 x5 x6 : Option V) (kvs' : List (Key × V)), q = [some (.ref fe), some (.ref nl), some (.ref vl), some (.ref d), x4, x5, x6] ∧ Feed K fe H5 ∧ Ext fe H H5 ∧ H5 d = some (.dK kvs') ∧ (kvs'.map (·.1)).Nodup ∧ kvs'.length ≤ i + 1 ∧ ∀ kv ∈ kvs', TabE fe H5 kv) := fun H5 q eq hF5 ex5 =>
        ⟨_, _, _, kvs, eq, hF5, ex2.trans ex5, ex5 _ _ nd hd2, nd2, by omega, fun kv h => (he2 kv h).keep ex5⟩
      with_reducible change tSeq _ _ _ _ _
      refine seq_to fun R hR => ?_
      have second : ∀ (H5 : Hp) (ys : List V) (rows : List (List Str)), Feed K fe H5 → Ext fe H2 H5 → H5 rl = some (.lst ys) → RowsH fe H5 ys rows → (∀ r ∈ rows, GoodRow r) → rows.length ≤ 7 → R [some (V.ref fe), some (.ref nl), some (.ref vl), some (.ref d), some (.str z), some (.ref rl), y6] H5 := by
        intro H5 ys rows hF5 ex5 hrl5 hr5 hg5 hl5
        refine hR _ _ ?_
        refine ⟨_, rfl, _, _, rfl, .inl ⟨_, SqL.of hrl5, rfl⟩, _, _, rfl, rfl, _, rfl, ?_⟩
        refine ite2 (fun c => ?_) (fun c => ?_)
        · refine iteT ?_
          exact ⟨_, rfl, _, rfl, _, rfl, d, _, rfl, .inl ⟨kvs, Sum.inr z, ex5 _ _ nd hd2, rfl, small1000 (by omega), rfl⟩, fin H5 ys rows hF5 ex5 hrl5 hr5 hg5 hl5⟩
        · refine ⟨_, rfl, fe, 3, rfl, hF5, by decide, by decide, fun i6 H6 k0 k1 hF6 ex6 => ⟨rfl, _, rfl, ?_⟩⟩
          have ex6' := ex5.trans ex6
          refine ite2 (fun c => ?_) (fun c => ?_)
          · exact ⟨_, rfl, _, rfl, _, rfl, d, _, rfl, .inl ⟨kvs, Sum.inr z, ex6' _ _ nd hd2, rfl, small1000 (by omega), rfl⟩, fin H6 ys rows hF6 ex6' (ex6 _ _ nrl hrl5) (rowsH_keep hr5 ex6) hg5 hl5⟩
          · exact fin2 H6 _ rfl hF6 ex6'
      refine ⟨_, rfl, _, _, rfl, .inl ⟨_, SqL.of hrl4, rfl⟩, _, _, rfl, rfl, _, rfl, ?_⟩
      refine ite2 (fun c => ?_) (fun c => ?_)
      · have c : (1 : Int) < (ys.length : Int) := of_decide_eq_true c
        refine ⟨_, rfl, fe, 4, rfl, hF4, by decide, by decide, fun i6 H6 k0 k1 hF6 ex6 => ⟨rfl, _, rfl, ?_⟩⟩
        have ex6' := ex4.trans ex6
        have hrl6 := ex6 _ _ nrl hrl4
        have hr6 := rowsH_keep hr4 ex6
        refine ite2 (fun c => ?_) (fun c => ?_)
        · match ys, rows, hr6, hrl6, hg4, hj4, ly with
          | [], _, _, _, _, _, _ => simp at *
          | y :: ys', r :: rows', hr6, hrl6, hg4, hj4, ly =>
            refine ⟨_, rfl, .inl ⟨rfl, _, SqL.of hrl6⟩, _, rfl, _, _, _, _, rfl, rfl, SqL.of hrl6, (atI_nat (j := 0) rfl : atI (y :: ys') 0 = some y), _, _, _, rfl, rfl, hrl6, small1000 (by omega), ?_⟩
            have hr7 : RowsH fe (upd H6 rl (.lst (y :: ys' ++ [y]))) (y :: ys' ++ [y]) (r :: rows' ++ [r]) := by
              have kp : ∀ (y : V) (r : List Str), (∃ b, y = .ref b ∧ b ≠ fe ∧ H6 b = some (.tup (r.map V.str))) → ∃ b, y = .ref b ∧ b ≠ fe ∧ upd H6 rl (.lst (y :: ys' ++ [y])) b = some (.tup (r.map V.str)) := fun y r ⟨b, e1, nb, hb⟩ => ⟨b, e1, nb, by rw [upd_ne (ne_of hb hrl6 fun z => by cases z)]; exact hb⟩
              have kp : ∀ (o : HO) (y : V) (r : List Str), (∃ b, y = .ref b ∧ b ≠ fe ∧ H6 b = some (.tup (r.map V.str))) → ∃ b, y = .ref b ∧ b ≠ fe ∧ upd H6 rl o b = some (.tup (r.map V.str)) := fun o y r ⟨b, e1, nb, hb⟩ => ⟨b, e1, nb, by rw [upd_ne (ne_of hb hrl6 fun z => by cases z)]; exact hb⟩
              cases hr6 with
              | cons h0 ht => exact Paired.snoc' (.cons (kp _ _ _ h0) (Paired.mapP ht (kp _))) (kp _ _ _ h0)
            refine second _ _ (r :: rows' ++ [r]) (hF6.lst hrl6 nrl _) (ex6'.own hrl _) upd_same hr7 (fun r' h => ?_) (by rw [List.length_append, hj4]; show i3.toNat + 1 ≤ 7; omega)
            rcases List.mem_append.mp h with q | q
            · exact hg4 r' q
            · rw [List.mem_singleton.mp q]
              exact hg4 r List.mem_cons_self
        · exact second H6 ys rows hF6 ex6' hrl6 hr6 hg4 (by omega)
      · exact iteF (second H4 ys rows hF4 ex4 hrl4 hr4 hg4 (by omega))
  · rintro σ H2 ⟨x4, x5, x6, kvs, rfl, hF2, ex2, hd2, nd2, hl2, he2⟩
    rw [List.length_map] at hl2
    exact ⟨_, rfl, k d kvs H2 hF2 ex2 ⟨nd, hd2, nd2, by omega, he2⟩ hd⟩
end
end K05

set_option Elab.async false
set_option linter.all false
set_option maxRecDepth 100000
set_option maxHeartbeats 4000000
namespace K05
open PySem PySem.Spec PyProof.Rows L2 Srt
seal L2.PE L2.PT L2.PW L2.PA L2.PS L2.PSs L2.PI L2.PO L2.PPs L2.PG L2.PGs
section
variable {P : Program} {w : World} {K : PySem.W.Frag} {mg : Str → Option Value} {base : Heap}
def spIs (g : Hp → V → Bool) : Sp := fun vs H Q _ => ∃ (f : Addr) (m n : Nat) (v : V), vs = [v] ∧ Th f m H n v ∧ m ≤ 1000 ∧ ∀ H', Same H H' → Q (.bl (g H v)) H'
theorem sc_is_value : FnScope ["thing"] ["thing"] (defScope s_is_value) := ⟨rfl, rfl, rfl, by decide +kernel, rfl, by decide +kernel, by decide +kernel⟩
theorem ok_is_value {f : Addr} {fd : FuncData} (F : Fun K "is_value" "is_value" s_is_value f fd) (T : Txt K mg) : FnOk P w K mg base CX0 1 f fd ["thing"] (spIs fun _ v => valB v) := by
  refine F.ok sc_is_value (fun vs H Q E h => ?_) (fun cdv A outer s H vs Q E hr h => ?_)
  · obtain ⟨a, b, c, d, rfl, _⟩ := h
    rfl
  obtain ⟨fe, m, n, v, rfl, hv, hm, k⟩ := h
  have k : ∀ H', Same H H' → Q (.bl (valB v)) H' := k
  refine ⟨_, (pss_cons (ps_if (pt_not (pt_val (pe_callB call_isinst rfl T.n_isinstance (by decide +kernel) (pa_cons (pv 0) (pa_cons (pe_ty (n := "str") rfl T.n_str (by decide +kernel)) pa_nil))))) (pss_one (ps_ret pe_bl)) pss_nil)
      (pss_one (ps_ret (pe_and (pe_chain op_le op_le pe_int (pe_callB call_len rfl T.n_len PySem.boot_len (pa_cons (pv 0) pa_nil)) (pe_globI rfl T.g_MOST_SIGNS)) (pe_one (pe_callB (call_all_bools rfl) rfl T.n_all boot_all (pa_cons (pe_comp rfl (compSc_mk (fs := []) (fr := [])) (pi_str (pv 0)) (fun _ _ _ _ => (pe_cmpR op_in_str (pv 0) (pe_globS rfl T.g_SIGNS) (by with_unfolding_all rfl)))) pa_nil))))))), ?_⟩
  obtain ⟨t, ty, e1, e2⟩ := ty_of (K := K) hv
  refine ⟨_, rfl, _, _, _, _, rfl, ty, e1, _, rfl, ?_⟩
  by_cases hs : isStr v = true
  · obtain ⟨z, rfl, hz⟩ := hv.isStr hs
    refine iteF ?_
    have hz' : z.length ≤ sizeLine := Nat.le_of_lt (small1000 (by omega))
    refine ⟨_, rfl, _, _, rfl, ⟨hz', rfl⟩, _, _, rfl, rfl, _, rfl, ?_⟩
    refine ite2 (fun c1 => ?_) (fun c1 => ?_)
    · refine ⟨_, _, rfl, rfl, _, rfl, ?_⟩
      refine ite2 (fun c2 => ?_) (fun c2 => ?_)
      · refine ⟨_, rfl, _, rfl, comp_str (fun i ys H2 => H2 = H ∧ i ≤ z.cps.size ∧ ys = ((z.cps.toList.take i).map sgn).map V.bl) (small1000 (show z.length ≤ 1000 by omega)) ⟨rfl, Nat.zero_le _, rfl⟩ ?_ ?_ ?_⟩
        · rintro i ys H2 hi ⟨rfl, _, rfl⟩
          rw [List.length_map, List.length_map, List.length_take]
          omega
        · rintro i c ys H2 N hc ⟨rfl, hi, rfl⟩ hN
          have hlt : i < z.cps.size := (Array.getElem?_eq_some_iff.mp hc).1
          refine rd_true ?_
          refine ⟨_, rfl, _, _, rfl, rfl, hN _ _ ⟨rfl, hlt, ?_⟩⟩
          have hc' : z.cps.toList[i]? = some c := by simpa using hc
          rw [List.take_add_one, hc', List.map_append, List.map_append]
          rfl
        · rintro ys H2 ⟨rfl, _, rfl⟩ l hl'
          have et : z.cps.toList.take z.cps.size = z.cps.toList := List.take_of_length_le (by simp)
          refine ⟨_, (z.cps.toList.take z.cps.size).map sgn, rfl, SqL.of upd_same, ?_⟩
          have ev : valB (.str z) = ((z.cps.toList.take z.cps.size).map sgn).all id := by
            show isVal z = _
            unfold isVal
            rw [c1, c2, et, Bool.true_and, Bool.true_and]
          rw [← ev]
          exact k _ (same_new hl' _)
      · have ev : valB (.str z) = false := by
          show isVal z = false
          unfold isVal
          rw [Bool.eq_false_iff.mpr c2, Bool.false_and, Bool.and_false]
        have q := k H (Same.refl H)
        rw [ev] at q
        exact q
    · have ev : valB (.str z) = false := by
        show isVal z = false
        unfold isVal
        rw [Bool.eq_false_iff.mpr c1, Bool.false_and]
      have q := k H (Same.refl H)
      rw [ev] at q
      refine ⟨_, rfl, ?_⟩
      exact iteF q
  · have q := k H (Same.refl H)
    rw [valB_no hs] at q
    rw [Bool.eq_false_iff.mpr hs]
    exact iteT q
structure Dv (P : Program) (w : World) (K : PySem.W.Frag) (mg : Str → Option Value) (base : Heap) : Prop where
  is_value : DefOk P w K mg base 1 "is_value" ["thing"] (spIs fun _ v => valB v)
end
def rowB (H : Hp) (v : V) : Bool := match tupOf H v with
  | some xs => decide ((1 : Int) ≤ (xs.length : Int)) && (decide ((xs.length : Int) ≤ 4) && (xs.map valB).all id)
  | none => false
def lstOf (H : Hp) : V → Option (List V)
  | .ref a => match H a with
    | some (.lst xs) => some xs
    | _ => none
  | _ => none
def isDic (H : Hp) : V → Bool
  | .ref a => match H a with
    | some (.dK _) => true
    | _ => false
  | _ => false
def rowsB (H : Hp) (v : V) : Bool := match lstOf H v with
  | some ys => (ys.map (rowB H)).all id
  | none => false
section
variable {f : Addr} {m n : Nat} {H H' : Hp} {v : V}
theorem rowB_some {xs : List V} (e : tupOf H v = some xs) : rowB H v = (decide ((1 : Int) ≤ (xs.length : Int)) && (decide ((xs.length : Int) ≤ 4) && (xs.map valB).all id)) := by
  unfold rowB
  rw [e]
theorem rowB_none (e : tupOf H v = none) : rowB H v = false := by
  unfold rowB
  rw [e]
theorem rowsB_some {xs : List V} (e : lstOf H v = some xs) : rowsB H v = (xs.map (rowB H)).all id := by
  unfold rowsB
  rw [e]
theorem rowsB_none (e : lstOf H v = none) : rowsB H v = false := by
  unfold rowsB
  rw [e]
theorem lstOf_ref {a : Addr} {xs : List V} (h : H a = some (.lst xs)) : lstOf H (.ref a) = some xs := by
  show (match H a with | some (.lst xs) => some xs | _ => none) = _
  rw [h]
theorem Th.row (h : Th f m H n v) (e : Ext f H H') : rowB H' v = rowB H v := by
  unfold rowB
  rw [h.tupOf e]
theorem Th.lstOf (h : Th f m H n v) (e : Ext f H H') : lstOf H' v = lstOf H v := by
  cases n with
  | zero => exact h.elim
  | succ n =>
    rcases h with rfl | ⟨b, rfl⟩ | ⟨i, rfl⟩ | ⟨z, rfl, _⟩ | ⟨a, ys, rfl, nf, h⟩ | ⟨a, kvs, rfl, nf, h⟩ | ⟨a, ys, rfl, nf, h, hl, hx⟩
    · rfl
    · rfl
    · rfl
    · rfl
    all_goals
      show (match H' a with | some (.lst xs) => some xs | _ => none) = (match H a with | some (.lst xs) => some xs | _ => none)
      rw [e _ _ nf h, h]
theorem Th.asList (h : Th f m H n v) {xs : List V} (e : K05.lstOf H v = some xs) : ∃ a, v = .ref a ∧ a ≠ f ∧ H a = some (.lst xs) := by
  cases n with
  | zero => exact h.elim
  | succ n =>
    rcases h with rfl | ⟨b, rfl⟩ | ⟨i, rfl⟩ | ⟨z, rfl, _⟩ | ⟨a, ys, rfl, nf, h⟩ | ⟨a, kvs, rfl, nf, h⟩ | ⟨a, ys, rfl, nf, h, hl, hx⟩
    · cases e
    · cases e
    · cases e
    · cases e
    · rw [lstOf_ref h] at e
      cases e
      exact ⟨a, rfl, nf, h⟩
    all_goals
      replace e : (match H a with | some (.lst xs) => some xs | _ => none) = some xs := e
      rw [h] at e
      cases e
theorem ty_of2 {K : PySem.W.Frag} (h : Th f m H n v) : ∃ t, TyOf K H v t ∧ PySem.W.kitOne K t (.type "list") = some (K05.lstOf H v).isSome ∧ PySem.W.kitOne K t (.type "dict") = some (isDic H v) := by
  cases n with
  | zero => exact h.elim
  | succ n =>
    rcases h with rfl | ⟨b, rfl⟩ | ⟨i, rfl⟩ | ⟨z, rfl, hz⟩ | ⟨a, ys, rfl, nf, h⟩ | ⟨a, kvs, rfl, nf, h⟩ | ⟨a, ys, rfl, nf, h, hl, hx⟩
    · exact ⟨_, .non, by rfl, by rfl⟩
    · exact ⟨_, .bl b, by rfl, by rfl⟩
    · exact ⟨_, .int i, by rfl, by rfl⟩
    · exact ⟨_, .str z, by rfl, by rfl⟩
    · refine ⟨_, .lst h, ?_, ?_⟩
      · rw [lstOf_ref h]
        rfl
      · show _ = some (match H a with | some (.dK _) => true | _ => false)
        rw [h]
        rfl
    · refine ⟨_, .dK h, ?_, ?_⟩
      · show _ = some (match H a with | some (.lst xs) => some xs | _ => none).isSome
        rw [h]
        rfl
      · show _ = some (match H a with | some (.dK _) => true | _ => false)
        rw [h]
        rfl
    · refine ⟨_, .tup h, ?_, ?_⟩
      · show _ = some (match H a with | some (.lst xs) => some xs | _ => none).isSome
        rw [h]
        rfl
      · show _ = some (match H a with | some (.dK _) => true | _ => false)
        rw [h]
        rfl
def ThL (f : Addr) (m : Nat) (H : Hp) (n : Nat) (v : V) : Prop := Th f m H n v ∧ ∀ ys, lstOf H v = some ys → ys.length ≤ m ∧ ∀ y ∈ ys, Th f m H n y
theorem ThL.keep (h : ThL f m H n v) (e : Ext f H H') : ThL f m H' n v := ⟨h.1.keep e, fun ys hy => by
  rw [h.1.lstOf e] at hy
  exact ⟨(h.2 ys hy).1, fun y hy' => ((h.2 ys hy).2 y hy').keep e⟩⟩
theorem ThL.rows (h : ThL f m H n v) (e : Ext f H H') : rowsB H' v = rowsB H v := by
  cases q : K05.lstOf H v with
  | none => rw [rowsB_none q, rowsB_none (by rw [h.1.lstOf e]; exact q)]
  | some ys =>
    rw [rowsB_some q, rowsB_some (by rw [h.1.lstOf e]; exact q)]
    refine congrArg (fun l => List.all l id) ?_
    exact List.map_congr_left fun y hy => ((h.2 ys q).2 y hy).row e
end
def DicAt (P : Program) (w : World) (K : PySem.W.Frag) (m n : Nat) (H : Hp) (d : Addr) (u : HO) (l : List (Key × V)) (kvs : List (V × V)) : Prop :=
  H d = some u ∧ ((u = .dK l ∧ kvs = l.map fun p => (kV p.1, p.2)) ∨ ∃ ok ov, u = .ext (DX P w d l ok ov) ∧ kvs = (l.map fun p => (kV p.1, p.2)) ++ [(ok, ov)] ∧ TextKeys l ∧ OddV K H ok) ∧
  (l.map (·.1)).Nodup ∧ kvs.length ≤ 100 ∧ ∀ kv ∈ kvs, Th d m H n kv.1 ∧ ThL d m H n kv.2
def tabB (H : Hp) (kvs : List (V × V)) : Bool := (kvs.map fun kv => valB kv.1 && rowsB H kv.2).all id
def TabV (P : Program) (w : World) (K : PySem.W.Frag) (H : Hp) (v : V) (b : Bool) : Prop :=
  (∃ f m n, Th f m H n v ∧ m ≤ 1000 ∧ isDic H v = false ∧ b = false) ∨ ∃ m n d u l kvs, v = .ref d ∧ DicAt P w K m n H d u l kvs ∧ m ≤ 1000 ∧ b = tabB H kvs
section
variable {P : Program} {w : World} {K : PySem.W.Frag} {mg : Str → Option Value} {base : Heap}
theorem DicAt.dictV {m n : Nat} {H : Hp} {d : Addr} {u : HO} {l : List (Key × V)} {kvs : List (V × V)} (h : DicAt P w K m n H d u l kvs) : DictV P w d u kvs := by
  rcases h.2.1 with ⟨e1, e2⟩ | ⟨ok, ov, e1, e2, _⟩
  · exact .inl ⟨l, e1, e2⟩
  · exact .inr ⟨l, ok, ov, e1, e2⟩
theorem DicAt.nofrz {m n : Nat} {H : Hp} {d : Addr} {u : HO} {l : List (Key × V)} {kvs : List (V × V)} (h : DicAt P w K m n H d u l kvs) (o : Obj) (x : HO) : H d ≠ some (.frz o x) := by
  rw [h.1]
  rcases h.2.1 with ⟨rfl, _⟩ | ⟨ok, ov, rfl, _⟩ <;> exact fun z => nomatch z
theorem thaw_same {d : Addr} {u : HO} {H H1 H2 : Hp} (x : Ext d H H1) (sm : Same H1 H2) (hu : H d = some u) : Same H (upd H2 d u) := fun b z h => by
  by_cases e : b = d
  · subst e
    rw [upd_same, ← h, hu]
  · rw [upd_ne e]
    exact sm b z (x b z e h)
def spRows : Sp := fun vs H Q _ => ∃ (f : Addr) (m n : Nat) (v : V), vs = [v] ∧ ThL f m H n v ∧ m ≤ 1000 ∧ ∀ H', Same H H' → Q (.bl (rowsB H v)) H'
def spTabs (P : Program) (w : World) (K : PySem.W.Frag) : Sp := fun vs H Q _ => ∃ (v : V) (b : Bool), vs = [v] ∧ TabV P w K H v b ∧ ∀ H', Same H H' → Q (.bl b) H'
theorem sc_is_row : FnScope ["thing"] ["thing"] (defScope s_is_row) := ⟨rfl, rfl, rfl, by decide +kernel, rfl, by decide +kernel, by decide +kernel⟩
theorem ok_is_row {f : Addr} {fd : FuncData} (F : Fun K "is_row" "is_row" s_is_row f fd) (T : Txt K mg) (D : Dv P w K mg base) : FnOk P w K mg base CX0 2 f fd ["thing"] (spIs rowB) := by
  refine F.ok sc_is_row (fun vs H Q E h => ?_) (fun cdv A outer s H vs Q E hr h => ?_)
  · obtain ⟨a, b, c, d, rfl, _⟩ := h
    rfl
  obtain ⟨fe, m, n, v, rfl, hv, hm, k⟩ := h
  refine ⟨_, (pss_cons (ps_if (pt_not (pt_val (pe_callB call_isinst rfl T.n_isinstance (by decide +kernel) (pa_cons (pv 0) (pa_cons (pe_ty (n := "tuple") rfl T.n_tuple (by decide +kernel)) pa_nil))))) (pss_one (ps_ret pe_bl)) pss_nil)
      (pss_one (ps_ret (pe_and (pe_chain op_le op_le pe_int (pe_callB call_len rfl T.n_len PySem.boot_len (pa_cons (pv 0) pa_nil)) (pe_globI rfl T.g_MOST_TERMS)) (pe_one (pe_callB (call_all_bools rfl) rfl T.n_all boot_all (pa_cons (pe_comp rfl (compSc_mk (fs := []) (fr := [])) (pi_tup (pv 0)) (fun _ _ _ _ => (cl D.is_value hr (pa_cons (pv 0) pa_nil)))) pa_nil))))))), ?_⟩
  obtain ⟨t, ty, e1, e2⟩ := ty_of (K := K) hv
  refine ⟨_, rfl, _, _, _, _, rfl, ty, e2, _, rfl, ?_⟩
  have q := k H (Same.refl H)
  cases e : tupOf H v with
  | none =>
    rw [rowB_none e] at q
    exact iteT q
  | some xs =>
    rw [rowB_some e] at q
    obtain ⟨a, rfl, nf, ha, hl, hx⟩ := hv.items e
    refine iteF ?_
    refine ⟨_, rfl, _, _, rfl, .inr ⟨_, SqT.of ha, rfl⟩, _, _, rfl, rfl, _, rfl, ?_⟩
    refine ite2 (fun c1 => ?_) (fun c1 => ?_)
    · refine ⟨_, _, rfl, rfl, _, rfl, ?_⟩
      refine ite2 (fun c2 => ?_) (fun c2 => ?_)
      · refine ⟨_, rfl, a, rfl, ⟨xs, SqT.of ha⟩, comp_tup (K := K) (a := a) (xs := xs) (fun i ys H2 => Same H H2 ∧ i ≤ xs.length ∧ ys = ((xs.take i).map valB).map V.bl) (small1000 (by omega)) ⟨Same.refl H, Nat.zero_le _, rfl⟩ ?_ ?_ ?_⟩
        · rintro i ys H2 hi ⟨sm, _, rfl⟩
          refine ⟨SqT.of (sm _ _ ha), ?_⟩
          rw [List.length_map, List.length_map, List.length_take]
          omega
        · rintro i x ys H2 N hc ⟨sm, hi, rfl⟩ hN
          have hlt : i < xs.length := (List.getElem?_eq_some_iff.mp hc).1
          refine rd_true ?_
          refine ⟨_, rfl, fe, m, n - 1, x, rfl, (hx x (List.mem_of_getElem? hc)).keep (Ext.of sm), hm, fun H3 sm3 => hN _ _ ⟨sm.trans sm3, hlt, ?_⟩⟩
          rw [List.take_add_one, hc, List.map_append, List.map_append]
          rfl
        · rintro ys H2 ⟨sm, _, rfl⟩ l hl'
          refine ⟨_, (xs.take xs.length).map valB, rfl, SqL.of upd_same, ?_⟩
          have ev : rowB H (.ref a) = ((xs.take xs.length).map valB).all id := by
            rw [rowB_some e, List.take_length, c1, c2, Bool.true_and, Bool.true_and]
          rw [← ev]
          exact k _ (sm.trans (same_new hl' _))
      · rw [Bool.eq_false_iff.mpr c2, Bool.false_and, Bool.and_false] at q
        exact q
    · rw [Bool.eq_false_iff.mpr c1, Bool.false_and] at q
      refine ⟨_, rfl, ?_⟩
      exact iteF q
structure Dv2 (P : Program) (w : World) (K : PySem.W.Frag) (mg : Str → Option Value) (base : Heap) : Prop extends Dv P w K mg base where
  is_row : DefOk P w K mg base 2 "is_row" ["thing"] (spIs rowB)
theorem sc_are_rows : FnScope ["thing"] ["thing"] (defScope s_are_rows) := ⟨rfl, rfl, rfl, by decide +kernel, rfl, by decide +kernel, by decide +kernel⟩
theorem ok_are_rows {f : Addr} {fd : FuncData} (F : Fun K "are_rows" "are_rows" s_are_rows f fd) (T : Txt K mg) (D : Dv2 P w K mg base) : FnOk P w K mg base CX0 3 f fd ["thing"] spRows := by
  refine F.ok sc_are_rows (fun vs H Q E h => ?_) (fun cdv A outer s H vs Q E hr h => ?_)
  · obtain ⟨a, b, c, d, rfl, _⟩ := h
    rfl
  obtain ⟨fe, m, n, v, rfl, hv, hm, k⟩ := h
  refine ⟨_, (pss_one (ps_ret (pe_and (pe_callB call_isinst rfl T.n_isinstance (by decide +kernel) (pa_cons (pv 0) (pa_cons (pe_ty (n := "list") rfl T.n_list (by decide +kernel)) pa_nil))) (pe_one (pe_callB (call_all_bools rfl) rfl T.n_all boot_all (pa_cons (pe_comp rfl (compSc_mk (fs := []) (fr := [])) (pi_list (pv 0)) (fun _ _ _ _ => (cl D.is_row hr (pa_cons (pv 0) pa_nil)))) pa_nil)))))), ?_⟩
  obtain ⟨t, ty, e1, e2⟩ := ty_of2 (K := K) hv.1
  refine ⟨_, rfl, _, _, _, _, rfl, ty, e1, _, rfl, ?_⟩
  have q := k H (Same.refl H)
  cases e : lstOf H v with
  | none =>
    rw [rowsB_none e] at q
    exact iteF q
  | some xs =>
    obtain ⟨a, rfl, nf, ha⟩ := hv.1.asList e
    obtain ⟨hl, hx⟩ := hv.2 xs e
    refine iteT ?_
    refine ⟨_, rfl, a, rfl, ⟨xs, SqL.of ha⟩, comp_list (K := K) (a := a) (xs := xs) (fun i ys H2 => Same H H2 ∧ i ≤ xs.length ∧ ys = ((xs.take i).map (rowB H)).map V.bl) (small1000 (by omega)) ⟨Same.refl H, Nat.zero_le _, rfl⟩ ?_ ?_ ?_⟩
    · rintro i ys H2 hi ⟨sm, _, rfl⟩
      refine ⟨SqL.of (sm _ _ ha), ?_⟩
      rw [List.length_map, List.length_map, List.length_take]
      omega
    · rintro i x ys H2 N hc ⟨sm, hi, rfl⟩ hN
      have hlt : i < xs.length := (List.getElem?_eq_some_iff.mp hc).1
      have tx := hx x (List.mem_of_getElem? hc)
      refine rd_true ?_
      refine ⟨_, rfl, fe, m, n, x, rfl, tx.keep (Ext.of sm), hm, fun H3 sm3 => hN _ _ ⟨sm.trans sm3, hlt, ?_⟩⟩
      rw [List.take_add_one, hc, List.map_append, List.map_append, tx.row (Ext.of sm)]
      rfl
    · rintro ys H2 ⟨sm, _, rfl⟩ l hl'
      refine ⟨_, (xs.take xs.length).map (rowB H), rfl, SqL.of upd_same, ?_⟩
      have ev : rowsB H (.ref a) = ((xs.take xs.length).map (rowB H)).all id := by
        rw [rowsB_some e, List.take_length]
      rw [← ev]
      exact k _ (sm.trans (same_new hl' _))
structure Dv3 (P : Program) (w : World) (K : PySem.W.Frag) (mg : Str → Option Value) (base : Heap) : Prop extends Dv2 P w K mg base where
  are_rows : DefOk P w K mg base 3 "are_rows" ["thing"] spRows
theorem sc_is_tables : FnScope ["thing"] ["thing"] (defScope s_is_tables) := ⟨rfl, rfl, rfl, by decide +kernel, rfl, by decide +kernel, by decide +kernel⟩
theorem ok_is_tables {f : Addr} {fd : FuncData} (F : Fun K "is_tables" "is_tables" s_is_tables f fd) (T : Txt K mg) (D : Dv3 P w K mg base) : FnOk P w K mg base CX0 4 f fd ["thing"] (spTabs P w K) := by
  refine F.ok sc_is_tables (fun vs H Q E h => ?_) (fun cdv A outer s H vs Q E hr h => ?_)
  · obtain ⟨a, b, rfl, _⟩ := h
    rfl
  obtain ⟨v, b, rfl, hv, k⟩ := h
  refine ⟨_, (pss_cons (ps_if (pt_not (pt_val (pe_callB call_isinstX rfl T.n_isinstance (by decide +kernel) (pa_cons (pv 0) (pa_cons (pe_ty (n := "dict") rfl T.n_dict (by decide +kernel)) pa_nil))))) (pss_one (ps_ret pe_bl)) pss_nil)
      (pss_one (ps_ret (pe_thawU (pe_callB (call_all_bools rfl) rfl T.n_all boot_all (pa_cons (pe_compT rfl (compScT_mk (more := ["rows"]) (fs := []) (fr := [])) (pi_itemsV (pv 0)) (fun _ _ _ _ => (pg_tupK (K := K) (n := 2) rfl (pgs_cons (pg_nameC (i := 0)) (pgs_cons (pg_nameC (i := 1)) pgs_nil)))) (fun _ _ _ _ => (pe_and (cl D.is_value hr (pa_cons (pv 0) pa_nil)) (pe_one (cl D.are_rows hr (pa_cons (pv 1) pa_nil)))))) pa_nil)))))), ?_⟩
  rcases hv with ⟨fe, m, n, hv, hm, nd, rfl⟩ | ⟨m, n, d, u, l, kvs, rfl, hd, hm, rfl⟩
  · obtain ⟨t, ty, e1, e2⟩ := ty_of2 (K := K) hv
    rw [nd] at e2
    exact ⟨_, rfl, _, _, _, _, rfl, .inl ty, e2, _, rfl, iteT (k H (Same.refl H))⟩
  · have ty : TyOf K H (.ref d) (.type "dict") ∨ ((.type "dict" : Value) = .type "dict" ∧ ∃ a kvs ok ov, V.ref d = .ref a ∧ H a = some (.ext (DX P w a kvs ok ov))) := by
      rcases hd.2.1 with ⟨e1, _⟩ | ⟨ok, ov, e1, _⟩
      · exact .inl (.dK (by rw [hd.1, e1]))
      · exact .inr ⟨rfl, d, l, ok, ov, rfl, by rw [hd.1, e1]⟩
    refine ⟨_, rfl, _, _, _, _, rfl, ty, (by rfl : _ = some true), _, rfl, iteF ?_⟩
    obtain ⟨hu, hdu, nd, hl, hk⟩ := id hd
    refine ⟨d, hd.nofrz, _, rfl, d, u, kvs, rfl, hu, hd.dictV, fun o => ?_⟩
    have x1 : Ext d H (upd H d (.frz o u)) := fun b z n h => by rw [upd_ne n]; exact h
    have hd1 : upd H d (.frz o u) d = some (.frz o u) := upd_same
    generalize (upd H d (.frz o u)) = H1 at x1 hd1 ⊢
    refine comp2_items (K := K) (fun i ys H2 => Same H1 H2 ∧ i ≤ kvs.length ∧ ys = ((kvs.take i).map fun kv => valB kv.1 && rowsB H kv.2).map V.bl) (small1000 (by omega)) ⟨Same.refl H1, Nat.zero_le _, rfl⟩ ?_ ?_ ?_
    · rintro i ys H2 hi ⟨sm, _, rfl⟩
      refine ⟨sm _ _ hd1, ?_⟩
      rw [List.length_map, List.length_map, List.length_take]
      omega
    · rintro i kv ys H2 p N hc ⟨sm, hi, rfl⟩ hp hN
      have hlt : i < kvs.length := (List.getElem?_eq_some_iff.mp hc).1
      obtain ⟨t1, t2⟩ := hk kv (List.mem_of_getElem? hc)
      have sm2 : Same H1 (upd H2 p (.tup [kv.1, kv.2])) := sm.trans (same_new hp _)
      have x2 : Ext d H (upd H2 p (.tup [kv.1, kv.2])) := x1.trans (Ext.of sm2)
      have e2 : (kvs.take (i + 1)).map (fun kv => valB kv.1 && rowsB H kv.2) = (kvs.take i).map (fun kv => valB kv.1 && rowsB H kv.2) ++ [valB kv.1 && rowsB H kv.2] := by
        rw [List.take_add_one, hc, List.map_append]
        rfl
      generalize (upd H2 p (.tup [kv.1, kv.2])) = H3 at sm2 x2 ⊢
      refine rd_true ?_
      refine ⟨_, rfl, d, m, n, kv.1, rfl, t1.keep x2, hm, fun H4 sm4 => ⟨_, rfl, ?_⟩⟩
      refine ite2 (fun c => ?_) (fun c => ?_)
      · have c : valB kv.1 = true := c
        refine ⟨_, rfl, d, m, n, kv.2, rfl, t2.keep (x2.trans (Ext.of sm4)), hm, fun H5 sm5 => hN _ _ ⟨(sm2.trans sm4).trans sm5, hlt, ?_⟩⟩
        rw [e2, t2.rows (x2.trans (Ext.of sm4)), c, Bool.true_and, List.map_append]
        rfl
      · have c : ¬ valB kv.1 = true := c
        refine hN _ _ ⟨sm2.trans sm4, hlt, ?_⟩
        rw [e2, Bool.eq_false_iff.mpr c, Bool.false_and, List.map_append]
        rfl
    · rintro ys H2 ⟨sm, _, rfl⟩ a ha
      refine ⟨_, (kvs.take kvs.length).map fun kv => valB kv.1 && rowsB H kv.2, rfl, SqL.of upd_same, o, u, (same_new ha _) _ _ (sm _ _ hd1), ?_⟩
      rw [List.take_length]
      exact k _ (thaw_same x1 (sm.trans (same_new ha _)) hu)
structure Dv4 (P : Program) (w : World) (K : PySem.W.Frag) (mg : Str → Option Value) (base : Heap) : Prop extends Dv3 P w K mg base where
  is_tables : DefOk P w K mg base 4 "is_tables" ["thing"] (spTabs P w K)
end
end K05

set_option Elab.async false
set_option linter.all false
set_option maxRecDepth 100000
set_option maxHeartbeats 4000000
namespace K05
open PySem PySem.Spec PyProof.Rows L2 Srt
seal L2.PE L2.PT L2.PW L2.PA L2.PS L2.PSs L2.PI L2.PO L2.PPs L2.PG L2.PGs
theorem filter_takeS {α : Type} {g : α → Bool} {l : List α} {i : Nat} {x : α} (h : l[i]? = some x) : (l.take (i + 1)).filter g = (l.take i).filter g ++ (if g x = true then [x] else []) := by
  rw [List.take_add_one, h, List.filter_append]
  show _ ++ [x].filter g = _
  rw [List.filter_cons, List.filter_nil]
structure En where
  nm : Str
  ad : Addr
  ys : List V
  rows : List (List Str)
def kvE (e : En) : Key × V := (Sum.inr e.nm, .ref e.ad)
def EnOk (f : Addr) (H : Hp) (e : En) : Prop := e.nm ∈ namesPool ∧ e.ad ≠ f ∧ H e.ad = some (.lst e.ys) ∧ RowsH f H e.ys e.rows ∧ (∀ r ∈ e.rows, GoodRow r) ∧ e.rows.length ≤ 7
def Tabs (f : Addr) (H : Hp) (d : Addr) (es : List En) : Prop := d ≠ f ∧ H d = some (.dK (es.map kvE)) ∧ (es.map (·.nm)).Nodup ∧ es.length ≤ 3 ∧ ∀ e ∈ es, EnOk f H e
section
variable {f : Addr} {H H' : Hp} {d : Addr}
theorem ens_of : ∀ {kvs : List (Key × V)}, (∀ kv ∈ kvs, TabE f H kv) → ∃ es : List En, kvs = es.map kvE ∧ ∀ e ∈ es, EnOk f H e
  | [], _ => ⟨[], rfl, fun e h => by cases h⟩
  | kv :: r, h => by
    obtain ⟨es, e1, h1⟩ := ens_of (kvs := r) fun kv hk => h kv (List.mem_cons_of_mem _ hk)
    obtain ⟨z, a, ys, rows, e2, hz, na, ha, hr, hg, hl⟩ := h kv List.mem_cons_self
    refine ⟨⟨z, a, ys, rows⟩ :: es, by rw [List.map_cons, ← e1, e2]; rfl, fun e he => ?_⟩
    rcases List.mem_cons.mp he with rfl | he
    · exact ⟨hz, na, ha, hr, hg, hl⟩
    · exact h1 e he
theorem nms_kv (es : List En) : (es.map kvE).map (·.1) = (es.map (·.nm)).map (Sum.inr : Str → Key) := by
  rw [List.map_map, List.map_map]
  rfl
theorem nodup_inr {l : List Str} : (l.map (Sum.inr : Str → Key)).Nodup ↔ l.Nodup := by
  induction l with
  | nil => exact ⟨fun _ => List.nodup_nil, fun _ => List.nodup_nil⟩
  | cons a r ih =>
    rw [List.map_cons, List.nodup_cons, List.nodup_cons, ih]
    refine and_congr_left fun _ => not_congr ⟨fun h => ?_, fun h => List.mem_map_of_mem h⟩
    obtain ⟨b, hb, e⟩ := List.mem_map.mp h
    cases e
    exact hb
theorem TabAt.tabs {kvs : List (Key × V)} (h : TabAt f H d kvs) : ∃ es, kvs = es.map kvE ∧ Tabs f H d es := by
  obtain ⟨n, hd, nd, hl, he⟩ := h
  obtain ⟨es, rfl, ho⟩ := ens_of he
  rw [nms_kv] at nd
  exact ⟨es, rfl, n, hd, nodup_inr.mp nd, by rw [List.length_map] at hl; exact hl, ho⟩
theorem EnOk.keep {e : En} (h : EnOk f H e) (x : Ext f H H') : EnOk f H' e := ⟨h.1, h.2.1, x _ _ h.2.1 h.2.2.1, rowsH_keep h.2.2.2.1 x, h.2.2.2.2⟩
theorem Tabs.keep {es : List En} (h : Tabs f H d es) (x : Ext f H H') : Tabs f H' d es := ⟨h.1, x _ _ h.1 h.2.1, h.2.2.1, h.2.2.2.1, fun e he => (h.2.2.2.2 e he).keep x⟩
theorem valV_en : ∀ {es : List En}, (es.map (·.nm)).Nodup → ∀ {e : En}, e ∈ es → valV (es.map kvE) (Sum.inr e.nm) = some (.ref e.ad)
  | [], _, e, h => by cases h
  | a :: r, nd, e, h => by
    rw [List.map_cons, List.nodup_cons] at nd
    rcases List.mem_cons.mp h with rfl | h
    · exact valV_pos rfl
    · have ne : ¬ (kvE a).1 = Sum.inr e.nm := fun q => nd.1 (by
        have : a.nm = e.nm := by injection q
        rw [this]
        exact List.mem_map_of_mem h)
      rw [List.map_cons, valV_neg ne]
      exact valV_en nd.2 h
theorem valV_enN : ∀ {es : List En} {z : Str}, z ∉ es.map (·.nm) → valV (es.map kvE) (Sum.inr z : Key) = none
  | [], _, _ => rfl
  | a :: r, z, h => by
    rw [List.map_cons, List.mem_cons] at h
    have ne : ¬ (kvE a).1 = Sum.inr z := fun q => h (.inl (by injection q with q; exact q.symm))
    rw [List.map_cons, valV_neg ne]
    exact valV_enN fun q => h (.inr q)
end
def rowsE (es : List En) (z : Str) : List (List Str) := match es.find? (fun e => decide (e.nm = z)) with
  | some e => e.rows
  | none => []
theorem rowsE_of : ∀ {es : List En}, (es.map (·.nm)).Nodup → ∀ {e : En}, e ∈ es → rowsE es e.nm = e.rows
  | [], _, e, h => by cases h
  | a :: r, nd, e, h => by
    rw [List.map_cons, List.nodup_cons] at nd
    unfold rowsE
    rcases List.mem_cons.mp h with rfl | h
    · rw [List.find?_cons_of_pos (p := fun x : En => decide (x.nm = e.nm)) (decide_eq_true rfl)]
    · have ne : ¬ decide (a.nm = e.nm) = true := fun q => nd.1 (by
        rw [of_decide_eq_true q]
        exact List.mem_map_of_mem h)
      rw [List.find?_cons_of_neg (p := fun x : En => decide (x.nm = e.nm)) ne]
      exact rowsE_of nd.2 h
section
variable {P : Program} {w : World} {K : PySem.W.Frag} {mg : Str → Option Value} {base : Heap}
def spRowsOf (K : PySem.W.Frag) : Sp := fun vs H Q _ => ∃ (f d : Addr) (es : List En) (e : En), vs = [.ref d, .str e.nm] ∧ Tabs f H d es ∧ e ∈ es ∧ ∀ (l : Addr) (zs : List V) (H' : Hp), Same H H' → H l = none → H' l = some (.lst zs) → RowsAt K H' zs (uniqR e.rows) → Q (.ref l) H'
theorem sc_rows_of : FnScope ["tables", "name"] ["tables", "name"] (defScope s_rows_of) := ⟨rfl, rfl, rfl, by decide +kernel, rfl, by decide +kernel, by decide +kernel⟩
theorem rowsAt_same {H H' : Hp} {ys : List V} {rows : List (List Str)} (h : RowsAt K H ys rows) (s : Same H H') : RowsAt K H' ys rows := h.keep fun a xs q => by
  rcases q with (q | ⟨o, q⟩) | q
  · exact .inl (.inl (s _ _ q))
  · exact .inl (.inr ⟨o, s _ _ q⟩)
  · exact .inr q
theorem sqT_same {H H' : Hp} {a : Addr} {xs : List V} (q : SqT K H a xs) (s : Same H H') : SqT K H' a xs := by
  rcases q with (q | ⟨o, q⟩) | q
  · exact .inl (.inl (s _ _ q))
  · exact .inl (.inr ⟨o, s _ _ q⟩)
  · exact .inr q
theorem ok_rows_of {f : Addr} {fd : FuncData} (F : Fun K "rows_of" "rows_of" s_rows_of f fd) (T : Txt K mg) : FnOk P w K mg base CX0 1 f fd ["tables", "name"] (spRowsOf K) := by
  refine F.ok sc_rows_of (fun vs H Q E h => ?_) (fun cdv A outer s H vs Q E hr h => ?_)
  · obtain ⟨a, b, c, d, rfl, _⟩ := h
    rfl
  obtain ⟨fe, d, es, e, rfl, hT, he, k⟩ := h
  have hu := hu_of hr
  refine ⟨_, (pss_one (ps_ret (pe_callB (call_sortedSet hr.hd) rfl T.n_sorted (by decide +kernel) (pa_cons (pe_callTy (call_setR hr.hd hr.units) rfl T.n_set (by decide +kernel) (pa_cons (pe_dget2 hu (pv 0) (pv 1) (pe_lst pa_nil) m2_nl) pa_nil)) pa_nil)))), ?_⟩
  obtain ⟨nd, hd, hn, hl, ho⟩ := id hT
  obtain ⟨hz, na, ha, hR, hg, hlr⟩ := ho e he
  refine ⟨_, rfl, d, rfl, .inl ⟨_, .inl hd⟩, _, rfl, (by show 0 ≤ sizeLine; decide), fun l0 hl0 => ?_⟩
  have sm0 : Same H (upd H l0 (.lst [])) := same_new hl0 _
  generalize (upd H l0 (.lst [])) = H0 at sm0 ⊢
  refine ⟨_, DGet.k (k := Sum.inr e.nm) (sm0 _ _ hd), ?_⟩
  rw [valV_en hn he]
  refine ⟨e.ad, e.ys, e.rows, rfl, SqL.of (sm0 _ _ ha), rowsAt_same (rowsH_at hR) sm0, by omega, fun a us ha0 nu mu lu hus => ?_⟩
  have sm1 : Same H0 (upd H0 a (.ext (SetX P w a us))) := same_new ha0 _
  have ha1 : upd H0 a (.ext (SetX P w a us)) a = some (.ext (SetX P w a us)) := upd_same
  refine ⟨a, us, e.ys, rfl, ha1, fun x hx => ⟨sqT_same (hus x hx).1 sm1, (hus x hx).2⟩, fun _ x hx => ?_, by omega, fun l zs hl hr2 _ => ?_⟩
  · have := hg x.1 ((mu x.1).mp (List.mem_map_of_mem hx))
    intro q
    have := this.1
    rw [q] at this
    cases this
  · replace hl : upd H0 a (.ext (SetX P w a us)) l = none := hl
    have sm2 : Same (upd H0 a (.ext (SetX P w a us))) (upd (upd H0 a (.ext (SetX P w a us))) l (.lst zs)) := same_new hl _
    have sm := sm0.trans (sm1.trans sm2)
    rw [uniqR_of nu mu] at hr2
    refine k l zs _ sm ?_ upd_same (rowsAt_same hr2 sm2)
    cases q : H l with
    | none => rfl
    | some o =>
      rw [sm1 _ _ (sm0 _ _ q)] at hl
      cases hl
structure Ds (P : Program) (w : World) (K : PySem.W.Frag) (mg : Str → Option Value) (base : Heap) : Prop where
  rows_of : DefOk P w K mg base 1 "rows_of" ["tables", "name"] (spRowsOf K)
def Found (K : PySem.W.Frag) (H H' : Hp) (p : Addr) (es fs : List En) : Prop := H' p = some (.dK (fs.map kvE)) ∧ H p = none ∧ fs.map (·.nm) = (sortS (es.map (·.nm))).filter (fun z => !(rowsE es z).isEmpty) ∧ (fs.map (·.ad)).Nodup ∧
  ∀ e ∈ fs, H e.ad = none ∧ e.ad ≠ p ∧ H' e.ad = some (.lst e.ys) ∧ RowsAt K H' e.ys e.rows ∧ e.rows = uniqR (rowsE es e.nm)
def spSorted (K : PySem.W.Frag) : Sp := fun vs H Q _ => ∃ (f d : Addr) (es : List En), vs = [.ref d] ∧ Tabs f H d es ∧ ∀ (p : Addr) (fs : List En) (H' : Hp), Same H H' → Found K H H' p es fs → Q (.ref p) H'
theorem sc_sorted_tables : FnScope ["tables", "told", "name", "rows"] ["tables"] (defScope s_sorted_tables) := ⟨rfl, rfl, rfl, by decide +kernel, rfl, by decide +kernel, by decide +kernel⟩
theorem uniqR_empty (rows : List (List Str)) : (uniqR rows).isEmpty = rows.isEmpty := by
  cases rows with
  | nil =>
    cases h : uniqR [] with
    | nil => rfl
    | cons b r =>
      have : b ∈ uniqR [] := by rw [h]; exact List.mem_cons_self
      cases (mem_uniqR b []).mp this
  | cons a r =>
    have : a ∈ uniqR (a :: r) := (mem_uniqR a _).mpr List.mem_cons_self
    cases h : uniqR (a :: r) with
    | nil => rw [h] at this; cases this
    | cons _ _ => rfl
theorem ok_sorted_tables {f : Addr} {fd : FuncData} (F : Fun K "sorted_tables" "sorted_tables" s_sorted_tables f fd) (T : Txt K mg) (D : Ds P w K mg base) : FnOk P w K mg base CX0 2 f fd ["tables"] (spSorted K) := by
  refine F.ok sc_sorted_tables (fun vs H Q E h => ?_) (fun cdv A outer s H vs Q E hr h => ?_)
  · obtain ⟨a, b, c, rfl, _⟩ := h
    rfl
  obtain ⟨fe, d, es, rfl, hT, k⟩ := h
  have hu := hu_of hr
  refine ⟨_, (pss_cons (ps_set (i := 1) sc_sorted_tables.nd rfl (Or.inl rfl) pe_dnewK)
      (pss_cons (ps_for PassesOwn.never rfl (pi_list (pe_callB (call_sortedD hr.hd) rfl T.n_sorted (by decide +kernel) (pa_cons (pv 0) pa_nil))) (pg_name (i := 2) sc_sorted_tables.nd rfl (Or.inl rfl))
      (pss_cons (ps_set (i := 3) sc_sorted_tables.nd rfl (Or.inl rfl) (cl D.rows_of hr (pa_cons (pv 0) (pa_cons (pv 2) pa_nil))))
      (pss_one (ps_if (pt_truth (pv 3) (fun _ => rfl)) (pss_one (ps_dput hu (pv 1) (pv 2) (pv 3) rfl)) pss_nil))))
      (pss_one (ps_ret (pv 1))))), ?_⟩
  obtain ⟨nd, hd, hn, hl, ho⟩ := id hT
  intro p hp
  have sm0 : Same H (upd H p (.dK [])) := same_new hp _
  have hp0 : upd H p (.dK []) p = some (.dK []) := upd_same
  refine ⟨_, rfl, d, es.map kvE, es.map (·.nm), rfl, sm0 _ _ hd, nms_kv es, by rw [List.length_map]; omega, fun l hl0 => ?_⟩
  have ndp : d ≠ p := ne_of_none hd hp
  have nlp : p ≠ l := ne_of_none hp0 hl0
  have sm1 : Same H (upd (upd H p (.dK [])) l (.lst ((sortS (es.map (·.nm))).map V.str))) := sm0.trans (same_new hl0 _)
  have hll : H l = none := by rw [upd_ne nlp.symm] at hl0; exact hl0
  have ps := sortS_perm (es.map (·.nm))
  have nds : (sortS (es.map (·.nm))).Nodup := ps.nodup_iff.mpr hn
  refine ⟨l, rfl, ⟨_, SqL.of upd_same⟩, for_list (K := K) (a := l) (xs := (sortS (es.map (·.nm))).map V.str)
    (fun i σ H2 => ∃ (x2 x3 : Option V) (fs : List En), σ = [some (.ref d), some (.ref p), x2, x3] ∧ Same H H2 ∧ H2 l = some (.lst ((sortS (es.map (·.nm))).map V.str)) ∧ H2 p = some (.dK (fs.map kvE)) ∧ fs.map (·.nm) = ((sortS (es.map (·.nm))).take i).filter (fun z => !(rowsE es z).isEmpty) ∧ (fs.map (·.ad)).Nodup ∧
      ∀ e ∈ fs, H e.ad = none ∧ e.ad ≠ p ∧ H2 e.ad = some (.lst e.ys) ∧ RowsAt K H2 e.ys e.rows ∧ e.rows = uniqR (rowsE es e.nm)) ?_ ?_ ?_ ?_⟩
  · refine ⟨none, none, [], rfl, sm1, upd_same, ?_, rfl, List.nodup_nil, fun e h => by cases h⟩
    rw [upd_ne nlp]
    exact hp0
  · rintro i σ H2 hi ⟨x2, x3, fs, rfl, sm2, hl2, _⟩
    exact SqL.of hl2
  · rintro i x σ H2 hx ⟨x2, x3, fs, rfl, sm2, hl2, hp2, hf2, na2, he2⟩
    obtain ⟨z, hz, rfl⟩ := Option.map_eq_some_iff.mp (by rw [← List.getElem?_map]; exact hx)
    have zm : z ∈ es.map (·.nm) := ps.mem_iff.mp (List.mem_of_getElem? hz)
    obtain ⟨e, he, rfl⟩ := List.mem_map.mp zm
    have er := rowsE_of hn he
    refine ⟨_, rfl, _, rfl, fe, d, es, e, rfl, hT.keep (Ext.of sm2), he, fun l3 zs H3 sm3 hl3 hl3' hr3 => ?_⟩
    have hp3 := sm3 _ _ hp2
    have keep : ∀ e ∈ fs, H e.ad = none ∧ e.ad ≠ p ∧ H3 e.ad = some (.lst e.ys) ∧ RowsAt K H3 e.ys e.rows ∧ e.rows = uniqR (rowsE es e.nm) := fun e' h' => by
      obtain ⟨q1, q2, q3, q4, q5⟩ := he2 e' h'
      exact ⟨q1, q2, sm3 _ _ q3, rowsAt_same q4 sm3, q5⟩
    have ft := filter_takeS (g := fun z => !(rowsE es z).isEmpty) hz
    have lz : zs.isEmpty = (rowsE es e.nm).isEmpty := by
      rw [er, ← uniqR_empty]
      have := hr3.length
      cases zs <;> cases h : uniqR e.rows <;> simp_all
    refine ⟨_, rfl, !zs.isEmpty, .inl ⟨zs, SqL.of hl3', rfl⟩, ?_⟩
    rw [lz]
    refine ite2 (fun c => ?_) (fun c => ?_)
    · have l3n : H l3 = none := by
        cases q : H l3 with
        | none => rfl
        | some o =>
          rw [sm2 _ _ q] at hl3
          cases hl3
      have n3p : l3 ≠ p := fun q => by rw [q, hp2] at hl3; cases hl3
      have n3l : l ≠ l3 := ne_of_none hl2 hl3
      have nm : e.nm ∉ fs.map (·.nm) := fun q => by
        rw [hf2] at q
        have := (List.mem_filter.mp q).1
        obtain ⟨j, hj⟩ := List.mem_iff_getElem?.mp this
        rw [List.getElem?_take] at hj
        split at hj
        next lt =>
          have li : i < (sortS (es.map (·.nm))).length := (List.getElem?_eq_some_iff.mp hz).1
          have := (List.getElem?_inj li nds).mp (hz.trans hj.symm)
          omega
        next => cases hj
      have ek : putK (fs.map kvE) (Sum.inr e.nm) (V.ref l3) = (fs ++ [En.mk e.nm l3 zs (uniqR e.rows)]).map kvE := by
        rw [putK_new _ (valV_enN nm), List.map_append]
        rfl
      have lfs : fs.length ≤ 1000 := by
        have h1 : fs.length = (fs.map (·.nm)).length := (List.length_map _).symm
        rw [hf2] at h1
        have h2 := List.length_filter_le (fun z => !(rowsE es z).isEmpty) ((sortS (es.map (·.nm))).take i)
        have h3 : ((sortS (es.map (·.nm))).take i).length ≤ (sortS (es.map (·.nm))).length := by rw [List.length_take]; exact Nat.min_le_right _ _
        have h4 : (sortS (es.map (·.nm))).length = es.length := by rw [ps.length_eq, List.length_map]
        omega
      refine ⟨_, rfl, _, rfl, _, rfl, p, _, rfl, .inl ⟨_, Sum.inr e.nm, hp3, rfl, by rw [List.length_map]; exact small1000 lfs, rfl⟩, ?_⟩
      rw [ek]
      have sm4 : Same H (upd H3 p (.dK ((fs ++ [En.mk e.nm l3 zs (uniqR e.rows)]).map kvE))) := fun b u q => by
        rw [upd_ne (ne_of_none q hp)]
        exact sm3 _ _ (sm2 _ _ q)
      have tk : ∀ {ys : List V} {rows : List (List Str)}, RowsAt K H3 ys rows → RowsAt K (upd H3 p (.dK ((fs ++ [En.mk e.nm l3 zs (uniqR e.rows)]).map kvE))) ys rows := fun h => h.keep fun a xs q => by
        rcases q with (q | ⟨o, q⟩) | q
        · exact .inl (.inl (by rw [upd_ne (fun z => by rw [z, hp3] at q; cases q)]; exact q))
        · exact .inl (.inr ⟨o, by rw [upd_ne (fun z => by rw [z, hp3] at q; cases q)]; exact q⟩)
        · exact .inr q
      refine ⟨_, _, fs ++ [En.mk e.nm l3 zs (uniqR e.rows)], rfl, sm4, ?_, upd_same, ?_, ?_, fun e' h' => ?_⟩
      · rw [upd_ne nlp.symm]
        exact sm3 _ _ hl2
      · rw [List.map_append, hf2, ft, if_pos c]
        rfl
      · rw [List.map_append]
        refine List.nodup_append.mpr ⟨na2, by simp, fun a ha b hb => ?_⟩
        rw [List.map_singleton, List.mem_singleton] at hb
        obtain ⟨e', h', rfl⟩ := List.mem_map.mp ha
        rw [hb]
        intro q
        have := (he2 e' h').2.2.1
        rw [q] at this
        rw [this] at hl3
        cases hl3
      · rcases List.mem_append.mp h' with h' | h'
        · obtain ⟨q1, q2, q3, q4, q5⟩ := keep e' h'
          exact ⟨q1, q2, by rw [upd_ne q2]; exact q3, tk q4, q5⟩
        · rw [List.mem_singleton.mp h']
          exact ⟨l3n, n3p, by rw [upd_ne n3p]; exact hl3', tk hr3, by rw [er]⟩
    · refine ⟨_, _, fs, rfl, sm2.trans sm3, sm3 _ _ hl2, hp3, ?_, na2, keep⟩
      rw [ft, if_neg c, List.append_nil]
      exact hf2
  · rintro σ H2 ⟨x2, x3, fs, rfl, sm2, hl2, hp2, hf2, na2, he2⟩
    rw [List.length_map, List.take_length] at hf2
    exact ⟨_, rfl, k p fs H2 sm2 ⟨hp2, hp, hf2, na2, he2⟩⟩
structure Ds2 (P : Program) (w : World) (K : PySem.W.Frag) (mg : Str → Option Value) (base : Heap) : Prop extends Ds P w K mg base where
  sorted_tables : DefOk P w K mg base 2 "sorted_tables" ["tables"] (spSorted K)
end
end K05

set_option Elab.async false
set_option linter.all false
set_option maxRecDepth 100000
set_option maxHeartbeats 4000000
namespace K05
open PySem PySem.Spec PyProof.Rows L2 Srt
seal L2.PE L2.PT L2.PW L2.PA L2.PS L2.PSs L2.PI L2.PO L2.PPs L2.PG L2.PGs
theorem any_key {κ : Type} [DecidableEq κ] {l : List (κ × V)} {k : κ} (h : k ∉ l.map (·.1)) : (l.any fun kv => decide (kv.1 = k)) = false := by
  rw [Bool.eq_false_iff]
  intro e
  obtain ⟨kv, h1, h2⟩ := List.any_eq_true.mp e
  exact h (List.mem_map.mpr ⟨kv, h1, of_decide_eq_true h2⟩)
theorem put_new {l : List (Key × V)} {k : Key} {v : V} (h : k ∉ l.map (·.1)) : putK l k v = l ++ [(k, v)] := by
  unfold putK
  rw [any_key h]
  rfl
theorem merge_nd : ∀ (kvs l : List (Key × V)), ((l ++ kvs).map (·.1)).Nodup → mergeK l kvs = l ++ kvs
  | [], l, _ => by rw [List.append_nil]; rfl
  | kv :: r, l, h => by
    have hn : kv.1 ∉ l.map (·.1) := by
      rw [List.map_append, List.nodup_append] at h
      intro e
      exact h.2.2 _ e _ (by rw [List.map_cons]; exact List.mem_cons_self) rfl
    show mergeK (putK l kv.1 kv.2) r = _
    rw [put_new hn, merge_nd r (l ++ [(kv.1, kv.2)]) (by rw [List.append_assoc]; exact h), List.append_assoc]
    rfl
theorem nodup_kv {es : List En} (h : (es.map (·.nm)).Nodup) : ((es.map kvE).map (·.1)).Nodup := by
  rw [nms_kv]
  exact nodup_inr.mpr h
def Like (es es' : List En) : Prop := Paired (fun (e e' : En) => e'.nm = e.nm ∧ e'.ys = e.ys ∧ e'.rows = e.rows) es es'
theorem Like.nms {es es' : List En} (h : Like es es') : es'.map (·.nm) = es.map (·.nm) := by
  unfold Like at h
  induction h with
  | nil => rfl
  | cons q _ ih => rw [List.map_cons, List.map_cons, ih, q.1]
theorem Like.rowsE {es es' : List En} (h : Like es es') (z : Str) : rowsE es' z = rowsE es z := by
  unfold Like at h
  induction h with
  | nil => rfl
  | @cons a b as bs q _ ih =>
    unfold K05.rowsE
    by_cases c : a.nm = z
    · rw [List.find?_cons_of_pos (p := fun x : En => decide (x.nm = z)) (decide_eq_true (q.1.trans c)), List.find?_cons_of_pos (p := fun x : En => decide (x.nm = z)) (decide_eq_true c)]
      exact q.2.2
    · rw [List.find?_cons_of_neg (p := fun x : En => decide (x.nm = z)) (fun d => c (q.1.symm.trans (of_decide_eq_true d))), List.find?_cons_of_neg (p := fun x : En => decide (x.nm = z)) (fun d => c (of_decide_eq_true d))]
      exact ih
theorem like_at : ∀ {es es' : List En}, Like es es' → ∀ {i : Nat} {e' : En}, es'[i]? = some e' → ∃ e, es[i]? = some e ∧ e'.nm = e.nm ∧ e'.ys = e.ys ∧ e'.rows = e.rows := by
  intro es es' h
  unfold Like at h
  induction h with
  | nil => intro i e' h; cases h
  | @cons a b as bs q _ ih =>
    intro i e' h
    cases i with
    | zero => cases h; exact ⟨a, rfl, q⟩
    | succ i => exact ih (i := i) h
theorem same_none {H H' : Hp} {a : Addr} (s : Same H H') (h : H' a = none) : H a = none := by
  cases q : H a with
  | none => rfl
  | some o =>
    rw [s _ _ q] at h
    cases h
section
variable {P : Program} {w : World} {K : PySem.W.Frag} {mg : Str → Option Value} {base : Heap}
def spCopy (K : PySem.W.Frag) : Sp := fun vs H Q _ => ∃ (f d : Addr) (es : List En), vs = [.ref d] ∧ Tabs f H d es ∧ (∃ o, H f = some o) ∧ ∀ (p : Addr) (es' : List En) (H' : Hp), Same H H' → H p = none → Tabs f H' p es' → Like es es' → Q (.ref p) H'
theorem sc_l_copy : FnScope ["_law_tables_here"] ["_law_tables_here"] (defScope s_l_copy) := ⟨rfl, rfl, rfl, by decide +kernel, rfl, by decide +kernel, by decide +kernel⟩
theorem ok_copy {f : Addr} {fd : FuncData} (F : Fun K "_law_copy" "_law_copy" s_l_copy f fd) (T : Txt K mg) : FnOk P w K mg base CX0 1 f fd ["_law_tables_here"] (spCopy K) := by
  refine F.ok sc_l_copy (fun vs H Q E h => ?_) (fun cdv A outer s H vs Q E hr h => ?_)
  · obtain ⟨a, b, c, rfl, _⟩ := h
    rfl
  obtain ⟨fe, d, es, rfl, hT, ⟨ofe, hfe⟩, k⟩ := h
  have hu := hu_of hr
  refine ⟨_, (pss_one (ps_ret (pe_thawU (pe_callTy (call_dict_pairs hr.hd) rfl T.n_dict (by decide +kernel) (pa_cons (pe_comp rfl (compSc_mk (fs := ["_law_tables_here"]) (fr := [0])) (pi_dict (pv 0)) (fun _ _ _ _ => (pe_tup (pa_cons (pv 0) (pa_cons (pe_callTy (call_list_ofK (K := K)) rfl T.n_list (by decide +kernel) (pa_cons (pe_dget hu (pv 1) (pv 0) (fun _ _ => rfl)) pa_nil)) pa_nil))))) pa_nil))))), ?_⟩
  obtain ⟨nd, hd, hn, hl, ho⟩ := id hT
  have nofz : ∀ (u : Obj) (v : HO), H d ≠ some (.frz u v) := fun u v => by rw [hd]; exact fun z => nomatch z
  refine ⟨d, nofz, _, rfl, d, es.map kvE, rfl, hd, fun o => ?_⟩
  have x1 : Ext d H (upd H d (.frz o (.dK (es.map kvE)))) := fun b z n h => by rw [upd_ne n]; exact h
  have hd1 : upd H d (.frz o (.dK (es.map kvE))) d = some (.frz o (.dK (es.map kvE))) := upd_same
  generalize (upd H d (.frz o (.dK (es.map kvE)))) = H1 at x1 hd1 ⊢
  refine comp_dict (fun i ys H2 => Same H1 H2 ∧ ∃ es' : List En, Like (es.take i) es' ∧ Paired (fun (y : V) (e : En) => ∃ t, y = .ref t ∧ H2 t = some (.tup [.str e.nm, .ref e.ad]) ∧ H1 t = none) ys es' ∧ ∀ e ∈ es', H1 e.ad = none ∧ H2 e.ad = some (.lst e.ys)) (by rw [List.length_map]; exact small1000 (by omega)) ⟨Same.refl H1, [], .nil, .nil, fun e h => by cases h⟩ ?_ ?_ ?_
  · rintro i ys H2 hi ⟨sm, es', hk, hp, _⟩
    refine ⟨sm _ _ hd1, ?_⟩
    rw [hp.length, ← hk.length, List.length_take]
    omega
  · rintro i kv ys H2 N hc ⟨sm, es', hk, hp, he'⟩ hN
    rw [List.getElem?_map] at hc
    obtain ⟨e, hce, rfl⟩ := Option.map_eq_some_iff.mp hc
    have he := List.mem_of_getElem? hce
    obtain ⟨hz, na, ha, hR, hg, hlr⟩ := ho e he
    have ned : e.ad ≠ d := fun q => by rw [q, hd] at ha; cases ha
    have ha2 := sm _ _ (x1 _ _ ned ha)
    have g : DGet H2 d (.str e.nm) (some (.ref e.ad)) := .inl ⟨es.map kvE, Sum.inr e.nm, .inr ⟨o, sm _ _ hd1⟩, rfl, (valV_en hn he).symm⟩
    refine rd_true ?_
    refine ⟨_, rfl, _, rfl, _, rfl, d, _, rfl, g, e.ad, e.ys, rfl, .inl (SqL.of ha2), fun l hl => ?_⟩
    refine ⟨(by show 2 ≤ sizeLine; decide), fun t ht => hN _ _ ⟨(sm.trans (same_new hl _)).trans (same_new ht _), es' ++ [⟨e.nm, l, e.ys, e.rows⟩], ?_, ?_, ?_⟩⟩
    · rw [List.take_add_one, hce]
      exact Paired.snoc hk ⟨rfl, rfl, rfl⟩
    · have s3 : Same H2 (upd (upd H2 l (.lst e.ys)) t (.tup [.str e.nm, .ref l])) := (same_new hl _).trans (same_new ht _)
      refine Paired.snoc (Paired.mapP hp fun y e' ⟨t', e1, h1, h2⟩ => ⟨t', e1, s3 _ _ h1, h2⟩) ⟨t, rfl, upd_same, same_none (sm.trans (same_new hl _)) ht⟩
    · have s3 : Same H2 (upd (upd H2 l (.lst e.ys)) t (.tup [.str e.nm, .ref l])) := (same_new hl _).trans (same_new ht _)
      intro e' h'
      rcases List.mem_append.mp h' with h' | h'
      · exact ⟨(he' e' h').1, s3 _ _ (he' e' h').2⟩
      · rw [List.mem_singleton.mp h']
        exact ⟨same_none sm hl, (same_new ht _) _ _ upd_same⟩
  · rintro ys H2 ⟨sm, es', hk, hp, he'⟩ l hl9
    rw [List.length_map, List.take_length] at hk
    have s3 : Same H2 (upd H2 l (.lst ys)) := same_new hl9 _
    have hl3 : upd H2 l (.lst ys) l = some (.lst ys) := upd_same
    generalize (upd H2 l (.lst ys)) = H3 at s3 hl3 ⊢
    have hp3 : Paired (fun (y : V) (kv : Key × V) => ∃ t, y = .ref t ∧ H3 t = some (.tup [kV kv.1, kv.2])) ys (es'.map kvE) := by
      have : ∀ {ys : List V} {es' : List En}, Paired (fun (y : V) (e : En) => ∃ t, y = .ref t ∧ H2 t = some (.tup [.str e.nm, .ref e.ad]) ∧ H1 t = none) ys es' → Paired (fun (y : V) (kv : Key × V) => ∃ t, y = .ref t ∧ H3 t = some (.tup [kV kv.1, kv.2])) ys (es'.map kvE) := fun h => by
        induction h with
        | nil => exact .nil
        | cons q _ ih =>
          obtain ⟨t, e1, h1, _⟩ := q
          exact .cons ⟨t, e1, s3 _ _ h1⟩ ih
      exact this hp
    have hn' : (es'.map (·.nm)).Nodup := by rw [hk.nms]; exact hn
    refine ⟨l, ys, es'.map kvE, rfl, SqL.of hl3, hp3, fun p hp4 => ?_⟩
    rw [merge_nd (es'.map kvE) [] (by rw [List.nil_append]; exact nodup_kv hn'), List.nil_append]
    have s4 : Same H3 (upd H3 p (.dK (es'.map kvE))) := same_new hp4 _
    have s14 := (sm.trans s3).trans s4
    have hd4 := s14 _ _ hd1
    refine ⟨o, _, hd4, ?_⟩
    have sT := thaw_same x1 s14 hd
    have npd : p ≠ d := fun q => by rw [q, s3 _ _ (sm _ _ hd1)] at hp4; cases hp4
    have hpH : H p = none := by
      cases q : H p with
      | none => rfl
      | some z =>
        rw [s3 _ _ (sm _ _ (x1 _ _ npd q))] at hp4
        cases hp4
    refine k p es' _ sT hpH ⟨fun q => ?_, ?_, hn', by rw [← hk.length]; exact hl, fun e' h' => ?_⟩ hk
    · rw [q, hfe] at hpH
      cases hpH
    · rw [upd_ne npd, upd_same]
    · obtain ⟨i, hi⟩ := List.mem_iff_getElem?.mp h'
      obtain ⟨e, he, q1, q2, q3⟩ := like_at hk hi
      obtain ⟨hz, na, ha, hR, hg, hlr⟩ := ho e (List.mem_of_getElem? he)
      obtain ⟨r1, r2⟩ := he' e' h'
      have nad : e'.ad ≠ d := fun q => by rw [q, hd1] at r1; cases r1
      refine ⟨by rw [q1]; exact hz, fun q => ?_, ?_, ?_, ?_, ?_⟩
      · rw [q, x1 _ _ (Ne.symm nd) hfe] at r1
        cases r1
      · rw [upd_ne nad]
        exact s4 _ _ (s3 _ _ r2)
      · rw [q2, q3]
        exact rowsH_keep hR (Ext.of sT)
      · rw [q3]
        exact hg
      · rw [q3]
        exact hlr
structure Dc (P : Program) (w : World) (K : PySem.W.Frag) (mg : Str → Option Value) (base : Heap) : Prop extends Ds2 P w K mg base where
  l_copy : DefOk P w K mg base 1 "_law_copy" ["_law_tables_here"] (spCopy K)
def spRight (K : PySem.W.Frag) : Sp := fun vs H Q _ => ∃ (f d : Addr) (es : List En), vs = [.ref d] ∧ Tabs f H d es ∧ (∃ o, H f = some o) ∧ ∀ H', Same H H' → Q (.bl true) H'
theorem op_neNK {X : Cx} {K : PySem.W.Frag} (hu : X.A.units < cLine) (h : X.K = K := by rfl) : OpR X (compareOp .NotEq) (rNil K true) := h ▸ op_neN hu
theorem pool_ok : ((namesPool ++ valuesPool).all fun z => PyData.strOk z && isVal z && decide (z.length ≤ 100)) = true := by decide +kernel
theorem pool_is {z : Str} (h : z ∈ namesPool ++ valuesPool) : PyData.strOk z = true ∧ isVal z = true ∧ z.length ≤ 100 := by
  have := List.all_eq_true.mp pool_ok z h
  simp only [Bool.and_eq_true, decide_eq_true_iff] at this
  exact ⟨this.1.1, this.1.2, this.2⟩
theorem good_ok {rows : List (List Str)} (h : ∀ r ∈ rows, GoodRow r) : OkRows rows := fun r hr z hz => (pool_is (List.mem_append_right _ ((h r hr).2.2 z hz))).1
theorem cut_to (xs : List V) (j : Nat) : cutV xs none (some (j : Int)) = xs.take j := by
  unfold cutV
  rw [HT.sIx_none, HT.sIx_nat, List.drop_zero, Nat.sub_zero]
  by_cases h : j ≤ xs.length
  · rw [Nat.min_eq_left h]
  · rw [Nat.min_eq_right (by omega), List.take_length, List.take_of_length_le (by omega)]
theorem paired_take {α β : Type} {F : α → β → Prop} : ∀ {l₁ : List α} {l₂ : List β} (i : Nat), Paired F l₁ l₂ → Paired F (l₁.take i) (l₂.take i)
  | _, _, _, .nil => by rw [List.take_nil, List.take_nil]; exact .nil
  | _, _, 0, .cons _ _ => .nil
  | _, _, i + 1, .cons q t => .cons q (paired_take i t)
theorem any_rows (r : List Str) : ∀ l : List (List Str), ((l.map rowD).any fun x => PyData.eqv x (rowD r)) = decide (r ∈ l)
  | [] => by simp
  | a :: t => by
    rw [List.map_cons, List.any_cons, eqv_row, any_rows r t, Bool.eq_iff_iff]
    simp only [Bool.or_eq_true, decide_eq_true_iff, List.mem_cons]
    exact or_congr_left eq_comm
theorem dedR_len : ∀ l : List (List Str), (dedR l).length ≤ l.length
  | [] => Nat.le_refl _
  | a :: r => by
    have := dedR_len r
    unfold dedR
    split
    · simp only [List.length_cons]; omega
    · simp only [List.length_cons]; omega
theorem uniqR_len (l : List (List Str)) : (uniqR l).length ≤ l.length := by
  unfold uniqR
  rw [(sortR_perm _).length_eq]
  exact dedR_len l
theorem same_at {H : Hp} {f : Addr} : ∀ {es es' : List En}, Like es es' → (∀ e ∈ es', EnOk f H e) → (∀ e ∈ es, EnOk f H e) → SameAt K H (es'.map kvE) (es.map kvE) := by
  intro es es' h
  unfold Like at h
  induction h with
  | nil => intro _ _; exact .nil
  | @cons a b as bs q _ ih =>
    intro h1 h2
    obtain ⟨_, _, hb, hRb, hg, _⟩ := h1 b List.mem_cons_self
    obtain ⟨_, _, ha, hRa, _, _⟩ := h2 a List.mem_cons_self
    refine .cons ⟨congrArg Sum.inr q.1, rowsD b.rows, dt_rows (SqL.of hb) (rowsH_at hRb), ?_, shaped_rows (good_ok hg), by rw [eqv_rows]; exact decide_eq_true rfl⟩ (ih (fun e he => h1 e (List.mem_cons_of_mem _ he)) (fun e he => h2 e (List.mem_cons_of_mem _ he)))
    rw [q.2.2]
    exact dt_rows (SqL.of ha) (rowsH_at hRa)
theorem sc_l_sorted_right : FnScope ["_law_tables_here", "_law_handed", "_law_again", "_law_found", "_law_names_here", "_law_name", "_law_rows", "_law_due"] ["_law_tables_here"] (defScope s_l_sorted_right) := ⟨rfl, rfl, rfl, by decide +kernel, rfl, by decide +kernel, by decide +kernel⟩
theorem ok_right {f : Addr} {fd : FuncData} (F : Fun K "_law_sorted_right" "_law_sorted_right" s_l_sorted_right f fd) (T : Txt K mg) (D : Dc P w K mg base) : FnOk P w K mg base CX0 3 f fd ["_law_tables_here"] (spRight K) := by
  refine F.ok sc_l_sorted_right (fun vs H Q E h => ?_) (fun cdv A outer s H vs Q E hr h => ?_)
  · obtain ⟨a, b, c, rfl, _⟩ := h
    rfl
  obtain ⟨fe, d, es, rfl, hT, hfe, k⟩ := h
  have hu := hu_of hr
  refine ⟨_, (pss_cons (ps_set (i := 1) sc_l_sorted_right.nd rfl (Or.inl rfl) (cl D.l_copy hr (pa_cons (pv 0) pa_nil)))
      (pss_cons (ps_for PassesOwn.never rfl (pi_range1 rfl T.n_range (pa_cons pe_int pa_nil)) (pg_name (i := 2) sc_l_sorted_right.nd rfl (Or.inl rfl))
      (pss_cons (ps_set (i := 3) sc_l_sorted_right.nd rfl (Or.inl rfl) (cl D.sorted_tables hr (pa_cons (pv 1) pa_nil)))
      (pss_cons (ps_set (i := 4) sc_l_sorted_right.nd rfl (Or.inl rfl) (pe_thawU (pe_callB call_sorted rfl T.n_sorted (by decide +kernel) (pa_cons (pe_compIf rfl (compSc_mk (fs := ["_law_tables_here"]) (fr := [0])) (pi_dict (pv 0)) (fun _ _ _ _ => (pt_cmpR (op_neNK (K := K) hr.units0) (pe_dget hu (pv 1) (pv 0) (fun _ _ => rfl)) (pe_lst pa_nil) (nomark _))) (fun _ _ _ _ => (pv 0))) pa_nil))))
      (pss_cons (ps_if (PW.pt (pw_or (pt_not (pt_val (pe_callB call_isinst rfl T.n_isinstance (by decide +kernel) (pa_cons (pv 3) (pa_cons (pe_ty (n := "dict") rfl T.n_dict (by decide +kernel)) pa_nil))))) (pw_or1 (pt_cmpR (op_neD hr.units) (pe_callB (call_sortedD hr.hd) rfl T.n_sorted (by decide +kernel) (pa_cons (pv 3) pa_nil)) (pv 4) (nomark _))))) (pss_one (ps_ret pe_bl)) pss_nil)
      (pss_cons (ps_thawS (ps_for PassesOwn.never rfl (pi_keysV (pv 3)) (pg_name (i := 5) sc_l_sorted_right.nd rfl (Or.inl rfl))
      (pss_cons (ps_set (i := 6) sc_l_sorted_right.nd rfl (Or.inr rfl) (pe_dget hu (pv 0) (pv 5) (fun _ _ => rfl)))
      (pss_cons (ps_set (i := 7) sc_l_sorted_right.nd rfl (Or.inl rfl) (pe_callB call_sortedR rfl T.n_sorted (by decide +kernel) (pa_cons (pe_compIf rfl (compSc_mk (fs := ["_law_rows"]) (fr := [6])) (pi_range1 rfl T.n_range (pa_cons (pe_callB call_len rfl T.n_len PySem.boot_len (pa_cons (pv 6) pa_nil)) pa_nil)) (fun _ _ _ _ => (pt_cmpR (op_notInDK (K := K) hr.units) (pe_ix (ix_listK (K := K)) (pv 1) (pv 0) (fun _ _ => rfl)) (pe_slice (sl_listK (K := K)) (pv 1) po_none (po_some (pv 0))) (by with_unfolding_all rfl))) (fun _ _ _ _ => (pe_ix (ix_listK (K := K)) (pv 1) (pv 0) (fun _ _ => rfl)))) pa_nil)))
      (pss_cons (ps_if (PW.pt (pw_or (pt_not (pt_val (pe_callB call_isinst rfl T.n_isinstance (by decide +kernel) (pa_cons (pe_dget hu (pv 3) (pv 5) (fun _ _ => rfl)) (pa_cons (pe_ty (n := "list") rfl T.n_list (by decide +kernel)) pa_nil))))) (pw_or1 (pt_cmpR (op_neD hr.units) (pe_dget hu (pv 3) (pv 5) (fun _ _ => rfl)) (pv 7) (nomark _))))) (pss_one (ps_ret pe_bl)) pss_nil)
      (pss_one (ps_expr (pe_bm PySem.F.plainAttrs_list PySem.F.slot_list_append PySem.F.type_list_append mt_append (pe_dget hu (pv 3) (pv 5) (fun _ _ => rfl)) (pa_cons (pe_tup (pa_cons pe_str pa_nil)) pa_nil)))))))))
      (pss_cons (ps_dput hu (pv 3) pe_str (pe_lst pa_nil) rfl)
      (pss_one (ps_if (pt_cmpR (op_neM (u96 hr)) (pv 1) (pv 0) (nomark _)) (pss_one (ps_ret pe_bl)) pss_nil))))))))
      (pss_one (ps_ret pe_bl)))), ?_⟩
  obtain ⟨nd, hd, hn, hl, ho⟩ := id hT
  refine ⟨_, rfl, fe, d, es, rfl, hT, hfe, fun p es' H1 sm1 hp0 hT1 hk => ?_⟩
  refine ⟨_, rfl, by omega, by omega, for_range (lo := 0) (n := 2) (fun i σ H2 => ∃ (x2 x3 x4 x5 x6 x7 : Option V), σ = [some (.ref d), some (.ref p), x2, x3, x4, x5, x6, x7] ∧ Same H1 H2) ⟨_, _, _, _, _, _, rfl, Same.refl H1⟩ ?_ ?_⟩
  · rintro i σ H2 hi ⟨x2, x3, x4, x5, x6, x7, rfl, sm2⟩
    have hT2 := hT1.keep (Ext.of sm2)
    have hD2 := hT.keep (Ext.of (sm1.trans sm2))
    refine ⟨_, rfl, fe, p, es', rfl, hT2, fun q fs H3 sm3 hf => ?_⟩
    obtain ⟨hq3, hq2, hfn, hfa, hfe3⟩ := hf
    obtain ⟨nd3, hd3, _, _, ho3⟩ := hD2.keep (Ext.of sm3)
    have eN : ∀ e ∈ es, e.ys.isEmpty = e.rows.isEmpty := fun e he => by
      have := (ho e he).2.2.2.1.length
      cases h1 : e.ys <;> cases h2 : e.rows <;> simp_all
    refine ⟨d, fun u v => (by rw [hd3]; exact fun z => nomatch z), _, rfl, d, es.map kvE, rfl, hd3, fun o => ?_⟩
    have y4 : Ext d H3 (upd H3 d (.frz o (.dK (es.map kvE)))) := fun b z n h => by rw [upd_ne n]; exact h
    have hd4 : upd H3 d (.frz o (.dK (es.map kvE))) d = some (.frz o (.dK (es.map kvE))) := upd_same
    generalize (upd H3 d (.frz o (.dK (es.map kvE)))) = H4 at y4 hd4 ⊢
    refine comp_dict (fun i ys H5 => Same H4 H5 ∧ ys = ((es.take i).filter fun e => !e.rows.isEmpty).map fun e => V.str e.nm) (by rw [List.length_map]; exact small1000 (by omega)) ⟨Same.refl H4, rfl⟩ ?_ ?_ ?_
    · rintro i ys H5 hi ⟨sm5, rfl⟩
      refine ⟨sm5 _ _ hd4, ?_⟩
      rw [List.length_map]
      refine Nat.le_trans (List.length_filter_le _ _) ?_
      rw [List.length_take]
      exact Nat.min_le_left _ _
    · rintro i kv ys H5 N hc ⟨sm5, rfl⟩ hN
      rw [List.getElem?_map] at hc
      obtain ⟨e, hce, rfl⟩ := Option.map_eq_some_iff.mp hc
      have he := List.mem_of_getElem? hce
      obtain ⟨hz, na, ha, hR, hg, hlr⟩ := ho3 e he
      have ned : e.ad ≠ d := fun q => by rw [q, hd3] at ha; cases ha
      have ha5 := sm5 _ _ (y4 _ _ ned ha)
      have g : DGet H5 d (.str e.nm) (some (.ref e.ad)) := .inl ⟨es.map kvE, Sum.inr e.nm, .inr ⟨o, sm5 _ _ hd4⟩, rfl, (valV_en hn he).symm⟩
      have ft := filter_takeS (g := fun e : En => !e.rows.isEmpty) hce
      refine ⟨_, rfl, _, rfl, d, _, rfl, g, (by show 0 ≤ sizeLine; decide), fun l2 hl2 => ?_⟩
      have s6 : Same H5 (upd H5 l2 (.lst [])) := same_new hl2 _
      refine ⟨e.ad, l2, e.ys, rfl, rfl, SqL.of (s6 _ _ ha5), SqL.of upd_same, _, rfl, ?_⟩
      show if (!e.ys.isEmpty) = true then _ else _
      rw [eN e he]
      refine ite2 (fun c => ?_) (fun c => ?_)
      · refine ⟨_, rfl, hN _ _ ⟨sm5.trans s6, ?_⟩⟩
        rw [ft, if_pos c, List.map_append]
        rfl
      · refine hN _ _ ⟨sm5.trans s6, ?_⟩
        rw [ft, if_neg c, List.append_nil]
    · rintro ys H5 ⟨sm5, rfl⟩ l hl5
      rw [List.length_map, List.take_length]
      have em : (es.filter fun e => !e.rows.isEmpty).map (fun e => V.str e.nm) = ((es.filter fun e => !e.rows.isEmpty).map (·.nm)).map V.str := by
        rw [List.map_map]
        rfl
      rw [em]
      have lf : ((es.filter fun e => !e.rows.isEmpty).map (·.nm)).length < 64 := by
        rw [List.length_map]
        have := List.length_filter_le (fun e : En => !e.rows.isEmpty) es
        omega
      have esrt : sortS (fs.map (·.nm)) = sortS ((es.filter fun e => !e.rows.isEmpty).map (·.nm)) := by
        refine perm_eq ((sortS_perm _).trans (List.Perm.trans ?_ (sortS_perm _).symm)) (sortS_pair _) (sortS_pair _)
        rw [hfn, hk.nms]
        refine ((sortS_perm (es.map (·.nm))).filter _).trans (List.Perm.of_eq ?_)
        rw [List.filter_map]
        refine congrArg _ (List.filter_congr fun e he => ?_)
        show (!(rowsE es' e.nm).isEmpty) = !e.rows.isEmpty
        rw [hk.rowsE, rowsE_of hn he]
      generalize ezs : (es.filter fun e => !e.rows.isEmpty).map (·.nm) = zs at lf esrt ⊢
      have s6 : Same H5 (upd H5 l (.lst (zs.map V.str))) := same_new hl5 _
      have hl6 : upd H5 l (.lst (zs.map V.str)) l = some (.lst (zs.map V.str)) := upd_same
      generalize (upd H5 l (.lst (zs.map V.str))) = H6 at s6 hl6 ⊢
      refine ⟨l, zs, rfl, SqL.of hl6, lf, fun nl hnl => ?_⟩
      have s7 : Same H6 (upd H6 nl (.lst ((sortS zs).map V.str))) := same_new hnl _
      have hnl7 : upd H6 nl (.lst ((sortS zs).map V.str)) nl = some (.lst ((sortS zs).map V.str)) := upd_same
      generalize (upd H6 nl (.lst ((sortS zs).map V.str))) = H7 at s7 hnl7 ⊢
      have s47 := sm5.trans (s6.trans s7)
      refine ⟨o, _, s47 _ _ hd4, ?_⟩
      have s38 := thaw_same y4 s47 hd3
      have nld : nl ≠ d := fun q => by
        have := s6 _ _ (sm5 _ _ hd4)
        rw [← q, hnl] at this
        cases this
      have hnl8 : upd H7 d (.dK (es.map kvE)) nl = some (.lst ((sortS zs).map V.str)) := by
        rw [upd_ne nld]
        exact hnl7
      generalize (upd H7 d (.dK (es.map kvE))) = H8 at s38 hnl8 ⊢
      have hq8 := s38 _ _ hq3
      have nmes : ∀ e ∈ fs, e.nm ∈ es.map (·.nm) := fun e he => by
        have : e.nm ∈ fs.map (·.nm) := List.mem_map_of_mem he
        rw [hfn, hk.nms] at this
        exact (sortS_perm _).mem_iff.mp (List.mem_filter.mp this).1
      have lfs : fs.length ≤ 3 := by
        have h1 : fs.length = (fs.map (·.nm)).length := (List.length_map _).symm
        rw [hfn, hk.nms] at h1
        have h2 := List.length_filter_le (fun z => !(rowsE es' z).isEmpty) (sortS (es.map (·.nm)))
        have h4 : (sortS (es.map (·.nm))).length = es.length := by rw [(sortS_perm (es.map (·.nm))).length_eq, List.length_map]
        omega
      have zok : ∀ z ∈ sortS zs, PyData.strOk z = true := fun z hz => by
        have := (sortS_perm zs).mem_iff.mp hz
        rw [← ezs] at this
        obtain ⟨e, he, rfl⟩ := List.mem_map.mp this
        exact (pool_is (List.mem_append_left _ (ho e (List.mem_filter.mp he).1).1)).1
      refine ⟨_, rfl, _, _, _, _, rfl, .dK hq8, (by rfl : _ = some true), _, rfl, iteF ?_⟩
      refine ⟨_, rfl, q, fs.map kvE, fs.map (·.nm), rfl, hq8, nms_kv fs, by rw [List.length_map]; omega, fun sl hsl => ?_⟩
      rw [esrt]
      have s9 : Same H8 (upd H8 sl (.lst ((sortS zs).map V.str))) := same_new hsl _
      have hsl9 : upd H8 sl (.lst ((sortS zs).map V.str)) sl = some (.lst ((sortS zs).map V.str)) := upd_same
      generalize (upd H8 sl (.lst ((sortS zs).map V.str))) = H9 at s9 hsl9 ⊢
      have dtl : ∀ {a : Addr}, H9 a = some (.lst ((sortS zs).map V.str)) → Dt K H9 (.list ((sortS zs).map PyData.str)) (.ref a) := fun h => by
        rw [Dt]
        exact ⟨_, _, rfl, SqL.of h, dtAll_strs _⟩
      refine ⟨_, rfl, _, _, dtl hsl9, dtl (s9 _ _ hnl8), shaped_strs _ zok, shaped_strs _ zok, _, rfl, ?_⟩
      have ev : (if true = true then !PyData.eqv (.list ((sortS zs).map PyData.str)) (.list ((sortS zs).map PyData.str)) else PyData.eqv (.list ((sortS zs).map PyData.str)) (.list ((sortS zs).map PyData.str))) = false := by
        rw [if_pos rfl, PyData.eqv, eqvAll_strs, decide_eq_true rfl]
        rfl
      rw [ev]
      refine iteF ?_
      have s39 := s38.trans s9
      have hq9 := s39 _ _ hq3
      have ho9 : ∀ e ∈ es, EnOk fe H9 e := fun e he => (ho3 e he).keep (Ext.of s39)
      have hd9 := s39 _ _ hd3
      have hf9 : ∀ e ∈ fs, H2 e.ad = none ∧ e.ad ≠ q ∧ H9 e.ad = some (.lst e.ys) ∧ RowsAt K H9 e.ys e.rows ∧ e.rows = uniqR (rowsE es' e.nm) := fun e he => by
        obtain ⟨q1, q2, q3, q4, q5⟩ := hfe3 e he
        exact ⟨q1, q2, s39 _ _ q3, rowsAt_same q4 s39, q5⟩
      have s29 := sm3.trans s39
      have hT9 := hT2.keep (Ext.of s29)
      have nfn : (fs.map (·.nm)).Nodup := by
        rw [hfn, hk.nms]
        exact ((sortS_perm _).nodup_iff.mpr hn).filter _
      clear hnl8 s38 hq8 hsl hsl9 s9 dtl ev zok esrt lf ezs hnl7 s7 hnl nld s47 hl6 s6 hl5 em sm5 hd4 y4
      refine ⟨q, fun u v => (by rw [hq9]; exact fun z => nomatch z), _, rfl, q, _, _, rfl, hq9, .inl ⟨_, rfl, rfl⟩, fun o2 => ?_⟩
      have y10 : Ext q H9 (upd H9 q (.frz o2 (.dK (fs.map kvE)))) := fun b z n h => by rw [upd_ne n]; exact h
      have hq10 : upd H9 q (.frz o2 (.dK (fs.map kvE))) q = some (.frz o2 (.dK (fs.map kvE))) := upd_same
      have s210 : Same H2 (upd H9 q (.frz o2 (.dK (fs.map kvE)))) := fun b u h => by
        rw [upd_ne (ne_of_none h hq2)]
        exact s29 _ _ h
      have tq : ∀ {ys : List V} {rows : List (List Str)}, RowsAt K H9 ys rows → RowsAt K (upd H9 q (.frz o2 (.dK (fs.map kvE)))) ys rows := fun h => h.keep fun a xs r => by
        rcases r with (r | ⟨o, r⟩) | r
        · exact .inl (.inl (y10 _ _ (fun z => by rw [z, hq9] at r; cases r) r))
        · exact .inl (.inr ⟨o, y10 _ _ (fun z => by rw [z, hq9] at r; cases r) r⟩)
        · exact .inr r
      have hf10 : ∀ e ∈ fs, upd H9 q (.frz o2 (.dK (fs.map kvE))) e.ad = some (.lst e.ys) ∧ RowsAt K (upd H9 q (.frz o2 (.dK (fs.map kvE)))) e.ys e.rows := fun e he => by
        obtain ⟨_, q2, q3, q4, _⟩ := hf9 e he
        exact ⟨y10 _ _ q2 q3, tq q4⟩
      generalize (upd H9 q (.frz o2 (.dK (fs.map kvE)))) = H10 at y10 hq10 s210 hf10 tq ⊢
      refine for_keysV (fun j σ H11 => ∃ (z5 z6 z7 : Option V), σ = [some (.ref d), some (.ref p), some (.int (0 + (i : Int))), some (.ref q), some (.ref nl), z5, z6, z7] ∧ Same H2 H11 ∧ H11 q = some (.frz o2 (.dK (fs.map kvE))) ∧ ∀ (j' : Nat) (e : En), j ≤ j' → fs[j']? = some e → H11 e.ad = some (.lst e.ys) ∧ RowsAt K H11 e.ys e.rows)
        ⟨x5, x6, x7, rfl, s210, hq10, fun j' e _ h => hf10 e (List.mem_of_getElem? h)⟩ ?_ ?_ ?_
      · rintro j σ H11 hj ⟨z5, z6, z7, rfl, s11, hq11, hf11⟩
        exact hq11
      · rintro j kv σ H11 hc ⟨z5, z6, z7, rfl, s11, hq11, hf11⟩
        rw [List.map_map, List.getElem?_map] at hc
        obtain ⟨e, hce, rfl⟩ := Option.map_eq_some_iff.mp hc
        have he := List.mem_of_getElem? hce
        obtain ⟨e0, he0, en0⟩ := List.mem_map.mp (nmes e he)
        obtain ⟨hz0, na0, ha0, hR0, hg0, hl0⟩ := hD2.2.2.2.2 e0 he0
        have ha11 := s11 _ _ ha0
        have hR11 := rowsH_keep hR0 (Ext.of s11)
        have hd11 := s11 _ _ hD2.2.1
        have er : e.rows = uniqR e0.rows := by rw [(hf9 e he).2.2.2.2, hk.rowsE, ← en0, rowsE_of hn he0]
        have g : DGet H11 d (.str e.nm) (some (.ref e0.ad)) := .inl ⟨es.map kvE, Sum.inr e.nm, .inl hd11, rfl, by rw [← en0, valV_en hn he0]⟩
        refine ⟨_, rfl, _, rfl, d, _, rfl, g, ?_⟩
        have ly0 : e0.ys.length = e0.rows.length := hR0.length
        have hd0 : H11 e.ad = some (.lst e.ys) ∧ RowsAt K H11 e.ys e.rows := hf11 j e (Nat.le_refl _) hce
        refine ⟨_, rfl, _, _, rfl, .inl ⟨_, SqL.of ha11, rfl⟩, _, rfl, by omega, by omega, fun j5 m5 zs H12 => ∃ rs : List (List Str), RowsAt K H12 zs rs ∧ rs.Nodup ∧ (∀ r, r ∈ rs ↔ r ∈ e0.rows.take j5) ∧ zs.length ≤ j5 ∧ j5 ≤ e0.rows.length ∧ m5 = e0.rows.length - j5 ∧ Same H11 H12, ⟨_, [], .nil, List.nodup_nil, fun r => by simp, Nat.le_refl _, Nat.zero_le _, rfl, Same.refl H11⟩, ?_⟩
        rintro j5 m5 zs H12 ⟨rs, hrs, nrs, mrs, lz, lj, rfl, s12⟩
        have ha12 := s12 _ _ ha11
        by_cases lt5 : j5 < e0.rows.length
        · refine .inr ⟨by show j5 < ((e0.ys.length : Int)).toNat; omega, small1000 (by omega), ?_⟩
          rintro v H13 ⟨rfl, rfl⟩
          obtain ⟨r, hr5⟩ : ∃ r, e0.rows[j5]? = some r := ⟨_, List.getElem?_eq_getElem lt5⟩
          obtain ⟨y, hy5⟩ : ∃ y, e0.ys[j5]? = some y := ⟨_, List.getElem?_eq_getElem (by omega)⟩
          obtain ⟨r', hr5', b, rfl, nb, hb⟩ := Paired.at' (rowsH_keep hR11 (Ext.of s12)) hy5
          rw [hr5] at hr5'
          cases hr5'
          have ej : (0 + (j5 : Int)) = (j5 : Int) := by omega
          have ea : atI e0.ys (0 + (j5 : Int)) = some (.ref b) := by rw [ej]; exact atI_nat hy5
          refine ⟨_, rfl, _, rfl, _, _, _, _, rfl, rfl, SqL.of ha12, ea, _, rfl, _, rfl, _, rfl, e0.ad, e0.ys, rfl, SqL.of ha12, fun l3 hl3 => ?_⟩
          have s13 : Same H13 (upd H13 l3 (.lst (cutV e0.ys none (some (0 + (j5 : Int)))))) := same_new hl3 _
          have hl13 : upd H13 l3 (.lst (cutV e0.ys none (some (0 + (j5 : Int))))) l3 = some (.lst (e0.ys.take j5)) := by rw [upd_same, ej, cut_to]
          generalize (upd H13 l3 (.lst (cutV e0.ys none (some (0 + (j5 : Int)))))) = H14 at s13 hl13 ⊢
          have hRt : RowsAt K H14 (e0.ys.take j5) (e0.rows.take j5) := rowsAt_same (rowsH_at (paired_take j5 (rowsH_keep hR11 (Ext.of s12)))) s13
          have okr := good_ok hg0
          have okt : OkRows (e0.rows.take j5) := fun r hr => okr r (List.mem_of_mem_take hr)
          refine ⟨rowD r, (e0.rows.take j5).map rowD, dt_row ⟨b, rfl, SqT.of (s13 _ _ hb)⟩, .inr (dt_rows (SqL.of hl13) hRt), lay_rows _ okt, lay_strs r (okr r (List.mem_of_getElem? hr5)), by (show (rowD r).depth ≤ 60; rw [show (rowD r).depth = 1 by simp [rowD, PyData.depth, depth_strs]]; decide), _, rfl, ?_⟩
          have ev : (if true = true then !(((e0.rows.take j5).map rowD).any fun x => PyData.eqv x (rowD r)) else ((e0.rows.take j5).map rowD).any fun x => PyData.eqv x (rowD r)) = !decide (r ∈ e0.rows.take j5) := by
            rw [if_pos rfl, any_rows]
          rw [ev]
          have et : ∀ x, x ∈ e0.rows.take (j5 + 1) ↔ x ∈ e0.rows.take j5 ∨ x = r := fun x => by
            rw [List.take_add_one, hr5, List.mem_append]
            exact or_congr_right List.mem_singleton
          refine ite2 (fun c => ?_) (fun c => ?_)
          · have c : r ∉ e0.rows.take j5 := by simpa using c
            have ha14 := s13 _ _ ha12
            refine ⟨_, rfl, _, rfl, _, _, _, _, rfl, rfl, SqL.of ha14, ea, e0.rows.length - (j5 + 1), by omega, rs ++ [r], Paired.snoc (rowsAt_same hrs s13) ⟨b, rfl, SqT.of (s13 _ _ hb)⟩, ?_, fun x => ?_, by rw [List.length_append]; show zs.length + 1 ≤ _; omega, lt5, rfl, s12.trans s13⟩
            · refine List.nodup_append.mpr ⟨nrs, by simp, fun a ha b' hb' => ?_⟩
              rw [List.mem_singleton.mp hb']
              rintro rfl
              exact c ((mrs a).mp ha)
            · rw [et, List.mem_append, mrs]
              exact or_congr_right List.mem_singleton
          · have c : r ∈ e0.rows.take j5 := by simpa using c
            refine ⟨e0.rows.length - (j5 + 1), by omega, rs, rowsAt_same hrs s13, nrs, fun x => ?_, by omega, lt5, rfl, s12.trans s13⟩
            rw [et, mrs]
            exact ⟨.inl, fun h => h.elim id fun q => q ▸ c⟩
        · have ej : j5 = e0.rows.length := by omega
          refine .inl ⟨by show ((e0.ys.length : Int)).toNat ≤ j5; omega, Nat.le_of_lt (small1000 (by omega)), fun l3 hl3 => ?_⟩
          rw [ej, List.take_length] at mrs
          have s13 : Same H12 (upd H12 l3 (.lst zs)) := same_new hl3 _
          have hl13 : upd H12 l3 (.lst zs) l3 = some (.lst zs) := upd_same
          generalize (upd H12 l3 (.lst zs)) = H13 at s13 hl13 ⊢
          have lrs : zs.length = rs.length := hrs.length
          refine ⟨l3, zs, rs, rfl, SqL.of hl13, rowsAt_same hrs s13, fun _ r hr q => ?_, by omega, fun l4 us hl4 hus _ => ?_⟩
          · have := (hg0 r ((mrs r).mp hr)).1
            rw [q] at this
            cases this
          rw [uniqR_of nrs mrs] at hus
          have s14 : Same H13 (upd H13 l4 (.lst us)) := same_new hl4 _
          have hl14 : upd H13 l4 (.lst us) l4 = some (.lst us) := upd_same
          have hus := rowsAt_same hus s14
          generalize (upd H13 l4 (.lst us)) = H14 at s14 hl14 hus ⊢
          have s1114 := (s12.trans s13).trans s14
          have hq14 := s1114 _ _ hq11
          have he14 := s1114 _ _ hd0.1
          have hr14 := rowsAt_same hd0.2 s1114
          have g2 : ∀ {H' : Hp}, H' q = some (.frz o2 (.dK (fs.map kvE))) → DGet H' q (.str e.nm) (some (.ref e.ad)) := fun h => .inl ⟨fs.map kvE, Sum.inr e.nm, .inr ⟨o2, h⟩, rfl, (valV_en nfn he).symm⟩
          refine ⟨_, rfl, _, rfl, q, _, rfl, g2 hq14, _, _, _, _, rfl, .lst he14, (by rfl : _ = some true), _, rfl, iteF ?_⟩
          have oku : OkRows (uniqR e0.rows) := fun r hr => good_ok hg0 r ((mem_uniqR r _).mp hr)
          rw [er] at hr14
          refine ⟨_, rfl, _, rfl, q, _, rfl, g2 hq14, _, rfl, rowsD (uniqR e0.rows), rowsD (uniqR e0.rows), dt_rows (SqL.of he14) hr14, dt_rows (SqL.of hl14) hus, shaped_rows oku, shaped_rows oku, _, rfl, ?_⟩
          have ev : (if true = true then !PyData.eqv (rowsD (uniqR e0.rows)) (rowsD (uniqR e0.rows)) else PyData.eqv (rowsD (uniqR e0.rows)) (rowsD (uniqR e0.rows))) = false := by
            rw [if_pos rfl, eqv_rows, decide_eq_true rfl]
            rfl
          rw [ev]
          refine iteF ?_
          refine ⟨_, rfl, _, rfl, q, _, rfl, g2 hq14, .inl ⟨rfl, _, SqL.of he14⟩, (by show 1 ≤ sizeLine; decide), fun t ht => ?_⟩
          have s15 : Same H14 (upd H14 t (.tup [.str "zz"])) := same_new ht _
          have hq15 := s15 _ _ hq14
          have he15 := s15 _ _ he14
          have s215 := (s11.trans s1114).trans s15
          have hf15 : ∀ (j' : Nat) (e : En), j ≤ j' → fs[j']? = some e → upd H14 t (.tup [.str "zz"]) e.ad = some (.lst e.ys) ∧ RowsAt K (upd H14 t (.tup [.str "zz"])) e.ys e.rows := fun j' e' h1 h2 => ⟨s15 _ _ (s1114 _ _ (hf11 j' e' h1 h2).1), rowsAt_same (hf11 j' e' h1 h2).2 (s1114.trans s15)⟩
          generalize (upd H14 t (.tup [.str "zz"])) = H15 at s15 hq15 he15 s215 hf15 ⊢
          have lye : e.ys.length ≤ 100 := by
            have h1 := hr14.length
            have h2 : (uniqR e0.rows).length ≤ e0.rows.length := uniqR_len _
            omega
          refine ⟨_, _, _, rfl, rfl, he15, small1000 (by omega), _, _, _, rfl, fun b u h => ?_, ?_, fun j' e' h1 h2 => ?_⟩
          · rw [upd_ne (ne_of_none h (hf9 e he).1)]
            exact s215 _ _ h
          · rw [upd_ne ((hf9 e he).2.1).symm]
            exact hq15
          · obtain ⟨r1, r2⟩ := hf15 j' e' (Nat.le_of_succ_le h1) h2
            have ne : e'.ad ≠ e.ad := fun z => by
              have l1 : j' < (fs.map (·.ad)).length := by rw [List.length_map]; exact (List.getElem?_eq_some_iff.mp h2).1
              have := (List.getElem?_inj (i := j') (j := j) l1 hfa).mp (by rw [List.getElem?_map, List.getElem?_map, h2, hce]; exact congrArg some z)
              omega
            refine ⟨by rw [upd_ne ne]; exact r1, r2.keep fun a xs r => ?_⟩
            rcases r with (r | ⟨o, r⟩) | r
            · exact .inl (.inl (by rw [upd_ne (fun z => by rw [z, he15] at r; cases r)]; exact r))
            · exact .inl (.inr ⟨o, by rw [upd_ne (fun z => by rw [z, he15] at r; cases r)]; exact r⟩)
            · exact .inr r
      · rintro σ H11 ⟨z5, z6, z7, rfl, s11, hq11, hf11⟩
        refine ⟨o2, _, hq11, ?_⟩
        have hq12 : upd H11 q (.dK (fs.map kvE)) q = some (.dK (fs.map kvE)) := upd_same
        have s12 : Same H2 (upd H11 q (.dK (fs.map kvE))) := fun b u h => by
          rw [upd_ne (ne_of_none h hq2)]
          exact s11 _ _ h
        generalize (upd H11 q (.dK (fs.map kvE))) = H12 at hq12 s12 ⊢
        refine ⟨(by show 0 ≤ sizeLine; decide), fun l3 hl3 => ?_⟩
        have s13 : Same H12 (upd H12 l3 (.lst [])) := same_new hl3 _
        have hq13 := s13 _ _ hq12
        have s213 := s12.trans s13
        generalize (upd H12 l3 (.lst [])) = H13 at s13 hq13 s213 ⊢
        refine ⟨_, rfl, q, _, rfl, .inl ⟨_, Sum.inr "zz", hq13, rfl, by rw [List.length_map]; exact small1000 (by omega), rfl⟩, ?_⟩
        have s214 : Same H2 (upd H13 q (.dK (putK (fs.map kvE) (Sum.inr "zz") (.ref l3)))) := fun b u h => by
          rw [upd_ne (ne_of_none h hq2)]
          exact s213 _ _ h
        generalize (upd H13 q (.dK (putK (fs.map kvE) (Sum.inr "zz") (.ref l3)))) = H14 at s214 ⊢
        have hA := hT2.keep (Ext.of s214)
        have hB := hD2.keep (Ext.of s214)
        refine ⟨_, rfl, _, rfl, p, d, es'.map kvE, es.map kvE, rfl, rfl, hA.2.1, hB.2.1, same_at hk hA.2.2.2.2 hB.2.2.2.2, _, rfl, iteF ?_⟩
        exact ⟨_, _, _, _, _, _, rfl, sm2.trans s214⟩
  · rintro σ H2 ⟨x2, x3, x4, x5, x6, x7, rfl, sm2⟩
    exact k _ (sm1.trans sm2)
structure Dz (P : Program) (w : World) (K : PySem.W.Frag) (mg : Str → Option Value) (base : Heap) : Prop where
  l_sorted_right : DefOk P w K mg base 3 "_law_sorted_right" ["_law_tables_here"] (spRight K)
end
end K05

set_option Elab.async false
set_option linter.all false
set_option maxRecDepth 100000
set_option maxHeartbeats 4000000
namespace K05
open PySem PySem.Spec PyProof.Rows L2 Srt
seal L2.PE L2.PT L2.PW L2.PA L2.PS L2.PSs L2.PI L2.PO L2.PPs L2.PG L2.PGs
theorem Th.lst {f : Addr} {m n : Nat} {H : Hp} {a : Addr} {xs : List V} (nf : a ≠ f) (h : H a = some (.lst xs)) : Th f m H (n + 1) (.ref a) := .inr (.inr (.inr (.inr (.inl ⟨a, xs, rfl, nf, h⟩))))
theorem Th.dic {f : Addr} {m n : Nat} {H : Hp} {a : Addr} {kvs : List (Key × V)} (nf : a ≠ f) (h : H a = some (.dK kvs)) : Th f m H (n + 1) (.ref a) := .inr (.inr (.inr (.inr (.inr (.inl ⟨a, kvs, rfl, nf, h⟩)))))
theorem Th.non {f : Addr} {m n : Nat} {H : Hp} : Th f m H (n + 1) .non := .inl rfl
theorem Th.bl {f : Addr} {m n : Nat} {H : Hp} {b : Bool} : Th f m H (n + 1) (.bl b) := .inr (.inl ⟨b, rfl⟩)
theorem Th.int {f : Addr} {m n : Nat} {H : Hp} {i : Int} : Th f m H (n + 1) (.int i) := .inr (.inr (.inl ⟨i, rfl⟩))
theorem cut_mem {xs : List V} {lo hi : Option Int} {x : V} (h : x ∈ cutV xs lo hi) : x ∈ xs := List.mem_of_mem_drop (List.mem_of_mem_take h)
theorem noPart {σ : L2.St} {H : Hp} {q : Option Int → Hp → Prop} (h : q none H) : tNoPart σ H q := h
theorem pick {xs : List V} {i : Int} (h0 : 0 ≤ i) (h1 : i < (xs.length : Int)) : ∃ v, v ∈ xs ∧ atI xs i = some v := by
  obtain ⟨v, hv⟩ : ∃ v, xs[i.toNat]? = some v := ⟨_, List.getElem?_eq_getElem (by omega)⟩
  refine ⟨v, List.mem_of_getElem? hv, ?_⟩
  have e : i = ((i.toNat : Nat) : Int) := by omega
  rw [e]
  exact atI_nat hv
def FrS (S : List Addr) (m : Nat) (H : Hp) (n : Nat) (v : V) : Prop := ∀ g ∈ S, ThL g m H n v
def ExtS (S : List Addr) (H H' : Hp) : Prop := ∀ b o, b ∉ S → H b = some o → H' b = some o
section
variable {S : List Addr} {m n : Nat} {H H' : Hp} {v : V} {g a : Addr}
theorem Th.ne (h : Th g m H n (.ref a)) : a ≠ g := by
  cases n with
  | zero => exact h.elim
  | succ n =>
    rcases h with h | ⟨b, h⟩ | ⟨i, h⟩ | ⟨z, h, _⟩ | ⟨a, ys, h, nf, _⟩ | ⟨a, kvs, h, nf, _⟩ | ⟨a, ys, h, nf, _⟩ <;> cases h <;> exact nf
theorem Th.tupI {xs : List V} (h : Th g m H (n + 1) (.ref a)) (ha : H a = some (.tup xs)) : xs.length ≤ m ∧ ∀ x ∈ xs, Th g m H n x := by
  rcases h with h | ⟨b, h⟩ | ⟨i, h⟩ | ⟨z, h, _⟩ | ⟨a, ys, h, nf, q⟩ | ⟨a, kvs, h, nf, q⟩ | ⟨a, ys, h, nf, q, hl, hx⟩ <;> cases h
  · rw [ha] at q; cases q
  · rw [ha] at q; cases q
  · rw [ha] at q; cases q; exact ⟨hl, hx⟩
theorem thS_keep (e : ExtS S H H') : ∀ {n : Nat} {v : V}, (∀ g ∈ S, Th g m H n v) → ∀ g ∈ S, Th g m H' n v
  | 0, _, h, g, hg => (h g hg).elim
  | n + 1, v, h, g, hg => by
    have h0 := h g hg
    have ne : ∀ {a : Addr}, v = .ref a → a ∉ S := fun ea q => (ea ▸ h _ q : Th _ m H (n + 1) (.ref _)).ne rfl
    rcases h0 with h0 | h0 | h0 | h0 | ⟨a, xs, rfl, nf, h0⟩ | ⟨a, kvs, rfl, nf, h0⟩ | ⟨a, xs, rfl, nf, h0, hl, hx⟩
    · exact .inl h0
    · exact .inr (.inl h0)
    · exact .inr (.inr (.inl h0))
    · exact .inr (.inr (.inr (.inl h0)))
    · exact .inr (.inr (.inr (.inr (.inl ⟨a, xs, rfl, nf, e _ _ (ne rfl) h0⟩))))
    · exact .inr (.inr (.inr (.inr (.inr (.inl ⟨a, kvs, rfl, nf, e _ _ (ne rfl) h0⟩)))))
    · exact .inr (.inr (.inr (.inr (.inr (.inr ⟨a, xs, rfl, nf, e _ _ (ne rfl) h0, hl, fun x hx' => thS_keep e (fun g' hg' => ((h g' hg').tupI h0).2 x hx') g hg⟩)))))
theorem lstOf_keepS (e : ExtS S H H') (h : ∀ g ∈ S, Th g m H n v) (hS : g ∈ S) : lstOf H' v = lstOf H v := by
  have h0 := h g hS
  cases n with
  | zero => exact h0.elim
  | succ n =>
    have ne : ∀ {a : Addr}, v = .ref a → a ∉ S := fun ea q => (ea ▸ h _ q : Th _ m H (n + 1) (.ref _)).ne rfl
    rcases h0 with rfl | ⟨b, rfl⟩ | ⟨i, rfl⟩ | ⟨z, rfl, _⟩ | ⟨a, xs, rfl, nf, h0⟩ | ⟨a, kvs, rfl, nf, h0⟩ | ⟨a, xs, rfl, nf, h0, hl, hx⟩
    · rfl
    · rfl
    · rfl
    · rfl
    all_goals
      show (match H' a with | some (.lst xs) => some xs | _ => none) = (match H a with | some (.lst xs) => some xs | _ => none)
      rw [e _ _ (ne rfl) h0, h0]
theorem FrS.keep (h : FrS S m H n v) (e : ExtS S H H') : FrS S m H' n v := fun g hg => by
  have hT := fun g hg => (h g hg).1
  refine ⟨thS_keep e hT g hg, fun ys hy => ?_⟩
  rw [lstOf_keepS e hT hg] at hy
  exact ⟨((h g hg).2 ys hy).1, fun y hy' => thS_keep e (fun g' hg' => ((h g' hg').2 ys hy).2 y hy') g hg⟩
theorem FrS.up {n' : Nat} (h : FrS S m H n v) (q : n ≤ n') : FrS S m H n' v := fun g hg => ⟨(h g hg).1.up (Nat.le_refl _) q, fun ys hy => ⟨((h g hg).2 ys hy).1, fun y hy' => (((h g hg).2 ys hy).2 y hy').up (Nat.le_refl _) q⟩⟩
theorem ExtS.of (s : Same H H') : ExtS S H H' := fun b o _ h => s b o h
theorem ExtS.ext {f : Addr} (hf : f ∈ S) (x : Ext f H H') : ExtS S H H' := fun b o n h => x b o (fun e => n (e ▸ hf)) h
theorem frS_no (hv : ∀ g ∈ S, Th g m H n v) (e : ∀ a, v = .ref a → ∃ u, H a = some u ∧ ∀ xs, u ≠ .lst xs) : FrS S m H n v := fun g hg => ⟨hv g hg, fun ys hy => by
  cases v with
  | ref a =>
    obtain ⟨u, h1, h2⟩ := e a rfl
    replace hy : (match H a with | some (.lst xs) => some xs | _ => none) = some ys := hy
    rw [h1] at hy
    cases u <;> first | exact absurd rfl (h2 _) | cases hy
  | _ => cases hy⟩
theorem frS_str {z : Str} (h : z.length ≤ 100) : FrS S m H (n + 1) (.str z) := frS_no (fun g hg => Th.str h) (fun a e => by cases e)
theorem frS_non : FrS S m H (n + 1) .non := frS_no (fun g hg => Th.non) (fun a e => by cases e)
theorem frS_bl {b : Bool} : FrS S m H (n + 1) (.bl b) := frS_no (fun g hg => Th.bl) (fun a e => by cases e)
theorem frS_int {i : Int} : FrS S m H (n + 1) (.int i) := frS_no (fun g hg => Th.int) (fun a e => by cases e)
theorem frS_tup {xs : List V} (na : a ∉ S) (ha : H a = some (.tup xs)) (hl : xs.length ≤ m) (hx : ∀ x ∈ xs, ∀ g ∈ S, Th g m H n x) : FrS S m H (n + 1) (.ref a) :=
  frS_no (fun g hg => Th.tup (fun e => na (e ▸ hg)) ha hl fun x h => hx x h g hg) fun b e => by
    cases e
    exact ⟨_, ha, fun _ z => nomatch z⟩
theorem frS_dic {kvs : List (Key × V)} (na : a ∉ S) (ha : H a = some (.dK kvs)) : FrS S m H (n + 1) (.ref a) :=
  frS_no (fun g hg => Th.dic (fun e => na (e ▸ hg)) ha) fun b e => by
    cases e
    exact ⟨_, ha, fun _ z => nomatch z⟩
theorem frS_lst {xs : List V} (na : a ∉ S) (ha : H a = some (.lst xs)) (hl : xs.length ≤ m) (hx : ∀ x ∈ xs, ∀ g ∈ S, Th g m H (n + 1) x) : FrS S m H (n + 1) (.ref a) := fun g hg =>
  ⟨Th.lst (fun e => na (e ▸ hg)) ha, fun ys hy => by
    rw [lstOf_ref ha] at hy
    cases hy
    exact ⟨hl, fun y hy' => hx y hy' g hg⟩⟩
end
def ManyS (S : List Addr) (n : Nat) (H : Hp) (l : List V) : Prop := ∀ v ∈ l, FrS S 100 H n v
theorem ManyS.snoc {S : List Addr} {n : Nat} {H H' : Hp} {l : List V} {v : V} (h : ManyS S n H l) (e : ExtS S H H') (t : FrS S 100 H' n v) : ManyS S n H' (l ++ [v]) := fun x hx => by
  rcases List.mem_append.mp hx with q | q
  · exact (h x q).keep e
  · rw [List.mem_singleton.mp q]
    exact t
theorem ManyS.keep {S : List Addr} {n : Nat} {H H' : Hp} {l : List V} (h : ManyS S n H l) (e : ExtS S H H') : ManyS S n H' l := fun x hx => (h x hx).keep e
def StandS (S : List Addr) (H : Hp) : Prop := ∀ g ∈ S, ∃ o, H g = some o
theorem StandS.nin {S : List Addr} {H : Hp} {p : Addr} (h : StandS S H) (hp : H p = none) : p ∉ S := fun q => by
  obtain ⟨o, e⟩ := h p q
  rw [e] at hp
  cases hp
theorem StandS.same {S : List Addr} {H H' : Hp} (h : StandS S H) (s : Same H H') : StandS S H' := fun g hg => by
  obtain ⟨o, e⟩ := h g hg
  exact ⟨o, s _ _ e⟩
theorem StandS.ext {K : PySem.W.Frag} {S : List Addr} {f : Addr} {H H' : Hp} (h : StandS S H) (x : Ext f H H') (hF : Feed K f H') : StandS S H' := fun g hg => by
  obtain ⟨o, e⟩ := h g hg
  by_cases q : g = f
  · subst q
    obtain ⟨a, ns, p, q, r, hf, _⟩ := hF
    exact ⟨_, hf⟩
  · exact ⟨o, x _ _ q e⟩
section
variable {P : Program} {w : World} {K : PySem.W.Frag} {mg : Str → Option Value} {base : Heap}
def spOdd (K : PySem.W.Frag) : Sp := fun vs H Q _ => ∃ (f : Addr) (S : List Addr), vs = [.ref f] ∧ Feed K f H ∧ f ∈ S ∧ StandS S H ∧ ∀ (v : V) (H' : Hp), Feed K f H' → Ext f H H' → FrS S 100 H' 3 v → Q v H'
theorem sc_l_odd : FnScope ["_law_feed_here", "_law_some"] ["_law_feed_here"] (defScope s_l_odd) := ⟨rfl, rfl, rfl, by decide +kernel, rfl, by decide +kernel, by decide +kernel⟩
structure Mk (K : PySem.W.Frag) (f : Addr) (S : List Addr) (H0 H : Hp) (l : List V) : Prop where
  fd : Feed K f H
  ex : Same H0 H
  st : StandS S H
  mn : ManyS S 3 H l
theorem Mk.new {f : Addr} {S : List Addr} {H0 H : Hp} {l : List V} (h : Mk K f S H0 H l) {p : Addr} (hp : H p = none) (o : HO) {v : V} (t : p ∉ S → upd H p o p = some o → FrS S 100 (upd H p o) 3 v) : Mk K f S H0 (upd H p o) (l ++ [v]) :=
  ⟨h.fd.new hp o, h.ex.trans (same_new hp o), h.st.same (same_new hp o), h.mn.snoc (ExtS.of (same_new hp o)) (t (h.st.nin hp) upd_same)⟩
theorem Mk.new0 {f : Addr} {S : List Addr} {H0 H : Hp} {l : List V} (h : Mk K f S H0 H l) {p : Addr} (hp : H p = none) (o : HO) : Mk K f S H0 (upd H p o) l :=
  ⟨h.fd.new hp o, h.ex.trans (same_new hp o), h.st.same (same_new hp o), h.mn.keep (ExtS.of (same_new hp o))⟩
theorem ok_odd {f : Addr} {fd : FuncData} (F : Fun K "_law_odd" "_law_odd" s_l_odd f fd) (T : Txt K mg) (D : Dr P w K mg base) : FnOk P w K mg base CX0 2 f fd ["_law_feed_here"] (spOdd K) := by
  refine F.ok sc_l_odd (fun vs H Q E h => ?_) (fun cdv A outer s H vs Q E hr h => ?_)
  · obtain ⟨a, b, rfl, _⟩ := h
    rfl
  obtain ⟨fe, S, rfl, hF, hS, st, k⟩ := h
  refine ⟨_, (pss_cons (ps_set (i := 1) sc_l_odd.nd rfl (Or.inl rfl) (pe_lst (pa_cons pe_non (pa_cons pe_bl (pa_cons pe_int (pa_cons pe_str (pa_cons pe_str (pa_cons pe_str (pa_cons pe_str (pa_cons pe_str (pa_cons pe_str (pa_cons (pe_tup pa_nil) (pa_cons (pe_lst pa_nil) (pa_cons pe_dnewK (pa_cons (pe_tup (pa_cons pe_str pa_nil)) (pa_cons (pe_lst (pa_cons pe_str pa_nil)) (pa_cons (pe_tup (pa_cons pe_str (pa_cons pe_str (pa_cons pe_str (pa_cons pe_str (pa_cons pe_str pa_nil)))))) pa_nil)))))))))))))))))
      (pss_one (ps_ret (pe_ix ix_list (pe_op op_cat (pv 1) (pe_lst (pa_cons (pe_tup (pa_cons pe_non pa_nil)) (pa_cons (pe_tup (pa_cons pe_str pa_nil)) (pa_cons (pe_lst (pa_cons (pe_tup (pa_cons pe_str pa_nil)) pa_nil)) (pa_cons (pe_tup (pa_cons (pe_tup (pa_cons pe_str pa_nil)) pa_nil)) (pa_cons (pe_tup (pa_cons pe_str (pa_cons pe_str pa_nil))) pa_nil))))))) (cl D.l_draw hr (pa_cons (pv 0) (pa_cons pe_int pa_nil))) (fun _ _ => rfl))))), ?_⟩
  have txts : ∀ {H : Hp} {n : Nat} (zs : List Str), (∀ z ∈ zs, z.length ≤ 100) → ∀ x ∈ zs.map V.str, ∀ g ∈ S, Th g 100 H (n + 1) x := fun zs hz x hx g hg => by
    obtain ⟨z, h, rfl⟩ := List.mem_map.mp hx
    exact Th.str (hz z h)
  have M0 : Mk K fe S H H [.non, .bl true, .int 0, .str "", .str "a", .str "abcdefghi", .str "?x", .str "A", .str "a b"] := ⟨hF, Same.refl H, st, fun v hv => by
    rcases List.mem_cons.mp hv with rfl | hv
    · exact frS_non
    rcases List.mem_cons.mp hv with rfl | hv
    · exact frS_bl
    rcases List.mem_cons.mp hv with rfl | hv
    · exact frS_int
    obtain ⟨z, hz, rfl⟩ := List.mem_map.mp (show v ∈ (["", "a", "abcdefghi", "?x", "A", "a b"] : List Str).map V.str from hv)
    exact frS_str (of_decide_eq_true (List.all_eq_true.mp (by decide +kernel : ((["", "a", "abcdefghi", "?x", "A", "a b"] : List Str).all fun z : Str => decide (z.length ≤ 100)) = true) z hz))⟩
  refine ⟨(by show 0 ≤ sizeLine; decide), fun p1 h1 => ?_⟩
  have M1 := M0.new h1 (.tup []) (v := .ref p1) fun n e => frS_tup n e (by decide) fun x hx => by cases hx
  generalize (upd H p1 (.tup [])) = H1 at M1 ⊢
  refine ⟨(by show 0 ≤ sizeLine; decide), fun p2 h2 => ?_⟩
  have M2 := M1.new h2 (.lst []) (v := .ref p2) fun n e => frS_lst n e (by decide) fun x hx => by cases hx
  generalize (upd H1 p2 (.lst [])) = H2 at M2 ⊢
  intro p3 h3
  have M3 := M2.new h3 (.dK []) (v := .ref p3) fun n e => frS_dic n e
  generalize (upd H2 p3 (.dK [])) = H3 at M3 ⊢
  refine ⟨(by show 1 ≤ sizeLine; decide), fun p4 h4 => ?_⟩
  have M4 := M3.new h4 (.tup [.str "a"]) (v := .ref p4) fun n e => frS_tup n e (by decide) (txts ["a"] (by decide +kernel))
  generalize (upd H3 p4 (.tup [.str "a"])) = H4 at M4 ⊢
  refine ⟨(by show 1 ≤ sizeLine; decide), fun p5 h5 => ?_⟩
  have M5 := M4.new h5 (.lst [.str "a"]) (v := .ref p5) fun n e => frS_lst n e (by decide) (txts ["a"] (by decide +kernel))
  generalize (upd H4 p5 (.lst [.str "a"])) = H5 at M5 ⊢
  refine ⟨(by show 5 ≤ sizeLine; decide), fun p6 h6 => ?_⟩
  have M6 := M5.new h6 (.tup [.str "a", .str "b", .str "c", .str "d", .str "e"]) (v := .ref p6) fun n e => frS_tup n e (by decide) (txts ["a", "b", "c", "d", "e"] (by decide +kernel))
  generalize (upd H5 p6 (.tup [.str "a", .str "b", .str "c", .str "d", .str "e"])) = H6 at M6 ⊢
  refine ⟨(by show 15 ≤ sizeLine; decide), fun p7 h7 => ?_⟩
  have M7 := M6.new0 h7 (.lst [.non, .bl true, .int 0, .str "", .str "a", .str "abcdefghi", .str "?x", .str "A", .str "a b", .ref p1, .ref p2, .ref p3, .ref p4, .ref p5, .ref p6])
  have e7 : upd H6 p7 (.lst [.non, .bl true, .int 0, .str "", .str "a", .str "abcdefghi", .str "?x", .str "A", .str "a b", .ref p1, .ref p2, .ref p3, .ref p4, .ref p5, .ref p6]) p7 = some (.lst [.non, .bl true, .int 0, .str "", .str "a", .str "abcdefghi", .str "?x", .str "A", .str "a b", .ref p1, .ref p2, .ref p3, .ref p4, .ref p5, .ref p6]) := upd_same
  have M7 : Mk K fe S H _ [.non, .bl true, .int 0, .str "", .str "a", .str "abcdefghi", .str "?x", .str "A", .str "a b", .ref p1, .ref p2, .ref p3, .ref p4, .ref p5, .ref p6] := M7
  generalize (upd H6 p7 (.lst [.non, .bl true, .int 0, .str "", .str "a", .str "abcdefghi", .str "?x", .str "A", .str "a b", .ref p1, .ref p2, .ref p3, .ref p4, .ref p5, .ref p6])) = H7 at M7 e7 ⊢
  generalize eL : ([.non, .bl true, .int 0, .str "", .str "a", .str "abcdefghi", .str "?x", .str "A", .str "a b", .ref p1, .ref p2, .ref p3, .ref p4, .ref p5, .ref p6] : List V) = L at M7 e7
  have lL : L.length = 15 := by rw [← eL]; rfl
  refine ⟨_, rfl, (by show 1 ≤ sizeLine; decide), fun q1 g1 => ?_⟩
  have N1 := M7.new g1 (.tup [.non]) (v := .ref q1) fun n e => frS_tup n e (by decide) fun x hx g hg => by
    rw [List.mem_singleton.mp hx]
    exact Th.non
  have e8 := (same_new g1 (.tup [.non])) _ _ e7
  generalize (upd H7 q1 (.tup [.non])) = H8 at N1 e8 ⊢
  refine ⟨(by show 1 ≤ sizeLine; decide), fun q2 g2 => ?_⟩
  have N2 := N1.new g2 (.tup [.str "?x"]) (v := .ref q2) fun n e => frS_tup n e (by decide) (txts ["?x"] (by decide +kernel))
  have e9 := (same_new g2 (.tup [.str "?x"])) _ _ e8
  generalize (upd H8 q2 (.tup [.str "?x"])) = H9 at N2 e9 ⊢
  refine ⟨(by show 1 ≤ sizeLine; decide), fun q3 g3 => ?_⟩
  have N3 := N2.new0 g3 (.tup [.str "a"])
  have t3 : ∀ g ∈ S, Th g 100 (upd H9 q3 (.tup [.str "a"])) 2 (.ref q3) := fun g hg => Th.tup (fun e => N2.st.nin g3 (e ▸ hg)) upd_same (by decide) fun x hx => txts ["a"] (by decide +kernel) x hx g hg
  have e10 := (same_new g3 (.tup [.str "a"])) _ _ e9
  generalize (upd H9 q3 (.tup [.str "a"])) = H10 at N3 t3 e10 ⊢
  refine ⟨(by show 1 ≤ sizeLine; decide), fun q4 g4 => ?_⟩
  have N4 := N3.new g4 (.lst [.ref q3]) (v := .ref q4) fun n e => frS_lst n e (by show 1 ≤ 100; decide) fun x hx g hg => by
    rw [List.mem_singleton.mp hx]
    exact ((t3 g hg).keep (Ext.of (same_new g4 _))).up (Nat.le_refl _) (by decide)
  have e11 := (same_new g4 (.lst [.ref q3])) _ _ e10
  generalize (upd H10 q4 (.lst [.ref q3])) = H11 at N4 e11 ⊢
  refine ⟨(by show 1 ≤ sizeLine; decide), fun q5 g5 => ?_⟩
  have N5 := N4.new0 g5 (.tup [.str "a"])
  have t5 : ∀ g ∈ S, Th g 100 (upd H11 q5 (.tup [.str "a"])) 2 (.ref q5) := fun g hg => Th.tup (fun e => N4.st.nin g5 (e ▸ hg)) upd_same (by decide) fun x hx => txts ["a"] (by decide +kernel) x hx g hg
  have e12 := (same_new g5 (.tup [.str "a"])) _ _ e11
  generalize (upd H11 q5 (.tup [.str "a"])) = H12 at N5 t5 e12 ⊢
  refine ⟨(by show 1 ≤ sizeLine; decide), fun q6 g6 => ?_⟩
  have N6 := N5.new g6 (.tup [.ref q5]) (v := .ref q6) fun n e => frS_tup n e (by show 1 ≤ 100; decide) fun x hx g hg => by
    rw [List.mem_singleton.mp hx]
    exact (t5 g hg).keep (Ext.of (same_new g6 _))
  have e13 := (same_new g6 (.tup [.ref q5])) _ _ e12
  generalize (upd H12 q6 (.tup [.ref q5])) = H13 at N6 e13 ⊢
  refine ⟨(by show 2 ≤ sizeLine; decide), fun q7 g7 => ?_⟩
  have N7 := N6.new g7 (.tup [.str "abcdefgh", .str "0"]) (v := .ref q7) fun n e => frS_tup n e (by decide) (txts ["abcdefgh", "0"] (by decide +kernel))
  have e14 := (same_new g7 (.tup [.str "abcdefgh", .str "0"])) _ _ e13
  generalize (upd H13 q7 (.tup [.str "abcdefgh", .str "0"])) = H14 at N7 e14 ⊢
  refine ⟨(by show 5 ≤ sizeLine; decide), fun q8 g8 => ?_⟩
  have N8 := N7.new0 g8 (.lst [.ref q1, .ref q2, .ref q4, .ref q6, .ref q7])
  have e15 := (same_new g8 (.lst [.ref q1, .ref q2, .ref q4, .ref q6, .ref q7])) _ _ e14
  have e16 : upd H14 q8 (.lst [.ref q1, .ref q2, .ref q4, .ref q6, .ref q7]) q8 = some (.lst [.ref q1, .ref q2, .ref q4, .ref q6, .ref q7]) := upd_same
  generalize (upd H14 q8 (.lst [.ref q1, .ref q2, .ref q4, .ref q6, .ref q7])) = H15 at N8 e15 e16 ⊢
  have N8 : Mk K fe S H H15 (L ++ [.ref q1, .ref q2, .ref q4, .ref q6, .ref q7]) := by
    have : L ++ [.ref q1, .ref q2, .ref q4, .ref q6, .ref q7] = L ++ [.ref q1] ++ [.ref q2] ++ [.ref q4] ++ [.ref q6] ++ [.ref q7] := by simp
    rw [this]
    exact N8
  refine ⟨_, _, _, _, rfl, rfl, e15, e16, by (rw [lL]; show 20 ≤ sizeLine; decide), fun q9 g9 => ?_⟩
  have N9 := N8.new0 g9 (.lst (L ++ [.ref q1, .ref q2, .ref q4, .ref q6, .ref q7]))
  have e17 : upd H15 q9 (.lst (L ++ [.ref q1, .ref q2, .ref q4, .ref q6, .ref q7])) q9 = some (.lst (L ++ [.ref q1, .ref q2, .ref q4, .ref q6, .ref q7])) := upd_same
  have n9 := N8.fd.nef g9
  generalize (upd H15 q9 (.lst (L ++ [.ref q1, .ref q2, .ref q4, .ref q6, .ref q7]))) = H16 at N9 e17 ⊢
  refine ⟨_, rfl, fe, 20, rfl, N9.fd, by decide, by decide, fun i H17 i0 i1 hF17 ex17 => ?_⟩
  obtain ⟨v, hv, ev⟩ := pick (xs := L ++ [.ref q1, .ref q2, .ref q4, .ref q6, .ref q7]) i0 (by rw [List.length_append, lL]; show i < ((15 + 5 : Nat) : Int); omega)
  refine ⟨_, _, _, _, rfl, rfl, SqL.of (ex17 _ _ n9 e17), ev, ?_⟩
  exact k v H17 hF17 ((Ext.of N9.ex).trans ex17) ((N9.mn v hv).keep (ExtS.ext hS ex17))
structure Do (P : Program) (w : World) (K : PySem.W.Frag) (mg : Str → Option Value) (base : Heap) : Prop extends Dr P w K mg base where
  l_odd : DefOk P w K mg base 2 "_law_odd" ["_law_feed_here"] (spOdd K)
end
end K05

set_option Elab.async false
set_option linter.all false
set_option maxRecDepth 100000
set_option maxHeartbeats 4000000
namespace K05
open PySem PySem.Spec PyProof.Rows L2 Srt
seal L2.PE L2.PT L2.PW L2.PA L2.PS L2.PSs L2.PI L2.PO L2.PPs L2.PG L2.PGs
section
variable {P : Program} {w : World} {K : PySem.W.Frag} {mg : Str → Option Value} {base : Heap}
theorem row_th {f g b : Addr} {H : Hp} {r : List Str} {n : Nat} (hb : H b = some (.tup (r.map V.str))) (ne : b ≠ g) (hg : GoodRow r) : Th g 100 H (n + 2) (.ref b) :=
  Th.tup ne hb (by rw [List.length_map]; have := hg.2.1; omega) fun x hx => by
    obtain ⟨z, hz, rfl⟩ := List.mem_map.mp hx
    exact Th.str (pool_is (List.mem_append_right _ (hg.2.2 z hz))).2.2
theorem feed_same {f : Addr} {H H' : Hp} (h : Feed K f H) (s : Same H H') : Feed K f H' := by
  obtain ⟨a, ns, x, y, z, hf, h1, h2, h3, hS, hn⟩ := h
  refine ⟨a, ns, x, y, z, s _ _ hf, h1, h2, h3, ?_, hn⟩
  rcases hS with ⟨ob, h⟩ | h
  · exact .inl ⟨ob, s _ _ h⟩
  · exact .inr h
theorem feed_frz {f p : Addr} {H : Hp} {ob : Obj} {xs : List (Key × V)} (h : Feed K f H) (hp : H p = some (.frz ob (.dK xs))) (n : p ≠ f) (o : HO) : Feed K f (upd H p o) := by
  obtain ⟨a, ns, x, y, z, hf, h1, h2, h3, hS, hn⟩ := h
  refine ⟨a, ns, x, y, z, by rw [upd_ne n.symm]; exact hf, h1, h2, h3, ?_, hn⟩
  rcases hS with ⟨ob', h⟩ | h
  · exact .inl ⟨ob', by rw [upd_ne (ne_of h hp fun z => by cases z)]; exact h⟩
  · exact .inr h
theorem ixN_nat {n : Nat} {k : Int} (h : k.toNat < n) (e : k = (k.toNat : Int)) : ixN n k = some k.toNat := by
  unfold ixN
  rw [if_pos (by omega)]
  simp
  omega
theorem rdS_cut {a : Addr} {S : List Addr} {H : Hp} {xs : List V} {lo hi : Option Int} {Q : VK} (st : StandS S H) (na : a ∉ S) (ha : H a = some (.tup xs))
    (k : ∀ (p : Addr) (ys : List V) (H' : Hp), Same H H' → p ∉ S → H' p = some (.tup ys) → ys = cutV xs lo hi → Q (.ref p) H') : rSlA K (.ref a) lo hi H Q := by
  refine ⟨a, xs, rfl, SqT.of ha, fun h => ?_, fun h p hp => ?_⟩
  · refine k a xs H (Same.refl H) na ha ?_
    unfold cutV
    rw [h.1, h.2, List.drop_zero, Nat.sub_zero, List.take_length]
  · exact k p _ _ (same_new hp _) (st.nin hp) upd_same rfl
theorem rdS_cat {a b : Addr} {S : List Addr} {H : Hp} {xs ys : List V} {Q : VK} (st : StandS S H) (na : a ∉ S) (nb : b ∉ S) (ha : H a = some (.tup xs)) (hb : H b = some (.tup ys)) (hl : xs.length + ys.length ≤ 1000)
    (k : ∀ (p : Addr) (H' : Hp), Same H H' → p ∉ S → H' p = some (.tup (xs ++ ys)) → Q (.ref p) H') : rCatA K (.ref a) (.ref b) H Q := by
  refine ⟨a, b, xs, ys, rfl, rfl, SqT.of ha, SqT.of hb, Nat.le_of_lt (small1000 hl), fun h => ?_, fun _ h => ?_, fun _ _ p hp => ?_⟩
  · exact k b H (Same.refl H) nb (by rw [h, List.nil_append]; exact hb)
  · exact k a H (Same.refl H) na (by rw [h, List.append_nil]; exact ha)
  · exact k p _ (same_new hp _) (st.nin hp) upd_same
def spBentT (P : Program) (w : World) (K : PySem.W.Frag) : Sp := fun vs H Q _ => ∃ (f t : Addr) (es : List En), vs = [.ref f, .ref t] ∧ Feed K f H ∧ Tabs f H t es ∧
  ∀ (d : Addr) (u : HO) (l : List (Key × V)) (kvs : List (V × V)) (H' : Hp), Feed K f H' → Ext f H H' → DicAt P w K 100 4 H' d u l kvs → Q (.ref d) H'
theorem sc_l_bent : FnScope ["_law_feed_here", "_law_tables_here", "_law_found", "_law_at", "_law_name", "_law_rows", "_law_way", "_law_k"] ["_law_feed_here", "_law_tables_here"] (defScope s_l_bent) := ⟨rfl, rfl, rfl, by decide +kernel, rfl, by decide +kernel, by decide +kernel⟩
theorem ok_bent {f : Addr} {fd : FuncData} (F : Fun K "_law_bent" "_law_bent" s_l_bent f fd) (T : Txt K mg) (D : Do P w K mg base) : FnOk P w K mg base CX0 3 f fd ["_law_feed_here", "_law_tables_here"] (spBentT P w K) := by
  refine F.ok sc_l_bent (fun vs H Q E h => ?_) (fun cdv A outer s H vs Q E hr h => ?_)
  · obtain ⟨a, b, c, rfl, _⟩ := h
    rfl
  obtain ⟨fe, t, es, rfl, hF, hT, k⟩ := h
  have hu := hu_of hr
  refine ⟨_, (pss_cons (ps_set (i := 2) sc_l_bent.nd rfl (Or.inl rfl) pe_dnewK)
      (pss_cons (ps_set (i := 3) sc_l_bent.nd rfl (Or.inl rfl) (cl D.l_draw hr (pa_cons (pv 0) (pa_cons (pe_op op_add (pe_callB call_lenD rfl T.n_len PySem.boot_len (pa_cons (pv 1) pa_nil)) pe_int) pa_nil))))
      (pss_cons (ps_thawS (ps_for PassesOwn.never rfl (pi_keysV (pv 1)) (pg_name (i := 4) sc_l_bent.nd rfl (Or.inl rfl))
      (pss_cons (ps_set (i := 5) sc_l_bent.nd rfl (Or.inl rfl) (pe_callTy call_list_of rfl T.n_list (by decide +kernel) (pa_cons (pe_dget hu (pv 1) (pv 4) (fun _ _ => rfl)) pa_nil)))
      (pss_cons (ps_if (pt_cmpR op_eq (pe_callB call_lenD rfl T.n_len PySem.boot_len (pa_cons (pv 2) pa_nil)) (pv 3) (nomark _)) (pss_cons (ps_set (i := 6) sc_l_bent.nd rfl (Or.inl rfl) (cl D.l_draw hr (pa_cons (pv 0) (pa_cons pe_int pa_nil))))
      (pss_cons (ps_set (i := 7) sc_l_bent.nd rfl (Or.inl rfl) (cl D.l_draw hr (pa_cons (pv 0) (pa_cons (pe_op op_add (pe_callB call_len rfl T.n_len PySem.boot_len (pa_cons (pv 5) pa_nil)) pe_int) pa_nil))))
      (pss_one (ps_if (pt_cmpR op_eq (pv 6) pe_int (nomark _)) (pss_one (ps_set (i := 5) sc_l_bent.nd rfl (Or.inl rfl) (pe_ix ix_list (pe_lst (pa_cons (pe_callTy call_tuple_of rfl T.n_tuple (by decide +kernel) (pa_cons (pv 5) pa_nil)) (pa_cons (cl D.l_odd hr (pa_cons (pv 0) pa_nil)) pa_nil))) (cl D.l_draw hr (pa_cons (pv 0) (pa_cons pe_int pa_nil))) (fun _ _ => rfl)))) (pss_one (ps_if (pt_cmpR op_lt (pv 6) pe_int (nomark _)) (pss_one (ps_set (i := 5) sc_l_bent.nd rfl (Or.inl rfl) (pe_op op_cat (pe_op op_cat (pe_slice sl_list (pv 5) po_none (po_some (pv 7))) (pe_lst (pa_cons (cl D.l_odd hr (pa_cons (pv 0) pa_nil)) pa_nil))) (pe_slice sl_list (pv 5) (po_some (pv 7)) po_none)))) (pss_one (ps_if (PW.pt (pw_and (pt_cmpR op_eq (pv 6) pe_int (nomark _)) (pw_and1 (pt_cmpR op_lt (pv 7) (pe_callB call_len rfl T.n_len PySem.boot_len (pa_cons (pv 5) pa_nil)) (nomark _))))) (pss_one (ps_asg (pe_op op_catA (pe_slice sl_tupA (pe_ix ix_list (pv 5) (pv 7) (fun _ _ => rfl)) (po_some pe_int) po_none) (pe_tup (pa_cons (cl D.l_odd hr (pa_cons (pv 0) pa_nil)) pa_nil))) (pg_sub (pv 5) (pv 7) set_list))) (pss_one (ps_if (pt_cmpR op_lt (pv 7) (pe_callB call_len rfl T.n_len PySem.boot_len (pa_cons (pv 5) pa_nil)) (nomark _)) (pss_one (ps_asg (pe_ix ix_list (pe_lst (pa_cons (pe_callTy call_list_of rfl T.n_list (by decide +kernel) (pa_cons (pe_ix ix_list (pv 5) (pv 7) (fun _ _ => rfl)) pa_nil)) (pa_cons (pe_op op_mulT (pe_ix ix_list (pv 5) (pv 7) (fun _ _ => rfl)) pe_int) (pa_cons (pe_ix ix_tup (pe_ix ix_list (pv 5) (pv 7) (fun _ _ => rfl)) pe_int (fun _ _ => rfl)) pa_nil)))) (cl D.l_draw hr (pa_cons (pv 0) (pa_cons pe_int pa_nil))) (fun _ _ => rfl)) (pg_sub (pv 5) (pv 7) set_list))) pss_nil)))))))))) pss_nil)
      (pss_one (ps_dput hu (pv 2) (pv 4) (pv 5) rfl))))))
      (pss_cons (ps_if (pt_cmpR op_eq (pv 3) (pe_callB call_lenD rfl T.n_len PySem.boot_len (pa_cons (pv 1) pa_nil)) (nomark _)) (pss_cons (ps_set (i := 4) sc_l_bent.nd rfl (Or.inl rfl) (pe_ix ix_list (pe_lst (pa_cons pe_str (pa_cons pe_str (pa_cons pe_str (pa_cons pe_str (pa_cons pe_int (pa_cons pe_non (pa_cons pe_bl (pa_cons (pe_tup (pa_cons pe_str pa_nil)) (pa_cons pe_str pa_nil)))))))))) (cl D.l_draw hr (pa_cons (pv 0) (pa_cons pe_int pa_nil))) (fun _ _ => rfl)))
      (pss_one (ps_dputX hr.units (pv 2) (pv 4) (pe_lst (pa_cons (pe_tup (pa_cons pe_str pa_nil)) pa_nil)) rfl))) pss_nil)
      (pss_one (ps_ret (pv 2))))))), ?_⟩
  obtain ⟨ntf, ht, hn, hl, ho⟩ := id hT
  intro d hd
  have nd := hF.nef hd
  have ndt : d ≠ t := (ne_of_none ht hd).symm
  have ht0 : upd H d (.dK []) t = some (.dK (es.map kvE)) := by rw [upd_ne ndt.symm]; exact ht
  have lkv : (es.map kvE).length = es.length := List.length_map _
  refine ⟨_, rfl, _, rfl, t, _, rfl, ht0, _, _, rfl, rfl, fe, _, rfl, hF.new hd _, by omega, by omega, fun at' H1 a0 a1 hF1 ex1 => ?_⟩
  have x1 : Ext fe H H1 := ((Ext.refl fe H).new hd _).trans ex1
  have hd1 : H1 d = some (.dK []) := ex1 _ _ nd upd_same
  have ht1 := x1 _ _ ntf ht
  have eS : ∃ S : List Addr, S = [fe, d, t] := ⟨_, rfl⟩
  obtain ⟨S, eS⟩ := eS
  have mf : fe ∈ S := by rw [eS]; simp
  have md : d ∈ S := by rw [eS]; simp
  have mt : t ∈ S := by rw [eS]; simp
  have inS : ∀ {b : Addr}, b ≠ fe → b ≠ d → b ≠ t → b ∉ S := fun h1 h2 h3 => by
    rw [eS]
    simp [h1, h2, h3]
  refine ⟨t, fun u v => (by rw [ht1]; exact fun z => nomatch z), _, rfl, t, _, _, rfl, ht1, .inl ⟨_, rfl, rfl⟩, fun o => ?_⟩
  refine for_keysV (fun i σ H2 => ∃ (x4 x5 x6 x7 : Option V) (l : List (Key × V)), σ = [some (.ref fe), some (.ref t), some (.ref d), some (.int at'), x4, x5, x6, x7] ∧ Feed K fe H2 ∧ (∀ b o, b ≠ fe → b ≠ t → H b = some o → H2 b = some o) ∧ H2 t = some (.frz o (.dK (es.map kvE))) ∧ H2 d = some (.dK l) ∧ l.map (·.1) = (es.take i).map (fun e => (Sum.inr e.nm : Key)) ∧ ∀ kv ∈ l, FrS S 100 H2 4 kv.2)
    ⟨none, none, none, none, [], rfl, hF1.dic ht1 ntf _, fun b o h1 h2 h => (by rw [upd_ne h2]; exact x1 _ _ h1 h), upd_same, (by rw [upd_ne ndt]; exact hd1), rfl, fun kv h => by cases h⟩ ?_ ?_ ?_
  · rintro i σ H2 hi ⟨x4, x5, x6, x7, l, rfl, hF2, x2, ht2, _⟩
    exact ht2
  · rintro i kv σ H2 hc ⟨x4, x5, x6, x7, l, rfl, hF2, x2, ht2, hd2, hk2, hv2⟩
    rw [List.map_map, List.getElem?_map] at hc
    obtain ⟨e, hce, rfl⟩ := Option.map_eq_some_iff.mp hc
    have he := List.mem_of_getElem? hce
    obtain ⟨hz, na, ha, hR, hg, hlr⟩ := ho e he
    have nat' : e.ad ≠ t := fun q => by rw [q, ht] at ha; cases ha
    have nad : e.ad ≠ d := fun q => by rw [q, hd] at ha; cases ha
    have ha2 := x2 _ _ na nat' ha
    have ly : e.ys.length = e.rows.length := hR.length
    have st2 : StandS S H2 := fun g hg => by
      rw [eS] at hg
      obtain ⟨a, ns, p, q, r, hf, _⟩ := hF2
      rcases List.mem_cons.mp hg with rfl | hg
      · exact ⟨_, hf⟩
      rcases List.mem_cons.mp hg with rfl | hg
      · exact ⟨_, hd2⟩
      · rw [List.mem_singleton.mp hg]
        exact ⟨_, ht2⟩
    have hR2 : RowsH fe H2 e.ys e.rows := Paired.mapP hR fun y r ⟨b, e1, nb, hb⟩ => ⟨b, e1, nb, x2 _ _ nb (fun q => by rw [q, ht] at hb; cases hb) hb⟩
    have rowS : ∀ {b : Addr} {r : List Str}, H2 b = some (.tup (r.map V.str)) → b ≠ fe → b ∉ S := fun hb nb => inS nb (fun q => by rw [q, hd2] at hb; cases hb) (fun q => by rw [q, ht2] at hb; cases hb)
    have itS : ∀ y ∈ e.ys, ∃ b r, y = .ref b ∧ b ≠ fe ∧ b ∉ S ∧ H2 b = some (.tup (r.map V.str)) ∧ GoodRow r := fun y hy => by
      obtain ⟨j, hj⟩ := List.mem_iff_getElem?.mp hy
      obtain ⟨r, hr, b, e1, nb, hb⟩ := Paired.at' hR2 hj
      exact ⟨b, r, e1, nb, rowS hb nb, hb, hg r (List.mem_of_getElem? hr)⟩
    have itT : ∀ {H' : Hp}, Ext fe H2 H' → ∀ y ∈ e.ys, ∀ g ∈ S, ∀ n, Th g 100 H' (n + 2) y := fun x y hy g hg n => by
      obtain ⟨b, r, rfl, nb, nS, hb, gr⟩ := itS y hy
      exact row_th (f := fe) (x _ _ nb hb) (fun q => nS (q ▸ hg)) gr
    have g : DGet H2 t (.str e.nm) (some (.ref e.ad)) := .inl ⟨es.map kvE, Sum.inr e.nm, .inr ⟨o, ht2⟩, rfl, (valV_en hn he).symm⟩
    refine seq_to fun R0 hR0 => ?_
    refine ⟨_, rfl, _, rfl, t, _, rfl, g, e.ad, e.ys, rfl, .inl (SqL.of ha2), fun rl hrl => ?_⟩
    have nrl := hF2.nef hrl
    have nrS := st2.nin hrl
    have hF3 := hF2.new hrl (.lst e.ys)
    have x3 : Ext fe H2 (upd H2 rl (.lst e.ys)) := (Ext.refl fe H2).new hrl _
    have hrl3 : upd H2 rl (.lst e.ys) rl = some (.lst e.ys) := upd_same
    generalize (upd H2 rl (.lst e.ys)) = H3 at hF3 x3 hrl3 ⊢
    refine hR0 _ _ ?_
    refine seq_to fun R hR => ?_
    have lie : i < es.length := (List.getElem?_eq_some_iff.mp hce).1
    have ll : l.length = i := by
      have := congrArg List.length hk2
      rw [List.length_map, List.length_map, List.length_take] at this
      omega
    have knew : (Sum.inr e.nm : Key) ∉ l.map (·.1) := fun q => by
      rw [hk2] at q
      obtain ⟨e', he', q'⟩ := List.mem_map.mp q
      have q' : e'.nm = e.nm := by injection q'
      obtain ⟨j, hj⟩ := List.mem_iff_getElem?.mp he'
      rw [List.getElem?_take] at hj
      split at hj
      next lt =>
        have li : i < (es.map (·.nm)).length := by rw [List.length_map]; exact lie
        have := (List.getElem?_inj (i := i) (j := j) li hn).mp (by rw [List.getElem?_map, List.getElem?_map, hce, hj]; exact congrArg some q'.symm)
        omega
      next => cases hj
    have store : ∀ (H5 : Hp) (v : V) (z6 z7 : Option V), Feed K fe H5 → Ext fe H2 H5 → FrS S 100 H5 4 v → R [some (V.ref fe), some (.ref t), some (.ref d), some (.int at'), some (.str e.nm), some v, z6, z7] H5 := by
      intro H5 v z6 z7 hF5 ex5 hv5
      have hd5 := ex5 _ _ nd hd2
      refine hR _ _ ⟨_, rfl, _, rfl, _, rfl, d, _, rfl, .inl ⟨l, Sum.inr e.nm, hd5, rfl, small1000 (by omega), rfl⟩, ?_⟩
      rw [put_new knew]
      have xS : ExtS S H5 (upd H5 d (.dK (l ++ [(Sum.inr e.nm, v)]))) := fun b o n h => by
        rw [upd_ne (show b ≠ d from fun q => n (by rw [q]; exact md))]
        exact h
      refine ⟨_, _, _, _, l ++ [(Sum.inr e.nm, v)], rfl, hF5.dic hd5 nd _, fun b o h1 h2 h => ?_, ?_, upd_same, ?_, fun kv hkv => ?_⟩
      · rw [upd_ne (fun q => by rw [q, hd] at h; cases h)]
        exact ex5 _ _ h1 (x2 _ _ h1 h2 h)
      · rw [upd_ne ndt.symm]
        exact ex5 _ _ ntf ht2
      · rw [List.map_append, hk2, List.take_add_one, hce, List.map_append]
        rfl
      · rcases List.mem_append.mp hkv with q | q
        · exact ((hv2 kv q).keep (ExtS.ext mf ex5)).keep xS
        · rw [List.mem_singleton.mp q]
          exact hv5.keep xS
    have lys : e.ys.length ≤ 7 := by omega
    have plain : ∀ {H5 : Hp}, Ext fe H2 H5 → H5 rl = some (.lst e.ys) → FrS S 100 H5 4 (.ref rl) := fun x h => frS_lst nrS h (by omega) fun y hy g hg => itT x y hy g hg 2
    refine ⟨_, rfl, d, l, rfl, x3 _ _ nd hd2, _, rfl, rfl, _, rfl, ?_⟩
    refine ite2 (fun c => ?_) (fun c => ?_)
    case refine_2 => exact store H3 _ _ _ hF3 x3 (plain x3 hrl3)
    refine ⟨_, rfl, fe, 5, rfl, hF3, by decide, by decide, fun wy H4 w0 w1 hF4 ex4 => ?_⟩
    have x4' := x3.trans ex4
    have hrl4 := ex4 _ _ nrl hrl3
    refine ⟨_, rfl, _, rfl, _, _, rfl, .inl ⟨_, SqL.of hrl4, rfl⟩, _, _, rfl, rfl, fe, _, rfl, hF4, by omega, by omega, fun kk H5 k0 k1 hF5 ex5 => ?_⟩
    have x5' := x4'.trans ex5
    have hrl5 := ex5 _ _ nrl hrl4
    have st5 : StandS S H5 := st2.ext x5' hF5
    refine ⟨_, rfl, rfl, _, rfl, ?_⟩
    refine ite2 (fun c0 => ?_) (fun c0 => ?_)
    · -- [tuple(rows), odd(feed)][draw(feed, 2)]
      refine ⟨_, rfl, _, _, rfl, .inl ⟨SqL.of hrl5, fun tp htp => ?_⟩⟩
      have s6 : Same H5 (upd H5 tp (.tup e.ys)) := same_new htp _
      have hF6 := hF5.new htp (.tup e.ys)
      have x6' : Ext fe H2 (upd H5 tp (.tup e.ys)) := x5'.trans (Ext.of s6)
      have st6 := st5.same s6
      have ht6 : FrS S 100 (upd H5 tp (.tup e.ys)) 4 (.ref tp) := frS_tup (st5.nin htp) upd_same (by omega) fun y hy g hg => itT x6' y hy g hg 1
      generalize (upd H5 tp (.tup e.ys)) = H6 at s6 hF6 x6' st6 ht6 ⊢
      refine ⟨_, rfl, fe, S, rfl, hF6, mf, st6, fun v H7 hF7 ex7 hv7 => ?_⟩
      refine ⟨(by show 2 ≤ sizeLine; decide), fun lp hlp => ?_⟩
      have nlp := hF7.nef hlp
      refine ⟨_, rfl, fe, 2, rfl, hF7.new hlp _, by decide, by decide, fun i8 H8 j0 j1 hF8 ex8 => ?_⟩
      have x78 : Ext fe H7 H8 := ((Ext.refl fe H7).new hlp _).trans ex8
      have x8' : Ext fe H2 H8 := (x6'.trans ex7).trans x78
      obtain ⟨u, hu8, ev⟩ := pick (xs := [V.ref tp, v]) j0 (by show i8 < 2; omega)
      refine ⟨_, _, _, _, rfl, rfl, SqL.of (ex8 _ _ nlp upd_same), ev, ?_⟩
      refine store H8 u _ _ hF8 x8' ?_
      rcases List.mem_cons.mp hu8 with rfl | hu8
      · exact ht6.keep (ExtS.ext mf (ex7.trans x78))
      · rw [List.mem_singleton.mp hu8]
        exact (hv7.keep (ExtS.ext mf x78)).up (by decide)
    · refine ⟨_, rfl, _, _, rfl, rfl, _, rfl, ?_⟩
      refine ite2 (fun c1 => ?_) (fun c1 => ?_)
      · -- rows[:k] + [odd(feed)] + rows[k:]
        refine ⟨_, rfl, _, rfl, _, rfl, rl, e.ys, rfl, SqL.of hrl5, fun p1 hp1 => ?_⟩
        have s6 : Same H5 (upd H5 p1 (.lst (cutV e.ys none (some kk)))) := same_new hp1 _
        have hF6 := hF5.new hp1 (.lst (cutV e.ys none (some kk)))
        have np1 := hF5.nef hp1
        have h61 : upd H5 p1 (.lst (cutV e.ys none (some kk))) p1 = some (.lst (cutV e.ys none (some kk))) := upd_same
        generalize (upd H5 p1 (.lst (cutV e.ys none (some kk)))) = H6 at s6 hF6 h61 ⊢
        have x6' := x5'.trans (Ext.of s6)
        refine ⟨_, rfl, fe, S, rfl, hF6, mf, st5.same s6, fun v H7 hF7 ex7 hv7 => ?_⟩
        have x7' := x6'.trans ex7
        have st7 := st2.ext x7' hF7
        refine ⟨(by show 1 ≤ sizeLine; decide), fun p2 hp2 => ?_⟩
        have s8 : Same H7 (upd H7 p2 (.lst [v])) := same_new hp2 _
        have hF8 := hF7.new hp2 (.lst [v])
        have h82 : upd H7 p2 (.lst [v]) p2 = some (.lst [v]) := upd_same
        have np2 := hF7.nef hp2
        generalize (upd H7 p2 (.lst [v])) = H8 at s8 hF8 h82 ⊢
        have l1 : (cutV e.ys none (some kk)).length ≤ e.ys.length := cutV_length _ _ _
        refine ⟨_, _, _, _, rfl, rfl, s8 _ _ (ex7 _ _ np1 h61), h82, Nat.le_of_lt (small1000 (by show _ + 1 ≤ 1000; omega)), fun p3 hp3 => ?_⟩
        have s9 : Same H8 (upd H8 p3 (.lst (cutV e.ys none (some kk) ++ [v]))) := same_new hp3 _
        have hF9 := hF8.new hp3 (.lst (cutV e.ys none (some kk) ++ [v]))
        have h93 : upd H8 p3 (.lst (cutV e.ys none (some kk) ++ [v])) p3 = some (.lst (cutV e.ys none (some kk) ++ [v])) := upd_same
        generalize (upd H8 p3 (.lst (cutV e.ys none (some kk) ++ [v]))) = H9 at s9 hF9 h93 ⊢
        have s79 := s8.trans s9
        have hrl9 := s79 _ _ (ex7 _ _ nrl (s6 _ _ hrl5))
        refine ⟨_, rfl, _, rfl, _, rfl, noPart ⟨rl, e.ys, rfl, SqL.of hrl9, fun p4 hp4 => ?_⟩⟩
        have s10 : Same H9 (upd H9 p4 (.lst (cutV e.ys (some kk) none))) := same_new hp4 _
        have hF10 := hF9.new hp4 (.lst (cutV e.ys (some kk) none))
        have h104 : upd H9 p4 (.lst (cutV e.ys (some kk) none)) p4 = some (.lst (cutV e.ys (some kk) none)) := upd_same
        generalize (upd H9 p4 (.lst (cutV e.ys (some kk) none))) = H10 at s10 hF10 h104 ⊢
        have l2 : (cutV e.ys (some kk) none).length ≤ e.ys.length := cutV_length _ _ _
        have lq : (cutV e.ys none (some kk) ++ [v]).length ≤ 8 := by rw [List.length_append]; show _ + 1 ≤ 8; omega
        refine ⟨_, _, _, _, rfl, rfl, s10 _ _ h93, h104, Nat.le_of_lt (small1000 (by omega)), fun p5 hp5 => ?_⟩
        have s11 : Same H10 (upd H10 p5 (.lst (cutV e.ys none (some kk) ++ [v] ++ cutV e.ys (some kk) none))) := same_new hp5 _
        have s711 := (s79.trans s10).trans s11
        have x11' : Ext fe H2 (upd H10 p5 (.lst (cutV e.ys none (some kk) ++ [v] ++ cutV e.ys (some kk) none))) := x7'.trans (Ext.of s711)
        refine store _ _ _ _ (hF10.new hp5 _) x11' (frS_lst ((st7.same (s79.trans s10)).nin hp5) upd_same (by rw [List.length_append]; omega) fun y hy g hg => ?_)
        rcases List.mem_append.mp hy with hy | hy
        · rcases List.mem_append.mp hy with hy | hy
          · exact itT x11' y (cut_mem hy) g hg 2
          · rw [List.mem_singleton.mp hy]
            exact (((hv7.keep (ExtS.of s711)) g hg).1).up (Nat.le_refl _) (by decide)
        · exact itT x11' y (cut_mem hy) g hg 2
      · -- the rows at k
        have kin : ∀ (h : kk < (e.ys.length : Int)), ∃ b r, e.ys[kk.toNat]? = some (.ref b) ∧ b ≠ fe ∧ b ∉ S ∧ H2 b = some (.tup (r.map V.str)) ∧ GoodRow r := fun h => by
          obtain ⟨y, hy⟩ : ∃ y, e.ys[kk.toNat]? = some y := ⟨_, List.getElem?_eq_getElem (by omega)⟩
          obtain ⟨b, r, rfl, q⟩ := itS y (List.mem_of_getElem? hy)
          exact ⟨b, r, hy, q⟩
        have ekk : kk = (kk.toNat : Int) := by omega
        have put : ∀ (H9 : Hp) (u : V) (z6 z7 : Option V), Feed K fe H9 → Ext fe H2 H9 → H9 rl = some (.lst e.ys) → (∀ g ∈ S, Th g 100 (upd H9 rl (.lst (e.ys.set kk.toNat u))) 4 u) → R [some (V.ref fe), some (.ref t), some (.ref d), some (.int at'), some (.str e.nm), some (.ref rl), z6, z7] (upd H9 rl (.lst (e.ys.set kk.toNat u))) := fun H9 u z6 z7 hF9 x9 hrl9 hu9 => by
          have x10 : Ext fe H2 (upd H9 rl (.lst (e.ys.set kk.toNat u))) := x9.own hrl _
          refine store _ _ _ _ (hF9.lst hrl9 nrl _) x10 (frS_lst nrS upd_same (by rw [List.length_set]; omega) fun y hy g hg => ?_)
          rcases List.mem_or_eq_of_mem_set hy with hy | rfl
          · exact itT x10 y hy g hg 2
          · exact hu9 g hg
        refine ⟨_, rfl, rfl, _, rfl, ?_⟩
        refine ite2 (fun c2 => ?_) (fun c2 => ?_)
        · refine ⟨_, rfl, _, rfl, _, _, rfl, .inl ⟨_, SqL.of hrl5, rfl⟩, _, _, rfl, rfl, _, rfl, ?_⟩
          refine ite2 (fun c3 => ?_) (fun c3 => ?_)
          · -- rows[k] = rows[k][1:] + (odd(feed),)
            obtain ⟨b, r, hy, nb, nbS, hb, gr⟩ := kin (of_decide_eq_true c3)
            have ea : atI e.ys kk = some (.ref b) := by rw [ekk]; exact atI_nat hy
            have lr : (r.map V.str).length ≤ 4 := by rw [List.length_map]; exact gr.2.1
            refine ⟨_, rfl, _, rfl, _, _, _, _, rfl, rfl, SqL.of hrl5, ea, _, rfl, noPart (rdS_cut st5 nbS (x5' _ _ nb hb) fun p1 ys1 H6 s6 np1 h61 e1 => ?_)⟩
            have hF6 := feed_same hF5 s6
            have hrl6 := s6 _ _ hrl5
            have st6 : StandS (rl :: S) H6 := fun g hg => by
              rcases List.mem_cons.mp hg with rfl | hg
              · exact ⟨_, hrl6⟩
              · exact st5.same s6 g hg
            refine ⟨_, rfl, fe, rl :: S, rfl, hF6, List.mem_cons_of_mem _ mf, st6, fun v H7 hF7 ex7 hv7 => ?_⟩
            have p1f : p1 ≠ fe := fun q => np1 (q ▸ mf)
            refine ⟨(by show 1 ≤ sizeLine; decide), fun p2 hp2 => ?_⟩
            have st7 := st6.ext ex7 hF7
            have s8 : Same H7 (upd H7 p2 (.tup [v])) := same_new hp2 _
            have hF8 := hF7.new hp2 (.tup [v])
            have h82 : upd H7 p2 (.tup [v]) p2 = some (.tup [v]) := upd_same
            have np2 : p2 ∉ S := fun q => st7.nin hp2 (List.mem_cons_of_mem _ q)
            have st8 : StandS S (upd H7 p2 (.tup [v])) := fun g hg => (st7.same s8) g (List.mem_cons_of_mem _ hg)
            generalize (upd H7 p2 (.tup [v])) = H8 at s8 hF8 h82 st8 ⊢
            have l1 : ys1.length ≤ 4 := by rw [e1]; exact Nat.le_trans (cutV_length _ _ _) lr
            refine rdS_cat st8 np1 np2 (s8 _ _ (ex7 _ _ p1f h61)) h82 (by show _ + 1 ≤ 1000; omega) fun p3 H9 s9 np3 h93 => ?_
            have hrl9 := s9 _ _ (s8 _ _ (ex7 _ _ nrl hrl6))
            refine ⟨_, rfl, _, rfl, rl, _, _, _, rfl, rfl, hrl9, ixN_nat (by have := of_decide_eq_true c3; omega) ekk, ?_⟩
            have xr : ∀ o : HO, ExtS (rl :: S) H7 (upd H9 rl o) := fun o b u n h => by
              rw [upd_ne (show b ≠ rl from fun q => n (by rw [q]; exact List.mem_cons_self))]
              exact s9 _ _ (s8 _ _ h)
            refine put H9 (.ref p3) _ _ (feed_same hF8 s9) ((((x5'.trans (Ext.of s6)).trans ex7).trans (Ext.of s8)).trans (Ext.of s9)) hrl9 fun g hg => ?_
            have n3r : p3 ≠ rl := fun q => by rw [q, hrl9] at h93; cases h93
            refine Th.tup (fun q => np3 (q ▸ hg)) (by rw [upd_ne n3r]; exact h93) (by rw [List.length_append]; show _ + 1 ≤ 100; omega) fun x hx => ?_
            rcases List.mem_append.mp hx with hx | hx
            · rw [e1] at hx
              obtain ⟨z, hz, rfl⟩ := List.mem_map.mp (cut_mem hx)
              exact Th.str (pool_is (List.mem_append_right _ (gr.2.2 z hz))).2.2
            · rw [List.mem_singleton.mp hx]
              exact ((hv7.keep (xr _)) g (List.mem_cons_of_mem _ hg)).1
          · refine ⟨_, rfl, _, rfl, _, _, rfl, .inl ⟨_, SqL.of hrl5, rfl⟩, _, _, rfl, rfl, _, rfl, ?_⟩
            refine ite2 (fun c4 => absurd c4 c3) (fun c4 => ?_)
            exact store H5 _ _ _ hF5 x5' (plain x5' hrl5)
        · refine iteF ?_
          refine ⟨_, rfl, _, rfl, _, _, rfl, .inl ⟨_, SqL.of hrl5, rfl⟩, _, _, rfl, rfl, _, rfl, ?_⟩
          refine ite2 (fun c3 => ?_) (fun c3 => ?_)
          · -- rows[k] = [list(rows[k]), rows[k] * 3, rows[k][0]][draw(feed, 3)]
            obtain ⟨b, r, hy, nb, nbS, hb, gr⟩ := kin (of_decide_eq_true c3)
            have ea : atI e.ys kk = some (.ref b) := by rw [ekk]; exact atI_nat hy
            have hb5 := x5' _ _ nb hb
            have lr : (r.map V.str).length = r.length := List.length_map _
            obtain ⟨g1, g2, g3⟩ := id gr
            have strT : ∀ {H' : Hp} {g : Addr} {n : Nat}, ∀ x ∈ r.map V.str, Th g 100 H' (n + 1) x := fun x hx => by
              obtain ⟨z, hz, rfl⟩ := List.mem_map.mp hx
              exact Th.str (pool_is (List.mem_append_right _ (g3 z hz))).2.2
            refine ⟨_, rfl, _, rfl, _, _, _, _, rfl, rfl, SqL.of hrl5, ea, b, _, rfl, .inr (SqT.of hb5), fun p1 hp1 => ?_⟩
            have s6 : Same H5 (upd H5 p1 (.lst (r.map V.str))) := same_new hp1 _
            have hF6 := hF5.new hp1 (.lst (r.map V.str))
            have h61 : upd H5 p1 (.lst (r.map V.str)) p1 = some (.lst (r.map V.str)) := upd_same
            have np1 := st5.nin hp1
            have n1r : p1 ≠ rl := (ne_of_none hrl5 hp1).symm
            generalize (upd H5 p1 (.lst (r.map V.str))) = H6 at s6 hF6 h61 ⊢
            refine ⟨_, rfl, _, rfl, _, _, _, _, rfl, rfl, SqL.of (s6 _ _ hrl5), ea, b, 3, r.map V.str, rfl, rfl, SqT.of (s6 _ _ hb5), (fun q => by rw [q] at lr; simp at lr; omega), by decide, by decide, by omega, fun p2 hp2 => ?_⟩
            have s7 : Same H6 (upd H6 p2 (.tup (List.replicate (3 : Int).toNat (r.map V.str)).flatten)) := same_new hp2 _
            have hF7 := hF6.new hp2 (.tup (List.replicate (3 : Int).toNat (r.map V.str)).flatten)
            have h72 : upd H6 p2 (.tup (List.replicate (3 : Int).toNat (r.map V.str)).flatten) p2 = some (.tup (List.replicate (3 : Int).toNat (r.map V.str)).flatten) := upd_same
            have np2 := (st5.same s6).nin hp2
            generalize (upd H6 p2 (.tup (List.replicate (3 : Int).toNat (r.map V.str)).flatten)) = H7 at s7 hF7 h72 ⊢
            have s57 := s6.trans s7
            obtain ⟨z0, hz0⟩ : ∃ z0, r[0]? = some z0 := ⟨_, List.getElem?_eq_getElem (by omega)⟩
            have e0 : atI (r.map V.str) 0 = some (.str z0) := atI_nat (j := 0) (by rw [List.getElem?_map, hz0]; rfl)
            refine ⟨_, rfl, _, rfl, _, _, _, _, rfl, rfl, SqL.of (s57 _ _ hrl5), ea, _, _, _, _, rfl, rfl, SqT.of (s57 _ _ hb5), e0, ?_⟩
            refine ⟨(by show 3 ≤ sizeLine; decide), fun p3 hp3 => ?_⟩
            have np3 := hF7.nef hp3
            refine ⟨_, rfl, fe, 3, rfl, hF7.new hp3 _, by decide, by decide, fun i8 H8 j0 j1 hF8 ex8 => ?_⟩
            have x78 : Ext fe H7 H8 := ((Ext.refl fe H7).new hp3 _).trans ex8
            obtain ⟨u, hu8, ev⟩ := pick (xs := [V.ref p1, V.ref p2, .str z0]) j0 (by show i8 < 3; omega)
            have hrl8 := x78 _ _ nrl (s57 _ _ hrl5)
            refine ⟨_, _, _, _, rfl, rfl, SqL.of (ex8 _ _ np3 upd_same), ev, ?_⟩
            refine ⟨_, rfl, _, rfl, rl, _, _, _, rfl, rfl, hrl8, ixN_nat (by have := of_decide_eq_true c3; omega) ekk, ?_⟩
            refine put H8 u _ _ hF8 ((x5'.trans (Ext.of s57)).trans x78) hrl8 fun g hg => ?_
            rcases List.mem_cons.mp hu8 with rfl | hu8
            · exact Th.lst (xs := r.map V.str) (fun q => np1 (q ▸ hg)) (by rw [upd_ne n1r]; exact x78 _ _ (fun q => np1 (q ▸ mf)) (s7 _ _ h61))
            rcases List.mem_cons.mp hu8 with rfl | hu8
            · have h82 := x78 _ _ (show p2 ≠ fe from fun q => np2 (by rw [q]; exact mf)) h72
              have n2r : p2 ≠ rl := fun q => by rw [q, hrl8] at h82; cases h82
              refine Th.tup (fun q => np2 (q ▸ hg)) (by rw [upd_ne n2r]; exact h82) ?_ fun x hx => ?_
              · show ((r.map V.str) ++ ((r.map V.str) ++ ((r.map V.str) ++ []))).length ≤ 100
                simp only [List.length_append, List.length_nil]
                omega
              · have hx : x ∈ (r.map V.str) ++ ((r.map V.str) ++ ((r.map V.str) ++ [])) := hx
                simp only [List.mem_append, List.not_mem_nil, or_false, or_self] at hx
                exact strT x hx
            · rw [List.mem_singleton.mp hu8]
              exact Th.str (pool_is (List.mem_append_right _ (g3 z0 (List.mem_of_getElem? hz0)))).2.2
          · exact store H5 _ _ _ hF5 x5' (plain x5' hrl5)
  · rintro σ H2 ⟨x4, x5, x6, x7, l, rfl, hF2, x2, ht2, hd2, hk2, hv2⟩
    refine ⟨o, _, ht2, ?_⟩
    have ht3 : upd H2 t (.dK (es.map kvE)) t = some (.dK (es.map kvE)) := upd_same
    have hd3 : upd H2 t (.dK (es.map kvE)) d = some (.dK l) := by rw [upd_ne ndt]; exact hd2
    have x3 : Ext fe H (upd H2 t (.dK (es.map kvE))) := fun b u h1 h => by
      by_cases q : b = t
      · subst q
        rw [upd_same, ← h, ht]
      · rw [upd_ne q]
        exact x2 _ _ h1 q h
    have hF3 : Feed K fe (upd H2 t (.dK (es.map kvE))) := feed_frz hF2 ht2 ntf _
    have hv3 : ∀ kv ∈ l, FrS S 100 (upd H2 t (.dK (es.map kvE))) 4 kv.2 := fun kv hkv => (hv2 kv hkv).keep fun b u n h => by
      rw [upd_ne (show b ≠ t from fun q => n (by rw [q]; exact mt))]
      exact h
    have hk3 : l.map (·.1) = (es.map (·.nm)).map (Sum.inr : Str → Key) := by
      rw [hk2, List.length_map, lkv, List.take_length, List.map_map]
      rfl
    have ll : l.length = es.length := by
      have := congrArg List.length hk3
      rw [List.length_map, List.length_map, List.length_map] at this
      exact this
    have keyS : ∀ p ∈ l, ∃ z, p.1 = Sum.inr z ∧ PyData.strOk z = true ∧ z.length ≤ 100 := fun p hp => by
      have : p.1 ∈ l.map (·.1) := List.mem_map_of_mem hp
      rw [hk3] at this
      obtain ⟨z, hz, e1⟩ := List.mem_map.mp this
      obtain ⟨e, he, rfl⟩ := List.mem_map.mp hz
      have := pool_is (List.mem_append_left valuesPool (ho e he).1)
      exact ⟨e.nm, e1.symm, this.1, this.2.2⟩
    have ndl : (l.map (·.1)).Nodup := by rw [hk3]; exact nodup_inr.mpr hn
    generalize (upd H2 t (.dK (es.map kvE))) = H3 at ht3 hd3 x3 hF3 hv3 ⊢
    have ents : ∀ {H' : Hp} {l' : List (Key × V)}, (∀ p ∈ l', Th d 100 H' 4 (kV p.1) ∧ FrS S 100 H' 4 p.2) → ∀ kv ∈ l'.map (fun p => (kV p.1, p.2)), Th d 100 H' 4 kv.1 ∧ ThL d 100 H' 4 kv.2 := fun h kv hkv => by
      obtain ⟨p, hp, rfl⟩ := List.mem_map.mp hkv
      exact ⟨(h p hp).1, (h p hp).2 d md⟩
    have keyT : ∀ {H' : Hp}, ∀ p ∈ l, Th d 100 H' 4 (kV p.1) := fun p hp => by
      obtain ⟨z, e1, _, hz⟩ := keyS p hp
      rw [e1]
      exact Th.str hz
    refine ⟨_, rfl, _, rfl, t, _, rfl, ht3, rfl, _, rfl, ?_⟩
    refine ite2 (fun c => ?_) (fun c => ?_)
    case refine_2 => exact ⟨_, rfl, k d _ l _ H3 hF3 x3 ⟨hd3, .inl ⟨rfl, rfl⟩, ndl, by rw [List.length_map]; omega, ents fun p hp => ⟨keyT p hp, hv3 p hp⟩⟩⟩
    have st3 : StandS S H3 := fun g hg => by
      rw [eS] at hg
      obtain ⟨a, ns, p, q, r, hf, _⟩ := hF3
      rcases List.mem_cons.mp hg with rfl | hg
      · exact ⟨_, hf⟩
      rcases List.mem_cons.mp hg with rfl | hg
      · exact ⟨_, hd3⟩
      · rw [List.mem_singleton.mp hg]
        exact ⟨_, ht3⟩
    refine ⟨(by show 1 ≤ sizeLine; decide), fun tp htp => ?_⟩
    have s4 : Same H3 (upd H3 tp (.tup [.str "a"])) := same_new htp _
    have hF4 := hF3.new htp (.tup [.str "a"])
    have h4 : upd H3 tp (.tup [.str "a"]) tp = some (.tup [.str "a"]) := upd_same
    have ntp := st3.nin htp
    have ntf := hF3.nef htp
    generalize (upd H3 tp (.tup [.str "a"])) = H4 at s4 hF4 h4 ⊢
    refine ⟨(by show 9 ≤ sizeLine; decide), fun lp hlp => ?_⟩
    have nlp := hF4.nef hlp
    refine ⟨_, rfl, fe, 9, rfl, hF4.new hlp _, by decide, by decide, fun i8 H8 j0 j1 hF8 ex8 => ?_⟩
    have x48 : Ext fe H4 H8 := ((Ext.refl fe H4).new hlp _).trans ex8
    have x38 : Ext fe H3 H8 := (Ext.of s4).trans x48
    obtain ⟨y, hy, ev⟩ := pick (xs := [V.str "", .str "abcdefghi", .str "A", .str "?x", .int 7, .non, .bl true, .ref tp, .str "zz"]) j0 (by show i8 < 9; omega)
    refine ⟨_, _, _, _, rfl, rfl, SqL.of (ex8 _ _ nlp upd_same), ev, ?_⟩
    have st8 : StandS S H8 := st3.ext x38 hF8
    refine ⟨(by show 1 ≤ sizeLine; decide), fun q1 g1 => ?_⟩
    have s9 : Same H8 (upd H8 q1 (.tup [.str "a"])) := same_new g1 _
    have hF9 := hF8.new g1 (.tup [.str "a"])
    have st9 := st8.same s9
    have t9 : ∀ g ∈ S, Th g 100 (upd H8 q1 (.tup [.str "a"])) 4 (.ref q1) := fun g hg => Th.tup (n := 3) (fun q => st8.nin g1 (q ▸ hg)) upd_same (by decide) fun x hx => by
      rw [List.mem_singleton.mp hx]
      exact Th.str (by decide +kernel)
    generalize (upd H8 q1 (.tup [.str "a"])) = H9 at s9 hF9 st9 t9 ⊢
    refine ⟨(by show 1 ≤ sizeLine; decide), fun q2 g2 => ?_⟩
    have s10 : Same H9 (upd H9 q2 (.lst [.ref q1])) := same_new g2 _
    have hF10 := hF9.new g2 (.lst [.ref q1])
    have v10 : FrS S 100 (upd H9 q2 (.lst [.ref q1])) 4 (.ref q2) := frS_lst (st9.nin g2) upd_same (by show 1 ≤ 100; decide) fun x hx g hg => by
      rw [List.mem_singleton.mp hx]
      exact (t9 g hg).keep (Ext.of (same_new g2 _))
    generalize (upd H9 q2 (.lst [.ref q1])) = H10 at s10 hF10 v10 ⊢
    have s810 := s9.trans s10
    have x310 : Ext fe H3 H10 := x38.trans (Ext.of s810)
    have hd10 := x310 _ _ nd hd3
    have hl10 : ∀ p ∈ l, FrS S 100 H10 4 p.2 := fun p hp => (hv3 p hp).keep (ExtS.ext mf x310)
    have tp10 : H10 tp = some (.tup [.str "a"]) := s810 _ _ (x48 _ _ ntf h4)
    have xd : ∀ u : HO, ExtS S H10 (upd H10 d u) := fun u b o n h => by
      rw [upd_ne (show b ≠ d from fun q => n (by rw [q]; exact md))]
      exact h
    have xf : ∀ u : HO, Ext fe H (upd H10 d u) := fun u => (x3.trans x310).own hd u
    have leafK : ∀ kx : Key, Th d 100 (upd H10 d (.dK (putK l kx (.ref q2)))) 4 (kV kx) → Q (.ref d) (upd H10 d (.dK (putK l kx (.ref q2)))) := fun kx hkx => by
      refine k d _ (putK l kx (.ref q2)) _ _ (hF10.dic hd10 nd _) (xf _) ⟨upd_same, .inl ⟨rfl, rfl⟩, putK_nodup ndl, ?_, ents fun p hp => ?_⟩
      · rw [List.length_map]
        have := putK_len (kvs := l) (k := kx) (v := V.ref q2)
        omega
      · rcases putK_mem hp with q | rfl
        · exact ⟨keyT p q, (hl10 p q).keep (xd _)⟩
        · exact ⟨hkx, v10.keep (xd _)⟩
    have leafX : ∀ y : V, OddV K H10 y → (∀ u : HO, OddV K (upd H10 d u) y) → (∀ u : HO, Th d 100 (upd H10 d u) 4 y) → Q (.ref d) (upd H10 d (.ext (DX P w d l y (.ref q2)))) := fun y hy1 hy2 hy3 => by
      refine k d _ l _ _ (hF10.dic hd10 nd _) (xf _) ⟨upd_same, .inr ⟨y, .ref q2, rfl, rfl, fun p hp => ?_, hy2 _⟩, ndl, ?_, fun kv hkv => ?_⟩
      · obtain ⟨z, e1, e2, _⟩ := keyS p hp
        exact ⟨z, e1, e2⟩
      · rw [List.length_append, List.length_map]
        show l.length + 1 ≤ 100
        omega
      · rcases List.mem_append.mp hkv with q | q
        · exact ents (fun p hp => ⟨keyT p hp, (hl10 p hp).keep (xd _)⟩) kv q
        · rw [List.mem_singleton.mp q]
          exact ⟨hy3 _, (v10.keep (xd _)) d md⟩
    have tkl : TextKeys l := fun p hp => by
      obtain ⟨z, e1, e2, _⟩ := keyS p hp
      exact ⟨z, e1, e2⟩
    have putT : ∀ z : Str, z.length ≤ 100 → y = .str z → ((∃ H4, DPut H10 d y (.ref q2) H4 ∧ Q (.ref d) H4) ∨ ∃ kvs, H10 d = some (.dK kvs) ∧ TextKeys kvs ∧ kvs.length ≤ 1000 ∧ OddV K H10 y ∧ Q (.ref d) (upd H10 d (.ext (DX P w d kvs y (.ref q2))))) := fun z hz e1 =>
      .inl ⟨_, .inl ⟨l, Sum.inr z, hd10, e1, small1000 (by omega), rfl⟩, leafK (Sum.inr z) (Th.str hz)⟩
    have putX : OddV K H10 y → (∀ u : HO, OddV K (upd H10 d u) y) → (∀ u : HO, Th d 100 (upd H10 d u) 4 y) → ((∃ H4, DPut H10 d y (.ref q2) H4 ∧ Q (.ref d) H4) ∨ ∃ kvs, H10 d = some (.dK kvs) ∧ TextKeys kvs ∧ kvs.length ≤ 1000 ∧ OddV K H10 y ∧ Q (.ref d) (upd H10 d (.ext (DX P w d kvs y (.ref q2))))) := fun h1 h2 h3 =>
      .inr ⟨l, hd10, tkl, by omega, h1, leafX y h1 h2 h3⟩
    have all : ((∃ H4, DPut H10 d y (.ref q2) H4 ∧ Q (.ref d) H4) ∨ ∃ kvs, H10 d = some (.dK kvs) ∧ TextKeys kvs ∧ kvs.length ≤ 1000 ∧ OddV K H10 y ∧ Q (.ref d) (upd H10 d (.ext (DX P w d kvs y (.ref q2))))) := by
      rcases List.mem_cons.mp hy with e1 | hy
      · exact putT _ (by decide +kernel) e1
      rcases List.mem_cons.mp hy with e1 | hy
      · exact putT _ (by decide +kernel) e1
      rcases List.mem_cons.mp hy with e1 | hy
      · exact putT _ (by decide +kernel) e1
      rcases List.mem_cons.mp hy with e1 | hy
      · exact putT _ (by decide +kernel) e1
      rcases List.mem_cons.mp hy with e1 | hy
      · exact .inl ⟨_, .inl ⟨l, Sum.inl 7, hd10, e1, small1000 (by omega), rfl⟩, leafK (Sum.inl 7) Th.int⟩
      rcases List.mem_cons.mp hy with e1 | hy
      · exact putX (.inl e1) (fun _ => .inl e1) (fun _ => by rw [e1]; exact Th.non)
      rcases List.mem_cons.mp hy with e1 | hy
      · exact putX (.inr (.inl e1)) (fun _ => .inr (.inl e1)) (fun _ => by rw [e1]; exact Th.bl)
      rcases List.mem_cons.mp hy with e1 | hy
      · have ntd : tp ≠ d := fun q => ntp (q ▸ md)
        have sk : ∀ z ∈ (["a"] : List Str), PyData.strOk z = true := by decide +kernel
        have hu' : ∀ u : HO, upd H10 d u tp = some (.tup ((["a"] : List Str).map V.str)) := fun u => by rw [upd_ne ntd]; exact tp10
        refine putX (.inr (.inr ⟨tp, ["a"], e1, SqT.of tp10, sk⟩)) (fun u => .inr (.inr ⟨tp, ["a"], e1, SqT.of (hu' u), sk⟩)) fun u => ?_
        rw [e1]
        exact Th.tup ntd (hu' u) (by decide) fun x hx => by
          obtain ⟨z, hz, rfl⟩ := List.mem_map.mp hx
          rw [List.mem_singleton.mp hz]
          exact Th.str (by decide +kernel)
      · exact putT _ (by decide +kernel) (List.mem_singleton.mp hy)
    refine ⟨_, rfl, _, rfl, d, rfl, ?_⟩
    rcases all with ⟨H4', hp4, q4⟩ | ⟨kvs, h1, h2, h3, h4', q4⟩
    · exact .inl ⟨H4', hp4, _, rfl, q4⟩
    · exact .inr ⟨kvs, h1, h2, h3, h4', _, rfl, q4⟩
structure Dt5 (P : Program) (w : World) (K : PySem.W.Frag) (mg : Str → Option Value) (base : Heap) : Prop where
  l_bent : DefOk P w K mg base 3 "_law_bent" ["_law_feed_here", "_law_tables_here"] (spBentT P w K)
end
end K05

set_option Elab.async false
set_option linter.all false
set_option maxRecDepth 100000
set_option maxHeartbeats 4000000
namespace K05
open PySem PySem.Spec PyProof.Rows L2 Srt
seal L2.PE L2.PT L2.PW L2.PA L2.PS L2.PSs L2.PI L2.PO L2.PPs L2.PG L2.PGs
section
variable {P : Program} {w : World} {K : PySem.W.Frag} {mg : Str → Option Value} {base : Heap}
theorem all_filter {α : Type} (g : α → Bool) (l : List α) : (l.filter fun c => !g c).isEmpty = (l.map g).all id := by
  induction l with
  | nil => rfl
  | cons a r ih =>
    rw [List.filter_cons, List.map_cons, List.all_cons, ← ih]
    cases g a <;> rfl
theorem filter_take {α : Type} {g : α → Bool} {l : List α} {i : Nat} {x : α} (h : l[i]? = some x) : (l.take (i + 1)).filter g = (l.take i).filter g ++ (if g x = true then [x] else []) := by
  rw [List.take_add_one, h, List.filter_append]
  show _ ++ [x].filter g = _
  rw [List.filter_cons, List.filter_nil]
theorem isEmpty_map {α β : Type} (g : α → β) (l : List α) : (l.map g).isEmpty = l.isEmpty := by cases l <;> rfl
theorem sc_l_word : FnScope ["_law_thing"] ["_law_thing"] (defScope s_l_word) := ⟨rfl, rfl, rfl, by decide +kernel, rfl, by decide +kernel, by decide +kernel⟩
theorem ok_word {f : Addr} {fd : FuncData} (F : Fun K "_law_word" "_law_word" s_l_word f fd) (T : Txt K mg) : FnOk P w K mg base CX0 1 f fd ["_law_thing"] (spIs fun _ v => valB v) := by
  refine F.ok sc_l_word (fun vs H Q E h => ?_) (fun cdv A outer s H vs Q E hr h => ?_)
  · obtain ⟨a, b, c, d, rfl, _⟩ := h
    rfl
  obtain ⟨fe, m, n, v, rfl, hv, hm, k⟩ := h
  have k : ∀ H', Same H H' → Q (.bl (valB v)) H' := k
  refine ⟨_, (pss_cons (ps_if (PW.pt (pw_or (pt_not (pt_val (pe_callB call_isinst rfl T.n_isinstance (by decide +kernel) (pa_cons (pv 0) (pa_cons (pe_ty (n := "str") rfl T.n_str (by decide +kernel)) pa_nil))))) (pw_or (pt_cmpR op_lt (pe_callB call_len rfl T.n_len PySem.boot_len (pa_cons (pv 0) pa_nil)) pe_int (nomark _)) (pw_or1 (pt_cmpR op_gt (pe_callB call_len rfl T.n_len PySem.boot_len (pa_cons (pv 0) pa_nil)) pe_int (nomark _)))))) (pss_one (ps_ret pe_bl)) pss_nil)
      (pss_one (ps_ret (pe_cmpR (op_eqN hr.units0) (pe_compIf rfl (compSc_mk (fs := []) (fr := [])) (pi_str (pv 0)) (fun _ _ _ _ => (pt_cmpR op_notIn_str (pv 0) pe_str (by with_unfolding_all rfl))) (fun _ _ _ _ => (pv 0))) (pe_lst pa_nil) (nomark _))))), ?_⟩
  obtain ⟨t, ty, e1, e2⟩ := ty_of (K := K) hv
  refine ⟨_, rfl, _, _, _, _, rfl, ty, e1, _, rfl, ?_⟩
  by_cases hs : isStr v = true
  · obtain ⟨z, rfl, hz⟩ := hv.isStr hs
    have hz' : z.length ≤ sizeLine := Nat.le_of_lt (small1000 (by omega))
    have q := k H (Same.refl H)
    refine iteF ?_
    refine ⟨_, rfl, _, _, rfl, ⟨hz', rfl⟩, _, _, rfl, rfl, _, rfl, ?_⟩
    refine ite2 (fun c1 => ?_) (fun c1 => ?_)
    · have ev : valB (.str z) = false := by
        have c1 := of_decide_eq_true c1
        show isVal z = false
        unfold isVal
        rw [decide_eq_false (by omega), Bool.false_and]
      rw [ev] at q
      exact iteT q
    · refine ⟨_, rfl, _, _, rfl, ⟨hz', rfl⟩, _, _, rfl, rfl, _, rfl, ?_⟩
      refine ite2 (fun c2 => ?_) (fun c2 => ?_)
      · have ev : valB (.str z) = false := by
          have c2 := of_decide_eq_true c2
          show isVal z = false
          unfold isVal
          rw [decide_eq_false (p := (z.length : Int) ≤ 8) (by omega), Bool.false_and, Bool.and_false]
        rw [ev] at q
        exact q
      · have d1 : ¬ ((z.length : Int) < 1) := fun h => c1 (decide_eq_true h)
        have d2 : ¬ ((z.length : Int) > 8) := fun h => c2 (decide_eq_true h)
        have ev : valB (.str z) = (z.cps.toList.map sgn).all id := by
          show isVal z = _
          unfold isVal
          rw [decide_eq_true (by omega), decide_eq_true (by omega), Bool.true_and, Bool.true_and]
        refine ⟨_, rfl, _, rfl, comp_str (fun i ys H2 => H2 = H ∧ i ≤ z.cps.size ∧ ys = ((z.cps.toList.take i).filter fun c => !sgn c).map fun c => V.str ⟨#[c]⟩) (small1000 (show z.length ≤ 1000 by omega)) ⟨rfl, Nat.zero_le _, rfl⟩ ?_ ?_ ?_⟩
        · rintro i ys H2 hi ⟨rfl, _, rfl⟩
          rw [List.length_map]
          refine Nat.le_trans (List.length_filter_le _ _) ?_
          rw [List.length_take]
          omega
        · rintro i c ys H2 N hc ⟨rfl, hi, rfl⟩ hN
          have hlt : i < z.cps.size := (Array.getElem?_eq_some_iff.mp hc).1
          have hc' : z.cps.toList[i]? = some c := by simpa using hc
          refine ⟨_, rfl, _, _, rfl, rfl, _, rfl, ?_⟩
          refine ite2 (fun c3 => ?_) (fun c3 => ?_)
          · refine ⟨_, rfl, hN _ _ ⟨rfl, hlt, ?_⟩⟩
            have c3 : (!sgn c) = true := c3
            rw [filter_take hc', if_pos c3, List.map_append]
            rfl
          · refine hN _ _ ⟨rfl, hlt, ?_⟩
            have c3 : ¬ (!sgn c) = true := c3
            rw [filter_take hc', if_neg c3, List.append_nil]
        · rintro ys H2 ⟨rfl, _, rfl⟩ l hl'
          have et : z.cps.toList.take z.cps.size = z.cps.toList := List.take_of_length_le (by simp)
          rw [et]
          refine ⟨(by show 0 ≤ sizeLine; decide), fun l2 hl2 => ?_⟩
          refine ⟨_, _, _, rfl, rfl, SqL.of (by rw [upd_ne (ne_of_none upd_same hl2)]; exact upd_same), SqL.of upd_same, ?_⟩
          have q := k _ ((same_new hl' _).trans (same_new hl2 (.lst [])))
          rw [ev, ← all_filter, ← isEmpty_map (fun c => V.str ⟨#[c]⟩)] at q
          exact q
  · have q := k H (Same.refl H)
    rw [valB_no hs] at q
    rw [Bool.eq_false_iff.mpr hs]
    exact iteT (iteT q)
structure Lw (P : Program) (w : World) (K : PySem.W.Frag) (mg : Str → Option Value) (base : Heap) : Prop where
  l_word : DefOk P w K mg base 1 "_law_word" ["_law_thing"] (spIs fun _ v => valB v)
theorem sc_l_row : FnScope ["_law_thing"] ["_law_thing"] (defScope s_l_row) := ⟨rfl, rfl, rfl, by decide +kernel, rfl, by decide +kernel, by decide +kernel⟩
theorem ok_row {f : Addr} {fd : FuncData} (F : Fun K "_law_row" "_law_row" s_l_row f fd) (T : Txt K mg) (D : Lw P w K mg base) : FnOk P w K mg base CX0 2 f fd ["_law_thing"] (spIs rowB) := by
  refine F.ok sc_l_row (fun vs H Q E h => ?_) (fun cdv A outer s H vs Q E hr h => ?_)
  · obtain ⟨a, b, c, d, rfl, _⟩ := h
    rfl
  obtain ⟨fe, m, n, v, rfl, hv, hm, k⟩ := h
  refine ⟨_, (pss_cons (ps_if (PW.pt (pw_or (pt_not (pt_val (pe_callB call_isinst rfl T.n_isinstance (by decide +kernel) (pa_cons (pv 0) (pa_cons (pe_ty (n := "tuple") rfl T.n_tuple (by decide +kernel)) pa_nil))))) (pw_or (pt_cmpR op_lt (pe_callB call_len rfl T.n_len PySem.boot_len (pa_cons (pv 0) pa_nil)) pe_int (nomark _)) (pw_or1 (pt_cmpR op_gt (pe_callB call_len rfl T.n_len PySem.boot_len (pa_cons (pv 0) pa_nil)) pe_int (nomark _)))))) (pss_one (ps_ret pe_bl)) pss_nil)
      (pss_one (ps_ret (pe_cmpR (op_eqN hr.units0) (pe_compIf rfl (compSc_mk (fs := []) (fr := [])) (pi_tup (pv 0)) (fun _ _ _ _ => (pt_not (pt_val (cl D.l_word hr (pa_cons (pv 0) pa_nil))))) (fun _ _ _ _ => (pv 0))) (pe_lst pa_nil) (nomark _))))), ?_⟩
  obtain ⟨t, ty, e1, e2⟩ := ty_of (K := K) hv
  refine ⟨_, rfl, _, _, _, _, rfl, ty, e2, _, rfl, ?_⟩
  have q := k H (Same.refl H)
  cases e : tupOf H v with
  | none =>
    rw [rowB_none e] at q
    exact iteT (iteT q)
  | some xs =>
    rw [rowB_some e] at q
    obtain ⟨a, rfl, nf, ha, hl, hx⟩ := hv.items e
    refine iteF ?_
    refine ⟨_, rfl, _, _, rfl, .inr ⟨_, SqT.of ha, rfl⟩, _, _, rfl, rfl, _, rfl, ?_⟩
    refine ite2 (fun c1 => ?_) (fun c1 => ?_)
    · have c1 := of_decide_eq_true c1
      rw [decide_eq_false (p := (1 : Int) ≤ (xs.length : Int)) (by omega), Bool.false_and] at q
      exact iteT q
    · have d1 : ¬ ((xs.length : Int) < 1) := fun h => c1 (decide_eq_true h)
      refine ⟨_, rfl, _, _, rfl, .inr ⟨_, SqT.of ha, rfl⟩, _, _, rfl, rfl, _, rfl, ?_⟩
      refine ite2 (fun c2 => ?_) (fun c2 => ?_)
      · have c2 := of_decide_eq_true c2
        rw [decide_eq_false (p := (xs.length : Int) ≤ 4) (by omega), Bool.false_and, Bool.and_false] at q
        exact q
      · have d2 : ¬ ((xs.length : Int) > 4) := fun h => c2 (decide_eq_true h)
        refine ⟨_, rfl, a, rfl, ⟨xs, SqT.of ha⟩, comp_tup (K := K) (a := a) (xs := xs) (fun i ys H2 => Same H H2 ∧ i ≤ xs.length ∧ ys = (xs.take i).filter fun x => !valB x) (small1000 (by omega)) ⟨Same.refl H, Nat.zero_le _, rfl⟩ ?_ ?_ ?_⟩
        · rintro i ys H2 hi ⟨sm, _, rfl⟩
          refine ⟨SqT.of (sm _ _ ha), ?_⟩
          refine Nat.le_trans (List.length_filter_le _ _) ?_
          rw [List.length_take]
          omega
        · rintro i x ys H2 N hc ⟨sm, hi, rfl⟩ hN
          have hlt : i < xs.length := (List.getElem?_eq_some_iff.mp hc).1
          refine ⟨_, rfl, fe, m, n - 1, x, rfl, (hx x (List.mem_of_getElem? hc)).keep (Ext.of sm), hm, fun H3 sm3 => ⟨_, rfl, ?_⟩⟩
          show if (!valB x) = true then _ else _
          have et := filter_take (g := fun x => !valB x) hc
          refine ite2 (fun c3 => ?_) (fun c3 => ?_)
          · refine ⟨_, rfl, hN _ _ ⟨sm.trans sm3, hlt, ?_⟩⟩
            rw [et, if_pos c3]
          · refine hN _ _ ⟨sm.trans sm3, hlt, ?_⟩
            rw [et, if_neg c3, List.append_nil]
        · rintro ys H2 ⟨sm, _, rfl⟩ l hl'
          rw [List.take_length]
          refine ⟨(by show 0 ≤ sizeLine; decide), fun l2 hl2 => ?_⟩
          refine ⟨_, _, _, rfl, rfl, SqL.of (by rw [upd_ne (ne_of_none upd_same hl2)]; exact upd_same), SqL.of upd_same, ?_⟩
          have q := k _ (sm.trans ((same_new hl' _).trans (same_new hl2 (.lst []))))
          rw [rowB_some e, decide_eq_true (show (1 : Int) ≤ (xs.length : Int) by omega), decide_eq_true (show (xs.length : Int) ≤ 4 by omega), Bool.true_and, Bool.true_and, ← all_filter] at q
          exact q
structure Lr (P : Program) (w : World) (K : PySem.W.Frag) (mg : Str → Option Value) (base : Heap) : Prop extends Lw P w K mg base where
  l_row : DefOk P w K mg base 2 "_law_row" ["_law_thing"] (spIs rowB)
theorem sc_l_is : FnScope ["_law_thing", "_law_name"] ["_law_thing"] (defScope s_l_is) := ⟨rfl, rfl, rfl, by decide +kernel, rfl, by decide +kernel, by decide +kernel⟩
theorem valV_at {l : List (Key × V)} (nd : (l.map (·.1)).Nodup) : ∀ {i : Nat} {p : Key × V}, l[i]? = some p → valV l p.1 = some p.2 := by
  induction l with
  | nil => intro i p h; cases h
  | cons q r ih =>
    rw [List.map_cons, List.nodup_cons] at nd
    intro i p h
    cases i with
    | zero => cases h; exact valV_pos rfl
    | succ i =>
      have h : r[i]? = some p := h
      have ne : ¬ q.1 = p.1 := fun e => nd.1 (by rw [e]; exact List.mem_map_of_mem (List.mem_of_getElem? h))
      rw [valV_neg ne]
      exact ih nd.2 h
theorem odd_keep {H H2 : Hp} {d : Addr} {ok : V} (h : OddV K H ok) (nt : ∀ xs, ¬ Rd H d (.tup xs)) (x : Ext d H H2) : OddV K H2 ok := by
  rcases h with h | h | ⟨b, zs, e, hb, hz⟩
  · exact .inl h
  · exact .inr (.inl h)
  · refine .inr (.inr ⟨b, zs, e, ?_, hz⟩)
    rcases hb with hb | hb
    · have nb : b ≠ d := fun e => nt _ (e ▸ hb)
      rcases hb with hb | ⟨o, hb⟩
      · exact .inl (.inl (x _ _ nb hb))
      · exact .inl (.inr ⟨o, x _ _ nb hb⟩)
    · exact .inr hb
theorem DicAt.get {m n : Nat} {H H2 : Hp} {d : Addr} {u : HO} {o : Obj} {l : List (Key × V)} {kvs : List (V × V)} (h : DicAt P w K m n H d u l kvs) {i : Nat} {kv : V × V} (hc : kvs[i]? = some kv) (c : valB kv.1 = true) (x : Ext d H H2) (hd : H2 d = some (.frz o u)) :
    DGet H2 d kv.1 (some kv.2) ∨ ∃ ob kvs' ok ov z, H2 d = some (.frz ob (.ext (DX P w d kvs' ok ov))) ∧ TextKeys kvs' ∧ OddV K H2 ok ∧ kv.1 = .str z ∧ PyData.strOk z = true ∧ valV kvs' (Sum.inr z) = some kv.2 := by
  have inl : ∀ {p : Key × V}, l[i]? = some p → kv = (kV p.1, p.2) → valV l p.1 = some kv.2 := fun hp e => by rw [valV_at h.2.2.1 hp, e]
  rcases h.2.1 with ⟨e1, e2⟩ | ⟨ok, ov, e1, e2, tk, hy⟩
  · rw [e2, List.getElem?_map] at hc
    obtain ⟨p, hp, rfl⟩ := Option.map_eq_some_iff.mp hc
    exact .inl (.inl ⟨l, p.1, .inr ⟨o, by rw [hd, e1]⟩, rfl, (inl hp rfl).symm⟩)
  · have nt : ∀ xs, ¬ Rd H d (.tup xs) := fun xs r => by
      rcases r with r | ⟨_, r⟩ <;> (rw [h.1, e1] at r; cases r)
    rw [e2] at hc
    by_cases lt : i < l.length
    · rw [List.getElem?_append_left (by rw [List.length_map]; exact lt), List.getElem?_map] at hc
      obtain ⟨p, hp, rfl⟩ := Option.map_eq_some_iff.mp hc
      obtain ⟨z, ez, hz⟩ := tk p (List.mem_of_getElem? hp)
      have := inl hp rfl
      refine .inr ⟨o, l, ok, ov, z, by rw [hd, e1], tk, odd_keep hy nt x, ?_, hz, ?_⟩
      · show kV p.1 = _
        rw [ez]
        rfl
      · rw [← ez]
        exact this
    · rw [List.getElem?_append_right (by rw [List.length_map]; omega)] at hc
      have : kv = (ok, ov) := by
        have := List.mem_of_getElem? hc
        exact List.mem_singleton.mp this
      rw [this] at c
      rcases hy with rfl | rfl | ⟨b, zs, rfl, _⟩ <;> cases c
theorem ok_is {f : Addr} {fd : FuncData} (F : Fun K "_law_is" "_law_is" s_l_is f fd) (T : Txt K mg) (D : Lr P w K mg base) : FnOk P w K mg base CX0 3 f fd ["_law_thing"] (spTabs P w K) := by
  refine F.ok sc_l_is (fun vs H Q E h => ?_) (fun cdv A outer s H vs Q E hr h => ?_)
  · obtain ⟨a, b, rfl, _⟩ := h
    rfl
  obtain ⟨v, b, rfl, hv, k⟩ := h
  refine ⟨_, (pss_cons (ps_if (pt_not (pt_val (pe_callB call_isinstX rfl T.n_isinstance (by decide +kernel) (pa_cons (pv 0) (pa_cons (pe_ty (n := "dict") rfl T.n_dict (by decide +kernel)) pa_nil))))) (pss_one (ps_ret pe_bl)) pss_nil)
      (pss_cons (ps_thawS (ps_for PassesOwn.never rfl (pi_keysV (pv 0)) (pg_name (i := 1) sc_l_is.nd rfl (Or.inl rfl))
      (pss_cons (ps_if (PW.pt (pw_or (pt_not (pt_val (cl D.l_word hr (pa_cons (pv 1) pa_nil)))) (pw_or1 (pt_not (pt_val (pe_callB call_isinst rfl T.n_isinstance (by decide +kernel) (pa_cons (pe_dgetX hr.units (pv 0) (pv 1) (fun _ _ => rfl)) (pa_cons (pe_ty (n := "list") rfl T.n_list (by decide +kernel)) pa_nil)))))))) (pss_one (ps_ret pe_bl)) pss_nil)
      (pss_one (ps_if (pt_cmpR (op_neN hr.units0) (pe_compIf rfl (compSc_mk (fs := []) (fr := [])) (pi_list (pe_dgetX hr.units (pv 0) (pv 1) (fun _ _ => rfl))) (fun _ _ _ _ => (pt_not (pt_val (cl D.l_row hr (pa_cons (pv 0) pa_nil))))) (fun _ _ _ _ => (pv 0))) (pe_lst pa_nil) (nomark _)) (pss_one (ps_ret pe_bl)) pss_nil)))))
      (pss_one (ps_ret pe_bl)))), ?_⟩
  rcases hv with ⟨fe, m, n, hv, hm, nd, rfl⟩ | ⟨m, n, d, u, l, kvs, rfl, hd, hm, rfl⟩
  · obtain ⟨t, ty, e1, e2⟩ := ty_of2 (K := K) hv
    rw [nd] at e2
    exact ⟨_, rfl, _, _, _, _, rfl, .inl ty, e2, _, rfl, iteT (k H (Same.refl H))⟩
  · have ty : TyOf K H (.ref d) (.type "dict") ∨ ((.type "dict" : Value) = .type "dict" ∧ ∃ a kvs ok ov, V.ref d = .ref a ∧ H a = some (.ext (DX P w a kvs ok ov))) := by
      rcases hd.2.1 with ⟨e1, _⟩ | ⟨ok, ov, e1, _⟩
      · exact .inl (.dK (by rw [hd.1, e1]))
      · exact .inr ⟨rfl, d, l, ok, ov, rfl, by rw [hd.1, e1]⟩
    refine ⟨_, rfl, _, _, _, _, rfl, ty, (by rfl : _ = some true), _, rfl, iteF ?_⟩
    obtain ⟨hu, hdu, nd, hl, hk⟩ := id hd
    refine ⟨d, hd.nofrz, _, rfl, d, u, kvs, rfl, hu, hd.dictV, fun o => ?_⟩
    have x1 : Ext d H (upd H d (.frz o u)) := fun b z n h => by rw [upd_ne n]; exact h
    have hd1 : upd H d (.frz o u) d = some (.frz o u) := upd_same
    generalize (upd H d (.frz o u)) = H1 at x1 hd1 ⊢
    refine for_keysV (fun i σ H2 => ∃ q, σ = [some (.ref d), q] ∧ Same H1 H2 ∧ (kvs.take i).all (fun kv => valB kv.1 && rowsB H kv.2) = true) ⟨none, rfl, Same.refl H1, rfl⟩ ?_ ?_ ?_
    · rintro i σ H2 hi ⟨q, rfl, sm, _⟩
      exact sm _ _ hd1
    · rintro i kv σ H2 hc ⟨q, rfl, sm, al⟩
      have hmem := List.mem_of_getElem? hc
      obtain ⟨t1, t2⟩ := hk kv hmem
      have x2 : Ext d H H2 := x1.trans (Ext.of sm)
      have no : (valB kv.1 && rowsB H kv.2) = false → tabB H kvs = false := fun c => by
        unfold tabB
        rw [Bool.eq_false_iff]
        intro h
        have := List.all_eq_true.mp h _ (List.mem_map_of_mem hmem)
        rw [c] at this
        cases this
      refine ⟨_, rfl, d, m, n, kv.1, rfl, t1.keep x2, hm, fun H3 sm3 => ⟨_, rfl, ?_⟩⟩
      have x3 := x2.trans (Ext.of sm3)
      have hd3 := sm3 _ _ (sm _ _ hd1)
      show if (!valB kv.1) = true then _ else _
      refine ite2 (fun c => ?_) (fun c => ?_)
      · have c : valB kv.1 = false := by simpa using c
        refine iteT ?_
        have q := k _ (thaw_same x1 (sm.trans sm3) hu)
        rw [no (by rw [c, Bool.false_and])] at q
        exact ⟨o, u, hd3, q⟩
      · have c : valB kv.1 = true := by simpa using c
        obtain ⟨t, ty, e1, e2⟩ := ty_of2 (K := K) (t2.1.keep x3)
        have g := hd.get hc c x3 hd3
        refine ⟨_, rfl, _, rfl, d, kv.2, rfl, g, _, _, _, _, rfl, ty, e1, _, rfl, ?_⟩
        have q := k _ (thaw_same x1 (sm.trans sm3) hu)
        cases e : lstOf H3 kv.2 with
        | none =>
          rw [no (by rw [← t2.rows x3, rowsB_none e, Bool.and_false])] at q
          exact iteT ⟨o, u, hd3, q⟩
        | some ys =>
          have t3 := t2.keep x3
          obtain ⟨a, ea, na, ha⟩ := t3.1.asList e
          obtain ⟨hl3, hx3⟩ := t3.2 ys e
          have eb : rowsB H kv.2 = (ys.map (rowB H3)).all id := by rw [← t2.rows x3, rowsB_some e]
          rw [ea] at g
          refine iteF ?_
          refine ⟨_, rfl, _, rfl, d, .ref a, rfl, g, a, rfl, ⟨ys, SqL.of ha⟩, comp_list (K := K) (a := a) (xs := ys) (fun i zs H4 => Same H3 H4 ∧ i ≤ ys.length ∧ zs = (ys.take i).filter fun x => !rowB H3 x) (small1000 (by omega)) ⟨Same.refl H3, Nat.zero_le _, rfl⟩ ?_ ?_ ?_⟩
          · rintro i zs H4 hi ⟨sm4, _, rfl⟩
            refine ⟨SqL.of (sm4 _ _ ha), ?_⟩
            refine Nat.le_trans (List.length_filter_le _ _) ?_
            rw [List.length_take]
            omega
          · rintro i x zs H4 N hc ⟨sm4, hi, rfl⟩ hN
            have hlt : i < ys.length := (List.getElem?_eq_some_iff.mp hc).1
            have tx := hx3 x (List.mem_of_getElem? hc)
            refine ⟨_, rfl, d, m, n, x, rfl, tx.keep (Ext.of sm4), hm, fun H5 sm5 => ⟨_, rfl, ?_⟩⟩
            rw [tx.row (Ext.of sm4)]
            show if (!rowB H3 x) = true then _ else _
            have et := filter_take (g := fun x => !rowB H3 x) hc
            refine ite2 (fun c3 => ?_) (fun c3 => ?_)
            · refine ⟨_, rfl, hN _ _ ⟨sm4.trans sm5, hlt, ?_⟩⟩
              rw [et, if_pos c3]
            · refine hN _ _ ⟨sm4.trans sm5, hlt, ?_⟩
              rw [et, if_neg c3, List.append_nil]
          · rintro zs H4 ⟨sm4, _, rfl⟩ l1 hl1
            rw [List.take_length]
            refine ⟨(by show 0 ≤ sizeLine; decide), fun l2 hl2 => ?_⟩
            refine ⟨_, _, _, rfl, rfl, SqL.of (by rw [upd_ne (ne_of_none upd_same hl2)]; exact upd_same), SqL.of upd_same, _, rfl, ?_⟩
            have sm5 := sm4.trans ((same_new hl1 (.lst ((ys).filter fun x => !rowB H3 x))).trans (same_new hl2 (.lst [])))
            refine ite2 (fun c4 => ?_) (fun c4 => ?_)
            · have q := k _ (thaw_same x1 ((sm.trans sm3).trans sm5) hu)
              rw [no (by rw [c, Bool.true_and, eb, ← all_filter]; simpa using c4)] at q
              exact ⟨o, u, sm5 _ _ hd3, q⟩
            · refine ⟨_, rfl, (sm.trans sm3).trans sm5, ?_⟩
              rw [List.take_add_one, hc, List.all_append, al, Bool.true_and]
              show ((valB kv.1 && rowsB H kv.2) && true) = true
              rw [c, eb, ← all_filter]
              simpa using c4
    · rintro σ H2 ⟨q, rfl, sm, al⟩
      refine ⟨o, u, sm _ _ hd1, ?_⟩
      have q := k _ (thaw_same x1 sm hu)
      have e : tabB H kvs = true := by
        unfold tabB
        rw [List.take_length] at al
        rw [List.all_map]
        exact al
      rw [e] at q
      exact q
structure Li (P : Program) (w : World) (K : PySem.W.Frag) (mg : Str → Option Value) (base : Heap) : Prop extends Lr P w K mg base where
  l_is : DefOk P w K mg base 3 "_law_is" ["_law_thing"] (spTabs P w K)
end
end K05

set_option Elab.async false
set_option linter.all false
set_option maxRecDepth 100000
set_option maxHeartbeats 4000000
namespace K05
open PySem PySem.Spec PyProof.Rows L2 Srt
seal L2.PE L2.PT L2.PW L2.PA L2.PS L2.PSs L2.PI L2.PO L2.PPs L2.PG L2.PGs
section
variable {P : Program} {w : World} {K : PySem.W.Frag} {mg : Str → Option Value} {base : Heap}
def spLaw (K : PySem.W.Frag) : Sp := fun vs H Q _ => ∃ (a : Addr) (ns : List Int), vs = [.ref a] ∧ Scr K H a (ns.map V.int) ∧ ns.length ≤ 63 ∧ ∀ H', Q (.bl true) H'
def spFeed (K : PySem.W.Frag) : Sp := fun vs H Q _ => ∃ (a : Addr) (ns : List Int), vs = [.ref a] ∧ Scr K H a (ns.map V.int) ∧ ns.length ≤ 63 ∧ ∀ (r : Addr) (H' : Hp), Feed K r H' → Same H H' → H r = none → Q (.ref r) H'
structure Dq (P : Program) (w : World) (K : PySem.W.Frag) (mg : Str → Option Value) (base : Heap) : Prop where
  l_feed : DefOk P w K mg base 1 "_law_feed" ["_law_script"] (spFeed K)
  l_draw : DefOk P w K mg base 1 "_law_draw" ["_law_feed_here", "_law_many"] (spDraw K)
  l_names : DefOk P w K mg base 3 "_law_names" ["_law_feed_here"] (spSome K namesPool 3)
  l_values : DefOk P w K mg base 3 "_law_values" ["_law_feed_here"] (spSome K valuesPool 4)
  l_tables : DefOk P w K mg base 3 "_law_tables" ["_law_feed_here", "_law_names_here", "_law_values_here"] (spTables K)
  l_bent : DefOk P w K mg base 3 "_law_bent" ["_law_feed_here", "_law_tables_here"] (spBentT P w K)
  is_tables : DefOk P w K mg base 4 "is_tables" ["thing"] (spTabs P w K)
  l_is : DefOk P w K mg base 3 "_law_is" ["_law_thing"] (spTabs P w K)
  l_sorted_right : DefOk P w K mg base 3 "_law_sorted_right" ["_law_tables_here"] (spRight K)
  sorted_tables : DefOk P w K mg base 2 "sorted_tables" ["tables"] (spSorted K)
theorem isDic_same {f : Addr} {m n : Nat} {H H' : Hp} {v : V} (h : Th f m H n v) (s : Same H H') (q : isDic H v = false) : isDic H' v = false := by
  cases n with
  | zero => exact h.elim
  | succ n =>
    rcases h with rfl | ⟨b, rfl⟩ | ⟨i, rfl⟩ | ⟨z, rfl, _⟩ | ⟨a, ys, rfl, nf, h⟩ | ⟨a, kvs, rfl, nf, h⟩ | ⟨a, ys, rfl, nf, h, hl, hx⟩
    · rfl
    · rfl
    · rfl
    · rfl
    all_goals
      replace q : (match H a with | some (.dK _) => true | _ => false) = false := q
      show (match H' a with | some (.dK _) => true | _ => false) = false
      rw [h] at q
      rw [s _ _ h]
      first
        | done
        | exact q
theorem tabV_same {H H' : Hp} {v : V} {b : Bool} (h : TabV P w K H v b) (s : Same H H') : TabV P w K H' v b := by
  rcases h with ⟨f, m, n, h1, h2, h3, h4⟩ | ⟨m, n, d, u, l, kvs, e1, hd, hm, e2⟩
  · exact .inl ⟨f, m, n, h1.keep (Ext.of s), h2, isDic_same h1 s h3, h4⟩
  · obtain ⟨h1, h2, h3, h4, h5⟩ := hd
    refine .inr ⟨m, n, d, u, l, kvs, e1, ⟨s _ _ h1, ?_, h3, h4, fun kv hkv => ⟨(h5 kv hkv).1.keep (Ext.of s), (h5 kv hkv).2.keep (Ext.of s)⟩⟩, hm, ?_⟩
    · rcases h2 with h2 | ⟨ok, ov, q1, q2, q3, q4⟩
      · exact .inl h2
      · refine .inr ⟨ok, ov, q1, q2, q3, ?_⟩
        rcases q4 with q4 | q4 | ⟨b, zs, q4, q5, q6⟩
        · exact .inl q4
        · exact .inr (.inl q4)
        · exact .inr (.inr ⟨b, zs, q4, sqT_same q5 s, q6⟩)
    · rw [e2]
      unfold tabB
      refine congrArg (fun l => List.all l id) (List.map_congr_left fun kv hkv => ?_)
      rw [(h5 kv hkv).2.rows (Ext.of s)]
theorem tabs_dic {f t : Addr} {H : Hp} {es : List En} (h : Tabs f H t es) : DicAt P w K 100 4 H t (.dK (es.map kvE)) (es.map kvE) ((es.map kvE).map fun p => (kV p.1, p.2)) := by
  obtain ⟨nf, ht, hn, hl, ho⟩ := h
  refine ⟨ht, .inl ⟨rfl, rfl⟩, nodup_kv hn, by rw [List.length_map, List.length_map]; omega, fun kv hkv => ?_⟩
  obtain ⟨p, hp, rfl⟩ := List.mem_map.mp hkv
  obtain ⟨e, he, rfl⟩ := List.mem_map.mp hp
  obtain ⟨hz, na, ha, hR, hg, hlr⟩ := ho e he
  have ly : e.ys.length = e.rows.length := hR.length
  have nt : e.ad ≠ t := fun q => by rw [q, ht] at ha; cases ha
  refine ⟨Th.str (pool_is (List.mem_append_left _ hz)).2.2, Th.lst nt ha, fun ys hy => ?_⟩
  replace hy : lstOf H (.ref e.ad) = some ys := hy
  rw [lstOf_ref ha] at hy
  cases hy
  refine ⟨by omega, fun y hy => ?_⟩
  obtain ⟨j, hj⟩ := List.mem_iff_getElem?.mp hy
  obtain ⟨r, hr, b, rfl, nb, hb⟩ := Paired.at' hR hj
  exact row_th (f := f) hb (fun q => by rw [q, ht] at hb; cases hb) (hg r (List.mem_of_getElem? hr))
structure Bag (P : Program) (w : World) (K : PySem.W.Frag) (fe : Addr) (H : Hp) (L : List V) : Prop where
  fd : Feed K fe H
  al : ∀ v ∈ L, TabV P w K H v false
theorem Bag.step {fe : Addr} {H H' : Hp} {L : List V} {v : V} (h : Bag P w K fe H L) (s : Same H H') (hF : Feed K fe H') (t : TabV P w K H' v false) : Bag P w K fe H' (L ++ [v]) := ⟨hF, fun x hx => by
  rcases List.mem_append.mp hx with q | q
  · exact tabV_same (h.al x q) s
  · rw [List.mem_singleton.mp q]
    exact t⟩
theorem Bag.new {fe p : Addr} {H : Hp} {L : List V} {v : V} (h : Bag P w K fe H L) (hp : H p = none) (o : HO) (t : p ≠ fe → upd H p o p = some o → TabV P w K (upd H p o) v false) : Bag P w K fe (upd H p o) (L ++ [v]) :=
  h.step (same_new hp o) (h.fd.new hp o) (t (h.fd.nef hp) upd_same)
theorem Bag.new0 {fe p : Addr} {H : Hp} {L : List V} (h : Bag P w K fe H L) (hp : H p = none) (o : HO) : Bag P w K fe (upd H p o) L := ⟨h.fd.new hp o, fun x hx => tabV_same (h.al x hx) (same_new hp o)⟩
theorem dicV {H : Hp} {d : Addr} {X : V} {b : Bool} (hd : H d = some (.dK [(Sum.inr "r", X)])) (hX : ThL d 100 H 4 X) (hb : rowsB H X = b) : TabV P w K H (.ref d) b := by
  refine .inr ⟨100, 4, d, _, [(Sum.inr "r", X)], [(.str "r", X)], rfl, ⟨hd, .inl ⟨rfl, rfl⟩, by simp, by show 1 ≤ 100; decide, fun kv hkv => ?_⟩, by decide, ?_⟩
  · rw [List.mem_singleton.mp hkv]
    exact ⟨Th.str (by decide +kernel), hX⟩
  · show b = ((valB (.str "r") && rowsB H X) && true)
    rw [hb, show valB (.str "r") = true by decide +kernel, Bool.true_and, Bool.and_true]
theorem Bag.disp {fe d : Addr} {H Hm : Hp} {L : List V} {X : V} (h : Bag P w K fe H L) (g : H d = none) (s0 : Same H Hm) (e : Hm d = some (.dK [])) (F : Feed K fe Hm)
    (t : (∀ b o, b ≠ d → Hm b = some o → upd Hm d (.dK [(Sum.inr "r", X)]) b = some o) → ThL d 100 (upd Hm d (.dK [(Sum.inr "r", X)])) 4 X ∧ rowsB (upd Hm d (.dK [(Sum.inr "r", X)])) X = false) : Bag P w K fe (upd Hm d (.dK [(Sum.inr "r", X)])) (L ++ [.ref d]) := by
  have q := t fun b o n h => by rw [upd_ne n]; exact h
  exact h.step (fun b o hb => by rw [upd_ne (ne_of_none hb g)]; exact s0 _ _ hb) (F.dic e (h.fd.nef g) _) (dicV upd_same q.1 q.2)
theorem no_lst {H : Hp} {a : Addr} {u : HO} (h : H a = some u) (n : ∀ xs, u ≠ .lst xs) : lstOf H (.ref a) = none := by
  show (match H a with | some (.lst xs) => some xs | _ => none) = none
  rw [h]
  cases u <;> first | rfl | exact absurd rfl (n _)
theorem no_tup {H : Hp} {a : Addr} {u : HO} (h : H a = some u) (n : ∀ xs, u ≠ .tup xs) : tupOf H (.ref a) = none := by
  show (match H a with | some (.tup xs) => some xs | _ => none) = none
  rw [h]
  cases u <;> first | rfl | exact absurd rfl (n _)
theorem no_dic {H : Hp} {a : Addr} {u : HO} (h : H a = some u) (n : ∀ xs, u ≠ .dK xs) : isDic H (.ref a) = false := by
  show (match H a with | some (.dK _) => true | _ => false) = false
  rw [h]
  cases u <;> first | rfl | exact absurd rfl (n _)
theorem nums : ((List.range 85).all fun j => isVal (Str.ofString (toString (0 + ((j : Nat) : Int)))) && decide ((Str.ofString (toString (0 + ((j : Nat) : Int)))).length ≤ 100)) = true := by decide +kernel
theorem num_is {j : Nat} (h : j < 85) : isVal (Str.ofString (toString (0 + ((j : Nat) : Int)))) = true ∧ (Str.ofString (toString (0 + ((j : Nat) : Int)))).length ≤ 100 := by
  have := List.all_eq_true.mp nums j (List.mem_range.mpr h)
  simp only [Bool.and_eq_true, decide_eq_true_iff] at this
  exact this
theorem val_a : valB (.str "a") = true := by decide +kernel
theorem val_A : valB (.str "A") = false := by decide +kernel
theorem log_small {i : Int} (h : i.natAbs < 1000) : i.natAbs.log2 < 1920 := Nat.lt_of_le_of_lt (Nat.log2_le_self _) (by omega)
theorem sc_law : FnScope ["_law_script", "_law_feed_here", "_law_k", "_law_tables_here", "_law_bent_here", "_law_thing", "_law_found", "_law_odd_here", "_law_wide"] ["_law_script"] (defScope s_law) := ⟨rfl, rfl, rfl, by decide +kernel, rfl, by decide +kernel, by decide +kernel⟩
theorem ok_law {f : Addr} {fd : FuncData} (F : Fun K "law" "law" s_law f fd) (T : Txt K mg) (D : Dq P w K mg base) : FnOk P w K mg base CX0 5 f fd ["_law_script"] (spLaw K) := by
  refine F.ok sc_law (fun vs H Q E h => ?_) (fun cdv A outer s H vs Q E hr h => ?_)
  · obtain ⟨a, b, rfl, _⟩ := h
    rfl
  obtain ⟨a, ns, rfl, hS, hn, k⟩ := h
  have hu := hu_of hr
  refine cut 2 (fun σ H1 => ∃ (fe : Addr) (x2 x3 x4 x5 x6 : Option V), σ = [some (.ref a), some (.ref fe), x2, x3, x4, x5, x6, none, none] ∧ Feed K fe H1)
    (cutA 1 (fun σ H1 => ∃ (fe : Addr) (x2 x3 x4 x5 x6 x7 : Option V), σ = [some (.ref a), some (.ref fe), x2, x3, x4, x5, x6, x7, none] ∧ Feed K fe H1) ⟨_, (pss_cons (ps_set (i := 8) sc_law.nd rfl (Or.inl rfl) (pe_disp (pps_cons pe_str (pe_comp rfl (compSc_mk (fs := []) (fr := [])) (pi_range1 rfl T.n_range (pa_cons (pe_op op_add pe_int (cl D.l_draw hr (pa_cons (pv 1) (pa_cons pe_int pa_nil)))) pa_nil)) (fun _ _ _ _ => (pe_tup (pa_cons pe_str (pa_cons (pe_callTy call_str1 rfl T.n_str (by decide +kernel) (pa_cons (pv 0) pa_nil)) pa_nil))))) pps_nil) rfl rfl (by simp) (by show 1 ≤ 15; decide)))
      (pss_cons (ps_if (PW.pt (pw_or (pt_cmpR op_isnotB (cl D.is_tables hr (pa_cons (pv 8) pa_nil)) pe_bl (nomark _)) (pw_or1 (pt_cmpR op_isnotB (cl D.is_tables hr (pa_cons (pe_disp (pps_cons pe_str (pe_op op_cat (pe_dget hu (pv 8) pe_str (fun _ _ => rfl)) (pe_lst (pa_cons (pe_tup (pa_cons pe_str (pa_cons pe_str pa_nil))) pa_nil))) pps_nil) rfl rfl (by simp) (by show 1 ≤ 15; decide)) pa_nil)) pe_bl (nomark _))))) (pss_one (ps_ret pe_bl)) pss_nil)
      (pss_one (ps_ret (pe_and (pe_cmpR op_isB (cl D.is_tables hr (pa_cons pe_dnewK pa_nil)) pe_bl (nomark _)) (pe_and (pe_cmpR op_isB (cl D.is_tables hr (pa_cons (pe_disp (pps_cons pe_str (pe_lst pa_nil) pps_nil) rfl rfl (by simp) (by show 1 ≤ 15; decide)) pa_nil)) pe_bl (nomark _)) (pe_one (pe_cmpR (op_eqM (u96 hr)) (cl D.sorted_tables hr (pa_cons (pe_disp (pps_cons pe_str (pe_lst pa_nil) pps_nil) rfl rfl (by simp) (by show 1 ≤ 15; decide)) pa_nil)) pe_dnewK (nomark _))))))))), ?_⟩ (fun t2 ht => ⟨_, (pss_cons (ps_for PassesOwn.never rfl (pi_list (pe_lst (pa_cons pe_non (pa_cons pe_bl (pa_cons pe_int (pa_cons pe_str (pa_cons (pe_tup pa_nil) (pa_cons (pe_lst pa_nil) (pa_cons (pe_lst (pa_cons (pe_tup (pa_cons pe_str (pa_cons (pe_lst pa_nil) pa_nil))) pa_nil)) (pa_cons (pe_disp (pps_cons pe_str (pe_tup pa_nil) pps_nil) rfl rfl (by simp) (by show 1 ≤ 15; decide)) (pa_cons (pe_disp (pps_cons pe_str pe_non pps_nil) rfl rfl (by simp) (by show 1 ≤ 15; decide)) (pa_cons (pe_disp (pps_cons pe_str pe_dnewK pps_nil) rfl rfl (by simp) (by show 1 ≤ 15; decide)) (pa_cons (pe_disp (pps_cons pe_str (pe_lst (pa_cons (pe_tup pa_nil) pa_nil)) pps_nil) rfl rfl (by simp) (by show 1 ≤ 15; decide)) (pa_cons (pe_disp (pps_cons pe_str (pe_lst (pa_cons (pe_lst (pa_cons pe_str pa_nil)) pa_nil)) pps_nil) rfl rfl (by simp) (by show 1 ≤ 15; decide)) pa_nil)))))))))))))) (pg_name (i := 7) sc_law.nd rfl (Or.inl rfl))
      (pss_one (ps_if (pt_cmpR op_isnotB (cl D.is_tables hr (pa_cons (pv 7) pa_nil)) pe_bl (nomark _)) (pss_one (ps_ret pe_bl)) pss_nil))) ht), fun tl => ?_⟩)) (fun t2 ht => ⟨_, (pss_cons (ps_set (i := 1) sc_law.nd rfl (Or.inl rfl) (cl D.l_feed hr (pa_cons (pv 0) pa_nil)))
      (pss_cons (ps_for PassesOwn.never rfl (pi_range1 rfl T.n_range (pa_cons pe_int pa_nil)) (pg_name (i := 2) sc_law.nd rfl (Or.inl rfl))
      (pss_cons (ps_set (i := 3) sc_law.nd rfl (Or.inl rfl) (cl D.l_tables hr (pa_cons (pv 1) (pa_cons (cl D.l_names hr (pa_cons (pv 1) pa_nil)) (pa_cons (cl D.l_values hr (pa_cons (pv 1) pa_nil)) pa_nil)))))
      (pss_cons (ps_set (i := 4) sc_law.nd rfl (Or.inl rfl) (cl D.l_bent hr (pa_cons (pv 1) (pa_cons (pv 3) pa_nil))))
      (pss_cons (ps_for PassesOwn.never rfl (pi_list (pe_lst (pa_cons (pv 3) (pa_cons (pv 4) pa_nil)))) (pg_name (i := 5) sc_law.nd rfl (Or.inl rfl))
      (pss_cons (ps_set (i := 6) sc_law.nd rfl (Or.inl rfl) (cl D.is_tables hr (pa_cons (pv 5) pa_nil)))
      (pss_one (ps_if (PW.pt (pw_or (pt_not (pt_val (pe_callB call_isinst rfl T.n_isinstance (by decide +kernel) (pa_cons (pv 6) (pa_cons (pe_ty (n := "bool") rfl T.n_bool (by decide +kernel)) pa_nil))))) (pw_or1 (pt_cmpR op_ne (pv 6) (cl D.l_is hr (pa_cons (pv 5) pa_nil)) (nomark _))))) (pss_one (ps_ret pe_bl)) pss_nil))))
      (pss_one (ps_if (pt_not (pt_val (cl D.l_sorted_right hr (pa_cons (pv 3) pa_nil)))) (pss_one (ps_ret pe_bl)) pss_nil)))))) ht)), fun tl => ?_⟩)
  case refine_3 =>
    refine ⟨_, rfl, a, ns, rfl, hS, hn, fun fe H1 hF1 sm1 hfe => ?_⟩
    refine ⟨8, rfl, by decide, by decide, for_range (lo := 0) (n := 8) (fun i σ H2 => ∃ (x2 x3 x4 x5 x6 : Option V), σ = [some (.ref a), some (.ref fe), x2, x3, x4, x5, x6, none, none] ∧ Feed K fe H2) ⟨none, none, none, none, none, rfl, hF1⟩ ?_ ?_⟩
    · rintro i σ H2 hi ⟨x2, x3, x4, x5, x6, rfl, hF2⟩
      refine ⟨_, rfl, _, rfl, fe, rfl, hF2, fun nl nys H3 hF3 ex3 nnl hnl ln1 ln2 hny => ?_⟩
      refine ⟨_, rfl, fe, rfl, hF3, fun vl vys H4 hF4 ex4 nvl hvl lv1 lv2 hvy => ?_⟩
      obtain ⟨nms, rfl, hnm⟩ := strs_of hny
      obtain ⟨vls, rfl, hvs⟩ := strs_of hvy
      rw [List.length_map] at ln1 ln2 lv1 lv2
      refine ⟨fe, nl, vl, nms, vls, rfl, hF4, nnl, nvl, ex4 _ _ nnl hnl, ln2, hnm, hvl, lv1, lv2, hvs, fun t kvs H5 hF5 ex5 hT0 _ => ?_⟩
      obtain ⟨es, rfl, hT⟩ := hT0.tabs
      refine ⟨_, rfl, _, rfl, fe, t, es, rfl, hF5, hT, fun d u l kvs H6 hF6 ex6 hD => ?_⟩
      have hT6 := hT.keep ex6
      refine ⟨_, rfl, _, rfl, (by show 2 ≤ sizeLine; decide), fun lp hlp => ?_⟩
      have s7 : Same H6 (upd H6 lp (.lst [.ref t, .ref d])) := same_new hlp _
      have hlp7 : upd H6 lp (.lst [.ref t, .ref d]) lp = some (.lst [.ref t, .ref d]) := upd_same
      generalize (upd H6 lp (.lst [.ref t, .ref d])) = H7 at s7 hlp7 ⊢
      refine ⟨lp, rfl, ⟨_, SqL.of hlp7⟩, for_list (K := K) (a := lp) (xs := [.ref t, .ref d]) (fun j σ H8 => ∃ (y5 y6 : Option V), σ = [some (.ref a), some (.ref fe), some (.int (0 + (i : Int))), some (.ref t), some (.ref d), y5, y6, none, none] ∧ Same H7 H8) ⟨_, _, rfl, Same.refl H7⟩ ?_ ?_ ?_⟩
      · rintro j σ H8 hj ⟨y5, y6, rfl, s8⟩
        exact SqL.of (s8 _ _ hlp7)
      · rintro j x σ H8 hx ⟨y5, y6, rfl, s8⟩
        obtain ⟨b, hb⟩ : ∃ b, TabV P w K H8 x b := by
          rcases List.mem_cons.mp (List.mem_of_getElem? hx) with rfl | hx
          · exact ⟨_, tabV_same (.inr ⟨100, 4, t, _, _, _, rfl, tabs_dic hT6, by decide, rfl⟩) (s7.trans s8)⟩
          · rw [List.mem_singleton.mp hx]
            exact ⟨_, tabV_same (.inr ⟨100, 4, d, _, _, _, rfl, hD, by decide, rfl⟩) (s7.trans s8)⟩
        refine ⟨_, rfl, x, b, rfl, hb, fun H9 s9 => ?_⟩
        refine ⟨_, rfl, _, _, _, _, rfl, .bl _, (by rfl : _ = some true), _, rfl, ?_⟩
        refine iteF ?_
        refine ⟨_, rfl, _, rfl, x, b, rfl, tabV_same hb s9, fun H10 s10 => ⟨rfl, _, rfl, ?_⟩⟩
        rw [decide_eq_true rfl]
        exact iteF ⟨_, _, rfl, (s8.trans s9).trans s10⟩
      · rintro σ H8 ⟨y5, y6, rfl, s8⟩
        have s68 := s7.trans s8
        have hF8 := feed_same hF6 s68
        refine ⟨_, rfl, fe, t, es, rfl, hT6.keep (Ext.of s68), ?_, fun H9 s9 => ⟨_, rfl, ?_⟩⟩
        · obtain ⟨a', ns', p, q, r, hf, _⟩ := hF8
          exact ⟨_, hf⟩
        · refine iteF ?_
          exact ⟨_, _, _, _, _, rfl, feed_same hF8 s9⟩
    · rintro σ H2 ⟨x2, x3, x4, x5, x6, rfl, hF2⟩
      exact tl _ _ ⟨fe, x2, x3, x4, x5, x6, rfl, hF2⟩
  case refine_2 =>
    rintro σ H0 ⟨fe, x2, x3, x4, x5, x6, rfl, hF0⟩
    have plainV : ∀ {H : Hp} {v : V}, Th fe 100 H 4 v → isDic H v = false → TabV P w K H v false := fun h q => .inl ⟨fe, 100, 4, h, by decide, q, rfl⟩
    have C0 : Bag P w K fe H0 [.non, .bl true, .int 0, .str ""] := ⟨hF0, fun v hv => by
      rcases List.mem_cons.mp hv with rfl | hv
      · exact plainV Th.non rfl
      rcases List.mem_cons.mp hv with rfl | hv
      · exact plainV Th.bl rfl
      rcases List.mem_cons.mp hv with rfl | hv
      · exact plainV Th.int rfl
      · rw [List.mem_singleton.mp hv]
        exact plainV (Th.str (by decide +kernel)) rfl⟩
    refine ⟨(by show 0 ≤ sizeLine; decide), fun p1 h1 => ?_⟩
    have C1 := C0.new h1 (.tup []) (v := .ref p1) fun n e => plainV (Th.tup n e (by decide) fun x hx => by cases hx) (no_dic e fun _ z => nomatch z)
    generalize (upd H0 p1 (.tup [])) = H1 at C1 ⊢
    refine ⟨(by show 0 ≤ sizeLine; decide), fun p2 h2 => ?_⟩
    have C2 := C1.new h2 (.lst []) (v := .ref p2) fun n e => plainV (Th.lst n e) (no_dic e fun _ z => nomatch z)
    generalize (upd H1 p2 (.lst [])) = H2 at C2 ⊢
    refine ⟨(by show 0 ≤ sizeLine; decide), fun p3 h3 => ?_⟩
    have C3 := C2.new0 h3 (.lst [])
    generalize (upd H2 p3 (.lst [])) = H3 at C3 ⊢
    refine ⟨(by show 2 ≤ sizeLine; decide), fun p4 h4 => ?_⟩
    have C4 := C3.new0 h4 (.tup [.str "r", .ref p3])
    generalize (upd H3 p4 (.tup [.str "r", .ref p3])) = H4 at C4 ⊢
    refine ⟨(by show 1 ≤ sizeLine; decide), fun p5 h5 => ?_⟩
    have C5 := C4.new h5 (.lst [.ref p4]) (v := .ref p5) fun n e => plainV (Th.lst n e) (no_dic e fun _ z => nomatch z)
    generalize (upd H4 p5 (.lst [.ref p4])) = H5 at C5 ⊢
    intro d5 g5
    have F5 := C5.fd.new g5 (.dK [])
    have e5 : upd H5 d5 (.dK []) d5 = some (.dK []) := upd_same
    have s5 : Same H5 (upd H5 d5 (.dK [])) := same_new g5 _
    generalize (upd H5 d5 (.dK [])) = Ha5 at F5 e5 s5 ⊢
    refine ⟨(by show 0 ≤ sizeLine; decide), fun a5 ma5 => ?_⟩
    have F5 := F5.new ma5 (.tup [])
    have ka5 : upd Ha5 a5 (.tup []) a5 = some (.tup []) := upd_same
    have na5 : a5 ≠ d5 := (ne_of_none e5 ma5).symm
    have e5 := (same_new ma5 (.tup [])) _ _ e5
    have s5 := s5.trans (same_new ma5 (.tup []))
    generalize (upd Ha5 a5 (.tup [])) = Hb5_0 at F5 e5 s5 ka5 ⊢
    refine ⟨e5, [(Sum.inr "r", .ref a5)], rfl, (by show 1 ≤ 15; decide), ?_⟩
    have C6 := C5.disp g5 s5 e5 F5 (X := .ref a5) fun up => ⟨⟨Th.tup na5 (up _ _ na5 ka5) (by decide) (fun x hx => by cases hx), fun ys hy => by rw [no_lst (up _ _ na5 ka5) (fun _ z => nomatch z)] at hy; cases hy⟩, rowsB_none (no_lst (up _ _ na5 ka5) fun _ z => nomatch z)⟩
    have C6 : Bag P w K fe (upd Hb5_0 d5 (.dK (mergeK [] [(Sum.inr "r", .ref a5)]))) _ := C6
    generalize (upd Hb5_0 d5 (.dK (mergeK [] [(Sum.inr "r", .ref a5)]))) = H6 at C6 ⊢
    intro d6 g6
    have F6 := C6.fd.new g6 (.dK [])
    have e6 : upd H6 d6 (.dK []) d6 = some (.dK []) := upd_same
    have s6 : Same H6 (upd H6 d6 (.dK [])) := same_new g6 _
    generalize (upd H6 d6 (.dK [])) = Ha6 at F6 e6 s6 ⊢
    refine ⟨e6, [(Sum.inr "r", .non)], rfl, (by show 1 ≤ 15; decide), ?_⟩
    have C7 := C6.disp g6 s6 e6 F6 (X := .non) fun up => ⟨⟨Th.non, fun ys hy => by cases hy⟩, rfl⟩
    have C7 : Bag P w K fe (upd Ha6 d6 (.dK (mergeK [] [(Sum.inr "r", .non)]))) _ := C7
    generalize (upd Ha6 d6 (.dK (mergeK [] [(Sum.inr "r", .non)]))) = H7 at C7 ⊢
    intro d7 g7
    have F7 := C7.fd.new g7 (.dK [])
    have e7 : upd H7 d7 (.dK []) d7 = some (.dK []) := upd_same
    have s7 : Same H7 (upd H7 d7 (.dK [])) := same_new g7 _
    generalize (upd H7 d7 (.dK [])) = Ha7 at F7 e7 s7 ⊢
    intro a7 ma7
    have F7 := F7.new ma7 (.dK [])
    have ka7 : upd Ha7 a7 (.dK []) a7 = some (.dK []) := upd_same
    have na7 : a7 ≠ d7 := (ne_of_none e7 ma7).symm
    have e7 := (same_new ma7 (.dK [])) _ _ e7
    have s7 := s7.trans (same_new ma7 (.dK []))
    generalize (upd Ha7 a7 (.dK [])) = Hb7_0 at F7 e7 s7 ka7 ⊢
    refine ⟨e7, [(Sum.inr "r", .ref a7)], rfl, (by show 1 ≤ 15; decide), ?_⟩
    have C8 := C7.disp g7 s7 e7 F7 (X := .ref a7) fun up => ⟨⟨Th.dic na7 (up _ _ na7 ka7), fun ys hy => by rw [no_lst (up _ _ na7 ka7) (fun _ z => nomatch z)] at hy; cases hy⟩, rowsB_none (no_lst (up _ _ na7 ka7) fun _ z => nomatch z)⟩
    have C8 : Bag P w K fe (upd Hb7_0 d7 (.dK (mergeK [] [(Sum.inr "r", .ref a7)]))) _ := C8
    generalize (upd Hb7_0 d7 (.dK (mergeK [] [(Sum.inr "r", .ref a7)]))) = H8 at C8 ⊢
    intro d8 g8
    have F8 := C8.fd.new g8 (.dK [])
    have e8 : upd H8 d8 (.dK []) d8 = some (.dK []) := upd_same
    have s8 : Same H8 (upd H8 d8 (.dK [])) := same_new g8 _
    generalize (upd H8 d8 (.dK [])) = Ha8 at F8 e8 s8 ⊢
    refine ⟨(by show 0 ≤ sizeLine; decide), fun a8 ma8 => ?_⟩
    have F8 := F8.new ma8 (.tup [])
    have ka8 : upd Ha8 a8 (.tup []) a8 = some (.tup []) := upd_same
    have na8 : a8 ≠ d8 := (ne_of_none e8 ma8).symm
    have e8 := (same_new ma8 (.tup [])) _ _ e8
    have s8 := s8.trans (same_new ma8 (.tup []))
    generalize (upd Ha8 a8 (.tup [])) = Hb8_0 at F8 e8 s8 ka8 ⊢
    refine ⟨(by show 1 ≤ sizeLine; decide), fun b8 mb8 => ?_⟩
    have F8 := F8.new mb8 (.lst [.ref a8])
    have kb8 : upd Hb8_0 b8 (.lst [.ref a8]) b8 = some (.lst [.ref a8]) := upd_same
    have nb8 : b8 ≠ d8 := (ne_of_none e8 mb8).symm
    have ka8 := (same_new mb8 (.lst [.ref a8])) _ _ ka8
    have e8 := (same_new mb8 (.lst [.ref a8])) _ _ e8
    have s8 := s8.trans (same_new mb8 (.lst [.ref a8]))
    generalize (upd Hb8_0 b8 (.lst [.ref a8])) = Hb8_1 at F8 e8 s8 ka8 kb8 ⊢
    refine ⟨e8, [(Sum.inr "r", .ref b8)], rfl, (by show 1 ≤ 15; decide), ?_⟩
    have C9 := C8.disp g8 s8 e8 F8 (X := .ref b8) fun up => by
      have ka := up _ _ na8 ka8
      have kb := up _ _ nb8 kb8
      have th : Th d8 100 _ 4 (.ref a8) := Th.tup na8 ka (by decide) (fun x hx => by cases hx)
      refine ⟨⟨Th.lst nb8 kb, fun ys hy => ?_⟩, ?_⟩
      · rw [lstOf_ref kb] at hy
        cases hy
        refine ⟨by show 1 ≤ 100; decide, fun y hy => ?_⟩
        rw [List.mem_singleton.mp hy]
        exact th
      · rw [rowsB_some (lstOf_ref kb), List.map_singleton, rowB_some (tupOf_ref ka)]
        rfl
    have C9 : Bag P w K fe (upd Hb8_1 d8 (.dK (mergeK [] [(Sum.inr "r", .ref b8)]))) _ := C9
    generalize (upd Hb8_1 d8 (.dK (mergeK [] [(Sum.inr "r", .ref b8)]))) = H9 at C9 ⊢
    intro d9 g9
    have F9 := C9.fd.new g9 (.dK [])
    have e9 : upd H9 d9 (.dK []) d9 = some (.dK []) := upd_same
    have s9 : Same H9 (upd H9 d9 (.dK [])) := same_new g9 _
    generalize (upd H9 d9 (.dK [])) = Ha9 at F9 e9 s9 ⊢
    refine ⟨(by show 1 ≤ sizeLine; decide), fun a9 ma9 => ?_⟩
    have F9 := F9.new ma9 (.lst [.str "a"])
    have ka9 : upd Ha9 a9 (.lst [.str "a"]) a9 = some (.lst [.str "a"]) := upd_same
    have na9 : a9 ≠ d9 := (ne_of_none e9 ma9).symm
    have e9 := (same_new ma9 (.lst [.str "a"])) _ _ e9
    have s9 := s9.trans (same_new ma9 (.lst [.str "a"]))
    generalize (upd Ha9 a9 (.lst [.str "a"])) = Hb9_0 at F9 e9 s9 ka9 ⊢
    refine ⟨(by show 1 ≤ sizeLine; decide), fun b9 mb9 => ?_⟩
    have F9 := F9.new mb9 (.lst [.ref a9])
    have kb9 : upd Hb9_0 b9 (.lst [.ref a9]) b9 = some (.lst [.ref a9]) := upd_same
    have nb9 : b9 ≠ d9 := (ne_of_none e9 mb9).symm
    have ka9 := (same_new mb9 (.lst [.ref a9])) _ _ ka9
    have e9 := (same_new mb9 (.lst [.ref a9])) _ _ e9
    have s9 := s9.trans (same_new mb9 (.lst [.ref a9]))
    generalize (upd Hb9_0 b9 (.lst [.ref a9])) = Hb9_1 at F9 e9 s9 ka9 kb9 ⊢
    refine ⟨e9, [(Sum.inr "r", .ref b9)], rfl, (by show 1 ≤ 15; decide), ?_⟩
    have C10 := C9.disp g9 s9 e9 F9 (X := .ref b9) fun up => by
      have ka := up _ _ na9 ka9
      have kb := up _ _ nb9 kb9
      have th : Th d9 100 _ 4 (.ref a9) := Th.lst na9 ka
      refine ⟨⟨Th.lst nb9 kb, fun ys hy => ?_⟩, ?_⟩
      · rw [lstOf_ref kb] at hy
        cases hy
        refine ⟨by show 1 ≤ 100; decide, fun y hy => ?_⟩
        rw [List.mem_singleton.mp hy]
        exact th
      · rw [rowsB_some (lstOf_ref kb), List.map_singleton, rowB_none (no_tup ka fun _ z => nomatch z)]
        rfl
    have C10 : Bag P w K fe (upd Hb9_1 d9 (.dK (mergeK [] [(Sum.inr "r", .ref b9)]))) _ := C10
    generalize (upd Hb9_1 d9 (.dK (mergeK [] [(Sum.inr "r", .ref b9)]))) = H10 at C10 ⊢
    refine ⟨(by show 12 ≤ sizeLine; decide), fun lp hlp => ?_⟩
    have C11 := C10.new0 hlp (.lst [.non, .bl true, .int 0, .str "", .ref p1, .ref p2, .ref p5, .ref d5, .ref d6, .ref d7, .ref d8, .ref d9])
    have e11 : upd H10 lp (.lst [.non, .bl true, .int 0, .str "", .ref p1, .ref p2, .ref p5, .ref d5, .ref d6, .ref d7, .ref d8, .ref d9]) lp = some (.lst [.non, .bl true, .int 0, .str "", .ref p1, .ref p2, .ref p5, .ref d5, .ref d6, .ref d7, .ref d8, .ref d9]) := upd_same
    have C11 : Bag P w K fe _ [.non, .bl true, .int 0, .str "", .ref p1, .ref p2, .ref p5, .ref d5, .ref d6, .ref d7, .ref d8, .ref d9] := C11
    generalize (upd H10 lp (.lst [.non, .bl true, .int 0, .str "", .ref p1, .ref p2, .ref p5, .ref d5, .ref d6, .ref d7, .ref d8, .ref d9])) = H11 at C11 e11 ⊢
    generalize ([.non, .bl true, .int 0, .str "", .ref p1, .ref p2, .ref p5, .ref d5, .ref d6, .ref d7, .ref d8, .ref d9] : List V) = L at C11 e11 ⊢
    refine ⟨lp, rfl, ⟨_, SqL.of e11⟩, for_list (K := K) (a := lp) (xs := L) (fun j σ H12 => ∃ y7 : Option V, σ = [some (.ref a), some (.ref fe), x2, x3, x4, x5, x6, y7, none] ∧ Same H11 H12) ⟨_, rfl, Same.refl H11⟩ ?_ ?_ ?_⟩
    · rintro j σ H12 hj ⟨y7, rfl, s12⟩
      exact SqL.of (s12 _ _ e11)
    · rintro j x σ H12 hx ⟨y7, rfl, s12⟩
      refine ⟨_, rfl, x, false, rfl, tabV_same (C11.al x (List.mem_of_getElem? hx)) s12, fun H13 s13 => ⟨_, _, rfl, rfl, _, rfl, ?_⟩⟩
      refine iteF ?_
      exact ⟨_, rfl, s12.trans s13⟩
    · rintro σ H12 ⟨y7, rfl, s12⟩
      exact tl _ _ ⟨fe, x2, x3, x4, x5, x6, y7, rfl, feed_same C11.fd s12⟩
  case refine_1 =>
    rintro σ H1 ⟨fe, x2, x3, x4, x5, x6, x7, rfl, hF1⟩
    intro d g
    have nd := hF1.nef g
    have F0 := hF1.new g (.dK [])
    have e0 : upd H1 d (.dK []) d = some (.dK []) := upd_same
    generalize (upd H1 d (.dK [])) = Ha at F0 e0 ⊢
    refine ⟨_, rfl, fe, 30, rfl, F0, by decide, by decide, fun i2 H2 j0 j1 hF2 ex2 => ?_⟩
    have e2 := ex2 _ _ nd e0
    refine ⟨_, _, rfl, rfl, _, rfl, by omega, by omega, fun j m ys H3 => Same H2 H3 ∧ j ≤ (55 + i2).toNat ∧ m = (55 + i2).toNat - j ∧ ys.length = j ∧ ∀ y ∈ ys, ∃ b z, y = .ref b ∧ b ≠ d ∧ H3 b = some (.tup [.str "a", .str z]) ∧ isVal z = true ∧ z.length ≤ 100, ⟨_, Same.refl H2, Nat.zero_le _, rfl, rfl, fun y hy => by cases hy⟩, ?_⟩
    rintro j m ys H3 ⟨s3, hj, rfl, hl, hy⟩
    by_cases lt : j < (55 + i2).toNat
    · refine .inr ⟨lt, by rw [hl]; exact small1000 (by omega), ?_⟩
      rintro v H4 ⟨rfl, rfl⟩
      have nj := num_is (j := j) (by omega)
      refine rd_true ?_
      refine ⟨_, rfl, _, rfl, log_small (by omega), ?_⟩
      refine ⟨(by show 2 ≤ sizeLine; decide), fun t ht => ?_⟩
      have s5 : Same H4 (upd H4 t (.tup [.str "a", .str (Str.ofString (toString (0 + (j : Int))))])) := same_new ht _
      refine ⟨(55 + i2).toNat - (j + 1), by omega, s3.trans s5, lt, rfl, by rw [List.length_append, hl]; rfl, fun y hy' => ?_⟩
      rcases List.mem_append.mp hy' with q | q
      · obtain ⟨b, z, h1, h2, h3, h4⟩ := hy y q
        exact ⟨b, z, h1, h2, s5 _ _ h3, h4⟩
      · rw [List.mem_singleton.mp q]
        exact ⟨t, _, rfl, (ne_of_none (s3 _ _ e2) ht).symm, upd_same, nj.1, nj.2⟩
    refine .inl ⟨by show (55 + i2).toNat ≤ j; omega, by rw [hl]; exact Nat.le_of_lt (small1000 (by omega)), fun l hll => ?_⟩
    have ly : ys.length ≤ 85 := by omega
    have s4 : Same H3 (upd H3 l (.lst ys)) := same_new hll _
    have e4 := s4 _ _ (s3 _ _ e2)
    have hl4 : upd H3 l (.lst ys) l = some (.lst ys) := upd_same
    have nld : l ≠ d := (ne_of_none (s3 _ _ e2) hll).symm
    have hF4 := feed_same hF2 (s3.trans s4)
    have hy4 : ∀ y ∈ ys, ∃ b z, y = .ref b ∧ b ≠ d ∧ upd H3 l (.lst ys) b = some (.tup [.str "a", .str z]) ∧ isVal z = true ∧ z.length ≤ 100 := fun y q => by
      obtain ⟨b, z, h1, h2, h3, h4⟩ := hy y q
      exact ⟨b, z, h1, h2, s4 _ _ h3, h4⟩
    generalize (upd H3 l (.lst ys)) = H4 at s4 e4 hl4 hF4 hy4 ⊢
    refine ⟨e4, [(Sum.inr "r", .ref l)], rfl, (by show 1 ≤ 15; decide), ?_⟩
    have hd5 : upd H4 d (.dK (mergeK [] [(Sum.inr "r", .ref l)])) d = some (.dK [(Sum.inr "r", .ref l)]) := upd_same
    have up5 : ∀ b o, b ≠ d → H4 b = some o → upd H4 d (.dK (mergeK [] [(Sum.inr "r", .ref l)])) b = some o := fun b o n h => by rw [upd_ne n]; exact h
    have hF5 : Feed K fe (upd H4 d (.dK (mergeK [] [(Sum.inr "r", .ref l)]))) := hF4.dic e4 nd _
    generalize (upd H4 d (.dK (mergeK [] [(Sum.inr "r", .ref l)]))) = H5 at hd5 up5 hF5 ⊢
    have hl5 := up5 _ _ nld hl4
    have hy5 : ∀ y ∈ ys, ∃ b z, y = .ref b ∧ b ≠ d ∧ H5 b = some (.tup [.str "a", .str z]) ∧ isVal z = true ∧ z.length ≤ 100 := fun y q => by
      obtain ⟨b, z, h1, h2, h3, h4⟩ := hy4 y q
      exact ⟨b, z, h1, h2, up5 _ _ h2 h3, h4⟩
    clear hy4 up5 hl4 e4 s4 hy hll
    have wth : ∀ {H' : Hp} {g y : V} {q : Addr}, Same H5 H' → H5 q = none ∨ q = d → y ∈ ys → Th q 100 H' 4 y ∧ rowB H' y = true := fun {H' g y q} s hq hy => by
      obtain ⟨b, z, rfl, nb, hb, hz, lz⟩ := hy5 y hy
      have hb' := s _ _ hb
      have nq : b ≠ q := by
        rcases hq with hq | rfl
        · exact ne_of_none hb hq
        · exact nb
      refine ⟨Th.tup nq hb' (by show 2 ≤ 100; decide) fun x hx => ?_, ?_⟩
      · rcases List.mem_cons.mp hx with rfl | hx
        · exact Th.str (by decide +kernel)
        · rw [List.mem_singleton.mp hx]
          exact Th.str lz
      · rw [rowB_some (tupOf_ref hb')]
        show (decide ((1 : Int) ≤ 2) && (decide ((2 : Int) ≤ 4) && (valB (.str "a") && (valB (.str z) && true)))) = true
        rw [val_a, show valB (.str z) = true from hz]
        rfl
    have tv : TabV P w K H5 (.ref d) true := by
      refine dicV hd5 ⟨Th.lst nld hl5, fun zs hz => ?_⟩ ?_
      · rw [lstOf_ref hl5] at hz
        cases hz
        exact ⟨by omega, fun y hy => (wth (g := .non) (Same.refl H5) (.inr rfl) hy).1⟩
      · rw [rowsB_some (lstOf_ref hl5), List.all_map, List.all_eq_true]
        exact fun y hy => (wth (g := .non) (q := d) (Same.refl H5) (.inr rfl) hy).2
    refine ⟨_, rfl, .ref d, true, rfl, tv, fun H6 s6 => ⟨_, _, rfl, rfl, _, rfl, ?_⟩⟩
    refine iteF ?_
    intro d2 g2
    have nd2 := (feed_same hF5 s6).nef g2
    have F7 := (feed_same hF5 s6).new g2 (.dK [])
    have e7 : upd H6 d2 (.dK []) d2 = some (.dK []) := upd_same
    have s7 : Same H6 (upd H6 d2 (.dK [])) := same_new g2 _
    generalize (upd H6 d2 (.dK [])) = H7 at F7 e7 s7 ⊢
    have s57 := s6.trans s7
    have gw : DGet H7 d (.str "r") (some (.ref l)) := .inl ⟨_, Sum.inr "r", .inl (s57 _ _ hd5), rfl, rfl⟩
    refine ⟨_, rfl, d, _, rfl, gw, ?_⟩
    refine ⟨(by show 2 ≤ sizeLine; decide), fun t ht => ?_⟩
    have s8 : Same H7 (upd H7 t (.tup [.str "a", .str "A"])) := same_new ht _
    have t8 : upd H7 t (.tup [.str "a", .str "A"]) t = some (.tup [.str "a", .str "A"]) := upd_same
    have nt : t ≠ d2 := (ne_of_none e7 ht).symm
    generalize (upd H7 t (.tup [.str "a", .str "A"])) = H8 at s8 t8 ⊢
    refine ⟨(by show 1 ≤ sizeLine; decide), fun q hq => ?_⟩
    have s9 : Same H8 (upd H8 q (.lst [.ref t])) := same_new hq _
    have q9 : upd H8 q (.lst [.ref t]) q = some (.lst [.ref t]) := upd_same
    generalize (upd H8 q (.lst [.ref t])) = H9 at s9 q9 ⊢
    have s59 := s57.trans (s8.trans s9)
    refine ⟨_, _, _, _, rfl, rfl, s59 _ _ hl5, q9, Nat.le_of_lt (small1000 (by show ys.length + 1 ≤ 1000; omega)), fun p hp => ?_⟩
    have s10 : Same H9 (upd H9 p (.lst (ys ++ [.ref t]))) := same_new hp _
    have p10 : upd H9 p (.lst (ys ++ [.ref t])) p = some (.lst (ys ++ [.ref t])) := upd_same
    have s710 := (s8.trans s9).trans s10
    have np : p ≠ d2 := (ne_of_none (s9 _ _ (s8 _ _ e7)) hp).symm
    generalize (upd H9 p (.lst (ys ++ [.ref t]))) = H10 at s10 p10 s710 ⊢
    have e10 := s710 _ _ e7
    have F10 := feed_same F7 s710
    refine ⟨e10, [(Sum.inr "r", .ref p)], rfl, (by show 1 ≤ 15; decide), ?_⟩
    have hd11 : upd H10 d2 (.dK (mergeK [] [(Sum.inr "r", .ref p)])) d2 = some (.dK [(Sum.inr "r", .ref p)]) := upd_same
    have up11 : ∀ b o, b ≠ d2 → H10 b = some o → upd H10 d2 (.dK (mergeK [] [(Sum.inr "r", .ref p)])) b = some o := fun b o n h => by rw [upd_ne n]; exact h
    have F11 : Feed K fe (upd H10 d2 (.dK (mergeK [] [(Sum.inr "r", .ref p)]))) := F10.dic e10 nd2 _
    have s511 : Same H5 (upd H10 d2 (.dK (mergeK [] [(Sum.inr "r", .ref p)]))) := fun b o h => by
      rw [upd_ne (ne_of_none (s6 _ _ h) g2)]
      exact s710 _ _ (s57 _ _ h)
    generalize (upd H10 d2 (.dK (mergeK [] [(Sum.inr "r", .ref p)]))) = H11 at hd11 up11 F11 s511 ⊢
    have p11 := up11 _ _ np p10
    have t11 := up11 _ _ nt (s10 _ _ (s9 _ _ t8))
    have g5 : H5 d2 = none := same_none s6 g2
    have tv2 : TabV P w K H11 (.ref d2) false := by
      refine dicV hd11 ⟨Th.lst np p11, fun zs hz => ?_⟩ ?_
      · rw [lstOf_ref p11] at hz
        cases hz
        refine ⟨by rw [List.length_append]; show ys.length + 1 ≤ 100; omega, fun y hy => ?_⟩
        rcases List.mem_append.mp hy with hy | hy
        · exact (wth (g := .non) s511 (.inl g5) hy).1
        · rw [List.mem_singleton.mp hy]
          refine Th.tup nt t11 (by show 2 ≤ 100; decide) fun x hx => ?_
          rcases List.mem_cons.mp hx with rfl | hx
          · exact Th.str (by decide +kernel)
          · rw [List.mem_singleton.mp hx]
            exact Th.str (by decide +kernel)
      · have rb : rowB H11 (.ref t) = false := by
          rw [rowB_some (tupOf_ref t11)]
          show (decide ((1 : Int) ≤ 2) && (decide ((2 : Int) ≤ 4) && (valB (.str "a") && (valB (.str "A") && true)))) = false
          rw [val_a, val_A]
          rfl
        rw [rowsB_some (lstOf_ref p11), List.map_append, List.all_append, List.map_singleton, rb]
        show (_ && (false && true)) = false
        rw [Bool.false_and, Bool.and_false]
    refine ⟨.ref d2, false, rfl, tv2, fun H12 s12 => ⟨_, _, rfl, rfl, _, rfl, ?_⟩⟩
    refine iteF ?_
    have F12 := feed_same F11 s12
    intro d3 g3
    have e13 : upd H12 d3 (.dK []) d3 = some (.dK []) := upd_same
    have F13 := F12.new g3 (.dK [])
    generalize (upd H12 d3 (.dK [])) = H13 at e13 F13 ⊢
    have tv3 : TabV P w K H13 (.ref d3) true := .inr ⟨100, 4, d3, _, [], [], rfl, ⟨e13, .inl ⟨rfl, rfl⟩, List.nodup_nil, by decide, fun kv h => by cases h⟩, by decide, rfl⟩
    refine ⟨.ref d3, true, rfl, tv3, fun H14 s14 => ⟨_, _, rfl, rfl, _, rfl, ?_⟩⟩
    refine iteT ?_
    have F14 := feed_same F13 s14
    intro d4 g4
    have nd4 := F14.nef g4
    have e15 : upd H14 d4 (.dK []) d4 = some (.dK []) := upd_same
    have F15 := F14.new g4 (.dK [])
    generalize (upd H14 d4 (.dK [])) = H15 at e15 F15 ⊢
    refine ⟨(by show 0 ≤ sizeLine; decide), fun q4 h4 => ?_⟩
    have s16 : Same H15 (upd H15 q4 (.lst [])) := same_new h4 _
    have q16 : upd H15 q4 (.lst []) q4 = some (.lst []) := upd_same
    have nq4 : q4 ≠ d4 := (ne_of_none e15 h4).symm
    generalize (upd H15 q4 (.lst [])) = H16 at s16 q16 ⊢
    have e16 := s16 _ _ e15
    refine ⟨e16, [(Sum.inr "r", .ref q4)], rfl, (by show 1 ≤ 15; decide), ?_⟩
    have hd17 : upd H16 d4 (.dK (mergeK [] [(Sum.inr "r", .ref q4)])) d4 = some (.dK [(Sum.inr "r", .ref q4)]) := upd_same
    have q17 : upd H16 d4 (.dK (mergeK [] [(Sum.inr "r", .ref q4)])) q4 = some (.lst []) := by rw [upd_ne nq4]; exact q16
    have F17 : Feed K fe (upd H16 d4 (.dK (mergeK [] [(Sum.inr "r", .ref q4)]))) := (feed_same F15 s16).dic e16 nd4 _
    generalize (upd H16 d4 (.dK (mergeK [] [(Sum.inr "r", .ref q4)]))) = H17 at hd17 q17 F17 ⊢
    have tv4 : TabV P w K H17 (.ref d4) true := by
      refine dicV hd17 ⟨Th.lst nq4 q17, fun zs hz => ?_⟩ ?_
      · rw [lstOf_ref q17] at hz
        cases hz
        exact ⟨by decide, fun y hy => by cases hy⟩
      · rw [rowsB_some (lstOf_ref q17)]
        rfl
    refine ⟨.ref d4, true, rfl, tv4, fun H18 s18 => ⟨_, _, rfl, rfl, _, rfl, ?_⟩⟩
    refine iteT ?_
    have F18 := feed_same F17 s18
    intro d5 g5'
    have nd5 := F18.nef g5'
    have e19 : upd H18 d5 (.dK []) d5 = some (.dK []) := upd_same
    have F19 := F18.new g5' (.dK [])
    generalize (upd H18 d5 (.dK [])) = H19 at e19 F19 ⊢
    refine ⟨(by show 0 ≤ sizeLine; decide), fun q5 h5 => ?_⟩
    have s20 : Same H19 (upd H19 q5 (.lst [])) := same_new h5 _
    have q20 : upd H19 q5 (.lst []) q5 = some (.lst []) := upd_same
    have nq5 : q5 ≠ d5 := (ne_of_none e19 h5).symm
    have nqf : q5 ≠ fe := F19.nef h5
    generalize (upd H19 q5 (.lst [])) = H20 at s20 q20 ⊢
    have e20 := s20 _ _ e19
    refine ⟨e20, [(Sum.inr "r", .ref q5)], rfl, (by show 1 ≤ 15; decide), ?_⟩
    have hd21 : upd H20 d5 (.dK (mergeK [] [(Sum.inr "r", .ref q5)])) d5 = some (.dK [(Sum.inr "r", .ref q5)]) := upd_same
    have q21 : upd H20 d5 (.dK (mergeK [] [(Sum.inr "r", .ref q5)])) q5 = some (.lst []) := by rw [upd_ne nq5]; exact q20
    generalize (upd H20 d5 (.dK (mergeK [] [(Sum.inr "r", .ref q5)]))) = H21 at hd21 q21 ⊢
    refine ⟨fe, d5, [⟨"r", q5, [], []⟩], rfl, ⟨nd5, hd21, by simp, by show 1 ≤ 3; decide, fun e he => ?_⟩, fun p6 fs H22 s22 hf => ?_⟩
    · rw [List.mem_singleton.mp he]
      exact ⟨(by show ("r" : Str) ∈ namesPool; decide +kernel), nqf, q21, .nil, fun r h => (by cases h), Nat.zero_le _⟩
    · have efs : fs = [] := by
        have h1 := hf.2.2.1
        have h2 : ((sortS (([⟨"r", q5, [], []⟩] : List En).map (·.nm))).filter fun z => !(rowsE [⟨"r", q5, [], []⟩] z).isEmpty) = [] := by
          rw [List.filter_eq_nil_iff]
          intro z hz
          have : z ∈ ([⟨"r", q5, [], []⟩] : List En).map (·.nm) := (sortS_perm _).mem_iff.mp hz
          rw [List.mem_singleton.mp this, rowsE_of (es := [En.mk "r" q5 [] []]) (by simp) (e := En.mk "r" q5 [] []) List.mem_cons_self]
          exact Bool.false_ne_true
        rw [h2] at h1
        exact List.map_eq_nil_iff.mp h1
      have hp22 := hf.1
      rw [efs] at hp22
      intro d6 g6
      refine ⟨p6, d6, [], [], rfl, rfl, (same_new g6 _) _ _ hp22, upd_same, .nil, ?_⟩
      exact k _
end
end K05

set_option Elab.async false
set_option linter.all false
set_option maxRecDepth 100000
set_option maxHeartbeats 4000000
namespace K05
open PySem PySem.Spec PyProof.Rows L2
theorem scr_of {K : PySem.W.Frag} {H : Hp} {a : Addr} {xs : List V} (hO : Only H) (h : SqL K H a xs) : Scr K H a xs := by
  rcases h with (h | h) | h
  · rcases hO a with e | ⟨o, ys, e⟩
    · rw [e] at h; cases h
    · rw [e] at h; cases h
  · exact .inl h
  · exact .inr h
theorem all_mk {l : PySem.W.OpenLaw} {w : World} {K : PySem.W.Frag} {h : Heap} {mg : Str → Option Value} {fa f1 f2 f3 f4 f5 f6 f7 f8 f9 f10 f11 f12 f13 f14 f15 f16 f17 f18 f19 f20 f21 : Addr} (X : K.In h) (G : h.Ns mainGlobals mg) (hfa : mg "law" = some (.ref fa))
    {od1 od2 od3 od4 od5 od6 od7 od8 od9 od10 od11 od12 od13 od14 od15 od16 od17 od18 od19 od20 od21 an1 an2 an3 an4 an5 an6 an7 an8 an9 an10 an11 an12 an13 an14 an15 an16 an17 an18 an19 an20 an21 : Option Addr} {sl1 sl2 sl3 sl4 sl5 sl6 sl7 sl8 sl9 sl10 sl11 sl12 sl13 sl14 sl15 sl16 sl17 sl18 sl19 sl20 sl21 : Array (Option Value)} {oc1 oc2 oc3 oc4 oc5 oc6 oc7 oc8 oc9 oc10 oc11 oc12 oc13 oc14 oc15 oc16 oc17 oc18 oc19 oc20 oc21 kV1 kV2 kV3 kV4 kV5 kV6 kV7 kV8 kV9 kV10 kV11 kV12 kV13 kV14 kV15 kV16 kV17 kV18 kV19 kV20 kV21 dc1 dc2 dc3 dc4 dc5 dc6 dc7 dc8 dc9 dc10 dc11 dc12 dc13 dc14 dc15 dc16 dc17 dc18 dc19 dc20 dc21 pm1 pm2 pm3 pm4 pm5 pm6 pm7 pm8 pm9 pm10 pm11 pm12 pm13 pm14 pm15 pm16 pm17 pm18 pm19 pm20 pm21 cd1 cd2 cd3 cd4 cd5 cd6 cd7 cd8 cd9 cd10 cd11 cd12 cd13 cd14 cd15 cd16 cd17 cd18 cd19 cd20 cd21 ct1 ct2 ct3 ct4 ct5 ct6 ct7 ct8 ct9 ct10 ct11 ct12 ct13 ct14 ct15 ct16 ct17 ct18 ct19 ct20 ct21 : Value} {t0 t1 t2 : Tok}
    (a1 : PySem.W.nsIn K mainGlobals "is_value" = some (some (.ref f1))) (l1 : K.lookup f1 = some ⟨oc1, od1, .func (PySem.W.fnOf "is_value" "is_value" (defArgs s_is_value) (defBody s_is_value) (defScope s_is_value) .none kV1 dc1 pm1 an1 cd1 ct1), sl1⟩) (c1 : PySem.W.codeIn K cd1 "is_value" = true) (k1 : PySem.W.keepIn K (.ref f1) = true)
    (a2 : PySem.W.nsIn K mainGlobals "is_row" = some (some (.ref f2))) (l2 : K.lookup f2 = some ⟨oc2, od2, .func (PySem.W.fnOf "is_row" "is_row" (defArgs s_is_row) (defBody s_is_row) (defScope s_is_row) .none kV2 dc2 pm2 an2 cd2 ct2), sl2⟩) (c2 : PySem.W.codeIn K cd2 "is_row" = true) (k2 : PySem.W.keepIn K (.ref f2) = true)
    (a3 : PySem.W.nsIn K mainGlobals "are_rows" = some (some (.ref f3))) (l3 : K.lookup f3 = some ⟨oc3, od3, .func (PySem.W.fnOf "are_rows" "are_rows" (defArgs s_are_rows) (defBody s_are_rows) (defScope s_are_rows) .none kV3 dc3 pm3 an3 cd3 ct3), sl3⟩) (c3 : PySem.W.codeIn K cd3 "are_rows" = true) (k3 : PySem.W.keepIn K (.ref f3) = true)
    (a4 : PySem.W.nsIn K mainGlobals "is_tables" = some (some (.ref f4))) (l4 : K.lookup f4 = some ⟨oc4, od4, .func (PySem.W.fnOf "is_tables" "is_tables" (defArgs s_is_tables) (defBody s_is_tables) (defScope s_is_tables) .none kV4 dc4 pm4 an4 cd4 ct4), sl4⟩) (c4 : PySem.W.codeIn K cd4 "is_tables" = true) (k4 : PySem.W.keepIn K (.ref f4) = true)
    (a5 : PySem.W.nsIn K mainGlobals "rows_of" = some (some (.ref f5))) (l5 : K.lookup f5 = some ⟨oc5, od5, .func (PySem.W.fnOf "rows_of" "rows_of" (defArgs s_rows_of) (defBody s_rows_of) (defScope s_rows_of) .none kV5 dc5 pm5 an5 cd5 ct5), sl5⟩) (c5 : PySem.W.codeIn K cd5 "rows_of" = true) (k5 : PySem.W.keepIn K (.ref f5) = true)
    (a6 : PySem.W.nsIn K mainGlobals "sorted_tables" = some (some (.ref f6))) (l6 : K.lookup f6 = some ⟨oc6, od6, .func (PySem.W.fnOf "sorted_tables" "sorted_tables" (defArgs s_sorted_tables) (defBody s_sorted_tables) (defScope s_sorted_tables) .none kV6 dc6 pm6 an6 cd6 ct6), sl6⟩) (c6 : PySem.W.codeIn K cd6 "sorted_tables" = true) (k6 : PySem.W.keepIn K (.ref f6) = true)
    (a7 : PySem.W.nsIn K mainGlobals "_law_feed" = some (some (.ref f7))) (l7 : K.lookup f7 = some ⟨oc7, od7, .func (PySem.W.fnOf "_law_feed" "_law_feed" (defArgs s_l_feed) (defBody s_l_feed) (defScope s_l_feed) .none kV7 dc7 pm7 an7 cd7 ct7), sl7⟩) (c7 : PySem.W.codeIn K cd7 "_law_feed" = true) (k7 : PySem.W.keepIn K (.ref f7) = true)
    (a8 : PySem.W.nsIn K mainGlobals "_law_draw" = some (some (.ref f8))) (l8 : K.lookup f8 = some ⟨oc8, od8, .func (PySem.W.fnOf "_law_draw" "_law_draw" (defArgs s_l_draw) (defBody s_l_draw) (defScope s_l_draw) .none kV8 dc8 pm8 an8 cd8 ct8), sl8⟩) (c8 : PySem.W.codeIn K cd8 "_law_draw" = true) (k8 : PySem.W.keepIn K (.ref f8) = true)
    (a9 : PySem.W.nsIn K mainGlobals "_law_pool" = some (some (.ref f9))) (l9 : K.lookup f9 = some ⟨oc9, od9, .func (PySem.W.fnOf "_law_pool" "_law_pool" (defArgs s_l_pool) (defBody s_l_pool) (defScope s_l_pool) .none kV9 dc9 pm9 an9 cd9 ct9), sl9⟩) (c9 : PySem.W.codeIn K cd9 "_law_pool" = true) (k9 : PySem.W.keepIn K (.ref f9) = true)
    (a10 : PySem.W.nsIn K mainGlobals "_law_names" = some (some (.ref f10))) (l10 : K.lookup f10 = some ⟨oc10, od10, .func (PySem.W.fnOf "_law_names" "_law_names" (defArgs s_l_names) (defBody s_l_names) (defScope s_l_names) .none kV10 dc10 pm10 an10 cd10 ct10), sl10⟩) (c10 : PySem.W.codeIn K cd10 "_law_names" = true) (k10 : PySem.W.keepIn K (.ref f10) = true)
    (a11 : PySem.W.nsIn K mainGlobals "_law_values" = some (some (.ref f11))) (l11 : K.lookup f11 = some ⟨oc11, od11, .func (PySem.W.fnOf "_law_values" "_law_values" (defArgs s_l_values) (defBody s_l_values) (defScope s_l_values) .none kV11 dc11 pm11 an11 cd11 ct11), sl11⟩) (c11 : PySem.W.codeIn K cd11 "_law_values" = true) (k11 : PySem.W.keepIn K (.ref f11) = true)
    (a12 : PySem.W.nsIn K mainGlobals "_law_length" = some (some (.ref f12))) (l12 : K.lookup f12 = some ⟨oc12, od12, .func (PySem.W.fnOf "_law_length" "_law_length" (defArgs s_l_length) (defBody s_l_length) (defScope s_l_length) .none kV12 dc12 pm12 an12 cd12 ct12), sl12⟩) (c12 : PySem.W.codeIn K cd12 "_law_length" = true) (k12 : PySem.W.keepIn K (.ref f12) = true)
    (a13 : PySem.W.nsIn K mainGlobals "_law_tables" = some (some (.ref f13))) (l13 : K.lookup f13 = some ⟨oc13, od13, .func (PySem.W.fnOf "_law_tables" "_law_tables" (defArgs s_l_tables) (defBody s_l_tables) (defScope s_l_tables) .none kV13 dc13 pm13 an13 cd13 ct13), sl13⟩) (c13 : PySem.W.codeIn K cd13 "_law_tables" = true) (k13 : PySem.W.keepIn K (.ref f13) = true)
    (a14 : PySem.W.nsIn K mainGlobals "_law_word" = some (some (.ref f14))) (l14 : K.lookup f14 = some ⟨oc14, od14, .func (PySem.W.fnOf "_law_word" "_law_word" (defArgs s_l_word) (defBody s_l_word) (defScope s_l_word) .none kV14 dc14 pm14 an14 cd14 ct14), sl14⟩) (c14 : PySem.W.codeIn K cd14 "_law_word" = true) (k14 : PySem.W.keepIn K (.ref f14) = true)
    (a15 : PySem.W.nsIn K mainGlobals "_law_row" = some (some (.ref f15))) (l15 : K.lookup f15 = some ⟨oc15, od15, .func (PySem.W.fnOf "_law_row" "_law_row" (defArgs s_l_row) (defBody s_l_row) (defScope s_l_row) .none kV15 dc15 pm15 an15 cd15 ct15), sl15⟩) (c15 : PySem.W.codeIn K cd15 "_law_row" = true) (k15 : PySem.W.keepIn K (.ref f15) = true)
    (a16 : PySem.W.nsIn K mainGlobals "_law_is" = some (some (.ref f16))) (l16 : K.lookup f16 = some ⟨oc16, od16, .func (PySem.W.fnOf "_law_is" "_law_is" (defArgs s_l_is) (defBody s_l_is) (defScope s_l_is) .none kV16 dc16 pm16 an16 cd16 ct16), sl16⟩) (c16 : PySem.W.codeIn K cd16 "_law_is" = true) (k16 : PySem.W.keepIn K (.ref f16) = true)
    (a17 : PySem.W.nsIn K mainGlobals "_law_odd" = some (some (.ref f17))) (l17 : K.lookup f17 = some ⟨oc17, od17, .func (PySem.W.fnOf "_law_odd" "_law_odd" (defArgs s_l_odd) (defBody s_l_odd) (defScope s_l_odd) .none kV17 dc17 pm17 an17 cd17 ct17), sl17⟩) (c17 : PySem.W.codeIn K cd17 "_law_odd" = true) (k17 : PySem.W.keepIn K (.ref f17) = true)
    (a18 : PySem.W.nsIn K mainGlobals "_law_bent" = some (some (.ref f18))) (l18 : K.lookup f18 = some ⟨oc18, od18, .func (PySem.W.fnOf "_law_bent" "_law_bent" (defArgs s_l_bent) (defBody s_l_bent) (defScope s_l_bent) .none kV18 dc18 pm18 an18 cd18 ct18), sl18⟩) (c18 : PySem.W.codeIn K cd18 "_law_bent" = true) (k18 : PySem.W.keepIn K (.ref f18) = true)
    (a19 : PySem.W.nsIn K mainGlobals "_law_copy" = some (some (.ref f19))) (l19 : K.lookup f19 = some ⟨oc19, od19, .func (PySem.W.fnOf "_law_copy" "_law_copy" (defArgs s_l_copy) (defBody s_l_copy) (defScope s_l_copy) .none kV19 dc19 pm19 an19 cd19 ct19), sl19⟩) (c19 : PySem.W.codeIn K cd19 "_law_copy" = true) (k19 : PySem.W.keepIn K (.ref f19) = true)
    (a20 : PySem.W.nsIn K mainGlobals "_law_sorted_right" = some (some (.ref f20))) (l20 : K.lookup f20 = some ⟨oc20, od20, .func (PySem.W.fnOf "_law_sorted_right" "_law_sorted_right" (defArgs s_l_sorted_right) (defBody s_l_sorted_right) (defScope s_l_sorted_right) .none kV20 dc20 pm20 an20 cd20 ct20), sl20⟩) (c20 : PySem.W.codeIn K cd20 "_law_sorted_right" = true) (k20 : PySem.W.keepIn K (.ref f20) = true)
    (a21 : PySem.W.nsIn K mainGlobals "law" = some (some (.ref f21))) (l21 : K.lookup f21 = some ⟨oc21, od21, .func (PySem.W.fnOf "law" "law" (defArgs s_law) (defBody s_law) (defScope s_law) .none kV21 dc21 pm21 an21 cd21 ct21), sl21⟩) (c21 : PySem.W.codeIn K cd21 "law" = true) (k21 : PySem.W.keepIn K (.ref f21) = true)
    (z0 : PySem.W.nsIn K mainGlobals "len" = some none)
    (z1 : PySem.W.nsIn K mainGlobals "abs" = some none)
    (z2 : PySem.W.nsIn K mainGlobals "range" = some none)
    (z3 : PySem.W.nsIn K mainGlobals "tuple" = some none)
    (z4 : PySem.W.nsIn K mainGlobals "list" = some none)
    (z5 : PySem.W.nsIn K mainGlobals "isinstance" = some none)
    (z6 : PySem.W.nsIn K mainGlobals "all" = some none)
    (z7 : PySem.W.nsIn K mainGlobals "str" = some none)
    (z8 : PySem.W.nsIn K mainGlobals "bool" = some none)
    (z9 : PySem.W.nsIn K mainGlobals "dict" = some none)
    (z10 : PySem.W.nsIn K mainGlobals "sorted" = some none)
    (z11 : PySem.W.nsIn K mainGlobals "set" = some none)
    (mc0 : PySem.W.nsIn K mainGlobals "SIGNS" = some (some (.str "abcdefghijklmnopqrstuvwxyz0123456789" t0)))
    (mc1 : PySem.W.nsIn K mainGlobals "MOST_SIGNS" = some (some (.int 8 t1)))
    (mc2 : PySem.W.nsIn K mainGlobals "MOST_TERMS" = some (some (.int 4 t2)))
    : ∃ fd : FuncData, (∀ (s : Shared) (v : Value), BindsTo s fd ⟨[v], []⟩ [("_law_script", v)]) ∧ ∀ base : Heap, K.In base → base.Ns mainGlobals mg → FnOk l.prog w K mg base CX0 5 fa fd ["_law_script"] (spLaw K) := by
  have e := hfa.symm.trans (PySem.W.mg_of X G a21)
  cases e
  have T : Txt K mg := ⟨PySem.W.mg_none_of X G z0, PySem.W.mg_none_of X G z1, PySem.W.mg_none_of X G z2, PySem.W.mg_none_of X G z3, PySem.W.mg_none_of X G z4, PySem.W.mg_none_of X G z5, PySem.W.mg_none_of X G z6, PySem.W.mg_none_of X G z7, PySem.W.mg_none_of X G z8, PySem.W.mg_none_of X G z9, PySem.W.mg_none_of X G z10, PySem.W.mg_none_of X G z11, ⟨_, PySem.W.mg_of X G mc0⟩, ⟨_, PySem.W.mg_of X G mc1⟩, ⟨_, PySem.W.mg_of X G mc2⟩⟩
  have F_is_value := fun_mk (st := s_is_value) l1 c1 k1
  have b_is_value := F_is_value.binds (ps := ["thing"]) fun _ _ _ _ _ _ us hl => match us, hl with | [_], _ => rfl
  have F_is_row := fun_mk (st := s_is_row) l2 c2 k2
  have b_is_row := F_is_row.binds (ps := ["thing"]) fun _ _ _ _ _ _ us hl => match us, hl with | [_], _ => rfl
  have F_are_rows := fun_mk (st := s_are_rows) l3 c3 k3
  have b_are_rows := F_are_rows.binds (ps := ["thing"]) fun _ _ _ _ _ _ us hl => match us, hl with | [_], _ => rfl
  have F_is_tables := fun_mk (st := s_is_tables) l4 c4 k4
  have b_is_tables := F_is_tables.binds (ps := ["thing"]) fun _ _ _ _ _ _ us hl => match us, hl with | [_], _ => rfl
  have F_rows_of := fun_mk (st := s_rows_of) l5 c5 k5
  have b_rows_of := F_rows_of.binds (ps := ["tables", "name"]) fun _ _ _ _ _ _ us hl => match us, hl with | [_, _], _ => rfl
  have F_sorted_tables := fun_mk (st := s_sorted_tables) l6 c6 k6
  have b_sorted_tables := F_sorted_tables.binds (ps := ["tables"]) fun _ _ _ _ _ _ us hl => match us, hl with | [_], _ => rfl
  have F_l_feed := fun_mk (st := s_l_feed) l7 c7 k7
  have b_l_feed := F_l_feed.binds (ps := ["_law_script"]) fun _ _ _ _ _ _ us hl => match us, hl with | [_], _ => rfl
  have F_l_draw := fun_mk (st := s_l_draw) l8 c8 k8
  have b_l_draw := F_l_draw.binds (ps := ["_law_feed_here", "_law_many"]) fun _ _ _ _ _ _ us hl => match us, hl with | [_, _], _ => rfl
  have F_l_pool := fun_mk (st := s_l_pool) l9 c9 k9
  have b_l_pool := F_l_pool.binds (ps := ["_law_feed_here", "_law_pool_here", "_law_many"]) fun _ _ _ _ _ _ us hl => match us, hl with | [_, _, _], _ => rfl
  have F_l_names := fun_mk (st := s_l_names) l10 c10 k10
  have b_l_names := F_l_names.binds (ps := ["_law_feed_here"]) fun _ _ _ _ _ _ us hl => match us, hl with | [_], _ => rfl
  have F_l_values := fun_mk (st := s_l_values) l11 c11 k11
  have b_l_values := F_l_values.binds (ps := ["_law_feed_here"]) fun _ _ _ _ _ _ us hl => match us, hl with | [_], _ => rfl
  have F_l_length := fun_mk (st := s_l_length) l12 c12 k12
  have b_l_length := F_l_length.binds (ps := ["_law_feed_here", "_law_name"]) fun _ _ _ _ _ _ us hl => match us, hl with | [_, _], _ => rfl
  have F_l_tables := fun_mk (st := s_l_tables) l13 c13 k13
  have b_l_tables := F_l_tables.binds (ps := ["_law_feed_here", "_law_names_here", "_law_values_here"]) fun _ _ _ _ _ _ us hl => match us, hl with | [_, _, _], _ => rfl
  have F_l_word := fun_mk (st := s_l_word) l14 c14 k14
  have b_l_word := F_l_word.binds (ps := ["_law_thing"]) fun _ _ _ _ _ _ us hl => match us, hl with | [_], _ => rfl
  have F_l_row := fun_mk (st := s_l_row) l15 c15 k15
  have b_l_row := F_l_row.binds (ps := ["_law_thing"]) fun _ _ _ _ _ _ us hl => match us, hl with | [_], _ => rfl
  have F_l_is := fun_mk (st := s_l_is) l16 c16 k16
  have b_l_is := F_l_is.binds (ps := ["_law_thing"]) fun _ _ _ _ _ _ us hl => match us, hl with | [_], _ => rfl
  have F_l_odd := fun_mk (st := s_l_odd) l17 c17 k17
  have b_l_odd := F_l_odd.binds (ps := ["_law_feed_here"]) fun _ _ _ _ _ _ us hl => match us, hl with | [_], _ => rfl
  have F_l_bent := fun_mk (st := s_l_bent) l18 c18 k18
  have b_l_bent := F_l_bent.binds (ps := ["_law_feed_here", "_law_tables_here"]) fun _ _ _ _ _ _ us hl => match us, hl with | [_, _], _ => rfl
  have F_l_copy := fun_mk (st := s_l_copy) l19 c19 k19
  have b_l_copy := F_l_copy.binds (ps := ["_law_tables_here"]) fun _ _ _ _ _ _ us hl => match us, hl with | [_], _ => rfl
  have F_l_sorted_right := fun_mk (st := s_l_sorted_right) l20 c20 k20
  have b_l_sorted_right := F_l_sorted_right.binds (ps := ["_law_tables_here"]) fun _ _ _ _ _ _ us hl => match us, hl with | [_], _ => rfl
  have F_law := fun_mk (st := s_law) l21 c21 k21
  refine ⟨PySem.W.fnOf "law" "law" (defArgs s_law) (defBody s_law) (defScope s_law) .none kV21 dc21 pm21 an21 cd21 ct21, fun s v => .of_eq rfl, fun base _ _ => ?_⟩
  have d_is_value : DefOk l.prog w K mg base 1 "is_value" ["thing"] (spIs fun _ v => valB v) := ⟨_, _, ok_is_value F_is_value T, PySem.W.mg_of X G a1, k1, b_is_value⟩
  have d_is_row : DefOk l.prog w K mg base 2 "is_row" ["thing"] (spIs rowB) := ⟨_, _, ok_is_row F_is_row T ⟨d_is_value⟩, PySem.W.mg_of X G a2, k2, b_is_row⟩
  have d_are_rows : DefOk l.prog w K mg base 3 "are_rows" ["thing"] spRows := ⟨_, _, ok_are_rows F_are_rows T ⟨⟨d_is_value⟩, d_is_row⟩, PySem.W.mg_of X G a3, k3, b_are_rows⟩
  have d_is_tables : DefOk l.prog w K mg base 4 "is_tables" ["thing"] (spTabs l.prog w K) := ⟨_, _, ok_is_tables F_is_tables T ⟨⟨⟨d_is_value⟩, d_is_row⟩, d_are_rows⟩, PySem.W.mg_of X G a4, k4, b_is_tables⟩
  have d_rows_of : DefOk l.prog w K mg base 1 "rows_of" ["tables", "name"] (spRowsOf K) := ⟨_, _, ok_rows_of F_rows_of T, PySem.W.mg_of X G a5, k5, b_rows_of⟩
  have d_sorted_tables : DefOk l.prog w K mg base 2 "sorted_tables" ["tables"] (spSorted K) := ⟨_, _, ok_sorted_tables F_sorted_tables T ⟨d_rows_of⟩, PySem.W.mg_of X G a6, k6, b_sorted_tables⟩
  have d_l_feed : DefOk l.prog w K mg base 1 "_law_feed" ["_law_script"] (spFeed K) := ⟨_, _, ok_feed F_l_feed, PySem.W.mg_of X G a7, k7, b_l_feed⟩
  have d_l_draw : DefOk l.prog w K mg base 1 "_law_draw" ["_law_feed_here", "_law_many"] (spDraw K) := ⟨_, _, ok_draw F_l_draw T, PySem.W.mg_of X G a8, k8, b_l_draw⟩
  have d_l_pool : DefOk l.prog w K mg base 2 "_law_pool" ["_law_feed_here", "_law_pool_here", "_law_many"] (spPool K) := ⟨_, _, ok_pool F_l_pool T ⟨d_l_draw⟩, PySem.W.mg_of X G a9, k9, b_l_pool⟩
  have d_l_names : DefOk l.prog w K mg base 3 "_law_names" ["_law_feed_here"] (spSome K namesPool 3) := ⟨_, _, ok_names F_l_names T ⟨⟨d_l_draw⟩, d_l_pool⟩, PySem.W.mg_of X G a10, k10, b_l_names⟩
  have d_l_values : DefOk l.prog w K mg base 3 "_law_values" ["_law_feed_here"] (spSome K valuesPool 4) := ⟨_, _, ok_values F_l_values T ⟨⟨d_l_draw⟩, d_l_pool⟩, PySem.W.mg_of X G a11, k11, b_l_values⟩
  have d_l_length : DefOk l.prog w K mg base 2 "_law_length" ["_law_feed_here", "_law_name"] (spLength K) := ⟨_, _, ok_length F_l_length T ⟨d_l_draw⟩, PySem.W.mg_of X G a12, k12, b_l_length⟩
  have d_l_tables : DefOk l.prog w K mg base 3 "_law_tables" ["_law_feed_here", "_law_names_here", "_law_values_here"] (spTables K) := ⟨_, _, ok_tables F_l_tables T ⟨⟨d_l_draw⟩, d_l_length⟩, PySem.W.mg_of X G a13, k13, b_l_tables⟩
  have d_l_word : DefOk l.prog w K mg base 1 "_law_word" ["_law_thing"] (spIs fun _ v => valB v) := ⟨_, _, ok_word F_l_word T, PySem.W.mg_of X G a14, k14, b_l_word⟩
  have d_l_row : DefOk l.prog w K mg base 2 "_law_row" ["_law_thing"] (spIs rowB) := ⟨_, _, ok_row F_l_row T ⟨d_l_word⟩, PySem.W.mg_of X G a15, k15, b_l_row⟩
  have d_l_is : DefOk l.prog w K mg base 3 "_law_is" ["_law_thing"] (spTabs l.prog w K) := ⟨_, _, ok_is F_l_is T ⟨⟨d_l_word⟩, d_l_row⟩, PySem.W.mg_of X G a16, k16, b_l_is⟩
  have d_l_odd : DefOk l.prog w K mg base 2 "_law_odd" ["_law_feed_here"] (spOdd K) := ⟨_, _, ok_odd F_l_odd T ⟨d_l_draw⟩, PySem.W.mg_of X G a17, k17, b_l_odd⟩
  have d_l_bent : DefOk l.prog w K mg base 3 "_law_bent" ["_law_feed_here", "_law_tables_here"] (spBentT l.prog w K) := ⟨_, _, ok_bent F_l_bent T ⟨⟨d_l_draw⟩, d_l_odd⟩, PySem.W.mg_of X G a18, k18, b_l_bent⟩
  have d_l_copy : DefOk l.prog w K mg base 1 "_law_copy" ["_law_tables_here"] (spCopy K) := ⟨_, _, ok_copy F_l_copy T, PySem.W.mg_of X G a19, k19, b_l_copy⟩
  have d_l_sorted_right : DefOk l.prog w K mg base 3 "_law_sorted_right" ["_law_tables_here"] (spRight K) := ⟨_, _, ok_right F_l_sorted_right T ⟨⟨⟨d_rows_of⟩, d_sorted_tables⟩, d_l_copy⟩, PySem.W.mg_of X G a20, k20, b_l_sorted_right⟩
  exact ok_law F_law T ⟨d_l_feed, d_l_draw, d_l_names, d_l_values, d_l_tables, d_l_bent, d_is_tables, d_l_is, d_l_sorted_right, d_sorted_tables⟩
theorem walk {l : PySem.W.OpenLaw} {q : Program} {loose : List Str} {XP : (Str → Option Value) → Heap → Prop} {YP : World → Heap → Prop} {d : DefRec} {K : Params → PySem.W.Frag} (hn : l.most = some 63) (hdf : d.params.defaults = [])
    (hY : ∀ (w : World) (h : Heap), YP w h → (K w.params).In h)
    (F : ∀ (w : World) (mg : Str → Option Value) (fa : Addr) (h : Heap), (K w.params).In h → h.Ns mainGlobals mg → mg d.name = some (.ref fa) →
      ∃ fd : FuncData, (∀ (s : Shared) (u : Value), BindsTo s fd ⟨[u], []⟩ [("_law_script", u)]) ∧ ∀ base : Heap, (K w.params).In base → base.Ns mainGlobals mg → FnOk l.prog w (K w.params) mg base CX0 5 fa fd ["_law_script"] (spLaw (K w.params))) :
    PySem.W.WalkO q loose XP YP l.row.toRowW d [] (fun f vs => PySem.call f vs) :=
  L2.walk_of (n := 63) (k := 5) (x := "_law_script") (CX := fun _ => CX0) (sp := fun w => spLaw (K w.params)) hn (by decide) hdf ⟨rfl, by decide, by decide⟩ hY F (fun _ H a ns hl hO hS => ⟨a, ns, rfl, scr_of hO hS, hl, fun _ => rfl⟩) fun _ _ _ _ _ z => z
end K05
open PySem PySem.W PyProof.Rows
set_option maxRecDepth 100000 in
set_option maxHeartbeats 0 in
theorem PySem.Challenge.cw_askviews_k05_tables_holds : PySem.Challenge.rw_askviews_k05_tables.Holds := by
  w_on; o_law; k_head; (case hw => w_witness2)
  k_fill
  refine K05.walk (l := PySem.Challenge.rw_askviews_k05_tables) rfl rfl (fun w h Y => PySem.W.kIn_of Y) ?F
  case F =>
    intro w mg fa h KX G hmg
    refine' K05.all_mk KX G hmg ?a1 ?l1 ?c1 ?k1 ?a2 ?l2 ?c2 ?k2 ?a3 ?l3 ?c3 ?k3 ?a4 ?l4 ?c4 ?k4 ?a5 ?l5 ?c5 ?k5 ?a6 ?l6 ?c6 ?k6 ?a7 ?l7 ?c7 ?k7 ?a8 ?l8 ?c8 ?k8 ?a9 ?l9 ?c9 ?k9 ?a10 ?l10 ?c10 ?k10 ?a11 ?l11 ?c11 ?k11 ?a12 ?l12 ?c12 ?k12 ?a13 ?l13 ?c13 ?k13 ?a14 ?l14 ?c14 ?k14 ?a15 ?l15 ?c15 ?k15 ?a16 ?l16 ?c16 ?k16 ?a17 ?l17 ?c17 ?k17 ?a18 ?l18 ?c18 ?k18 ?a19 ?l19 ?c19 ?k19 ?a20 ?l20 ?c20 ?k20 ?a21 ?l21 ?c21 ?k21 ?z0 ?z1 ?z2 ?z3 ?z4 ?z5 ?z6 ?z7 ?z8 ?z9 ?z10 ?z11 ?mc0 ?mc1 ?mc2
    (case a1 => k_is)
    (case l1 => k_is)
    (case c1 => k_is)
    (case k1 => k_is)
    (case a2 => k_is)
    (case l2 => k_is)
    (case c2 => k_is)
    (case k2 => k_is)
    (case a3 => k_is)
    (case l3 => k_is)
    (case c3 => k_is)
    (case k3 => k_is)
    (case a4 => k_is)
    (case l4 => k_is)
    (case c4 => k_is)
    (case k4 => k_is)
    (case a5 => k_is)
    (case l5 => k_is)
    (case c5 => k_is)
    (case k5 => k_is)
    (case a6 => k_is)
    (case l6 => k_is)
    (case c6 => k_is)
    (case k6 => k_is)
    (case a7 => k_is)
    (case l7 => k_is)
    (case c7 => k_is)
    (case k7 => k_is)
    (case a8 => k_is)
    (case l8 => k_is)
    (case c8 => k_is)
    (case k8 => k_is)
    (case a9 => k_is)
    (case l9 => k_is)
    (case c9 => k_is)
    (case k9 => k_is)
    (case a10 => k_is)
    (case l10 => k_is)
    (case c10 => k_is)
    (case k10 => k_is)
    (case a11 => k_is)
    (case l11 => k_is)
    (case c11 => k_is)
    (case k11 => k_is)
    (case a12 => k_is)
    (case l12 => k_is)
    (case c12 => k_is)
    (case k12 => k_is)
    (case a13 => k_is)
    (case l13 => k_is)
    (case c13 => k_is)
    (case k13 => k_is)
    (case a14 => k_is)
    (case l14 => k_is)
    (case c14 => k_is)
    (case k14 => k_is)
    (case a15 => k_is)
    (case l15 => k_is)
    (case c15 => k_is)
    (case k15 => k_is)
    (case a16 => k_is)
    (case l16 => k_is)
    (case c16 => k_is)
    (case k16 => k_is)
    (case a17 => k_is)
    (case l17 => k_is)
    (case c17 => k_is)
    (case k17 => k_is)
    (case a18 => k_is)
    (case l18 => k_is)
    (case c18 => k_is)
    (case k18 => k_is)
    (case a19 => k_is)
    (case l19 => k_is)
    (case c19 => k_is)
    (case k19 => k_is)
    (case a20 => k_is)
    (case l20 => k_is)
    (case c20 => k_is)
    (case k20 => k_is)
    (case a21 => k_is)
    (case l21 => k_is)
    (case c21 => k_is)
    (case k21 => k_is)
    (case z0 => k_is)
    (case z1 => k_is)
    (case z2 => k_is)
    (case z3 => k_is)
    (case z4 => k_is)
    (case z5 => k_is)
    (case z6 => k_is)
    (case z7 => k_is)
    (case z8 => k_is)
    (case z9 => k_is)
    (case z10 => k_is)
    (case z11 => k_is)
    (case mc0 => k_is)
    (case mc1 => k_is)
    (case mc2 => k_is)

