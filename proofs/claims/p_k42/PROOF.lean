import PyProof.Rows.All
import Wide.All
import OpenK.AllK
import Wide.FinOn
import Lean
import PyProof.EqAt
import PyProof.EqKinds
import PyProof.TupleCall
import PySem.Challenge.RW_askviews_k42_unfolded_or_no_view
set_option Elab.async false
set_option linter.all false
set_option maxRecDepth 100000
set_option maxHeartbeats 4000000
namespace L2
open PySem PySem.Spec PyProof.Rows
abbrev Key := Sum Int Str
def keyIs : Key → Value → Bool
 | .inl k, v => Value.isInt k v
 | .inr x, v => Value.isStrOf x v
def keyH (w : World) : Key → Int
 | .inl k => hashInt k
 | .inr x => hashStr w x
theorem keyIs_shape : ∀ {k : Key} {v : Value}, keyIs k v = true → (∃ i t, k = Sum.inl i ∧ v = Value.int i t) ∨ (∃ x t, k = Sum.inr x ∧ v = Value.str x t)
 | .inl i, v, h => by
  obtain ⟨t, e⟩ := Value.isInt_shape (k := i) (v := v) h
  exact .inl ⟨i, t, rfl, e⟩
 | .inr x, v, h => by
  obtain ⟨t, e⟩ := Value.isStrOf_shape (x := x) (v := v) h
  exact .inr ⟨x, t, rfl, e⟩
theorem keyIs_int (i : Int) (t : Tok) : keyIs (.inl i) (.int i t) = true := by simp [keyIs, Value.isInt]
theorem keyIs_str (x : Str) (t : Tok) : keyIs (.inr x) (.str x t) = true := by simp [keyIs, Value.isStrOf]
theorem key_ll (a b : Int) : decide ((Sum.inl a : Key) = Sum.inl b) = (a == b) := by
 by_cases e : a = b
 ·subst e; simp
 ·have h : ¬ (Sum.inl a : Key) = Sum.inl b := fun q => e (Sum.inl.inj q)
  rw [decide_eq_false h]
  exact (beq_eq_false_iff_ne.mpr e).symm
theorem key_rr (a b : Str) : decide ((Sum.inr a : Key) = Sum.inr b) = decide (a = b) := by
 by_cases e : a = b
 ·subst e; simp
 ·have h : ¬ (Sum.inr a : Key) = Sum.inr b := fun q => e (Sum.inr.inj q)
  rw [decide_eq_false h, decide_eq_false e]
theorem key_lr (a : Int) (b : Str) : decide ((Sum.inl a : Key) = Sum.inr b) = false := decide_eq_false (fun q => nomatch q)
theorem key_rl (a : Str) (b : Int) : decide ((Sum.inr a : Key) = Sum.inl b) = false := decide_eq_false (fun q => nomatch q)
def mixKind (prog : Program) (w : World) : PySem.KeyKind prog w Key where
 is := keyIs
 hash := keyH w
 inj := fun v a b ha hb => by
  rcases keyIs_shape ha with ⟨i, t, rfl, rfl⟩ | ⟨x, t, rfl, rfl⟩
  ·rcases keyIs_shape hb with ⟨j, u, rfl, e⟩ | ⟨y, u, rfl, e⟩
   ·injection e with e1 _; rw [e1]
   ·exact nomatch e
  ·rcases keyIs_shape hb with ⟨j, u, rfl, e⟩ | ⟨y, u, rfl, e⟩
   ·exact nomatch e
   ·injection e with e1 _; rw [e1]
 byValue := fun k v h => by
  rcases keyIs_shape h with ⟨i, t, rfl, rfl⟩ | ⟨x, t, rfl, rfl⟩ <;> rfl
 pyHash := fun hv h => by
  rcases keyIs_shape hv with ⟨i, t, rfl, rfl⟩ | ⟨x, t, rfl, rfl⟩
  ·exact wpAny_pyHash_int h
  ·exact wpAny_pyHash_str h
 eqBool := fun hu hv h => by
  rcases keyIs_shape hu with ⟨i, t, rfl, rfl⟩ | ⟨x, t, rfl, rfl⟩
  ·rcases keyIs_shape hv with ⟨j, u, rfl, rfl⟩ | ⟨y, u, rfl, rfl⟩
   ·rw [key_ll] at h; exact wpAny_eqBool_int h
   ·rw [key_lr] at h; exact SeqAt.EqAt.int_str i t y u _ _ _ _ h
  ·rcases keyIs_shape hv with ⟨j, u, rfl, rfl⟩ | ⟨y, u, rfl, rfl⟩
   ·rw [key_rl] at h; exact SeqAt.EqAt.str_int x t j u _ _ _ _ h
   ·rw [key_rr] at h; exact wpAny_eqBool_str h
 «strs» := fun k x t v h => by
  rcases keyIs_shape h with ⟨i, u, rfl, e⟩ | ⟨y, u, rfl, e⟩
  ·exact nomatch e
  ·injection e with e1 _
   subst e1
   cases v <;> rfl
theorem mixKind_int (prog : Program) (w : World) (i : Int) (t : Tok) : (mixKind prog w).is (.inl i) (.int i t) = true := keyIs_int i t
theorem mixKind_str (prog : Program) (w : World) (x : Str) (t : Tok) : (mixKind prog w).is (.inr x) (.str x t) = true := keyIs_str x t
inductive V where
 | non | bl (b : Bool) | int (i : Int) | str (x : Str) | byt (b : Array UInt8) | flt (b : UInt64) | ref (a : Addr) | ty (n : String)
 deriving DecidableEq
def RelV : V → Value → Prop
 | .non, u => u = Value.none
 | .bl b, u => u = Value.bool b
 | .int i, u => ∃ t, u = Value.int i t
 | .str x, u => ∃ t, u = Value.str x t
 | .byt b, u => ∃ t, u = Value.bytes b t
 | .flt b, u => ∃ t, u = Value.float b t
 | .ref a, u => u = Value.ref a
 | .ty n, u => u = Value.type n
abbrev Vals : List V → List Value → Prop := Paired RelV
theorem Vals.length {xs : List V} {us : List Value} (r : Vals xs us) : xs.length = us.length := Paired.length r
theorem Vals.get : ∀ {xs : List V} {us : List Value} {i : Nat} {x : V}, Vals xs us → xs[i]? = some x → ∃ u, us[i]? = some u ∧ RelV x u
 | _, _, _, _, .nil, e => by simp at e
 | _, _, 0, _, .cons r _, e => by simp at e; subst e; exact ⟨_, rfl, r⟩
 | _, _, i + 1, x, .cons _ t, e => by
  obtain ⟨u, h1, h2⟩ := Vals.get (i := i) (x := x) t (by simpa using e)
  exact ⟨u, by simpa using h1, h2⟩
theorem Vals.set {x : V} {u : Value} (r : RelV x u) : ∀ {xs : List V} {us : List Value} (i : Nat), Vals xs us → Vals (xs.set i x) (us.set i u)
 | _, _, _, .nil => .nil
 | _, _, 0, .cons _ t => .cons r t
 | _, _, i + 1, .cons q t => .cons q (Vals.set r i t)
theorem Vals.append : ∀ {xs ys : List V} {us ws : List Value}, Vals xs us → Vals ys ws → Vals (xs ++ ys) (us ++ ws)
 | _, _, _, _, .nil, s => s
 | _, _, _, _, .cons r t, s => .cons r (Vals.append t s)
theorem Vals.take : ∀ {xs : List V} {us : List Value} (n : Nat), Vals xs us → Vals (xs.take n) (us.take n)
 | _, _, 0, _ => .nil
 | _, _, _ + 1, .nil => .nil
 | _, _, n + 1, .cons r t => .cons r (Vals.take n t)
theorem Vals.drop : ∀ {xs : List V} {us : List Value} (n : Nat), Vals xs us → Vals (xs.drop n) (us.drop n)
 | _, _, 0, r => r
 | _, _, _ + 1, .nil => .nil
 | _, _, n + 1, .cons _ t => Vals.drop n t
def RelO : Option V → Option Value → Prop
 | some v, some u => RelV v u
 | none, none => True
 | _, _ => False
def KV {κ : Type} : List (κ × V) → List (κ × Value) → Prop := Paired fun (p : κ × V) (q : κ × Value) => p.1 = q.1 ∧ RelV p.2 q.2
def kV : Key → V
 | .inl i => .int i
 | .inr x => .str x
inductive HO where
 | lst (xs : List V)
 | tup (xs : List V)
 | dK (kvs : List (Key × V)) | dT (kvs : List (List Key × V))
 | set (S : Int → Bool) (n : Nat)
 | ins (C dx : Addr) (fs : List (Str × V))
 | own (x : Addr)
 | xd (fs : List (Str × V))
 | met (f x : Addr)
 | rng (lo hi : Int)
 | frz (o : Obj) (u : HO)
 | tbl (ps : Array Value)
 | ext (φ : Heap → Prop)
abbrev Hp := Addr → Option HO
def upd (H : Hp) (a : Addr) (o : HO) : Hp := fun b => if b = a then some o else H b
theorem upd_same {H : Hp} {a : Addr} {o : HO} : upd H a o a = some o := by unfold upd; rw [if_pos rfl]
theorem upd_ne {H : Hp} {a b : Addr} {o : HO} (h : b ≠ a) : upd H a o b = H b := by unfold upd; rw [if_neg h]
theorem ne_of {H : Hp} {a b : Addr} {o u : HO} (h : H a = some o) (h' : H b = some u) (d : o ≠ u) : a ≠ b := by
 intro e; subst e; rw [h] at h'; exact d (Option.some.inj h')
theorem ne_of_none {H : Hp} {a b : Addr} {o : HO} (h : H a = some o) (h' : H b = none) : a ≠ b := by
 intro e; subst e; rw [h] at h'; cases h'
section
variable (P : Program) (w : World)
def ObjOk (H : Hp) (h : Heap) (a : Addr) : HO → Prop
 | .lst xs => xs.length ≤ sizeLine ∧ ∃ (its : List Value) (n : Nat), Vals xs its ∧ h.get? a = some { cls := .type "list", data := .seq its.toArray n }
 | .tup xs => xs.length ≤ sizeLine ∧ ∃ its : List Value, Vals xs its ∧ IsTup h a its.toArray
 | .dK kvs => kvs.length ≤ sizeLine ∧ (a == sysModules) = false ∧ ∃ vs, KV kvs vs ∧ h.DictOf (mixKind P w) a vs
 | .dT kvs => kvs.length ≤ sizeLine ∧ (a == sysModules) = false ∧ ∃ xs : List (List Key × Addr × Value),
   Paired (fun (p : List Key × V) (q : List Key × Addr × Value) => p.1 = q.1 ∧ H q.2.1 = some (.tup (p.1.map kV)) ∧ RelV p.2 q.2.2) kvs xs ∧
   ∃ o es ep, h.get? a = some o ∧ o.ExactDict ∧ o.data = .dict es ep ∧ es.toList = xs.map (entryOfKey (tupleKind (mixKind P w))) ∧ (xs.map (·.1)).Nodup
 | .set S n => h.SetOf (intKind P w) a S n
 | .ins C dx fs => H dx = some (.own a) ∧ fs.length ≤ 1000 ∧ dx ≠ a ∧ h.get? a = some (PySem.W.instObj C dx) ∧
   ∃ mA, h.Ns1 dx mA ∧ (∀ f, RelO (fs.lookup f) (mA f)) ∧ PySem.Within mA (fs.map (·.1))
 | .own _ => ∃ o, h.get? a = some o
 | .xd fs => ∃ mA, h.Ns1 a mA ∧ ∀ f, RelO (fs.lookup f) (mA f)
 | .rng lo hi => ∃ t u v, h.get? a = some { cls := .type "range", data := .fields #[.int lo t, .int hi u, .int 1 v] }
 | .frz o u => h.get? a = some o ∧ ObjOk H h a u
 | .tbl ps => h.get? a = some { cls := .none, data := .fields ps }
 | .met f x => h.get? a = some (PySem.W.methodObj (.ref f) (.ref x))
 | .ext φ => φ h ∧ (∃ o, h.get? a = some o) ∧ ∀ h1 h2 : Heap, φ h1 → (∀ o, h1.get? a = some o → h2.get? a = some o) → φ h2
def HOk (H : Hp) (h : Heap) : Prop := ∀ a o, H a = some o → ObjOk P w H h a o
end
section
variable {P : Program} {w : World} {H H' : Hp} {h h' : Heap} {a : Addr} {o : HO}
theorem ObjOk.lt (x : ObjOk P w H h a o) : a < h.objs.size := by
 cases o with
 | lst xs => obtain ⟨_, _, _, _, e⟩ := x; exact Heap.lt_size e
 | tup xs => obtain ⟨_, _, _, p⟩ := x; exact p.lt
 | dK kvs => obtain ⟨_, _, _, _, o, _, _, e, _⟩ := x; exact Heap.lt_size e
 | dT kvs => obtain ⟨_, _, _, _, o, _, _, e, _⟩ := x; exact Heap.lt_size e
 | set S n => obtain ⟨o, _, _, _, e, _⟩ := x; exact Heap.lt_size e
 | ins C dx fs => obtain ⟨_, _, _, e, _⟩ := x; exact Heap.lt_size e
 | own y => obtain ⟨_, e⟩ := x; exact Heap.lt_size e
 | xd fs => obtain ⟨_, ⟨_, _, _, e, _⟩, _⟩ := x; exact Heap.lt_size e
 | rng lo hi => obtain ⟨_, _, _, e⟩ := x; exact Heap.lt_size e
 | frz ob u => obtain ⟨e, _⟩ := x; exact Heap.lt_size e
 | tbl ps => exact Heap.lt_size (show h.get? a = some _ from x)
 | met f y => exact Heap.lt_size (show h.get? a = some _ from x)
 | ext φ => obtain ⟨_, ⟨_, e⟩, _⟩ := x; exact Heap.lt_size e
theorem Paired.mapP {α β : Type} {F G : α → β → Prop} : ∀ {l₁ : List α} {l₂ : List β}, Paired F l₁ l₂ → (∀ a b, F a b → G a b) → Paired G l₁ l₂
 | _, _, .nil, _ => .nil
 | _, _, .cons r t, f => .cons (f _ _ r) (Paired.mapP t f)
theorem Paired.imp' {α β : Type} {F G : α → β → Prop} (f : ∀ a b, F a b → G a b) {l₁ : List α} {l₂ : List β} (r : Paired F l₁ l₂) : Paired G l₁ l₂ := Paired.mapP r f
theorem ObjOk.stay (x : ObjOk P w H h a o) (k : ∀ b u, (b = a ∨ H b = some (.own a)) → h.get? b = some u → h'.get? b = some u)
  (ho : ∀ b, H b = some (.own a) → H' b = some (.own a)) (ht : ∀ b xs, H b = some (.tup xs) → H' b = some (.tup xs)) : ObjOk P w H' h' a o := by
 induction o with
 | lst xs => obtain ⟨z, its, n, r, e⟩ := x; exact ⟨z, its, n, r, k _ _ (.inl rfl) e⟩
 | tup xs => obtain ⟨z, its, r, ob, e, c⟩ := x; exact ⟨z, its, r, ob, k _ _ (.inl rfl) e, c⟩
 | dK kvs => obtain ⟨z, y, vs, r, ob, es, ep, e, c⟩ := x; exact ⟨z, y, vs, r, ob, es, ep, k _ _ (.inl rfl) e, c⟩
 | dT kvs =>
  obtain ⟨z, y, xs, r, ob, es, ep, e, c⟩ := x
  exact ⟨z, y, xs, Paired.mapP r fun p q z => ⟨z.1, ht _ _ z.2.1, z.2.2⟩, ob, es, ep, k _ _ (.inl rfl) e, c⟩
 | set S n => obtain ⟨ob, es, ep, t, e, c⟩ := x; exact ⟨ob, es, ep, t, k _ _ (.inl rfl) e, c⟩
 | ins C dx fs =>
  obtain ⟨d, z, ne, e, mA, ⟨od, es, ep, e2, c⟩, r⟩ := x
  exact ⟨ho _ d, z, ne, k _ _ (.inl rfl) e, mA, ⟨od, es, ep, k _ _ (.inr d) e2, c⟩, r⟩
 | own y => obtain ⟨ob, e⟩ := x; exact ⟨ob, k _ _ (.inl rfl) e⟩
 | xd fs => obtain ⟨mA, ⟨od, es, ep, e, c⟩, r⟩ := x; exact ⟨mA, ⟨od, es, ep, k _ _ (.inl rfl) e, c⟩, r⟩
 | rng lo hi => obtain ⟨t, u, v, e⟩ := x; exact ⟨t, u, v, k _ _ (.inl rfl) e⟩
 | frz ob u ih => obtain ⟨e, q⟩ := x; exact ⟨k _ _ (.inl rfl) e, ih q⟩
 | tbl ps =>
  have e : h.get? a = some { cls := .none, data := .fields ps } := x
  show h'.get? a = some { cls := .none, data := .fields ps }
  exact k a _ (.inl rfl) e
 | met f y =>
  have e : h.get? a = some (PySem.W.methodObj (.ref f) (.ref y)) := x
  show h'.get? a = some (PySem.W.methodObj (.ref f) (.ref y))
  exact k a _ (.inl rfl) e
 | ext φ => obtain ⟨p, ⟨o, e⟩, st⟩ := x; exact ⟨st _ _ p fun o q => k _ _ (.inl rfl) q, ⟨o, k _ _ (.inl rfl) e⟩, st⟩
theorem HOk.lt (x : HOk P w H h) (e : H a = some o) : a < h.objs.size := (x a o e).lt
theorem HOk.fresh (x : HOk P w H h) (e : h.objs.size ≤ a) : H a = none := by
 cases q : H a with
 | none => rfl
 | some u => exact absurd (Nat.lt_of_lt_of_le (x.lt q) e) (Nat.lt_irrefl _)
theorem HOk.kept (x : HOk P w H h) (k : ∀ b u, h.get? b = some u → h'.get? b = some u) : HOk P w H h' := fun a o e =>
 (x a o e).stay (fun b u _ q => k b u q) (fun _ q => q) fun _ _ q => q
theorem HOk.laid (x : HOk P w H h) (k : ∀ b u, h.get? b = some u → h'.get? b = some u) (hp : h.objs.size ≤ a) (new : ObjOk P w (upd H a o) h' a o) : HOk P w (upd H a o) h' := fun b u e => by
 have hn := x.fresh hp
 by_cases hb : b = a
 ·subst hb; rw [upd_same] at e; cases e; exact new
 ·rw [upd_ne hb] at e
  exact (x b u e).stay (fun c v _ q => k c v q) (fun c q => by rw [upd_ne (ne_of_none q hn)]; exact q) fun c xs q => by rw [upd_ne (ne_of_none q hn)]; exact q
end
def Rd (H : Hp) (a : Addr) (u : HO) : Prop := H a = some u ∨ ∃ o, H a = some (.frz o u)
theorem Rd.ok {P : Program} {w : World} {H : Hp} {h : Heap} {a : Addr} {u : HO} (r : Rd H a u) (x : HOk P w H h) : ObjOk P w H h a u := by
 rcases r with r | ⟨o, r⟩
 ·exact x a u r
 ·obtain ⟨_, q⟩ := x a _ r
  exact q
def Mut : Option HO → Prop
 | some (.lst _) => True
 | some (.dK _) => True
 | some (.dT _) => True
 | some (.set _ _) => True
 | some (.ins _ _ _) => True
 | some (.ext _) => True
 | _ => False
section
variable {P : Program} {w : World} {H : Hp} {h h' : Heap} {x e : Addr} {o' : HO}
theorem HOk.write (ok : HOk P w H h) (mu : Mut (H x)) (he : e = x ∨ H e = some (.own x)) (k : ∀ b u, b ≠ e → h.get? b = some u → h'.get? b = some u) (heo : ∃ u, h'.get? e = some u)
  (new : ObjOk P w (upd H x o') h' x o') : HOk P w (upd H x o') h' := fun b u q => by
 have nown : ∀ c y, H c = some (.own y) → c ≠ x := fun c y r z => by subst z; rw [r] at mu; exact mu
 have ntup : ∀ c xs, H c = some (.tup xs) → c ≠ x := fun c xs r z => by subst z; rw [r] at mu; exact mu
 by_cases hb : b = x
 ·subst hb; rw [upd_same] at q; cases q; exact new
 ·rw [upd_ne hb] at q
  by_cases hbe : b = e
  ·have q' : H b = some (.own x) := by
    rcases he with z | z
    ·exact absurd (hbe.trans z) hb
    ·rw [hbe]; exact z
   rw [q] at q'; cases q'
   obtain ⟨v, hv⟩ := heo
   exact ⟨v, by rw [hbe]; exact hv⟩
  ·refine (ok b u q).stay (fun c v hc r => k c v ?_ r) (fun c r => by rw [upd_ne (nown c b r)]; exact r) fun c xs r => by rw [upd_ne (ntup c xs r)]; exact r
   rcases hc with rfl | hc
   ·exact hbe
   ·rintro rfl
    rcases he with z | z
    ·exact nown c b hc z
    ·rw [hc] at z; cases z; exact hb rfl
end
structure Un (fs ex : List Addr) (H H' : Hp) (h h' : Heap) : Prop where
 keep : ∀ b o, h.get? b = some o → H b = none → b ∉ fs → b ∉ ex → h'.get? b = some o
 slot : ∀ b o, h.get? b = some o → H b = none → b ∈ fs → b ∉ ex → ∃ sl, h'.get? b = some { o with slots := sl }
 free : ∀ b o, h.get? b = some o → H b = none → b ∉ ex → H' b = none
 there : ∀ b o, h.get? b = some o → b ∉ ex → ∃ o', h'.get? b = some o'
 tups : ∀ b xs, H b = some (.tup xs) → H' b = some (.tup xs)
 frzs : ∀ b o u, H b = some (.frz o u) → H' b = some (.frz o u)
 tbls : ∀ b ps, H b = some (.tbl ps) → ∃ more, H' b = some (.tbl (ps ++ more))
section
variable {fs fs' ex ex' : List Addr} {H H1 H2 : Hp} {h h1 h2 h' : Heap} {a x e : Addr} {o : HO}
theorem Un.any (u : Un fs ex H H1 h h1) {b : Addr} {ob : Obj} (q : h.get? b = some ob) (n : H b = none) (hx : b ∉ ex) : ∃ sl, h1.get? b = some { ob with slots := sl } := by
 by_cases hb : b ∈ fs
 ·exact u.slot b ob q n hb hx
 ·exact ⟨ob.slots, u.keep b ob q n hb hx⟩
theorem Un.kept (k : ∀ b u, h.get? b = some u → h'.get? b = some u) : Un fs ex H H h h' :=
 ⟨fun b ob q _ _ _ => k b ob q, fun b ob q _ _ _ => ⟨ob.slots, k b ob q⟩, fun _ _ _ n _ => n, fun b ob q _ => ⟨ob, k b ob q⟩, fun _ _ q => q, fun _ _ _ q => q, fun _ ps q => ⟨#[], by rw [q]; simp⟩⟩
theorem Un.refl : Un fs ex H H h h := Un.kept fun _ _ q => q
theorem Un.laid (k : ∀ b u, h.get? b = some u → h'.get? b = some u) (hp : h.objs.size ≤ a) (hn : H a = none) : Un fs ex H (upd H a o) h h' where
 keep := fun b u q _ _ _ => k b u q
 slot := fun b u q _ _ _ => ⟨u.slots, k b u q⟩
 free := fun b u q n _ => by rw [upd_ne (Nat.ne_of_lt (Nat.lt_of_lt_of_le (Heap.lt_size q) hp))]; exact n
 there := fun b u q _ => ⟨u, k b u q⟩
 tups := fun b xs q => by rw [upd_ne (ne_of_none q hn)]; exact q
 frzs := fun b u xs q => by rw [upd_ne (ne_of_none q hn)]; exact q
 tbls := fun b ps q => ⟨#[], by rw [upd_ne (ne_of_none q hn), q]; simp⟩
theorem Un.write (mu : Mut (H x)) (he : e = x ∨ H e = some (.own x)) (k : ∀ b u, b ≠ e → h.get? b = some u → h'.get? b = some u) (heo : ∃ u, h'.get? e = some u) : Un fs ex H (upd H x o) h h' := by
 have hx : ∀ b, H b = none → b ≠ x := fun b n z => by subst z; rw [n] at mu; exact mu
 have hb : ∀ b, H b = none → b ≠ e := fun b n z => by
  subst z
  rcases he with r | r
  ·exact hx b n r
  ·rw [n] at r; cases r
 have hm : ∀ b u, H b = some u → ¬ Mut (some u) → b ≠ x := fun b u q nm z => by subst z; rw [q] at mu; exact nm mu
 refine ⟨fun b u q n _ _ => k b u (hb b n) q, fun b u q n _ _ => ⟨u.slots, k b u (hb b n) q⟩, fun b u q n _ => by rw [upd_ne (hx b n)]; exact n, fun b u q _ => ?_,
  fun b xs q => by rw [upd_ne (hm b _ q fun z => z)]; exact q, fun b u xs q => by rw [upd_ne (hm b _ q fun z => z)]; exact q, fun b ps q => ⟨#[], by rw [upd_ne (hm b _ q fun z => z), q]; simp⟩⟩
 by_cases hbe : b = e
 ·subst hbe; exact heo
 ·exact ⟨u, k b u hbe q⟩
end
def trk (h : Heap) (H : Hp) : List Addr := (List.range h.objs.size).filter fun a => (H a).isSome
def hidT (h : Heap) (H : Hp) : Heap := PySem.W.hideAll h (trk h H)
theorem hidT_size (h : Heap) (H : Hp) : (hidT h H).objs.size = h.objs.size := PySem.W.hideAll_size _ _
theorem hidT_get {h : Heap} {H : Hp} {b : Addr} {o : Obj} (e : h.get? b = some o) (n : H b = none) : (hidT h H).get? b = some o :=
 PySem.W.hideAll_get _ e fun hm => by
  have q : (H b).isSome = true := (List.mem_filter.mp hm).2
  rw [n] at q; simp at q
theorem of_hidT {h : Heap} {H : Hp} {b : Addr} {o : Obj} (e : (hidT h H).get? b = some o) : h.get? b = some o ∧ H b = none := by
 have e' : h.get? b = some o := PySem.W.of_hideAll (trk h H) e
 refine ⟨e', ?_⟩
 cases q : H b with
 | none => rfl
 | some x =>
  have hm : b ∈ trk h H := List.mem_filter.mpr ⟨List.mem_range.mpr (Heap.lt_size e'), by simp [q]⟩
  have z : (hidT h H).get? b = none := PySem.W.hideAll_none (trk h H) hm
  rw [z] at e; cases e
def allNews (g h : Heap) (L : Addr) : List (Addr × Obj) := (List.range h.objs.size).filterMap fun a => if a = L ∨ (g.get? a).isSome = true then none else (h.get? a).map fun o => (a, o)
def rest (g h : Heap) (L d : Addr) : List (Addr × Obj) := (allNews g h L).filter fun p => decide (p.1 ≠ d)
structure Mod (K : PySem.W.Frag) (mg : Str → Option Value) (base : Heap) : Prop where
 kin : K.In base
 glob : base.Ns mainGlobals mg
 blt : ∃ mb, base.Ns builtinsNs mb ∧ ∀ x : Str, x ≠ "__name__" → mb x = bootBuiltins x
 nolimit : base.NoLimit
structure Cx where
 prog : Program
 w : World
 K : PySem.W.Frag
 mg : Str → Option Value
 base : Heap
 A : Around
 N : List Str
 s₀ : Shared
 H₀ : Hp
 env : Env
 outer : List Env
 stack : List Env
 ex : List Addr
 fn : Str → Bool
 calm : Bool
 pn : List (Addr × Obj)
 xe : Value → Shared → Prop
def frs (l : List Env) : List Addr := l.filterMap (·.frame)
abbrev Cx.fs (X : Cx) : List Addr := frs X.outer
def Vis (sc : Scope) (x : Str) : Prop := sc.names.lookup x = some .local ∨ sc.names.lookup x = some .cell ∨ sc.names.lookup x = some .free
def Loc (sc : Scope) (x : Str) : Prop := sc.names.lookup x = some .local ∨ sc.names.lookup x = some .cell
def Look (env : Env) (h : Heap) (m : Str → Option Value) (x : Str) (u : Value) : Prop :=
 (env.kindOf x = some .local ∧ m x = some u) ∨ ((env.kindOf x = some .cell ∨ env.kindOf x = some .free) ∧ ∃ c, env.cells.lookup x = some c ∧ h.IsCell c (some u))
structure Cx.Ok (X : Cx) : Prop where
 mod : Mod X.K X.mg X.base
 kind : X.env.scope.kind = .function
 glob : X.env.globals = mainGlobals
 blt : X.env.builtins = builtinsNs
 above : X.s₀.heap.objs.size ≤ X.env.locals
 inj : ∀ x y c, X.env.cells.lookup x = some c → X.env.cells.lookup y = some c → x = y
 has : ∀ x, (X.env.kindOf x = some .cell ∨ X.env.kindOf x = some .free) → ∃ c, X.env.cells.lookup x = some c
 cab : ∀ x c, X.fn x = true → X.env.cells.lookup x = some c → X.s₀.heap.objs.size ≤ c
 hd : X.calm = true → X.A.handled = none
 frames : X.A.frames = some X.stack
 stk : X.stack = X.outer ∨ (X.stack = X.env :: X.outer ∧ X.env.frame = some X.env.locals)
 exf : ∀ b ∈ X.ex, b ≠ X.env.locals ∧ ∀ x c, X.env.cells.lookup x = some c → c ≠ b
 bs : ∀ b o, X.base.get? b = some o → X.s₀.heap.get? b = some o ∧ X.H₀ b = none
 bsz : X.base.objs.size ≤ X.s₀.heap.objs.size
 noex : ∀ b o, X.base.get? b = some o → b ∉ X.ex
 exfs : ∀ b ∈ X.ex, b ∉ X.fs
 funs : X.s₀.heap.FunFrames X.base X.outer
 frf : ∀ b ∈ X.fs, X.H₀ b = none
structure Inv (X : Cx) (pins : List (Addr × Obj)) (σ : List (Option V)) (H : Hp) (s : Shared) : Prop where
 ok : X.Ok
 os : s.os = X.s₀.os
 bare : AllBare s.gens
 base : Un X.fs X.ex X.H₀ H X.s₀.heap s.heap
 loc : ∃ m, s.heap.Ns X.env.locals m ∧ ∀ (i : Nat) (x : Str) (v : V), X.N[i]? = some x → σ[i]? = some (some v) → Vis X.env.scope x → ∃ u, RelV v u ∧ Look X.env s.heap m x u
 cell : ∀ x c, X.env.cells.lookup x = some c → ∃ v, s.heap.IsCell c v
 free : H X.env.locals = none
 freeC : ∀ x c, X.env.cells.lookup x = some c → H c = none
 pin : ∀ p ∈ X.pn ++ pins, s.heap.get? p.1 = some p.2 ∧ H p.1 = none ∧ p.1 ≠ X.env.locals ∧ p.1 ∉ X.fs ∧ ∀ v, p.2.data ≠ .cell v
 hok : HOk X.prog X.w H s.heap
 len : σ.length = X.N.length
section
variable {X : Cx} {pins : List (Addr × Obj)} {σ : List (Option V)} {H H' : Hp} {s : Shared} {h' : Heap}
theorem Cx.Ok.nofr (ok : X.Ok) {b : Addr} {o : Obj} (e : X.base.get? b = some o) : b ∉ X.fs := fun hb => by
 have := (ok.funs.mem hb).1
 rw [e] at this; cases this
theorem Inv.bs (I : Inv X pins σ H s) : ∀ b o, X.base.get? b = some o → s.heap.get? b = some o ∧ H b = none := fun b o e =>
 ⟨I.base.keep b o (I.ok.bs b o e).1 (I.ok.bs b o e).2 (I.ok.nofr e) (I.ok.noex b o e), I.base.free b o (I.ok.bs b o e).1 (I.ok.bs b o e).2 (I.ok.noex b o e)⟩
theorem Inv.bk (I : Inv X pins σ H s) : ∀ b o, X.base.get? b = some o → s.heap.get? b = some o := fun b o e => (I.bs b o e).1
theorem Inv.mod (I : Inv X pins σ H s) : Mod X.K X.mg X.base := I.ok.mod
theorem Inv.kIn (I : Inv X pins σ H s) : X.K.In s.heap := I.ok.mod.kin.keeps I.bk
theorem Inv.lt (I : Inv X pins σ H s) : X.env.locals < s.heap.objs.size := let ⟨_, hn, _⟩ := I.loc; hn.lt
theorem Inv.sz (I : Inv X pins σ H s) : X.s₀.heap.objs.size ≤ s.heap.objs.size := Nat.le_trans I.ok.above (Nat.le_of_lt I.lt)
theorem Inv.nofs (I : Inv X pins σ H s) {a : Addr} (h : s.heap.objs.size ≤ a) : a ∉ X.fs := fun hb => by
 obtain ⟨_, o, ho, _⟩ := I.ok.funs.mem hb
 exact absurd (Nat.lt_of_lt_of_le (Heap.lt_size ho) (Nat.le_trans I.sz h)) (Nat.lt_irrefl _)
theorem Inv.cne (I : Inv X pins σ H s) : ∀ x c, X.env.cells.lookup x = some c → c ≠ X.env.locals := fun x c e z => by
 obtain ⟨v, o, ho, hd⟩ := I.cell x c e
 obtain ⟨m, ⟨o', es, ep, ho', hd', _⟩, _⟩ := I.loc
 rw [z, ho'] at ho; cases ho; rw [hd'] at hd; cases hd
theorem Inv.funs (I : Inv X pins σ H s) : s.heap.FunFrames X.base X.outer := by
 have all : ∀ (l : List Env), (∀ b ∈ frs l, b ∈ X.fs) → X.s₀.heap.FunFrames X.base l → s.heap.FunFrames X.base l := by
  intro l
  induction l with
  | nil => intro _ _; trivial
  | cons env r ih =>
   intro hs hl
   obtain ⟨hk, ⟨L, o, hf, hn, ho, hd⟩, hr⟩ := hl
   have hL : L ∈ X.fs := hs L (by unfold frs; rw [List.filterMap_cons, hf]; exact List.mem_cons_self)
   obtain ⟨sl, e⟩ := I.base.slot L o ho (I.ok.frf L hL) hL fun z => I.ok.exfs L z hL
   exact ⟨hk, ⟨L, _, hf, hn, e, hd⟩, ih (fun b hb => hs b (by unfold frs; rw [List.filterMap_cons, hf]; exact List.mem_cons_of_mem _ hb)) hr⟩
 exact all X.outer (fun _ hb => hb) I.ok.funs
theorem Inv.stack (I : Inv X pins σ H s) : s.heap.FunFrames X.base X.stack := by
 rcases I.ok.stk with e | ⟨e, hf⟩
 ·rw [e]; exact I.funs
 ·rw [e]
  obtain ⟨m, hn, _⟩ := I.loc
  refine .cons (by rw [I.ok.kind]; decide) hf hn ?_ I.funs
  exact Heap.get?_none_of_le (Nat.le_trans I.ok.bsz I.ok.above)
theorem Inv.stkSub (I : Inv X pins σ H s) : ∀ b ∈ frs X.stack, b ∈ X.env.locals :: X.fs := fun b hb => by
 rcases I.ok.stk with e | ⟨e, hf⟩
 ·rw [e] at hb; exact List.mem_cons_of_mem _ hb
 ·rw [e] at hb
  unfold frs at hb
  rw [List.filterMap_cons, hf] at hb
  exact hb
theorem Inv.stkFree (I : Inv X pins σ H s) : ∀ b ∈ frs X.stack, H b = none := fun b hb => by
 rcases List.mem_cons.mp (I.stkSub b hb) with e | hb
 ·rw [e]; exact I.free
 ·obtain ⟨_, o, ho, _⟩ := I.ok.funs.mem hb
  exact I.base.free b o ho (I.ok.frf b hb) fun z => I.ok.exfs b z hb
theorem Inv.step {g' : Array GenState} {t' : Nat} {d' : Drawn} {ch : List Addr} (I : Inv X pins σ H s)
  (hch : ∀ b ∈ ch, (b ∈ X.ex ∨ X.s₀.heap.objs.size ≤ b) ∧ b ≠ X.env.locals ∧ (∀ x c, X.env.cells.lookup x = some c → c ≠ b) ∧ ∀ p ∈ X.pn ++ pins, p.1 ≠ b)
  (keep : ∀ b o, b ≠ X.env.locals → b ∉ X.fs → b ∉ ch → s.heap.get? b = some o → H b = none → h'.get? b = some o)
  (slot : ∀ b o, b ≠ X.env.locals → b ∈ X.fs → b ∉ ch → s.heap.get? b = some o → H b = none → ∃ sl, h'.get? b = some { o with slots := sl }) (free : ∀ b o, b ∉ ch → s.heap.get? b = some o → H b = none → H' b = none)
  (there : ∀ b o, b ∉ ch → s.heap.get? b = some o → ∃ o', h'.get? b = some o')
  (tups : ∀ b xs, H b = some (.tup xs) → H' b = some (.tup xs)) (frzs : ∀ b o u, H b = some (.frz o u) → H' b = some (.frz o u)) (tbls : ∀ b ps, H b = some (.tbl ps) → ∃ more, H' b = some (.tbl (ps ++ more)))
  (ns : ∀ m, s.heap.Ns X.env.locals m → h'.Ns X.env.locals m) (hok : HOk X.prog X.w H' h') (hg : AllBare g') :
  Inv X pins σ H' { s with heap := h', gens := g', drawn := d', toks := t' } := by
 have neL : ∀ b o, X.s₀.heap.get? b = some o → b ≠ X.env.locals := fun b o e => Nat.ne_of_lt (Nat.lt_of_lt_of_le (Heap.lt_size e) I.ok.above)
 have neC : ∀ b o, X.s₀.heap.get? b = some o → b ∉ X.ex → b ∉ ch := fun b o e hx hb => by
  rcases (hch b hb).1 with z | z
  ·exact hx z
  ·exact absurd (Nat.lt_of_lt_of_le (Heap.lt_size e) z) (Nat.lt_irrefl _)
 have cellK : ∀ x c, X.env.cells.lookup x = some c → ∀ v, s.heap.IsCell c v → h'.IsCell c v := fun x c e v ⟨o, ho, hd⟩ => by
  have nch : c ∉ ch := fun z => (hch c z).2.2.1 x c e rfl
  by_cases hc : c ∈ X.fs
  ·obtain ⟨sl, q⟩ := slot c o (I.cne x c e) hc nch ho (I.freeC x c e)
   exact ⟨_, q, hd⟩
  ·exact ⟨o, keep c o (I.cne x c e) hc nch ho (I.freeC x c e), hd⟩
 refine ⟨I.ok, I.os, hg, ⟨fun b o e n hb hx => ?_, fun b o e n hb hx => ?_, fun b o e n hx => ?_, fun b o e hx => ?_, fun b xs e => tups b xs (I.base.tups b xs e), fun b o xs e => frzs b o xs (I.base.frzs b o xs e), fun b ps e => ?_⟩, ?_, fun x c e => ?_, ?_, fun x c e => ?_, fun p hp => ?_, hok, I.len⟩
 ·exact keep b o (neL b o e) hb (neC b o e hx) (I.base.keep b o e n hb hx) (I.base.free b o e n hx)
 ·obtain ⟨sl, e1⟩ := I.base.slot b o e n hb hx
  obtain ⟨sl', e2⟩ := slot b _ (neL b o e) hb (neC b o e hx) e1 (I.base.free b o e n hx)
  exact ⟨sl', e2⟩
 ·obtain ⟨o', e1⟩ := I.base.there b o e hx
  exact free b o' (neC b o e hx) e1 (I.base.free b o e n hx)
 ·obtain ⟨o', e1⟩ := I.base.there b o e hx
  exact there b o' (neC b o e hx) e1
 ·obtain ⟨m1, e1⟩ := I.base.tbls b ps e
  obtain ⟨m2, e2⟩ := tbls b _ e1
  exact ⟨m1 ++ m2, by rw [e2, Array.append_assoc]⟩
 ·obtain ⟨m, hn, hl⟩ := I.loc
  refine ⟨m, ns m hn, fun i x v e1 e2 e3 => ?_⟩
  obtain ⟨u, r, l⟩ := hl i x v e1 e2 e3
  refine ⟨u, r, ?_⟩
  rcases l with l | ⟨k, c, e, z⟩
  ·exact .inl l
  ·exact .inr ⟨k, c, e, cellK x c e _ z⟩
 ·obtain ⟨v, z⟩ := I.cell x c e
  exact ⟨v, cellK x c e v z⟩
 ·obtain ⟨m, ⟨o, _, _, ho, _⟩, _⟩ := I.loc
  exact free _ o (fun z => (hch _ z).2.1 rfl) ho I.free
 ·obtain ⟨v, o, ho, hd⟩ := I.cell x c e
  exact free c o (fun z => (hch c z).2.2.1 x c e rfl) ho (I.freeC x c e)
 ·obtain ⟨e, n, ne, nf, d⟩ := I.pin p hp
  have nch : p.1 ∉ ch := fun z => (hch p.1 z).2.2.2 p hp rfl
  exact ⟨keep p.1 p.2 ne nf nch e n, free p.1 p.2 nch e n, ne, nf, d⟩
theorem Inv.un {t' : Nat} (I : Inv X pins σ H s) (u : Un X.fs [] H H' s.heap h') (hok : HOk X.prog X.w H' h') : Inv X pins σ H' { s with heap := h', toks := t' } := by
 obtain ⟨m, ⟨o, es, ep, ho, r⟩, _⟩ := id I.loc
 obtain ⟨sl, hL⟩ := u.any ho I.free (by simp)
 exact I.step (g' := s.gens) (d' := s.drawn) (ch := []) (fun _ z => nomatch z) (fun b o _ hb _ e n => u.keep b o e n hb (by simp)) (fun b o _ hb _ e n => u.slot b o e n hb (by simp)) (fun b o _ e n => u.free b o e n (by simp)) (fun b o _ e => u.there b o e (by simp)) u.tups u.frzs u.tbls (fun m' hm => by
  obtain ⟨o', es', ep', ho', r'⟩ := hm
  rw [ho] at ho'; cases ho'
  exact ⟨_, es', ep', hL, r'⟩) hok I.bare
theorem Inv.call {g' : Array GenState} {t' : Nat} {d' : Drawn} {ch : List Addr} (I : Inv X pins σ H s) (u : Un (frs X.stack) ch H H' s.heap h') (hok : HOk X.prog X.w H' h') (hg : AllBare g')
  (hch : ∀ b ∈ ch, (b ∈ X.ex ∨ X.s₀.heap.objs.size ≤ b) ∧ b ≠ X.env.locals ∧ (∀ x c, X.env.cells.lookup x = some c → c ≠ b) ∧ ∀ p ∈ X.pn ++ pins, p.1 ≠ b) :
  Inv X pins σ H' { s with heap := h', gens := g', drawn := d', toks := t' } := by
 obtain ⟨m, ⟨o, es, ep, ho, r⟩, _⟩ := id I.loc
 obtain ⟨sl, hL⟩ := u.any ho I.free fun z => (hch _ z).2.1 rfl
 exact I.step (ch := ch) hch (fun b o hL hb hc e n => u.keep b o e n (fun z => (List.mem_cons.mp (I.stkSub b z)).elim hL hb) hc) (fun b o _ _ hc e n => u.any e n hc) (fun b o hc e n => u.free b o e n hc) (fun b o hc e => u.there b o e hc) u.tups u.frzs u.tbls (fun m' hm => by
  obtain ⟨o', es', ep', ho', r'⟩ := hm
  rw [ho] at ho'; cases ho'
  exact ⟨_, es', ep', hL, r'⟩) hok hg
theorem Inv.turned {t' : Nat} {it : Addr} (I : Inv X pins σ H s) (k : ∀ b o, b ≠ it → s.heap.get? b = some o → h'.get? b = some o) (hn : H it = none) (hL : it ≠ X.env.locals)
  (h1 : it ∈ X.ex ∨ X.s₀.heap.objs.size ≤ it) (h2 : ∀ x c, X.env.cells.lookup x = some c → c ≠ it) (h3 : ∀ p ∈ X.pn ++ pins, p.1 ≠ it) : Inv X pins σ H { s with heap := h', toks := t' } := by
 have nit : ∀ b u, H b = some u → b ≠ it := fun b u e z => by rw [z, hn] at e; cases e
 refine I.step (g' := s.gens) (d' := s.drawn) (ch := [it]) (fun b hb => ?_) (fun b o _ _ hc e _ => k b o (fun z => hc (by simp [z])) e) (fun b o _ _ hc e _ => ⟨o.slots, k b o (fun z => hc (by simp [z])) e⟩) (fun _ _ _ _ n => n)
  (fun b o hc e => ⟨o, k b o (fun z => hc (by simp [z])) e⟩) (fun _ _ e => e) (fun _ _ _ e => e) (fun b ps e => ⟨#[], by rw [e]; simp⟩) (fun m hm => ?_) (fun b u e => ?_) I.bare
 ·have e : b = it := by simpa using hb
  subst e
  exact ⟨h1, hL, h2, h3⟩
 ·obtain ⟨o, es, ep, ho, r⟩ := hm
  exact ⟨o, es, ep, k _ o (Ne.symm hL) ho, r⟩
 ·refine (I.hok b u e).stay (fun c v hc q => k c v ?_ q) (fun _ q => q) fun _ _ q => q
  rcases hc with z | z
  ·rw [z]; exact nit b u e
  ·exact nit c _ z
theorem Inv.tok (I : Inv X pins σ H s) (t : Nat) : Inv X pins σ H { s with toks := t } := I.un (h' := s.heap) (t' := t) Un.refl I.hok
theorem Inv.kept {t' : Nat} (I : Inv X pins σ H s) (k : ∀ b u, s.heap.get? b = some u → h'.get? b = some u) : Inv X pins σ H { s with heap := h', toks := t' } := I.un (Un.kept k) (I.hok.kept k)
theorem Inv.laid {a : Addr} {o : HO} {t' : Nat} (I : Inv X pins σ H s) (k : ∀ b u, s.heap.get? b = some u → h'.get? b = some u) (hp : s.heap.objs.size ≤ a) (new : ObjOk X.prog X.w (upd H a o) h' a o) :
  Inv X pins σ (upd H a o) { s with heap := h', toks := t' } := I.un (Un.laid k hp (I.hok.fresh hp)) (I.hok.laid k hp new)
theorem Inv.write {x e : Addr} {o : HO} {t' : Nat} (I : Inv X pins σ H s) (mu : Mut (H x)) (he : e = x ∨ H e = some (.own x)) (k : ∀ b u, b ≠ e → s.heap.get? b = some u → h'.get? b = some u) (heo : ∃ u, h'.get? e = some u)
  (new : ObjOk X.prog X.w (upd H x o) h' x o) : Inv X pins σ (upd H x o) { s with heap := h', toks := t' } := I.un (Un.write mu he k heo) (I.hok.write mu he k heo new)
theorem Inv.pins_of {pins' : List (Addr × Obj)} (I : Inv X pins σ H s) (h : ∀ p ∈ pins', s.heap.get? p.1 = some p.2 ∧ H p.1 = none ∧ p.1 ≠ X.env.locals ∧ p.1 ∉ X.fs ∧ ∀ v, p.2.data ≠ .cell v) : Inv X pins' σ H s :=
 ⟨I.ok, I.os, I.bare, I.base, I.loc, I.cell, I.free, I.freeC, fun p hp => (List.mem_append.mp hp).elim (fun z => I.pin p (List.mem_append_left _ z)) (h p), I.hok, I.len⟩
theorem nodup_ix {N : List Str} (hN : N.Nodup) {i j : Nat} {x : Str} (a : N[i]? = some x) (b : N[j]? = some x) : i = j := by
 obtain ⟨h1, e1⟩ := List.getElem?_eq_some_iff.mp a
 obtain ⟨h2, e2⟩ := List.getElem?_eq_some_iff.mp b
 exact (List.getElem_inj hN).mp (e1.trans e2.symm)
theorem store_ok2 {M : Model} {A : Around} {E : Value → Shared → Prop} {i : Nat} {x : Str} {v : V} {u : Value} {Q : Unit → Shared → Prop} (I : Inv X pins σ H s) (hN : X.N.Nodup) (hi : X.N[i]? = some x) (hx : Loc X.env.scope x) (r : RelV v u)
  (h : ∀ s', Inv X pins (σ.set i (some v)) H s' → (∃ a, Heap.SameBut a s.heap s'.heap ∧ (a = X.env.locals ∨ X.env.cells.lookup x = some a)) → Q () s') (hf : X.fn x = true ∨ X.env.scope.names.lookup x = some .local := by first | exact .inl rfl | exact .inr rfl | assumption) : wpAny M A (storeName X.env x u) Q E s := by
 obtain ⟨m, hn, hl⟩ := id I.loc
 have hcls : (X.env.scope.kind == .class || (X.env.scope.kind == .module && X.env.locals != X.env.globals)) = false := by rw [I.ok.kind]; rfl
 have hiσ : i < σ.length := by rw [I.len]; exact (List.getElem?_eq_some_iff.mp hi).1
 have cne := I.cne
 have tracked : ∀ {a : Addr} {h' : Heap}, (∃ o, s.heap.get? a = some o ∧ H a = none) → Heap.SameBut a s.heap h' → HOk X.prog X.w H h' := fun {a h'} ha hs b ob e => by
  obtain ⟨_, _, hfree⟩ := ha
  refine (I.hok b ob e).stay (fun c w' hc q => (hs.2 c ?_).trans q) (fun _ q => q) fun _ _ q => q
  rintro rfl
  rcases hc with rfl | hc
  ·rw [hfree] at e; cases e
  ·rw [hfree] at hc; cases hc
 rcases hx with hk | hk
 ·refine wpAny_storeName_local hk hn (fun h' hn' hs => ?_) hcls
  obtain ⟨oL, _, _, hoL, _⟩ := id hn
  refine h _ ⟨I.ok, I.os, I.bare, ⟨fun b o e n hb hx => ?_, fun b o e n hb hx => ?_, I.base.free, fun b o e hx => ?_, I.base.tups, I.base.frzs, I.base.tbls⟩, ⟨_, hn', fun j y v' e1 e2 e3 => ?_⟩, fun y c e => ?_, I.free, I.freeC, fun p hp => ?_, tracked ⟨oL, hoL, I.free⟩ hs, by simpa using I.len⟩ ⟨_, hs, .inl rfl⟩
  ·exact (hs.2 b (Nat.ne_of_lt (Nat.lt_of_lt_of_le (Heap.lt_size e) I.ok.above))).trans (I.base.keep b o e n hb hx)
  ·obtain ⟨sl, e1⟩ := I.base.slot b o e n hb hx
   exact ⟨sl, (hs.2 b (Nat.ne_of_lt (Nat.lt_of_lt_of_le (Heap.lt_size e) I.ok.above))).trans e1⟩
  ·obtain ⟨o', e1⟩ := I.base.there b o e hx
   exact ⟨o', (hs.2 b (Nat.ne_of_lt (Nat.lt_of_lt_of_le (Heap.lt_size e) I.ok.above))).trans e1⟩
  ·by_cases hj : j = i
   ·subst hj
    rw [hi] at e1; cases e1
    rw [List.getElem?_set_self hiσ] at e2
    cases e2
    exact ⟨u, r, .inl ⟨hk, by simp⟩⟩
   ·rw [List.getElem?_set_ne (Ne.symm hj)] at e2
    obtain ⟨u', r', q⟩ := hl j y v' e1 e2 e3
    refine ⟨u', r', ?_⟩
    rcases q with ⟨k, e⟩ | ⟨k, c, e, z⟩
    ·refine .inl ⟨k, ?_⟩
     have : y ≠ x := fun e => hj (nodup_ix hN e1 (e ▸ hi))
     simp [this, e]
    ·exact .inr ⟨k, c, e, z.sameBut hs (cne y c e)⟩
  ·obtain ⟨w', z⟩ := I.cell y c e
   exact ⟨w', z.sameBut hs (cne y c e)⟩
  ·obtain ⟨e, n, ne, nf, d⟩ := I.pin p hp
   exact ⟨(hs.2 p.1 ne).trans e, n, ne, nf, d⟩
 ·have hfn : X.fn x = true := by
   rcases hf with z | z
   ·exact z
   ·rw [z] at hk; cases hk
  obtain ⟨c, hc⟩ := I.ok.has x (.inl hk)
  obtain ⟨w', z⟩ := I.cell x c hc
  refine wpAny_storeName_cell I.ok.kind hk hc z (fun h' hc' hs => ?_)
  obtain ⟨oc, hoc, hocd⟩ := id z
  refine h { s with heap := h' } ⟨I.ok, I.os, I.bare, ⟨fun b o e n hb hx => ?_, fun b o e n hb hx => ?_, I.base.free, fun b o e hx => ?_, I.base.tups, I.base.frzs, I.base.tbls⟩, ⟨m, hn.sameBut hs (Ne.symm (cne x c hc)), fun j y v' e1 e2 e3 => ?_⟩, fun y c' e => ?_, I.free, I.freeC, fun p hp => ?_, tracked ⟨oc, hoc, I.freeC x c hc⟩ hs, by simpa using I.len⟩ ⟨c, hs, .inr hc⟩
  ·exact (hs.2 b (Nat.ne_of_lt (Nat.lt_of_lt_of_le (Heap.lt_size e) (I.ok.cab x c hfn hc)))).trans (I.base.keep b o e n hb hx)
  ·obtain ⟨sl, e1⟩ := I.base.slot b o e n hb hx
   exact ⟨sl, (hs.2 b (Nat.ne_of_lt (Nat.lt_of_lt_of_le (Heap.lt_size e) (I.ok.cab x c hfn hc)))).trans e1⟩
  ·obtain ⟨o', e1⟩ := I.base.there b o e hx
   exact ⟨o', (hs.2 b (Nat.ne_of_lt (Nat.lt_of_lt_of_le (Heap.lt_size e) (I.ok.cab x c hfn hc)))).trans e1⟩
  ·by_cases hj : j = i
   ·subst hj
    rw [hi] at e1; cases e1
    rw [List.getElem?_set_self hiσ] at e2
    cases e2
    exact ⟨u, r, .inr ⟨.inl hk, c, hc, hc'⟩⟩
   ·rw [List.getElem?_set_ne (Ne.symm hj)] at e2
    obtain ⟨u', r', q⟩ := hl j y v' e1 e2 e3
    refine ⟨u', r', ?_⟩
    rcases q with q | ⟨k, c', e, z'⟩
    ·exact .inl q
    ·refine .inr ⟨k, c', e, z'.sameBut hs ?_⟩
     rintro rfl
     exact hj (nodup_ix hN e1 (I.ok.inj _ _ _ e hc ▸ hi))
  ·by_cases hcc : c' = c
   ·subst hcc; exact ⟨_, hc'⟩
   ·obtain ⟨w2, z2⟩ := I.cell y c' e
    exact ⟨w2, z2.sameBut hs hcc⟩
  ·obtain ⟨e, n, ne, nf, d⟩ := I.pin p hp
   refine ⟨(hs.2 p.1 ?_).trans e, n, ne, nf, d⟩
   intro q
   rw [q, hoc] at e
   have q' : oc = p.2 := Option.some.inj e
   exact d w' (by rw [← q']; exact hocd)
theorem store_ok {M : Model} {A : Around} {E : Value → Shared → Prop} {i : Nat} {x : Str} {v : V} {u : Value} {Q : Unit → Shared → Prop} (I : Inv X pins σ H s) (hN : X.N.Nodup) (hi : X.N[i]? = some x) (hx : Loc X.env.scope x) (r : RelV v u)
  (h : ∀ s', Inv X pins (σ.set i (some v)) H s' → Q () s') (hf : X.fn x = true ∨ X.env.scope.names.lookup x = some .local := by first | exact .inl rfl | exact .inr rfl | assumption) : wpAny M A (storeName X.env x u) Q E s :=
 store_ok2 I hN hi hx r (fun s' I' _ => h s' I') hf
theorem Inv.call' {s' : Shared} {ch : List Addr} (I : Inv X pins σ H s) (ho : s'.os = s.os) (u : Un (frs X.stack) ch H H' s.heap s'.heap) (hok : HOk X.prog X.w H' s'.heap) (hg : AllBare s'.gens)
  (hch : ∀ b ∈ ch, (b ∈ X.ex ∨ X.s₀.heap.objs.size ≤ b) ∧ b ≠ X.env.locals ∧ (∀ x c, X.env.cells.lookup x = some c → c ≠ b) ∧ ∀ p ∈ X.pn ++ pins, p.1 ≠ b) : Inv X pins σ H' s' := by
 obtain ⟨h', g', d', t', o'⟩ := s'
 have e : o' = s.os := ho
 subst e
 exact I.call (g' := g') (t' := t') (d' := d') u hok hg hch
end
abbrev XK := Value → Option Addr → Hp → Prop
abbrev St := List (Option V)
abbrev VK := V → Hp → Prop
abbrev TE := St → Hp → VK → Prop
abbrev TT := St → Hp → (Bool → Hp → Prop) → Prop
abbrev TA := St → Hp → (List V → Hp → Prop) → Prop
structure Ends where
 nx : St → Hp → Prop
 rt : VK
 bk : St → Hp → Prop := fun _ _ => False
 ct : St → Hp → Prop := fun _ _ => False
abbrev TS := Ends → St → Hp → Prop
def EP (X : Cx) (pins : List (Addr × Obj)) (σ : St) (Q : VK) (u : Value) (s' : Shared) : Prop := ∃ v H', Inv X pins σ H' s' ∧ RelV v u ∧ Q v H'
def TP (X : Cx) (pins : List (Addr × Obj)) (σ : St) (Q : Bool → Hp → Prop) (b : Bool) (s' : Shared) : Prop := ∃ H', Inv X pins σ H' s' ∧ Q b H'
def AP (X : Cx) (pins : List (Addr × Obj)) (σ : St) (Q : List V → Hp → Prop) (us : List Value) (s' : Shared) : Prop := ∃ vs H', Inv X pins σ H' s' ∧ Vals vs us ∧ Q vs H'
def SP (X : Cx) (pins : List (Addr × Obj)) (D : Ends) (f : Flow) (s' : Shared) : Prop :=
 match f with
 | .next => ∃ σ' H', Inv X pins σ' H' s' ∧ D.nx σ' H'
 | .brk => ∃ σ' H', Inv X pins σ' H' s' ∧ D.bk σ' H'
 | .cont => ∃ σ' H', Inv X pins σ' H' s' ∧ D.ct σ' H'
 | .ret u => ∃ v σ' H', Inv X pins σ' H' s' ∧ RelV v u ∧ D.rt v H'
def PE (X : Cx) (e : Expr) (t : TE) : Prop :=
 ∀ (pins : List (Addr × Obj)) (s : Shared) (σ : St) (H : Hp) (Q : VK), Inv X pins σ H s → t σ H Q → wpAny (model X.prog X.w) X.A (eval e X.env) (EP X pins σ Q) X.xe s
def PT (X : Cx) (e : Expr) (t : TT) : Prop :=
 ∀ (pins : List (Addr × Obj)) (s : Shared) (σ : St) (H : Hp) (Q : Bool → Hp → Prop), Inv X pins σ H s → t σ H Q → wpAny (model X.prog X.w) X.A (isTrue e X.env (eval e X.env)) (TP X pins σ Q) X.xe s
def PW (X : Cx) (e : Expr) (t : TT) : Prop :=
 ∀ (whole : Sem Value) (pins : List (Addr × Obj)) (s : Shared) (σ : St) (H : Hp) (Q : Bool → Hp → Prop), Inv X pins σ H s → t σ H Q → wpAny (model X.prog X.w) X.A (isTrue e X.env whole) (TP X pins σ Q) X.xe s
theorem PW.pt {X : Cx} {e : Expr} {t : TT} (h : PW X e t) : PT X e t := h _
def PA (X : Cx) (es : List Expr) (t : TA) : Prop :=
 ∀ (pos : Pos) (pins : List (Addr × Obj)) (s : Shared) (σ : St) (H : Hp) (Q : List V → Hp → Prop), Inv X pins σ H s → t σ H Q → wpAny (model X.prog X.w) X.A (spliced (backTo pos (starEach es X.env))) (AP X pins σ Q) X.xe s
def PS (X : Cx) (st : Stmt) (t : TS) : Prop :=
 ∀ (pins : List (Addr × Obj)) (s : Shared) (σ : St) (H : Hp) (D : Ends), Inv X pins σ H s → t D σ H → wpAny (model X.prog X.w) X.A (exec st X.env) (SP X pins D) X.xe s
def PSs (X : Cx) (st : List Stmt) (t : TS) : Prop :=
 ∀ (pins : List (Addr × Obj)) (s : Shared) (σ : St) (H : Hp) (D : Ends), Inv X pins σ H s → t D σ H → wpAny (model X.prog X.w) X.A (execs st X.env) (SP X pins D) X.xe s
theorem thn {α : Type} {t : Sem α} {Q Q' : α → Shared → Prop} {M : Model} {A : Around} {E : Value → Shared → Prop} {s : Shared} (h : wpAny M A t Q E s) (hQ : ∀ a s, Q a s → Q' a s) : wpAny M A t Q' E s := wpAny_mono h hQ fun _ _ x => x
section
variable {X : Cx}
def tVar (i : Nat) : TE := fun σ H Q => ∃ v, σ[i]? = some (some v) ∧ Q v H
def tC (v : V) : TE := fun _ H Q => Q v H
theorem pe_var {i : Nat} {x : Str} {pos : Pos} (hN : X.N[i]? = some x) (hv : Vis X.env.scope x) (hd : (x == ("__debug__" : Str)) = false := by decide) (hcd : (x == ("__classdict__" : Str)) = false := by decide) : PE X (.Name x pos) (tVar i) := by
 intro pins s σ H Q I h
 obtain ⟨v, e, h⟩ := h
 obtain ⟨m, hn, hl⟩ := I.loc
 obtain ⟨u, r, l⟩ := hl i x v hN e hv
 have fin : EP X pins σ Q u s := ⟨v, H, I, r, h⟩
 rcases l with ⟨hk, hm⟩ | ⟨hk, c, hc, hcell⟩
 ·exact wpAny_Name (wpAny_loadName_local I.ok.kind hk hn hm fin) hd
 ·rcases hk with hk | hk
  ·exact wpAny_Name (wpAny_loadName_cell I.ok.kind hk hc hcell fin) hd
  ·exact wpAny_Name (wpAny_loadName_free I.ok.kind hk hc hcell fin hcd) hd
theorem pe_int {i j pos} : PE X (.Constant (.int i) j pos) (tC (.int i)) := fun _ _ _ H _ I h => wpAny_Constant_int ⟨.int i, H, I.tok _, ⟨_, rfl⟩, h⟩
theorem pe_bl {b j pos} : PE X (.Constant (.bool b) j pos) (tC (.bl b)) := fun _ _ _ H _ I h => Constant_bool ⟨.bl b, H, I, rfl, h⟩
theorem pe_str {x j pos} : PE X (.Constant (.str x) j pos) (tC (.str x)) := fun _ _ _ H _ I h => Calls.Constant_str ⟨.str x, H, I.tok _, ⟨_, rfl⟩, h⟩
def Gl (X : Cx) (x : Str) : Prop := X.env.kindOf x = some .globalImplicit
theorem ld_glob {E : Value → Shared → Prop} {pins : List (Addr × Obj)} {s : Shared} {σ : St} {H : Hp} {x : Str} {u : Value} {pos : Pos} {Q : Value → Shared → Prop} (I : Inv X pins σ H s) (hg : Gl X x) (hm : X.mg x = some u) (h : Q u s)
  (hd : (x == ("__debug__" : Str)) = false := by decide) : wpAny (model X.prog X.w) X.A (eval (.Name x pos) X.env) Q E s :=
 Calls.Name_function_global I.ok.kind hg (Calls.loadGlobal_global (by rw [I.ok.glob]; exact I.mod.glob.keeps I.bk) hm h) hd
theorem ld_blt {E : Value → Shared → Prop} {pins : List (Addr × Obj)} {s : Shared} {σ : St} {H : Hp} {x : Str} {u : Value} {pos : Pos} {Q : Value → Shared → Prop} (I : Inv X pins σ H s) (hg : Gl X x) (hm : X.mg x = none) (hv : bootBuiltins x = some u) (h : Q u s)
  (hn : x ≠ "__name__" := by decide) (hd : (x == ("__debug__" : Str)) = false := by decide) : wpAny (model X.prog X.w) X.A (eval (.Name x pos) X.env) Q E s := by
 obtain ⟨mb, h1, h2⟩ := I.mod.blt
 exact Calls.Name_function_global I.ok.kind hg (Calls.loadGlobal_builtin (by rw [I.ok.glob]; exact I.mod.glob.keeps I.bk) hm (by rw [I.ok.blt]; exact h1.keeps I.bk) ((h2 x hn).trans hv) h) hd
theorem pe_glob {x : Str} {v : V} {u : Value} {pos : Pos} (hg : Gl X x) (hm : X.mg x = some u) (r : RelV v u) (hd : (x == ("__debug__" : Str)) = false := by decide) : PE X (.Name x pos) (tC v) :=
 fun _ _ _ H _ I h => ld_glob I hg hm ⟨v, H, I, r, h⟩ hd
theorem pe_bltn {x : Str} {v : V} {u : Value} {pos : Pos} (hg : Gl X x) (hm : X.mg x = none) (hv : bootBuiltins x = some u) (r : RelV v u) (hn : x ≠ "__name__" := by decide) (hd : (x == ("__debug__" : Str)) = false := by decide) : PE X (.Name x pos) (tC v) :=
 fun _ _ _ H _ I h => ld_blt I hg hm hv ⟨v, H, I, r, h⟩ hn hd
variable {a b : Expr} {ta tb : TE} {pos : Pos}
def PC (X : Cx) (op : CmpOp) (a b : Expr) (t : TE) : Prop :=
 ∀ (pins : List (Addr × Obj)) (s : Shared) (σ : St) (H : Hp) (Q : VK), Inv X pins σ H s → t σ H Q →
  wpAny (model X.prog X.w) X.A (eval a X.env) (fun v s₁ => wpAny (model X.prog X.w) X.A (eval b X.env) (fun u s₂ => wpAny (model X.prog X.w) X.A (compareOp op v u) (EP X pins σ Q) X.xe s₂) X.xe s₁) X.xe s
def tB (t : TE) : TT := fun σ H Q => t σ H fun x H1 => ∃ c, x = .bl c ∧ Q c H1
theorem pt_cmp {op : CmpOp} {t : TE} (h : PC X op a b t) (h1 : behindInMarks op b = false := by first | exact nobehind _ (by decide) (by decide) | rfl) : PT X (.Compare a [op] [b] pos) (tB t) := by
 intro pins s σ H Q I hw
 refine wpAny_isTrue_Compare1 (thn (h pins s σ H _ I hw) fun v s1 h1 => thn h1 fun u s2 h2 => thn h2 fun c s3 ⟨x, H1, I1, r1, q1⟩ => ?_) h1
 obtain ⟨d, rfl, q⟩ := q1
 cases r1
 exact wpAny_truthy_bool ⟨H1, I1, q⟩
theorem pt_val {e : Expr} {t : TE} (h : PE X e t) (he : ∀ whole, isTrue e X.env whole = (do let v ← whole; standAt e.pos; holding [v] (truthy v)) := by intro _; rfl) : PT X e (tB t) := by
 intro pins s σ H Q I hw
 refine isTrue_plain (thn (h pins s σ H _ I hw) fun v s1 ⟨x, H1, I1, r1, q1⟩ => ?_) (he _)
 obtain ⟨d, rfl, q⟩ := q1
 cases r1
 exact wpAny_truthy_bool ⟨H1, I1, q⟩
variable {tA tB' : TT} {rest : List Expr}
def tAnd (t u : TT) : TT := fun σ H Q => t σ H fun c H1 => if c = true then u σ H1 Q else Q false H1
def tOr (t u : TT) : TT := fun σ H Q => t σ H fun c H1 => if c = true then Q true H1 else u σ H1 Q
def tNot (t : TT) : TT := fun σ H Q => t σ H fun c H1 => Q (!c) H1
theorem pw_and1 (ha : PT X a tA) : PW X (.BoolOp .And [a] pos) tA := by
 intro wh pins s σ H Q I h
 refine isTrue_and (thn (ha pins s σ H Q I h) fun c s1 e => ?_)
 cases c with
 | true => exact isTrue_and_nil e
 | false => exact e
theorem pw_or1 (ha : PT X a tA) : PW X (.BoolOp .Or [a] pos) tA := by
 intro wh pins s σ H Q I h
 refine isTrue_or (thn (ha pins s σ H Q I h) fun c s1 e => ?_)
 cases c with
 | false => exact isTrue_or_nil e
 | true => exact e
theorem pw_and (ha : PT X a tA) (hb : PW X (.BoolOp .And (b :: rest) pos) tB') : PW X (.BoolOp .And (a :: b :: rest) pos) (tAnd tA tB') := by
 intro wh pins s σ H Q I h
 refine isTrue_and (thn (ha pins s σ H _ I h) fun c s1 ⟨H1, I1, q1⟩ => ?_)
 cases c with
 | true => exact hb wh pins s1 σ H1 Q I1 q1
 | false => exact ⟨H1, I1, q1⟩
theorem pw_or (ha : PT X a tA) (hb : PW X (.BoolOp .Or (b :: rest) pos) tB') : PW X (.BoolOp .Or (a :: b :: rest) pos) (tOr tA tB') := by
 intro wh pins s σ H Q I h
 refine isTrue_or (thn (ha pins s σ H _ I h) fun c s1 ⟨H1, I1, q1⟩ => ?_)
 cases c with
 | true => exact ⟨H1, I1, q1⟩
 | false => exact hb wh pins s1 σ H1 Q I1 q1
theorem pt_not (ha : PT X a tA) : PT X (.UnaryOp .Not a pos) (tNot tA) := by
 intro pins s σ H Q I h
 exact isTrue_not (ha pins s σ H (fun c H1 => Q (!c) H1) I h)
def tAndV (ta tb : TE) : TE := fun σ H Q => ta σ H fun x H1 => ∃ c, x = .bl c ∧ if c = true then tb σ H1 Q else Q (.bl false) H1
theorem pe_one {op} {t : TE} (h : PE X a t) : PE X (.BoolOp op [a] pos) t := fun pins s σ H Q I hw => BoolOp_one (h pins s σ H Q I hw)
theorem pe_and (ha : PE X a ta) (hb : PE X (.BoolOp .And (b :: rest) pos) tb) : PE X (.BoolOp .And (a :: b :: rest) pos) (tAndV ta tb) := by
 intro pins s σ H Q I h
 refine BoolOp_and (thn (ha pins s σ H _ I h) fun v s1 ⟨x, H1, I1, r1, q1⟩ => ?_)
 obtain ⟨c, rfl, q1⟩ := q1
 cases r1
 refine wpAny_truthy_bool ?_
 cases c with
 | true => exact hb pins s1 σ H1 Q I1 q1
 | false => exact ⟨.bl false, H1, I1, rfl, q1⟩
end
def SqL (K : PySem.W.Frag) (H : Hp) (a : Addr) (xs : List V) : Prop :=
 Rd H a (.lst xs) ∨
  ∃ (o : Obj) (its : Array Value) (n : Nat), K.lookup a = some o ∧ o.cls = .type "list" ∧ o.dict = none ∧ o.data = .seq its n ∧ its.size ≤ sizeLine ∧ Vals xs its.toList
def SqT (K : PySem.W.Frag) (H : Hp) (a : Addr) (xs : List V) : Prop :=
 Rd H a (.tup xs) ∨
  ∃ (o : Obj) (its : Array Value) (n : Nat), K.lookup a = some o ∧ o.cls = .type "tuple" ∧ o.data = .seq its n ∧ its.size ≤ sizeLine ∧ Vals xs its.toList
def absV : Value → Option V
 | .none => some .non
 | .bool b => some (.bl b)
 | .int i _ => some (.int i)
 | .str x _ => some (.str x)
 | .bytes b _ => some (.byt b)
 | .float b _ => some (.flt b)
 | .ref a => some (.ref a)
 | .type n => some (.ty n)
 | _ => none
theorem RelV.abs {x : V} {u : Value} (r : RelV x u) : absV u = some x := by
 cases x with
 | non => cases r; rfl
 | bl _ => cases r; rfl
 | int _ => obtain ⟨t, rfl⟩ := r; rfl
 | str _ => obtain ⟨t, rfl⟩ := r; rfl
 | byt _ => obtain ⟨t, rfl⟩ := r; rfl
 | flt _ => obtain ⟨t, rfl⟩ := r; rfl
 | ref _ => cases r; rfl
 | ty _ => cases r; rfl
theorem RelV.inj {x y : V} {u : Value} (r : RelV x u) (q : RelV y u) : x = y := Option.some.inj (r.abs.symm.trans q.abs)
theorem Vals.inj : ∀ {xs ys : List V} {us : List Value}, Vals xs us → Vals ys us → xs = ys
 | _, _, _, .nil, .nil => rfl
 | _, _, _, .cons r t, .cons r' t' => by rw [r.inj r', Vals.inj t t']
section
variable {X : Cx} {pins : List (Addr × Obj)} {σ : St} {H : Hp} {s : Shared} {a : Addr} {xs ys : List V}
theorem SqL.of {K : PySem.W.Frag} (h : H a = some (.lst xs)) : SqL K H a xs := .inl (.inl h)
theorem SqT.of {K : PySem.W.Frag} (h : H a = some (.tup xs)) : SqT K H a xs := .inl (.inl h)
theorem Inv.list (I : Inv X pins σ H s) (h : SqL X.K H a xs) : ∃ its : List Value, Vals xs its ∧ PlainL s.heap a its.toArray ∧ xs.length ≤ sizeLine := by
 rcases h with h | ⟨o, its, n, hk, hc, hd, hs, hz, r⟩
 ·obtain ⟨z, its, n, r, e⟩ := h.ok I.hok
  exact ⟨its, r, ⟨_, n, e, rfl, rfl, rfl⟩, z⟩
 ·refine ⟨its.toList, r, ⟨o, n, I.kIn a o hk, hc, hd, by simpa using hs⟩, ?_⟩
  have e := r.length
  simp only [Array.length_toList] at e
  omega
theorem Inv.tuple (I : Inv X pins σ H s) (h : SqT X.K H a xs) : ∃ its : List Value, Vals xs its ∧ IsTup s.heap a its.toArray ∧ xs.length ≤ sizeLine := by
 rcases h with h | ⟨o, its, n, hk, hc, hs, hz, r⟩
 ·obtain ⟨z, its, r, p⟩ := h.ok I.hok
  exact ⟨its, r, p, z⟩
 ·refine ⟨its.toList, r, ⟨o, I.kIn a o hk, hc, n, by simpa using hs⟩, ?_⟩
  have e := r.length
  simp only [Array.length_toList] at e
  omega
theorem Inv.list_inj (I : Inv X pins σ H s) (h : SqL X.K H a xs) (h' : SqL X.K H a ys) : xs = ys := by
 obtain ⟨its, r, ⟨o, n, e, _, _, d⟩, _⟩ := I.list h
 obtain ⟨its', r', ⟨o', n', e', _, _, d'⟩, _⟩ := I.list h'
 rw [e] at e'; cases e'
 rw [d] at d'
 injection d' with d1 _
 have : its = its' := by simpa using congrArg Array.toList d1
 subst this
 exact r.inj r'
theorem Inv.tuple_inj (I : Inv X pins σ H s) (h : SqT X.K H a xs) (h' : SqT X.K H a ys) : xs = ys := by
 obtain ⟨its, r, ⟨o, e, _, n, d⟩, _⟩ := I.tuple h
 obtain ⟨its', r', ⟨o', e', _, n', d'⟩, _⟩ := I.tuple h'
 rw [e] at e'; cases e'
 rw [d] at d'
 injection d' with d1 _
 have : its = its' := by simpa using congrArg Array.toList d1
 subst this
 exact r.inj r'
end
abbrev Cx.wish (X : Cx) (E : Value → Shared → Prop) : Cx := { X with xe := E }
abbrev Cx.nox (X : Cx) : Cx := X.wish fun _ _ => False
theorem Cx.Ok.wish {X : Cx} (ok : X.Ok) (E : Value → Shared → Prop) : (X.wish E).Ok :=
 ⟨ok.mod, ok.kind, ok.glob, ok.blt, ok.above, ok.inj, ok.has, ok.cab, ok.hd, ok.frames, ok.stk, ok.exf, ok.bs, ok.bsz, ok.noex, ok.exfs, ok.funs, ok.frf⟩
theorem Cx.Ok.unwish {X : Cx} {E : Value → Shared → Prop} (ok : (X.wish E).Ok) : X.Ok :=
 ⟨ok.mod, ok.kind, ok.glob, ok.blt, ok.above, ok.inj, ok.has, ok.cab, ok.hd, ok.frames, ok.stk, ok.exf, ok.bs, ok.bsz, ok.noex, ok.exfs, ok.funs, ok.frf⟩
section
variable {X : Cx} {pins : List (Addr × Obj)} {σ : St} {H : Hp} {s : Shared} {E : Value → Shared → Prop}
theorem Inv.wish (I : Inv X pins σ H s) (E : Value → Shared → Prop) : Inv (X.wish E) pins σ H s := ⟨I.ok.wish E, I.os, I.bare, I.base, I.loc, I.cell, I.free, I.freeC, I.pin, I.hok, I.len⟩
theorem Inv.unwish (I : Inv (X.wish E) pins σ H s) : Inv X pins σ H s := ⟨I.ok.unwish, I.os, I.bare, I.base, I.loc, I.cell, I.free, I.freeC, I.pin, I.hok, I.len⟩
theorem SP.unwish {D : Ends} {f : Flow} {s' : Shared} (h : SP (X.wish E) pins D f s') : SP X pins D f s' := by
 cases f with
 | next => obtain ⟨σ', H', I, q⟩ := h; exact ⟨σ', H', I.unwish, q⟩
 | brk => obtain ⟨σ', H', I, q⟩ := h; exact ⟨σ', H', I.unwish, q⟩
 | cont => obtain ⟨σ', H', I, q⟩ := h; exact ⟨σ', H', I.unwish, q⟩
 | ret u => obtain ⟨v, σ', H', I, r, q⟩ := h; exact ⟨v, σ', H', I.unwish, r, q⟩
theorem PSs.nox {st : List Stmt} {t : TS} (h : PSs X.nox st t) : PSs X st t := fun pins s σ H D I hw =>
 wpAny_mono (h pins s σ H D (I.wish _) hw) (fun _ _ q => q.unwish) fun _ _ z => False.elim z
end
section
variable {X : Cx} {st : Stmt} {rest : List Stmt} {t u : TS} {e : Expr} {te : TE} {pos : Pos}
def tNext : TS := fun D σ H => D.nx σ H
def tSeq (t u : TS) : TS := fun D σ H => t { D with nx := u D } σ H
theorem pss_nil : PSs X [] tNext := fun _ _ σ H _ I h => wpAny_execs_nil ⟨σ, H, I, h⟩
theorem pss_cons (h1 : PS X st t) (h2 : PSs X rest u) : PSs X (st :: rest) (tSeq t u) := by
 intro pins s σ H D I h
 refine wpAny_execs_cons (thn (h1 pins s σ H { D with nx := u D } I h) fun f s1 q => ?_)
 cases f with
 | next =>
  obtain ⟨σ', H', I', q⟩ := q
  exact h2 pins s1 σ' H' D I' q
 | ret v => exact q
 | brk => exact q
 | cont => exact q
theorem pss_one (h1 : PS X st t) : PSs X [st] t := by
 intro pins s σ H D I h
 refine wpAny_execs_cons (thn (h1 pins s σ H D I h) fun f s1 q => ?_)
 cases f with
 | next => exact wpAny_execs_nil q
 | ret v => exact q
 | brk => exact q
 | cont => exact q
theorem Inv.quiet {pins : List (Addr × Obj)} {σ : St} {H : Hp} {s : Shared} (I : Inv X pins σ H s) : interactive X.env = false := by simp [interactive, I.ok.kind]
def tDrop (te : TE) : TS := fun D σ H => te σ H fun _ H1 => D.nx σ H1
theorem ps_expr (he : PE X e te) (hs : swapsWith e none pos.line X.env = pure false := by rfl) : PS X (.Expr e pos) (tDrop te) := by
 intro pins s σ H D I h
 exact wpAny_Expr_any (thn (he pins s σ H _ I h) fun v s1 ⟨x, H1, I1, r1, q1⟩ => ⟨σ, H1, I1, q1⟩) I.quiet hs
def tRet (te : TE) : TS := fun D σ H => te σ H D.rt
theorem ps_ret (he : PE X e te) : PS X (.Return (some e) pos) (tRet te) := by
 intro pins s σ H D I h
 exact wpAny_Return_some (thn (he pins s σ H _ I h) fun v s1 ⟨x, H1, I1, r1, q1⟩ => ⟨x, σ, H1, I1, r1, q1⟩)
def tIfS (c : TT) (t u : TS) : TS := fun D σ H => c σ H fun b H1 => if b = true then t D σ H1 else u D σ H1
theorem ps_if {c : Expr} {a b : List Stmt} {tc : TT} (hc : PT X c tc) (ha : PSs X a t) (hb : PSs X b u) : PS X (.If c a b pos) (tIfS tc t u) := by
 intro pins s σ H D I h
 refine wpAny_If (thn (hc pins s σ H _ I h) fun d s1 ⟨H1, I1, q1⟩ => ?_)
 cases d with
 | true => exact ha pins s1 σ H1 D I1 q1
 | false => exact hb pins s1 σ H1 D I1 q1
end
abbrev TG := V → St → Hp → (St → Hp → Prop) → Prop
abbrev TGs := List V → St → Hp → (St → Hp → Prop) → Prop
def PG (X : Cx) (target : Expr) (t : TG) : Prop :=
 ∀ (pins : List (Addr × Obj)) (s : Shared) (σ : St) (H : Hp) (v : V) (u : Value) (Q : St → Hp → Prop), Inv X pins σ H s → RelV v u → t v σ H Q →
  wpAny (model X.prog X.w) X.A (assign target X.env u) (fun _ s' => ∃ σ' H', Inv X pins σ' H' s' ∧ Q σ' H') X.xe s
def PGs (X : Cx) (ts : List Expr) (t : TGs) : Prop :=
 ∀ (pins : List (Addr × Obj)) (s : Shared) (σ : St) (H : Hp) (vs : List V) (us : List Value) (Q : St → Hp → Prop), Inv X pins σ H s → Vals vs us → t vs σ H Q →
  wpAny (model X.prog X.w) X.A (assignInOrder ((assignEach ts X.env).map (·.2)) us) (fun _ s' => ∃ σ' H', Inv X pins σ' H' s' ∧ Q σ' H') X.xe s
abbrev TSet := V → V → V → Hp → (Hp → Prop) → Prop
def PSet (X : Cx) (t : TSet) : Prop :=
 ∀ (pins : List (Addr × Obj)) (s : Shared) (σ : St) (H : Hp) (o i v : V) (ov iv u : Value) (Q : Hp → Prop), Inv X pins σ H s → RelV o ov → RelV i iv → RelV v u → t o i v H Q →
  wpAny (model X.prog X.w) X.A (setItem ov iv u) (fun _ s' => ∃ H', Inv X pins σ H' s' ∧ Q H') X.xe s
abbrev TIp := V → V → Hp → VK → Prop
def PIp (X : Cx) (op : Operator) (t : TIp) : Prop :=
 ∀ (pins : List (Addr × Obj)) (s : Shared) (σ : St) (H : Hp) (x y : V) (v u : Value) (Q : VK), Inv X pins σ H s → RelV x v → RelV y u → t x y H Q →
  wpAny (model X.prog X.w) X.A (inplaceOp op v u) (EP X pins σ Q) X.xe s
section
variable {X : Cx} {pos : Pos}
def gName (i : Nat) : TG := fun v σ H Q => Q (σ.set i (some v)) H
theorem pg_name {i : Nat} {x : Str} (hN : X.N.Nodup) (hi : X.N[i]? = some x) (hx : Loc X.env.scope x) (hf : X.fn x = true ∨ X.env.scope.names.lookup x = some .local := by first | exact .inl rfl | exact .inr rfl | assumption) : PG X (.Name x pos) (gName i) := by
 intro pins s σ H v u Q I r h
 exact wpAny_assign_Name (store_ok I hN hi hx r (fun s' I' => ⟨_, H, I', h⟩) hf)
def gNil : TGs := fun vs σ H Q => vs = [] ∧ Q σ H
def gCons (t : TG) (u : TGs) : TGs := fun vs σ H Q => ∃ v r, vs = v :: r ∧ t v σ H fun σ' H' => u r σ' H' Q
theorem pgs_nil : PGs X [] gNil := by
 intro pins s σ H vs us Q I r h
 obtain ⟨e, h⟩ := h
 subst e
 cases r
 exact assignInOrder_nil ⟨σ, H, I, h⟩
theorem pgs_cons {e : Expr} {es : List Expr} {t : TG} {u : TGs} (h1 : PG X e t) (h2 : PGs X es u)
  (hs : (assignEach (e :: es) X.env).map (·.2) = assign e X.env :: (assignEach es X.env).map (·.2) := by rfl) : PGs X (e :: es) (gCons t u) := by
 intro pins s σ H vs us Q I r h
 obtain ⟨v, vr, e1, h⟩ := h
 subst e1
 cases r with
 | cons r rr =>
  rw [hs]
  refine assignInOrder_cons (thn (h1 pins s σ H _ _ _ I r h) fun _ s1 ⟨σ1, H1, I1, q1⟩ => ?_)
  exact h2 pins s1 σ1 H1 _ _ Q I1 rr q1
def gTup (K : PySem.W.Frag) (n : Nat) (t : TGs) : TG := fun v σ H Q => ∃ a xs, v = .ref a ∧ SqT K H a xs ∧ xs.length = n ∧ t xs σ H Q
theorem pg_tup {es : List Expr} {k : Nat} {t : TGs} {n : Nat} (hc : X.calm = true) (h : PGs X es t)
  (hn : (assignEach es X.env).length = n := by rfl) (hst : (assignEach es X.env).findIdx? (·.1) = none := by rfl) : PG X (.Tuple es k pos) (gTup X.K n t) := by
 intro pins s σ H v u Q I r hw
 obtain ⟨a, xs, e1, hq, hl, hw⟩ := hw
 subst e1
 cases r
 obtain ⟨its, rv, ht, hz⟩ := I.tuple hq
 refine assign_Tuple_tuple (I.ok.hd hc) ht (by simp [hn, ← hl, rv.length]) hst fun h' hx => ?_
 have I1 : Inv X pins σ H { s with heap := h' } := I.kept (t' := s.toks) fun b o e => hx b o (Nat.ne_of_lt (Heap.lt_size e)) e
 exact h pins _ σ H xs _ Q I1 (by simpa using rv) hw
def gSub (to ti : TE) (t : TSet) : TG := fun v σ H Q => to σ H fun o H1 => ti σ H1 fun i H2 => t o i v H2 fun H3 => Q σ H3
theorem pg_sub {o i : Expr} {to ti : TE} {t : TSet} (ho : PE X o to) (hi : PE X i ti) (hs : PSet X t)
  (ha : ∀ v, assign (.Subscript o i pos) X.env v = (do
   let ov ← holding [v] (eval o X.env)
   let iv ← holding [v, ov] (eval i X.env)
   standAt pos
   holding [v, ov, iv] (setItem ov iv v)
   release [v, ov, iv] []) := by intro _; rfl) : PG X (.Subscript o i pos) (gSub to ti t) := by
 intro pins s σ H v u Q I r h
 rw [ha]
 refine wpAny_bind (wpAny_holding (thn (ho pins s σ H _ I h) fun ov s1 ⟨x, H1, I1, r1, q1⟩ => ?_))
 refine wpAny_bind (wpAny_holding (thn (hi pins s1 σ H1 _ I1 q1) fun iv s2 ⟨y, H2, I2, r2, q2⟩ => ?_))
 refine wpAny_bind (wpAny_standAt (wpAny_bind (wpAny_holding (thn (hs pins s2 σ H2 x y v ov iv u _ I2 r1 r2 r q2) fun _ s3 ⟨H3, I3, q3⟩ => ?_))))
 exact wpAny_release ⟨σ, H3, I3, q3⟩
def tAsg (te : TE) (g : TG) : TS := fun D σ H => te σ H fun x H1 => g x σ H1 D.nx
theorem ps_asg {tg e : Expr} {te : TE} {g : TG} (he : PE X e te) (hg : PG X tg g) (hs : swapsWithSole [tg] e pos.line X.env = pure false := by rfl) (hw : swappedStores [tg] e X.env = pure none := by rfl)
  (h1 : (assignEach [tg] X.env).map (·.2) = [assign tg X.env] := by rfl) : PS X (.Assign [tg] e pos) (tAsg te g) := by
 intro pins s σ H D I h
 refine wpAny_Assign_stores (thn (he pins s σ H _ I h) fun v s1 ⟨x, H1, I1, r1, q1⟩ => ?_) hs hw
 rw [h1]
 exact thn (hg pins s1 σ H1 x v _ I1 r1 q1) fun _ s2 q => q
theorem ps_set {i : Nat} {x : Str} {e : Expr} {te : TE} {pos' : Pos} (hN : X.N.Nodup) (hi : X.N[i]? = some x) (hx : Loc X.env.scope x) (he : PE X e te) (hs : swapsWith e (some (.Name x pos')) pos.line X.env = pure false := by rfl) (hf : X.fn x = true ∨ X.env.scope.names.lookup x = some .local := by first | exact .inl rfl | exact .inr rfl | assumption) :
  PS X (.Assign [.Name x pos'] e pos) (tAsg te (gName i)) := by
 intro pins s σ H D I h
 refine wpAny_Assign_Name (thn (he pins s σ H _ I h) fun v s1 ⟨y, H1, I1, r1, q1⟩ => ?_) hs
 exact store_ok I1 hN hi hx r1 (fun s2 I2 => ⟨_, H1, I2, q1⟩) hf
def tAug (i : Nat) (te : TE) (ti : TIp) : TS := fun D σ H => ∃ x, σ[i]? = some (some x) ∧ te σ H fun y H1 => ti x y H1 fun z H2 => D.nx (σ.set i (some z)) H2
theorem ps_aug {i : Nat} {x : Str} {e : Expr} {te : TE} {op : Operator} {ti : TIp} {pos' : Pos} (hN : X.N.Nodup) (hi : X.N[i]? = some x) (hx : Loc X.env.scope x) (he : PE X e te) (ho : PIp X op ti) (hf : X.fn x = true ∨ X.env.scope.names.lookup x = some .local := by first | exact .inl rfl | exact .inr rfl | assumption) :
  PS X (.AugAssign (.Name x pos') op e pos) (tAug i te ti) := by
 intro pins s σ H D I h
 obtain ⟨v, e1, h⟩ := h
 obtain ⟨m, hn, hl⟩ := I.loc
 have vis : Vis X.env.scope x := by rcases hx with k | k; exact .inl k; exact .inr (.inl k)
 obtain ⟨u, r, l⟩ := hl i x v hi e1 vis
 refine wpAny_AugAssign_Name ?_
 have go : wpAny (model X.prog X.w) X.A (eval e X.env) (fun w s₂ => wpAny (model X.prog X.w) X.A (inplaceOp op u w) (fun r s₃ => wpAny (model X.prog X.w) X.A (storeName X.env x r) (fun _ => SP X pins D .next) X.xe s₃) X.xe s₂) X.xe s := by
  refine thn (he pins s σ H _ I h) fun w s1 ⟨y, H1, I1, r1, q1⟩ => ?_
  refine thn (ho pins s1 σ H1 v y u w _ I1 r r1 q1) fun z s2 ⟨zv, H2, I2, r2, q2⟩ => ?_
  exact store_ok I2 hN hi hx r2 (fun s3 I3 => ⟨_, H2, I3, q2⟩) hf
 rcases l with ⟨hk, hm⟩ | ⟨hk, c, hc, hcell⟩
 ·exact wpAny_loadName_local I.ok.kind hk hn hm go
 ·rcases hk with hk | hk
  ·exact wpAny_loadName_cell I.ok.kind hk hc hcell go
  ·rcases hx with k | k
   ·have : X.env.scope.names.lookup x = some .free := hk
    rw [k] at this; cases this
   ·have : X.env.scope.names.lookup x = some .free := hk
    rw [k] at this; cases this
def ipI (f : Int → Int → Int) : TIp := fun x y H Q => ∃ i j, x = .int i ∧ y = .int j ∧ Q (.int (f i j)) H
theorem ip_add : PIp X .Add (ipI fun i j => i + j) := by
 intro pins s σ H x y v u Q I r1 r2 h
 obtain ⟨i, j, e1, e2, q⟩ := h
 subst e1; subst e2
 obtain ⟨t, rfl⟩ := r1
 obtain ⟨t', rfl⟩ := r2
 exact iadd_int ⟨.int _, H, I.tok _, ⟨_, rfl⟩, q⟩
end
section
variable {X : Cx} {pos : Pos}
def tWhile (c : TT) (tb : TS) : TS := fun D σ H => ∃ W : Nat → St → Hp → Prop, (∃ m, W m σ H) ∧ ∀ m σ H, W m σ H →
 c σ H fun b H1 => if b = true then ∃ N : St → Hp → Prop, (∀ σ' H', N σ' H' → ∃ m', m' < m ∧ W m' σ' H') ∧ tb { D with nx := N, ct := N, bk := D.nx } σ H1 else D.nx σ H1
theorem ps_while {c : Expr} {body : List Stmt} {tc : TT} {tb : TS} (hp : PassesOwn (model X.prog X.w) X.A X.env X.xe) (hc : PT X c tc) (hb : PSs X body tb) : PS X (.While c body [] pos) (tWhile tc tb) := by
 intro pins s σ H D I h
 obtain ⟨W, ⟨m0, w0⟩, turn⟩ := h
 refine wpAny_While (codeAny_whileLoop (fun n s' => ∃ σ' H', Inv X pins σ' H' s' ∧ W n σ' H') ?_ m0 ⟨σ, H, I, w0⟩)
 rintro n s1 ⟨σ1, H1, I1, w1⟩
 refine wpAny_passesOwn hp (thn (hc pins s1 σ1 H1 _ I1 (turn n σ1 H1 w1)) fun b s2 ⟨H2, I2, q2⟩ => ?_)
 cases b with
 | true =>
  obtain ⟨N, hN, q2⟩ := q2
  rw [if_pos rfl]
  refine wpAny_passesOwn hp (thn (hb pins s2 σ1 H2 _ I2 q2) fun f s3 q3 => ?_)
  cases f with
  | next =>
   obtain ⟨σ3, H3, I3, n3⟩ := q3
   obtain ⟨m', hm, w3⟩ := hN σ3 H3 n3
   exact ⟨m', hm, σ3, H3, I3, w3⟩
  | cont =>
   obtain ⟨σ3, H3, I3, n3⟩ := q3
   obtain ⟨m', hm, w3⟩ := hN σ3 H3 n3
   exact ⟨m', hm, σ3, H3, I3, w3⟩
  | brk => exact q3
  | ret v => exact q3
 | false =>
  rw [if_neg Bool.false_ne_true]
  exact wpAny_execs_nil ⟨σ1, H2, I2, q2⟩
end
structure It where
 go : Nat → Hp → Prop
 yld : Nat → Hp → V → Hp → Prop
 stop : Nat → Hp → Prop
def FpOk (X : Cx) (pins : List (Addr × Obj)) (H : Hp) (b : Addr) : Prop :=
 H b = none ∧ b ≠ X.env.locals ∧ b ∉ X.fs ∧ (b ∈ X.ex ∨ X.s₀.heap.objs.size ≤ b) ∧ (∀ x c, X.env.cells.lookup x = some c → c ≠ b) ∧ ∀ p ∈ X.pn ++ pins, p.1 ≠ b
theorem Inv.fpOk {X : Cx} {pins : List (Addr × Obj)} {σ : St} {H H' : Hp} {s : Shared} {b : Addr} (I : Inv X pins σ H s) (hb : s.heap.objs.size ≤ b) (hn : H' b = none) : FpOk X pins H' b := by
 refine ⟨hn, Nat.ne_of_gt (Nat.lt_of_lt_of_le I.lt hb), I.nofs hb, .inr (Nat.le_trans I.sz hb), fun x c e z => ?_, fun p hp z => ?_⟩
 ·obtain ⟨v, q⟩ := I.cell x c e
  exact absurd (Nat.lt_of_lt_of_le q.lt (by rw [z]; exact hb)) (Nat.lt_irrefl _)
 ·exact absurd (Nat.lt_of_lt_of_le (Heap.lt_size (I.pin p hp).1) (by rw [z]; exact hb)) (Nat.lt_irrefl _)
structure Turn (P : Program) (w : World) (K : PySem.W.Frag) (tg : Expr) (J : It) (fp : List Addr) (it : Addr) (tn : Nat → Heap → Prop) : Prop where
 mem : it ∈ fp
 obj : ∀ i h, tn i h → ∀ b ∈ fp, ∃ o, h.get? b = some o ∧ ∀ v, o.data ≠ .cell v
 keep : ∀ i h h', tn i h → (∀ b ∈ fp, ∀ o, h.get? b = some o → h'.get? b = some o) → tn i h'
 item : ∀ (X : Cx), X.prog = P → X.w = w → X.K = K → X.calm = true → ∀ (i : Nat) (pins : List (Addr × Obj)) (s : Shared) (σ : St) (H : Hp) (E : Value → Shared → Prop), Inv X pins σ H s → (∀ b ∈ fp, FpOk X pins H b) → tn i s.heap → J.go i H →
  wpAny (model P w) X.A (pyNext (.ref it)) (fun r s1 => ∃ u, r = some u ∧
   wpAny (model P w) X.A (letOwnedTupleGo tg (.ref it) u) (fun _ s2 => ∃ x H', Inv X pins σ H' s2 ∧ RelV x u ∧ J.yld i H x H' ∧ tn (i + 1) s2.heap ∧ ∀ b ∈ fp, H' b = none) E s1) E s
 done : ∀ (X : Cx), X.prog = P → X.w = w → X.K = K → X.calm = true → ∀ (i : Nat) (pins : List (Addr × Obj)) (s : Shared) (σ : St) (H : Hp) (E : Value → Shared → Prop), Inv X pins σ H s → (∀ b ∈ fp, FpOk X pins H b) → tn i s.heap → J.stop i H →
  wpAny (model P w) X.A (pyNext (.ref it)) (fun r s1 => r = none ∧ Inv X pins σ H s1) E s
 self : ∀ (A : Around) (i : Nat) (s : Shared) (Q : Value → Shared → Prop) (E : Value → Shared → Prop), tn i s.heap → Q (.ref it) s → wpAny (model P w) A (pyIter (.ref it)) Q E s
abbrev TI := St → Hp → (It → Hp → Prop) → Prop
def PIE (X : Cx) (pins : List (Addr × Obj)) (σ : St) (tg : Expr) (R : It → Hp → Prop) (itv : Value) (s2 : Shared) : Prop :=
 ∃ (it : Addr) (fp : List Addr) (tn : Nat → Heap → Prop) (J : It) (H' : Hp), itv = .ref it ∧ Inv X pins σ H' s2 ∧ Turn X.prog X.w X.K tg J fp it tn ∧ tn 0 s2.heap ∧ (∀ b ∈ fp, FpOk X pins H' b) ∧ R J H'
def PI (X : Cx) (tg iter : Expr) (wi : TI) : Prop :=
 ∀ (pins : List (Addr × Obj)) (s : Shared) (σ : St) (H : Hp) (R : It → Hp → Prop), Inv X pins σ H s → wi σ H R →
  wpAny (model X.prog X.w) X.A (eval iter X.env) (fun v s1 => wpAny (model X.prog X.w) X.A (pyIter v) (PIE X pins σ tg R) X.xe s1) X.xe s
theorem go_of {M : Model} {A : Around} {E : Value → Shared → Prop} {s : Shared} {tg : Expr} {it : Addr} {u : Value} {o : Obj} {n : String} {vs : Array Value} {Q : Unit → Shared → Prop} (ho : s.heap.get? it = some o) (hc : o.cls = .type n) (hd : o.data = .fields vs)
  (hn : ["enumerate", "zip", "dict_itemiterator", "dict_reverseitemiterator", "odict_iterator", "itertools.zip_longest", "itertools.pairwise"].contains n = false) (hQ : Q () s) : wpAny M A (letOwnedTupleGo tg (.ref it) u) Q E s := by
 unfold letOwnedTupleGo
 cases tg <;> first
  | exact wpAny_pure hQ
  | (cases u <;> first
    | exact wpAny_pure hQ
    | (refine wpAny_bind (wpAny_load ho ?_); rw [hc, hd]; show wpAny M A (if (["enumerate", "zip", "dict_itemiterator", "dict_reverseitemiterator", "odict_iterator", "itertools.zip_longest", "itertools.pairwise"].contains n && vs[0]? == some (rawInt _)) = true then _ else _) Q E s; rw [if_neg (by intro h; rw [hn, Bool.false_and] at h; cases h)]; exact wpAny_pure hQ))
def Itl (K : PySem.W.Frag) (a : Addr) : It :=
 ⟨fun i H => ∃ xs x, SqL K H a xs ∧ xs[i]? = some x, fun i H x H' => H' = H ∧ ∀ xs, SqL K H a xs → xs[i]? = some x, fun i H => ∃ xs, SqL K H a xs ∧ xs.length ≤ i⟩
def Itt (K : PySem.W.Frag) (a : Addr) : It :=
 ⟨fun i H => ∃ xs x, SqT K H a xs ∧ xs[i]? = some x, fun i H x H' => H' = H ∧ ∀ xs, SqT K H a xs → xs[i]? = some x, fun i H => ∃ xs, SqT K H a xs ∧ xs.length ≤ i⟩
def Itr (lo : Int) (n : Nat) : It := ⟨fun i _ => i < n, fun i H x H' => H' = H ∧ x = .int (lo + i), fun i _ => n ≤ i⟩
theorem turn_list {P : Program} {w : World} {K : PySem.W.Frag} {tg : Expr} (a it : Addr) : Turn P w K tg (Itl K a) [it] it (fun i h => h.IsListIter it a i) where
 mem := by simp
 obj := fun i h st b hb => by
  have e : b = it := by simpa using hb
  subst e
  obtain ⟨o, e, c, d⟩ := st
  exact ⟨o, e, fun v z => by rw [d] at z; cases z⟩
 keep := fun i h h' st k => st.at fun o e => k it (by simp) o e
 item := by
  intro X hP hw hK hc i pins s σ H E I hf st hg
  subst hP hw hK
  obtain ⟨xs, x, hq, hx⟩ := hg
  obtain ⟨its, rv, p, hz⟩ := I.list hq
  obtain ⟨u, hu, ru⟩ := rv.get hx
  obtain ⟨f0, f1, f2, f3, f4, f5⟩ := hf it (by simp)
  refine wpAny_pyNext_list_item st p.isList (x := u) (by simpa using hu) fun h' st' sb => ?_
  have I1 : Inv X pins σ H { s with heap := h' } := I.turned (t' := s.toks) (fun b o hb e => (sb.2 b hb).trans e) f0 f1 f3 f4 f5
  obtain ⟨o, e, c, d⟩ := id st'
  exact ⟨u, rfl, go_of (s := { s with heap := h' }) e c d (by decide) ⟨x, H, I1, ru, ⟨rfl, fun ys hy => by rw [I.list_inj hy hq]; exact hx⟩, st', fun b hb => (hf b hb).1⟩⟩
 done := by
  intro X hP hw hK hc i pins s σ H E I hf st hg
  subst hP hw hK
  obtain ⟨xs, hq, hx⟩ := hg
  obtain ⟨its, rv, p, hz⟩ := I.list hq
  obtain ⟨f0, f1, f2, f3, f4, f5⟩ := hf it (by simp)
  have hl := rv.length
  exact wpAny_pyNext_list_end (I.ok.hd hc) st p.isList (by simp; omega) fun h' eb => ⟨rfl, I.turned (t' := s.toks) (fun b o hb e => eb b o hb e) f0 f1 f3 f4 f5⟩
 self := fun _ _ _ _ _ st h => wpAny_pyIter_listiter st h
theorem turn_tuple {P : Program} {w : World} {K : PySem.W.Frag} {tg : Expr} (a it : Addr) : Turn P w K tg (Itt K a) [it] it (fun i h => h.IsTupleIter it a i) where
 mem := by simp
 obj := fun i h st b hb => by
  have e : b = it := by simpa using hb
  subst e
  obtain ⟨o, e, c, d⟩ := st
  exact ⟨o, e, fun v z => by rw [d] at z; cases z⟩
 keep := fun i h h' st k => st.at fun o e => k it (by simp) o e
 item := by
  intro X hP hw hK hc i pins s σ H E I hf st hg
  subst hP hw hK
  obtain ⟨xs, x, hq, hx⟩ := hg
  obtain ⟨its, rv, p, hz⟩ := I.tuple hq
  obtain ⟨u, hu, ru⟩ := rv.get hx
  obtain ⟨f0, f1, f2, f3, f4, f5⟩ := hf it (by simp)
  refine wpAny_pyNext_tuple_item st (show s.heap.IsTuple a its.toArray from p) (x := u) (by simpa using hu) fun h' st' sb => ?_
  have I1 : Inv X pins σ H { s with heap := h' } := I.turned (t' := s.toks) (fun b o hb e => (sb.2 b hb).trans e) f0 f1 f3 f4 f5
  obtain ⟨o, e, c, d⟩ := id st'
  exact ⟨u, rfl, go_of (s := { s with heap := h' }) e c d (by decide) ⟨x, H, I1, ru, ⟨rfl, fun ys hy => by rw [I.tuple_inj hy hq]; exact hx⟩, st', fun b hb => (hf b hb).1⟩⟩
 done := by
  intro X hP hw hK hc i pins s σ H E I hf st hg
  subst hP hw hK
  obtain ⟨xs, hq, hx⟩ := hg
  obtain ⟨its, rv, p, hz⟩ := I.tuple hq
  obtain ⟨f0, f1, f2, f3, f4, f5⟩ := hf it (by simp)
  have hl := rv.length
  exact wpAny_pyNext_tuple_end (I.ok.hd hc) st (show s.heap.IsTuple a its.toArray from p) (by simp; omega) fun h' eb => ⟨rfl, I.turned (t' := s.toks) (fun b o hb e => eb b o hb e) f0 f1 f3 f4 f5⟩
 self := fun _ _ _ _ _ st h => wpAny_pyIter_tupleiter st h
theorem turn_range {P : Program} {w : World} {K : PySem.W.Frag} {tg : Expr} (it : Addr) (lo : Int) (n : Nat) : Turn P w K tg (Itr lo n) [it] it (fun i h => IsRangeIter h it (lo + (i : Nat) * 1) ((n : Int) - (i : Nat)) 1) where
 mem := by simp
 obj := fun i h st b hb => by
  have e : b = it := by simpa using hb
  subst e
  exact ⟨_, st, fun v z => by
   have z' : Data.fields _ = Data.cell v := z
   cases z'⟩
 keep := fun i h h' st k => k it (by simp) _ st
 item := by
  intro X hP hw hK hc i pins s σ H E I hf st hg
  subst hP hw hK
  obtain ⟨f0, f1, f2, f3, f4, f5⟩ := hf it (by simp)
  have W := Walks.range (prog := X.prog) (w := X.w) (I.ok.hd hc) it lo 1 n
  refine W.item i s _ _ hg st fun v h' tk hv st' kk => ?_
  obtain ⟨t, rfl⟩ := hv
  have I1 : Inv X pins σ H { s with heap := h', toks := tk } := I.turned (fun b o hb e => kk b o (by simpa using hb) e) f0 f1 f3 f4 f5
  refine ⟨_, rfl, go_of (s := { s with heap := h', toks := tk }) (n := "range_iterator") st' rfl rfl (by decide) ⟨.int (lo + i), H, I1, ⟨t, ?_⟩, ⟨rfl, rfl⟩, st', fun b hb => (hf b hb).1⟩⟩
  rw [Int.mul_one]
 done := by
  intro X hP hw hK hc i pins s σ H E I hf st hg
  subst hP hw hK
  obtain ⟨f0, f1, f2, f3, f4, f5⟩ := hf it (by simp)
  exact wpAny_pyNext_range_end (I.ok.hd hc) st (by have : n ≤ i := hg; omega) fun h' eb => ⟨rfl, I.turned (t' := s.toks) (fun b o hb e => eb b o hb e) f0 f1 f3 f4 f5⟩
 self := fun _ _ _ _ _ st h => wpAny_pyIter_rangeiter st h
section
variable {X : Cx} {tg : Expr}
def iList (K : PySem.W.Frag) (tl : TE) : TI := fun σ H R => tl σ H fun x H1 => ∃ a, x = .ref a ∧ (∃ xs, SqL K H1 a xs) ∧ R (Itl K a) H1
def iTup (K : PySem.W.Frag) (tl : TE) : TI := fun σ H R => tl σ H fun x H1 => ∃ a, x = .ref a ∧ (∃ xs, SqT K H1 a xs) ∧ R (Itt K a) H1
theorem pi_list {l : Expr} {tl : TE} (hl : PE X l tl) : PI X tg l (iList X.K tl) := by
 intro pins s σ H R I h
 refine thn (hl pins s σ H _ I h) fun v s1 ⟨x, H1, I1, r1, q1⟩ => ?_
 obtain ⟨a, e, ⟨xs, hq⟩, q⟩ := q1
 subst e
 cases r1
 obtain ⟨its, rv, p, hz⟩ := I1.list hq
 refine wpAny_pyIter_list p.isList ?_
 refine ⟨s1.heap.objs.size, [s1.heap.objs.size], _, _, H1, rfl, I1.kept (t' := s1.toks) fun b o e => Heap.get?_push_of_some _ e, turn_list a _, ⟨_, Heap.get?_push_size _ rfl, rfl, rfl⟩, fun b hb => ?_, q⟩
 have e : b = s1.heap.objs.size := by simpa using hb
 subst e
 exact I1.fpOk (Nat.le_refl _) (I1.hok.fresh (Nat.le_refl _))
theorem pi_tup {l : Expr} {tl : TE} (hl : PE X l tl) : PI X tg l (iTup X.K tl) := by
 intro pins s σ H R I h
 refine thn (hl pins s σ H _ I h) fun v s1 ⟨x, H1, I1, r1, q1⟩ => ?_
 obtain ⟨a, e, ⟨xs, hq⟩, q⟩ := q1
 subst e
 cases r1
 obtain ⟨its, rv, p, hz⟩ := I1.tuple hq
 refine wpAny_pyIter_tuple (show s1.heap.IsTuple a its.toArray from p) ?_
 refine ⟨s1.heap.objs.size, [s1.heap.objs.size], _, _, H1, rfl, I1.kept (t' := s1.toks) fun b o e => Heap.get?_push_of_some _ e, turn_tuple a _, ⟨_, Heap.get?_push_size _ rfl, rfl, rfl⟩, fun b hb => ?_, q⟩
 have e : b = s1.heap.objs.size := by simpa using hb
 subst e
 exact I1.fpOk (Nat.le_refl _) (I1.hok.fresh (Nat.le_refl _))
theorem range_it {pins : List (Addr × Obj)} {σ : St} {H : Hp} {s : Shared} {R : It → Hp → Prop} {E : Value → Shared → Prop} {lo hi : Int} {t u v : Tok} {tk : Nat} (I : Inv X pins σ H s) (h1 : -(2 ^ 62) ≤ lo) (h2 : lo < 2 ^ 62) (h3 : -(2 ^ 62) ≤ hi) (h4 : hi < 2 ^ 62)
  (q : R (Itr lo (hi - lo).toNat) H) : wpAny (model X.prog X.w) X.A (pyIter (.ref s.heap.objs.size)) (PIE X pins σ tg R) E { s with heap := s.heap.push { cls := .type "range", data := .fields #[.int lo t, .int hi u, .int 1 v] }, toks := tk } := by
 refine wpAny_pyIter_range (IsRange.new ..) (small_one h1 h2 h3 h4) ?_
 have I1 : Inv X pins σ H { s with heap := s.heap.push { cls := .type "range", data := .fields #[.int lo t, .int hi u, .int 1 v] }, toks := tk } := I.kept fun b o e => Heap.get?_push_of_some _ e
 refine ⟨(s.heap.push { cls := .type "range", data := .fields #[.int lo t, .int hi u, .int 1 v] }).objs.size, [(s.heap.push { cls := .type "range", data := .fields #[.int lo t, .int hi u, .int 1 v] }).objs.size], _, _, H, rfl,
  I1.kept (t' := tk) fun b o e => Heap.get?_push_of_some _ e, turn_range _ lo (hi - lo).toNat, ?_, fun b hb => ?_, q⟩
 ·have e1 : lo + ((0 : Nat) : Int) * 1 = lo := by simp
  have e2 : (((hi - lo).toNat : Nat) : Int) - ((0 : Nat) : Int) = Builtin.Range.rangeSize lo hi 1 := by rw [rangeSize_one]; split <;> omega
  show IsRangeIter _ _ (lo + ((0 : Nat) : Int) * 1) ((((hi - lo).toNat : Nat) : Int) - ((0 : Nat) : Int)) 1
  rw [e1, e2]
  exact Heap.get?_push_size _ rfl
 ·have e : b = (s.heap.push { cls := .type "range", data := .fields #[.int lo t, .int hi u, .int 1 v] }).objs.size := by simpa using hb
  subst e
  exact I1.fpOk (Nat.le_refl _) (I1.hok.fresh (Nat.le_refl _))
def iRng1 (ta : TA) : TI := fun σ H R => ta σ H fun vs H1 => ∃ j : Int, vs = [.int j] ∧ -(2 ^ 62) ≤ j ∧ j < 2 ^ 62 ∧ R (Itr 0 j.toNat) H1
theorem pi_range1 {a : Expr} {ta : TA} {p pos : Pos} (hg : Gl X "range") (hm : X.mg "range" = none) (ha : PA X [a] ta) (hs : starEach [a] X.env = [(false, eval a X.env)] := by rfl) : PI X tg (.Call (.Name "range" p) [a] [] pos) (iRng1 ta) := by
 intro pins s σ H R I h
 refine Call_ (ld_blt I hg hm boot_range (PyProof.Rows.callWith_type1 (thn (ha pos pins s σ H _ I h) fun us s1 ⟨vs, H1, I1, r1, q1⟩ => ?_) hs rfl))
 obtain ⟨j, e, q1, q2, q⟩ := q1
 subst e
 cases r1 with
 | cons r rr =>
  cases rr
  obtain ⟨t, rfl⟩ := r
  exact call_range_1 (range_it I1 (by omega) (by omega) q1 q2 (by simpa using q))
def tFor (wi : TI) (g : TG) (tb : TS) : TS := fun D σ H => wi σ H fun J H1 => ∃ W : Nat → Nat → St → Hp → Prop, (∃ m, W 0 m σ H1) ∧ ∀ i m σ H, W i m σ H →
 (J.stop i H ∧ D.nx σ H) ∨ (J.go i H ∧ ∃ N : St → Hp → Prop, (∀ σ' H', N σ' H' → ∃ m', m' < m ∧ W (i + 1) m' σ' H') ∧ ∀ x H', J.yld i H x H' → g x σ H' fun σ2 H2 => tb { D with nx := N, ct := N, bk := D.nx } σ2 H2)
def pinsAt (fp : List Addr) (h : Heap) : List (Addr × Obj) := fp.filterMap fun b => (h.get? b).map fun o => (b, o)
theorem mem_pinsAt {fp : List Addr} {h : Heap} {b : Addr} {o : Obj} (hb : b ∈ fp) (e : h.get? b = some o) : (b, o) ∈ pinsAt fp h := List.mem_filterMap.mpr ⟨b, hb, by rw [e]; rfl⟩
theorem of_pinsAt {fp : List Addr} {h : Heap} {p : Addr × Obj} (hp : p ∈ pinsAt fp h) : p.1 ∈ fp ∧ h.get? p.1 = some p.2 := by
 obtain ⟨b, hb, e⟩ := List.mem_filterMap.mp hp
 cases q : h.get? b with
 | none => rw [q] at e; cases e
 | some o =>
  rw [q] at e
  have e' : (b, o) = p := Option.some.inj e
  subst e'
  exact ⟨hb, q⟩
theorem Inv.pinned {pins : List (Addr × Obj)} {σ : St} {H : Hp} {s : Shared} {fp : List Addr} (I : Inv X pins σ H s) (hf : ∀ b ∈ fp, FpOk X pins H b) (ho : ∀ b ∈ fp, ∃ o, s.heap.get? b = some o ∧ ∀ v, o.data ≠ .cell v) : Inv X (pins ++ pinsAt fp s.heap) σ H s :=
 I.pins_of fun p hp => (List.mem_append.mp hp).elim (fun z => I.pin p (List.mem_append_right _ z)) fun z => by
  obtain ⟨hb, e⟩ := of_pinsAt z
  obtain ⟨f0, f1, f2, _⟩ := hf p.1 hb
  obtain ⟨o, e', d⟩ := ho p.1 hb
  rw [e] at e'; cases e'
  exact ⟨e, f0, f1, f2, d⟩
theorem Inv.unpinned {pins pl : List (Addr × Obj)} {σ : St} {H : Hp} {s : Shared} (I : Inv X (pins ++ pl) σ H s) : Inv X pins σ H s := I.pins_of fun p hp => I.pin p (List.mem_append_right _ (List.mem_append_left _ hp))
theorem ps_for {iter : Expr} {body : List Stmt} {wi : TI} {g : TG} {tb : TS} {pos : Pos} (hp : PassesOwn (model X.prog X.w) X.A X.env X.xe) (hc : X.calm = true) (hi : PI X tg iter wi) (hg : PG X tg g) (hb : PSs X body tb)
  (hs : ∀ x, foldedSetIterable iter X.env x = pure x := by intro _; rfl) : PS X (.For tg iter body [] pos) (tFor wi g tb) := by
 intro pins s σ H D I h
 refine wpAny_For (thn (hi pins s σ H _ I h) fun v s1 h1 => thn h1 fun itv s2 h2 => ?_) hs
 obtain ⟨it, fp, tn, J, H2, e, I2, T, st2, f2, W, ⟨m0, w0⟩, turn⟩ := h2
 subst e
 -- what stays true of the iterator's objects through the loop
 have stat : ∀ {H' : Hp}, (∀ b ∈ fp, H' b = none) → ∀ b ∈ fp, FpOk X pins H' b := fun hn b hb => ⟨hn b hb, (f2 b hb).2⟩
 refine codeAny_forLoop_any (fun n s' => ∃ i σ' H', Inv X pins σ' H' s' ∧ tn i s'.heap ∧ (∀ b ∈ fp, H' b = none) ∧ W i n σ' H') ?_ m0 ⟨0, σ, H2, I2, st2, fun b hb => (f2 b hb).1, w0⟩
 rintro n s3 ⟨i, σ3, H3, I3, st3, fr3, w3⟩
 rcases turn i n σ3 H3 w3 with ⟨stop, qn⟩ | ⟨go, N, hN, step⟩
 ·refine wpAny_passesOwn hp (thn (T.done X rfl rfl rfl hc i pins s3 σ3 H3 X.xe I3 (stat fr3) st3 stop) fun r s4 ⟨hr, I4⟩ => ?_)
  subst hr
  exact wpAny_execs_nil ⟨σ3, H3, I4, qn⟩
 ·refine wpAny_passesOwn hp (thn (T.item X rfl rfl rfl hc i pins s3 σ3 H3 X.xe I3 (stat fr3) st3 go) fun r s4 ⟨u, hr, h4⟩ => ?_)
  subst hr
  refine wpAny_passesOwn hp (thn h4 fun _ s5 ⟨x, H5, I5, r5, y5, st5, fr5⟩ => ?_)
  have I5' := I5.pinned (stat fr5) (T.obj _ _ st5)
  refine wpAny_passesOwn hp (thn (hg _ s5 σ3 H5 x u _ I5' r5 (step x H5 y5)) fun _ s6 ⟨σ6, H6, I6, q6⟩ => ?_)
  refine wpAny_passesOwn hp (thn (hb _ s6 σ6 H6 _ I6 q6) fun f s7 q7 => ?_)
  have again : ∀ {σ7 : St} {H7 : Hp}, Inv X (pins ++ pinsAt fp s5.heap) σ7 H7 s7 → N σ7 H7 → ∃ m, m < n ∧ ∃ i σ' H', Inv X pins σ' H' s7 ∧ tn i s7.heap ∧ (∀ b ∈ fp, H' b = none) ∧ W i m σ' H' := fun {σ7 H7} I7 n7 => by
   obtain ⟨m', hm, w7⟩ := hN σ7 H7 n7
   refine ⟨m', hm, i + 1, σ7, H7, I7.unpinned, T.keep _ _ _ st5 fun b hb o e => (I7.pin (b, o) (List.mem_append_right _ (List.mem_append_right _ (mem_pinsAt hb e)))).1, fun b hb => ?_, w7⟩
   obtain ⟨o, e, d⟩ := T.obj _ _ st5 b hb
   exact (I7.pin (b, o) (List.mem_append_right _ (List.mem_append_right _ (mem_pinsAt hb e)))).2.1
  cases f with
  | next => obtain ⟨σ7, H7, I7, n7⟩ := q7; exact again I7 n7
  | cont => obtain ⟨σ7, H7, I7, n7⟩ := q7; exact again I7 n7
  | brk => obtain ⟨σ7, H7, I7, q7⟩ := q7; exact ⟨σ7, H7, I7.unpinned, q7⟩
  | ret v => obtain ⟨x7, σ7, H7, I7, r7, q7⟩ := q7; exact ⟨x7, σ7, H7, I7.unpinned, r7, q7⟩
end
theorem for_list {K : PySem.W.Frag} {a : Addr} {xs : List V} {g : TG} {tb : TS} {D : Ends} {σ : St} {H : Hp} (Pv : Nat → St → Hp → Prop) (h0 : Pv 0 σ H) (hl : ∀ i σ H, i ≤ xs.length → Pv i σ H → SqL K H a xs)
  (hs : ∀ i x σ H, xs[i]? = some x → Pv i σ H → g x σ H fun σ2 H2 => tb { D with nx := Pv (i + 1), ct := Pv (i + 1), bk := D.nx } σ2 H2) (hd : ∀ σ H, Pv xs.length σ H → D.nx σ H) :
  ∃ W : Nat → Nat → St → Hp → Prop, (∃ m, W 0 m σ H) ∧ ∀ i m σ H, W i m σ H →
   ((Itl K a).stop i H ∧ D.nx σ H) ∨ ((Itl K a).go i H ∧ ∃ N : St → Hp → Prop, (∀ σ' H', N σ' H' → ∃ m', m' < m ∧ W (i + 1) m' σ' H') ∧ ∀ x H', (Itl K a).yld i H x H' → g x σ H' fun σ2 H2 => tb { D with nx := N, ct := N, bk := D.nx } σ2 H2) := by
 refine ⟨fun i m σ H => m = xs.length - i ∧ i ≤ xs.length ∧ Pv i σ H, ⟨xs.length, by simp, Nat.zero_le _, h0⟩, ?_⟩
 rintro i m σ H ⟨rfl, hi, p⟩
 have q := hl i σ H hi p
 by_cases hlt : i < xs.length
 ·refine .inr ⟨⟨xs, xs[i], q, by simp [hlt]⟩, Pv (i + 1), fun σ' H' p' => ⟨xs.length - (i + 1), by omega, rfl, hlt, p'⟩, fun x H' y => ?_⟩
  obtain ⟨e, y⟩ := y
  subst e
  exact hs i x σ _ (y xs q) p
 ·have e : i = xs.length := by omega
  subst e
  exact .inl ⟨⟨xs, q, Nat.le_refl _⟩, hd σ H p⟩
theorem for_tup {K : PySem.W.Frag} {a : Addr} {xs : List V} {g : TG} {tb : TS} {D : Ends} {σ : St} {H : Hp} (Pv : Nat → St → Hp → Prop) (h0 : Pv 0 σ H) (hl : ∀ i σ H, i ≤ xs.length → Pv i σ H → SqT K H a xs)
  (hs : ∀ i x σ H, xs[i]? = some x → Pv i σ H → g x σ H fun σ2 H2 => tb { D with nx := Pv (i + 1), ct := Pv (i + 1), bk := D.nx } σ2 H2) (hd : ∀ σ H, Pv xs.length σ H → D.nx σ H) :
  ∃ W : Nat → Nat → St → Hp → Prop, (∃ m, W 0 m σ H) ∧ ∀ i m σ H, W i m σ H →
   ((Itt K a).stop i H ∧ D.nx σ H) ∨ ((Itt K a).go i H ∧ ∃ N : St → Hp → Prop, (∀ σ' H', N σ' H' → ∃ m', m' < m ∧ W (i + 1) m' σ' H') ∧ ∀ x H', (Itt K a).yld i H x H' → g x σ H' fun σ2 H2 => tb { D with nx := N, ct := N, bk := D.nx } σ2 H2) := by
 refine ⟨fun i m σ H => m = xs.length - i ∧ i ≤ xs.length ∧ Pv i σ H, ⟨xs.length, by simp, Nat.zero_le _, h0⟩, ?_⟩
 rintro i m σ H ⟨rfl, hi, p⟩
 have q := hl i σ H hi p
 by_cases hlt : i < xs.length
 ·refine .inr ⟨⟨xs, xs[i], q, by simp [hlt]⟩, Pv (i + 1), fun σ' H' p' => ⟨xs.length - (i + 1), by omega, rfl, hlt, p'⟩, fun x H' y => ?_⟩
  obtain ⟨e, y⟩ := y
  subst e
  exact hs i x σ _ (y xs q) p
 ·have e : i = xs.length := by omega
  subst e
  exact .inl ⟨⟨xs, q, Nat.le_refl _⟩, hd σ H p⟩
theorem for_range {lo : Int} {n : Nat} {g : TG} {tb : TS} {D : Ends} {σ : St} {H : Hp} (Pv : Nat → St → Hp → Prop) (h0 : Pv 0 σ H)
  (hs : ∀ i σ H, i < n → Pv i σ H → g (.int (lo + i)) σ H fun σ2 H2 => tb { D with nx := Pv (i + 1), ct := Pv (i + 1), bk := D.nx } σ2 H2) (hd : ∀ σ H, Pv n σ H → D.nx σ H) :
  ∃ W : Nat → Nat → St → Hp → Prop, (∃ m, W 0 m σ H) ∧ ∀ i m σ H, W i m σ H →
   ((Itr lo n).stop i H ∧ D.nx σ H) ∨ ((Itr lo n).go i H ∧ ∃ N : St → Hp → Prop, (∀ σ' H', N σ' H' → ∃ m', m' < m ∧ W (i + 1) m' σ' H') ∧ ∀ x H', (Itr lo n).yld i H x H' → g x σ H' fun σ2 H2 => tb { D with nx := N, ct := N, bk := D.nx } σ2 H2) := by
 refine ⟨fun i m σ H => m = n - i ∧ i ≤ n ∧ Pv i σ H, ⟨n, by simp, Nat.zero_le _, h0⟩, ?_⟩
 rintro i m σ H ⟨rfl, hi, p⟩
 by_cases hlt : i < n
 ·refine .inr ⟨hlt, Pv (i + 1), fun σ' H' p' => ⟨n - (i + 1), by omega, rfl, hlt, p'⟩, fun x H' y => ?_⟩
  obtain ⟨e, y⟩ := y
  subst e y
  exact hs i σ _ hlt p
 ·have e : i = n := by omega
  subst e
  exact .inl ⟨Nat.le_refl _, hd σ H p⟩
abbrev R2 := V → V → Hp → VK → Prop
def OpR (X : Cx) (f : Value → Value → Sem Value) (r : R2) : Prop :=
 ∀ (pins : List (Addr × Obj)) (s : Shared) (σ : St) (H : Hp) (x y : V) (v u : Value) (Q : VK), Inv X pins σ H s → RelV x v → RelV y u → r x y H Q →
  wpAny (model X.prog X.w) X.A (f v u) (EP X pins σ Q) X.xe s
def CallR (X : Cx) (f : Value) (r : List V → Hp → VK → Prop) : Prop :=
 ∀ (pins : List (Addr × Obj)) (s : Shared) (σ : St) (H : Hp) (xs : List V) (us : List Value) (Q : VK), Inv X pins σ H s → Vals xs us → r xs H Q →
  wpAny (model X.prog X.w) X.A (call f us) (EP X pins σ Q) X.xe s
def tOp (r : R2) (ta tb : TE) : TE := fun σ H Q => ta σ H fun x H1 => tb σ H1 fun y H2 => r x y H2 Q
def rI (C : Int → Int → Prop) (g : Int → Int → V) : R2 := fun x y H Q => ∃ i j, x = .int i ∧ y = .int j ∧ C i j ∧ Q (g i j) H
def rI0 (g : Int → Int → V) : R2 := fun x y H Q => ∃ i j, x = .int i ∧ y = .int j ∧ Q (g i j) H
section
variable {X : Cx} {a b c : Expr} {ta tb tc : TE} {pos : Pos}
theorem binT (ha : PE X a ta) (hb : PE X b tb) {pins : List (Addr × Obj)} {s : Shared} {σ : St} {H : Hp} {R : V → V → Hp → Prop} (I : Inv X pins σ H s)
  (h : ta σ H fun x H1 => tb σ H1 fun y H2 => R x y H2) {Q : Value → Shared → Prop} {f : Value → Value → Sem Value}
  (hf : ∀ v u s2 x y H2, Inv X pins σ H2 s2 → RelV x v → RelV y u → R x y H2 → wpAny (model X.prog X.w) X.A (f v u) Q X.xe s2) :
  wpAny (model X.prog X.w) X.A (eval a X.env) (fun v s₁ => wpAny (model X.prog X.w) X.A (eval b X.env) (fun u s₂ => wpAny (model X.prog X.w) X.A (f v u) Q X.xe s₂) X.xe s₁) X.xe s := by
 refine thn (ha pins s σ H _ I h) fun v s1 ⟨x, H1, I1, r1, q1⟩ => ?_
 refine thn (hb pins s1 σ H1 _ I1 q1) fun u s2 ⟨y, H2, I2, r2, q2⟩ => ?_
 exact hf v u s2 x y H2 I2 r1 r2 q2
theorem pe_op {op : Operator} {r : R2} (ho : OpR X (binaryOp op) r) (ha : PE X a ta) (hb : PE X b tb) : PE X (.BinOp a op b pos) (tOp r ta tb) := by
 intro pins s σ H Q I h
 exact wpAny_BinOp (binT ha hb I h fun v u s2 x y H2 I2 rx ry q => ho pins s2 σ H2 x y v u Q I2 rx ry q)
theorem opI {f : Value → Value → Sem Value} {C : Int → Int → Prop} {g : Int → Int → Int}
  (rule : ∀ (i j : Int) (t u : Tok) (s : Shared) (Q : Value → Shared → Prop) (E : Value → Shared → Prop), C i j → Q (.int (g i j) s.toks) { s with toks := s.toks + 1 } → wpAny (model X.prog X.w) X.A (f (.int i t) (.int j u)) Q E s) :
  OpR X f (rI C fun i j => .int (g i j)) := by
 intro pins s σ H x y v u Q I rx ry h
 obtain ⟨i, j, rfl, rfl, hc, q⟩ := h
 obtain ⟨t, rfl⟩ := rx
 obtain ⟨t', rfl⟩ := ry
 exact rule i j t t' s _ _ hc ⟨.int (g i j), H, I.tok _, ⟨_, rfl⟩, q⟩
theorem opI0 {f : Value → Value → Sem Value} {g : Int → Int → Int}
  (rule : ∀ (i j : Int) (t u : Tok) (s : Shared) (Q : Value → Shared → Prop) (E : Value → Shared → Prop), Q (.int (g i j) s.toks) { s with toks := s.toks + 1 } → wpAny (model X.prog X.w) X.A (f (.int i t) (.int j u)) Q E s) :
  OpR X f (rI0 fun i j => .int (g i j)) := by
 intro pins s σ H x y v u Q I rx ry h
 obtain ⟨i, j, rfl, rfl, q⟩ := h
 obtain ⟨t, rfl⟩ := rx
 obtain ⟨t', rfl⟩ := ry
 exact rule i j t t' s _ _ ⟨.int (g i j), H, I.tok _, ⟨_, rfl⟩, q⟩
theorem opB0 {f : Value → Value → Sem Value} {g : Int → Int → Bool}
  (rule : ∀ (i j : Int) (t u : Tok) (s : Shared) (Q : Value → Shared → Prop) (E : Value → Shared → Prop), Q (.bool (g i j)) s → wpAny (model X.prog X.w) X.A (f (.int i t) (.int j u)) Q E s) :
  OpR X f (rI0 fun i j => .bl (g i j)) := by
 intro pins s σ H x y v u Q I rx ry h
 obtain ⟨i, j, rfl, rfl, q⟩ := h
 obtain ⟨t, rfl⟩ := rx
 obtain ⟨t', rfl⟩ := ry
 exact rule i j t t' s _ _ ⟨.bl (g i j), H, I, rfl, q⟩
def CPow (i j : Int) : Prop := 0 ≤ j ∧ j ≤ 1000000 ∧ i.natAbs < 2 ^ 64
def CMul (i j : Int) : Prop := (-(2 ^ 64) < i ∧ i < 2 ^ 64) ∨ (-(2 ^ 64) < j ∧ j < 2 ^ 64)
theorem CMul.ok {i j : Int} (h : CMul i j) : IntMulOk i j := by
 rcases h with ⟨h1, h2⟩ | ⟨h1, h2⟩
 ·exact .of_left (intBits_le_64 h1 h2)
 ·exact .of_right (intBits_le_64 h1 h2)
theorem op_add : OpR X (binaryOp .Add) (rI0 fun i j => .int (i + j)) := opI0 fun _ _ _ _ _ _ _ q => add_int q
theorem op_mul : OpR X (binaryOp .Mult) (rI CMul fun i j => .int (i * j)) := opI fun _ _ _ _ _ _ _ hc q => mul_int q hc.ok
theorem op_mod : OpR X (binaryOp .Mod) (rI (fun _ j => 0 < j) fun i j => .int (i % j)) := opI fun i j _ _ _ _ _ hc q => by
 have h1 : (0 : Int) < j := hc
 exact mod_int' (by omega) (by rw [Int.fmod_eq_emod_of_nonneg i (by omega)]; exact q)
theorem op_pow : OpR X (binaryOp .Pow) (rI CPow fun i j => .int (i ^ j.toNat)) := opI fun _ _ _ _ _ _ _ hc q => pow_int_small hc.1 hc.2.1 hc.2.2 q
end
def scal : V → V → Bool
 | .non, .non => true | .non, .int _ => true | .int _, .non => true | .non, .bl _ => true | .bl _, .non => true | .non, .str _ => true | .str _, .non => true
 | .int _, .int _ => true | .bl _, .bl _ => true | .str _, .str _ => true | .byt _, .byt _ => true
 | .int _, .str _ => true | .str _, .int _ => true | .bl _, .str _ => true | .str _, .bl _ => true
 | _, _ => false
def rEq : R2 := fun x y H Q => scal x y = true ∧ Q (.bl (decide (x = y))) H
def rNe : R2 := fun x y H Q => scal x y = true ∧ Q (.bl (!decide (x = y))) H
theorem dec_int {i j : Int} : decide (V.int i = V.int j) = (i == j) := by
 rw [Bool.eq_iff_iff]
 simp
theorem dec_bl {i j : Bool} : decide (V.bl i = V.bl j) = (i == j) := by
 rw [Bool.eq_iff_iff]
 simp
theorem dec_str {i j : Str} : decide (V.str i = V.str j) = (i == j) := by
 rw [Bool.eq_iff_iff]
 simp
theorem dec_byt {i j : Array UInt8} : decide (V.byt i = V.byt j) = (i.toList == j.toList) := by
 rw [Bool.eq_iff_iff]
 cases i
 cases j
 simp
section
variable {X : Cx} {a b c : Expr} {ta tb tc : TE} {pos : Pos}
theorem fin_bl {pins : List (Addr × Obj)} {σ : St} {H : Hp} {s : Shared} {Q : VK} {k k' : Bool} (I : Inv X pins σ H s) (q : Q (.bl k) H) (e : k = k') : EP X pins σ Q (.bool k') s := by
 subst e
 exact ⟨.bl k, H, I, rfl, q⟩
theorem op_eq : OpR X (compareOp .Eq) rEq := by
 intro pins s σ H x y v u Q I rx ry h
 obtain ⟨hs, q⟩ := h
 cases x with
 | non =>
  cases rx
  cases y with
  | non => cases ry; exact PySem.EqNone.eq_none_none (fin_bl I q (by simp))
  | bl j => cases ry; exact PySem.EqNone.eq_none_bool (fin_bl I q (by simp))
  | int j => obtain ⟨t', rfl⟩ := ry; exact PySem.EqNone.eq_none_int (fin_bl I q (by simp))
  | str j => obtain ⟨t', rfl⟩ := ry; exact PySem.EqNone.eq_none_str (fin_bl I q (by simp))
  | _ => exact absurd (show false = true from hs) Bool.false_ne_true
 | bl i =>
  cases rx
  cases y with
  | non => cases ry; exact PySem.EqNone.eq_bool_none (fin_bl I q (by simp))
  | bl j => cases ry; exact eq_bool (fin_bl I q dec_bl)
  | str j => obtain ⟨t', rfl⟩ := ry; exact PySem.EqMixed.eq_bool_str (fin_bl I q (by simp))
  | _ => exact absurd (show false = true from hs) Bool.false_ne_true
 | int i =>
  obtain ⟨t, rfl⟩ := rx
  cases y with
  | non => cases ry; exact PySem.EqNone.eq_int_none (fin_bl I q (by simp))
  | int j => obtain ⟨t', rfl⟩ := ry; exact eq_int (fin_bl I q dec_int)
  | str j => obtain ⟨t', rfl⟩ := ry; exact PySem.EqMixed.eq_int_str (fin_bl I q (by simp))
  | _ => exact absurd (show false = true from hs) Bool.false_ne_true
 | str i =>
  obtain ⟨t, rfl⟩ := rx
  cases y with
  | non => cases ry; exact PySem.EqNone.eq_str_none (fin_bl I q (by simp))
  | bl j => cases ry; exact PySem.EqMixed.eq_str_bool (fin_bl I q (by simp))
  | int j => obtain ⟨t', rfl⟩ := ry; exact PySem.EqMixed.eq_str_int (fin_bl I q (by simp))
  | str j => obtain ⟨t', rfl⟩ := ry; exact eq_str (fin_bl I q dec_str)
  | _ => exact absurd (show false = true from hs) Bool.false_ne_true
 | byt i =>
  obtain ⟨t, rfl⟩ := rx
  cases y with
  | byt j => obtain ⟨t', rfl⟩ := ry; exact PySem.W.eq_bytes (fin_bl I q dec_byt)
  | _ => exact absurd (show false = true from hs) Bool.false_ne_true
 | _ => cases y <;> exact absurd (show false = true from hs) Bool.false_ne_true
theorem op_ne : OpR X (compareOp .NotEq) rNe := by
 intro pins s σ H x y v u Q I rx ry h
 obtain ⟨hs, q⟩ := h
 cases x with
 | non =>
  cases rx
  cases y with
  | non => cases ry; exact PySem.EqNone.ne_none_none (fin_bl I q (by simp))
  | bl j => cases ry; exact PySem.EqNone.ne_none_bool (fin_bl I q (by simp))
  | int j => obtain ⟨t', rfl⟩ := ry; exact PySem.EqNone.ne_none_int (fin_bl I q (by simp))
  | str j => obtain ⟨t', rfl⟩ := ry; exact PySem.EqNone.ne_none_str (fin_bl I q (by simp))
  | _ => exact absurd (show false = true from hs) Bool.false_ne_true
 | bl i =>
  cases rx
  cases y with
  | non => cases ry; exact PySem.EqNone.ne_bool_none (fin_bl I q (by simp))
  | bl j => cases ry; exact ne_bool (fin_bl I q (congrArg not dec_bl))
  | str j => obtain ⟨t', rfl⟩ := ry; exact PySem.EqMixed.ne_bool_str (fin_bl I q (by simp))
  | _ => exact absurd (show false = true from hs) Bool.false_ne_true
 | int i =>
  obtain ⟨t, rfl⟩ := rx
  cases y with
  | non => cases ry; exact PySem.EqNone.ne_int_none (fin_bl I q (by simp))
  | int j => obtain ⟨t', rfl⟩ := ry; exact ne_int (fin_bl I q (congrArg not dec_int))
  | str j => obtain ⟨t', rfl⟩ := ry; exact PySem.EqMixed.ne_int_str (fin_bl I q (by simp))
  | _ => exact absurd (show false = true from hs) Bool.false_ne_true
 | str i =>
  obtain ⟨t, rfl⟩ := rx
  cases y with
  | non => cases ry; exact PySem.EqNone.ne_str_none (fin_bl I q (by simp))
  | bl j => cases ry; exact PySem.EqMixed.ne_str_bool (fin_bl I q (by simp))
  | int j => obtain ⟨t', rfl⟩ := ry; exact PySem.EqMixed.ne_str_int (fin_bl I q (by simp))
  | str j => obtain ⟨t', rfl⟩ := ry; exact ne_str (fin_bl I q (congrArg not dec_str))
  | _ => exact absurd (show false = true from hs) Bool.false_ne_true
 | byt i =>
  obtain ⟨t, rfl⟩ := rx
  cases y with
  | byt j => obtain ⟨t', rfl⟩ := ry; exact PySem.W.ne_bytes (fin_bl I q (congrArg not dec_byt))
  | _ => exact absurd (show false = true from hs) Bool.false_ne_true
 | _ => cases y <;> exact absurd (show false = true from hs) Bool.false_ne_true
theorem op_lt : OpR X (compareOp .Lt) (rI0 fun i j => .bl (decide (i < j))) := opB0 fun _ _ _ _ _ _ _ q => lt_int q
theorem op_le : OpR X (compareOp .LtE) (rI0 fun i j => .bl (decide (i ≤ j))) := opB0 fun _ _ _ _ _ _ _ q => le_int q
theorem op_ge : OpR X (compareOp .GtE) (rI0 fun i j => .bl (decide (j ≤ i))) := opB0 fun _ _ _ _ _ _ _ q => ge_int q
theorem op_in_str : OpR X (compareOp .In) (fun x y H Q => ∃ i j, x = .str i ∧ y = .str j ∧ Q (.bl (!(Builtin.Str.occurrences j i 0 j.length 1).isEmpty)) H) := by
 intro pins s σ H x y v u Q I rx ry h
 obtain ⟨i, j, rfl, rfl, q⟩ := h
 obtain ⟨t, rfl⟩ := rx
 obtain ⟨t', rfl⟩ := ry
 exact in_str (fin_bl I q rfl)
theorem nomark (b : Expr) {op : CmpOp} (h : op ≠ .In := by decide) (h2 : op ≠ .NotIn := by decide) : behindInMarks op b = false := by
 have e1 : (op == CmpOp.In) = false := by cases op <;> first | rfl | exact absurd rfl h
 have e2 : (op == CmpOp.NotIn) = false := by cases op <;> first | rfl | exact absurd rfl h2
 cases b <;> simp [behindInMarks, e1, e2]
theorem pe_cmpR {op : CmpOp} {r : R2} (ho : OpR X (compareOp op) r) (ha : PE X a ta) (hb : PE X b tb) (hm : behindInMarks op b = false) : PE X (.Compare a [op] [b] pos) (tOp r ta tb) := by
 intro pins s σ H Q I h
 exact wpAny_Compare1 (binT ha hb I h fun v u s2 x y H2 I2 rx ry q => ho pins s2 σ H2 x y v u Q I2 rx ry q) hm
def tTest (t : TE) : TT := fun σ H Q => t σ H fun x H' => ∃ k, x = .bl k ∧ Q k H'
theorem pt_cmpR {op : CmpOp} {r : R2} (ho : OpR X (compareOp op) r) (ha : PE X a ta) (hb : PE X b tb) (hm : behindInMarks op b = false) : PT X (.Compare a [op] [b] pos) (tTest (tOp r ta tb)) := by
 intro pins s σ H Q I h
 refine wpAny_isTrue_Compare1 (thn (ha pins s σ H _ I h) fun v s1 ⟨x, H1, I1, r1, q1⟩ => thn (hb pins s1 σ H1 _ I1 q1) fun u s2 ⟨y, H2, I2, r2, q2⟩ =>
  thn (ho pins s2 σ H2 x y v u _ I2 r1 r2 q2) fun c s3 ⟨z, H3, I3, r3, k, e, q3⟩ => ?_) hm
 subst e
 cases r3
 exact wpAny_truthy_bool ⟨H3, I3, q3⟩
def tChain (r r' : R2) (ta tb tc : TE) : TE := fun σ H Q => ta σ H fun x H1 => tb σ H1 fun y H2 => r x y H2 fun z H3 => ∃ k, z = .bl k ∧
 (if k = true then tc σ H3 fun w' H4 => r' y w' H4 Q else Q (.bl false) H3)
theorem pe_chain {op op' : CmpOp} {r r' : R2} (ho : OpR X (compareOp op) r) (ho' : OpR X (compareOp op') r') (ha : PE X a ta) (hb : PE X b tb) (hc : PE X c tc)
  (hm : lastMarks [op, op'] [b, c] = false := by with_unfolding_all rfl) : PE X (.Compare a [op, op'] [b, c] pos) (tChain r r' ta tb tc) := by
 intro pins s σ H Q I h
 refine Compare_chain (thn (ha pins s σ H _ I h) fun v s1 ⟨x, H1, I1, r1, q1⟩ => chain_link (thn (hb pins s1 σ H1 _ I1 q1) fun u s2 ⟨y, H2, I2, r2, q2⟩ =>
  thn (ho pins s2 σ H2 x y v u _ I2 r1 r2 q2) fun d s3 ⟨z, H3, I3, r3, k, e, q3⟩ => ?_)) hm
 subst e
 cases r3
 refine wpAny_truthy_bool ?_
 cases k with
 | false => exact ite_ff ⟨.bl false, H3, I3, rfl, q3⟩
 | true => exact ite_tt (chain_last (thn (hc pins s3 σ H3 _ I3 q3) fun w' s4 ⟨z', H4, I4, r4, q4⟩ => ho' pins s4 σ H4 y z' u w' Q I4 r2 r4 q4))
theorem pt_chain {op op' : CmpOp} {r r' : R2} (ho : OpR X (compareOp op) r) (ho' : OpR X (compareOp op') r') (ha : PE X a ta) (hb : PE X b tb) (hc : PE X c tc)
  (hm : lastMarks [op, op'] [b, c] = false := by with_unfolding_all rfl) : PT X (.Compare a [op, op'] [b, c] pos) (tTest (tChain r r' ta tb tc)) := by
 intro pins s σ H Q I h
 refine isTrue_chain (thn (ha pins s σ H _ I h) fun v s1 ⟨x, H1, I1, r1, q1⟩ => test_link (thn (hb pins s1 σ H1 _ I1 q1) fun u s2 ⟨y, H2, I2, r2, q2⟩ =>
  thn (ho pins s2 σ H2 x y v u _ I2 r1 r2 q2) fun d s3 ⟨z, H3, I3, r3, k, e, q3⟩ => ?_)) hm
 subst e
 cases r3
 refine wpAny_truthy_bool ?_
 cases k with
 | false =>
  obtain ⟨k', e', q'⟩ := q3
  cases e'
  exact ite_ff ⟨H3, I3, q'⟩
 | true =>
  refine ite_tt (test_last (thn (hc pins s3 σ H3 _ I3 q3) fun w' s4 ⟨z', H4, I4, r4, q4⟩ => thn (ho' pins s4 σ H4 y z' u w' _ I4 r2 r4 q4) fun d' s5 ⟨z2, H5, I5, r5, k2, e2, q5⟩ => ?_))
  subst e2
  cases r5
  exact wpAny_truthy_bool ⟨H5, I5, q5⟩
theorem line63 : (sizeLine : Nat) < 2 ^ 63 := by rw [sizeLine_eq]; decide
theorem op_add_str : OpR X (binaryOp .Add) (fun x y H Q => ∃ i j, x = .str i ∧ y = .str j ∧ i.length + j.length ≤ sizeLine ∧ Q (.str (i ++ j)) H) := by
 intro pins s σ H x y v u Q I rx ry h
 obtain ⟨i, j, rfl, rfl, hz, q⟩ := h
 obtain ⟨t, rfl⟩ := rx
 obtain ⟨t', rfl⟩ := ry
 exact add_str (fun t' tk => ⟨.str (i ++ j), H, I.tok _, ⟨_, rfl⟩, q⟩) hz
theorem vals1 {x : V} {us : List Value} (r : Vals [x] us) : ∃ u, us = [u] ∧ RelV x u := by
 cases r with
 | cons r1 r2 => cases r2; exact ⟨_, rfl, r1⟩
theorem vals2 {x y : V} {us : List Value} (r : Vals [x, y] us) : ∃ u w', us = [u, w'] ∧ RelV x u ∧ RelV y w' := by
 cases r with
 | cons r1 r2 =>
  cases r2 with
  | cons r3 r4 => cases r4; exact ⟨_, _, rfl, r1, r3⟩
theorem call_int1 : CallR X (.type "int") (fun xs H Q => (∃ i, xs = [.int i] ∧ Q (.int i) H) ∨ ∃ k, xs = [.bl k] ∧ Q (.int (if k then 1 else 0)) H) := by
 intro pins s σ H xs us Q I r h
 rcases h with ⟨i, rfl, q⟩ | ⟨k, rfl, q⟩
 ·obtain ⟨u, rfl, t, rfl⟩ := vals1 r
  exact call_int_int ⟨.int i, H, I, ⟨_, rfl⟩, q⟩
 ·obtain ⟨u, rfl, r1⟩ := vals1 r
  cases r1
  exact call_int_bool ⟨.int (if k then 1 else 0), H, I.tok _, ⟨_, rfl⟩, q⟩
def LenV (K : PySem.W.Frag) (x : V) (H : Hp) (n : Nat) : Prop :=
 match x with
 | .str y => y.length ≤ sizeLine ∧ n = y.length
 | .byt y => y.size ≤ sizeLine ∧ n = y.size
 | .ref p => (∃ xs, SqL K H p xs ∧ n = xs.length) ∨ ∃ xs, SqT K H p xs ∧ n = xs.length
 | _ => False
theorem call_len : CallR X (.builtin "len") (fun xs H Q => ∃ x n, xs = [x] ∧ LenV X.K x H n ∧ Q (.int n) H) := by
 intro pins s σ H xs us Q I r h
 obtain ⟨x, n, rfl, e, q⟩ := h
 obtain ⟨u, rfl, rx⟩ := vals1 r
 have hl := line63
 have hs : sizeLine = 16777216 := sizeLine_eq
 cases x with
 | str y =>
  obtain ⟨t, rfl⟩ := rx
  obtain ⟨hy, e'⟩ : y.length ≤ sizeLine ∧ n = y.length := e
  subst e'
  exact len_str (by omega) ⟨.int _, H, I.tok _, ⟨_, rfl⟩, q⟩
 | byt y =>
  obtain ⟨t, rfl⟩ := rx
  obtain ⟨hy, e'⟩ : y.size ≤ sizeLine ∧ n = y.size := e
  subst e'
  exact PySem.W.len_bytes (by omega) ⟨.int _, H, I.tok _, ⟨_, rfl⟩, q⟩
 | ref p =>
  cases rx
  have e' : (∃ xs, SqL X.K H p xs ∧ n = xs.length) ∨ ∃ xs, SqT X.K H p xs ∧ n = xs.length := e
  rcases e' with ⟨xs, hx, e'⟩ | ⟨xs, hx, e'⟩
  ·subst e'
   obtain ⟨its, r', pl, hz⟩ := I.list hx
   have hlen := r'.length
   exact Calls.call_len_list pl.isList (by simp only [List.size_toArray]; omega) ⟨.int xs.length, H, I.tok _, ⟨_, by simp only [List.size_toArray]; rw [hlen]⟩, q⟩
  ·subst e'
   obtain ⟨its, r', pl, hz⟩ := I.tuple hx
   have hlen := r'.length
   exact len_tuple pl (by simp only [List.size_toArray]; omega) ⟨.int xs.length, H, I.tok _, ⟨_, by simp only [List.size_toArray]; rw [hlen]⟩, q⟩
 | _ => exact (show False from e).elim
end
structure ObjM (h : Heap) (x dx C : Addr) (mA : Str → Option Value) : Prop where
 obj : h.get? x = some (PySem.W.instObj C dx)
 ns : h.Ns1 dx mA
 ne : dx ≠ x
theorem lookIn_ns {h : Heap} {dx : Addr} {mA : Str → Option Value} (n : h.Ns1 dx mA) : ∃ od, h.get? dx = some od ∧ ∀ name, PySem.W.lookIn name od = some (mA name) := by
 obtain ⟨o, es, ep, ho, hd, hk, _, hm⟩ := n
 refine ⟨o, ho, fun name => ?_⟩
 have e := hm name
 unfold nsFind findBy at e
 rw [← Array.find?_toList] at e
 unfold PySem.W.lookIn
 rw [hd]
 dsimp only
 split
 ·rename_i y q
  rw [q] at e
  exact congrArg some e
 ·rename_i q
  rw [q] at e
  have a : es.toList.any (·.refKey) = false := by
   rw [List.any_eq_false]
   intro y hy
   obtain ⟨z, t, hkey⟩ := hk y (Array.mem_toList_iff.mp hy)
   simp [DictEntry.refKey, hkey]
  have a' : ¬ es.toList.any (·.refKey) = true := by rw [a]; exact Bool.false_ne_true
  rw [if_neg a']
  exact congrArg some e
theorem ObjM.look {h : Heap} {x dx C : Addr} {mA : Str → Option Value} (I : ObjM h x dx C mA) : ∃ od, PySem.W.InstAt h x (PySem.W.instObj C dx) C (some od) ∧ ∀ name, PySem.W.lookIn name od = some (mA name) :=
 let ⟨od, ho, hl⟩ := lookIn_ns I.ns
 ⟨od, ⟨I.obj, rfl, rfl, ho⟩, hl⟩
section
variable {prog : Program} {w : World} {A : Around} {E : Value → Shared → Prop} {s : Shared} {K : PySem.W.Frag} {x dx C f : Addr} {mA : Str → Option Value} {name : Str} {v : Value}
end
theorem RelO.some_of {v : V} {o : Option Value} (r : RelO (some v) o) : ∃ u, o = some u ∧ RelV v u := by
 cases o with
 | none => exact (show False from r).elim
 | some u => exact ⟨u, rfl, r⟩
theorem handed_of {v : V} {u : Value} (r : RelV v u) : PySem.W.handedIn u = true := by
 cases v with
 | non => cases (show u = Value.none from r); rfl
 | bl b => cases (show u = Value.bool b from r); rfl
 | int i => obtain ⟨t, e⟩ := (show ∃ t, u = Value.int i t from r); cases e; rfl
 | str x => obtain ⟨t, e⟩ := (show ∃ t, u = Value.str x t from r); cases e; rfl
 | byt b => obtain ⟨t, e⟩ := (show ∃ t, u = Value.bytes b t from r); cases e; rfl
 | flt b => obtain ⟨t, e⟩ := (show ∃ t, u = Value.float b t from r); cases e; rfl
 | ref a => cases (show u = Value.ref a from r); rfl
 | ty n => cases (show u = Value.type n from r); rfl
section
variable {P : Program} {w : World} {H H' : Hp} {h h' : Heap} {a C dx : Addr} {fs fs' : List (Str × V)}
theorem ins_get (hok : HOk P w H h) (e : H a = some (.ins C dx fs)) : ∃ mA, ObjM h a dx C mA ∧ (∀ f, RelO (fs.lookup f) (mA f)) ∧ PySem.Within mA (fs.map (·.1)) ∧ fs.length ≤ 1000 ∧ H dx = some (.own a) := by
 obtain ⟨d, z, ne, ob, mA, n, r, q⟩ := (show ObjOk P w H h a (.ins C dx fs) from hok a _ e)
 exact ⟨mA, ⟨ob, n, ne⟩, r, q, z, d⟩
end
structure Cls (K : PySem.W.Frag) (C : Addr) : Prop where
 pg : PySem.W.plainGet K C Str.empty = true
 hd : PySem.W.hasDictIn K C = true
 po : PySem.W.plainOver K C = true
 sa : PySem.W.findIn K (.ref C) "__setattr__" = some (some (.builtin "object.__setattr__"))
theorem Cls.get {K : PySem.W.Frag} {C : Addr} (c : Cls K C) (f : Str) : PySem.W.plainGet K C f = true := c.pg
structure Con (K : PySem.W.Frag) (C : Addr) (f : Str) (v : V) (u : Value) : Prop where
 at_ : PySem.W.findIn K (.ref C) f = some (some u)
 rel : RelV v u
 get : PySem.W.specialIn K u "__get__" = some none
 cp : PySem.W.copiedNames.contains f = false
structure Meth (K : PySem.W.Frag) (C : Addr) (m : Str) (f : Addr) : Prop where
 at_ : PySem.W.findIn K (.ref C) m = some (some (.ref f))
 fn : PySem.W.isFn K (.ref f) = true
 kp : PySem.W.keepIn K (.ref f) = true
section
variable {X : Cx} {pins : List (Addr × Obj)} {σ : St} {H : Hp} {s : Shared} {a C dx : Addr} {fs : List (Str × V)} {f : Str} {v : V} {A : Around} {E : Value → Shared → Prop}
theorem attr_of {prog : Program} {w : World} {env : Env} {e : Expr} {f : Str} {pos : Pos} {s : Shared} {Q : Value → Shared → Prop} (hb : attributeBase e f env (eval e env) = eval e env)
  (h : wpAny (model prog w) A (eval e env) (fun o s₁ => wpAny (model prog w) A (getAttr o f true) Q E s₁) E s) : wpAny (model prog w) A (eval (.Attribute e f pos) env) Q E s :=
 Attribute_any_ h (by rw [arm_eval_Attribute, hb])
end
section
variable {X : Cx} {o e value : Expr} {f : Str} {pos pos' tpos : Pos} {ta tv : TE}
end
section
variable {X : Cx} {pins : List (Addr × Obj)} {σ : St} {H : Hp} {s : Shared} {A : Around} {E : Value → Shared → Prop} {Q : Value → Shared → Prop} {c : Value} {b : Bool}
inductive TyOf (K : PySem.W.Frag) (H : Hp) : V → Value → Prop where
 | non : TyOf K H .non (.type "NoneType")
 | bl (x : Bool) : TyOf K H (.bl x) (.type "bool")
 | int (i : Int) : TyOf K H (.int i) (.type "int")
 | str (x : Str) : TyOf K H (.str x) (.type "str")
 | flt (x : UInt64) : TyOf K H (.flt x) (.type "float")
 | lst {a : Addr} {xs : List V} (e : H a = some (.lst xs)) : TyOf K H (.ref a) (.type "list")
 | frz {a : Addr} {o : Obj} {xs : List V} (e : H a = some (.frz o (.lst xs))) : TyOf K H (.ref a) (.type "list")
 | tup {a : Addr} {xs : List V} (e : H a = some (.tup xs)) : TyOf K H (.ref a) (.type "tuple")
 | dK {a : Addr} {kvs : List (Key × V)} (e : H a = some (.dK kvs)) : TyOf K H (.ref a) (.type "dict")
 | dT {a : Addr} {kvs : List (List Key × V)} (e : H a = some (.dT kvs)) : TyOf K H (.ref a) (.type "dict")
 | ins {a C dx : Addr} {fs : List (Str × V)} (e : H a = some (.ins C dx fs)) (cl : Cls K C) (ha : PySem.W.findIn K (.ref C) "__class__" = some (some (.builtin "object.__class__")))
   (hn : PySem.W.specialIn K (.builtin "object.__class__") "__get__" = some (some (.builtin "getset_descriptor.__get__"))) (htk : PySem.W.takesIn K (.builtin "object.__class__") = some true)
   (hm : PySem.W.mroIn K C (.type "object") = some true) : TyOf K H (.ref a) (.ref C)
theorem isinst_ok {x : V} {u t : Value} (I : Inv X pins σ H s) (rx : RelV x u) (ty : TyOf X.K H x t) (e : PySem.W.kitOne X.K t c = some b) (h : ∀ tk, Q (.bool b) { s with toks := tk }) :
  wpAny (model X.prog X.w) A (call (.builtin "isinstance") [u, c]) Q E s := by
 cases ty with
 | non => cases (show u = Value.none from rx); exact PySem.W.kia_one PySem.W.kitx_none I.kIn True.intro e (fun z => nomatch z) h
 | bl y => cases (show u = Value.bool y from rx); exact PySem.W.kia_one PySem.W.kitx_bool I.kIn True.intro e (fun z => nomatch z) h
 | int i => obtain ⟨t, q⟩ := (show ∃ t, u = Value.int i t from rx); cases q; exact PySem.W.kia_one PySem.W.kitx_int I.kIn True.intro e (fun z => nomatch z) h
 | str y => obtain ⟨t, q⟩ := (show ∃ t, u = Value.str y t from rx); cases q; exact PySem.W.kia_one PySem.W.kitx_str I.kIn True.intro e (fun z => nomatch z) h
 | flt y => obtain ⟨t, q⟩ := (show ∃ t, u = Value.float y t from rx); cases q; exact PySem.W.kia_one PySem.W.kitx_float I.kIn True.intro e (fun z => nomatch z) h
 | @lst a xs ea =>
  cases (show u = Value.ref a from rx)
  obtain ⟨_, _, n, _, h1⟩ := (show ObjOk X.prog X.w H s.heap a (.lst xs) from I.hok a _ ea)
  exact PySem.W.kia_one PySem.W.kitx_list I.kIn ⟨_, h1, rfl⟩ e (fun z => nomatch z) h
 | @frz a ob xs ea =>
  cases (show u = Value.ref a from rx)
  obtain ⟨_, _, _, n, _, h1⟩ := (show ObjOk X.prog X.w H s.heap a (.frz ob (.lst xs)) from I.hok a _ ea)
  exact PySem.W.kia_one PySem.W.kitx_list I.kIn ⟨_, h1, rfl⟩ e (fun z => nomatch z) h
 | @tup a xs ea =>
  cases (show u = Value.ref a from rx)
  obtain ⟨_, _, _, p⟩ := (show ObjOk X.prog X.w H s.heap a (.tup xs) from I.hok a _ ea)
  obtain ⟨o, h1, h2, _⟩ := p
  exact PySem.W.kia_one PySem.W.kitx_tuple I.kIn ⟨o, h1, h2⟩ e (fun z => nomatch z) h
 | @dK a kvs ea =>
  cases (show u = Value.ref a from rx)
  obtain ⟨_, _, vs, _, p⟩ := (show ObjOk X.prog X.w H s.heap a (.dK kvs) from I.hok a _ ea)
  obtain ⟨o, es, ep, h1, h2, _⟩ := p
  exact PySem.W.kia_one PySem.W.kitx_dict I.kIn ⟨o, h1, h2.1⟩ e (fun z => nomatch z) h
 | @dT a kvs ea =>
  cases (show u = Value.ref a from rx)
  obtain ⟨_, _, xs, _, o, es, ep, h1, h2, _⟩ := (show ObjOk X.prog X.w H s.heap a (.dT kvs) from I.hok a _ ea)
  exact PySem.W.kia_one PySem.W.kitx_dict I.kIn ⟨o, h1, h2.1⟩ e (fun z => nomatch z) h
 | @ins a C dx fs ea cl ha hn htk hm =>
  cases (show u = Value.ref a from rx)
  obtain ⟨mA, O, _⟩ := ins_get I.hok ea
  obtain ⟨od, J, _⟩ := O.look
  exact PySem.W.kia_one (PySem.W.kitx_own (cl.get _) cl.hd ha hn htk hm) I.kIn J e (fun z => nomatch z) h
end
structure Room (k : Nat) (A : Around) : Prop where
 hd : A.handled = none
 dp : A.depth + 3 * k + 5 < recursionLimit
 un : A.units + 16 * k + 200 < cLine
theorem Room.mono {j k : Nat} {A : Around} (r : Room k A) (h : j ≤ k) : Room j A := ⟨r.hd, by have := r.dp; omega, by have := r.un; omega⟩
theorem Room.deeper {k : Nat} {A : Around} (r : Room (k + 1) A) (env : Env) : Room k (A.deeper env) :=
 ⟨r.hd, by have := r.dp; show A.depth + 1 + 3 * k + 5 < _; omega, by have := r.un; show A.units + 3 + 16 * k + 200 < _; omega⟩
theorem make_depth {A : Around} {C : Addr} {us : List Value} {kw : List (Str × Value)} : (A.under (.builtin "type.__call__" ⟨.ref C :: us, kw⟩)).depth = A.depth + 1 := by
 first | rfl | simp [Around.under, Code.weight, Code.isCreation, Code.isGuard, Code.isCaller, Code.frames, Code.isFrame, guardIds]
theorem make_units {A : Around} {C : Addr} {us : List Value} {kw : List (Str × Value)} : (A.under (.builtin "type.__call__" ⟨.ref C :: us, kw⟩)).units = A.units + 1 := by
 first | rfl | simp [Around.under, Code.cUnits, Code.frames, Code.isFrame]
theorem Room.make {k : Nat} {A : Around} (r : Room (k + 1) A) (C : Addr) (us : List Value) (kw : List (Str × Value)) : Room k (A.under (.builtin "type.__call__" ⟨.ref C :: us, kw⟩)) :=
 ⟨r.hd, by have := r.dp; rw [make_depth]; omega, by have := r.un; rw [make_units]; omega⟩
theorem Room.depth {k : Nat} {A : Around} (r : Room k A) : A.depth < recursionLimit := by have := r.dp; omega
theorem Room.units {k : Nat} {A : Around} (r : Room k A) : A.units + 64 < cLine := by have := r.un; omega
theorem Room.units0 {k : Nat} {A : Around} (r : Room k A) : A.units < cLine := by have := r.un; omega
def tNil : TA := fun _ H Q => Q [] H
def tCons (ta : TE) (tr : TA) : TA := fun σ H Q => ta σ H fun x H1 => tr σ H1 fun xs H2 => Q (x :: xs) H2
section
variable {X : Cx} {e : Expr} {es : List Expr} {te : TE} {t : TA} {pos : Pos}
theorem pa_nil : PA X [] tNil := fun _ _ _ _ H Q I h => Calls.spliced_nil ⟨[], H, I, .nil, h⟩
theorem pa_cons (ha : PE X e te) (hr : PA X es t) (hs : starEach (e :: es) X.env = (false, eval e X.env) :: starEach es X.env := by rfl) : PA X (e :: es) (tCons te t) := by
 intro pos pins s σ H Q I h
 rw [hs]
 show wpAny _ _ (spliced ((false, eval e X.env) :: backTo pos (starEach es X.env))) _ _ s
 refine Calls.spliced_cons (thn (ha pins s σ H _ I h) fun u s1 ⟨x, H1, I1, r1, q1⟩ => ?_)
 exact thn (hr pos pins s1 σ H1 _ I1 q1) fun us s2 ⟨xs, H2, I2, r2, q2⟩ => ⟨x :: xs, H2, I2, .cons r1 r2, q2⟩
def tTup (t : TA) : TE := fun σ H Q => t σ H fun xs H1 => xs.length ≤ sizeLine ∧ ∀ p, H1 p = none → Q (.ref p) (upd H1 p (.tup xs))
def tLst (t : TA) : TE := fun σ H Q => t σ H fun xs H1 => xs.length ≤ sizeLine ∧ ∀ p, H1 p = none → Q (.ref p) (upd H1 p (.lst xs))
theorem pe_tup {x1} (h : PA X es t) : PE X (.Tuple es x1 pos) (tTup t) := by
 intro pins s σ H Q I hq
 refine wpAny_Tuple_spliced (thn (h pos pins s σ H _ I hq) fun us s1 ⟨xs, H1, I1, r, z, q⟩ => ⟨by rw [← r.length]; exact z, ?_⟩)
 have hf : H1 s1.heap.objs.size = none := I1.hok.fresh (Nat.le_refl _)
 refine ⟨.ref s1.heap.objs.size, upd H1 s1.heap.objs.size (.tup xs), I1.laid (t' := s1.toks) (fun b u e => Heap.get?_push_of_some _ e) (Nat.le_refl _) ?_, rfl, q _ hf⟩
 exact ⟨z, us, r, ⟨_, Heap.get?_push_size _ rfl, rfl, _, rfl⟩⟩
theorem pe_lst (h : PA X es t) : PE X (.List es pos) (tLst t) := by
 intro pins s σ H Q I hq
 refine wpAny_List_spliced (thn (h pos pins s σ H _ I hq) fun us s1 ⟨xs, H1, I1, r, z, q⟩ => ⟨by rw [← r.length]; exact z, ?_⟩)
 have hf : H1 s1.heap.objs.size = none := I1.hok.fresh (Nat.le_refl _)
 refine ⟨.ref s1.heap.objs.size, upd H1 s1.heap.objs.size (.lst xs), I1.laid (t' := s1.toks) (fun b u e => Heap.get?_push_of_some _ e) (Nat.le_refl _) ?_, rfl, q _ hf⟩
 exact ⟨z, us, 0, r, Heap.get?_push_size _ rfl⟩
end
abbrev Sp := List V → Hp → VK → XK → Prop
abbrev CXT := List Env → Hp → Shared → XK → Value → Shared → Prop
structure Env0 (P : Program) (w : World) (K : PySem.W.Frag) (mg : Str → Option Value) (base : Heap) (A : Around) (outer : List Env) (s : Shared) (H : Hp) : Prop where
 frames : A.frames = some outer
 mod : Mod K mg base
 bs : ∀ b o, base.get? b = some o → s.heap.get? b = some o ∧ H b = none
 bsz : base.objs.size ≤ s.heap.objs.size
 funs : s.heap.FunFrames base outer
 frf : ∀ b ∈ frs outer, H b = none
 hok : HOk P w H s.heap
 bare : AllBare s.gens
def CE (outer : List Env) (P : Program) (w : World) (H : Hp) (s : Shared) (Q : VK) (u : Value) (s' : Shared) : Prop :=
 ∃ v H', s'.os = s.os ∧ AllBare s'.gens ∧ Un (frs outer) [] H H' s.heap s'.heap ∧ HOk P w H' s'.heap ∧ RelV v u ∧ Q v H'
def CR (CX : CXT) (outer : List Env) (P : Program) (w : World) (H : Hp) (s : Shared) (Q : VK) (E : XK) (r : Result) (s' : Shared) : Prop :=
 match r with
 | .ok (.ret u) => CE outer P w H s Q u s'
 | .ok _ => False
 | .error e => CX outer H s E e s'
structure FnOk (P : Program) (w : World) (K : PySem.W.Frag) (mg : Str → Option Value) (base : Heap) (CX : CXT) (k : Nat) (f : Addr) (fd : FuncData) (ps : List Str) (sp : Sp) : Prop where
 len : ∀ vs H Q E, sp vs H Q E → vs.length = ps.length
 run : ∀ (A : Around) (outer : List Env) (s : Shared) (H : Hp) (args : Args) (us : List Value) (vs : List V) (Q : VK) (E : XK), Room k A → Env0 P w K mg base A outer s H → BindsTo s fd args (ps.zip us) → Vals vs us → sp vs H Q E →
  codeAny (model P w) A (.call (.ref f) args) (CR CX outer P w H s Q E) s
theorem Env0.make {P : Program} {w : World} {K : PySem.W.Frag} {mg : Str → Option Value} {base : Heap} {A : Around} {outer : List Env} {s : Shared} {H : Hp} (e : Env0 P w K mg base A outer s H) (C : Addr) (us : List Value) (kw : List (Str × Value)) :
  Env0 P w K mg base (A.under (.builtin "type.__call__" ⟨.ref C :: us, kw⟩)) outer s H := ⟨by first | exact e.frames | (simpa [Around.under, Code.envs, Code.isFrame, pushEnvs] using e.frames), e.mod, e.bs, e.bsz, e.funs, e.frf, e.hok, e.bare⟩
section
variable {X : Cx} {pins : List (Addr × Obj)} {σ : St} {H : Hp} {s s' : Shared}
theorem Inv.env0 (I : Inv X pins σ H s) : Env0 X.prog X.w X.K X.mg X.base X.A X.stack s H :=
 ⟨I.ok.frames, I.ok.mod, I.bs, Nat.le_trans I.ok.bsz I.sz, I.stack, I.stkFree, I.hok, I.bare⟩
theorem Inv.after {Q : VK} {u : Value} (I : Inv X pins σ H s) (h : CE X.stack X.prog X.w H s Q u s') : EP X pins σ Q u s' := by
 obtain ⟨v, H', os, bare, un, hok, r, q⟩ := h
 obtain ⟨hh, g, d, t, os'⟩ := s'
 obtain rfl : os' = s.os := os
 exact ⟨v, H', I.call (h' := hh) (g' := g) (d' := d) (t' := t) (ch := []) un hok bare (fun b z => absurd z (by simp)), r, q⟩
end
def tCall (sp : Sp) (dvs : List V) (E : XK) (t : TA) : TE := fun σ H Q => t σ H fun vs H1 => sp (vs ++ dvs) H1 Q E
def Binds (K : PySem.W.Frag) (fd : FuncData) (ps : List Str) (ds : List Value) : Prop :=
 ∀ (s : Shared) (us : List Value), K.In s.heap → (us ++ ds).length = ps.length → BindsTo s fd ⟨us, []⟩ (ps.zip (us ++ ds))
theorem Binds.all {K : PySem.W.Frag} {fd : FuncData} {ps : List Str} (h : ∀ us : List Value, us.length = ps.length → bindArgs fd ⟨us, []⟩ = pure (ps.zip us)) : Binds K fd ps [] := fun s us _ hl => by
 rw [List.append_nil] at hl ⊢
 exact .of_eq (h us hl)
def Passes (CX : CXT) (X : Cx) (E : XK) : Prop := ∀ (pins : List (Addr × Obj)) (σ : St) (H : Hp) (s : Shared) (e : Value) (s' : Shared), Inv X pins σ H s → CX X.stack H s E e s' → X.xe e s'
section
variable {X : Cx} {CX : CXT} {k : Nat} {f C : Addr} {fd : FuncData} {ps : List Str} {sp : Sp} {dvs : List V} {ds : List Value} {E : XK} {x m : Str} {p pos apos : Pos} {e o : Expr} {es : List Expr} {ta : TE} {t : TA}
theorem run_fn {pins : List (Addr × Obj)} {σ : St} {H : Hp} {s : Shared} {Q : VK} {us : List Value} {vs : List V} (F : FnOk X.prog X.w X.K X.mg X.base CX k f fd ps sp) (hr : Room k X.A) (hb : Binds X.K fd ps ds) (hd : Vals dvs ds) (hx : Passes CX X E)
  (I : Inv X pins σ H s) (r : Vals vs us) (h : sp (vs ++ dvs) H Q E) : wpAny (model X.prog X.w) X.A (call (.ref f) us) (EP X pins σ Q) X.xe s := by
 have r2 : Vals (vs ++ dvs) (us ++ ds) := r.append hd
 have hl : (us ++ ds).length = ps.length := by rw [← r2.length]; exact F.len _ _ _ _ h
 refine wpAny_call (codeAny_mono (F.run X.A X.stack s H ⟨us, []⟩ (us ++ ds) (vs ++ dvs) Q E hr I.env0 (hb s us I.kIn hl) r2 h) fun r s' hq => ?_)
 cases r with
 | error e => exact hx pins σ H s e s' I hq
 | ok fl =>
  cases fl with
  | ret u => exact I.after hq
  | next => exact False.elim hq
  | brk => exact False.elim hq
  | cont => exact False.elim hq
theorem pe_call (F : FnOk X.prog X.w X.K X.mg X.base CX k f fd ps sp) (hr : Room k X.A) (hg : Gl X x) (hm : X.mg x = some (.ref f)) (hk : PySem.W.keepIn X.K (.ref f) = true) (hb : Binds X.K fd ps ds) (hd : Vals dvs ds) (hx : Passes CX X E)
  (ha : PA X (e :: es) t) (hdb : (x == ("__debug__" : Str)) = false := by decide) (he : starEach (e :: es) X.env = (false, eval e X.env) :: starEach es X.env := by rfl) (hpl : (backTo pos (starEach es X.env)).any (·.1) = false := by rfl) :
  PE X (.Call (.Name x p) (e :: es) [] pos) (tCall sp dvs E t) := by
 intro pins s σ H Q I h
 refine wpAny_Call_Name_kw (ld_glob I hg hm ?_ hdb)
 refine PySem.W.callWith_K (h₀ := X.base) I.ok.mod.kin hk (thn (ha pos pins s σ H _ I h) fun us s1 ⟨vs, H1, I1, r, q⟩ => ⟨I1.kIn, ?_⟩) he hpl
 exact run_fn F hr hb hd hx I1 r q
structure Mk (K : PySem.W.Frag) (C f : Addr) : Prop where
 makes : PySem.W.makesIn K C = true
 init : PySem.W.findIn K (.ref C) "__init__" = some (some (.ref f))
 fn : PySem.W.isFn K (.ref f) = true
 kp : PySem.W.keepIn K (.ref C) = true
end
section
variable {X : Cx} {CX : CXT} {k : Nat} {f C : Addr} {fd : FuncData} {ps ks : List Str} {sp : Sp} {E : XK} {x m : Str} {p pos apos kpos : Pos} {e o : Expr} {es : List Expr} {kws : List Keyword} {te ta : TE} {t tk : TA} {nm : Option Str}
structure KBinds (K : PySem.W.Frag) (fd : FuncData) (ps ks : List Str) (g : List Value → List Value → List Value) (gV : List V → List V → List V) : Prop where
 to : ∀ (s : Shared) (us ws : List Value), K.In s.heap → (g us ws).length = ps.length → BindsTo s fd ⟨us, ks.zip ws⟩ (ps.zip (g us ws))
 rel : ∀ {vs : List V} {us : List Value} {zs : List V} {ws : List Value}, Vals vs us → Vals zs ws → Vals (gV vs zs) (g us ws)
variable {g : List Value → List Value → List Value} {gV : List V → List V → List V}
end
structure FnScope (N P : List Str) (sc : Scope) : Prop where
 kind : sc.kind = .function
 co : sc.isCoroutine = false
 gen : sc.isGenerator = false
 nd : N.Nodup
 pre : N.take P.length = P
 par : ∀ x ∈ P, sc.names.lookup x = some .local ∨ sc.names.lookup x = some .cell
 nofree : ∀ y ∈ sc.names, y.2 ≠ .free
theorem bindL_out {kindOf : Str → Option NameKind} {x : Str} : ∀ {binds : List (Str × Value)} {m : Str → Option Value}, (∀ v, (x, v) ∉ binds) → bindL kindOf binds m x = m x
 | [], _, _ => rfl
 | (n, v) :: r, m, h => by
  unfold bindL
  rw [bindL_out fun w hw => h w (List.mem_cons_of_mem _ hw)]
  split
  ·have : x ≠ n := by rintro rfl; exact h v List.mem_cons_self
   simp [this]
  ·rfl
theorem bindC_out {kindOf : Str → Option NameKind} {x : Str} : ∀ {binds : List (Str × Value)} {m : Str → Option Value}, (∀ v, (x, v) ∉ binds) → bindC kindOf binds m x = m x
 | [], _, _ => rfl
 | (n, v) :: r, m, h => by
  unfold bindC
  rw [bindC_out fun w hw => h w (List.mem_cons_of_mem _ hw)]
  split
  ·rfl
  ·have : x ≠ n := by rintro rfl; exact h v List.mem_cons_self
   simp [this]
theorem bindL_get {kindOf : Str → Option NameKind} {x : Str} {v : Value} : ∀ {P : List Str} {vs : List Value} {i : Nat} {m : Str → Option Value}, P.Nodup → P[i]? = some x → vs[i]? = some v → kindOf x = some .local →
  bindL kindOf (P.zip vs) m x = some v
 | [], _, _, _, _, h, _, _ => by simp at h
 | _ :: _, [], _, _, _, _, h, _ => by simp at h
 | p :: P, w :: vs, 0, m, nd, h1, h2, hk => by
  simp at h1 h2; subst h1; subst h2
  show bindL kindOf ((p, w) :: P.zip vs) m p = _
  unfold bindL
  rw [bindL_out fun v hv => (List.nodup_cons.mp nd).1 (List.of_mem_zip hv).1, if_pos hk]
  simp
 | p :: P, w :: vs, i + 1, m, nd, h1, h2, hk => by
  show bindL kindOf ((p, w) :: P.zip vs) m x = _
  unfold bindL
  exact bindL_get (i := i) (List.nodup_cons.mp nd).2 (by simpa using h1) (by simpa using h2) hk
theorem bindC_get {kindOf : Str → Option NameKind} {x : Str} {v : Value} : ∀ {P : List Str} {vs : List Value} {i : Nat} {m : Str → Option Value}, P.Nodup → P[i]? = some x → vs[i]? = some v → kindOf x ≠ some .local →
  bindC kindOf (P.zip vs) m x = some v
 | [], _, _, _, _, h, _, _ => by simp at h
 | _ :: _, [], _, _, _, _, h, _ => by simp at h
 | p :: P, w :: vs, 0, m, nd, h1, h2, hk => by
  simp at h1 h2; subst h1; subst h2
  show bindC kindOf ((p, w) :: P.zip vs) m p = _
  unfold bindC
  rw [bindC_out fun v hv => (List.nodup_cons.mp nd).1 (List.of_mem_zip hv).1, if_neg hk]
  simp
 | p :: P, w :: vs, i + 1, m, nd, h1, h2, hk => by
  show bindC kindOf ((p, w) :: P.zip vs) m x = _
  unfold bindC
  exact bindC_get (i := i) (List.nodup_cons.mp nd).2 (by simpa using h1) (by simpa using h2) hk
def start (N : List Str) (vs : List V) : St := vs.map some ++ List.replicate (N.length - vs.length) none
def cxOf (CX : CXT) (P : Program) (w : World) (K : PySem.W.Frag) (mg : Str → Option Value) (base : Heap) (N : List Str) (qual : Str) (scope : Scope) (f : Addr) (cd : Value) (A : Around) (outer : List Env) (s : Shared) (H : Hp) (E : XK) : Cx where
 prog := P
 w := w
 K := K
 mg := mg
 base := base
 A := A.deeper (envOfC qual scope s.heap.objs.size f cd)
 N := N
 s₀ := s
 H₀ := H
 env := envOfC qual scope s.heap.objs.size f cd
 outer := outer
 stack := envOfC qual scope s.heap.objs.size f cd :: outer
 ex := []
 calm := true
 fn := fun _ => true
 pn := []
 xe := fun e s' => wpAny (model P w) (A.deeper (envOfC qual scope s.heap.objs.size f cd)) (leaving (envOfC qual scope s.heap.objs.size f cd) e) (fun _ s'' => CX outer H s E e s'') (fun e' s'' => CX outer H s E e' s'') s'
theorem cell_has {sc : Scope} {n : Nat} {x : Str} (h : sc.names.lookup x = some .cell) : ∃ c, (cellsFrom n sc.names []).lookup x = some c := by
 have q := PySem.W.cellsFrom_some sc.names n [] (.inl h)
 exact Option.isSome_iff_exists.mp q
theorem inv_start {CX : CXT} {P : Program} {w : World} {K : PySem.W.Frag} {mg : Str → Option Value} {base : Heap} {N ps : List Str} {qual : Str} {scope : Scope} {f : Addr} {cd : Value} {A : Around} {outer : List Env} {s s1 : Shared} {H : Hp} {E : XK} {us : List Value} {vs : List V}
  (S : FnScope N ps scope) (hd : A.handled = none) (e0 : Env0 P w K mg base A outer s H) (hl : vs.length = ps.length) (r : Vals vs us)
  (x : InCallC s s.heap.objs.size (bindL (envOfC qual scope s.heap.objs.size f cd).kindOf (ps.zip us) fun _ => none) (cellsFrom (s.heap.objs.size + 1) scope.names []) (bindC (envOfC qual scope s.heap.objs.size f cd).kindOf (ps.zip us) fun _ => none) s1) :
  Inv (cxOf CX P w K mg base N qual scope f cd A outer s H E) [] (start N vs) H s1 := by
 have hpl : ps.length ≤ N.length := by have := congrArg List.length S.pre; rw [List.length_take] at this; omega
 obtain ⟨h1, tk, rfl, hk⟩ := x.done
 have noA : ∀ b : Addr, b ∉ (cxOf CX P w K mg base N qual scope f cd A outer s H E).ex := fun b z => absurd (show b ∈ ([] : List Addr) from z) (by simp)
 refine ⟨⟨e0.mod, S.kind, rfl, rfl, Nat.le_refl _, fun y z c h1 h2 => ?_, fun y hy => ?_, fun y c _ h => ?_, fun _ => hd, Around.frames_deeper e0.frames, .inr ⟨rfl, rfl⟩, fun b z => absurd z (noA b), e0.bs, e0.bsz, fun b _ _ => noA b, fun b z => absurd z (noA b), e0.funs, e0.frf⟩,
  rfl, e0.bare, Un.kept hk, ⟨_, x.toInCall.ns, fun i y v h1 h2 h3 => ?_⟩, fun y c h => ⟨_, x.cell y c h⟩, e0.hok.fresh (Nat.le_refl _), fun y c h => ?_, fun p hp => absurd (show p ∈ ([] : List (Addr × Obj)) from hp) (by simp), e0.hok.kept hk, ?_⟩
 ·exact name_of_addr x.apart (PySem.mem_of_lookup h1) (PySem.mem_of_lookup h2)
 ·have hy : scope.names.lookup y = some .cell ∨ scope.names.lookup y = some .free := hy
  rcases hy with hy | hy
  ·exact cell_has hy
  ·exact absurd rfl (S.nofree _ (PySem.mem_of_lookup hy))
 ·exact Nat.le_of_lt (x.above y c (PySem.mem_of_lookup h))
 ·have hi : i < vs.length := by
   unfold start at h2
   by_cases hi : i < vs.length
   ·exact hi
   ·rw [List.getElem?_append_right (by simpa using hi)] at h2
    rw [List.getElem?_replicate] at h2
    split at h2 <;> cases h2
  have ha : vs[i]? = some v := by
   unfold start at h2
   rw [List.getElem?_append_left (by simpa using hi), List.getElem?_map] at h2
   cases e : vs[i]? with
   | none => rw [e] at h2; cases h2
   | some a => rw [e] at h2; cases h2; rfl
  obtain ⟨u, hu, rv⟩ := r.get ha
  have hp : ps[i]? = some y := by
   rw [← S.pre, List.getElem?_take_of_lt (by omega)]; exact h1
  have ndP : ps.Nodup := by rw [← S.pre]; exact S.nd.sublist (List.take_sublist _ _)
  refine ⟨u, rv, ?_⟩
  rcases S.par y (List.mem_of_getElem? hp) with k | k
  ·exact .inl ⟨k, bindL_get ndP hp hu k⟩
  ·obtain ⟨c, e⟩ := cell_has (n := s.heap.objs.size + 1) k
   refine .inr ⟨.inl k, c, e, ?_⟩
   have q := x.cell y c e
   rw [bindC_get ndP hp hu (by show scope.names.lookup y ≠ _; rw [k]; decide)] at q
   exact q
 ·exact e0.hok.fresh (Nat.le_of_lt (x.above y c (PySem.mem_of_lookup h)))
 ·unfold start
  show _ = N.length
  rw [List.length_append, List.length_map, List.length_replicate]
  omega
theorem fn_of {CX : CXT} {P : Program} {w : World} {K : PySem.W.Frag} {mg : Str → Option Value} {base : Heap} {k : Nat} {f : Addr} {name qual : Str} {params : Arguments} {body : List Stmt} {scope : Scope} {dV kV doc pm cdv ct oc : Value} {an od : Option Addr}
  {osl : Array (Option Value)} {N ps : List Str} {sp : Sp} (lk : K.lookup f = some ⟨oc, od, .func (PySem.W.fnOf name qual params body scope dV kV doc pm an cdv ct), osl⟩) (hcd : PySem.W.codeIn K cdv qual = true) (S : FnScope N ps scope)
  (len : ∀ vs H Q E, sp vs H Q E → vs.length = ps.length)
  (hbody : ∀ (A : Around) (outer : List Env) (s : Shared) (H : Hp) (vs : List V) (Q : VK) (E : XK), Room k (A.deeper (envOfC qual scope s.heap.objs.size f cdv)) → sp vs H Q E →
   ∃ t, PSs (cxOf CX P w K mg base N qual scope f cdv A outer s H E) body t ∧ t { nx := fun _ H' => Q .non H', rt := Q } (start N vs) H) :
  FnOk P w K mg base CX (k + 1) f (PySem.W.fnOf name qual params body scope dV kV doc pm an cdv ct) ps sp := by
 refine ⟨len, fun A outer s H args us vs Q E hr e0 hb r hsp => ?_⟩
 have hl := len _ _ _ _ hsp
 have KX : K.In s.heap := e0.mod.kin.keeps fun b o e => (e0.bs b o e).1
 have lim : s.heap.NoLimit := e0.mod.nolimit.keeps fun b o e => (e0.bs b o e).1
 have hkind : ∀ y ∈ ps.zip us, scope.names.lookup y.1 = some .local ∨ (scope.names.lookup y.1 = some .cell ∧ ((cellsFrom (s.heap.objs.size + 1) scope.names []).lookup y.1).isSome = true) := fun ⟨n, v⟩ hy => by
  rcases S.par n (List.of_mem_zip hy).1 with q | q
  ·exact .inl q
  ·exact .inr ⟨q, PySem.W.cellsFrom_some _ _ _ (.inl q)⟩
 refine codeAny_call_function hr.depth (KX _ _ lk) rfl S.co S.gen rfl (PySem.W.codeRec_of KX hcd) (hb _ _ _ _ ?_)
 refine wpAny_newFunctionEnv_cells S.kind hkind fun env he s1 x => ?_
 subst he
 refine ⟨lim.keeps x.toInCall.keep, codeAny_func ?_⟩
 obtain ⟨t, ht, hq⟩ := hbody A outer s H vs Q E (hr.deeper _) hsp
 have I : Inv (cxOf CX P w K mg base N qual scope f cdv A outer s H E) [] (start N vs) H s1 := inv_start S hr.hd e0 hl r x
 refine wpAny_mono (ht [] s1 (start N vs) H _ I hq) (fun fl s' hs => ?_) fun e s' hs => hs
 have fin : ∀ {σ' : St} {H' : Hp} {v : V} {u : Value}, Inv (cxOf CX P w K mg base N qual scope f cdv A outer s H E) [] σ' H' s' → RelV v u → Q v H' → CE outer P w H s Q u s' :=
  fun {σ' H' v u} J rv q => ⟨v, H', J.os, J.bare, J.base, J.hok, rv, q⟩
 cases fl with
 | ret u =>
  obtain ⟨v, σ', H', J, rv, q⟩ := hs
  exact fin J rv q
 | next =>
  obtain ⟨σ', H', J, q⟩ := hs
  exact fin (v := V.non) (u := Value.none) J rfl q
 | brk =>
  obtain ⟨_, _, _, q⟩ := hs
  exact False.elim q
 | cont =>
  obtain ⟨_, _, _, q⟩ := hs
  exact False.elim q
section
variable {X : Cx} {x : Str} {p pos : Pos} {e : Expr} {es : List Expr} {t : TA} {id T : String} {r : List V → Hp → VK → Prop}
def tCB (r : List V → Hp → VK → Prop) (t : TA) : TE := fun σ H Q => t σ H fun vs H1 => r vs H1 Q
theorem pe_callB (hc : CallR X (.builtin id) r) (hg : Gl X x) (hm : X.mg x = none) (hv : bootBuiltins x = some (.builtin id)) (ha : PA X (e :: es) t) (hn : x ≠ "__name__" := by decide) (hdb : (x == ("__debug__" : Str)) = false := by decide)
  (he : starEach (e :: es) X.env = (false, eval e X.env) :: starEach es X.env := by rfl) (hpl : (backTo pos (starEach es X.env)).any (·.1) = false := by rfl) : PE X (.Call (.Name x p) (e :: es) [] pos) (tCB r t) := by
 intro pins s σ H Q I h
 refine wpAny_Call_Name_kw (ld_blt I hg hm hv ?_ hn hdb)
 exact PyProof.Rows.callWith_builtin1 (thn (ha pos pins s σ H _ I h) fun us s1 ⟨vs, H1, I1, r1, q1⟩ => hc pins s1 σ H1 vs us Q I1 r1 q1) he hpl
theorem pe_callTy (hc : CallR X (.type T) r) (hg : Gl X x) (hm : X.mg x = none) (hv : bootBuiltins x = some (.type T)) (ha : PA X (e :: es) t) (hn : x ≠ "__name__" := by decide) (hdb : (x == ("__debug__" : Str)) = false := by decide)
  (he : starEach (e :: es) X.env = (false, eval e X.env) :: starEach es X.env := by rfl) (hpl : (backTo pos (starEach es X.env)).any (·.1) = false := by rfl) : PE X (.Call (.Name x p) (e :: es) [] pos) (tCB r t) := by
 intro pins s σ H Q I h
 refine wpAny_Call_Name_kw (ld_blt I hg hm hv ?_ hn hdb)
 exact PyProof.Rows.callWith_type1 (thn (ha pos pins s σ H _ I h) fun us s1 ⟨vs, H1, I1, r1, q1⟩ => hc pins s1 σ H1 vs us Q I1 r1 q1) he hpl
end
end L2
namespace HT
open PySem PyProof.Rows
section
open PySem.SeqAt
open PySem.AutoSeq1 (wpAny_loadPart')
open PySem.MeetsSeq PySem.MeetsSeq2 PySem.MeetsSeq3
end
section
variable {prog : Program} {w : World} {A : Around} {E : Value → Shared → Prop} {s : Shared}
theorem cat_tup {t b : Addr} {vs ws : List Value} {Q : Value → Shared → Prop} (ht : IsTup s.heap t vs.toArray) (hb : IsTup s.heap b ws.toArray) (hv : vs ≠ [])
  (h1 : ws = [] → Q (.ref t) s) (h2 : ws ≠ [] → Q (.ref s.heap.objs.size) { s with heap := s.heap.push { cls := .type "tuple", data := .seq (vs ++ ws).toArray } })
  (hsz : vs.length + ws.length ≤ sizeLine) : wpAny (model prog w) A (binaryOp .Add (.ref t) (.ref b)) Q E s := by
 obtain ⟨⟨cls, dd, data, sl⟩, ho, hc, n, hd⟩ := id ht
 obtain ⟨⟨cls2, dd2, data2, sl2⟩, ho2, hc2, n2, hd2⟩ := id hb
 simp only at hc hd hc2 hd2
 subst hc hd hc2 hd2
 have e : vs.toArray ++ ws.toArray = (vs ++ ws).toArray := by simp
 by_cases hw : ws = []
 ·exact concat_meets ⟨_, ho, rfl⟩ ⟨_, ho2, rfl⟩ noFill_tuple_add seq_tuple_add PySem.F.slot_tuple_add PySem.F.entry_tuple_add (PySem.F.args_tuple_add_2 _ _)
   (tuple_addW1 t b vs.toArray ws.toArray n n2 dd dd2 sl sl2 (by simpa using hv) (by simp [hw])) ⟨ho, ho2, h1 hw⟩
 ·refine concat_meets ⟨_, ho, rfl⟩ ⟨_, ho2, rfl⟩ noFill_tuple_add seq_tuple_add PySem.F.slot_tuple_add PySem.F.entry_tuple_add (PySem.F.args_tuple_add_2 _ _)
   (tuple_addW2 t b vs.toArray ws.toArray n n2 dd dd2 sl sl2 (by simpa using hv) (by simpa using hw) (by rw [List.size_toArray, List.size_toArray]; exact hsz)) ⟨ho, ho2, ?_⟩
  rw [e]
  exact h2 hw
def sIx (n d : Nat) : Option Int → Nat
 | none => d
 | some v => if v < 0 then (v + (n : Int)).toNat else min v.toNat n
theorem sIx_none (n d : Nat) : sIx n d none = d := rfl
theorem sIx_nat (n d k : Nat) : sIx n d (some (k : Int)) = min k n := by
 show (if (k : Int) < 0 then ((k : Int) + (n : Int)).toNat else min (k : Int).toNat n) = min k n
 rw [if_neg (by omega), Int.toNat_natCast]
theorem sIx_le (n d : Nat) (hd : d ≤ n) (o : Option Int) : sIx n d o ≤ n := by
 cases o with
 | none => exact hd
 | some v =>
  show (if v < 0 then (v + (n : Int)).toNat else min v.toNat n) ≤ n
  by_cases hv : v < 0
  ·rw [if_pos hv]; omega
  ·rw [if_neg hv]; exact Nat.min_le_right _ _
theorem clip_eq (v : Int) (n d : Nat) : (if v < 0 then max (v + (n : Int)) 0 else min v (n : Int)) = ((sIx n d (some v) : Nat) : Int) := by
 show (if v < 0 then max (v + (n : Int)) 0 else min v (n : Int)) = (((if v < 0 then (v + (n : Int)).toNat else min v.toNat n) : Nat) : Int)
 by_cases hv : v < 0
 ·simp only [if_pos hv]; omega
 ·simp only [if_neg hv]; omega
theorem adjust_gen (lo hi : Option Int) (n : Nat) : Builtin.Slice.sliceAdjust lo hi 1 (n : Int) = (((sIx n 0 lo : Nat) : Int), ((sIx n n hi : Nat) : Int)) := by
 have h1 : ¬ ((1 : Int) < 0) := by omega
 unfold Builtin.Slice.sliceAdjust
 simp only [h1, if_false]
 refine Prod.ext ?_ ?_
 ·cases lo with
  | none => rfl
  | some v => exact clip_eq v n 0
 ·cases hi with
  | none => rfl
  | some v => exact clip_eq v n n
theorem places_gen (i j : Nat) : Builtin.Slice.slicePlaces (i : Int) (j : Int) 1 = j - i := by
 unfold Builtin.Slice.slicePlaces
 have h1 : (1 : Int) > 0 := by omega
 simp only [h1, if_true, Int.ediv_one]
 split <;> omega
theorem slicePart_ {v : Value} {o : Option Int} {Q : Option Int → Shared → Prop} (p : IsPart v o) (h : Q o s) : wpAny (model prog w) A (Builtin.Slice.slicePartIndex v) Q E s := by
 cases p with
 | none => exact slicePart_none h
 | int i t => exact slicePart_int h
theorem sliceApplied_gen {sl : Addr} {vl vu : Value} {lo hi : Option Int} {n : Nat} {Q : Int × Int × Nat → Shared → Prop} (hs : s.heap.IsSliceOf sl vl vu .none) (pl : IsPart vl lo) (pu : IsPart vu hi)
  (h : Q (((sIx n 0 lo : Nat) : Int), 1, sIx n n hi - sIx n 0 lo) s) : wpAny (model prog w) A (Builtin.Slice.sliceApplied (.ref sl) (pure (n : Int))) Q E s := by
 obtain ⟨os, hos, hcs, hds⟩ := id hs
 unfold Builtin.Slice.sliceApplied Builtin.Slice.sliceFields
 refine wpAny_bind (wpAny_bind (wpAny_field hos hds (x := vl) rfl (wpAny_bind (wpAny_field hos hds (x := vu) rfl (wpAny_bind (wpAny_field hos hds (x := .none) rfl (wpAny_pure ?_)))))))
 refine wpAny_bind (slicePart_none ?_)
 show wpAny _ _ (if ((1 : Int) == 0) = true then _ else _) _ _ s
 rw [if_neg (by decide)]
 refine wpAny_bind (slicePart_ pl (wpAny_bind (slicePart_ pu (wpAny_bind (wpAny_pure ?_)))))
 show wpAny _ _ (match Builtin.Slice.sliceAdjust lo hi 1 (n : Int) with | (lo, hi) => pure (lo, (1 : Int), Builtin.Slice.slicePlaces lo hi 1)) _ _ s
 rw [adjust_gen lo hi n]
 show wpAny _ _ (pure (((sIx n 0 lo : Nat) : Int), (1 : Int), Builtin.Slice.slicePlaces ((sIx n 0 lo : Nat) : Int) ((sIx n n hi : Nat) : Int) 1)) _ _ s
 rw [places_gen]
 exact wpAny_pure h
theorem pick_gen (xs : Array Value) (i k : Nat) : ((List.range k).filterMap fun (m : Nat) => xs[((i : Int) + (m : Int) * 1).toNat]?).toArray = ((xs.toList.drop i).take k).toArray := by
 have e : (fun (m : Nat) => xs[((i : Int) + (m : Int) * 1).toNat]?) = fun m => xs[i + m]? := by
  funext m
  have : ((i : Int) + (m : Int) * 1).toNat = i + m := by omega
  rw [this]
 rw [e]
 have := pick_run xs i k
 rw [List.filterMap_map] at this
 have e2 : ((fun x => xs[x]?) ∘ fun x => i + x) = fun m => xs[i + m]? := rfl
 rw [e2] at this
 rw [this]
theorem getItem_tuple_cut {t sl : Addr} {items : Array Value} {vl vu : Value} {lo hi : Option Int} {Q : Value → Shared → Prop} (ht : IsTup s.heap t items) (hs : s.heap.IsSliceOf sl vl vu .none) (pl : IsPart vl lo) (pu : IsPart vu hi)
  (hw : ¬ (sIx items.size 0 lo = 0 ∧ sIx items.size items.size hi = items.size))
  (h : Q (.ref s.heap.objs.size) { s with heap := s.heap.push { cls := .type "tuple", data := .seq ((items.toList.drop (sIx items.size 0 lo)).take (sIx items.size items.size hi - sIx items.size 0 lo)).toArray } })
  (hsz : items.size ≤ sizeLine) : wpAny (model prog w) A (getItem (.ref t) (.ref sl)) Q E s := by
 have htake : sizeOk (.seq ((items.toList.drop (sIx items.size 0 lo)).take (sIx items.size items.size hi - sIx items.size 0 lo)).toArray) := by
  show ((items.toList.drop (sIx items.size 0 lo)).take (sIx items.size items.size hi - sIx items.size 0 lo)).toArray.size ≤ sizeLine
  rw [List.size_toArray, List.length_take, List.length_drop, Array.length_toList]
  omega
 have hj : sIx items.size items.size hi ≤ items.size := sIx_le _ _ (Nat.le_refl _) hi
 obtain ⟨os, hos, hcs, hds⟩ := id hs
 have hTs : s.TypeIs (.ref sl) "slice" := ⟨os, hos, hcs⟩
 unfold getItem
 try with_reducible refine wpAny_holding ?_
 first | refine wpAny_bind (wpAny_pure ?_) | skip
 refine wpAny_bind (wpAny_sequenceKey ht.typeIs (by decide) ?_)
 refine wpAny_bind (wpAny_callSpecial?_slot (name := Str.ofString "__getitem__") ht.typeIs PyProof.Rows.slot_tuple_getitem
  (wpAny_call_entry PyProof.Rows.slot_tuple_getitem ht.typeIs entry_tuple_getitem ?_ (args_tuple_getitem _ _)))
 show wpAny _ _ (Builtin.Tuple.tupleItemsOf (.ref t) >>= _) _ _ s
 refine wpAny_bind (tupleItemsOf_ ht ?_)
 refine wpAny_bind (wpAny_typeOf hTs ?_)
 rw [if_pos (by decide)]
 refine wpAny_bind (sliceApplied_gen hs pl pu ?_)
 have hno : ¬ ((((sIx items.size 0 lo : Nat) : Int) == 0 && (1 : Int) == 1 && (sIx items.size items.size hi - sIx items.size 0 lo) == items.size) = true) := by
  intro q
  rw [Bool.and_eq_true, Bool.and_eq_true] at q
  have q1 : ((sIx items.size 0 lo : Nat) : Int) = 0 := eq_of_beq q.1.1
  have q2 : sIx items.size items.size hi - sIx items.size 0 lo = items.size := eq_of_beq q.2
  exact hw ⟨by omega, by omega⟩
 show wpAny _ _ (if (((sIx items.size 0 lo : Nat) : Int) == 0 && (1 : Int) == 1 && (sIx items.size items.size hi - sIx items.size 0 lo) == items.size) = true then _ else _) _ _ s
 rw [if_neg hno, pick_gen]
 first
  | exact wpAny_bind (m := Builtin.Tuple.tupleExact _) (wpAny_newObj_type (wpAny_pure ⟨_, rfl, wpAny_pure h⟩) htake)
  | exact wpAny_bind (m := Builtin.Tuple.tupleExact _) (wpAny_newObj_type (wpAny_bind (wpAny_pure (wpAny_pure ⟨_, rfl, wpAny_pure h⟩))) htake)
  | exact wpAny_bind (wpAny_bind (m := Builtin.Tuple.tupleExact _) (wpAny_newObj_type (wpAny_pure (wpAny_pure ⟨_, rfl, wpAny_pure h⟩)) htake))
  | exact wpAny_bind (wpAny_bind (m := Builtin.Tuple.tupleExact _) (wpAny_newObj_type (wpAny_pure ⟨_, rfl, wpAny_pure h⟩) htake))
end
end HT
namespace L2
open PySem PySem.Spec PyProof.Rows
abbrev TO := St → Hp → (Option Int → Hp → Prop) → Prop
def PO (X : Cx) (e : Option Expr) (t : TO) : Prop :=
 ∀ (pins : List (Addr × Obj)) (s : Shared) (σ : St) (H : Hp) (Q : Option Int → Hp → Prop), Inv X pins σ H s → t σ H Q →
  wpAny (model X.prog X.w) X.A (evalPart e X.env) (fun u s' => ∃ o H', Inv X pins σ H' s' ∧ IsPart u o ∧ Q o H') X.xe s
def tNoPart : TO := fun _ H Q => Q none H
def tPart (t : TE) : TO := fun σ H Q => t σ H fun x H1 => ∃ i, x = .int i ∧ Q (some i) H1
section
variable {X : Cx} {e : Expr} {te : TE} {lo hi : Option Expr} {tl th : TO} {pos p2 : Pos}
theorem po_none : PO X none tNoPart := by
 intro pins s σ H Q I h
 rw [evalPart_none]
 exact wpAny_pure ⟨none, H, I, .none, h⟩
theorem po_some (h : PE X e te) : PO X (some e) (tPart te) := by
 intro pins s σ H Q I hw
 rw [evalPart_some]
 refine thn (h pins s σ H _ I hw) fun u s1 ⟨x, H1, I1, r1, q1⟩ => ?_
 obtain ⟨i, rfl, q⟩ := q1
 obtain ⟨t, rfl⟩ := r1
 exact ⟨some i, H1, I1, .int i t, q⟩
def SlR (X : Cx) (r : V → Option Int → Option Int → Hp → VK → Prop) : Prop :=
 ∀ (pins : List (Addr × Obj)) (s : Shared) (σ : St) (H : Hp) (x : V) (v vl vu : Value) (lo hi : Option Int) (sl : Addr) (Q : VK), Inv X pins σ H s → RelV x v → s.heap.IsSliceOf sl vl vu .none → IsPart vl lo → IsPart vu hi → r x lo hi H Q →
  ∃ T id, typeLookup (.type T) "__getitem__" = pure (some (.builtin id)) ∧ s.TypeIs v T ∧ wpAny (model X.prog X.w) X.A (getItem v (.ref sl)) (EP X pins σ Q) X.xe s
def tSl (r : V → Option Int → Option Int → Hp → VK → Prop) (te : TE) (tl th : TO) : TE := fun σ H Q => te σ H fun x H1 => tl σ H1 fun l H2 => th σ H2 fun u H3 => r x l u H3 Q
theorem pe_slice {r : V → Option Int → Option Int → Hp → VK → Prop} (hr : SlR X r) (he : PE X e te) (hl : PO X lo tl) (hu : PO X hi th) : PE X (.Subscript e (.Slice lo hi none p2) pos) (tSl r te tl th) := by
 intro pins s σ H Q I h
 refine Subscript_ (thn (he pins s σ H _ I h) fun v s1 ⟨x, H1, I1, r1, q1⟩ => ?_)
 refine wpAny_Slice (thn (hl pins s1 σ H1 _ I1 q1) fun vl s2 ⟨l, H2, I2, pl, q2⟩ => thn (hu pins s2 σ H2 _ I2 q2) fun vu s3 ⟨u, H3, I3, pu, q3⟩ => ?_)
 rw [evalPart_none]
 refine wpAny_pure ?_
 have I4 : Inv X pins σ H3 { s3 with heap := s3.heap.push { cls := .type "slice", data := .fields #[vl, vu, .none] } } := I3.kept (t' := s3.toks) fun b ob q => Heap.get?_push_of_some _ q
 obtain ⟨T, id, hT, ht, hg⟩ := hr pins { s3 with heap := s3.heap.push { cls := .type "slice", data := .fields #[vl, vu, .none] } } σ H3 x v vl vu l u s3.heap.objs.size Q I4 r1 (Heap.IsSliceOf.new ..) pl pu q3
 show wpAny (model X.prog X.w) X.A (subscriptTail e (.Slice lo hi none p2) v (.ref s3.heap.objs.size)) (EP X pins σ Q) X.xe { s3 with heap := s3.heap.push { cls := .type "slice", data := .fields #[vl, vu, .none] } }
 exact tail_any (ops := [.ref s3.heap.objs.size, v]) ht hT hg (by with_unfolding_all rfl)
def cutV (xs : List V) (lo hi : Option Int) : List V := (xs.drop (HT.sIx xs.length 0 lo)).take (HT.sIx xs.length xs.length hi - HT.sIx xs.length 0 lo)
theorem cutV_length (xs : List V) (lo hi : Option Int) : (cutV xs lo hi).length ≤ xs.length := by
 unfold cutV
 rw [List.length_take, List.length_drop]
 omega
def rSlT (K : PySem.W.Frag) : V → Option Int → Option Int → Hp → VK → Prop := fun x lo hi H Q => ∃ a xs, x = .ref a ∧ SqT K H a xs ∧
 ¬ (HT.sIx xs.length 0 lo = 0 ∧ HT.sIx xs.length xs.length hi = xs.length) ∧ ∀ p, H p = none → Q (.ref p) (upd H p (.tup (cutV xs lo hi)))
theorem sl_tup : SlR X (rSlT X.K) := by
 intro pins s σ H x v vl vu lo hi sl Q I rx hs pl pu h
 obtain ⟨a, xs, rfl, hx, hw, q⟩ := h
 cases rx
 obtain ⟨its, r, ht, hz⟩ := I.tuple hx
 have hlen : its.toArray.size = xs.length := by rw [List.size_toArray]; exact r.length.symm
 refine ⟨"tuple", _, PyProof.Rows.slot_tuple_getitem.lookup, ht.typeIs, ?_⟩
 refine HT.getItem_tuple_cut ht hs pl pu (by rw [hlen]; exact hw) ?_ (by rw [hlen]; exact hz)
 rw [hlen]
 refine ⟨.ref s.heap.objs.size, _, I.laid (t' := s.toks) (o := .tup (cutV xs lo hi)) (fun b ob q => Heap.get?_push_of_some _ q) (Nat.le_refl _) ?_, rfl, q _ (I.hok.fresh (Nat.le_refl _))⟩
 exact ⟨Nat.le_trans (cutV_length xs lo hi) hz, _, (r.drop (HT.sIx xs.length 0 lo)).take (HT.sIx xs.length xs.length hi - HT.sIx xs.length 0 lo), IsTup.new _ _⟩
theorem Vals.nil_iff {xs : List V} {us : List Value} (r : Vals xs us) : us = [] ↔ xs = [] := by
 cases r with
 | nil => simp
 | cons _ _ => simp
end
def ixN (n : Nat) (i : Int) : Option Nat := if 0 ≤ i then (if i < n then some i.toNat else none) else if -(n : Int) ≤ i then some (i + n).toNat else none
def atI {α : Type} (xs : List α) (i : Int) : Option α := (ixN xs.length i).bind fun j => xs[j]?
theorem ixN_seq {n : Nat} {i : Int} {j : Nat} (h : ixN n i = some j) : seqIndex? i n = some j ∧ j < n ∧ -(n : Int) ≤ i ∧ i < n := by
 unfold ixN at h
 by_cases h0 : 0 ≤ i
 ·rw [if_pos h0] at h
  by_cases h1 : i < n
  ·rw [if_pos h1] at h
   have e : i.toNat = j := Option.some.inj h
   exact ⟨by rw [seqIndex_of h0 h1, e], by omega, by omega, h1⟩
  ·rw [if_neg h1] at h; cases h
 ·rw [if_neg h0] at h
  by_cases h1 : -(n : Int) ≤ i
  ·rw [if_pos h1] at h
   have e : (i + n).toNat = j := Option.some.inj h
   exact ⟨by rw [seqIndex_neg (by omega) h1, e], by omega, h1, by omega⟩
  ·rw [if_neg h1] at h; cases h
theorem atI_get {α : Type} {xs : List α} {i : Int} {v : α} (h : atI xs i = some v) : ∃ j, seqIndex? i xs.length = some j ∧ xs[j]? = some v ∧ j < xs.length ∧ -(xs.length : Int) ≤ i ∧ i < xs.length := by
 unfold atI at h
 cases e : ixN xs.length i with
 | none => rw [e] at h; cases h
 | some j =>
  rw [e] at h
  obtain ⟨h1, h2, h3, h4⟩ := ixN_seq e
  exact ⟨j, h1, h, h2, h3, h4⟩
theorem atI_nat {α : Type} {xs : List α} {j : Nat} {v : α} (h : xs[j]? = some v) : atI xs (j : Int) = some v := by
 have hj : j < xs.length := (List.getElem?_eq_some_iff.mp h).1
 have e : ixN xs.length (j : Int) = some j := by
  unfold ixN
  rw [if_pos (by omega), if_pos (by omega)]; simp
 unfold atI; rw [e]; exact h
def PlainIx (b : Expr) : Prop := ∀ o i, subscripted b false o i = operate [o, i] (getItem o i)
def IxR (X : Cx) (r : R2) : Prop :=
 ∀ (value slice : Expr) (pins : List (Addr × Obj)) (s : Shared) (σ : St) (H : Hp) (x y : V) (v u : Value) (Q : VK), Inv X pins σ H s → RelV x v → RelV y u → r x y H Q →
  subscripted slice false v u = operate [v, u] (getItem v u) → wpAny (model X.prog X.w) X.A (subscriptTail value slice v u) (EP X pins σ Q) X.xe s
def MtR (X : Cx) (id : String) (r : V → List V → Hp → VK → Prop) : Prop :=
 ∀ (pins : List (Addr × Obj)) (s : Shared) (σ : St) (H : Hp) (x : V) (xs : List V) (v : Value) (us : List Value) (Q : VK), Inv X pins σ H s → RelV x v → Vals xs us → r x xs H Q →
  wpAny (model X.prog X.w) X.A (call (.builtin id) (v :: us)) (EP X pins σ Q) X.xe s
section
variable {X : Cx} {a b : Expr} {ta tb : TE} {pos : Pos}
theorem pe_ix {r : R2} (hr : IxR X r) (ha : PE X a ta) (hb : PE X b tb) (hs : PlainIx b) : PE X (.Subscript a b pos) (tOp r ta tb) := by
 intro pins s σ H Q I h
 exact Subscript_ (binT ha hb I h fun v u s2 x y H2 I2 rx ry q => hr a b pins s2 σ H2 x y v u Q I2 rx ry q (hs _ _))
def rIxL (K : PySem.W.Frag) : R2 := fun x y H Q => ∃ p xs i v, x = .ref p ∧ y = .int i ∧ SqL K H p xs ∧ atI xs i = some v ∧ Q v H
def rIxT (K : PySem.W.Frag) : R2 := fun x y H Q => ∃ p xs i v, x = .ref p ∧ y = .int i ∧ SqT K H p xs ∧ atI xs i = some v ∧ Q v H
def rIxS : R2 := fun x y H Q => ∃ z i c, x = .str z ∧ y = .int i ∧ z.length ≤ sizeLine ∧ atI z.cps.toList i = some c ∧ Q (.str ⟨#[c]⟩) H
theorem ix_list : IxR X (rIxL X.K) := by
 intro value slice pins s σ H x y v u Q I rx ry h hs
 obtain ⟨p, xs, i, z, rfl, rfl, hq, he, q⟩ := h
 cases rx
 obtain ⟨t, rfl⟩ := ry
 obtain ⟨its, r, pl, hz⟩ := I.list hq
 obtain ⟨j, h1, h2, h3, h4, h5⟩ := atI_get he
 obtain ⟨w, ew, rw'⟩ := r.get h2
 have hl := r.length
 have hn := line63
 have fin : EP X pins σ Q w s := ⟨z, H, I, rw', q⟩
 by_cases h0 : 0 ≤ i
 ·have hj : i.toNat = j := by
   rw [seqIndex_of h0 h5] at h1
   exact Option.some.inj h1
  exact item_listR pl.isList h0 (by omega) (by rw [hj]; simpa using ew) fin hs
 ·have hj : (i + (its.toArray.size : Int)).toNat = j := by
   rw [seqIndex_neg (by omega) h4] at h1
   rw [List.size_toArray, ← hl]
   exact Option.some.inj h1
  exact subscriptTail_builtinR (x := w) pl.isList.typeIs slot_list_getitem.lookup
   (wpAny_getItem_list_neg (Q := fun r s' => r = w ∧ EP X pins σ Q r s') pl.isList (by omega) (by rw [List.size_toArray] <;> omega) (by omega) (by rw [hj]; simpa using ew) ⟨rfl, fin⟩) hs
theorem ix_tup : IxR X (rIxT X.K) := by
 intro value slice pins s σ H x y v u Q I rx ry h hs
 obtain ⟨p, xs, i, z, rfl, rfl, hq, he, q⟩ := h
 cases rx
 obtain ⟨t, rfl⟩ := ry
 obtain ⟨its, r, pl, hz⟩ := I.tuple hq
 obtain ⟨j, h1, h2, h3, h4, h5⟩ := atI_get he
 obtain ⟨w, ew, rw'⟩ := r.get h2
 have hl := r.length
 have hn := line63
 have fin : EP X pins σ Q w s := ⟨z, H, I, rw', q⟩
 exact subscriptTail_builtinR (x := w) pl.typeIs slot_tuple_getitem.lookup
  (getItem_tuple (j := j) (Q := fun r s' => r = w ∧ EP X pins σ Q r s') pl (by omega) (by omega) (by rw [List.size_toArray, ← hl]; exact h1) (by simpa using ew) ⟨rfl, fin⟩) hs
theorem ix_str : IxR X rIxS := by
 intro value slice pins s σ H x y v u Q I rx ry h hs
 obtain ⟨z, i, c, rfl, rfl, hz, he, q⟩ := h
 obtain ⟨t, rfl⟩ := rx
 obtain ⟨t', rfl⟩ := ry
 obtain ⟨j, h1, h2, h3, h4, h5⟩ := atI_get he
 have hl : z.cps.toList.length = z.length := by simp [Str.length]
 rw [hl] at h1 h4 h5
 have hn := line63
 exact tail_any (typeIs_str s z t) slot_str_getitem.lookup (getItem_str (c := c) (by
  have e1 : decide (i < -(2 ^ 63 : Int)) = false := decide_eq_false (by omega)
  have e2 : decide (i ≥ 2 ^ 63) = false := decide_eq_false (by omega)
  rw [e1, e2, Bool.or_false]) (by rw [h1]; simpa using h2) ⟨.str ⟨#[c]⟩, H, I.tok _, ⟨_, rfl⟩, q⟩) hs
theorem mapSeq_set (its : List Value) (n j : Nat) (u : Value) : Obj.mapSeq (·.setIfInBounds j u) { cls := .type "list", data := .seq its.toArray n } = { cls := .type "list", data := .seq (its.set j u).toArray n } := by
 simp [Obj.mapSeq]
theorem Inv.lst {pins : List (Addr × Obj)} {σ : St} {H : Hp} {s : Shared} {p : Addr} {xs : List V} (I : Inv X pins σ H s) (h : H p = some (.lst xs)) :
  ∃ (its : List Value) (n : Nat), Vals xs its ∧ s.heap.get? p = some { cls := .type "list", data := .seq its.toArray n } ∧ xs.length ≤ sizeLine := by
 obtain ⟨z, its, n, r, e⟩ := I.hok p _ h
 exact ⟨its, n, r, e, z⟩
theorem Inv.lstUpd {pins : List (Addr × Obj)} {σ : St} {H : Hp} {s : Shared} {p : Addr} {xs ys : List V} {its its' : List Value} {n n' : Nat} {f : Obj → Obj} (I : Inv X pins σ H s) (h : H p = some (.lst xs))
  (ho : s.heap.get? p = some { cls := .type "list", data := .seq its.toArray n }) (hf : f { cls := .type "list", data := .seq its.toArray n } = { cls := .type "list", data := .seq its'.toArray n' }) (r : Vals ys its') (hz : ys.length ≤ sizeLine) (t : Nat) :
  Inv X pins σ (upd H p (.lst ys)) { s with heap := s.heap.update p f, toks := t } := by
 have e : (s.heap.update p f).get? p = some { cls := .type "list", data := .seq its'.toArray n' } := by
  rw [Heap.get?_update_self f ho (by rw [hf] <;> rfl), hf]
 refine I.write (x := p) (e := p) (by rw [h]; trivial) (.inl rfl) (fun b u hb q => (Heap.get?_update_other _ _ (Ne.symm hb)).trans q) ⟨_, e⟩ ?_
 exact ⟨hz, its', n', r, e⟩
def rSetL : V → V → V → Hp → (Hp → Prop) → Prop := fun o i v H Q => ∃ p xs k j, o = .ref p ∧ i = .int k ∧ H p = some (.lst xs) ∧ ixN xs.length k = some j ∧ Q (upd H p (.lst (xs.set j v)))
theorem set_list : PSet X rSetL := by
 intro pins s σ H o i v ov iv u Q I ro ri rv h
 obtain ⟨p, xs, k, j, rfl, rfl, hp, hj, q⟩ := h
 cases ro
 obtain ⟨t, rfl⟩ := ri
 obtain ⟨its, n, r, ho, hz⟩ := I.lst hp
 obtain ⟨h1, h2, h3, h4⟩ := ixN_seq hj
 have hl := r.length
 have hn := line63
 have I' : Inv X pins σ (upd H p (.lst (xs.set j v))) { s with heap := s.heap.update p (Obj.mapSeq (·.setIfInBounds j u)) } :=
  I.lstUpd hp ho (mapSeq_set its n j u) (r.set rv j) (by rw [List.length_set]; exact hz) s.toks
 by_cases h0 : 0 ≤ k
 ·have hk : k.toNat = j := by
   rw [seqIndex_of h0 h4] at h1
   exact Option.some.inj h1
  exact PySem.W.ki_setAt ho h0 (by omega) (by rw [List.size_toArray, ← hl]; exact h4) (by rw [hk]; exact ⟨_, I', q⟩)
 ·have hk : (k + (its.toArray.size : Int)).toNat = j := by
   rw [seqIndex_neg (by omega) h3] at h1
   rw [List.size_toArray, ← hl]
   exact Option.some.inj h1
  exact PySem.W.ki_setBack ho (by omega) (by rw [List.size_toArray, ← hl]; exact h3) (by omega) (by rw [hk]; exact ⟨_, I', q⟩)
theorem slice_bounds (lo hi : Option Int) (n : Nat) : (sliceBounds lo hi none n).1 = ((HT.sIx n 0 lo : Nat) : Int) ∧ (sliceBounds lo hi none n).2.1 = ((HT.sIx n n hi : Nat) : Int) ∧ (sliceBounds lo hi none n).2.2 = 1 := by
 refine ⟨?_, ?_, rfl⟩
 ·cases lo with
  | none => simp [sliceBounds, HT.sIx]
  | some i =>
   simp only [sliceBounds, HT.sIx, Option.getD_none, show (1 : Int) > 0 by decide, if_true]
   by_cases h : i < 0
   ·simp only [h, if_true] <;> omega
   ·simp only [h, if_false] <;> omega
 ·cases hi with
  | none => simp [sliceBounds, HT.sIx]
  | some i =>
   simp only [sliceBounds, HT.sIx, Option.getD_none, show (1 : Int) > 0 by decide, if_true]
   by_cases h : i < 0
   ·simp only [h, if_true] <;> omega
   ·simp only [h, if_false] <;> omega
theorem slicePick_cut (its : List Value) (lo hi : Option Int) : slicePick its.toArray lo hi none = ((its.drop (HT.sIx its.length 0 lo)).take (HT.sIx its.length its.length hi - HT.sIx its.length 0 lo)).toArray := by
 obtain ⟨h1, h2, h3⟩ := slice_bounds lo hi its.toArray.size
 unfold slicePick
 rw [h1, h2, h3]
 simp only [sliceRange_one, pick_run, List.size_toArray] <;> rfl
def rSlL (K : PySem.W.Frag) : V → Option Int → Option Int → Hp → VK → Prop := fun x lo hi H Q => ∃ a xs, x = .ref a ∧ SqL K H a xs ∧ ∀ p, H p = none → Q (.ref p) (upd H p (.lst (cutV xs lo hi)))
theorem sl_list : SlR X (rSlL X.K) := by
 intro pins s σ H x v vl vu lo hi sl Q I rx hs pl pu h
 obtain ⟨a, xs, rfl, hx, q⟩ := h
 cases rx
 obtain ⟨its, r, ht, hz⟩ := I.list hx
 have hlen := r.length
 refine ⟨"list", _, slot_list_getitem.lookup, ht.isList.typeIs, ?_⟩
 refine wpAny_getItem_list_slice ht.isList hs pl pu .none (by simp) ?_ (by rw [List.size_toArray] <;> omega)
 rw [slicePick_cut, ← hlen]
 refine ⟨.ref s.heap.objs.size, _, I.laid (t' := s.toks) (o := .lst (cutV xs lo hi)) (fun b ob q => Heap.get?_push_of_some _ q) (Nat.le_refl _) ?_, rfl, q _ (I.hok.fresh (Nat.le_refl _))⟩
 exact ⟨Nat.le_trans (cutV_length xs lo hi) hz, _, 0, (r.drop (HT.sIx xs.length 0 lo)).take (HT.sIx xs.length xs.length hi - HT.sIx xs.length 0 lo), Heap.get?_push_size _ rfl⟩
def flatV : V → Bool
 | .non => true
 | .bl _ => true
 | .int _ => true
 | .str _ => true
 | _ => false
def eqV : V → V → Bool
 | .non, .non => true
 | .bl a, .bl b => a == b
 | .bl a, .int b => (if a then 1 else 0) == b
 | .int a, .bl b => a == (if b then 1 else 0)
 | .int a, .int b => a == b
 | .str a, .str b => a == b
 | _, _ => false
theorem eqAt_V {A : Around} {s : Shared} {y x : V} {u v : Value} (ry : RelV y u) (rx : RelV x v) (fy : flatV y = true) (fx : flatV x = true) : SeqAt.EqAt A s u v (eqV y x) := by
 cases y with
 | non =>
  cases ry
  cases x with
  | non => cases rx; exact SeqAt.EqAt.same _
  | bl b => cases rx; exact SeqAt.EqAt.none_bool b
  | int b => obtain ⟨t, rfl⟩ := rx; exact SeqAt.EqAt.none_int b t
  | str b => obtain ⟨t, rfl⟩ := rx; exact SeqAt.EqAt.none_str b t
  | _ => exact absurd (show false = true from fx) Bool.false_ne_true
 | bl a =>
  cases ry
  cases x with
  | non => cases rx; exact SeqAt.EqAt.bool_none a
  | bl b => cases rx; exact SeqAt.EqAt.bool_bool a b
  | int b => obtain ⟨t, rfl⟩ := rx; exact SeqAt.EqAt.bool_int a b t
  | str b => obtain ⟨t, rfl⟩ := rx; exact SeqAt.EqAt.bool_str a b t
  | _ => exact absurd (show false = true from fx) Bool.false_ne_true
 | int a =>
  obtain ⟨t', rfl⟩ := ry
  cases x with
  | non => cases rx; exact SeqAt.EqAt.int_none a t'
  | bl b => cases rx; exact SeqAt.EqAt.int_bool a t' b
  | int b => obtain ⟨t, rfl⟩ := rx; exact SeqAt.EqAt.int_int a t' b t
  | str b => obtain ⟨t, rfl⟩ := rx; exact SeqAt.EqAt.int_str a t' b t
  | _ => exact absurd (show false = true from fx) Bool.false_ne_true
 | str a =>
  obtain ⟨t', rfl⟩ := ry
  cases x with
  | non => cases rx; exact SeqAt.EqAt.str_none a t'
  | bl b => cases rx; exact SeqAt.EqAt.str_bool a t' b
  | int b => obtain ⟨t, rfl⟩ := rx; exact SeqAt.EqAt.str_int a t' b t
  | str b => obtain ⟨t, rfl⟩ := rx; exact SeqAt.EqAt.str_str a t' b t
  | _ => exact absurd (show false = true from fx) Bool.false_ne_true
 | _ => exact absurd (show false = true from fy) Bool.false_ne_true
def eqU (x : V) (u : Value) : Bool := match u with
 | .none => eqV .non x
 | .bool b => eqV (.bl b) x
 | .int i _ => eqV (.int i) x
 | .str z _ => eqV (.str z) x
 | _ => false
theorem eqU_of {x y : V} {u : Value} (r : RelV y u) (f : flatV y = true) : eqU x u = eqV y x := by
 cases y with
 | non => cases r; rfl
 | bl b => cases r; rfl
 | int i => obtain ⟨t, rfl⟩ := r; rfl
 | str z => obtain ⟨t, rfl⟩ := r; rfl
 | _ => exact absurd (show false = true from f) Bool.false_ne_true
theorem any_eqU {x : V} : ∀ {xs : List V} {us : List Value}, Vals xs us → xs.all flatV = true → us.any (eqU x) = xs.any fun y => eqV y x
 | _, _, .nil, _ => rfl
 | y :: xs, u :: us, .cons r t, f => by
  rw [List.all_cons, Bool.and_eq_true] at f
  rw [List.any_cons, List.any_cons, eqU_of r f.1, any_eqU t f.2]
theorem mem_eqAt {A : Around} {s : Shared} {x : V} {v : Value} (rx : RelV x v) (fx : flatV x = true) : ∀ {xs : List V} {us : List Value}, Vals xs us → xs.all flatV = true → ∀ u ∈ us, SeqAt.EqAt A s u v (eqU x u)
 | _, _, .nil, _ => fun u hu => by cases hu
 | y :: xs, u :: us, .cons r t, f => fun u' hu => by
  rw [List.all_cons, Bool.and_eq_true] at f
  rcases List.mem_cons.mp hu with rfl | hu
  ·rw [eqU_of r f.1]; exact eqAt_V r rx f.1 fx
  ·exact mem_eqAt rx fx t f.2 u' hu
def inV (x : V) (xs : List V) : Bool := xs.any fun y => eqV y x
def rIn (K : PySem.W.Frag) (neg : Bool) : R2 := fun x y H Q => ∃ p xs, y = .ref p ∧ (SqL K H p xs ∨ SqT K H p xs) ∧ flatV x = true ∧ xs.all flatV = true ∧ Q (.bl (if neg then !inV x xs else inV x xs)) H
theorem op_in_seq : OpR X (compareOp .In) (rIn X.K false) := by
 intro pins s σ H x y v u Q I rx ry h
 obtain ⟨p, xs, rfl, hq, fx, fs, q⟩ := h
 cases ry
 rcases hq with hq | hq
 ·obtain ⟨its, r, pl, hz⟩ := I.list hq
  refine SeqAt.in_listAt (eqU x) pl.isList (fun w hw => mem_eqAt rx fx r fs w (by simpa using hw)) ⟨.bl _, H, I, rfl, ?_⟩
  rw [show its.toArray.any (eqU x) = its.any (eqU x) by simp, any_eqU r fs]
  exact q
 ·obtain ⟨its, r, pl, hz⟩ := I.tuple hq
  refine SeqAt.in_tupleAt (eqU x) pl (fun w hw => mem_eqAt rx fx r fs w (by simpa using hw)) ⟨.bl _, H, I, rfl, ?_⟩
  rw [show its.toArray.any (eqU x) = its.any (eqU x) by simp, any_eqU r fs]
  exact q
theorem op_notIn_seq : OpR X (compareOp .NotIn) (rIn X.K true) := by
 intro pins s σ H x y v u Q I rx ry h
 obtain ⟨p, xs, rfl, hq, fx, fs, q⟩ := h
 cases ry
 rcases hq with hq | hq
 ·obtain ⟨its, r, pl, hz⟩ := I.list hq
  refine SeqAt.notIn_listAt (eqU x) pl.isList (fun w hw => mem_eqAt rx fx r fs w (by simpa using hw)) ⟨.bl _, H, I, rfl, ?_⟩
  rw [show its.toArray.any (eqU x) = its.any (eqU x) by simp, any_eqU r fs]
  exact q
 ·obtain ⟨its, r, pl, hz⟩ := I.tuple hq
  refine SeqAt.notIn_tupleAt (eqU x) pl (fun w hw => mem_eqAt rx fx r fs w (by simpa using hw)) ⟨.bl _, H, I, rfl, ?_⟩
  rw [show its.toArray.any (eqU x) = its.any (eqU x) by simp, any_eqU r fs]
  exact q
theorem op_notIn_str : OpR X (compareOp .NotIn) (fun x y H Q => ∃ i j, x = .str i ∧ y = .str j ∧ Q (.bl (!(!(Builtin.Str.occurrences j i 0 j.length 1).isEmpty))) H) := by
 intro pins s σ H x y v u Q I rx ry h
 obtain ⟨i, j, rfl, rfl, q⟩ := h
 obtain ⟨t, rfl⟩ := rx
 obtain ⟨t', rfl⟩ := ry
 exact notIn_str ⟨.bl _, H, I, rfl, q⟩
theorem call_list_of : CallR X (.type "list") (fun xs H Q => ∃ p ys, xs = [.ref p] ∧ (SqL X.K H p ys ∨ SqT X.K H p ys) ∧ ∀ l, H l = none → Q (.ref l) (upd H l (.lst ys))) := by
 intro pins s σ H xs us Q I r h
 obtain ⟨p, ys, rfl, hq, q⟩ := h
 obtain ⟨u, rfl, rx⟩ := vals1 r
 cases rx
 have fin : ∀ (its : List Value), Vals ys its → ys.length ≤ sizeLine → ∀ (h' : Heap) (c' : Nat), (∀ b o', s.heap.get? b = some o' → h'.get? b = some o') →
   h'.get? s.heap.objs.size = some { cls := .type "list", dict := none, data := .seq its.toArray c', slots := #[] } → EP X pins σ Q (.ref s.heap.objs.size) { s with heap := h' } := fun its r' hz h' c' kp e =>
  ⟨.ref s.heap.objs.size, _, I.laid (t' := s.toks) kp (Nat.le_refl _) (show ObjOk X.prog X.w _ h' _ (.lst ys) from ⟨hz, its, c', r', e⟩), rfl, q _ (I.hok.fresh (Nat.le_refl _))⟩
 rcases hq with hq | hq
 ·obtain ⟨its, r', pl, hz⟩ := I.list hq
  have hlen := r'.length
  obtain ⟨o, ho, hc, n, hd⟩ := pl.isList
  exact call_list_seq p (.inl rfl) ho hc hd (fun h' c' kp e => fin its r' hz h' c' kp e) (by simp only [List.size_toArray] <;> omega)
 ·obtain ⟨its, r', pl, hz⟩ := I.tuple hq
  have hlen := r'.length
  obtain ⟨o, ho, hc, n, hd⟩ := pl
  exact call_list_seq p (.inr rfl) ho hc hd (fun h' c' kp e => fin its r' hz h' c' kp e) (by simp only [List.size_toArray] <;> omega)
theorem call_tuple_of : CallR X (.type "tuple") (fun xs H Q => ∃ p ys, xs = [.ref p] ∧ ((SqL X.K H p ys ∧ ∀ l, H l = none → Q (.ref l) (upd H l (.tup ys))) ∨ (SqT X.K H p ys ∧ Q (.ref p) H))) := by
 intro pins s σ H xs us Q I r h
 obtain ⟨p, ys, rfl, h⟩ := h
 obtain ⟨u, rfl, rx⟩ := vals1 r
 cases rx
 rcases h with ⟨hq, q⟩ | ⟨hq, q⟩
 ·obtain ⟨its, r', pl, hz⟩ := I.list hq
  have hlen := r'.length
  refine call_tuple_list pl.isList (fun h' kp => ?_) (by simp only [List.size_toArray] <;> omega)
  have I1 : Inv X pins σ H { s with heap := h' } := I.kept (t' := s.toks) kp
  have I2 : Inv X pins σ (upd H h'.objs.size (.tup ys)) { s with heap := h'.push { cls := .type "tuple", data := .seq its.toArray } } :=
   I1.laid (t' := s.toks) (fun b o e => Heap.get?_push_of_some _ e) (Nat.le_refl _) (show ObjOk X.prog X.w _ _ _ (.tup ys) from ⟨hz, its, r', IsTup.new _ _⟩)
  exact ⟨.ref h'.objs.size, _, I2, rfl, q _ (I1.hok.fresh (Nat.le_refl _))⟩
 ·obtain ⟨its, r', pl, hz⟩ := I.tuple hq
  exact call_tuple_same pl ⟨.ref p, H, I, rfl, q⟩
def tyV (K : PySem.W.Frag) (T : String) (x : V) (H : Hp) : Prop := match x with
 | .str _ => T = "str"
 | .int _ => T = "int"
 | .ref p => (T = "list" ∧ ∃ xs, SqL K H p xs) ∨ (T = "tuple" ∧ ∃ o, K.lookup p = some o ∧ o.cls = .type "tuple" ∧ o.dict = none) ∨
   (T = "dict" ∧ ((∃ kvs, H p = some (.dK kvs)) ∨ ∃ kvs, H p = some (.dT kvs))) ∨ (T = "set" ∧ ∃ S n, H p = some (.set S n))
 | _ => False
theorem tyV_is {pins : List (Addr × Obj)} {σ : St} {H : Hp} {s : Shared} {T : String} {x : V} {v : Value} (I : Inv X pins σ H s) (r : RelV x v) (ty : tyV X.K T x H) :
  s.TypeIs v T ∧ ∀ a, v = .ref a → ∃ ob, s.heap.get? a = some ob ∧ ob.dict = none := by
 cases x with
 | str z =>
  obtain ⟨t, rfl⟩ := r
  cases (show T = "str" from ty)
  exact ⟨typeIs_str s z t, fun _ e => nomatch e⟩
 | int i =>
  obtain ⟨t, rfl⟩ := r
  cases (show T = "int" from ty)
  exact ⟨typeIs_int s i t, fun _ e => nomatch e⟩
 | ref p =>
  cases r
  rcases ty with ⟨rfl, xs, hq⟩ | ⟨rfl, o, hk, hc, hd⟩ | ⟨rfl, hk⟩ | ⟨rfl, S, n, hk⟩
  ·obtain ⟨its, _, pl, _⟩ := I.list hq
   refine ⟨pl.isList.typeIs, fun a e => ?_⟩
   cases e
   obtain ⟨o, n, e, c, hd, _⟩ := pl
   exact ⟨o, e, hd⟩
  ·refine ⟨⟨o, I.kIn p o hk, hc⟩, fun a e => ?_⟩
   cases e
   exact ⟨o, I.kIn _ o hk, hd⟩
  ·have z : ∃ o, s.heap.get? p = some o ∧ o.ExactDict := by
    rcases hk with ⟨kvs, hk⟩ | ⟨kvs, hk⟩
    ·obtain ⟨_, _, _, _, o, _, _, e, ex, _⟩ := I.hok p _ hk
     exact ⟨o, e, ex⟩
    ·obtain ⟨_, _, _, _, o, _, _, e, ex, _⟩ := I.hok p _ hk
     exact ⟨o, e, ex⟩
   obtain ⟨o, e, ex⟩ := z
   refine ⟨⟨o, e, ex.1⟩, fun a e2 => ?_⟩
   cases e2
   exact ⟨o, e, ex.2.1⟩
  ·obtain ⟨o, _, _, _, e, ex, _⟩ := I.hok p _ hk
   refine ⟨⟨o, e, ex.1⟩, fun a e2 => ?_⟩
   cases e2
   exact ⟨o, e, ex.2.1⟩
 | _ => exact False.elim ty
def tBM (K : PySem.W.Frag) (T : String) (r : V → List V → Hp → VK → Prop) (to : TE) (t : TA) : TE := fun σ H Q => to σ H fun x H1 => tyV K T x H1 ∧ t σ H1 fun xs H2 => r x xs H2 Q
variable {o e : Expr} {es : List Expr} {to : TE} {t : TA} {name : Str} {apos cpos : Pos} {T id : String} {r : V → List V → Hp → VK → Prop}
theorem pe_bm (pa : PlainAttrs T) (slot : Slot T name id) (hty : typeOf (.builtin id) = pure (.type "method_descriptor")) (hm : MtR X id r) (ho : PE X o to) (ha : PA X (e :: es) t)
  (hbase : attributeBase o name X.env (eval o X.env) = eval o X.env := by rfl)
  (hfew : ((backTo cpos (starEach (e :: es) X.env)).all (fun x => !x.1) && (backToKw cpos (keywordEach [] X.env)).all (fun x => x.1.isSome)
   && decide ((e :: es).length + ([] : List Keyword).length + (if ([] : List Keyword).isEmpty then 0 else 1) < 30)) = true := by rfl)
  (hline : (apos.endLine == cpos.line) = true := by rfl) (hs : starEach (e :: es) X.env = (false, eval e X.env) :: starEach es X.env := by rfl) (hplain : (backTo cpos (starEach es X.env)).any (·.1) = false := by rfl) :
  PE X (.Call (.Attribute o name apos) (e :: es) [] cpos) (tBM X.K T r to t) := by
 intro pins s σ H Q I h
 refine wpAny_Call_method_late hbase hfew hline rfl (thn (ho pins s σ H _ I h) fun v s1 ⟨x, H1, I1, r1, ty, q1⟩ => ?_)
 obtain ⟨h1, h2⟩ := tyV_is I1 r1 ty
 refine ⟨T, id, pa, slot, hty, h1, h2, ?_⟩
 have hA := ha cpos pins s1 σ H1 _ I1 q1
 rw [hs] at hA ⊢
 refine Calls.callWith_builtin (by show (false || (backTo cpos (starEach es X.env)).any (·.1)) = false; rw [hplain] <;> rfl) (Calls.evalArgs_plain ?_)
 exact thn hA fun us s2 ⟨vs, H2, I2, r2, q2⟩ => hm pins s2 σ H2 x vs v us Q I2 r1 r2 q2
end
def MtM (X : Cx) (id : String) (r : V → List V → Hp → VK → Prop) : Prop :=
 ∀ (pins : List (Addr × Obj)) (s : Shared) (σ : St) (H : Hp) (x : V) (xs : List V) (v : Value) (us : List Value) (Q : VK), Inv X pins σ H s → RelV x v → Vals xs us → r x xs H Q →
  wpAny (model X.prog X.w) X.A (call (.builtin id) (v :: us)) (EP X pins σ Q) X.xe s
theorem Vals.one : ∀ {x : V} {us : List Value}, Vals [x] us → ∃ u, us = [u] ∧ RelV x u
 | _, _, .cons r .nil => ⟨_, rfl, r⟩
theorem Vals.eraseIdx : ∀ {xs : List V} {us : List Value} (i : Nat), Vals xs us → Vals (xs.eraseIdx i) (us.eraseIdx i)
 | _, _, _, .nil => .nil
 | _, _, 0, .cons _ t => t
 | _, _, i + 1, .cons r t => .cons r (Vals.eraseIdx i t)
theorem len_erase {α : Type} : ∀ (l : List α) (i : Nat), (l.eraseIdx i).length ≤ l.length
 | [], _ => Nat.le_refl _
 | _ :: _, 0 => Nat.le_succ _
 | _ :: r, i + 1 => Nat.succ_le_succ (len_erase r i)
section
variable {X : Cx} {pins : List (Addr × Obj)} {σ : St} {H : Hp} {s : Shared} {l b : Addr} {xs ys zs : List V}
theorem Inv.lset {its its' : List Value} {n : Nat} {f : Array Value → Array Value} {t' : Nat} (I : Inv X pins σ H s) (hH : H l = some (.lst xs))
  (e : s.heap.get? l = some { cls := .type "list", data := .seq its.toArray n }) (hf : f its.toArray = its'.toArray) (hv : Vals ys its') (hz : ys.length ≤ sizeLine) :
  Inv X pins σ (upd H l (.lst ys)) { s with heap := s.heap.update l (Obj.mapSeq f), toks := t' } := by
 have q := PySem.IsL.update e f
 rw [hf] at q
 refine I.write (x := l) (e := l) (by rw [hH]; exact trivial) (.inl rfl) (fun b' u hb hu => (Heap.get?_update_other s.heap (Obj.mapSeq f) (Ne.symm hb)).trans hu) ⟨_, q⟩ ?_
 exact ⟨hz, its', _, hv, q⟩
theorem Inv.lnew {its : List Value} {t' : Nat} (I : Inv X pins σ H s) (hv : Vals ys its) (hz : ys.length ≤ sizeLine) :
  Inv X pins σ (upd H s.heap.objs.size (.lst ys)) { s with heap := s.heap.push { cls := .type "list", data := .seq its.toArray }, toks := t' } :=
 I.laid (fun _ _ q => Heap.get?_push_of_some _ q) (Nat.le_refl _) ⟨hz, its, 0, hv, Heap.get?_push_size _ rfl⟩
theorem Inv.fresh (I : Inv X pins σ H s) : H s.heap.objs.size = none := I.hok.fresh (Nat.le_refl _)
theorem Inv.lstM (I : Inv X pins σ H s) (hH : H l = some (.lst xs)) : xs.length ≤ sizeLine ∧ ∃ (its : List Value) (n : Nat), Vals xs its ∧ xs.length = its.length ∧ s.heap.get? l = some { cls := .type "list", data := .seq its.toArray n } := by
 obtain ⟨z, its, n, r, e⟩ := I.hok l _ hH
 exact ⟨z, its, n, r, r.length, e⟩
theorem notLongL {n : Nat} (h : n ≤ sizeLine) : Builtin.List.listTooLong n = false := by
 unfold Builtin.List.listTooLong
 exact decide_eq_false (by omega)
end
section
variable {X : Cx}
def rAppend : V → List V → Hp → VK → Prop := fun x vs H Q => ∃ l xs y, x = .ref l ∧ vs = [y] ∧ H l = some (.lst xs) ∧ xs.length < sizeLine ∧ Q .non (upd H l (.lst (xs ++ [y])))
theorem mt_append : MtM X "list.append" rAppend := by
 intro pins s σ H x vs v us Q I rx rv h
 obtain ⟨l, xs, y, rfl, rfl, hH, hz, q⟩ := h
 cases rx
 obtain ⟨u, rfl, ru⟩ := rv.one
 obtain ⟨z, its, n, r, hl, e⟩ := I.lstM hH
 refine call_meets F.slot_list_append ⟨_, e, rfl⟩ F.entry_list_append (F.args_list_append_2 _ _) (PySem.list_append l its.toArray n u (by rw [List.size_toArray]; omega)) ⟨e, ?_⟩
 refine ⟨.non, _, I.lset (its' := its ++ [u]) hH e (by simp) (r.append (.cons ru .nil)) ?_, rfl, q⟩
 rw [List.length_append, List.length_singleton]
 omega
def rExtend : V → List V → Hp → VK → Prop := fun x vs H Q => ∃ l b xs zs, x = .ref l ∧ vs = [.ref b] ∧ H l = some (.lst xs) ∧ H b = some (.lst zs) ∧ xs.length + zs.length ≤ sizeLine ∧ Q .non (upd H l (.lst (xs ++ zs)))
theorem mt_extend : MtM X "list.extend" rExtend := by
 intro pins s σ H x vs v us Q I rx rv h
 obtain ⟨l, b, xs, zs, rfl, rfl, hH, hB, hz, q⟩ := h
 cases rx
 obtain ⟨u, rfl, ru⟩ := rv.one
 cases ru
 obtain ⟨z, its, n, r, hl, e⟩ := I.lstM hH
 obtain ⟨z2, its2, n2, r2, hl2, e2⟩ := I.lstM hB
 have hsz : its.toArray.size + its2.toArray.size ≤ sizeLine := by rw [List.size_toArray, List.size_toArray]; omega
 have hlong : ¬ (!its.toArray.isEmpty && Builtin.List.listTooLong (its.toArray.size + its2.toArray.size)) = true := by
  rw [notLongL hsz, Bool.and_false]
  exact Bool.false_ne_true
 refine call_meets F.slot_list_extend ⟨_, e, rfl⟩ F.entry_list_extend (F.args_list_extend_2 _ _)
  (AutoSeq1.list_extend_list_list_0 l its.toArray n b its2.toArray n2 hlong (by rw [List.size_toArray]; omega) (by omega)) ⟨e, e2, ?_⟩
 refine ⟨.non, _, I.lset (its' := its ++ its2) hH e (by simp) (r.append r2) ?_, rfl, q⟩
 rw [List.length_append]
 omega
def rPopAt : V → List V → Hp → VK → Prop := fun x vs H Q => ∃ l xs i k y, x = .ref l ∧ vs = [.int i] ∧ H l = some (.lst xs) ∧ -(2 ^ 63) ≤ i ∧ i < 2 ^ 63 ∧ seqIndex? i xs.length = some k ∧ xs[k]? = some y ∧ Q y (upd H l (.lst (xs.eraseIdx k)))
theorem mt_popAt : MtM X "list.pop" rPopAt := by
 intro pins s σ H x vs v us Q I rx rv h
 obtain ⟨l, xs, i, k, y, rfl, rfl, hH, h1, h2, hk, hy, q⟩ := h
 cases rx
 obtain ⟨u, rfl, ru⟩ := rv.one
 obtain ⟨t, rfl⟩ := ru
 obtain ⟨z, its, n, r, hl, e⟩ := I.lstM hH
 obtain ⟨w, hw, rw'⟩ := r.get hy
 refine call_meets F.slot_list_pop ⟨_, e, rfl⟩ F.entry_list_pop (F.args_list_pop_2 _ _)
  (MeetsSeq.list_pop_at l its.toArray n i t k w (fitsIndex_both h1 h2) (by rw [List.size_toArray, ← hl]; exact hk) (by rw [← Array.getElem?_toList]; exact hw) (by rw [List.size_toArray]; omega)) ⟨e, ?_⟩
 refine ⟨y, _, I.lset (its' := its.eraseIdx k) hH e ?_ (r.eraseIdx k) ?_, rw', q⟩
 ·show its.toArray.eraseIdxIfInBounds k = (its.eraseIdx k).toArray
  rw [List.eraseIdxIfInBounds_toArray]
 ·have := len_erase xs k
  omega
def rCat : R2 := fun x y H Q => ∃ l b xs zs, x = .ref l ∧ y = .ref b ∧ H l = some (.lst xs) ∧ H b = some (.lst zs) ∧ xs.length + zs.length ≤ sizeLine ∧ ∀ p, H p = none → Q (.ref p) (upd H p (.lst (xs ++ zs)))
theorem op_cat : OpR X (binaryOp .Add) rCat := by
 intro pins s σ H x y v u Q I rx ry h
 obtain ⟨l, b, xs, zs, rfl, rfl, hH, hB, hz, q⟩ := h
 cases rx
 cases ry
 obtain ⟨z, its, n, r, hl, e⟩ := I.lstM hH
 obtain ⟨z2, its2, n2, r2, hl2, e2⟩ := I.lstM hB
 refine PySem.P.add_list e e2 ?_ (by rw [List.size_toArray, List.size_toArray]; omega)
 have ea : its.toArray ++ its2.toArray = (its ++ its2).toArray := by simp
 rw [ea]
 exact ⟨.ref _, _, I.lnew (t' := s.toks) (r.append r2) (by rw [List.length_append]; omega), rfl, q _ I.fresh⟩
end
section
variable {prog : Program} {w : World} {A : Around} {E : Value → Shared → Prop} {s : Shared}
end
section
variable {X : Cx}
end
section
variable {κ : Type} [DecidableEq κ]
def valV (kvs : List (κ × V)) (k : κ) : Option V := (kvs.find? fun kv => decide (kv.1 = k)).map (·.2)
def putK (kvs : List (κ × V)) (k : κ) (v : V) : List (κ × V) :=
 if (kvs.any fun kv => decide (kv.1 = k)) = true then kvs.map (fun kv => if kv.1 = k then (kv.1, v) else kv) else kvs ++ [(k, v)]
theorem valV_pos {p : κ × V} {r : List (κ × V)} {k : κ} (e : p.1 = k) : valV (p :: r) k = some p.2 := by simp [valV, List.find?_cons, e]
theorem valV_neg {p : κ × V} {r : List (κ × V)} {k : κ} (e : ¬ p.1 = k) : valV (p :: r) k = valV r k := by simp [valV, List.find?_cons, e]
theorem valV_any (k : κ) : ∀ kvs : List (κ × V), (kvs.any fun kv => decide (kv.1 = k)) = (valV kvs k).isSome
 | [] => rfl
 | p :: r => by
  rw [List.any_cons]
  by_cases e : p.1 = k
  ·simp only [valV_pos e, decide_eq_true e, Bool.true_or, Option.isSome_some]
  ·rw [valV_neg e, decide_eq_false e, Bool.false_or]; exact valV_any k r
theorem length_putK (kvs : List (κ × V)) (k : κ) (v : V) : (putK kvs k v).length ≤ kvs.length + 1 := by
 unfold putK
 split
 ·rw [List.length_map]; omega
 ·rw [List.length_append, List.length_cons, List.length_nil]; omega
theorem RelO.isSome_eq {o : Option V} {u : Option Value} (r : RelO o u) : o.isSome = u.isSome := by
 cases o with
 | none => cases u with
  | none => rfl
  | some _ => exact (show False from r).elim
 | some _ => cases u with
  | none => exact (show False from r).elim
  | some _ => rfl
theorem RelO.getD {o : Option V} {u : Option Value} {d : V} {d' : Value} (r : RelO o u) (rd : RelV d d') : RelV (o.getD d) (u.getD d') := by
 cases o with
 | none => cases u with
  | none => exact rd
  | some _ => exact (show False from r).elim
 | some _ => cases u with
  | none => exact (show False from r).elim
  | some _ => exact r
theorem KV.val {kvs : List (κ × V)} {vs : List (κ × Value)} (r : KV kvs vs) (k : κ) : RelO (valV kvs k) (valueAt vs k) := by
 unfold KV at r
 induction r with
 | nil => exact True.intro
 | @cons p q ps qs h t ih =>
  obtain ⟨h1, h2⟩ := h
  by_cases e : p.1 = k
  ·have e' : q.1 = k := h1.symm.trans e
   have b : valueAt (q :: qs) k = some q.2 := by simp [valueAt, List.find?_cons, e']
   rw [valV_pos e, b]; exact h2
  ·have e' : ¬ q.1 = k := fun z => e (h1.trans z)
   have b : valueAt (q :: qs) k = valueAt qs k := by simp [valueAt, List.find?_cons, e']
   rw [valV_neg e, b]; exact ih
theorem KV.any {kvs : List (κ × V)} {vs : List (κ × Value)} (r : KV kvs vs) (k : κ) : (kvs.any fun kv => decide (kv.1 = k)) = vs.any fun kv => decide (kv.1 = k) := by
 unfold KV at r
 induction r with
 | nil => rfl
 | cons h t ih => rw [List.any_cons, List.any_cons, ih, h.1]
theorem KV.repl {kvs : List (κ × V)} {vs : List (κ × Value)} (r : KV kvs vs) (k : κ) {y : V} {u : Value} (ry : RelV y u) :
  KV (kvs.map fun kv => if kv.1 = k then (kv.1, y) else kv) (vs.map fun kv => if kv.1 = k then (kv.1, u) else kv) := by
 unfold KV at r ⊢
 induction r with
 | nil => exact .nil
 | @cons p q ps qs h t ih =>
  rw [List.map_cons, List.map_cons]
  refine .cons ?_ ih
  obtain ⟨h1, h2⟩ := h
  by_cases e : p.1 = k
  ·rw [if_pos e, if_pos (h1.symm.trans e)]; exact ⟨h1, ry⟩
  ·rw [if_neg e, if_neg (fun z => e (h1.trans z))]; exact ⟨h1, h2⟩
theorem KV.put {kvs : List (κ × V)} {vs : List (κ × Value)} (r : KV kvs vs) (k : κ) {y : V} {u : Value} (ry : RelV y u) : KV (putK kvs k y) (stored vs k u) := by
 unfold putK stored
 rw [r.any k]
 by_cases e : (vs.any fun kv => decide (kv.1 = k)) = true
 ·rw [if_pos e, if_pos e]; exact r.repl k ry
 ·rw [if_neg e, if_neg e]; exact Paired.snoc r ⟨rfl, ry⟩
theorem KV.keys {kvs : List (κ × V)} {vs : List (κ × Value)} (r : KV kvs vs) : kvs.map (·.1) = vs.map (·.1) := by
 unfold KV at r
 induction r with
 | nil => rfl
 | cons h t ih => rw [List.map_cons, List.map_cons, ih, h.1]
theorem KV.length {kvs : List (κ × V)} {vs : List (κ × Value)} (r : KV kvs vs) : kvs.length = vs.length := Paired.length r
end
theorem kV_is {P : Program} {w : World} {k : Key} {u : Value} (r : RelV (kV k) u) : (mixKind P w).is k u = true := by
 cases k with
 | inl i => obtain ⟨t, e⟩ := (show ∃ t, u = Value.int i t from r); subst e; exact mixKind_int P w i t
 | inr x => obtain ⟨t, e⟩ := (show ∃ t, u = Value.str x t from r); subst e; exact mixKind_str P w x t
theorem items_are {P : Program} {w : World} : ∀ {ks : List Key} {us : List Value}, Vals (ks.map kV) us → ItemsAre (mixKind P w) ks us
 | [], _, r => by rw [List.map_nil] at r; cases r; exact .nil
 | k :: ks, _, r => by
  rw [List.map_cons] at r
  cases r with
  | cons h t => exact .cons (kV_is h) (items_are t)
abbrev KT (H : Hp) : List (List Key × V) → List (List Key × Addr × Value) → Prop := Paired fun p q => p.1 = q.1 ∧ H q.2.1 = some (.tup (p.1.map kV)) ∧ RelV p.2 q.2.2
theorem KT.val {H : Hp} {kvs : List (List Key × V)} {xs : List (List Key × Addr × Value)} (r : KT H kvs xs) (k : List Key) : RelO (valV kvs k) ((atKey xs k).map (·.2)) := by
 induction r with
 | nil => exact True.intro
 | @cons p q ps qs h t ih =>
  obtain ⟨h1, _, h2⟩ := h
  by_cases e : p.1 = k
  ·have e' : q.1 = k := h1.symm.trans e
   have b : atKey (q :: qs) k = some q.2 := by simp [atKey, List.find?_cons, e']
   rw [valV_pos e, b]; exact h2
  ·have e' : ¬ q.1 = k := fun z => e (h1.trans z)
   have b : atKey (q :: qs) k = atKey qs k := by simp [atKey, List.find?_cons, e']
   rw [valV_neg e, b]; exact ih
theorem KT.repl {H : Hp} {kvs : List (List Key × V)} {xs : List (List Key × Addr × Value)} (r : KT H kvs xs) (k : List Key) {y : V} {u : Value} (ry : RelV y u) :
  KT H (kvs.map fun kv => if kv.1 = k then (kv.1, y) else kv) (xs.map (putAt k u)) := by
 induction r with
 | nil => exact .nil
 | @cons p q ps qs h t ih =>
  rw [List.map_cons, List.map_cons]
  refine .cons ?_ ih
  obtain ⟨h1, h2, h3⟩ := h
  unfold putAt
  by_cases e : p.1 = k
  ·rw [if_pos e, if_pos (h1.symm.trans e)]; exact ⟨h1, h2, ry⟩
  ·rw [if_neg e, if_neg (fun z => e (h1.trans z))]; exact ⟨h1, h2, h3⟩
theorem KT.put {H : Hp} {kvs : List (List Key × V)} {xs : List (List Key × Addr × Value)} (r : KT H kvs xs) (k : List Key) {b : Addr} {y : V} {u : Value} (hb : H b = some (.tup (k.map kV))) (ry : RelV y u) :
  KT H (putK kvs k y) (storedH xs k b u) := by
 have e : (kvs.any fun kv => decide (kv.1 = k)) = (atKey xs k).isSome := by
  rw [valV_any, (r.val k).isSome_eq, Option.isSome_map]
 unfold putK storedH
 rw [e]
 by_cases q : (atKey xs k).isSome = true
 ·rw [if_pos q, if_pos q]; exact r.repl k ry
 ·rw [if_neg q, if_neg q]; exact Paired.snoc r ⟨rfl, hb, ry⟩
theorem KT.keeps {H H' : Hp} {kvs : List (List Key × V)} {xs : List (List Key × Addr × Value)} (r : KT H kvs xs) (ht : ∀ b ys, H b = some (.tup ys) → H' b = some (.tup ys)) : KT H' kvs xs :=
 Paired.mapP r fun _ _ z => ⟨z.1, ht _ _ z.2.1, z.2.2⟩
section
variable {P : Program} {w : World} {H : Hp} {h : Heap} {a : Addr}
theorem rd_of {u : HO} (ok : HOk P w H h) (e : Rd H a u) : ObjOk P w H h a u := e.ok ok
theorem dk_rd {kvs : List (Key × V)} (ok : HOk P w H h) (e : Rd H a (.dK kvs)) : kvs.length ≤ sizeLine ∧ (a == sysModules) = false ∧ ∃ vs, KV kvs vs ∧ h.DictOf (mixKind P w) a vs :=
 show ObjOk P w H h a (.dK kvs) from rd_of ok e
theorem dk_of {kvs : List (Key × V)} (ok : HOk P w H h) (e : H a = some (.dK kvs)) : kvs.length ≤ sizeLine ∧ (a == sysModules) = false ∧ ∃ vs, KV kvs vs ∧ h.DictOf (mixKind P w) a vs := dk_rd ok (.inl e)
theorem key_of {ks : List Key} (ok : HOk P w H h) (e : H a = some (.tup (ks.map kV))) : (tupleKind (mixKind P w)).is h ks a := by
 obtain ⟨_, its, r, o, h1, h2, n, h3⟩ := (show ObjOk P w H h a (.tup (ks.map kV)) from ok a _ e)
 exact ⟨o, its.toArray, n, h1, h2, h3, by simpa using items_are r⟩
theorem dt_rd {kvs : List (List Key × V)} (ok : HOk P w H h) (e : Rd H a (.dT kvs)) : kvs.length ≤ sizeLine ∧ (a == sysModules) = false ∧
  ∃ xs, KT H kvs xs ∧ h.DictOfH (tupleKind (mixKind P w)) a xs := by
 obtain ⟨z, y, xs, r, o, es, ep, h1, h2, h3, h4, h5⟩ := (show ObjOk P w H h a (.dT kvs) from rd_of ok e)
 refine ⟨z, y, xs, r, o, es, ep, h1, h2, h3, h4, fun x hx => ?_, h5⟩
 have all : ∀ {l : List (List Key × V)} {m : List (List Key × Addr × Value)}, KT H l m → ∀ x ∈ m, (tupleKind (mixKind P w)).is h x.1 x.2.1 := by
  intro l m q
  induction q with
  | nil => intro x hx; exact nomatch hx
  | @cons p q ps qs hq t ih =>
   intro x hx
   rcases List.mem_cons.mp hx with e | hx
   ·subst e
    exact key_of ok (by rw [← hq.1]; exact hq.2.1)
   ·exact ih x hx
 exact all r x hx
theorem dt_of {kvs : List (List Key × V)} (ok : HOk P w H h) (e : H a = some (.dT kvs)) : kvs.length ≤ sizeLine ∧ (a == sysModules) = false ∧
  ∃ xs, KT H kvs xs ∧ h.DictOfH (tupleKind (mixKind P w)) a xs := dt_rd ok (.inl e)
end
def DGet (H : Hp) (a : Addr) (y : V) (r : Option V) : Prop :=
 (∃ kvs k, Rd H a (.dK kvs) ∧ y = kV k ∧ r = valV kvs k) ∨ ∃ kvs k b, Rd H a (.dT kvs) ∧ y = .ref b ∧ H b = some (.tup (k.map kV)) ∧ r = valV kvs k
def DPut (H : Hp) (a : Addr) (y v : V) (H' : Hp) : Prop :=
 (∃ kvs k, H a = some (.dK kvs) ∧ y = kV k ∧ kvs.length < sizeLine ∧ H' = upd H a (.dK (putK kvs k v))) ∨
 ∃ kvs k b, H a = some (.dT kvs) ∧ y = .ref b ∧ H b = some (.tup (k.map kV)) ∧ kvs.length < sizeLine ∧ H' = upd H a (.dT (putK kvs k v))
theorem DGet.k {H : Hp} {a : Addr} {kvs : List (Key × V)} {k : Key} (e : H a = some (.dK kvs)) : DGet H a (kV k) (valV kvs k) := .inl ⟨kvs, k, .inl e, rfl, rfl⟩
theorem DPut.k {H : Hp} {a : Addr} {kvs : List (Key × V)} {k : Key} {v : V} (e : H a = some (.dK kvs)) (hl : kvs.length < sizeLine) : DPut H a (kV k) v (upd H a (.dK (putK kvs k v))) := .inl ⟨kvs, k, e, rfl, hl, rfl⟩
section
variable {X : Cx} {pins : List (Addr × Obj)} {σ : St} {H : Hp} {s : Shared} {a : Addr} {y v : V} {u r : Value} {o : Option V} {A : Around} {E : Value → Shared → Prop}
theorem Inv.big (I : Inv X pins σ H s) : sysModules < s.heap.objs.size := by
 have h : mainGlobals < s.heap.objs.size := (I.mod.glob.keeps I.bk).lt
 exact Nat.lt_trans (by decide) h
theorem d_getItem {Q : Value → Shared → Prop} (hu : A.units + 1 < cLine) (I : Inv X pins σ H s) (g : DGet H a y (some v)) (ry : RelV y u) (h : ∀ w' s', Inv X pins σ H s' → RelV v w' → Q w' s') :
  wpAny (model X.prog X.w) A (getItem (.ref a) u) Q E s := by
 rcases g with ⟨kvs, k, e, ey, l⟩ | ⟨kvs, k, b, e, ey, eb, l⟩
 ·subst ey
  obtain ⟨z, hd, vs, rel, dd⟩ := dk_rd I.hok e
  obtain ⟨w', hw, rw'⟩ := RelO.some_of (v := v) (o := valueAt vs k) (by rw [l]; exact rel.val k)
  exact wpAny_getItem_of (kV_is ry) dd.mapOf hw (h w' _ (I.tok _) rw')
 ·subst ey
  cases (show u = Value.ref b from ry)
  obtain ⟨z, hd, xs, rel, dd⟩ := dt_rd I.hok e
  obtain ⟨w', hw, rw'⟩ := RelO.some_of (v := v) (o := (atKey xs k).map (·.2)) (by rw [l]; exact rel.val k)
  obtain ⟨p, hp, hp2⟩ := Option.map_eq_some_iff.mp hw
  refine wpAny_getItem_heap (tupleKind_room_in1 hu) (key_of I.hok eb) dd hp ?_
  rw [hp2]
  exact h w' _ (I.tok _) rw'
theorem d_in {Q : Value → Shared → Prop} (hu : A.units + 1 < cLine) (I : Inv X pins σ H s) (g : DGet H a y o) (ry : RelV y u) (h : ∀ s', Inv X pins σ H s' → Q (.bool o.isSome) s') :
  wpAny (model X.prog X.w) A (compareOp .In u (.ref a)) Q E s := by
 rcases g with ⟨kvs, k, e, ey, l⟩ | ⟨kvs, k, b, e, ey, eb, l⟩
 ·subst ey
  obtain ⟨z, hd, vs, rel, dd⟩ := dk_rd I.hok e
  refine wpAny_in_of (kV_is ry) hd dd.mapOf ?_
  rw [← (rel.val k).isSome_eq, ← l]
  exact h _ (I.tok _)
 ·subst ey
  cases (show u = Value.ref b from ry)
  obtain ⟨z, hd, xs, rel, dd⟩ := dt_rd I.hok e
  refine wpAny_in_heap (tupleKind_room_in1 hu) (key_of I.hok eb) hd dd ?_
  have q := (rel.val k).isSome_eq
  rw [Option.isSome_map] at q
  rw [← q, ← l]
  exact h _ (I.tok _)
theorem d_notIn {Q : Value → Shared → Prop} (hu : A.units + 1 < cLine) (I : Inv X pins σ H s) (g : DGet H a y o) (ry : RelV y u) (h : ∀ s', Inv X pins σ H s' → Q (.bool (!o.isSome)) s') :
  wpAny (model X.prog X.w) A (compareOp .NotIn u (.ref a)) Q E s := by
 rcases g with ⟨kvs, k, e, ey, l⟩ | ⟨kvs, k, b, e, ey, eb, l⟩
 ·subst ey
  obtain ⟨z, hd, vs, rel, dd⟩ := dk_rd I.hok e
  refine wpAny_notIn_of (kV_is ry) hd dd.mapOf ?_
  rw [← (rel.val k).isSome_eq, ← l]
  exact h _ (I.tok _)
 ·subst ey
  cases (show u = Value.ref b from ry)
  obtain ⟨z, hd, xs, rel, dd⟩ := dt_rd I.hok e
  refine wpAny_notIn_heap (tupleKind_room_in1 hu) (key_of I.hok eb) hd dd ?_
  have q := (rel.val k).isSome_eq
  rw [Option.isSome_map] at q
  rw [← q, ← l]
  exact h _ (I.tok _)
theorem d_write {h' : Heap} {t' : Nat} {ob : HO} (I : Inv X pins σ H s) (mu : Mut (H a)) (hs : Heap.SameBut a s.heap h') (he : ∃ q, h'.get? a = some q) (new : ObjOk X.prog X.w (upd H a ob) h' a ob) :
  Inv X pins σ (upd H a ob) { s with heap := h', toks := t' } :=
 I.write (x := a) (e := a) mu (.inl rfl) (fun b q hb z => (hs.2 b hb).trans z) he new
theorem dk_new {P : Program} {w : World} {H' : Hp} {h' : Heap} {kvs : List (Key × V)} {vs : List (Key × Value)} (z : kvs.length ≤ sizeLine) (hd : (a == sysModules) = false) (rel : KV kvs vs) (dd : h'.DictOf (mixKind P w) a vs) :
  ObjOk P w H' h' a (.dK kvs) := ⟨z, hd, vs, rel, dd⟩
theorem d_setItem {H' : Hp} {Q : Unit → Shared → Prop} (hu : A.units + 1 < cLine) (I : Inv X pins σ H s) (g : DPut H a y v H') (ry : RelV y u) (rv : RelV v r) (h : ∀ s', Inv X pins σ H' s' → Q () s') :
  wpAny (model X.prog X.w) A (setItem (.ref a) u r) Q E s := by
 rcases g with ⟨kvs, k, e, ey, l, eH⟩ | ⟨kvs, k, b, e, ey, eb, l, eH⟩
 ·subst ey eH
  obtain ⟨z, hd, vs, rel, dd⟩ := dk_of I.hok e
  have hz : vs.length ≤ sizeLine := by rw [← rel.length]; exact z
  have hl : (putK kvs k v).length ≤ sizeLine := by have := length_putK kvs k v; omega
  refine wpAny_setItem_pairs (hsz := hz) (kV_is ry) dd fun h' dd' hs => h _ ?_
  have he : ∃ q, h'.get? a = some q := let ⟨q, _, _, hq, _⟩ := dd'; ⟨q, hq⟩
  exact d_write I (by rw [e]; exact True.intro) hs he (dk_new hl hd (rel.put k rv) dd')
 ·subst ey eH
  cases (show u = Value.ref b from ry)
  obtain ⟨z, hd, xs, rel, dd⟩ := dt_of I.hok e
  have hz : xs.length ≤ sizeLine := by rw [← Paired.length rel]; exact z
  have hl : (putK kvs k v).length ≤ sizeLine := by have := length_putK kvs k v; omega
  refine wpAny_setItem_heap (hsz := hz) (tupleKind_room_in1 hu) (key_of I.hok eb) dd fun h' dd' hs => h _ ?_
  obtain ⟨q, es, ep, hq, h2, h3, h4, _, h5⟩ := dd'
  refine d_write I (by rw [e]; exact True.intro) hs ⟨q, hq⟩ ⟨hl, hd, _, (rel.put k eb rv).keeps fun c ys ec => ?_, q, es, ep, hq, h2, h3, h4, h5⟩
  rw [upd_ne (ne_of ec e (fun z => nomatch z))]
  exact ec
end
section
variable {X : Cx} {pins : List (Addr × Obj)} {σ : St} {H : Hp} {s : Shared} {a : Addr} {kvs : List (Key × V)} {k : Key} {u : Value} {A : Around} {E : Value → Shared → Prop}
end
def NoSl (i : Expr) : Prop := ∀ ov iv, subscripted i false ov iv = operate [ov, iv] (getItem ov iv)
theorem subD_of {prog : Program} {w : World} {A : Around} {E : Value → Shared → Prop} {s : Shared} {env : Env} {value slice : Expr} {pos : Pos} {T id : String} {Q : Value → Shared → Prop}
  (hl : typeLookup (.type T) "__getitem__" = pure (some (.builtin id))) (hs : NoSl slice)
  (h : wpAny (model prog w) A (eval value env) (fun o s₁ => wpAny (model prog w) A (eval slice env) (fun i s₂ => s₂.TypeIs o T ∧ wpAny (model prog w) A (getItem o i) Q E s₂) E s₁) E s) :
  wpAny (model prog w) A (eval (.Subscript value slice pos) env) Q E s := by
 refine Subscript_ (wpAny_mono h (fun o s₁ h₁ => wpAny_mono h₁ (fun i s₂ h₂ => ?_) fun _ _ x => x) fun _ _ x => x)
 obtain ⟨hT, h₂⟩ := h₂
 unfold subscriptTail
 refine wpAny_bind ?_
 rw [getitemInPython_of_ne hT.not_modules]
 refine wpAny_bind (wpAny_specialOf hT hl ?_)
 have fin : wpAny (model prog w) A (subscripted slice false o i) (fun r s₃ => wpAny (model prog w) A (letTemporaryGo value o r >>= fun _ => pure r) Q E s₃) E s₂ := by
  rw [hs o i]
  exact wpAny_operating (wpAny_mono h₂ (fun r s₃ h₃ => wpAny_bind (wpAny_letTemporaryGo (wpAny_pure h₃))) fun _ _ x => x)
 first
  | exact wpAny_pure (wpAny_bind fin)
  | exact wpAny_bind (wpAny_pure (wpAny_bind fin))
  | exact wpAny_bind fin
theorem dict_typeIs {X : Cx} {pins : List (Addr × Obj)} {σ : St} {H : Hp} {s : Shared} {a : Addr} {y : V} {o : Option V} (I : Inv X pins σ H s) (g : DGet H a y o) : s.TypeIs (.ref a) "dict" := by
 rcases g with ⟨kvs, k, e, _, _⟩ | ⟨kvs, k, b, e, _, _, _⟩
 ·obtain ⟨_, _, vs, _, dd⟩ := dk_rd I.hok e
  exact dd.typeIs
 ·obtain ⟨_, _, xs, _, dd⟩ := dt_rd I.hok e
  exact dd.typeIs
def tDGet (td ty : TE) : TE := fun σ H Q => td σ H fun x H1 => ty σ H1 fun y H2 => ∃ a v, x = .ref a ∧ DGet H2 a y (some v) ∧ Q v H2
def tDIn (ty td : TE) : TE := fun σ H Q => ty σ H fun y H1 => td σ H1 fun x H2 => ∃ a o, x = .ref a ∧ DGet H2 a y o ∧ Q (.bl o.isSome) H2
def tDNotIn (ty td : TE) : TE := fun σ H Q => ty σ H fun y H1 => td σ H1 fun x H2 => ∃ a o, x = .ref a ∧ DGet H2 a y o ∧ Q (.bl (!o.isSome)) H2
def sDPut (td ty tv : TE) : TS := fun D σ H => tv σ H fun v H1 => td σ H1 fun x H2 => ty σ H2 fun y H3 => ∃ a H4, x = .ref a ∧ DPut H3 a y v H4 ∧ D.nx σ H4
section
variable {X : Cx} {o i e value : Expr} {pos pos' tpos : Pos} {td ty tv : TE}
theorem pe_dget (hu : X.A.units + 1 < cLine) (ho : PE X o td) (hi : PE X i ty) (hs : NoSl i) : PE X (.Subscript o i pos) (tDGet td ty) := by
 intro pins s σ H Q I h
 refine subD_of PySem.F.slot_dict_getitem.lookup hs (thn (ho pins s σ H _ I h) fun u s1 ⟨x, H1, I1, rx, q1⟩ => thn (hi pins s1 σ H1 _ I1 q1) fun iv s2 ⟨y, H2, I2, ry, a, v, ex, g, q2⟩ => ?_)
 subst ex
 obtain rfl : u = Value.ref a := rx
 exact ⟨dict_typeIs I2 g, d_getItem hu I2 g ry fun w' s3 I3 rw' => ⟨v, H2, I3, rw', q2⟩⟩
theorem pc_din (hu : X.A.units + 1 < cLine) (hi : PE X i ty) (ho : PE X o td) : PC X .In i o (tDIn ty td) := by
 intro pins s σ H Q I h
 refine thn (hi pins s σ H _ I h) fun iv s1 ⟨y, H1, I1, ry, q1⟩ => thn (ho pins s1 σ H1 _ I1 q1) fun u s2 ⟨x, H2, I2, rx, a, ov, ex, g, q2⟩ => ?_
 subst ex
 obtain rfl : u = Value.ref a := rx
 exact d_in hu I2 g ry fun s3 I3 => ⟨.bl ov.isSome, H2, I3, rfl, q2⟩
theorem pc_dnotin (hu : X.A.units + 1 < cLine) (hi : PE X i ty) (ho : PE X o td) : PC X .NotIn i o (tDNotIn ty td) := by
 intro pins s σ H Q I h
 refine thn (hi pins s σ H _ I h) fun iv s1 ⟨y, H1, I1, ry, q1⟩ => thn (ho pins s1 σ H1 _ I1 q1) fun u s2 ⟨x, H2, I2, rx, a, ov, ex, g, q2⟩ => ?_
 subst ex
 obtain rfl : u = Value.ref a := rx
 exact d_notIn hu I2 g ry fun s3 I3 => ⟨.bl (!ov.isSome), H2, I3, rfl, q2⟩
theorem ps_dput (hu : X.A.units + 1 < cLine) (ho : PE X o td) (hi : PE X i ty) (hv : PE X value tv) (hs : swapsWith value (some (.Subscript o i pos')) pos.line X.env = pure false) :
  PS X (.Assign [.Subscript o i pos'] value pos) (sDPut td ty tv) := by
 intro pins s σ H D I h
 refine wpAny_Assign_Subscript (thn (hv pins s σ H _ I h) fun r s1 ⟨v, H1, I1, rv, q1⟩ => thn (ho pins s1 σ H1 _ I1 q1) fun u s2 ⟨x, H2, I2, rx, q2⟩ => thn (hi pins s2 σ H2 _ I2 q2) fun iv s3 ⟨y, H3, I3, ry, a, H4, ex, g, q3⟩ => ?_) hs
 subst ex
 obtain rfl : u = Value.ref a := rx
 exact d_setItem hu I3 g ry rv fun s4 I4 => ⟨σ, H4, I4, q3⟩
end
theorem dk_empty {P : Program} {w : World} {H : Hp} (h : Heap) (hb : sysModules < h.objs.size) : ObjOk P w H (h.push { cls := .type "dict", data := .dict #[] }) h.objs.size (.dK []) :=
 ⟨Nat.zero_le _, beq_eq_false_iff_ne.mpr (Ne.symm (Nat.ne_of_lt hb)), [], .nil, Heap.DictOf.new h⟩
def tDNewK : TE := fun _ H Q => ∀ p, H p = none → Q (.ref p) (upd H p (.dK []))
section
variable {X : Cx} {pos : Pos}
theorem pe_dnewK : PE X (.Dict [] [] pos) tDNewK := fun pins s σ H Q I h =>
 wpAny_Dict_empty ⟨.ref s.heap.objs.size, _, I.laid (a := s.heap.objs.size) (o := .dK []) (t' := s.toks) (fun _ _ q => Heap.get?_push_of_some _ q) (Nat.le_refl _) (dk_empty s.heap I.big), rfl, h _ (I.hok.fresh (Nat.le_refl _))⟩
end
def tPairs : List (TE × TE) → St → Hp → (List (V × V) → Hp → Prop) → Prop
 | [], _, H, Q => Q [] H
 | (tk, tv) :: r, σ, H, Q => tk σ H fun x H1 => tv σ H1 fun y H2 => tPairs r σ H2 fun ps H3 => Q ((x, y) :: ps) H3
abbrev VV : List (V × V) → List (Value × Value) → Prop := Paired fun p q => RelV p.1 q.1 ∧ RelV p.2 q.2
def PPs (X : Cx) (pos : Pos) (keys : List (Option Expr)) (values : List Expr) (trs : List (TE × TE)) : Prop :=
 ∀ (pins : List (Addr × Obj)) (s : Shared) (σ : St) (H : Hp) (Q : List (V × V) → Hp → Prop), Inv X pins σ H s → tPairs trs σ H Q →
  wpAny (model X.prog X.w) X.A (evalPairs (pairTrees keys values X.env pos)) (fun vs s' => ∃ ps H', Inv X pins σ H' s' ∧ VV ps vs ∧ Q ps H') X.xe s
def mergeK (kvs more : List (Key × V)) : List (Key × V) := more.foldl (fun acc kv => putK acc kv.1 kv.2) kvs
theorem KV.merge : ∀ {more : List (Key × V)} {rs : List (Key × Value)} {kvs : List (Key × V)} {vs : List (Key × Value)}, KV more rs → KV kvs vs → KV (mergeK kvs more) (merged vs rs) := by
 intro more rs kvs vs r
 unfold KV at r
 induction r generalizing kvs vs with
 | nil => intro q; exact q
 | @cons p q ps qs h t ih =>
  intro r0
  have e : KV (putK kvs p.1 p.2) (stored vs q.1 q.2) := by
   have := r0.put p.1 h.2
   rw [← h.1]; exact this
  exact ih e
structure M1 (X : Cx) (o : Expr) (m : Str) (apos : Pos) (e : Expr) (cpos : Pos) : Prop where
 base : attributeBase o m X.env (eval o X.env) = eval o X.env
 few : ((backTo cpos (starEach [e] X.env)).all (fun x => !x.1) && (backToKw cpos (keywordEach [] X.env)).all (fun x => x.1.isSome)
  && decide (([e] : List Expr).length + ([] : List Keyword).length + (if ([] : List Keyword).isEmpty then 0 else 1) < 30)) = true
 line : (apos.endLine == cpos.line) = true
 trees : backTo cpos (starEach [e] X.env) = [(false, eval e X.env)]
structure M2 (X : Cx) (o : Expr) (m : Str) (apos : Pos) (e f : Expr) (cpos : Pos) : Prop where
 base : attributeBase o m X.env (eval o X.env) = eval o X.env
 few : ((backTo cpos (starEach [e, f] X.env)).all (fun x => !x.1) && (backToKw cpos (keywordEach [] X.env)).all (fun x => x.1.isSome)
  && decide (([e, f] : List Expr).length + ([] : List Keyword).length + (if ([] : List Keyword).isEmpty then 0 else 1) < 30)) = true
 line : (apos.endLine == cpos.line) = true
 trees : backTo cpos (starEach [e, f] X.env) = [(false, eval e X.env), (false, eval f X.env)]
def IsD (H : Hp) (a : Addr) : Prop := (∃ kvs, Rd H a (.dK kvs)) ∨ ∃ kvs, Rd H a (.dT kvs)
theorem isD_at {X : Cx} {pins : List (Addr × Obj)} {σ : St} {H : Hp} {s : Shared} {a : Addr} (I : Inv X pins σ H s) (d : IsD H a) :
  s.TypeIs (.ref a) "dict" ∧ (∀ b, Value.ref a = .ref b → ∃ ob, s.heap.get? b = some ob ∧ ob.dict = none) ∧ (a == sysModules) = false := by
 rcases d with ⟨kvs, e⟩ | ⟨kvs, e⟩
 ·obtain ⟨_, hd, vs, _, dd⟩ := dk_rd I.hok e
  refine ⟨dd.typeIs, fun b q => ?_, hd⟩
  cases q
  obtain ⟨ob, _, _, h1, h2, _⟩ := dd
  exact ⟨ob, h1, h2.2.1⟩
 ·obtain ⟨_, hd, xs, _, dd⟩ := dt_rd I.hok e
  refine ⟨dd.typeIs, fun b q => ?_, hd⟩
  cases q
  obtain ⟨ob, _, _, h1, h2, _⟩ := dd
  exact ⟨ob, h1, h2.2.1⟩
section
variable {X : Cx} {pins : List (Addr × Obj)} {σ : St} {H : Hp} {s : Shared} {a : Addr} {y d : V} {u r : Value} {o : Option V} {A : Around} {E : Value → Shared → Prop}
theorem d_get1 {Q : Value → Shared → Prop} (hu : A.units + 1 < cLine) (I : Inv X pins σ H s) (g : DGet H a y o) (ry : RelV y u) (h : ∀ w' s', Inv X pins σ H s' → RelV (o.getD .non) w' → Q w' s') :
  wpAny (model X.prog X.w) A (call (.builtin "dict.get") [.ref a, u]) Q E s := by
 rcases g with ⟨kvs, k, e, ey, l⟩ | ⟨kvs, k, b, e, ey, eb, l⟩
 ·subst ey
  obtain ⟨z, hd, vs, rel, dd⟩ := dk_rd I.hok e
  refine call_meetsIn PySem.F.slot_dict_get dd.typeIs PySem.F.entry_dict_get (PySem.F.args_dict_get_2 _ _) (meets_dict_get (mixKind X.prog X.w) a (kV_is ry) hd) ⟨_, dd.mapOf, h _ _ (I.tok _) ?_⟩
  rw [l]
  exact (rel.val k).getD rfl
 ·subst ey
  cases (show u = Value.ref b from ry)
  obtain ⟨z, hd, xs, rel, dd⟩ := dt_rd I.hok e
  refine call_meetsIn PySem.F.slot_dict_get dd.typeIs PySem.F.entry_dict_get (PySem.F.args_dict_get_2 _ _) (meetsH_dict_get (tupleKind (mixKind X.prog X.w)) a b hd) ⟨tupleKind_room_in1 hu, k, xs, key_of I.hok eb, dd, h _ _ (I.tok _) ?_⟩
  rw [l]
  exact (rel.val k).getD rfl
theorem d_get2 {Q : Value → Shared → Prop} (hu : A.units + 1 < cLine) (I : Inv X pins σ H s) (g : DGet H a y o) (ry : RelV y u) (rd : RelV d r) (h : ∀ w' s', Inv X pins σ H s' → RelV (o.getD d) w' → Q w' s') :
  wpAny (model X.prog X.w) A (call (.builtin "dict.get") [.ref a, u, r]) Q E s := by
 rcases g with ⟨kvs, k, e, ey, l⟩ | ⟨kvs, k, b, e, ey, eb, l⟩
 ·subst ey
  obtain ⟨z, hd, vs, rel, dd⟩ := dk_rd I.hok e
  refine call_meetsIn PySem.F.slot_dict_get dd.typeIs PySem.F.entry_dict_get (PySem.F.args_dict_get_3 _ _ _) (meets_dict_get_default (mixKind X.prog X.w) a (kV_is ry) hd r) ⟨_, dd.mapOf, h _ _ (I.tok _) ?_⟩
  rw [l]
  exact (rel.val k).getD rd
 ·subst ey
  cases (show u = Value.ref b from ry)
  obtain ⟨z, hd, xs, rel, dd⟩ := dt_rd I.hok e
  refine call_meetsIn PySem.F.slot_dict_get dd.typeIs PySem.F.entry_dict_get (PySem.F.args_dict_get_3 _ _ _) (meetsH_dict_get_default (tupleKind (mixKind X.prog X.w)) a b hd r) ⟨tupleKind_room_in1 hu, k, xs, key_of I.hok eb, dd, h _ _ (I.tok _) ?_⟩
  rw [l]
  exact (rel.val k).getD rd
end
def tDGet1 (td ty : TE) : TE := fun σ H Q => td σ H fun x H1 => ∃ a, x = .ref a ∧ IsD H1 a ∧ ty σ H1 fun y H2 => ∃ o, DGet H2 a y o ∧ Q (o.getD .non) H2
def tDGet2 (td ty tx : TE) : TE := fun σ H Q => td σ H fun x H1 => ∃ a, x = .ref a ∧ IsD H1 a ∧ ty σ H1 fun y H2 => tx σ H2 fun z H3 => ∃ o, DGet H3 a y o ∧ Q (o.getD z) H3
section
variable {X : Cx} {o e f : Expr} {apos cpos : Pos} {td ty tx : TE}
theorem pe_dget1 (hu : X.A.units + 1 < cLine) (ho : PE X o td) (he : PE X e ty) (m : M1 X o "get" apos e cpos) : PE X (.Call (.Attribute o "get" apos) [e] [] cpos) (tDGet1 td ty) := by
 intro pins s σ H Q I h
 refine wpAny_Call_method m.base m.few m.line PySem.F.plainAttrs_dict PySem.F.slot_dict_get PySem.F.type_dict_get (thn (ho pins s σ H _ I h) fun u s1 ⟨x, H1, I1, rx, a, ex, d, q1⟩ => ?_)
 subst ex
 obtain rfl : u = Value.ref a := rx
 obtain ⟨t1, t2, _⟩ := isD_at I1 d
 refine ⟨t1, t2, ?_⟩
 rw [m.trees]
 refine Calls.callWith_builtin rfl (Calls.evalArgs_plain (Calls.spliced_cons (thn (he pins s1 σ H1 _ I1 q1) fun iv s2 ⟨y, H2, I2, ry, ov, g, q2⟩ => Calls.spliced_nil ?_)))
 exact d_get1 hu I2 g ry fun w' s3 I3 rw' => ⟨_, H2, I3, rw', q2⟩
theorem pe_dget2 (hu : X.A.units + 1 < cLine) (ho : PE X o td) (he : PE X e ty) (hf : PE X f tx) (m : M2 X o "get" apos e f cpos) : PE X (.Call (.Attribute o "get" apos) [e, f] [] cpos) (tDGet2 td ty tx) := by
 intro pins s σ H Q I h
 refine wpAny_Call_method m.base m.few m.line PySem.F.plainAttrs_dict PySem.F.slot_dict_get PySem.F.type_dict_get (thn (ho pins s σ H _ I h) fun u s1 ⟨x, H1, I1, rx, a, ex, d, q1⟩ => ?_)
 subst ex
 obtain rfl : u = Value.ref a := rx
 obtain ⟨t1, t2, _⟩ := isD_at I1 d
 refine ⟨t1, t2, ?_⟩
 rw [m.trees]
 refine Calls.callWith_builtin rfl (Calls.evalArgs_plain (Calls.spliced_cons (thn (he pins s1 σ H1 _ I1 q1) fun iv s2 ⟨y, H2, I2, ry, q2⟩ =>
  Calls.spliced_cons (thn (hf pins s2 σ H2 _ I2 q2) fun fv s3 ⟨z, H3, I3, rz, ov, g, q3⟩ => Calls.spliced_nil ?_))))
 exact d_get2 hu I3 g ry rz fun w' s4 I4 rw' => ⟨_, H3, I4, rw', q3⟩
end
section
variable {X : Cx} {pins : List (Addr × Obj)} {σ : St} {H : Hp} {s : Shared} {a : Addr} {kvs : List (Key × V)} {A : Around} {E : Value → Shared → Prop}
end
section
variable {X : Cx} {pins : List (Addr × Obj)} {σ : St} {H : Hp} {s : Shared} {a : Addr} {y : V} {u : Value} {A : Around} {E : Value → Shared → Prop}
end
end L2
namespace Att
open PySem PySem.W PySem.Calls PyProof.Rows
theorem ints_of_wellAll {P : Params} {h : Heap} : ∀ (ns : List Int) (vs : List Value), WellAll P h vs (ns.map WData.int) → IntsAre vs ns := by
 intro ns
 induction ns with
 | nil =>
  intro vs w
  rw [List.map_nil] at w
  cases w
  exact .nil
 | cons n ns ih =>
  intro vs w
  rw [List.map_cons] at w
  cases w with
  | cons a b =>
   cases a
   exact .cons _ _ (ih _ b)
theorem script_of {l : OpenLaw} {n : Nat} (hn : l.most = some n) {P : Params} {h : Heap} {args : List WData} {vals : List Value}
  (hpre : l.row.toRowW.claim.pre args = true) (hwl : WellAll P h vals args) :
  ∃ a vs ns, vals = [Value.ref a] ∧ args = [WData.list (ns.map WData.int)] ∧ h.get? a = some { cls := .type "list", data := .seq vs.toArray } ∧ IntsAre vs ns ∧ ns.length ≤ n := by
 have hsh : WShape.hasAll [] args [.list .int] = true := (pre_splitW hpre).1
 have hc : l.pre.holds [] { args := args } = true := (pre_splitW hpre).2
 obtain ⟨d, r, rfl, h1, h2⟩ := hasAllW_cons hsh
 obtain rfl := hasAllW_nil h2
 obtain ⟨xs, rfl, h3⟩ := hasW_list h1
 obtain ⟨ns, rfl⟩ := items_int h3
 have hlen : ns.length ≤ n := by
  unfold OpenLaw.pre at hc
  have h4 : (WTm.not (.lt (.lit (.int (n : Int))) (.len (.arg 0)))).holds [] { args := [.list (ns.map .int)] } = true := by
   have h4 := (holds_andW hc).1
   rw [hn] at h4
   exact h4
  have h5 := condW_of h4 (w_not (w_lt w_lit (w_len_list (w_arg rfl))))
  rw [List.length_map] at h5
  refine Nat.le_of_not_lt fun q => ?_
  have q' : (n : Int) < ((ns.length : Nat) : Int) := by omega
  first
   | (rw [decide_eq_true q'] at h5; exact absurd h5 (by decide))
   | (simp at h5; omega)
 cases hwl with
 | cons w1 w2 =>
  cases w2
  cases w1 with
  | list ho hall => exact ⟨_, _, ns, rfl, rfl, ho, ints_of_wellAll ns _ hall, hlen⟩
theorem post_true (l : OpenLaw) (args : List WData) : l.row.toRowW.claim.post args (.bool true) args = true :=
 postW_of (r := l.row.toRowW) (X := (true == true))
  (show WShape.has [] (.bool true) .bool = true by first | rfl | decide | simp [WShape.has, WShape.arms, WShape.armsAll])
  (show (WTm.eq .res (.lit (.bool true))).value [] { args := args, res := some (.bool true), after := args } = some (.bool (true == true)) from w_eq_bool (w_res rfl) w_lit) rfl
theorem attach_call {l : OpenLaw} {n : Nat} {q : Program} {loose : List Str} {XP : (Str → Option Value) → Heap → Prop} {YP : World → Heap → Prop} {d : DefRec}
  (hn : l.most = some n) (hdf : d.params.defaults = [])
  (call : ∀ (w : World) (s₀ s₁ : Shared) (mg mb : Str → Option Value) (fa : Addr) (o : Obj) (pm cd doc : Value) (a : Addr) (vs : List Value) (ns : List Int),
   Ground q loose [] XP w s₀ mg mb s₁.heap → YP w s₁.heap →
   s₁.heap.get? fa = some o → o.data = .func (docDef d.name d.params d.body d.scope pm cd doc) → s₁.heap.CodeRec cd d.name → mg d.name = some (.ref fa) →
   s₁.heap.get? a = some { cls := .type "list", data := .seq vs.toArray } → IntsAre vs ns → ns.length ≤ n → s₁.gens = #[] →
   codeAny (model l.prog w) callerA (.call (.ref fa) ⟨[.ref a], []⟩) (fun r s' => r = .ok (.ret (.bool true)) ∧ OldK s₁.heap s'.heap ∧ s'.os = s₁.os ∧ AllBare s'.gens) s₁) :
  WalkO q loose XP YP l.row.toRowW d [] (fun f vs => PySem.call f vs) := by
 intro w s₀ s₁ mg mb G Y fa o pm cd doc dV kV ho hd hcd hD hmg hg args vals as hpre hlay hrd hwl hlo
 obtain rfl : dV = .none := Dflts.none hD hdf
 obtain rfl : kV = .none := Dflts.noKw hD
 obtain ⟨a, vs, ns, rfl, rfl, hobj, hints, hlen⟩ := script_of hn hpre hwl
 refine enter_call (codeAny_mono (call w s₀ s₁ mg mb fa o pm cd doc a vs ns G Y ho (fd_plain hd) hcd hmg hobj hints hlen hg) fun r s' hq => ?_)
 obtain ⟨rfl, h2, h3, h4⟩ := hq
 exact ⟨.inl ⟨.bool true, .bool true, [], rfl, fun _ => rfl, .bool true, post_true l _, fun _ => ⟨List.Pairwise.nil, fun _ hm => (nomatch hm)⟩⟩, h2, h3, h4⟩
section
variable {prog : Program} {w : World} {A : Around} {E : Value → Shared → Prop} {s : Shared} {K : Frag}
end
end Att
namespace L2
open PySem PySem.Spec PyProof.Rows
theorem vals_ints : ∀ {vs : List Value} {ns : List Int}, IntsAre vs ns → Vals (ns.map V.int) vs
 | _, _, .nil => .nil
 | _, _, .cons n t h => .cons ⟨t, rfl⟩ (vals_ints h)
def Only (H : Hp) : Prop := ∀ b, H b = none ∨ ∃ o xs, H b = some (.frz o (.lst xs))
theorem law_call {P : Program} {w : World} {K : PySem.W.Frag} {mg mb : Str → Option Value} {CX : CXT} {k : Nat} {fa a : Addr} {fd : FuncData} {x : Str} {sp : Sp} {s₁ : Shared} {vs : List Value} {ns : List Int}
  (KX : K.In s₁.heap) (hns : s₁.heap.Ns mainGlobals mg) (hb : s₁.heap.Ns builtinsNs mb) (hbb : ∀ x : Str, x ≠ "__name__" → mb x = bootBuiltins x) (hlim : s₁.heap.NoLimit) (hg : s₁.gens = #[])
  (ha : s₁.heap.get? a = some { cls := .type "list", data := .seq vs.toArray }) (hi : IntsAre vs ns) (hl : ns.length ≤ sizeLine) (hr : Room k callerA)
  (F : ∀ base : Heap, K.In base → base.Ns mainGlobals mg → FnOk P w K mg base CX k fa fd [x] sp) (hbind : ∀ (s : Shared) (u : Value), BindsTo s fd ⟨[u], []⟩ [(x, u)])
  (hsp : ∀ H : Hp, Only H → SqL K H a (ns.map V.int) → sp [.ref a] H (fun v _ => v = .bl true) fun _ _ _ => False)
  (hCX : ∀ H e s', CX [] H s₁ (fun _ _ _ => False) e s' → False) :
  codeAny (model P w) callerA (.call (.ref fa) ⟨[.ref a], []⟩) (fun r s' => r = .ok (.ret (.bool true)) ∧ OldK s₁.heap s'.heap ∧ s'.os = s₁.os ∧ AllBare s'.gens) s₁ := by
 have rv := vals_ints hi
 have lenV := hi.length
 -- from an abstract heap in which nothing but the script may be tracked
 have core : ∀ H : Hp, Only H → SqL K H a (ns.map V.int) → HOk P w H s₁.heap → (∀ b, H b ≠ none → b = a) → (H a ≠ none → K.lookup a = none) →
   codeAny (model P w) callerA (.call (.ref fa) ⟨[.ref a], []⟩) (fun r s' => r = .ok (.ret (.bool true)) ∧ OldK s₁.heap s'.heap ∧ s'.os = s₁.os ∧ AllBare s'.gens) s₁ := by
  intro H hO hS hok hA hK
  have base_of : ∀ {b : Addr} {o : Obj}, s₁.heap.get? b = some o → H b = none → (hidT s₁.heap H).get? b = some o := fun e n => hidT_get e n
  have noA : ∀ {b : Addr} {o : Obj} {es : Array DictEntry} {ep : Nat}, s₁.heap.get? b = some o → o.data = .dict es ep → H b = none := fun {b o es ep} e d => by
   cases q : H b with
   | none => rfl
   | some u =>
    have e' : b = a := hA b (by rw [q]; simp)
    subst e'
    rw [ha] at e; cases e
    have d' : Data.seq vs.toArray _ = Data.dict es ep := d
    cases d'
  have nsK : ∀ {b : Addr} {m : Str → Option Value}, s₁.heap.Ns b m → (hidT s₁.heap H).Ns b m := fun {b m} ⟨o, es, ep, e, d, r⟩ => ⟨o, es, ep, base_of e (noA e d), d, r⟩
  have hKb : K.In (hidT s₁.heap H) := fun b o e => base_of (KX b o e) (by
   cases q : H b with
   | none => rfl
   | some u =>
    have e' : b = a := hA b (by rw [q]; simp)
    subst e'
    rw [hK (by rw [q]; simp)] at e; cases e)
  have hM : Mod K mg (hidT s₁.heap H) := ⟨hKb, nsK hns, ⟨mb, nsK hb, hbb⟩, let ⟨mc, h1, h2⟩ := hlim; ⟨mc, nsK h1, h2⟩⟩
  have e0 : Env0 P w K mg (hidT s₁.heap H) callerA [] s₁ H := ⟨rfl, hM, fun b o e => of_hidT e, Nat.le_of_eq (hidT_size _ _), trivial, fun b hb => absurd (show b ∈ ([] : List Addr) from hb) (by simp), hok, .of_eq hg⟩
  refine codeAny_mono ((F _ hKb (nsK hns)).run callerA [] s₁ H ⟨[.ref a], []⟩ [.ref a] [.ref a] _ _ hr e0 (hbind s₁ (.ref a)) (.cons rfl .nil) (hsp H hO hS)) fun r s' h => ?_
  cases r with
  | error e => exact (hCX H e s' h).elim
  | ok fl =>
   cases fl with
   | next => exact False.elim h
   | brk => exact False.elim h
   | cont => exact False.elim h
   | ret u =>
    obtain ⟨v, H', os, bare, un, hok', r', q⟩ := h
    have q' : v = .bl true := q
    subst q'
    obtain rfl : u = Value.bool true := r'
    refine ⟨rfl, OldK.of_keep fun b o e => ?_, os, bare⟩
    cases q : H b with
    | none => exact un.keep b o e q (by intro z; exact absurd (show b ∈ ([] : List Addr) from z) (by simp)) (by simp)
    | some u =>
     rcases hO b with z | ⟨ob, xs, z⟩
     ·rw [q] at z; cases z
     ·have z2 := un.frzs b ob _ z
      obtain ⟨e1, _⟩ := hok b _ z
      obtain ⟨e2, _⟩ := hok' b _ z2
      rw [e] at e1; cases e1
      exact e2
 cases hk : K.lookup a with
 | some o =>
  -- the script is one of the module's own objects
  have e := KX a o hk
  rw [ha] at e
  cases e
  refine core (fun _ => none) (fun _ => .inl rfl) (.inr ⟨_, vs.toArray, _, hk, rfl, rfl, rfl, by rw [List.size_toArray, lenV]; exact hl, by simpa using rv⟩) (fun b u z => by have z' : (none : Option HO) = some u := z; cases z') (fun b z => absurd rfl z) fun z => absurd rfl z
 | none =>
  refine core (fun b => if b = a then some (.frz { cls := .type "list", data := .seq vs.toArray } (.lst (ns.map V.int))) else none) (fun b => ?_) (.inl (.inr ⟨{ cls := .type "list", data := .seq vs.toArray }, if_pos rfl⟩)) (fun b u z => ?_) (fun b z => ?_) fun _ => hk
  ·by_cases hb : b = a
   ·exact .inr ⟨_, _, if_pos hb⟩
   ·exact .inl (if_neg hb)
  ·by_cases hb : b = a
   ·have z' := (if_pos hb).symm.trans z
    cases z'
    subst hb
    exact ⟨ha, by rw [List.length_map]; exact hl, vs, _, rv, ha⟩
   ·have z' := (if_neg hb).symm.trans z
    cases z'
  ·by_cases hb : b = a
   ·exact hb
   ·exact absurd (if_neg hb) z
abbrev KOf {K : PySem.W.Frag} {h : Heap} (_ : K.In h) : PySem.W.Frag := K
theorem walk_of {l : PySem.W.OpenLaw} {n k : Nat} {q : Program} {loose : List Str} {XP : (Str → Option Value) → Heap → Prop} {YP : World → Heap → Prop} {d : DefRec} {K : Params → PySem.W.Frag} {CX : World → CXT} {sp : World → Sp} {x : Str}
  (hn : l.most = some n) (hn2 : n ≤ sizeLine) (hdf : d.params.defaults = []) (hr : Room k callerA)
  (hY : ∀ (w : World) (h : Heap), YP w h → (K w.params).In h)
  (F : ∀ (w : World) (mg : Str → Option Value) (fa : Addr) (h : Heap), (K w.params).In h → h.Ns mainGlobals mg → mg d.name = some (.ref fa) →
   ∃ fd : FuncData, (∀ (s : Shared) (u : Value), BindsTo s fd ⟨[u], []⟩ [(x, u)]) ∧
    ∀ base : Heap, (K w.params).In base → base.Ns mainGlobals mg → FnOk l.prog w (K w.params) mg base (CX w) k fa fd [x] (sp w))
  (hsp : ∀ (w : World) (H : Hp) (a : Addr) (ns : List Int), ns.length ≤ n → Only H → SqL (K w.params) H a (ns.map V.int) → sp w [.ref a] H (fun v _ => v = .bl true) fun _ _ _ => False)
  (hCX : ∀ (w : World) (H : Hp) (s : Shared) (e : Value) (s' : Shared), CX w [] H s (fun _ _ _ => False) e s' → False) :
  PySem.W.WalkO q loose XP YP l.row.toRowW d [] (fun f vs => PySem.call f vs) := by
 refine Att.attach_call hn hdf fun w s₀ s₁ mg mb fa o pm cd doc a vs ns G Y ho hd hcd hmg hobj hints hlen hg => ?_
 have KX := hY w _ Y
 obtain ⟨fd, hb, hF⟩ := F w mg fa _ KX G.T.g hmg
 exact law_call KX G.T.g G.T.b G.T.builtins G.T.nolimit hg hobj hints (Nat.le_trans hlen hn2) hr hF hb (fun H hO hS => hsp w H a ns hlen hO hS) fun H e s' => hCX w H s₁ e s'
end L2
namespace L2
open PySem PySem.Spec PyProof.Rows
def inClass (s : Stmt) (j : Nat) : Stmt := match s with
 | .ClassDef _ _ _ body _ _ _ _ _ _ _ => body.getD j (.Pass ⟨0, 0, 0, 0⟩)
 | _ => .Pass ⟨0, 0, 0, 0⟩
def defArgs (s : Stmt) : Arguments := match s with
 | .FunctionDef _ a _ _ _ _ _ _ _ _ => a
 | _ => { posonlyargs := [], args := [], vararg := none, kwonlyargs := [], kw_defaults := [], kwarg := none, defaults := [] }
def defBody (s : Stmt) : List Stmt := match s with
 | .FunctionDef _ _ b _ _ _ _ _ _ _ => b
 | _ => []
def defScope (s : Stmt) : Scope := match s with
 | .FunctionDef _ _ _ _ _ _ sc _ _ _ => sc
 | _ => { kind := .function, names := [], isGenerator := false, isCoroutine := false }
abbrev CX0 : CXT := fun _ _ _ _ _ _ => False
abbrev E0 : XK := fun _ _ _ => False
theorem pass0 {X : Cx} : Passes CX0 X E0 := fun _ _ _ _ _ _ _ h => h.elim
structure Fun (K : PySem.W.Frag) (x qual : Str) (st : Stmt) (f : Addr) (fd : FuncData) : Prop where
 ex : ∃ (oc : Value) (od : Option Addr) (kV doc pm : Value) (an : Option Addr) (cdv ct : Value) (osl : Array (Option Value)),
  fd = PySem.W.fnOf x qual (defArgs st) (defBody st) (defScope st) .none kV doc pm an cdv ct ∧ K.lookup f = some ⟨oc, od, .func fd, osl⟩ ∧ PySem.W.codeIn K cdv qual = true
 kp : PySem.W.keepIn K (.ref f) = true
section
variable {P : Program} {w : World} {K : PySem.W.Frag} {mg : Str → Option Value} {base : Heap}
theorem Fun.ok {x qual : Str} {st : Stmt} {f : Addr} {fd : FuncData} {N ps : List Str} {k : Nat} {sp : Sp} (F : Fun K x qual st f fd) (S : FnScope N ps (defScope st)) (len : ∀ vs H Q E, sp vs H Q E → vs.length = ps.length)
  (hbody : ∀ (cdv : Value) (A : Around) (outer : List Env) (s : Shared) (H : Hp) (vs : List V) (Q : VK) (E : XK), Room k (A.deeper (envOfC qual (defScope st) s.heap.objs.size f cdv)) → sp vs H Q E →
   ∃ t, PSs (cxOf CX0 P w K mg base N qual (defScope st) f cdv A outer s H E).nox (defBody st) t ∧ t { nx := fun _ H' => Q .non H', rt := Q } (start N vs) H) : FnOk P w K mg base CX0 (k + 1) f fd ps sp := by
 obtain ⟨oc, od, kV, doc, pm, an, cdv, ct, osl, rfl, lk, hcd⟩ := F.ex
 refine fn_of lk hcd S len fun A outer s H vs Q E hr hsp => ?_
 obtain ⟨t, h, q⟩ := hbody cdv A outer s H vs Q E hr hsp
 exact ⟨t, h.nox, q⟩
theorem Fun.binds {x qual : Str} {st : Stmt} {f : Addr} {fd : FuncData} {ps : List Str} (F : Fun K x qual st f fd)
  (h : ∀ (kV doc pm : Value) (an : Option Addr) (cdv ct : Value) (us : List Value), us.length = ps.length → bindArgs (PySem.W.fnOf x qual (defArgs st) (defBody st) (defScope st) .none kV doc pm an cdv ct) ⟨us, []⟩ = pure (ps.zip us)) : Binds K fd ps [] := by
 obtain ⟨oc, od, kV, doc, pm, an, cdv, ct, osl, rfl, lk, hcd⟩ := F.ex
 exact .all (h kV doc pm an cdv ct)
theorem fun_mk {x qual : Str} {st : Stmt} {f : Addr} {oc : Value} {od an : Option Addr} {osl : Array (Option Value)} {kV doc pm cdv ct : Value} (l : K.lookup f = some ⟨oc, od, .func (PySem.W.fnOf x qual (defArgs st) (defBody st) (defScope st) .none kV doc pm an cdv ct), osl⟩)
  (c : PySem.W.codeIn K cdv qual = true) (k : PySem.W.keepIn K (.ref f) = true) : Fun K x qual st f (PySem.W.fnOf x qual (defArgs st) (defBody st) (defScope st) .none kV doc pm an cdv ct) := ⟨⟨oc, od, kV, doc, pm, an, cdv, ct, osl, rfl, l, c⟩, k⟩
end
theorem hu_of {A : Around} {k : Nat} (hr : Room k A) : A.units + 1 < cLine := Nat.lt_of_le_of_lt (Nat.add_le_add_left (by decide : 1 ≤ 64) _) hr.units
theorem small1000 {n : Nat} (h : n ≤ 1000) : n < sizeLine := Nat.lt_of_le_of_lt h (by decide)
section
variable {X : Cx}
theorem pv (i : Nat) {x : Str} {pos : Pos} (hN : X.N[i]? = some x := by rfl) (hv : Vis X.env.scope x := by first | exact Or.inl rfl | exact Or.inr (Or.inl rfl) | exact Or.inr (Or.inr rfl)) (hd : (x == ("__debug__" : Str)) = false := by decide)
  (hcd : (x == ("__classdict__" : Str)) = false := by decide) : PE X (.Name x pos) (tVar i) := pe_var hN hv hd hcd
end
theorem iteF {A B : Prop} (h : B) : if false = true then A else B := by
 rw [if_neg Bool.false_ne_true]
 exact h
theorem iteT {A B : Prop} (h : A) : if true = true then A else B := by
 rw [if_pos rfl]
 exact h
theorem ite2 {c A B : Prop} [Decidable c] (h1 : c → A) (h2 : ¬ c → B) : if c then A else B := by
 by_cases h : c
 ·rw [if_pos h]
  exact h1 h
 ·rw [if_neg h]
  exact h2 h
def Same (H H' : Hp) : Prop := ∀ b o, H b = some o → H' b = some o
theorem Same.refl (H : Hp) : Same H H := fun _ _ h => h
theorem Same.trans {H H1 H2 : Hp} (a : Same H H1) (b : Same H1 H2) : Same H H2 := fun c o h => b c o (a c o h)
theorem Same.free {H H' : Hp} (e : Same H H') {l : Addr} (h : H' l = Option.none) : H l = Option.none := by
 cases q : H l with
 | none => rfl
 | some o =>
  rw [e l o q] at h
  cases h
section
variable {X : Cx}
end
section
variable {κ : Type} [DecidableEq κ]
end
def Its (z : Str) : It := ⟨fun i _ => i < z.cps.size, fun i H x H' => H' = H ∧ ∃ c, z.cps[i]? = some c ∧ x = .str ⟨#[c]⟩, fun i _ => i = z.cps.size⟩
theorem walks_str {prog : Program} {w : World} {A : Around} (hh : A.handled = none) (I : Addr) (x : Str) (t : Tok) :
  Walks prog w A I [I] [I] x.cps.size (SignAt x) (fun i h => h.IsStrIter I (strIterType x) x t i) := by
 unfold strIterType
 cases x.cps.all (· < 128) with
 | true => exact Walks.strAscii hh I x t
 | false => exact Walks.strWide hh I x t
theorem strIter_plain (x : Str) : ["enumerate", "zip", "dict_itemiterator", "dict_reverseitemiterator", "odict_iterator", "itertools.zip_longest", "itertools.pairwise"].contains (strIterType x) = false := by
 unfold strIterType
 cases x.cps.all (· < 128) with
 | true => decide
 | false => decide
theorem turn_str {P : Program} {w : World} {K : PySem.W.Frag} {tg : Expr} (it : Addr) (z : Str) (t : Tok) : Turn P w K tg (Its z) [it] it (fun i h => h.IsStrIter it (strIterType z) z t i) where
 mem := by simp
 obj := fun i h st b hb => by
  have e : b = it := by simpa using hb
  subst e
  obtain ⟨o, e, c, d⟩ := st
  exact ⟨o, e, fun v z => by rw [d] at z; cases z⟩
 keep := fun i h h' st k => by
  obtain ⟨o, e, r⟩ := st
  exact ⟨o, k it (by simp) o e, r⟩
 item := by
  intro X hP hw hK hc i pins s σ H E I hf st hg
  subst hP hw hK
  obtain ⟨f0, f1, f2, f3, f4, f5⟩ := hf it (by simp)
  have W := walks_str (prog := X.prog) (w := X.w) (I.ok.hd hc) it z t
  refine W.item i s _ _ hg st fun v h' tk hv st' kk => ?_
  obtain ⟨c, u, hc', rfl⟩ := hv
  have I1 : Inv X pins σ H { s with heap := h', toks := tk } := I.turned (fun b o hb e => kk b o (by simpa using hb) e) f0 f1 f3 f4 f5
  obtain ⟨o, e, c1, d1⟩ := id st'
  exact ⟨_, rfl, go_of (s := { s with heap := h', toks := tk }) e c1 d1 (strIter_plain z) ⟨.str ⟨#[c]⟩, H, I1, ⟨u, rfl⟩, ⟨rfl, c, hc', rfl⟩, st', fun b hb => (hf b hb).1⟩⟩
 done := by
  intro X hP hw hK hc i pins s σ H E I hf st hg
  subst hP hw hK
  obtain ⟨f0, f1, f2, f3, f4, f5⟩ := hf it (by simp)
  have W := walks_str (prog := X.prog) (w := X.w) (I.ok.hd hc) it z t
  have e : i = z.cps.size := hg
  subst e
  exact W.done s _ _ st fun h' tk kk => ⟨rfl, I.turned (fun b o hb e => kk b o (by simpa using hb) e) f0 f1 f3 f4 f5⟩
 self := fun A i s Q E st h => by
  unfold strIterType at st
  cases hx : z.cps.all (· < 128) with
  | true => rw [hx] at st; exact wpAny_pyIter_striter_ascii st h
  | false => rw [hx] at st; exact wpAny_pyIter_striter_wide st h
section
variable {X : Cx} {tg : Expr}
def iStr (tl : TE) : TI := fun σ H R => tl σ H fun x H1 => ∃ z, x = .str z ∧ R (Its z) H1
theorem pi_str {l : Expr} {tl : TE} (hl : PE X l tl) : PI X tg l (iStr tl) := by
 intro pins s σ H R I h
 refine thn (hl pins s σ H _ I h) fun v s1 ⟨x, H1, I1, r1, q1⟩ => ?_
 obtain ⟨z, e, q⟩ := q1
 subst e
 obtain ⟨t, rfl⟩ := r1
 refine wpAny_pyIter_strU ?_
 have I2 : Inv X pins σ H1 { s1 with heap := s1.heap.push { cls := .type (strIterType z), data := .fields #[.str z t, .int 0 0] } } := I1.kept (t' := s1.toks) fun b o e => Heap.get?_push_of_some _ e
 refine ⟨s1.heap.objs.size, [s1.heap.objs.size], _, Its z, H1, rfl, I2, turn_str s1.heap.objs.size z t, ⟨_, Heap.get?_push_size _ rfl, rfl, rfl⟩, fun b hb => ?_, q⟩
 have e : b = s1.heap.objs.size := by simpa using hb
 subst e
 exact I1.fpOk (Nat.le_refl _) (I1.hok.fresh (Nat.le_refl _))
end
def frees (scope : Scope) : List Str := (scope.names.filter fun p => p.2 == .free).map (·.1)
def clOf (scope : Scope) (env : Env) : List (Str × Addr) := (frees scope).reverse.map fun n => (n, (env.cells.lookup n).getD 0)
theorem clos_go (env : Env) : ∀ (names : List (Str × NameKind)) (cs : List (Str × Addr)), (∀ n ∈ (names.filter fun p => p.2 == .free).map (·.1), ∃ c, env.cells.lookup n = some c) →
  (forIn names cs fun (x : Str × NameKind) (r : List (Str × Addr)) => (if x.2 == .free then do let c ← cellOf env x.1; pure (ForInStep.yield ((x.1, c) :: r)) else pure (ForInStep.yield r) : Sem (ForInStep (List (Str × Addr))))) =
   pure ((((names.filter fun p => p.2 == .free).map (·.1)).reverse.map fun n => (n, (env.cells.lookup n).getD 0)) ++ cs)
 | [], cs, _ => rfl
 | (n, k) :: r, cs, h => by
  rw [List.forIn_cons]
  cases hk : (k == NameKind.free) with
  | false =>
   have h' : ∀ m ∈ (r.filter fun p => p.2 == .free).map (·.1), ∃ c, env.cells.lookup m = some c := fun m hm => h m (by simpa [List.filter_cons, hk] using hm)
   have ih := clos_go env r cs h'
   simp only [hk, Bool.false_eq_true, if_false, List.filter_cons, pure_bind]
   exact ih
  | true =>
   obtain ⟨c, hc⟩ := h n (by simp [List.filter_cons, hk])
   have h' : ∀ m ∈ (r.filter fun p => p.2 == .free).map (·.1), ∃ c, env.cells.lookup m = some c := fun m hm => h m (by
    simp only [List.filter_cons, hk, if_true, List.map_cons]
    exact List.mem_cons_of_mem _ hm)
   have ih := clos_go env r ((n, c) :: cs) h'
   have ec : cellOf env n = pure c := by unfold cellOf; rw [hc]
   simp only [hk, if_true, List.filter_cons, List.map_cons, List.reverse_cons, List.map_append, List.map_nil, List.append_assoc, List.cons_append, List.nil_append, ec, pure_bind, hc, Option.getD_some]
   exact ih
theorem closureFor_some {scope : Scope} {env : Env} (h : ∀ n ∈ frees scope, ∃ c, env.cells.lookup n = some c) : closureFor scope env = pure (clOf scope env) := by
 have e := clos_go env scope.names [] h
 rw [List.append_nil] at e
 have q : closureFor scope env = ((forIn scope.names ([] : List (Str × Addr)) fun (x : Str × NameKind) (r : List (Str × Addr)) => (if x.2 == .free then do let c ← cellOf env x.1; pure (ForInStep.yield ((x.1, c) :: r)) else pure (ForInStep.yield r) : Sem (ForInStep (List (Str × Addr))))) >>= fun r => pure r) := rfl
 rw [q, bind_pure]
 exact e
theorem lookup_pairs {β : Type} (g : Str → β) (y : Str) : ∀ l : List Str, (l.map fun n => (n, g n)).lookup y = if y ∈ l then some (g y) else none
 | [] => by simp
 | n :: r => by
  have ih := lookup_pairs g y r
  rw [List.map_cons, List.lookup_cons]
  cases e : (y == n) with
  | true =>
   have e' : y = n := eq_of_beq e
   subst e'
   simp
  | false =>
   have e' : y ≠ n := fun q => by rw [q] at e; simp at e
   show (r.map fun n => (n, g n)).lookup y = _
   rw [ih]
   simp [e']
theorem clOf_lookup {scope : Scope} {env : Env} (h : ∀ n ∈ frees scope, ∃ c, env.cells.lookup n = some c) {y : Str} {c : Addr} : (clOf scope env).lookup y = some c ↔ y ∈ frees scope ∧ env.cells.lookup y = some c := by
 unfold clOf
 rw [lookup_pairs (fun n => (env.cells.lookup n).getD 0)]
 by_cases hy : y ∈ frees scope
 ·obtain ⟨d, hd⟩ := h y hy
  rw [if_pos (List.mem_reverse.mpr hy), hd]
  simp [hy]
 ·rw [if_neg fun q => hy (List.mem_reverse.mp q)]
  simp [hy]
theorem lookup_kinds (f : Str → NameKind → NameKind) (y : Str) : ∀ names : List (Str × NameKind), (names.map fun p => (p.1, f p.1 p.2)).lookup y = (names.lookup y).map (f y)
 | [] => rfl
 | (n, k) :: r => by
  have ih := lookup_kinds f y r
  rw [List.map_cons, List.lookup_cons, List.lookup_cons]
  cases e : (y == n) with
  | true =>
   have e' : y = n := eq_of_beq e
   subst e'
   rfl
  | false => exact ih
theorem relabel_lookup (scope : Scope) (env : Env) (y : Str) : (relabel scope env).names.lookup y = (scope.names.lookup y).map fun k => if (k == .free && env.scope.kind == .function && env.kindOf y == some .cell) = true then NameKind.cell else k := by
 have e : (relabel scope env).names = scope.names.map fun p => (p.1, (fun (n : Str) (k : NameKind) => if (k == .free && env.scope.kind == .function && env.kindOf n == some .cell) = true then NameKind.cell else k) p.1 p.2) := by
  unfold relabel
  refine List.map_congr_left fun p _ => ?_
  obtain ⟨n, k⟩ := p
  show (if (k == .free && env.scope.kind == .function && env.kindOf n == some .cell) = true then (n, NameKind.cell) else (n, k)) = _
  split <;> simp_all
 rw [e]
 exact lookup_kinds (fun (n : Str) (k : NameKind) => if (k == .free && env.scope.kind == .function && env.kindOf n == some .cell) = true then NameKind.cell else k) y scope.names
structure CompSc (X : Cx) (scope : Scope) (x : Str) (fs : List Str) (fr : List Nat) : Prop where
 kind : scope.kind = .function
 loc : scope.names.lookup x = some .local
 names : ∀ y ∈ scope.names, y.2 = .local → scope.names.lookup y.1 = some .local
 nocell : ∀ y ∈ scope.names, y.2 ≠ .cell
 free : ∀ n ∈ frees scope, X.env.kindOf n = some .cell ∧ scope.names.lookup n = some .free
 nd : (x :: fs).Nodup
 len : fr.length = fs.length
 slots : ∀ (j : Nat) (y : Str) (k : Nat), fs[j]? = some y → fr[j]? = some k → X.N[k]? = some y ∧ y ∈ frees scope
abbrev compX (X : Cx) (N' : List Str) (scope : Scope) (C : Addr) (s : Shared) (H : Hp) (ex : List Addr) : Cx :=
 { X with N := N', s₀ := s, H₀ := H, env := compEnvC scope (clOf scope X.env) C X.env, outer := X.stack, stack := X.stack, ex := ex, fn := fun _ => false, pn := [], xe := fun _ _ => False }
def CT (X : Cx) (ifs : List Expr) (tt : TT) : Prop :=
 ∀ (pins : List (Addr × Obj)) (s : Shared) (σ : St) (H : Hp) (Q : Bool → Hp → Prop), Inv X pins σ H s → tt σ H Q →
  wpAny (model X.prog X.w) X.A (forIn ifs true fun c r => if r = true then do let ok ← isTrue c X.env (eval c X.env); pure (ForInStep.yield ok) else pure (ForInStep.yield r)) (TP X pins σ Q) X.xe s
def tTrue : TT := fun _ H Q => Q true H
theorem ct_nil {X : Cx} : CT X [] tTrue := fun _ _ _ H _ I h => wpAny_tests_nil ⟨H, I, h⟩
theorem ct_one {X : Cx} {c : Expr} {tc : TT} (h : PT X c tc) : CT X [c] tc := fun pins s σ H Q I hq => wpAny_tests_one (h pins s σ H Q I hq)
def slotsOf (fr : List Nat) (σ : St) : St := fr.map fun k => (σ[k]?).getD none
def tComp (wi : TI) (fr : List Nat) (tt : TT) (te : TE) : TE := fun σ H Q => wi σ H fun J H1 => ∃ W : Nat → Nat → List V → Hp → Prop, (∃ m, W 0 m [] H1) ∧ ∀ i m ys H2, W i m ys H2 →
 (J.stop i H2 ∧ ys.length ≤ sizeLine ∧ ∀ l, H2 l = none → Q (.ref l) (upd H2 l (.lst ys))) ∨
 (J.go i H2 ∧ ys.length < sizeLine ∧ ∀ v H3, J.yld i H2 v H3 → tt (some v :: slotsOf fr σ) H3 fun b H4 =>
  if b = true then te (some v :: slotsOf fr σ) H4 (fun y H5 => ∃ m', m' < m ∧ W (i + 1) m' (ys ++ [y]) H5) else ∃ m', m' < m ∧ W (i + 1) m' ys H4)
section
variable {X : Cx}
theorem isCell_keep {h h' : Heap} {c : Addr} {v : Option Value} (k : ∀ b o, h.get? b = some o → h'.get? b = some o) (z : h.IsCell c v) : h'.IsCell c v := by
 obtain ⟨o, e, d⟩ := z
 exact ⟨o, k _ _ e, d⟩
theorem Inv.adopt {pins : List (Addr × Obj)} {σ : St} {H : Hp} {s : Shared} {D : Addr} {ys : List V} {vs : List Value} {k : Nat} (I : Inv X pins σ H s) (hn : H D = none) (e : s.heap.get? D = some { cls := .type "list", data := .seq vs.toArray k }) (r : Vals ys vs) (hz : ys.length ≤ sizeLine)
  (h1 : X.s₀.heap.objs.size ≤ D) (hL : D ≠ X.env.locals) (h2 : ∀ x c, X.env.cells.lookup x = some c → c ≠ D) (h3 : ∀ p ∈ X.pn ++ pins, p.1 ≠ D) : Inv X pins σ (upd H D (.lst ys)) s := by
 have nD : ∀ b u, H b = some u → b ≠ D := fun b u q z => by rw [z, hn] at q; cases q
 have hok : HOk X.prog X.w (upd H D (.lst ys)) s.heap := fun b u q => by
  by_cases hb : b = D
  ·subst hb
   rw [upd_same] at q
   cases q
   exact ⟨hz, vs, k, r, e⟩
  ·rw [upd_ne hb] at q
   exact (I.hok b u q).stay (fun _ _ _ z => z) (fun c z => by rw [upd_ne (nD c _ z)]; exact z) fun c xs z => by rw [upd_ne (nD c _ z)]; exact z
 have J := I.step (H' := upd H D (.lst ys)) (h' := s.heap) (g' := s.gens) (t' := s.toks) (d' := s.drawn) (ch := [D])
  (fun b hb => by
   have e' : b = D := by simpa using hb
   subst e'
   exact ⟨.inr h1, hL, h2, h3⟩)
  (fun b o _ _ _ q _ => q) (fun b o _ _ _ q _ => ⟨o.slots, q⟩) (fun b o hc _ n => by rw [upd_ne fun z => hc (by simp [z])]; exact n) (fun b o _ q => ⟨o, q⟩)
  (fun b xs q => by rw [upd_ne (nD b _ q)]; exact q) (fun b o u q => by rw [upd_ne (nD b _ q)]; exact q) (fun b ps q => ⟨#[], by rw [upd_ne (nD b _ q), q]; simp⟩) (fun m hm => hm) hok I.bare
 exact J
theorem comp_ok {pins : List (Addr × Obj)} {σ : St} {H : Hp} {s : Shared} {scope : Scope} {x : Str} {fs : List Str} {fr : List Nat} {D : Addr} {fp : List Addr} {s2 : Shared} (S : CompSc X scope x fs fr) (I2 : Inv X pins σ H s2) (I3 : Inv X pins σ H s)
  (hD : D = s2.heap.objs.size) (hs : s.heap.objs.size = D + 1) (hlt : ∀ b ∈ fp, b < D) (f2 : ∀ b ∈ fp, FpOk X pins H b) : (compX X (x :: fs) scope s.heap.objs.size s H (D :: fp)).Ok := by
 have hcl : ∀ n ∈ frees scope, ∃ c, X.env.cells.lookup n = some c := fun n hn => I3.ok.has n (.inl (S.free n hn).1)
 have sub : ∀ {y : Str} {c : Addr}, (clOf scope X.env).lookup y = some c → X.env.cells.lookup y = some c := fun h => ((clOf_lookup hcl).mp h).2
 refine ⟨I3.ok.mod, S.kind, I3.ok.glob, I3.ok.blt, Nat.le_refl _, fun a b c h1 h2 => I3.ok.inj a b c (sub h1) (sub h2), fun y hy => ?_, (fun _ _ h => by cases h), I3.ok.hd, I3.ok.frames, .inl rfl, fun b hb => ?_, I3.bs, Nat.le_trans I3.ok.bsz I3.sz, fun b o e hb => ?_, fun b hb hf => ?_, I3.stack, I3.stkFree⟩
 ·have q : (relabel scope X.env).names.lookup y = some .cell ∨ (relabel scope X.env).names.lookup y = some .free := hy
  have nf : scope.names.lookup y = some .free := by
   rw [relabel_lookup] at q
   cases e : scope.names.lookup y with
   | none => rw [e] at q; simp at q
   | some k =>
    rw [e] at q
    cases k with
    | free => rfl
    | cell =>
     have hm : (y, NameKind.cell) ∈ scope.names := by
      have := List.lookup_eq_some_iff.mp e
      obtain ⟨l1, l2, z, _⟩ := this
      rw [z]
      simp
     exact absurd rfl (S.nocell _ hm)
    | _ => simp at q
  have hm : y ∈ frees scope := by
   obtain ⟨l1, l2, z, _⟩ := List.lookup_eq_some_iff.mp nf
   unfold frees
   rw [z]
   simp
  obtain ⟨c, hc⟩ := hcl y hm
  exact ⟨c, (clOf_lookup hcl).mpr ⟨hm, hc⟩⟩
 ·rcases List.mem_cons.mp hb with rfl | hb
  ·refine ⟨fun z => ?_, fun y c h z => ?_⟩
   ·exact absurd (hs.symm.trans z.symm : b + 1 = b) (Nat.succ_ne_self b)
   ·obtain ⟨v, q⟩ := I2.cell y c (sub h)
    have := q.lt
    rw [z, hD] at this
    exact absurd this (Nat.lt_irrefl _)
  ·refine ⟨fun z => ?_, fun y c h => (f2 b hb).2.2.2.2.1 y c (sub h)⟩
   have q : b < D + 1 := Nat.lt_succ_of_lt (hlt b hb)
   rw [z] at q
   exact absurd q (by show ¬ s.heap.objs.size < D + 1; rw [hs]; exact Nat.lt_irrefl _)
 ·have hb' : b < X.base.objs.size := Heap.lt_size e
  have h1 := I2.ok.bsz
  have h2 := I2.sz
  rcases List.mem_cons.mp hb with rfl | hb
  ·rw [hD] at hb'
   exact absurd (Nat.lt_of_lt_of_le hb' (Nat.le_trans h1 h2)) (Nat.lt_irrefl _)
  ·rcases (f2 b hb).2.2.2.1 with z | z
   ·exact I2.ok.noex b o e z
   ·exact absurd (Nat.lt_of_lt_of_le hb' (Nat.le_trans h1 z)) (Nat.lt_irrefl _)
 ·have hf' : b ∈ frs X.stack := hf
  rcases List.mem_cons.mp (I2.stkSub b hf') with z | z
  ·rcases List.mem_cons.mp hb with rfl | hb
   ·have := I2.lt
    rw [← z, hD] at this
    exact absurd this (Nat.lt_irrefl _)
   ·exact (f2 b hb).2.1 z
  ·rcases List.mem_cons.mp hb with rfl | hb
   ·exact I2.nofs (Nat.le_of_eq hD.symm) z
   ·exact (f2 b hb).2.2.1 z
theorem comp_inv {pins : List (Addr × Obj)} {σ : St} {H : Hp} {s : Shared} {scope : Scope} {x : Str} {fs : List Str} {fr : List Nat} {ex : List Addr} {h4 : Heap} {m : Str → Option Value} {t : Nat} (S : CompSc X scope x fs fr) (I3 : Inv X pins σ H s)
  (ok : (compX X (x :: fs) scope s.heap.objs.size s H ex).Ok) (hn : h4.Ns s.heap.objs.size m) (old : ∀ b o, s.heap.get? b = some o → h4.get? b = some o) :
  Inv (compX X (x :: fs) scope s.heap.objs.size s H ex) [] (none :: slotsOf fr σ) H { s with heap := h4, toks := t } := by
 have hcl : ∀ n ∈ frees scope, ∃ c, X.env.cells.lookup n = some c := fun n hn => I3.ok.has n (.inl (S.free n hn).1)
 have sub : ∀ {y : Str} {c : Addr}, (clOf scope X.env).lookup y = some c → X.env.cells.lookup y = some c := fun h => ((clOf_lookup hcl).mp h).2
 refine ⟨ok, rfl, I3.bare, Un.kept old, ⟨m, hn, fun i y v e1 e2 e3 => ?_⟩, fun y c h => ?_, I3.hok.fresh (Nat.le_refl _), fun y c h => I3.freeC y c (sub h), fun p hp => absurd hp (by simp), I3.hok.kept old, ?_⟩
 ·cases i with
  | zero =>
   have e2' : (none : Option V) = some v := by simpa using e2
   cases e2'
  | succ j =>
   have e1' : fs[j]? = some y := by simpa using e1
   have e2' : (slotsOf fr σ)[j]? = some (some v) := by simpa using e2
   unfold slotsOf at e2'
   rw [List.getElem?_map] at e2'
   cases hk : fr[j]? with
   | none => rw [hk] at e2'; cases e2'
   | some k =>
    rw [hk] at e2'
    have e4 : (σ[k]?).getD none = some v := by simpa using e2'
    have e5 : σ[k]? = some (some v) := by
     cases q : σ[k]? with
     | none => rw [q] at e4; cases e4
     | some z => rw [q] at e4; exact congrArg some e4
    obtain ⟨n1, n2⟩ := S.slots j y k e1' hk
    obtain ⟨m0, _, hl⟩ := I3.loc
    obtain ⟨u, ru, l⟩ := hl k y v n1 e5 (.inr (.inl (S.free y n2).1))
    have kc := (S.free y n2).1
    rcases l with ⟨l, _⟩ | ⟨_, c, hc, cl⟩
    ·rw [kc] at l; cases l
    ·refine ⟨u, ru, .inr ⟨.inl ?_, c, (clOf_lookup hcl).mpr ⟨n2, hc⟩, isCell_keep old cl⟩⟩
     show (relabel scope X.env).names.lookup y = some .cell
     have kf : X.env.scope.kind = .function := I3.ok.kind
     rw [relabel_lookup, (S.free y n2).2, kf, kc]
     rfl
 ·obtain ⟨v, z⟩ := I3.cell y c (sub h)
  exact ⟨v, isCell_keep old z⟩
 ·show (none :: slotsOf fr σ).length = (x :: fs).length
  simp [slotsOf, S.len]
abbrev lobj (vs : List Value) (k : Nat) : Obj := { cls := .type "list", data := .seq vs.toArray k }
theorem pe_compG {elt iter : Expr} {x : Str} {px : Pos} {ifs : List Expr} {scope : Scope} {pos : Pos} {wi : TI} {fs : List Str} {fr : List Nat} {tt : TT} {te : TE} (hc : X.calm = true) (S : CompSc X scope x fs fr) (hi : PI X (.Name x px) iter wi)
  (ht : ∀ C s H ex, CT (compX X (x :: fs) scope C s H ex) ifs tt) (he : ∀ C s H ex, PE (compX X (x :: fs) scope C s H ex) elt te) (hs : ∀ z, foldedSetIterable iter X.env z = pure z := by intro _; rfl) :
  PE X (.ListComp elt [⟨.Name x px, iter, ifs, 0⟩] scope pos) (tComp wi fr tt te) := by
 intro pins s σ H Q I h
 rw [eval_ListComp]
 refine wpAny_comprehension_free (use := none) rfl hs (closureFor_some fun n hn => I.ok.has n (.inl (S.free n hn).1)) S.kind S.names ?_
 refine thn (hi pins s σ H _ I h) fun v s1 h1 => thn h1 fun itv s2 h2 => ?_
 obtain ⟨it, fp, tn, J, H2, e, I2, T, st2, f2, W, ⟨m0, w0⟩, turn⟩ := h2
 subst e
 have hlt : ∀ b ∈ fp, b < s2.heap.objs.size := fun b hb => by
  obtain ⟨o, e, _⟩ := T.obj 0 _ st2 b hb
  exact Heap.lt_size e
 refine wpAny_newObj_type (wpAny_newFunctionEnv S.nocell (by intro y hy; simp at hy) (fun h4 hns4 hsb4 => ?_) S.kind)
 dsimp only at hns4 hsb4 ⊢
 generalize hH3 : s2.heap.push { cls := .type "list", dict := none, data := .seq ([] : List Value).toArray } = g3 at hns4 hsb4 ⊢
 have hC : g3.objs.size = s2.heap.objs.size + 1 := by rw [← hH3, Heap.size_push]
 have old3 : ∀ b o, s2.heap.get? b = some o → g3.get? b = some o := fun b o e => hH3 ▸ Heap.get?_push_of_some _ e
 have I3 : Inv X pins σ H2 { s2 with heap := g3 } := I2.kept (t' := s2.toks) old3
 have acc3 : g3.get? s2.heap.objs.size = some (lobj [] 0) := hH3 ▸ Heap.get?_push_size _ rfl
 have old4 : ∀ b o, g3.get? b = some o → h4.get? b = some o := fun b o e => hsb4.extBut b o (Nat.ne_of_lt (Heap.lt_size e)) (Heap.get?_push_of_some _ e)
 have ok := comp_ok (s := { s2 with heap := g3 }) (D := s2.heap.objs.size) (fp := fp) S I2 I3 rfl hC hlt f2
 have I4 := comp_inv (t := s2.toks + ([] : List (Str × Value)).length) S I3 ok hns4 old4
 -- what stays true of the list's place and the iterator's
 have dne := ok.exf s2.heap.objs.size List.mem_cons_self
 have dnf := ok.exfs s2.heap.objs.size List.mem_cons_self
 have fpok : ∀ {H' : Hp} {vs : List Value} {k : Nat}, (∀ b ∈ fp, H' b = none) → ∀ b ∈ fp, FpOk (compX X (x :: fs) scope g3.objs.size { s2 with heap := g3 } H2 (s2.heap.objs.size :: fp)) [(s2.heap.objs.size, lobj vs k)] H' b := fun {H' vs k} hn b hb => by
  have q := ok.exf b (List.mem_cons_of_mem _ hb)
  refine ⟨hn b hb, q.1, ok.exfs b (List.mem_cons_of_mem _ hb), .inl (List.mem_cons_of_mem _ hb), q.2, fun p hp => ?_⟩
  have e : p = (s2.heap.objs.size, lobj vs k) := by simpa using hp
  rw [e]
  exact Nat.ne_of_gt (hlt b hb)
 have start : Inv (compX X (x :: fs) scope g3.objs.size { s2 with heap := g3 } H2 (s2.heap.objs.size :: fp)) [(s2.heap.objs.size, lobj [] 0)] (none :: slotsOf fr σ) H2 { s2 with heap := h4, toks := s2.toks + ([] : List (Str × Value)).length } :=
  I4.pins_of fun p hp => by
   have e : p = (s2.heap.objs.size, lobj [] 0) := by simpa using hp
   subst e
   exact ⟨old4 _ _ acc3, I2.hok.fresh (Nat.le_refl _), dne.1, dnf, fun v z => by cases z⟩
 have stn : tn 0 h4 := T.keep 0 _ _ st2 fun b _ o e => old4 b o (old3 b o e)
 -- the end of the block
 have fin : ∀ {i : Nat} {σ0 : Option V} {H' : Hp} {ys : List V} {vs : List Value} {k : Nat} {s' : Shared}, Inv (compX X (x :: fs) scope g3.objs.size { s2 with heap := g3 } H2 (s2.heap.objs.size :: fp)) [(s2.heap.objs.size, lobj vs k)] (σ0 :: slotsOf fr σ) H' s' → Vals ys vs → ys.length ≤ sizeLine →
   (∀ l, H' l = none → Q (.ref l) (upd H' l (.lst ys))) → ∃ m, s'.heap.Ns g3.objs.size m ∧ ∀ h', Heap.SameBut g3.objs.size s'.heap h' → EP X pins σ Q (.ref s2.heap.objs.size) { s' with heap := h' } := by
  intro i σ0 H' ys vs k s' J1 rv hz q
  obtain ⟨m, hn, _⟩ := id J1.loc
  refine ⟨m, hn, fun h' sb => ?_⟩
  have below : ∀ y c, X.env.cells.lookup y = some c → c < s2.heap.objs.size := fun y c z => by
   obtain ⟨v, q⟩ := I2.cell y c z
   exact q.lt
  have pbelow : ∀ p ∈ X.pn ++ pins, p.1 < s2.heap.objs.size := fun p hp => Heap.lt_size (I2.pin p hp).1
  have I5 : Inv X pins σ H' s' := I3.call' (ch := s2.heap.objs.size :: fp) J1.os J1.base J1.hok J1.bare fun b hb => by
   rcases List.mem_cons.mp hb with e | hb
   ·rw [e]
    exact ⟨.inr I2.sz, Nat.ne_of_gt I2.lt, fun y c z => Nat.ne_of_lt (below y c z), fun p hp => Nat.ne_of_lt (pbelow p hp)⟩
   ·exact ⟨(f2 b hb).2.2.2.1, (f2 b hb).2.1, (f2 b hb).2.2.2.2.1, (f2 b hb).2.2.2.2.2⟩
  have szC : s2.heap.objs.size < g3.objs.size := by omega
  have I6 : Inv X pins σ H' { s' with heap := h' } := I5.turned (t' := s'.toks) (it := g3.objs.size) (fun b o hb e => sb.extBut b o hb e) J1.free (Nat.ne_of_gt (Nat.lt_trans I2.lt szC)) (.inr (Nat.le_of_lt (Nat.lt_of_le_of_lt I2.sz szC)))
   (fun y c z => Nat.ne_of_lt (Nat.lt_trans (below y c z) szC)) (fun p hp => Nat.ne_of_lt (Nat.lt_trans (pbelow p hp) szC))
  obtain ⟨eD, nD, _⟩ := J1.pin (s2.heap.objs.size, lobj vs k) (by simp)
  have eD' : h'.get? s2.heap.objs.size = some (lobj vs k) := sb.extBut _ _ dne.1 eD
  exact ⟨.ref s2.heap.objs.size, _, I6.adopt nD eD' rv hz I2.sz (Nat.ne_of_gt I2.lt) (fun y c z => Nat.ne_of_lt (below y c z)) (fun p hp => Nat.ne_of_lt (pbelow p hp)), rfl, q _ nD⟩
 have loop : ∀ s4 : Shared, s4 = { s2 with heap := h4, toks := s2.toks + ([] : List (Str × Value)).length } →
   codeAny (model X.prog X.w) X.A (.compLoop (.ListComp elt [⟨.Name x px, iter, ifs, 0⟩] scope pos) 0 (.ref it) (.ref s2.heap.objs.size) (compEnvC scope (clOf scope X.env) g3.objs.size X.env))
    (compPost (model X.prog X.w) X.A X.xe none (EP X pins σ Q) (.ref s2.heap.objs.size) g3.objs.size) s4 := by
  rintro s4 rfl
  refine codeAny_compLoop_tests (fun n s' => ∃ i σ0 H' ys vs k, Inv (compX X (x :: fs) scope g3.objs.size { s2 with heap := g3 } H2 (s2.heap.objs.size :: fp)) [(s2.heap.objs.size, lobj vs k)] (σ0 :: slotsOf fr σ) H' s' ∧ tn i s'.heap ∧ (∀ b ∈ fp, H' b = none) ∧ Vals ys vs ∧ W i n ys H') ?_ m0
   ⟨0, none, H2, [], [], 0, start, stn, fun b hb => (f2 b hb).1, .nil, w0⟩
  rintro n s' ⟨i, σ0, H', ys, vs, k, J1, st, fr1, rv, w1⟩
  rcases turn i n ys H' w1 with ⟨stop, hz, q⟩ | ⟨go, hz, step⟩
  ·refine thn (T.done (compX X (x :: fs) scope g3.objs.size { s2 with heap := g3 } H2 (s2.heap.objs.size :: fp)) rfl rfl rfl hc i _ s' _ H' _ J1 (fpok fr1) st stop) fun r s5 ⟨hr, J2⟩ => ?_
   subst hr
   exact fin (i := i) J2 rv hz q
  ·refine thn (T.item (compX X (x :: fs) scope g3.objs.size { s2 with heap := g3 } H2 (s2.heap.objs.size :: fp)) rfl rfl rfl hc i _ s' _ H' _ J1 (fpok fr1) st go) fun r s5 ⟨u, hr, h5⟩ => ?_
   subst hr
   change wpAny _ _ (letOwnedTupleGo (.Name x px) (.ref it) u >>= fun _ => assign (.Name x px) (compEnvC scope (clOf scope X.env) g3.objs.size X.env) u) _ _ s5
   refine wpAny_bind (thn h5 fun _ s6 ⟨v, H6, J6, r6, y6, st6, fr6⟩ => ?_)
   have J6' := J6.pinned (fp := fp) (fpok fr6) (T.obj _ _ st6)
   have loc := lookup_relabel_local (env := X.env) S.loc
   refine wpAny_mono (pg_name (i := 0) S.nd rfl (.inl loc) (.inr loc) _ s6 _ H6 v u (fun σ' H' => σ' = some v :: slotsOf fr σ ∧ H' = H6) J6' r6 ⟨rfl, rfl⟩) (fun _ s7 ⟨σ7, H7, J7, e7, e7'⟩ => ?_) (fun _ _ z => z.elim)
   subst e7 e7'
   have pfp : ∀ {σ8 : St} {H8 : Hp} {s8 : Shared}, Inv (compX X (x :: fs) scope g3.objs.size { s2 with heap := g3 } H2 (s2.heap.objs.size :: fp)) ([(s2.heap.objs.size, lobj vs k)] ++ pinsAt fp s6.heap) σ8 H8 s8 →
     tn (i + 1) s8.heap ∧ ∀ b ∈ fp, H8 b = none := fun {σ8 H8 s8} J8 => by
    refine ⟨T.keep _ _ _ st6 fun b hb o e => (J8.pin (b, o) (List.mem_append_right _ (List.mem_append_right _ (mem_pinsAt hb e)))).1, fun b hb => ?_⟩
    obtain ⟨o, e, d⟩ := T.obj _ _ st6 b hb
    exact (J8.pin (b, o) (List.mem_append_right _ (List.mem_append_right _ (mem_pinsAt hb e)))).2.1
   refine wpAny_mono (ht _ _ _ _ _ s7 _ H7 _ J7 (step v H7 y6)) (fun ok8 s8 ⟨H8, J8, q8⟩ => ?_) (fun _ _ z => z.elim)
   cases ok8 with
   | false =>
    rw [if_neg Bool.false_ne_true] at q8
    rw [if_neg Bool.false_ne_true]
    obtain ⟨m', hm, w8⟩ := q8
    obtain ⟨t8, n8⟩ := pfp J8
    exact ⟨m', hm, i + 1, some v, H8, ys, vs, k, J8.unpinned, t8, n8, rv, w8⟩
   | true =>
    rw [if_pos rfl] at q8
    rw [if_pos rfl]
    refine wpAny_mono (he _ _ _ _ _ s8 _ H8 _ J8 q8) (fun y s9 ⟨yv, H9, J9, r9, m', hm, w9⟩ => ?_) (fun _ _ z => z.elim)
    obtain ⟨t9, n9⟩ := pfp J9
    obtain ⟨eD, nD, _⟩ := J9.pin (s2.heap.objs.size, lobj vs k) (by simp)
    have hl := rv.length
    refine call_meets F.slot_list_append ⟨_, eD, rfl⟩ F.entry_list_append (F.args_list_append_2 _ _) (PySem.list_append s2.heap.objs.size vs.toArray k y (by rw [List.size_toArray]; omega)) ⟨eD, ?_⟩
    have eN := PySem.IsL.update (h := s9.heap) (l := s2.heap.objs.size) (items := vs.toArray) (n := k) eD (·.push y)
    have eV : vs.toArray.push y = (vs ++ [y]).toArray := by simp
    rw [eV] at eN
    obtain ⟨k', eN⟩ : ∃ k', (s9.heap.update s2.heap.objs.size (Obj.mapSeq (·.push y))).get? s2.heap.objs.size = some (lobj (vs ++ [y]) k') := ⟨_, eN⟩
    have K9 : Inv (compX X (x :: fs) scope g3.objs.size { s2 with heap := g3 } H2 (s2.heap.objs.size :: fp)) [] (some v :: slotsOf fr σ) H9 s9 := J9.pins_of fun p hp => absurd hp (by simp)
    have K10 : Inv (compX X (x :: fs) scope g3.objs.size { s2 with heap := g3 } H2 (s2.heap.objs.size :: fp)) [] (some v :: slotsOf fr σ) H9 { s9 with heap := s9.heap.update s2.heap.objs.size (Obj.mapSeq (·.push y)) } :=
     K9.turned (t' := s9.toks) (it := s2.heap.objs.size) (fun b o hb e => (Heap.get?_update_other s9.heap (Obj.mapSeq (·.push y)) (Ne.symm hb)).trans e) nD dne.1 (.inl List.mem_cons_self) dne.2 (fun p hp => absurd hp (by simp))
    refine ⟨m', hm, i + 1, some v, H9, ys ++ [yv], vs ++ [y], k', K10.pins_of fun p hp => ?_, T.keep _ _ _ t9 fun b hb o e => (Heap.get?_update_other s9.heap (Obj.mapSeq (·.push y)) (Nat.ne_of_gt (hlt b hb))).trans e, n9, rv.append (.cons r9 .nil), w9⟩
    have e : p = (s2.heap.objs.size, lobj (vs ++ [y]) k') := List.mem_singleton.mp hp
    rw [e]
    exact ⟨eN, nD, dne.1, dnf, fun v z => by cases z⟩
 exact codeAny_compStart_list (loop _ rfl) (T.self X.A 0 _ _ _ stn (loop _ rfl))
theorem pe_comp {elt iter : Expr} {x : Str} {px : Pos} {scope : Scope} {pos : Pos} {wi : TI} {fs : List Str} {fr : List Nat} {te : TE} (hc : X.calm = true) (S : CompSc X scope x fs fr) (hi : PI X (.Name x px) iter wi)
  (he : ∀ C s H ex, PE (compX X (x :: fs) scope C s H ex) elt te) (hs : ∀ z, foldedSetIterable iter X.env z = pure z := by intro _; rfl) :
  PE X (.ListComp elt [⟨.Name x px, iter, [], 0⟩] scope pos) (tComp wi fr tTrue te) := pe_compG hc S hi (fun _ _ _ _ => ct_nil) he hs
theorem pe_compIf {elt iter c : Expr} {x : Str} {px : Pos} {scope : Scope} {pos : Pos} {wi : TI} {fs : List Str} {fr : List Nat} {tc : TT} {te : TE} (hc : X.calm = true) (S : CompSc X scope x fs fr) (hi : PI X (.Name x px) iter wi)
  (ht : ∀ C s H ex, PT (compX X (x :: fs) scope C s H ex) c tc) (he : ∀ C s H ex, PE (compX X (x :: fs) scope C s H ex) elt te) (hs : ∀ z, foldedSetIterable iter X.env z = pure z := by intro _; rfl) :
  PE X (.ListComp elt [⟨.Name x px, iter, [c], 0⟩] scope pos) (tComp wi fr tc te) := pe_compG hc S hi (fun C s H ex => ct_one (ht C s H ex)) he hs
end
theorem vals_of : ∀ (xs : List V) (us : List Value), xs.length = us.length → (∀ (j : Nat) (x : V) (u : Value), xs[j]? = some x → us[j]? = some u → RelV x u) → Vals xs us
 | [], [], _, _ => .nil
 | [], _ :: _, h, _ => by cases h
 | _ :: _, [], h, _ => by cases h
 | x :: xs, u :: us, h, f => .cons (f 0 x u rfl rfl) (vals_of xs us (by simpa using h) fun j a b e1 e2 => f (j + 1) a b (by simpa using e1) (by simpa using e2))
theorem rel_key {k : Key} {v : Value} (h : keyIs k v = true) : RelV (kV k) v := by
 rcases keyIs_shape h with ⟨i, t, rfl, rfl⟩ | ⟨x, t, rfl, rfl⟩
 ·exact ⟨t, rfl⟩
 ·exact ⟨t, rfl⟩
theorem range_all (bs : List Bool) : ((List.range bs.length).all fun i => (bs[i]?).getD true) = bs.all id := by
 rw [Bool.eq_iff_iff, List.all_eq_true, List.all_eq_true]
 constructor
 ·intro h b hb
  obtain ⟨i, hi⟩ := List.mem_iff_getElem?.mp hb
  have := h i (List.mem_range.mpr (List.getElem?_eq_some_iff.mp hi).1)
  rw [hi] at this
  exact this
 ·intro h i hi
  have hlt := List.mem_range.mp hi
  rw [List.getElem?_eq_getElem hlt]
  exact h _ (List.getElem_mem hlt)
section
variable {X : Cx}
theorem call_list_dict (hc : X.calm = true) : CallR X (.type "list") (fun xs H Q => ∃ a kvs, xs = [.ref a] ∧ H a = some (.dK kvs) ∧ ∀ l, H l = none → Q (.ref l) (upd H l (.lst (kvs.map fun kv => kV kv.1)))) := by
 intro pins s σ H xs us Q I r h
 obtain ⟨a, kvs, rfl, ha, q⟩ := h
 obtain ⟨u, rfl, ru⟩ := vals1 r
 cases ru
 obtain ⟨hz, lo, vs, rel, o, es, ep, m⟩ := dk_of I.hok ha
 have at' : s.heap.DictAt (mixKind X.prog X.w) a vs ep := ⟨o, es, m⟩
 have hl : kvs.length = vs.length := rel.length
 have hk : kvs.map (·.1) = vs.map (·.1) := rel.keys
 refine PySem.W.kdl_call (PySem.W.kdl_dict lo) (I.ok.hd hc) at' (by rw [← hl]; exact hz) fun h' tk acc' c' kp e it => ?_
 have rv : Vals (kvs.map fun kv => kV kv.1) acc'.toList := by
  refine vals_of _ _ (by simp [it.1, hl]) fun j x v e1 e2 => ?_
  obtain ⟨k, y, e3, e4⟩ := it.2 j v (by rw [← Array.getElem?_toList]; exact e2)
  have e5 : (kvs.map (·.1))[j]? = some k := by
   rw [hk, List.getElem?_map, e3]
   rfl
  rw [List.getElem?_map] at e1 e5
  cases e6 : kvs[j]? with
  | none => rw [e6] at e1; cases e1
  | some p =>
   rw [e6] at e1 e5
   obtain rfl : kV p.1 = x := Option.some.inj e1
   obtain rfl : p.1 = k := Option.some.inj e5
   exact rel_key e4
 exact ⟨.ref s.heap.objs.size, _, I.laid (t' := tk) kp (Nat.le_refl _) (show ObjOk X.prog X.w _ h' _ (.lst _) from ⟨by rw [List.length_map]; exact hz, acc'.toList, c', rv, by simpa using e⟩), rfl, q _ I.fresh⟩
theorem call_all_bools (hc : X.calm = true) : CallR X (.builtin "all") (fun xs H Q => ∃ (a : Addr) (bs : List Bool), xs = [.ref a] ∧ SqL X.K H a (bs.map V.bl) ∧ Q (.bl (bs.all id)) H) := by
 intro pins s σ H xs us Q I r h
 obtain ⟨a, bs, rfl, ha, q⟩ := h
 obtain ⟨u, rfl, ru⟩ := vals1 r
 cases ru
 obtain ⟨its, rv, p, hz⟩ := I.list ha
 have hl : its.length = bs.length := by
  have := rv.length
  simpa using this.symm
 have hne : a ≠ s.heap.objs.size := by
  obtain ⟨o, n, e, _⟩ := id p
  exact Nat.ne_of_lt (Heap.lt_size e)
 refine call_all_walk (wpAny_pyIter_list p.isList ?_)
 refine ⟨s.heap.objs.size, _, _, its.toArray.size, _, _, fun i => (bs[i]?).getD true, rfl, Walks.list (A := X.A.in1) (show X.A.in1.handled = none from I.ok.hd hc) s.heap.objs.size a hne its.toArray, ⟨⟨_, Heap.get?_push_size _ rfl, rfl, rfl⟩, p.isList.at fun o e => Heap.get?_push_of_some _ e⟩, ?_, fun h' tk kp => ?_⟩
 ·intro i v s' Q' E' hP hQ
  have hP' : its[i]? = some v := by simpa using hP
  have hi : i < bs.length := by
   rw [← hl]
   exact (List.getElem?_eq_some_iff.mp hP').1
  have e1 : (bs.map V.bl)[i]? = some (.bl bs[i]) := by rw [List.getElem?_map, List.getElem?_eq_getElem hi]; rfl
  obtain ⟨u, hu, ru⟩ := rv.get e1
  rw [hP'] at hu
  cases hu
  cases ru
  refine wpAny_truthy_bool ?_
  have e2 : (bs[i]?).getD true = bs[i] := by rw [List.getElem?_eq_getElem hi]; rfl
  rw [← e2]
  exact hQ
 ·refine ⟨.bl (bs.all id), H, I.kept (t' := tk) fun b o e => kp b o (by simpa using Nat.ne_of_lt (Heap.lt_size e)) (Heap.get?_push_of_some _ e), ?_, q⟩
  show Value.bool _ = Value.bool _
  rw [List.size_toArray, hl, range_all]
theorem call_isinst : CallR X (.builtin "isinstance") (fun xs H Q => ∃ x n t b, xs = [x, .ty n] ∧ TyOf X.K H x t ∧ PySem.W.kitOne X.K t (.type n) = some b ∧ Q (.bl b) H) := by
 intro pins s σ H xs us Q I r h
 obtain ⟨x, n, t, b, rfl, ty, e, q⟩ := h
 obtain ⟨u, w', rfl, ru, rw'⟩ := vals2 r
 cases rw'
 exact isinst_ok I ru ty e fun tk => ⟨.bl b, H, I.tok tk, rfl, q⟩
def rStarts : V → List V → Hp → VK → Prop := fun x vs H Q => ∃ a b, x = .str a ∧ vs = [.str b] ∧ Q (.bl (Txt.startswith a b)) H
theorem mt_startswith : MtR X "str.startswith" rStarts := by
 intro pins s σ H x vs v us Q I rx rv h
 obtain ⟨a, b, rfl, rfl, q⟩ := h
 obtain ⟨t, rfl⟩ := rx
 obtain ⟨u, rfl, ru⟩ := rv.one
 obtain ⟨t', rfl⟩ := ru
 exact call_gives F.slot_str_startswith (typeIs_str s a t) F.entry_str_startswith (F.args_str_startswith_2 _ _) (gives_str_startswith a b t t') ⟨.bl _, H, I, rfl, q⟩
def rSlS : V → Option Int → Option Int → Hp → VK → Prop := fun x lo hi H Q => ∃ z, x = .str z ∧ z.length ≤ sizeLine ∧ Q (.str (Txt.slice z lo hi)) H
theorem sl_str : SlR X rSlS := by
 intro pins s σ H x v vl vu lo hi sl Q I rx hs pl pu h
 obtain ⟨z, rfl, hz, q⟩ := h
 obtain ⟨t, rfl⟩ := rx
 cases pl with
 | none =>
  cases pu with
  | none => exact ⟨"str", _, F.slot_str_getitem.lookup, typeIs_str _ _ _, wpAny_getItem_str_slice (l := none) (u := none) (st := none) hs rfl (post_val_or_str ⟨Nat.le_trans (Txt.slice_le z _ _) hz, fun t' k => ⟨.str _, H, I.tok k, ⟨_, rfl⟩, q⟩⟩)⟩
  | int j tj => exact ⟨"str", _, F.slot_str_getitem.lookup, typeIs_str _ _ _, wpAny_getItem_str_slice (l := none) (u := some (j, tj)) (st := none) hs rfl (post_val_or_str ⟨Nat.le_trans (Txt.slice_le z _ _) hz, fun t' k => ⟨.str _, H, I.tok k, ⟨_, rfl⟩, q⟩⟩)⟩
 | int i ti =>
  cases pu with
  | none => exact ⟨"str", _, F.slot_str_getitem.lookup, typeIs_str _ _ _, wpAny_getItem_str_slice (l := some (i, ti)) (u := none) (st := none) hs rfl (post_val_or_str ⟨Nat.le_trans (Txt.slice_le z _ _) hz, fun t' k => ⟨.str _, H, I.tok k, ⟨_, rfl⟩, q⟩⟩)⟩
  | int j tj => exact ⟨"str", _, F.slot_str_getitem.lookup, typeIs_str _ _ _, wpAny_getItem_str_slice (l := some (i, ti)) (u := some (j, tj)) (st := none) hs rfl (post_val_or_str ⟨Nat.le_trans (Txt.slice_le z _ _) hz, fun t' k => ⟨.str _, H, I.tok k, ⟨_, rfl⟩, q⟩⟩)⟩
def CDivL (_i j : Int) : Prop := 0 < j ∧ j.natAbs.log2 < 9000
theorem op_fdivL : OpR X (binaryOp .FloorDiv) (rI CDivL fun i j => .int (i / j)) := opI fun i j _ _ _ _ _ hc q => by
 have h1 : (0 : Int) < j := hc.1
 exact floordiv_int (by omega) (by rw [Int.fdiv_eq_ediv_of_nonneg i (by omega)]; exact q) (.inl (PyProof.noPylong_of_log2 hc.2))
end
mutual
def Dt (K : PySem.W.Frag) (H : Hp) : PyData → V → Prop
 | .none, x => x = .non
 | .bool b, x => x = .bl b
 | .int i, x => x = .int i
 | .str z, x => x = .str z
 | .list ds, x => ∃ a xs, x = .ref a ∧ SqL K H a xs ∧ DtAll K H ds xs
 | .tuple ds, x => ∃ a xs, x = .ref a ∧ SqT K H a xs ∧ DtAll K H ds xs
 | .dict _, _ => False
def DtAll (K : PySem.W.Frag) (H : Hp) : List PyData → List V → Prop
 | [], xs => xs = []
 | d :: ds, xs => ∃ x r, xs = x :: r ∧ Dt K H d x ∧ DtAll K H ds r
end
section
variable {X : Cx}
mutual
theorem reads_of {pins : List (Addr × Obj)} {s : Shared} {σ : St} {H : Hp} (I : Inv X pins σ H s) : ∀ (d : PyData) (x : V) (v : Value), Dt X.K H d x → RelV x v → ∃ as, Reads s.heap v d as
 | .none, x, v, h, r => by
  rw [Dt] at h
  subst h
  cases r
  exact ⟨_, .none⟩
 | .bool b, x, v, h, r => by
  rw [Dt] at h
  subst h
  cases r
  exact ⟨_, .bool b⟩
 | .int i, x, v, h, r => by
  rw [Dt] at h
  subst h
  obtain ⟨t, rfl⟩ := r
  exact ⟨_, .int i t⟩
 | .str z, x, v, h, r => by
  rw [Dt] at h
  subst h
  obtain ⟨t, rfl⟩ := r
  exact ⟨_, .str z t⟩
 | .list ds, x, v, h, r => by
  rw [Dt] at h
  obtain ⟨a, xs, rfl, hq, ha⟩ := h
  cases r
  obtain ⟨its, rv, ⟨o, n, e, c, _, d⟩, _⟩ := I.list hq
  obtain ⟨as, ra⟩ := readsAll_of I ds xs its ha rv
  exact ⟨_, .list e c d (by simpa using ra)⟩
 | .tuple ds, x, v, h, r => by
  rw [Dt] at h
  obtain ⟨a, xs, rfl, hq, ha⟩ := h
  cases r
  obtain ⟨its, rv, ⟨o, e, c, n, d⟩, _⟩ := I.tuple hq
  obtain ⟨as, ra⟩ := readsAll_of I ds xs its ha rv
  exact ⟨_, .tuple e c d (by simpa using ra)⟩
 | .dict _, x, v, h, r => by
  rw [Dt] at h
  exact h.elim
theorem readsAll_of {pins : List (Addr × Obj)} {s : Shared} {σ : St} {H : Hp} (I : Inv X pins σ H s) : ∀ (ds : List PyData) (xs : List V) (vs : List Value), DtAll X.K H ds xs → Vals xs vs → ∃ as, ReadsAll s.heap vs ds as
 | [], xs, vs, h, r => by
  rw [DtAll] at h
  subst h
  cases r
  exact ⟨_, .nil⟩
 | d :: ds, xs, vs, h, r => by
  rw [DtAll] at h
  obtain ⟨x, r', rfl, h1, h2⟩ := h
  cases r with
  | cons r1 r2 =>
   obtain ⟨as, q1⟩ := reads_of I d x _ h1 r1
   obtain ⟨bs, q2⟩ := readsAll_of I ds r' _ h2 r2
   exact ⟨_, .cons q1 q2⟩
end
def rEqD (K : PySem.W.Frag) (neg : Bool) : R2 := fun x y H Q => ∃ d e, Dt K H d x ∧ Dt K H e y ∧ SeqAt.shaped d = true ∧ SeqAt.shaped e = true ∧ Q (.bl (if neg then !PyData.eqv d e else PyData.eqv d e)) H
theorem op_neD (hu : X.A.units + 64 < cLine) : OpR X (compareOp .NotEq) (rEqD X.K true) := by
 intro pins s σ H x y v u Q I rx ry h
 obtain ⟨d, e, h1, h2, h3, h4, q⟩ := h
 obtain ⟨as, r1⟩ := reads_of I d x v h1 rx
 obtain ⟨bs, r2⟩ := reads_of I e y u h2 ry
 exact ne_dataH r1 r2 h3 h4 hu ⟨.bl _, H, I, rfl, q⟩
end
theorem dtAll_strs {K : PySem.W.Frag} {H : Hp} : ∀ zs : List Str, DtAll K H (zs.map PyData.str) (zs.map V.str)
 | [] => by rw [List.map_nil, DtAll]; rfl
 | z :: r => by
  rw [List.map_cons, List.map_cons, DtAll]
  exact ⟨_, _, rfl, by rw [Dt], dtAll_strs r⟩
theorem eqvAll_strs : ∀ xs ys : List Str, PyData.eqvAll (xs.map PyData.str) (ys.map PyData.str) = decide (xs = ys)
 | [], [] => by simp [PyData.eqvAll]
 | [], _ :: _ => by simp [PyData.eqvAll]
 | _ :: _, [] => by simp [PyData.eqvAll]
 | a :: r, b :: t => by
  simp only [List.map_cons, PyData.eqvAll, PyData.eqv, eqvAll_strs r t]
  by_cases h : a = b <;> by_cases h' : r = t <;> simp [h, h']
theorem lay_strs : ∀ zs : List Str, (∀ z ∈ zs, PyData.strOk z = true) → PyData.canLayAll0 (zs.map PyData.str) = true
 | [], _ => rfl
 | z :: r, h => by
  have h1 := h z List.mem_cons_self
  have h2 := lay_strs r fun y hy => h y (List.mem_cons_of_mem _ hy)
  simp [PyData.canLayAll0, PyData.canLay0, h1, h2]
theorem depth_strs : ∀ zs : List Str, PyData.depthAll (zs.map PyData.str) = 0
 | [] => rfl
 | _ :: r => by simp [PyData.depthAll, PyData.depth, depth_strs r]
def cscOk (osc : Scope) (N : List Str) (scope : Scope) (x : Str) (fs : List Str) (fr : List Nat) : Bool :=
 scope.kind == .function && scope.names.lookup x == some .local && scope.names.all (fun y => !(y.2 == .local) || scope.names.lookup y.1 == some .local) && scope.names.all (fun y => !(y.2 == .cell)) &&
  (frees scope).all (fun n => osc.names.lookup n == some .cell && scope.names.lookup n == some .free) && decide ((x :: fs).Nodup) && fr.length == fs.length &&
  (List.range fs.length).all (fun j => match fs[j]?, fr[j]? with | some y, some k => N[k]? == some y && decide (y ∈ frees scope) | _, _ => false)
theorem compSc_mk {X : Cx} {scope : Scope} {x : Str} {fs : List Str} {fr : List Nat} (h : cscOk X.env.scope X.N scope x fs fr = true := by kernel_rfl) : CompSc X scope x fs fr := by
 unfold cscOk at h
 simp only [Bool.and_eq_true] at h
 obtain ⟨⟨⟨⟨⟨⟨⟨h1, h2⟩, h3⟩, h4⟩, h5⟩, h6⟩, h7⟩, h8⟩ := h
 refine ⟨eq_of_beq h1, eq_of_beq h2, fun y hy e => ?_, fun y hy e => ?_, fun n hn => ?_, of_decide_eq_true h6, eq_of_beq h7, fun j y k e1 e2 => ?_⟩
 ·have := List.all_eq_true.mp h3 y hy
  rw [e] at this
  simpa using this
 ·have := List.all_eq_true.mp h4 y hy
  rw [e] at this
  simp at this
 ·have := List.all_eq_true.mp h5 n hn
  rw [Bool.and_eq_true] at this
  exact ⟨eq_of_beq this.1, eq_of_beq this.2⟩
 ·have := List.all_eq_true.mp h8 j (List.mem_range.mpr (List.getElem?_eq_some_iff.mp e1).1)
  rw [e1, e2] at this
  simp only [Bool.and_eq_true] at this
  exact ⟨eq_of_beq this.1, of_decide_eq_true this.2⟩
def DefOk (P : Program) (w : World) (K : PySem.W.Frag) (mg : Str → Option Value) (base : Heap) (k : Nat) (x : Str) (ps : List Str) (sp : Sp) : Prop :=
 ∃ f fd, FnOk P w K mg base CX0 k f fd ps sp ∧ mg x = some (.ref f) ∧ PySem.W.keepIn K (.ref f) = true ∧ Binds K fd ps []
theorem cl {X : Cx} {k : Nat} {x : Str} {ps : List Str} {sp : Sp} {j : Nat} {e : Expr} {es : List Expr} {t : TA} {p pos : Pos} (D : DefOk X.prog X.w X.K X.mg X.base k x ps sp) (hr : Room j X.A) (ha : PA X (e :: es) t) (hk : k ≤ j := by decide) (hg : Gl X x := by rfl)
  (hdb : (x == ("__debug__" : Str)) = false := by decide) (he : starEach (e :: es) X.env = (false, eval e X.env) :: starEach es X.env := by rfl) (hpl : (backTo pos (starEach es X.env)).any (·.1) = false := by rfl) :
  PE X (.Call (.Name x p) (e :: es) [] pos) (tCall sp [] E0 t) := by
 obtain ⟨f, fd, F, m, kp, b⟩ := D
 exact pe_call F (hr.mono hk) hg m kp b .nil pass0 ha hdb he hpl
theorem list_extend_tup (l : Addr) (items : Array Value) (n : Nat) (b : Addr) (dd : Option Addr) (sl : Array (Option Value)) (items2 : Array Value) (n2 : Nat) (hs0 : ¬(!items.isEmpty && Builtin.List.listTooLong (items.size + items2.size)) = true) (hs1 : items.size ≤ sizeLine) (hs2 : items.size + items2.size ≤ sizeLine + 1) :
  Meets (Builtin.«list.extend» ⟨[.ref l, .ref b], []⟩) (fun _ R s => s.heap.get? l = some { cls := .type "list", dict := none, data := .seq items n, slots := #[] } ∧ s.heap.get? b = some { cls := .type "tuple", dict := dd, data := .seq items2 n2, slots := sl } ∧ R (.ok (.ret Value.none)) { s with heap := s.heap.update l (Obj.mapSeq fun x => x ++ items2), toks := s.toks }) :=
 .of_wp fun prog w A R s h => by
  obtain ⟨hp, g, d, tk, os⟩ := s; obtain ⟨hl, hb, h⟩ := h
  have hz' : (items ++ items2).size ≤ sizeLine + 1 := by rw [Array.size_append]; exact hs2
  wp_walk using (wpAny_updateSeq hl rfl (hz := hs1) (_hz' := hz')), wpAny_loadPart' hl, wpAny_loadPart' hb
  exact ⟨_, rfl, h⟩
section
variable {X : Cx}
def rExtendT (K : PySem.W.Frag) : V → List V → Hp → VK → Prop := fun x vs H Q => ∃ l b xs zs, x = .ref l ∧ vs = [.ref b] ∧ H l = some (.lst xs) ∧ SqT K H b zs ∧ xs.length + zs.length ≤ sizeLine ∧ Q .non (upd H l (.lst (xs ++ zs)))
theorem mt_extendT : MtM X "list.extend" (rExtendT X.K) := by
 intro pins s σ H x vs v us Q I rx rv h
 obtain ⟨l, b, xs, zs, rfl, rfl, hH, hB, hz, q⟩ := h
 cases rx
 obtain ⟨u, rfl, ru⟩ := rv.one
 cases ru
 obtain ⟨z, its, n, r, hl, e⟩ := I.lstM hH
 obtain ⟨its2, r2, ⟨⟨cls, dd, data, sl⟩, e2, hc2, n2, hd2⟩, z2⟩ := I.tuple hB
 simp only at hc2 hd2
 subst hc2 hd2
 have hl2 := r2.length
 have hsz : its.toArray.size + its2.toArray.size ≤ sizeLine := by rw [List.size_toArray, List.size_toArray]; omega
 have hlong : ¬ (!its.toArray.isEmpty && Builtin.List.listTooLong (its.toArray.size + its2.toArray.size)) = true := by
  rw [notLongL hsz, Bool.and_false]
  exact Bool.false_ne_true
 refine call_meets F.slot_list_extend ⟨_, e, rfl⟩ F.entry_list_extend (F.args_list_extend_2 _ _)
  (list_extend_tup l its.toArray n b dd sl its2.toArray n2 hlong (by rw [List.size_toArray]; omega) (by omega)) ⟨e, e2, ?_⟩
 refine ⟨.non, _, I.lset (its' := its ++ its2) hH e (by simp) (r.append r2) ?_, rfl, q⟩
 rw [List.length_append]
 omega
end
theorem cut {X : Cx} {body : List Stmt} {D : Ends} {σ0 : St} {H0 : Hp} (n : Nat) (C : St → Hp → Prop) (ht : ∃ t2, PSs X (body.drop n) t2 ∧ ∀ σ H, C σ H → t2 D σ H)
  (hh : ∀ t2, PSs X (body.drop n) t2 → ∃ t, PSs X body t ∧ ((∀ σ H, C σ H → t2 D σ H) → t D σ0 H0)) : ∃ t, PSs X body t ∧ t D σ0 H0 := by
 obtain ⟨t2, p, q⟩ := ht
 obtain ⟨t, p', q'⟩ := hh t2 p
 exact ⟨t, p', q' q⟩
theorem pe_globI {X : Cx} {x : Str} {i : Int} {pos : Pos} (hg : Gl X x) (hm : ∃ t, X.mg x = some (.int i t)) (hd : (x == ("__debug__" : Str)) = false := by decide) : PE X (.Name x pos) (tC (.int i)) := by
 obtain ⟨t, hm⟩ := hm
 exact pe_glob hg hm ⟨t, rfl⟩ hd
theorem pe_globS {X : Cx} {x : Str} {z : Str} {pos : Pos} (hg : Gl X x) (hm : ∃ t, X.mg x = some (.str z t)) (hd : (x == ("__debug__" : Str)) = false := by decide) : PE X (.Name x pos) (tC (.str z)) := by
 obtain ⟨t, hm⟩ := hm
 exact pe_glob hg hm ⟨t, rfl⟩ hd
section
variable {X : Cx} {K : PySem.W.Frag}
theorem ix_listK (h : X.K = K := by rfl) : IxR X (rIxL K) := h ▸ ix_list
theorem ix_tupK (h : X.K = K := by rfl) : IxR X (rIxT K) := h ▸ ix_tup
theorem call_lenK (h : X.K = K := by rfl) : CallR X (.builtin "len") (fun xs H Q => ∃ x n, xs = [x] ∧ LenV K x H n ∧ Q (.int n) H) := h ▸ call_len
theorem op_in_seqK (h : X.K = K := by rfl) : OpR X (compareOp .In) (rIn K false) := h ▸ op_in_seq
theorem op_notIn_seqK (h : X.K = K := by rfl) : OpR X (compareOp .NotIn) (rIn K true) := h ▸ op_notIn_seq
end
theorem rd_true {σ : St} {H : Hp} {A B : Hp → Prop} (h : A H) : tTrue σ H (fun b H4 => if b = true then A H4 else B H4) := by
 show (if true = true then A H else B H)
 rw [if_pos rfl]
 exact h
end L2
namespace HT
open PySem PySem.Spec PyProof.Rows
section
variable {prog : Program} {w : World} {A : Around} {E : Value → Shared → Prop} {s : Shared}
theorem getItem_tuple_whole {t sl : Addr} {items : Array Value} {vl vu : Value} {lo hi : Option Int} {Q : Value → Shared → Prop} (ht : IsTup s.heap t items) (hs : s.heap.IsSliceOf sl vl vu .none) (pl : IsPart vl lo) (pu : IsPart vu hi)
  (hw : sIx items.size 0 lo = 0 ∧ sIx items.size items.size hi = items.size) (h : Q (.ref t) s) : wpAny (model prog w) A (getItem (.ref t) (.ref sl)) Q E s := by
 obtain ⟨os, hos, hcs, hds⟩ := id hs
 have hTs : s.TypeIs (.ref sl) "slice" := ⟨os, hos, hcs⟩
 unfold getItem
 try with_reducible refine wpAny_holding ?_
 first | refine wpAny_bind (wpAny_pure ?_) | skip
 refine wpAny_bind (wpAny_sequenceKey ht.typeIs (by decide) ?_)
 refine wpAny_bind (wpAny_callSpecial?_slot (name := Str.ofString "__getitem__") ht.typeIs PyProof.Rows.slot_tuple_getitem
  (wpAny_call_entry PyProof.Rows.slot_tuple_getitem ht.typeIs entry_tuple_getitem ?_ (args_tuple_getitem _ _)))
 show wpAny _ _ (Builtin.Tuple.tupleItemsOf (.ref t) >>= _) _ _ s
 refine wpAny_bind (tupleItemsOf_ ht ?_)
 refine wpAny_bind (wpAny_typeOf hTs ?_)
 rw [if_pos (by decide)]
 refine wpAny_bind (sliceApplied_gen hs pl pu ?_)
 have hyes : (((sIx items.size 0 lo : Nat) : Int) == 0 && (1 : Int) == 1 && (sIx items.size items.size hi - sIx items.size 0 lo) == items.size) = true := by
  rw [hw.1, hw.2]
  simp
 show wpAny _ _ (if (((sIx items.size 0 lo : Nat) : Int) == 0 && (1 : Int) == 1 && (sIx items.size items.size hi - sIx items.size 0 lo) == items.size) = true then _ else _) _ _ s
 rw [if_pos hyes]
 unfold Builtin.Tuple.tupleIsExact
 refine wpAny_bind (wpAny_bind (wpAny_typeOf ht.typeIs ?_))
 refine wpAny_pure ?_
 rw [if_pos (by decide)]
 wp_walk
 exact ⟨_, rfl, wpAny_pure h⟩
theorem cat_tupA {t b : Addr} {vs ws : List Value} {Q : Value → Shared → Prop} (ht : IsTup s.heap t vs.toArray) (hb : IsTup s.heap b ws.toArray) (h0 : vs = [] → Q (.ref b) s)
  (h1 : vs ≠ [] → ws = [] → Q (.ref t) s) (h2 : vs ≠ [] → ws ≠ [] → Q (.ref s.heap.objs.size) { s with heap := s.heap.push { cls := .type "tuple", data := .seq (vs ++ ws).toArray } })
  (hsz : vs.length + ws.length ≤ sizeLine) : wpAny (model prog w) A (binaryOp .Add (.ref t) (.ref b)) Q E s := by
 by_cases hv : vs = []
 ·obtain ⟨⟨cls, dd, data, sl⟩, ho, hc, n, hd⟩ := id ht
  obtain ⟨⟨cls2, dd2, data2, sl2⟩, ho2, hc2, n2, hd2⟩ := id hb
  simp only at hc hd hc2 hd2
  subst hc hd hc2 hd2
  exact concat_meets ⟨_, ho, rfl⟩ ⟨_, ho2, rfl⟩ noFill_tuple_add seq_tuple_add PySem.F.slot_tuple_add PySem.F.entry_tuple_add (PySem.F.args_tuple_add_2 _ _)
   (tuple_addW0 t b vs.toArray ws.toArray n n2 dd dd2 sl sl2 (by simp [hv])) ⟨ho, ho2, h0 hv⟩
 ·exact cat_tup ht hb hv (h1 hv) (h2 hv) hsz
end
end HT
namespace L2
open PySem PySem.Spec PyProof.Rows
section
variable {X : Cx}
def rSlA (K : PySem.W.Frag) : V → Option Int → Option Int → Hp → VK → Prop := fun x lo hi H Q => ∃ a xs, x = .ref a ∧ SqT K H a xs ∧
 ((HT.sIx xs.length 0 lo = 0 ∧ HT.sIx xs.length xs.length hi = xs.length) → Q (.ref a) H) ∧
 (¬ (HT.sIx xs.length 0 lo = 0 ∧ HT.sIx xs.length xs.length hi = xs.length) → ∀ p, H p = none → Q (.ref p) (upd H p (.tup (cutV xs lo hi))))
theorem sl_tupA : SlR X (rSlA X.K) := by
 intro pins s σ H x v vl vu lo hi sl Q I rx hs pl pu h
 obtain ⟨a, xs, rfl, hx, q1, q2⟩ := h
 by_cases hw : HT.sIx xs.length 0 lo = 0 ∧ HT.sIx xs.length xs.length hi = xs.length
 ·cases rx
  obtain ⟨its, r, ht, hz⟩ := I.tuple hx
  have hlen : its.toArray.size = xs.length := by rw [List.size_toArray]; exact r.length.symm
  refine ⟨"tuple", _, PyProof.Rows.slot_tuple_getitem.lookup, ht.typeIs, ?_⟩
  exact HT.getItem_tuple_whole ht hs pl pu (by rw [hlen]; exact hw) ⟨.ref a, H, I, rfl, q1 hw⟩
 ·exact sl_tup pins s σ H (.ref a) v vl vu lo hi sl Q I rx hs pl pu ⟨a, xs, rfl, hx, hw, q2 hw⟩
def rCatA (K : PySem.W.Frag) : R2 := fun x y H Q => ∃ a b xs ys, x = .ref a ∧ y = .ref b ∧ SqT K H a xs ∧ SqT K H b ys ∧ xs.length + ys.length ≤ sizeLine ∧
 (xs = [] → Q (.ref b) H) ∧ (xs ≠ [] → ys = [] → Q (.ref a) H) ∧ (xs ≠ [] → ys ≠ [] → ∀ p, H p = none → Q (.ref p) (upd H p (.tup (xs ++ ys))))
theorem op_catA : OpR X (binaryOp .Add) (rCatA X.K) := by
 intro pins s σ H x y v u Q I rx ry h
 obtain ⟨a, b, xs, ys, rfl, rfl, ha, hb, hz, q0, q1, q2⟩ := h
 cases rx
 cases ry
 obtain ⟨its, r1, p1, _⟩ := I.tuple ha
 obtain ⟨its2, r2, p2, _⟩ := I.tuple hb
 refine HT.cat_tupA p1 p2 (fun z => ⟨.ref b, H, I, rfl, q0 (r1.nil_iff.mp z)⟩) (fun n z => ⟨.ref a, H, I, rfl, q1 (fun z => n (r1.nil_iff.mpr z)) (r2.nil_iff.mp z)⟩) (fun n z => ?_) (by rw [← r1.length, ← r2.length]; exact hz)
 refine ⟨.ref s.heap.objs.size, _, I.laid (t' := s.toks) (o := .tup (xs ++ ys)) (fun b ob q => Heap.get?_push_of_some _ q) (Nat.le_refl _) ?_, rfl, q2 (fun z => n (r1.nil_iff.mpr z)) (fun w => z (r2.nil_iff.mpr w)) _ (I.hok.fresh (Nat.le_refl _))⟩
 exact ⟨by rw [List.length_append]; exact hz, _, r1.append r2, IsTup.new _ _⟩
def rNil (K : PySem.W.Frag) (neg : Bool) : R2 := fun x y H Q => ∃ a b xs, x = .ref a ∧ y = .ref b ∧ SqL K H a xs ∧ SqL K H b [] ∧ Q (.bl (if neg then !xs.isEmpty else xs.isEmpty)) H
theorem op_eqN (hu : X.A.units < cLine) : OpR X (compareOp .Eq) (rNil X.K false) := by
 intro pins s σ H x y v u Q I rx ry h
 obtain ⟨a, b, xs, rfl, rfl, ha, hb, q⟩ := h
 cases rx
 cases ry
 obtain ⟨its, r1, p1, _⟩ := I.list ha
 obtain ⟨its2, r2, p2, _⟩ := I.list hb
 cases r2
 cases xs with
 | nil =>
  cases r1
  exact SeqAt.eq_listAt (e := fun _ => true) p1.isList p2.isList rfl hu (fun j h1 _ => absurd h1 (Nat.not_lt_zero _)) ⟨.bl true, H, I, rfl, q⟩
 | cons c l =>
  cases r1 with
  | cons r0 r1 => exact SeqAt.eq_list_lengthsAt p1.isList p2.isList (by simp) hu ⟨.bl false, H, I, rfl, q⟩
theorem op_neN (hu : X.A.units < cLine) : OpR X (compareOp .NotEq) (rNil X.K true) := by
 intro pins s σ H x y v u Q I rx ry h
 obtain ⟨a, b, xs, rfl, rfl, ha, hb, q⟩ := h
 cases rx
 cases ry
 obtain ⟨its, r1, p1, _⟩ := I.list ha
 obtain ⟨its2, r2, p2, _⟩ := I.list hb
 cases r2
 cases xs with
 | nil =>
  cases r1
  exact SeqAt.RcNeAt.lists (e := fun _ => true) p1.isList p2.isList rfl hu (fun j h1 _ => absurd h1 (Nat.not_lt_zero _)) X.prog X.w X.xe _ ⟨.bl false, H, I, rfl, q⟩
 | cons c l =>
  cases r1 with
  | cons r0 r1 => exact SeqAt.RcNeAt.lists_lengths p1.isList p2.isList (by simp) hu X.prog X.w X.xe _ ⟨.bl true, H, I, rfl, q⟩
end
section
variable {K : PySem.W.Frag} {a : Addr} {xs : List V} {fr : List Nat} {tt : TT} {te : TE} {σ : St} {H1 : Hp} {R : Addr → List V → Hp → Prop}
abbrev CompGoal (J : It) (fr : List Nat) (tt : TT) (te : TE) (σ : St) (H1 : Hp) (R : Addr → List V → Hp → Prop) : Prop :=
 ∃ W : Nat → Nat → List V → Hp → Prop, (∃ m, W 0 m [] H1) ∧ ∀ i m ys H2, W i m ys H2 →
 (J.stop i H2 ∧ ys.length ≤ sizeLine ∧ ∀ l, H2 l = none → R l ys H2) ∨
 (J.go i H2 ∧ ys.length < sizeLine ∧ ∀ v H3, J.yld i H2 v H3 → tt (some v :: slotsOf fr σ) H3 fun b H4 =>
  if b = true then te (some v :: slotsOf fr σ) H4 (fun y H5 => ∃ m', m' < m ∧ W (i + 1) m' (ys ++ [y]) H5) else ∃ m', m' < m ∧ W (i + 1) m' ys H4)
theorem comp_tup (Pv : Nat → List V → Hp → Prop) (hx : xs.length < sizeLine) (h0 : Pv 0 [] H1) (hl : ∀ i ys H, i ≤ xs.length → Pv i ys H → SqT K H a xs ∧ ys.length ≤ i)
  (hs : ∀ (i : Nat) (x : V) (ys : List V) (H : Hp) (N : List V → Hp → Prop), xs[i]? = some x → Pv i ys H → (∀ ys' H', Pv (i + 1) ys' H' → N ys' H') →
   tt (some x :: slotsOf fr σ) H fun b H4 => if b = true then te (some x :: slotsOf fr σ) H4 (fun y H5 => N (ys ++ [y]) H5) else N ys H4)
  (hd : ∀ ys H, Pv xs.length ys H → ∀ l, H l = none → R l ys H) : CompGoal (Itt K a) fr tt te σ H1 R := by
 refine ⟨fun i m ys H => m = xs.length - i ∧ i ≤ xs.length ∧ Pv i ys H, ⟨xs.length, by simp, Nat.zero_le _, h0⟩, ?_⟩
 rintro i m ys H ⟨rfl, hi, p⟩
 obtain ⟨q, hy⟩ := hl i ys H hi p
 by_cases hlt : i < xs.length
 ·refine .inr ⟨⟨xs, _, q, List.getElem?_eq_getElem hlt⟩, by omega, ?_⟩
  rintro v H3 ⟨rfl, hv⟩
  exact hs i v ys H3 (fun ys' H' => ∃ m', m' < xs.length - i ∧ m' = xs.length - (i + 1) ∧ i + 1 ≤ xs.length ∧ Pv (i + 1) ys' H') (hv xs q) p fun ys' H' p' => ⟨_, by omega, rfl, hlt, p'⟩
 ·have e : i = xs.length := by omega
  subst e
  exact .inl ⟨⟨xs, q, Nat.le_refl _⟩, by omega, hd ys H p⟩
theorem comp_list (Pv : Nat → List V → Hp → Prop) (hx : xs.length < sizeLine) (h0 : Pv 0 [] H1) (hl : ∀ i ys H, i ≤ xs.length → Pv i ys H → SqL K H a xs ∧ ys.length ≤ i)
  (hs : ∀ (i : Nat) (x : V) (ys : List V) (H : Hp) (N : List V → Hp → Prop), xs[i]? = some x → Pv i ys H → (∀ ys' H', Pv (i + 1) ys' H' → N ys' H') →
   tt (some x :: slotsOf fr σ) H fun b H4 => if b = true then te (some x :: slotsOf fr σ) H4 (fun y H5 => N (ys ++ [y]) H5) else N ys H4)
  (hd : ∀ ys H, Pv xs.length ys H → ∀ l, H l = none → R l ys H) : CompGoal (Itl K a) fr tt te σ H1 R := by
 refine ⟨fun i m ys H => m = xs.length - i ∧ i ≤ xs.length ∧ Pv i ys H, ⟨xs.length, by simp, Nat.zero_le _, h0⟩, ?_⟩
 rintro i m ys H ⟨rfl, hi, p⟩
 obtain ⟨q, hy⟩ := hl i ys H hi p
 by_cases hlt : i < xs.length
 ·refine .inr ⟨⟨xs, _, q, List.getElem?_eq_getElem hlt⟩, by omega, ?_⟩
  rintro v H3 ⟨rfl, hv⟩
  exact hs i v ys H3 (fun ys' H' => ∃ m', m' < xs.length - i ∧ m' = xs.length - (i + 1) ∧ i + 1 ≤ xs.length ∧ Pv (i + 1) ys' H') (hv xs q) p fun ys' H' p' => ⟨_, by omega, rfl, hlt, p'⟩
 ·have e : i = xs.length := by omega
  subst e
  exact .inl ⟨⟨xs, q, Nat.le_refl _⟩, by omega, hd ys H p⟩
theorem comp_str {z : Str} (Pv : Nat → List V → Hp → Prop) (hx : z.cps.size < sizeLine) (h0 : Pv 0 [] H1) (hl : ∀ i ys H, i ≤ z.cps.size → Pv i ys H → ys.length ≤ i)
  (hs : ∀ (i : Nat) (c : Nat) (ys : List V) (H : Hp) (N : List V → Hp → Prop), z.cps[i]? = some c → Pv i ys H → (∀ ys' H', Pv (i + 1) ys' H' → N ys' H') →
   tt (some (.str ⟨#[c]⟩) :: slotsOf fr σ) H fun b H4 => if b = true then te (some (.str ⟨#[c]⟩) :: slotsOf fr σ) H4 (fun y H5 => N (ys ++ [y]) H5) else N ys H4)
  (hd : ∀ ys H, Pv z.cps.size ys H → ∀ l, H l = none → R l ys H) : CompGoal (Its z) fr tt te σ H1 R := by
 refine ⟨fun i m ys H => m = z.cps.size - i ∧ i ≤ z.cps.size ∧ Pv i ys H, ⟨z.cps.size, by simp, Nat.zero_le _, h0⟩, ?_⟩
 rintro i m ys H ⟨rfl, hi, p⟩
 have hy := hl i ys H hi p
 by_cases hlt : i < z.cps.size
 ·refine .inr ⟨hlt, by omega, ?_⟩
  rintro v H3 ⟨rfl, c, hc, rfl⟩
  exact hs i c ys H3 (fun ys' H' => ∃ m', m' < z.cps.size - i ∧ m' = z.cps.size - (i + 1) ∧ i + 1 ≤ z.cps.size ∧ Pv (i + 1) ys' H') hc p fun ys' H' p' => ⟨_, by omega, rfl, hlt, p'⟩
 ·have e : i = z.cps.size := by omega
  subst e
  exact .inl ⟨rfl, by omega, hd ys H p⟩
end
section
variable {X : Cx}
end
section
variable {P : Program} {w : World} {A : Around} {E : Value → Shared → Prop} {z : Shared}
theorem nextOf_tup {j p : Addr} {k : Nat} {its : Array Value} {y : Value} {Q : Value → Shared → Prop} (g : z.heap.IsTupleIter j p k) (gp : z.heap.IsTuple p its) (gy : its[k]? = some y)
  (q : ∀ h', h'.IsTupleIter j p (k + 1) → Heap.SameBut j z.heap h' → Q y { z with heap := h' }) : wpAny (model P w) A (Builtin.SmallTypes.nextOf (.ref j)) Q E z := by
 obtain ⟨ob, g0, g1, g2⟩ := id g
 obtain ⟨op, p0, _, np, p2⟩ := gp
 unfold Builtin.SmallTypes.nextOf
 refine wpAny_bind (wpAny_callSpecial?_slot (name := Str.ofString "__next__") g.typeIs F.slot_tuple_iterator_next (wpAny_call_entry F.slot_tuple_iterator_next g.typeIs F.entry_tuple_iterator_next ?_ (F.args_tuple_iterator_next_1 _)))
 show wpAny _ _ (field (.ref j) 0 >>= _) _ _ z
 refine wpAny_bind (wpAny_field g0 g2 (x := .ref p) rfl ?_)
 show wpAny _ _ (if (Value.ref p == Value.none) = true then _ else _) _ _ z
 rw [if_neg (show ¬ ((Value.ref p == Value.none) = true) from Bool.false_ne_true)]
 show wpAny _ _ (field (.ref j) 1 >>= _) _ _ z
 refine wpAny_bind (wpAny_field g0 g2 (x := .int k 0) rfl ?_)
 show wpAny _ _ (seqItems? (.ref p) >>= _) _ _ z
 refine wpAny_bind (wpAny_seqItems p0 p2 ?_)
 simp only [Int.toNat_natCast, gy]
 refine wpAny_bind (wpAny_setField g0 g2 (by simp) (wpAny_pure ⟨y, rfl, wpAny_pure (q _ ?_ (Heap.SameBut.update ..))⟩))
 exact ⟨_, Heap.get?_update_self _ g0 (Obj.isFreed_of_fields (Obj.data_mapFields g2 _)), (Obj.cls_mapFields ..).trans g1, by rw [Obj.data_mapFields g2]; simp [rawInt]⟩
theorem nextOf_tup_end {j p : Addr} {k : Nat} {its : Array Value} {Q : Value → Shared → Prop} (hd : A.handled = none) (g : z.heap.IsTupleIter j p k) (gp : z.heap.IsTuple p its) (gy : its[k]? = none)
  (q : ∀ h' e, Heap.ExtBut j z.heap h' → (∃ o, h'.get? e = some o ∧ o.cls = .type "StopIteration") → E (.ref e) { z with heap := h' }) : wpAny (model P w) A (Builtin.SmallTypes.nextOf (.ref j)) Q E z := by
 obtain ⟨ob, g0, g1, g2⟩ := id g
 obtain ⟨op, p0, _, np, p2⟩ := gp
 unfold Builtin.SmallTypes.nextOf
 refine wpAny_bind (wpAny_callSpecial?_slot (name := Str.ofString "__next__") g.typeIs F.slot_tuple_iterator_next (wpAny_call_entry F.slot_tuple_iterator_next g.typeIs F.entry_tuple_iterator_next ?_ (F.args_tuple_iterator_next_1 _)))
 show wpAny _ _ (field (.ref j) 0 >>= _) _ _ z
 refine wpAny_bind (wpAny_field g0 g2 (x := .ref p) rfl ?_)
 show wpAny _ _ (if (Value.ref p == Value.none) = true then _ else _) _ _ z
 rw [if_neg (show ¬ ((Value.ref p == Value.none) = true) from Bool.false_ne_true)]
 show wpAny _ _ (field (.ref j) 1 >>= _) _ _ z
 refine wpAny_bind (wpAny_field g0 g2 (x := .int k 0) rfl ?_)
 show wpAny _ _ (seqItems? (.ref p) >>= _) _ _ z
 refine wpAny_bind (wpAny_seqItems p0 p2 ?_)
 simp only [Int.toNat_natCast, gy]
 refine wpAny_bind (wpAny_rule (wpAny_bind (wpAny_setField g0 g2 (by simp) ?_)))
 show wpAny _ _ (newExc (.type "StopIteration") [] >>= _) _ _ _
 refine wpAny_bind ?_
 simp only [newExc, newTuple]
 refine wpAny_bind (wpAny_newObj_type ?_ (by size_fits))
 refine wpAny_bind (m := firstArgMember _ _) (wpAny_of_eq (a := Value.none) (by first | rfl | (simp only [firstArgMember]; rfl)) ?_)
 refine wpAny_newObj_type ?_ (by size_fits)
 simp only [raiseNew]
 refine wpAny_bind (wpAny_handled ?_)
 first | rw [show A.in1.handled = none from hd] | rw [hd]
 refine wpAny_bind (wpAny_pure (wpAny_throw ?_))
 exact q _ _ (((Heap.SameBut.update ..).extBut.push _).push _) ⟨_, Heap.get?_push_size _ rfl, rfl⟩
theorem draws_tup (hd : A.handled = none) (j p : Addr) (hne : p ≠ j) (its : Array Value) :
  Draws P w A j [j, p] its.size (fun k v => its[k]? = some v) (fun k h => h.IsTupleIter j p k ∧ h.IsTuple p its) where
 live := fun _ _ st => let ⟨o, ho, _⟩ := st.1; ⟨o, ho⟩
 frame := fun _ _ _ st hk => by
  obtain ⟨⟨o, ho, r⟩, o', ho', r'⟩ := st
  exact ⟨⟨o, hk j (by simp) o ho, r⟩, o', hk p (by simp) o' ho', r'⟩
 item := fun k s Q E hi st hQ => nextOf_tup st.1 st.2 (y := its[k]) (by simp [hi]) fun h' st' hs' => hQ _ h' s.toks (by simp [hi]) ⟨st', st.2.extBut hs'.extBut hne⟩ hs'
 done := fun s Q E st hE => nextOf_tup_end hd st.1 st.2 (by simp) hE
theorem enum_newT (p : Addr) (its : Array Value) (n : Nat) (dd : Option Addr) (sl : Array (Option Value)) :
  Meets (Builtin.«enumerate.__new__» ⟨[.type "enumerate", .ref p], []⟩) (fun _ R s => s.heap.get? p = some { cls := .type "tuple", dict := dd, data := .seq its n, slots := sl } ∧
   R (.ok (.ret (.ref (s.heap.push { cls := .type "tuple_iterator", data := .fields #[.ref p, .int 0 0] }).objs.size)))
    { s with heap := (s.heap.push { cls := .type "tuple_iterator", data := .fields #[.ref p, .int 0 0] }).push { cls := .type "enumerate", data := .fields #[.none, .bool false, .ref s.heap.objs.size, rawInt 0, .none, .none] } }) :=
 .of_wp fun prog w A R s h => by
  obtain ⟨hp, g, d, tk, os⟩ := s
  obtain ⟨hl, h⟩ := h
  have hsub := sub_enumerate
  have hT : Heap.IsTuple (Shared.heap ⟨hp, g, d, tk, os⟩) p its := ⟨_, hl, rfl, n, rfl⟩
  wp_walk using AutoSeq1.wpAny_loadPart' hl
  refine wpAny_stack_any fun st => wpAny_pure ?_
  split
  ·rename_i c _ _ _ _ _
   cases (c == Value.type "enumerate")
   ·wp_walk using AutoSeq1.wpAny_loadPart' hl, wpAny_pyIter_tuple hT
    exact ⟨_, rfl, h⟩
   ·wp_walk using AutoSeq1.wpAny_loadPart' hl, wpAny_pyIter_tuple hT
    exact ⟨_, rfl, h⟩
  ·wp_walk using AutoSeq1.wpAny_loadPart' hl, wpAny_pyIter_tuple hT
   exact ⟨_, rfl, h⟩
theorem call_enumT {p : Addr} {its : Array Value} {Q : Value → Shared → Prop} (hT : z.heap.IsTuple p its)
  (q : ∀ h', IsEnum h' (z.heap.objs.size + 1) z.heap.objs.size 0 .none → h'.IsTupleIter z.heap.objs.size p 0 → (∀ b o, z.heap.get? b = some o → h'.get? b = some o) → Q (.ref (z.heap.objs.size + 1)) { z with heap := h' }) :
  wpAny (model P w) A (call (.type "enumerate") [.ref p]) Q E z := by
 obtain ⟨⟨c, dct, dt, sl⟩, hl, hc, n, hd⟩ := hT
 replace hc : c = .type "tuple" := hc
 replace hd : dt = .seq its n := hd
 subst hc hd
 refine callType_new F.called_enumerate (by decide) (F.typeCall_enumerate_1 _) (F.newCall_enumerate_1 _) (fun obj => F.args_object_init_2 obj _) F.entry_enumerate_new (enum_newT p its n dct sl) ⟨hl, ?_⟩
 have hz : (z.heap.push { cls := .type "tuple_iterator", data := .fields #[.ref p, .int 0 0] }).objs.size = z.heap.objs.size + 1 := Heap.size_push ..
 show _ ∧ _
 rw [hz]
 have he : IsEnum ((z.heap.push { cls := .type "tuple_iterator", data := .fields #[.ref p, .int 0 0] }).push { cls := .type "enumerate", data := .fields #[.none, .bool false, .ref z.heap.objs.size, rawInt 0, .none, .none] }) (z.heap.objs.size + 1) z.heap.objs.size 0 .none := by
  have := Heap.get?_push_size (z.heap.push { cls := .type "tuple_iterator", data := .fields #[.ref p, .int 0 0] }) (o := { cls := .type "enumerate", data := .fields #[.none, .bool false, .ref z.heap.objs.size, rawInt 0, .none, .none] }) rfl
  rw [hz] at this
  exact this
 exact ⟨⟨_, he, rfl⟩, q _ he ⟨_, Heap.get?_push_of_some _ (Heap.get?_push_size _ rfl), rfl, rfl⟩ fun b o x => Heap.get?_push_of_some _ (Heap.get?_push_of_some _ x)⟩
end
section
variable {X : Cx} {pins : List (Addr × Obj)} {σ : St} {H : Hp} {s : Shared} {h' : Heap}
theorem Inv.turned2 {t' : Nat} {e j p : Addr} {xs : List V} {us : List Value} (I : Inv X pins σ H s) (k : ∀ b o, b ≠ e → b ≠ j → s.heap.get? b = some o → h'.get? b = some o) (fe : FpOk X pins H e) (fj : FpOk X pins H j)
  (hp : s.heap.objs.size ≤ p) (ht : IsTup h' p us.toArray) (r : Vals xs us) (hz : xs.length ≤ sizeLine) : Inv X pins σ (upd H p (.tup xs)) { s with heap := h', toks := t' } := by
 have hn := I.hok.fresh hp
 have fp := I.fpOk hp hn
 have nH : ∀ b u, H b = some u → b ≠ e ∧ b ≠ j ∧ b ≠ p := fun b u g => ⟨(fun z => by rw [z, fe.1] at g; cases g), (fun z => by rw [z, fj.1] at g; cases g), fun z => by rw [z, hn] at g; cases g⟩
 refine I.step (g' := s.gens) (d' := s.drawn) (ch := [e, j, p]) (fun b hb => ?_) (fun b o _ _ hc g _ => k b o (fun z => hc (by simp [z])) (fun z => hc (by simp [z])) g) (fun b o _ _ hc g _ => ⟨o.slots, k b o (fun z => hc (by simp [z])) (fun z => hc (by simp [z])) g⟩)
  (fun b o hc g n => by rw [upd_ne fun z => hc (by simp [z])]; exact n) (fun b o hc g => ⟨o, k b o (fun z => hc (by simp [z])) (fun z => hc (by simp [z])) g⟩)
  (fun b ys g => by rw [upd_ne (nH b _ g).2.2]; exact g) (fun b o u g => by rw [upd_ne (nH b _ g).2.2]; exact g) (fun b ps g => ⟨#[], by rw [upd_ne (nH b _ g).2.2, g]; simp⟩) (fun m hm => ?_) (fun b u g => ?_) I.bare
 ·have hb' : b = e ∨ b = j ∨ b = p := by simpa using hb
  rcases hb' with rfl | rfl | rfl
  ·exact ⟨fe.2.2.2.1, fe.2.1, fe.2.2.2.2.1, fe.2.2.2.2.2⟩
  ·exact ⟨fj.2.2.2.1, fj.2.1, fj.2.2.2.2.1, fj.2.2.2.2.2⟩
  ·exact ⟨fp.2.2.2.1, fp.2.1, fp.2.2.2.2.1, fp.2.2.2.2.2⟩
 ·obtain ⟨o, es, ep, ho, r'⟩ := hm
  exact ⟨o, es, ep, k _ o (Ne.symm fe.2.1) (Ne.symm fj.2.1) ho, r'⟩
 ·by_cases hb : b = p
  ·subst hb
   rw [upd_same] at g
   cases g
   exact ⟨hz, us, r, ht⟩
  ·rw [upd_ne hb] at g
   refine (I.hok b u g).stay (fun c v hc q => ?_) (fun c q => ?_) fun c ys q => ?_
   ·rcases hc with z | z
    ·rw [z]
     rw [z] at q
     exact k b v (nH b _ g).1 (nH b _ g).2.1 q
    ·exact k c v (nH c _ z).1 (nH c _ z).2.1 q
   ·rw [upd_ne (nH c _ q).2.2]
    exact q
   ·rw [upd_ne (nH c _ q).2.2]
    exact q
theorem enum_item {D : Addr → Prop} {E : Value → Shared → Prop} {e j : Addr} {fp : List Addr} {n i : Nat} {Pv : Nat → Value → Prop} {St' : Nat → Heap → Prop} {old : Value} {elts : List Expr} {kk : Nat} {ps : Pos} {y : V}
  (W : Draws X.prog X.w X.A.in1 j fp n Pv St') (he : IsEnum s.heap e j i old) (st : St' i s.heap) (hi : i < n) (hne : e ≠ j) (hef : e ∉ fp) (I : Inv X pins σ H s) (fe : FpOk X pins H e) (fj : FpOk X pins H j) (hP : ∀ u, Pv i u → RelV y u) :
  wpAny (model X.prog X.w) X.A (pyNext (.ref e)) (fun r s1 => ∃ u, r = some u ∧
   wpAny (model X.prog X.w) X.A (letOwnedTupleGo (.Tuple elts kk ps) (.ref e) u) (fun _ s2 => ∃ p, u = .ref p ∧ H p = none ∧ Inv X pins σ (upd H p (.tup [.int i, y])) s2 ∧ (∃ old', IsEnum s2.heap e j ((i : Int) + 1) old') ∧ St' (i + 1) s2.heap ∧ e ≠ p ∧ j ≠ p) E s1) E s := by
 refine wpAny_pyNext_enum_itemD W he st hi hne hef fun x h1 tk hx ho st1 hT hsz hk => ?_
 refine ⟨_, rfl, wpAny_letOwnedTupleGo_enum ho fun h2 he2 hs2 => ?_⟩
 have hel : e < s.heap.objs.size := Heap.lt_size he
 have hjl : j < s.heap.objs.size := by
  obtain ⟨o, z⟩ := W.live _ _ st
  exact Heap.lt_size z
 have hs2' : Heap.SameBut e h1 h2 := hs2
 have hT2 : IsTup h2 s.heap.objs.size ([.int (i : Int) tk, x] : List Value).toArray := ⟨_, hs2'.extBut _ _ (Nat.ne_of_gt hel) hT, rfl, _, rfl⟩
 refine ⟨s.heap.objs.size, rfl, I.hok.fresh (Nat.le_refl _), I.turned2 (t' := tk + 1) (e := e) (j := j) (fun b o n1 n2 g => hs2'.extBut b o n1 (hk b o n1 n2 g)) fe fj (Nat.le_refl _) hT2 (.cons ⟨tk, rfl⟩ (.cons (hP x hx) .nil)) (by show 2 ≤ sizeLine; decide), ⟨_, he2⟩, ?_, Nat.ne_of_lt hel, Nat.ne_of_lt hjl⟩
 exact W.frame _ _ _ st1 fun b hb o g => hs2'.extBut b o (fun z => hef (z ▸ hb)) g
end
def IteT (K : PySem.W.Frag) (a : Addr) : It :=
 ⟨fun i H => ∃ xs x, SqT K H a xs ∧ xs[i]? = some x, fun i H x H' => ∃ p y, x = .ref p ∧ H p = none ∧ H' = upd H p (.tup [.int i, y]) ∧ ∀ xs, SqT K H a xs → xs[i]? = some y, fun i H => ∃ xs, SqT K H a xs ∧ xs.length = i⟩
theorem cls_ne {h : Heap} {a b : Addr} {o o' : Obj} (e : h.get? a = some o) (e' : h.get? b = some o') (n : o.cls ≠ o'.cls) : a ≠ b := fun z => by
 rw [z, e'] at e
 cases e
 exact n rfl
theorem turn_enumT {P : Program} {w : World} {K : PySem.W.Frag} {elts : List Expr} {kk : Nat} {ps : Pos} (a e j : Addr) : Turn P w K (.Tuple elts kk ps) (IteT K a) [e, j] e (fun i h => (∃ old, IsEnum h e j i old) ∧ h.IsTupleIter j a i ∧ e ≠ j) where
 mem := by simp
 obj := fun i h st b hb => by
  obtain ⟨⟨old, he⟩, ⟨o, g, c, d⟩, _⟩ := st
  have hb' : b = e ∨ b = j := by simpa using hb
  rcases hb' with rfl | rfl
  ·exact ⟨_, he, fun v z => by cases z⟩
  ·exact ⟨o, g, fun v z => by rw [d] at z; cases z⟩
 keep := fun i h h' st k => by
  obtain ⟨⟨old, he⟩, ⟨o, g, r⟩, n⟩ := st
  exact ⟨⟨old, k e (by simp) _ he⟩, ⟨o, k j (by simp) o g, r⟩, n⟩
 item := by
  intro X hP hw hK hc i pins s σ H E I hf st hg
  subst hP hw hK
  obtain ⟨xs, x, hq, hx⟩ := hg
  obtain ⟨its, rv, pl, hz⟩ := I.tuple hq
  have pt : s.heap.IsTuple a its.toArray := pl
  obtain ⟨⟨old, he⟩, hj, hne⟩ := st
  have hl := rv.length
  have hil : i < xs.length := (List.getElem?_eq_some_iff.mp hx).1
  obtain ⟨o0, g0, c0, _⟩ := id pt
  obtain ⟨o1, g1, c1, _⟩ := id hj
  have nae : a ≠ e := cls_ne g0 he (by rw [c0]; show Value.type "tuple" ≠ Value.type "enumerate"; decide)
  have naj : a ≠ j := cls_ne g0 g1 (by rw [c0, c1]; decide)
  have W := draws_tup (P := X.prog) (w := X.w) (A := X.A.in1) (show X.A.in1.handled = none from I.ok.hd hc) j a naj its.toArray
  refine thn (enum_item (D := fun _ => True) (y := x) W he ⟨hj, pt⟩ (by rw [List.size_toArray]; omega) hne (by simp [hne, nae.symm]) I (hf e (by simp)) (hf j (by simp)) fun u hu => ?_) fun r s1 ⟨u, er, h1⟩ => ⟨u, er, thn h1 fun _ s2 ⟨p, eu, hp, I2, he2, st2, n1, n2⟩ => ?_⟩
  ·obtain ⟨u', hu', ru⟩ := rv.get hx
   have hu2 : its[i]? = some u := by simpa using hu
   rw [hu2] at hu'
   cases hu'
   exact ru
  ·subst eu
   refine ⟨.ref p, _, I2, rfl, ⟨p, x, rfl, hp, rfl, fun ys hy => by rw [I.tuple_inj hy hq]; exact hx⟩, ⟨he2, st2.1, hne⟩, fun b hb => ?_⟩
   have hb' : b = e ∨ b = j := by simpa using hb
   rcases hb' with rfl | rfl
   ·rw [upd_ne n1]; exact (hf b (by simp)).1
   ·rw [upd_ne n2]; exact (hf b (by simp)).1
 done := by
  intro X hP hw hK hc i pins s σ H E I hf st hg
  subst hP hw hK
  obtain ⟨xs, hq, hx⟩ := hg
  obtain ⟨its, rv, pl, hz⟩ := I.tuple hq
  have pt : s.heap.IsTuple a its.toArray := pl
  obtain ⟨⟨old, he⟩, hj, hne⟩ := st
  have hl := rv.length
  obtain ⟨o0, g0, c0, _⟩ := id pt
  obtain ⟨o1, g1, c1, _⟩ := id hj
  have naj : a ≠ j := cls_ne g0 g1 (by rw [c0, c1]; decide)
  have ei : i = its.toArray.size := by rw [List.size_toArray]; omega
  subst ei
  obtain ⟨f0, f1, f2, f3, f4, f5⟩ := hf j (by simp)
  have W := draws_tup (P := X.prog) (w := X.w) (A := X.A.in1) (show X.A.in1.handled = none from I.ok.hd hc) j a naj its.toArray
  exact wpAny_pyNext_enum_endD W he ⟨hj, pt⟩ fun h' eb => ⟨rfl, I.turned (t' := s.toks) (fun b o hb g => eb b o hb g) f0 f1 f3 f4 f5⟩
 self := fun _ _ _ _ _ st h => by
  obtain ⟨⟨old, he⟩, _⟩ := st
  exact wpAny_pyIter_enum he h
section
variable {X : Cx} {elts : List Expr} {kk : Nat} {ps : Pos}
def iEnumT (K : PySem.W.Frag) (ta : TA) : TI := fun σ H R => ta σ H fun vs H1 => ∃ a, vs = [.ref a] ∧ (∃ xs, SqT K H1 a xs) ∧ R (IteT K a) H1
theorem enum_fp {pins : List (Addr × Obj)} {σ : St} {H : Hp} {s : Shared} (I : Inv X pins σ H s) : ∀ b ∈ [s.heap.objs.size + 1, s.heap.objs.size], FpOk X pins H b := fun b hb => by
 have hb' : b = s.heap.objs.size + 1 ∨ b = s.heap.objs.size := by simpa using hb
 rcases hb' with rfl | rfl
 ·exact I.fpOk (Nat.le_succ _) (I.hok.fresh (Nat.le_succ _))
 ·exact I.fpOk (Nat.le_refl _) (I.hok.fresh (Nat.le_refl _))
theorem pi_enumT {a : Expr} {ta : TA} {p pos : Pos} (hg : Gl X "enumerate") (hm : X.mg "enumerate" = none) (ha : PA X [a] ta) (hs : starEach [a] X.env = [(false, eval a X.env)] := by rfl) : PI X (.Tuple elts kk ps) (.Call (.Name "enumerate" p) [a] [] pos) (iEnumT X.K ta) := by
 intro pins s σ H R I h
 refine Call_ (ld_blt I hg hm boot_enumerate (PyProof.Rows.callWith_type1 (thn (ha pos pins s σ H _ I h) fun us s1 ⟨vs, H1, I1, r1, q1⟩ => ?_) hs rfl))
 obtain ⟨l, e, ⟨xs, hq⟩, q⟩ := q1
 subst e
 obtain ⟨u, rfl, ru⟩ := vals1 r1
 cases ru
 obtain ⟨its, rv, pl, hz⟩ := I1.tuple hq
 refine call_enumT (show s1.heap.IsTuple l its.toArray from pl) fun h' he hj hk => ?_
 have I2 : Inv X pins σ H1 { s1 with heap := h' } := I1.kept (t' := s1.toks) hk
 refine wpAny_pyIter_enum he ?_
 exact ⟨_, _, _, _, H1, rfl, I2, turn_enumT l _ s1.heap.objs.size, ⟨⟨_, he⟩, hj, Nat.succ_ne_self _⟩, enum_fp I1, q⟩
end
theorem for_enumT {K : PySem.W.Frag} {a : Addr} {xs : List V} {g : TG} {tb : TS} {D : Ends} {σ : St} {H : Hp} (Pv : Nat → St → Hp → Prop) (h0 : Pv 0 σ H) (hl : ∀ i σ H, i ≤ xs.length → Pv i σ H → SqT K H a xs)
  (hs : ∀ i x p σ H, xs[i]? = some x → Pv i σ H → H p = none → g (.ref p) σ (upd H p (.tup [.int i, x])) fun σ2 H2 => tb { D with nx := Pv (i + 1), ct := Pv (i + 1), bk := D.nx } σ2 H2) (hd : ∀ σ H, Pv xs.length σ H → D.nx σ H) :
  ∃ W : Nat → Nat → St → Hp → Prop, (∃ m, W 0 m σ H) ∧ ∀ i m σ H, W i m σ H →
   ((IteT K a).stop i H ∧ D.nx σ H) ∨ ((IteT K a).go i H ∧ ∃ N : St → Hp → Prop, (∀ σ' H', N σ' H' → ∃ m', m' < m ∧ W (i + 1) m' σ' H') ∧ ∀ x H', (IteT K a).yld i H x H' → g x σ H' fun σ2 H2 => tb { D with nx := N, ct := N, bk := D.nx } σ2 H2) := by
 refine ⟨fun i m σ H => m = xs.length - i ∧ i ≤ xs.length ∧ Pv i σ H, ⟨xs.length, by simp, Nat.zero_le _, h0⟩, ?_⟩
 rintro i m σ H ⟨rfl, hi, p⟩
 have q := hl i σ H hi p
 by_cases hlt : i < xs.length
 ·refine .inr ⟨⟨xs, xs[i], q, by simp [hlt]⟩, Pv (i + 1), fun σ' H' p' => ⟨xs.length - (i + 1), by omega, rfl, hlt, p'⟩, fun x H' y => ?_⟩
  obtain ⟨r, z, rfl, hr, rfl, y⟩ := y
  exact hs i z r σ H (y xs q) p hr
 ·have e : i = xs.length := by omega
  subst e
  exact .inl ⟨⟨xs, q, rfl⟩, hd σ H p⟩
def tSetC (j : Nat) (t : TE) : TS := fun D σ H => t σ H fun v H1 => D.nx (σ.set j (some v)) H1
section
variable {X : Cx}
theorem ps_setCompG {elt iter : Expr} {x y : Str} {px py spos : Pos} {ifs : List Expr} {scope : Scope} {pos : Pos} {wi : TI} {fs : List Str} {fr : List Nat} {tt : TT} {te : TE} {j : Nat} (hN : X.N.Nodup) (hj : X.N[j]? = some y) (hy : X.env.scope.names.lookup y = some .local)
  (hc : X.calm = true) (S : CompSc X scope x fs fr) (hi : PI X (.Name x px) iter wi)
  (ht : ∀ C s H ex, CT (compX X (x :: fs) scope C s H ex) ifs tt) (he : ∀ C s H ex, PE (compX X (x :: fs) scope C s H ex) elt te) (hs : ∀ z, foldedSetIterable iter X.env z = pure z := by intro _; rfl)
  (hsw : swapsWith (.ListComp elt [⟨.Name x px, iter, ifs, 0⟩] scope pos) (some (.Name y py)) spos.line X.env = pure true := by rfl) :
  PS X (.Assign [.Name y py] (.ListComp elt [⟨.Name x px, iter, ifs, 0⟩] scope pos) spos) (tSetC j (tComp wi fr tt te)) := by
 intro pins s σ H D I h
 obtain ⟨Q, eQ⟩ : ∃ Q : VK, Q = fun v H1 => D.nx (σ.set j (some v)) H1 := ⟨_, rfl⟩
 have h : tComp wi fr tt te σ H Q := by rw [eQ]; exact h
 rw [exec_Assign_Name_used _ _ _ _ hsw]
 refine wpAny_bind (wpAny_standAt (wpAny_bind ?_))
 show wpAny _ _ (comprehension (.ListComp elt [⟨.Name x px, iter, ifs, 0⟩] scope pos) scope X.env _ (newList []) false (eval iter X.env) (some (assign (.Name y py) X.env)) >>= fun _ => pure ()) _ _ s
 refine wpAny_bind (wpAny_mono (wpAny_comprehension_free (use := some (assign (.Name y py) X.env)) (Q := fun _ s' => SP X pins D .next s') rfl hs (closureFor_some fun n hn => I.ok.has n (.inl (S.free n hn).1)) S.kind S.names ?_) (fun _ s' hq => wpAny_pure (wpAny_pure hq)) fun _ _ e => e)
 refine thn (hi pins s σ H _ I h) fun v s1 h1 => thn h1 fun itv s2 h2 => ?_
 obtain ⟨it, fp, tn, J, H2, e, I2, T, st2, f2, W, ⟨m0, w0⟩, turn⟩ := h2
 subst e
 have hlt : ∀ b ∈ fp, b < s2.heap.objs.size := fun b hb => by
  obtain ⟨o, e, _⟩ := T.obj 0 _ st2 b hb
  exact Heap.lt_size e
 refine wpAny_newObj_type (wpAny_newFunctionEnv S.nocell (by intro y hy; simp at hy) (fun h4 hns4 hsb4 => ?_) S.kind)
 dsimp only at hns4 hsb4 ⊢
 generalize hH3 : s2.heap.push { cls := .type "list", dict := none, data := .seq ([] : List Value).toArray } = g3 at hns4 hsb4 ⊢
 have hC : g3.objs.size = s2.heap.objs.size + 1 := by rw [← hH3, Heap.size_push]
 have old3 : ∀ b o, s2.heap.get? b = some o → g3.get? b = some o := fun b o e => hH3 ▸ Heap.get?_push_of_some _ e
 have I3 : Inv X pins σ H2 { s2 with heap := g3 } := I2.kept (t' := s2.toks) old3
 have acc3 : g3.get? s2.heap.objs.size = some (lobj [] 0) := hH3 ▸ Heap.get?_push_size _ rfl
 have old4 : ∀ b o, g3.get? b = some o → h4.get? b = some o := fun b o e => hsb4.extBut b o (Nat.ne_of_lt (Heap.lt_size e)) (Heap.get?_push_of_some _ e)
 have ok := comp_ok (s := { s2 with heap := g3 }) (D := s2.heap.objs.size) (fp := fp) S I2 I3 rfl hC hlt f2
 have I4 := comp_inv (t := s2.toks + ([] : List (Str × Value)).length) S I3 ok hns4 old4
 -- what stays true of the list's place and the iterator's
 have dne := ok.exf s2.heap.objs.size List.mem_cons_self
 have dnf := ok.exfs s2.heap.objs.size List.mem_cons_self
 have fpok : ∀ {H' : Hp} {vs : List Value} {k : Nat}, (∀ b ∈ fp, H' b = none) → ∀ b ∈ fp, FpOk (compX X (x :: fs) scope g3.objs.size { s2 with heap := g3 } H2 (s2.heap.objs.size :: fp)) [(s2.heap.objs.size, lobj vs k)] H' b := fun {H' vs k} hn b hb => by
  have q := ok.exf b (List.mem_cons_of_mem _ hb)
  refine ⟨hn b hb, q.1, ok.exfs b (List.mem_cons_of_mem _ hb), .inl (List.mem_cons_of_mem _ hb), q.2, fun p hp => ?_⟩
  have e : p = (s2.heap.objs.size, lobj vs k) := by simpa using hp
  rw [e]
  exact Nat.ne_of_gt (hlt b hb)
 have start : Inv (compX X (x :: fs) scope g3.objs.size { s2 with heap := g3 } H2 (s2.heap.objs.size :: fp)) [(s2.heap.objs.size, lobj [] 0)] (none :: slotsOf fr σ) H2 { s2 with heap := h4, toks := s2.toks + ([] : List (Str × Value)).length } :=
  I4.pins_of fun p hp => by
   have e : p = (s2.heap.objs.size, lobj [] 0) := by simpa using hp
   subst e
   exact ⟨old4 _ _ acc3, I2.hok.fresh (Nat.le_refl _), dne.1, dnf, fun v z => by cases z⟩
 have stn : tn 0 h4 := T.keep 0 _ _ st2 fun b _ o e => old4 b o (old3 b o e)
 -- the end of the block
 have fin : ∀ {i : Nat} {σ0 : Option V} {H' : Hp} {ys : List V} {vs : List Value} {k : Nat} {s' : Shared}, Inv (compX X (x :: fs) scope g3.objs.size { s2 with heap := g3 } H2 (s2.heap.objs.size :: fp)) [(s2.heap.objs.size, lobj vs k)] (σ0 :: slotsOf fr σ) H' s' → Vals ys vs → ys.length ≤ sizeLine →
   (∀ l, H' l = none → Q (.ref l) (upd H' l (.lst ys))) → wpAny (model X.prog X.w) X.A (assign (.Name y py) X.env (.ref s2.heap.objs.size)) (fun _ s'' => ∃ m, s''.heap.Ns g3.objs.size m ∧ ∀ h', Heap.SameBut g3.objs.size s''.heap h' → SP X pins D .next { s'' with heap := h' }) X.xe s' := by
  intro i σ0 H' ys vs k s' J1 rv hz q
  obtain ⟨m, hn, _⟩ := id J1.loc
  have below : ∀ y c, X.env.cells.lookup y = some c → c < s2.heap.objs.size := fun y c z => by
   obtain ⟨v, q⟩ := I2.cell y c z
   exact q.lt
  have pbelow : ∀ p ∈ X.pn ++ pins, p.1 < s2.heap.objs.size := fun p hp => Heap.lt_size (I2.pin p hp).1
  have I5 : Inv X pins σ H' s' := I3.call' (ch := s2.heap.objs.size :: fp) J1.os J1.base J1.hok J1.bare fun b hb => by
   rcases List.mem_cons.mp hb with e | hb
   ·rw [e]
    exact ⟨.inr I2.sz, Nat.ne_of_gt I2.lt, fun y c z => Nat.ne_of_lt (below y c z), fun p hp => Nat.ne_of_lt (pbelow p hp)⟩
   ·exact ⟨(f2 b hb).2.2.2.1, (f2 b hb).2.1, (f2 b hb).2.2.2.2.1, (f2 b hb).2.2.2.2.2⟩
  have szC : s2.heap.objs.size < g3.objs.size := by omega
  obtain ⟨eD, nD, _⟩ := J1.pin (s2.heap.objs.size, lobj vs k) (by simp)
  have I7 := I5.adopt nD eD rv hz I2.sz (Nat.ne_of_gt I2.lt) (fun y c z => Nat.ne_of_lt (below y c z)) (fun p hp => Nat.ne_of_lt (pbelow p hp))
  refine wpAny_assign_Name (store_ok2 (v := .ref s2.heap.objs.size) I7 hN hj (.inl hy) rfl (fun s3 I8 ⟨a, sb, ha⟩ => ⟨m, hn.sameBut sb ?_, fun h' sb' => ?_⟩) (.inr hy))
  ·rcases ha with e | e
   ·rw [e]
    exact Nat.ne_of_gt (Nat.lt_trans I2.lt szC)
   ·exact Nat.ne_of_gt (Nat.lt_trans (below _ _ e) szC)
  ·have nC : upd H' s2.heap.objs.size (.lst ys) g3.objs.size = none := by
    rw [upd_ne (Nat.ne_of_gt szC)]
    exact J1.free
   have I9 : Inv X pins (σ.set j (some (.ref s2.heap.objs.size))) (upd H' s2.heap.objs.size (.lst ys)) { s3 with heap := h' } := I8.turned (t' := s3.toks) (it := g3.objs.size) (fun b o hb e => sb'.extBut b o hb e) nC (Nat.ne_of_gt (Nat.lt_trans I2.lt szC)) (.inr (Nat.le_of_lt (Nat.lt_of_le_of_lt I2.sz szC)))
    (fun y c z => Nat.ne_of_lt (Nat.lt_trans (below y c z) szC)) (fun p hp => Nat.ne_of_lt (Nat.lt_trans (pbelow p hp) szC))
   have q' := q _ nD
   rw [eQ] at q'
   exact ⟨_, _, I9, q'⟩
 have loop : ∀ s4 : Shared, s4 = { s2 with heap := h4, toks := s2.toks + ([] : List (Str × Value)).length } →
   codeAny (model X.prog X.w) X.A (.compLoop (.ListComp elt [⟨.Name x px, iter, ifs, 0⟩] scope pos) 0 (.ref it) (.ref s2.heap.objs.size) (compEnvC scope (clOf scope X.env) g3.objs.size X.env))
    (compPost (model X.prog X.w) X.A X.xe (some (assign (.Name y py) X.env)) (fun _ s' => SP X pins D .next s') (.ref s2.heap.objs.size) g3.objs.size) s4 := by
  rintro s4 rfl
  refine codeAny_compLoop_tests (fun n s' => ∃ i σ0 H' ys vs k, Inv (compX X (x :: fs) scope g3.objs.size { s2 with heap := g3 } H2 (s2.heap.objs.size :: fp)) [(s2.heap.objs.size, lobj vs k)] (σ0 :: slotsOf fr σ) H' s' ∧ tn i s'.heap ∧ (∀ b ∈ fp, H' b = none) ∧ Vals ys vs ∧ W i n ys H') ?_ m0
   ⟨0, none, H2, [], [], 0, start, stn, fun b hb => (f2 b hb).1, .nil, w0⟩
  rintro n s' ⟨i, σ0, H', ys, vs, k, J1, st, fr1, rv, w1⟩
  rcases turn i n ys H' w1 with ⟨stop, hz, q⟩ | ⟨go, hz, step⟩
  ·refine thn (T.done (compX X (x :: fs) scope g3.objs.size { s2 with heap := g3 } H2 (s2.heap.objs.size :: fp)) rfl rfl rfl hc i _ s' _ H' _ J1 (fpok fr1) st stop) fun r s5 ⟨hr, J2⟩ => ?_
   subst hr
   exact fin (i := i) J2 rv hz q
  ·refine thn (T.item (compX X (x :: fs) scope g3.objs.size { s2 with heap := g3 } H2 (s2.heap.objs.size :: fp)) rfl rfl rfl hc i _ s' _ H' _ J1 (fpok fr1) st go) fun r s5 ⟨u, hr, h5⟩ => ?_
   subst hr
   change wpAny _ _ (letOwnedTupleGo (.Name x px) (.ref it) u >>= fun _ => assign (.Name x px) (compEnvC scope (clOf scope X.env) g3.objs.size X.env) u) _ _ s5
   refine wpAny_bind (thn h5 fun _ s6 ⟨v, H6, J6, r6, y6, st6, fr6⟩ => ?_)
   have J6' := J6.pinned (fp := fp) (fpok fr6) (T.obj _ _ st6)
   have loc := lookup_relabel_local (env := X.env) S.loc
   refine wpAny_mono (pg_name (i := 0) S.nd rfl (.inl loc) (.inr loc) _ s6 _ H6 v u (fun σ' H' => σ' = some v :: slotsOf fr σ ∧ H' = H6) J6' r6 ⟨rfl, rfl⟩) (fun _ s7 ⟨σ7, H7, J7, e7, e7'⟩ => ?_) (fun _ _ z => z.elim)
   subst e7 e7'
   have pfp : ∀ {σ8 : St} {H8 : Hp} {s8 : Shared}, Inv (compX X (x :: fs) scope g3.objs.size { s2 with heap := g3 } H2 (s2.heap.objs.size :: fp)) ([(s2.heap.objs.size, lobj vs k)] ++ pinsAt fp s6.heap) σ8 H8 s8 →
     tn (i + 1) s8.heap ∧ ∀ b ∈ fp, H8 b = none := fun {σ8 H8 s8} J8 => by
    refine ⟨T.keep _ _ _ st6 fun b hb o e => (J8.pin (b, o) (List.mem_append_right _ (List.mem_append_right _ (mem_pinsAt hb e)))).1, fun b hb => ?_⟩
    obtain ⟨o, e, d⟩ := T.obj _ _ st6 b hb
    exact (J8.pin (b, o) (List.mem_append_right _ (List.mem_append_right _ (mem_pinsAt hb e)))).2.1
   refine wpAny_mono (ht _ _ _ _ _ s7 _ H7 _ J7 (step v H7 y6)) (fun ok8 s8 ⟨H8, J8, q8⟩ => ?_) (fun _ _ z => z.elim)
   cases ok8 with
   | false =>
    rw [if_neg Bool.false_ne_true] at q8
    rw [if_neg Bool.false_ne_true]
    obtain ⟨m', hm, w8⟩ := q8
    obtain ⟨t8, n8⟩ := pfp J8
    exact ⟨m', hm, i + 1, some v, H8, ys, vs, k, J8.unpinned, t8, n8, rv, w8⟩
   | true =>
    rw [if_pos rfl] at q8
    rw [if_pos rfl]
    refine wpAny_mono (he _ _ _ _ _ s8 _ H8 _ J8 q8) (fun y s9 ⟨yv, H9, J9, r9, m', hm, w9⟩ => ?_) (fun _ _ z => z.elim)
    obtain ⟨t9, n9⟩ := pfp J9
    obtain ⟨eD, nD, _⟩ := J9.pin (s2.heap.objs.size, lobj vs k) (by simp)
    have hl := rv.length
    refine call_meets F.slot_list_append ⟨_, eD, rfl⟩ F.entry_list_append (F.args_list_append_2 _ _) (PySem.list_append s2.heap.objs.size vs.toArray k y (by rw [List.size_toArray]; omega)) ⟨eD, ?_⟩
    have eN := PySem.IsL.update (h := s9.heap) (l := s2.heap.objs.size) (items := vs.toArray) (n := k) eD (·.push y)
    have eV : vs.toArray.push y = (vs ++ [y]).toArray := by simp
    rw [eV] at eN
    obtain ⟨k', eN⟩ : ∃ k', (s9.heap.update s2.heap.objs.size (Obj.mapSeq (·.push y))).get? s2.heap.objs.size = some (lobj (vs ++ [y]) k') := ⟨_, eN⟩
    have K9 : Inv (compX X (x :: fs) scope g3.objs.size { s2 with heap := g3 } H2 (s2.heap.objs.size :: fp)) [] (some v :: slotsOf fr σ) H9 s9 := J9.pins_of fun p hp => absurd hp (by simp)
    have K10 : Inv (compX X (x :: fs) scope g3.objs.size { s2 with heap := g3 } H2 (s2.heap.objs.size :: fp)) [] (some v :: slotsOf fr σ) H9 { s9 with heap := s9.heap.update s2.heap.objs.size (Obj.mapSeq (·.push y)) } :=
     K9.turned (t' := s9.toks) (it := s2.heap.objs.size) (fun b o hb e => (Heap.get?_update_other s9.heap (Obj.mapSeq (·.push y)) (Ne.symm hb)).trans e) nD dne.1 (.inl List.mem_cons_self) dne.2 (fun p hp => absurd hp (by simp))
    refine ⟨m', hm, i + 1, some v, H9, ys ++ [yv], vs ++ [y], k', K10.pins_of fun p hp => ?_, T.keep _ _ _ t9 fun b hb o e => (Heap.get?_update_other s9.heap (Obj.mapSeq (·.push y)) (Nat.ne_of_gt (hlt b hb))).trans e, n9, rv.append (.cons r9 .nil), w9⟩
    have e : p = (s2.heap.objs.size, lobj (vs ++ [y]) k') := List.mem_singleton.mp hp
    rw [e]
    exact ⟨eN, nD, dne.1, dnf, fun v z => by cases z⟩
 exact codeAny_compStart_list (loop _ rfl) (T.self X.A 0 _ _ _ stn (loop _ rfl))
theorem ps_setComp {elt iter : Expr} {x y : Str} {px py spos : Pos} {scope : Scope} {pos : Pos} {wi : TI} {fs : List Str} {fr : List Nat} {te : TE} {j : Nat} (hN : X.N.Nodup) (hj : X.N[j]? = some y) (hy : X.env.scope.names.lookup y = some .local)
  (hc : X.calm = true) (S : CompSc X scope x fs fr) (hi : PI X (.Name x px) iter wi)
  (he : ∀ C s H ex, PE (compX X (x :: fs) scope C s H ex) elt te) (hs : ∀ z, foldedSetIterable iter X.env z = pure z := by intro _; rfl)
  (hsw : swapsWith (.ListComp elt [⟨.Name x px, iter, [], 0⟩] scope pos) (some (.Name y py)) spos.line X.env = pure true := by rfl) :
  PS X (.Assign [.Name y py] (.ListComp elt [⟨.Name x px, iter, [], 0⟩] scope pos) spos) (tSetC j (tComp wi fr tTrue te)) := ps_setCompG hN hj hy hc S hi (fun _ _ _ _ => ct_nil) he hs hsw
theorem ps_setCompIf {elt iter c : Expr} {x y : Str} {px py spos : Pos} {scope : Scope} {pos : Pos} {wi : TI} {fs : List Str} {fr : List Nat} {tc : TT} {te : TE} {j : Nat} (hN : X.N.Nodup) (hj : X.N[j]? = some y) (hy : X.env.scope.names.lookup y = some .local)
  (hc : X.calm = true) (S : CompSc X scope x fs fr) (hi : PI X (.Name x px) iter wi)
  (ht : ∀ C s H ex, PT (compX X (x :: fs) scope C s H ex) c tc) (he : ∀ C s H ex, PE (compX X (x :: fs) scope C s H ex) elt te) (hs : ∀ z, foldedSetIterable iter X.env z = pure z := by intro _; rfl)
  (hsw : swapsWith (.ListComp elt [⟨.Name x px, iter, [c], 0⟩] scope pos) (some (.Name y py)) spos.line X.env = pure true := by rfl) :
  PS X (.Assign [.Name y py] (.ListComp elt [⟨.Name x px, iter, [c], 0⟩] scope pos) spos) (tSetC j (tComp wi fr tc te)) := ps_setCompG hN hj hy hc S hi (fun C s H ex => ct_one (ht C s H ex)) he hs hsw
end
section
variable {X : Cx} {K : PySem.W.Frag}
theorem sl_listK (h : X.K = K := by rfl) : SlR X (rSlL K) := h ▸ sl_list
end
section
variable {prog : Program} {w : World} {A : Around} {E : Value → Shared → Prop}
theorem dp_list_getattr : typeLookup (.type "list") "__getattr__" = pure none := by rw [typeLookup_type, builtinLookup_eq_fast]; kernel_rfl
theorem dp_list_keys : typeLookup (.type "list") "keys" = pure none := by rw [typeLookup_type, builtinLookup_eq_fast]; kernel_rfl
theorem dp_miss {a : Addr} {its : Array Value} {n : Nat} {sl} {u : Tok} {h : Heap} {g : Array GenState} {d : Drawn} {t : Nat} {os : OsState} {Q : Fin → Shared → Prop} (hx : h.get? a = some { cls := .type "list", dict := none, data := .seq its n, slots := sl }) (hA : A.handled = none)
  (k : ∀ h' tk e, Heap.NewAttrErr h h' e (.ref a) "keys" → E (.ref e) ⟨h', g, d, tk, os⟩) :
  wpAny (model prog w) A (Builtin.«object.__getattribute__» ⟨[.ref a, .str "keys" u], []⟩) Q E ⟨h, g, d, t, os⟩ := by
 have hT : (⟨h, g, d, t, os⟩ : Shared).TypeIs (.ref a) "list" := ⟨_, hx, rfl⟩
 have f4 := dp_list_keys
 unfold Builtin.«object.__getattribute__»
 repeat (any_goals (first | (assumption) | (wp_step)))
 refine wpAny_raiseAttrError hA k ?_
 exact attrMsg_fits (by decide +kernel) (by size_fits)
theorem dp_call {a : Addr} {its : Array Value} {n : Nat} {sl} {u : Tok} {h : Heap} {g : Array GenState} {d : Drawn} {t : Nat} {os : OsState} {R : Result → Shared → Prop} (hx : h.get? a = some { cls := .type "list", dict := none, data := .seq its n, slots := sl }) (hA : A.handled = none)
  (k : ∀ h' tk e, Heap.NewAttrErr h h' e (.ref a) "keys" → R (.error (.ref e)) ⟨h', g, d, tk, os⟩) :
  codeAny (model prog w) A (.call (.builtin "list.__getattribute__") ⟨[.ref a, .str "keys" u], []⟩) R ⟨h, g, d, t, os⟩ :=
 codeAny_call_builtin F.slot_list_getattribute.plain F.entry_list_ga (F.slot_list_getattribute.check _ _ _ _ _ _ _ _ (show (⟨h, g, d, t, os⟩ : Shared).TypeIs (.ref a) "list" from ⟨_, hx, rfl⟩) (F.args_list_getattribute_2 _ _) (dp_miss hx hA k))
theorem dp_by {a : Addr} {its : Array Value} {n : Nat} {sl} {u : Tok} {h : Heap} {g : Array GenState} {d : Drawn} {t : Nat} {os : OsState} {Q : Value → Shared → Prop} (hx : h.get? a = some { cls := .type "list", dict := none, data := .seq its n, slots := sl }) (hA : A.handled = none)
  (k : ∀ h' tk e, Heap.NewAttrErr h h' e (.ref a) "keys" → E (.ref e) ⟨h', g, d, tk, os⟩) :
  wpAny (model prog w) A (getAttrBy (.ref a) (.str "keys" u) false) Q E ⟨h, g, d, t, os⟩ := by
 have hT : (⟨h, g, d, t, os⟩ : Shared).TypeIs (.ref a) "list" := ⟨_, hx, rfl⟩
 have g2 := F.slot_list_getattribute.lookup
 have g3 := F.slot_list_getattribute.bind (.ref a)
 have f5 := dp_list_getattr
 have f1 := sub_AttributeError
 repeat (any_goals (first | (assumption) | (wp_step)))
 refine dp_call hx hA fun h' tk e ne => ?_
 obtain ⟨t', u', he⟩ := ne.there
 show wpAny (model prog w) A (getattributeRaised (.ref a) (.str "keys" u) _ _ _ _ _) _ _ _
 unfold getattributeRaised
 repeat (any_goals (first | (assumption) | (wp_step)))
 exact k _ _ _ ne
theorem dp_attr {a : Addr} {its : Array Value} {n : Nat} {sl} {h : Heap} {g : Array GenState} {d : Drawn} {t : Nat} {os : OsState} {Q : Option Value → Shared → Prop} (hx : h.get? a = some { cls := .type "list", dict := none, data := .seq its n, slots := sl }) (hA : A.handled = none)
  (k : ∀ h' tk e, Heap.NewAttrErr h h' e (.ref a) "keys" → Q none ⟨h', g, d, tk, os⟩) :
  wpAny (model prog w) A (getAttr? (.ref a) "keys") Q E ⟨h, g, d, t, os⟩ := by
 have f1 := sub_AttributeError
 unfold getAttr? getAttrBy?
 repeat (any_goals (first | assumption | (with_reducible refine dp_by hx hA fun h' tk e ne => ?_) | wp_step))
 obtain ⟨t', u', he⟩ := ne.there
 repeat (any_goals (first | (assumption) | (wp_step)))
 exact k _ _ _ ne
theorem Paired.at' {α β : Type} {F : α → β → Prop} : ∀ {l₁ : List α} {l₂ : List β} {i : Nat} {x : α}, Paired F l₁ l₂ → l₁[i]? = some x → ∃ y, l₂[i]? = some y ∧ F x y
 | _, _, _, _, .nil, e => by simp at e
 | _, _, 0, _, .cons r _, e => by simp at e; subst e; exact ⟨_, rfl, r⟩
 | _, _, i + 1, x, .cons _ t, e => by
  obtain ⟨y, h1, h2⟩ := Paired.at' (i := i) (x := x) t (by simpa using e)
  exact ⟨y, by simpa using h1, h2⟩
theorem dp_entry : entryFor table "dict.update.loop" = some Builtin.«dict.update.loop» := entryFor_of_tree (by kernel_rfl)
def PairAt (prog : Program) (w : World) (h0 : Heap) (x : Value) (kv : Key × Value) : Prop := ∃ t o n ku, x = .ref t ∧ h0.get? t = some o ∧ o.cls = .type "tuple" ∧ o.data = .seq #[ku, kv.2] n ∧ (mixKind prog w).is kv.1 ku = true
theorem dp_loop {l d it : Addr} {items : List Value} {h0 : Heap} {pairs : List (Key × Value)} {R : Result → Shared → Prop} (hA : A.handled = none) (hd0 : h0.get? d = none) (hi0 : h0.get? it = none) (hdi : d ≠ it)
  (hl : h0.IsList l items.toArray) (hp : Paired (PairAt prog w h0) items pairs) (hsz : pairs.length ≤ sizeLine) (g : Array GenState) (dr : Drawn) (os : OsState)
  (k : ∀ h' tk, (∀ b o, h0.get? b = some o → h'.get? b = some o) → h'.DictOf (mixKind prog w) d (merged [] pairs) → R (.ok (.ret .none)) ⟨h', g, dr, tk, os⟩) :
  ∀ (m i : Nat) (h : Heap) (tk : Nat), items.length - i = m → i ≤ items.length → (∀ b o, h0.get? b = some o → h.get? b = some o) → h.IsListIter it l i → h.DictOf (mixKind prog w) d (merged [] (pairs.take i)) →
   codeAny (model prog w) A (.builtin "dict.update.loop" ⟨[.ref d, .ref it, rawInt i, .none], []⟩) R ⟨h, g, dr, tk, os⟩ := by
 intro m
 have lp : items.length = pairs.length := Paired.length hp
 induction m with
 | zero =>
  intro i h tk em hi kp hit hd
  have ei : i = items.length := by omega
  refine codeAny_builtin dp_entry ?_
  unfold Builtin.«dict.update.loop»
  obtain ⟨ol, hol, hlc, nl, hld⟩ := hl
  show wpAny _ _ (pyNext (.ref it) >>= _) _ _ _
  refine wpAny_bind (wpAny_pyNext_list_end (show (A.under _).handled = none from hA) hit ⟨ol, kp _ _ hol, hlc, nl, hld⟩ (by rw [ei]; simp) fun h' hs => ?_)
  show wpAny _ _ (Builtin.Dict.addKeywords d [] >>= _) _ _ _
  refine wpAny_bind (wpAny_pure (wpAny_pure ?_))
  rw [ei, lp, List.take_length] at hd
  exact k h' _ (fun b o hb => hs b o (fun e => by rw [e, hi0] at hb; cases hb) (kp b o hb)) (hd.extBut hs hdi)
 | succ m ih =>
  intro i h tk em hi kp hit hd
  have hlt : i < items.length := by omega
  obtain ⟨x, hx⟩ : ∃ x, items[i]? = some x := ⟨_, List.getElem?_eq_getElem hlt⟩
  obtain ⟨kv, hkv, t, o, n, ku, rfl, hto, htc, htd, hku⟩ := Paired.at' hp hx
  refine codeAny_builtin dp_entry ?_
  unfold Builtin.«dict.update.loop»
  obtain ⟨ol, hol, hlc, nl, hld⟩ := hl
  show wpAny _ _ (pyNext (.ref it) >>= _) _ _ _
  refine wpAny_bind (wpAny_pyNext_list_item hit ⟨ol, kp _ _ hol, hlc, nl, hld⟩ (x := .ref t) (by simpa using hx) fun h1 hit1 hs1 => ?_)
  have kp1 : ∀ b o, h0.get? b = some o → h1.get? b = some o := fun b o hb => (hs1.2 b (fun e => by rw [e, hi0] at hb; cases hb)).trans (kp b o hb)
  have hd1 := hd.sameBut hs1 hdi
  refine wpAny_bind (wpAny_holding (wpAny_bind (wpAny_tryCatch ?_)))
  unfold Builtin.Dict.pairItems
  refine wpAny_bind (wpAny_typeOf (T := "tuple") ⟨o, kp1 _ _ hto, htc⟩ ?_)
  rw [if_pos (by decide)]
  refine wpAny_bind (wpAny_seqItems (kp1 _ _ hto) htd (wpAny_pure ?_))
  show wpAny _ _ (holding [ku, kv.2] (dictSet d ku kv.2)) _ _ _
  have lm : (merged [] (pairs.take i)).length ≤ sizeLine := by
   have e1 := merged_length_le [] (pairs.take i)
   rw [List.length_take] at e1
   simp only [List.length_nil] at e1
   omega
  refine wpAny_holding (wpAny_dictSet_pairs (hsz := lm) hku hd1 fun h2 hd2 hs2 => ?_)
  refine wpAny_pure ⟨Code.quiet_builtin _ (by decide +kernel), ?_⟩
  have hit2 : h2.IsListIter it l (i + 1) := by
   obtain ⟨oi, hoi, r⟩ := hit1
   exact ⟨oi, (hs2.2 it (Ne.symm hdi)).trans hoi, r⟩
  have kp2 : ∀ b o, h0.get? b = some o → h2.get? b = some o := fun b o hb => (hs2.2 b (fun e => by rw [e, hd0] at hb; cases hb)).trans (kp1 b o hb)
  exact ih (i + 1) h2 _ (by omega) hlt kp2 hit2 (by rw [merged_take_succ [] pairs i kv hkv]; exact hd2)
theorem dp_dict {p : Addr} {items : List Value} {pairs : List (Key × Value)} {s : Shared} {Q : Value → Shared → Prop} (hA : A.handled = none) (pl : PlainL s.heap p items.toArray) (hp : Paired (PairAt prog w s.heap) items pairs) (hsz : pairs.length ≤ sizeLine)
  (k : ∀ h' tk, (∀ b o, s.heap.get? b = some o → h'.get? b = some o) → h'.DictOf (mixKind prog w) s.heap.objs.size (merged [] pairs) → Q (.ref s.heap.objs.size) { s with heap := h', toks := tk }) :
  wpAny (model prog w) A (call (.type "dict") [.ref p]) Q E s := by
 refine callType_codes (Q₁ := fun v1 z1 => v1 = .ref s.heap.objs.size ∧ z1 = { s with heap := s.heap.push { cls := .type "dict", data := .dict #[] } }) F.kt_called_dict (F.kt_typeCall_dict_1 _) F.entry_dict_init (kt_code_dict_new _ ⟨rfl, rfl⟩) ?_
 rintro v1 z1 ⟨rfl, rfl⟩
 obtain ⟨hp0, g, dr, tk, os⟩ := s
 obtain ⟨⟨oc, od, oda, osl⟩, n, ho, hc, hdn, hdd⟩ := pl
 have hc : oc = .type "list" := hc
 have hdn : od = none := hdn
 have hdd : oda = .seq items.toArray n := hdd
 subst hc hdn hdd
 have hnew : (hp0.push { cls := .type "dict", data := .dict #[] }).DictOf (mixKind prog w) hp0.objs.size [] := Heap.DictOf.new hp0
 have ho1 := Heap.get?_push_of_some { cls := .type "dict", data := .dict #[] } ho
 refine ⟨hnew.typeIs, F.args_dict_init_2 _ _, ?_⟩
 unfold Builtin.«dict.__init__»
 refine wpAny_bind ?_
 unfold Builtin.Dict.selfAndRest
 refine wpAny_bind (wpAny_notOrdered_dict hnew.typeIs (wpAny_pure ?_))
 show wpAny (model prog w) _ (Builtin.Dict.updateFrom "dict.__init__" hp0.objs.size (.ref p) [] .none) _ _ _
 unfold Builtin.Dict.updateFrom
 refine wpAny_bind (wpAny_typeOf (T := "list") ⟨_, ho1, rfl⟩ ?_)
 rw [if_pos (by decide)]
 refine wpAny_bind (dp_attr ho1 hA fun h2 tk2 e ne => ?_)
 rw [if_pos (by decide)]
 refine wpAny_bind (wpAny_rule ?_)
 have ho2 := ne.keeps _ _ ho1
 refine wpAny_bind (wpAny_pyIter_list (items := items.toArray) ⟨_, ho2, rfl, n, rfl⟩ ?_)
 have kp : ∀ b o, hp0.get? b = some o → (h2.push { cls := .type "list_iterator", data := .fields #[.ref p, .int 0 0] }).get? b = some o := fun b o hb => Heap.get?_push_of_some _ (ne.keeps _ _ (Heap.get?_push_of_some _ hb))
 have hd2 : h2.DictOf (mixKind prog w) hp0.objs.size [] := by
  obtain ⟨o', es, ep, h', r⟩ := hnew
  exact ⟨o', es, ep, ne.keeps _ _ h', r⟩
 have ld : hp0.objs.size < h2.objs.size := by
  obtain ⟨o', es, ep, h', r⟩ := hd2
  exact Heap.lt_size h'
 refine wpAny_pure ⟨Code.quiet_builtin _ (by decide +kernel), ?_⟩
 refine dp_loop (l := p) (d := hp0.objs.size) (it := h2.objs.size) (items := items) (h0 := hp0) (pairs := pairs) (show A.in1.handled = none from hA) (Heap.get?_none_of_le (Nat.le_refl _)) (Heap.get?_none_of_le (Nat.le_of_lt ld)) (Nat.ne_of_lt ld) ⟨_, ho, rfl, n, rfl⟩ hp hsz g dr os (fun h' tk' kp' hd' => ⟨rfl, k h' tk' kp' hd'⟩) items.length 0 _ _ rfl (Nat.zero_le _) kp ?_ (hd2.push _)
 exact ⟨_, Heap.get?_push_size _ rfl, rfl, rfl⟩
end
section
variable {X : Cx}
def rDictP (K : PySem.W.Frag) : List V → Hp → VK → Prop := fun xs H Q => ∃ p ys kvs, xs = [.ref p] ∧ SqL K H p ys ∧ Paired (fun (y : V) (kv : Key × V) => ∃ t, y = .ref t ∧ H t = some (.tup [kV kv.1, kv.2])) ys kvs ∧ ∀ d, H d = none → Q (.ref d) (upd H d (.dK (mergeK [] kvs)))
theorem pairs_of {P : Program} {w : World} {H : Hp} {h : Heap} (ok : HOk P w H h) : ∀ {ys : List V} {us : List Value} {kvs : List (Key × V)}, Vals ys us → Paired (fun (y : V) (kv : Key × V) => ∃ t, y = .ref t ∧ H t = some (.tup [kV kv.1, kv.2])) ys kvs → ∃ ps, Paired (PairAt P w h) us ps ∧ KV kvs ps
 | _, _, _, .nil, .nil => ⟨[], .nil, .nil⟩
 | _, _, _, .cons (b := u) r t, .cons (b := kv) ⟨a, ea, ha⟩ q => by
  obtain ⟨ps, h1, h2⟩ := pairs_of ok t q
  subst ea
  cases (show u = Value.ref a from r)
  obtain ⟨_, its, ri, o, e1, e2, n, e3⟩ := (show ObjOk P w H h a (.tup [kV kv.1, kv.2]) from ok a _ ha)
  match its, ri with
  | [ku, vu], .cons rk (.cons rv .nil) => exact ⟨(kv.1, vu) :: ps, .cons ⟨a, o, n, ku, rfl, e1, e2, e3, kV_is rk⟩ h1, .cons ⟨rfl, rv⟩ h2⟩
theorem call_dict_pairs (hA : X.A.handled = none) : CallR X (.type "dict") (rDictP X.K) := by
 intro pins s σ H xs us Q I r h
 obtain ⟨p, ys, kvs, rfl, hq, hk, q⟩ := h
 obtain ⟨u, rfl, rx⟩ := vals1 r
 cases rx
 obtain ⟨its, r', pl, hz⟩ := I.list hq
 obtain ⟨ps, h1, h2⟩ := pairs_of I.hok r' hk
 have l1 : its.length = ps.length := Paired.length h1
 have l2 := r'.length
 refine dp_dict hA pl h1 (by omega) fun h' tk kp hd => ?_
 have rel : KV (mergeK [] kvs) (merged [] ps) := KV.merge h2 .nil
 have lz : (mergeK [] kvs).length ≤ sizeLine := by
  have e1 := merged_length_le [] ps
  rw [rel.length]
  simp only [List.length_nil] at e1
  omega
 exact ⟨.ref s.heap.objs.size, _, I.laid (t' := tk) kp (Nat.le_refl _) (dk_new lz (beq_eq_false_iff_ne.mpr (Ne.symm (Nat.ne_of_lt I.big))) rel hd), rfl, q _ (I.hok.fresh (Nat.le_refl _))⟩
end
section
variable {prog : Program} {w : World} {A : Around} {s : Shared} {R : Result → Shared → Prop}
theorem comp_loopT {elt tg iter : Expr} {ifs : List Expr} {scope : Scope} {pos : Pos} {it acc : Value} {env : Env} (Iv : Nat → Shared → Prop)
  (turn : ∀ n z, Iv n z → wpAny (model prog w) A (pyNext it) (fun r z1 => match r with
   | none => R (.ok .next) z1
   | some v => wpAny (model prog w) A (letOwnedTupleGo tg it v) (fun _ y2 => wpAny (model prog w) A (assign tg env v) (fun _ z2 =>
     wpAny (model prog w) A (forIn ifs true fun c r => if r = true then do let ok ← isTrue c env (eval c env); pure (ForInStep.yield ok) else pure (ForInStep.yield r)) (fun ok z3 =>
      if ok = true then wpAny (model prog w) A (eval elt env) (fun x z4 =>
       wpAny (model prog w) A (call (.builtin "list.append") [acc, x]) (fun _ z5 => ∃ m, m < n ∧ Iv m z5) (notedBy (model prog w) A env fun e z' => R (.error e) z') z4) (notedBy (model prog w) A env fun e z' => R (.error e) z') z3
      else ∃ m, m < n ∧ Iv m z3) (notedBy (model prog w) A env fun e z' => R (.error e) z') z2) (notedBy (model prog w) A env fun e z' => R (.error e) z') y2) (notedBy (model prog w) A env fun e z' => R (.error e) z') z1) (notedBy (model prog w) A env fun e z' => R (.error e) z') z)
  (n : Nat) (h : Iv n s) : codeAny (model prog w) A (.compLoop (.ListComp elt [⟨tg, iter, ifs, 0⟩] scope pos) 0 it acc env) R s := by
 refine codeAny_loop rfl Iv (fun n z hI => ?_) n h
 show wpAny (model prog w) A ((compTurn (.ListComp elt [⟨tg, iter, ifs, 0⟩] scope pos) 0 it acc env).onRaise (fun x => do noteFrame x env; theTreesLotGoes x)) _ _ z
 refine wpAny_noted ?_
 rw [compTurn_list]
 refine wpAny_bind (wpAny_standAt (wpAny_bind (wpAny_mono (turn n z hI) (fun r z1 q1 => ?_) fun _ _ q => q)))
 cases r with
 | none => exact wpAny_pure q1
 | some v =>
  refine wpAny_bind (wpAny_mono q1 (fun _ z2 q3 => wpAny_bind (wpAny_mono q3 (fun _ z3 q4 => wpAny_bind (wpAny_mono q4 (fun ok z4 q5 => ?_) fun _ _ q => q)) fun _ _ q => q)) fun _ _ q => q)
  cases ok with
  | false => exact wpAny_pure ⟨rfl, q5⟩
  | true => exact wpAny_bind (wpAny_bind (wpAny_mono q5 (fun x z5 q6 => wpAny_bind (wpAny_mono q6 (fun _ z6 q7 => wpAny_pure (wpAny_pure ⟨rfl, q7⟩)) fun _ _ q => q)) fun _ _ q => q))
end
structure CompScT (X : Cx) (scope : Scope) (x : Str) (more fs : List Str) (fr : List Nat) : Prop where
 one : CompSc X scope x fs fr
 nd2 : (x :: more ++ fs).Nodup
def tCompT (wi : TI) (k : Nat) (fr : List Nat) (g : TG) (tt : TT) (te : TE) : TE := fun σ H Q => wi σ H fun J H1 => ∃ W : Nat → Nat → List V → Hp → Prop, (∃ m, W 0 m [] H1) ∧ ∀ i m ys H2, W i m ys H2 →
 (J.stop i H2 ∧ ys.length ≤ sizeLine ∧ ∀ l, H2 l = none → Q (.ref l) (upd H2 l (.lst ys))) ∨
 (J.go i H2 ∧ ys.length < sizeLine ∧ ∀ v H3, J.yld i H2 v H3 → ∀ own : St, own.length = k → g v (own ++ slotsOf fr σ) H3 fun σ4 H4 => ∃ own4, σ4 = own4 ++ slotsOf fr σ ∧ own4.length = k ∧ tt σ4 H4 fun b H5 =>
  if b = true then te σ4 H5 (fun y H6 => ∃ m', m' < m ∧ W (i + 1) m' (ys ++ [y]) H6) else ∃ m', m' < m ∧ W (i + 1) m' ys H5)
section
variable {X : Cx}
theorem ok_names {N1 : List Str} (N2 : List Str) {scope : Scope} {C : Addr} {s : Shared} {H : Hp} {ex : List Addr} (h : (compX X N1 scope C s H ex).Ok) : (compX X N2 scope C s H ex).Ok :=
 ⟨h.mod, h.kind, h.glob, h.blt, h.above, h.inj, h.has, h.cab, h.hd, h.frames, h.stk, h.exf, h.bs, h.bsz, h.noex, h.exfs, h.funs, h.frf⟩
theorem comp_invT {pins : List (Addr × Obj)} {σ : St} {H : Hp} {s : Shared} {scope : Scope} {x : Str} {more fs : List Str} {fr : List Nat} {ex : List Addr} {h4 : Heap} {m : Str → Option Value} {t : Nat} (S : CompScT X scope x more fs fr) (I3 : Inv X pins σ H s)
  (ok : (compX X (x :: fs) scope s.heap.objs.size s H ex).Ok) (hn : h4.Ns s.heap.objs.size m) (old : ∀ b o, s.heap.get? b = some o → h4.get? b = some o) :
  Inv (compX X (x :: more ++ fs) scope s.heap.objs.size s H ex) [] (List.replicate (more.length + 1) none ++ slotsOf fr σ) H { s with heap := h4, toks := t } := by
 have J := comp_inv (t := t) S.one I3 ok hn old
 refine ⟨ok_names _ J.ok, J.os, J.bare, J.base, ?_, J.cell, J.free, J.freeC, J.pin, J.hok, ?_⟩
 ·obtain ⟨m1, hn1, hl⟩ := J.loc
  refine ⟨m1, hn1, fun i y v e1 e2 e3 => ?_⟩
  by_cases hi : i < more.length + 1
  ·have e2 : (List.replicate (more.length + 1) (none : Option V) ++ slotsOf fr σ)[i]? = some (some v) := e2
   rw [List.getElem?_append_left (by rw [List.length_replicate]; exact hi), List.getElem?_replicate, if_pos hi] at e2
   cases e2
  ·obtain ⟨j, rfl⟩ : ∃ j, i = more.length + 1 + j := ⟨i - (more.length + 1), by omega⟩
   have e2 : (List.replicate (more.length + 1) (none : Option V) ++ slotsOf fr σ)[more.length + 1 + j]? = some (some v) := e2
   have e1 : ((x :: more) ++ fs)[more.length + 1 + j]? = some y := e1
   rw [List.getElem?_append_right (by rw [List.length_replicate]; omega), List.length_replicate, Nat.add_sub_cancel_left] at e2
   rw [List.getElem?_append_right (by rw [List.length_cons]; omega), List.length_cons, Nat.add_sub_cancel_left] at e1
   exact hl (j + 1) y v (by simpa using e1) (by simpa using e2) e3
 ·show (List.replicate (more.length + 1) none ++ slotsOf fr σ).length = ((x :: more) ++ fs).length
  have h1 := S.one.len
  simp [slotsOf, h1]
  omega
theorem pe_compGT {elt iter tg : Expr} {x : Str} {more : List Str} {g : TG} {ifs : List Expr} {scope : Scope} {pos : Pos} {wi : TI} {fs : List Str} {fr : List Nat} {tt : TT} {te : TE} (hc : X.calm = true) (ST : CompScT X scope x more fs fr) (hi : PI X tg iter wi) (hg : ∀ C s H ex, PG (compX X (x :: more ++ fs) scope C s H ex) tg g)
  (ht : ∀ C s H ex, CT (compX X (x :: more ++ fs) scope C s H ex) ifs tt) (he : ∀ C s H ex, PE (compX X (x :: more ++ fs) scope C s H ex) elt te) (hs : ∀ z, foldedSetIterable iter X.env z = pure z := by intro _; rfl) :
  PE X (.ListComp elt [⟨tg, iter, ifs, 0⟩] scope pos) (tCompT wi (more.length + 1) fr g tt te) := by
 intro pins s σ H Q I h
 have S := ST.one
 rw [eval_ListComp]
 refine wpAny_comprehension_free (use := none) rfl hs (closureFor_some fun n hn => I.ok.has n (.inl (S.free n hn).1)) S.kind S.names ?_
 refine thn (hi pins s σ H _ I h) fun v s1 h1 => thn h1 fun itv s2 h2 => ?_
 obtain ⟨it, fp, tn, J, H2, e, I2, T, st2, f2, W, ⟨m0, w0⟩, turn⟩ := h2
 subst e
 have hlt : ∀ b ∈ fp, b < s2.heap.objs.size := fun b hb => by
  obtain ⟨o, e, _⟩ := T.obj 0 _ st2 b hb
  exact Heap.lt_size e
 refine wpAny_newObj_type (wpAny_newFunctionEnv S.nocell (by intro y hy; simp at hy) (fun h4 hns4 hsb4 => ?_) S.kind)
 dsimp only at hns4 hsb4 ⊢
 generalize hH3 : s2.heap.push { cls := .type "list", dict := none, data := .seq ([] : List Value).toArray } = g3 at hns4 hsb4 ⊢
 have hC : g3.objs.size = s2.heap.objs.size + 1 := by rw [← hH3, Heap.size_push]
 have old3 : ∀ b o, s2.heap.get? b = some o → g3.get? b = some o := fun b o e => hH3 ▸ Heap.get?_push_of_some _ e
 have I3 : Inv X pins σ H2 { s2 with heap := g3 } := I2.kept (t' := s2.toks) old3
 have acc3 : g3.get? s2.heap.objs.size = some (lobj [] 0) := hH3 ▸ Heap.get?_push_size _ rfl
 have old4 : ∀ b o, g3.get? b = some o → h4.get? b = some o := fun b o e => hsb4.extBut b o (Nat.ne_of_lt (Heap.lt_size e)) (Heap.get?_push_of_some _ e)
 have ok1 := comp_ok (s := { s2 with heap := g3 }) (D := s2.heap.objs.size) (fp := fp) S I2 I3 rfl hC hlt f2
 have ok := ok_names (x :: more ++ fs) ok1
 have I4 := comp_invT (t := s2.toks + ([] : List (Str × Value)).length) ST I3 ok1 hns4 old4
 -- what stays true of the list's place and the iterator's
 have dne := ok.exf s2.heap.objs.size List.mem_cons_self
 have dnf := ok.exfs s2.heap.objs.size List.mem_cons_self
 have fpok : ∀ {H' : Hp} {vs : List Value} {k : Nat}, (∀ b ∈ fp, H' b = none) → ∀ b ∈ fp, FpOk (compX X (x :: more ++ fs) scope g3.objs.size { s2 with heap := g3 } H2 (s2.heap.objs.size :: fp)) [(s2.heap.objs.size, lobj vs k)] H' b := fun {H' vs k} hn b hb => by
  have q := ok.exf b (List.mem_cons_of_mem _ hb)
  refine ⟨hn b hb, q.1, ok.exfs b (List.mem_cons_of_mem _ hb), .inl (List.mem_cons_of_mem _ hb), q.2, fun p hp => ?_⟩
  have e : p = (s2.heap.objs.size, lobj vs k) := by simpa using hp
  rw [e]
  exact Nat.ne_of_gt (hlt b hb)
 have start : Inv (compX X (x :: more ++ fs) scope g3.objs.size { s2 with heap := g3 } H2 (s2.heap.objs.size :: fp)) [(s2.heap.objs.size, lobj [] 0)] (List.replicate (more.length + 1) none ++ slotsOf fr σ) H2 { s2 with heap := h4, toks := s2.toks + ([] : List (Str × Value)).length } :=
  I4.pins_of fun p hp => by
   have e : p = (s2.heap.objs.size, lobj [] 0) := by simpa using hp
   subst e
   exact ⟨old4 _ _ acc3, I2.hok.fresh (Nat.le_refl _), dne.1, dnf, fun v z => by cases z⟩
 have stn : tn 0 h4 := T.keep 0 _ _ st2 fun b _ o e => old4 b o (old3 b o e)
 -- the end of the block
 have fin : ∀ {i : Nat} {σ0 : St} {H' : Hp} {ys : List V} {vs : List Value} {k : Nat} {s' : Shared}, Inv (compX X (x :: more ++ fs) scope g3.objs.size { s2 with heap := g3 } H2 (s2.heap.objs.size :: fp)) [(s2.heap.objs.size, lobj vs k)] (σ0 ++ slotsOf fr σ) H' s' → Vals ys vs → ys.length ≤ sizeLine →
   (∀ l, H' l = none → Q (.ref l) (upd H' l (.lst ys))) → ∃ m, s'.heap.Ns g3.objs.size m ∧ ∀ h', Heap.SameBut g3.objs.size s'.heap h' → EP X pins σ Q (.ref s2.heap.objs.size) { s' with heap := h' } := by
  intro i σ0 H' ys vs k s' J1 rv hz q
  obtain ⟨m, hn, _⟩ := id J1.loc
  refine ⟨m, hn, fun h' sb => ?_⟩
  have below : ∀ y c, X.env.cells.lookup y = some c → c < s2.heap.objs.size := fun y c z => by
   obtain ⟨v, q⟩ := I2.cell y c z
   exact q.lt
  have pbelow : ∀ p ∈ X.pn ++ pins, p.1 < s2.heap.objs.size := fun p hp => Heap.lt_size (I2.pin p hp).1
  have I5 : Inv X pins σ H' s' := I3.call' (ch := s2.heap.objs.size :: fp) J1.os J1.base J1.hok J1.bare fun b hb => by
   rcases List.mem_cons.mp hb with e | hb
   ·rw [e]
    exact ⟨.inr I2.sz, Nat.ne_of_gt I2.lt, fun y c z => Nat.ne_of_lt (below y c z), fun p hp => Nat.ne_of_lt (pbelow p hp)⟩
   ·exact ⟨(f2 b hb).2.2.2.1, (f2 b hb).2.1, (f2 b hb).2.2.2.2.1, (f2 b hb).2.2.2.2.2⟩
  have szC : s2.heap.objs.size < g3.objs.size := by omega
  have I6 : Inv X pins σ H' { s' with heap := h' } := I5.turned (t' := s'.toks) (it := g3.objs.size) (fun b o hb e => sb.extBut b o hb e) J1.free (Nat.ne_of_gt (Nat.lt_trans I2.lt szC)) (.inr (Nat.le_of_lt (Nat.lt_of_le_of_lt I2.sz szC)))
   (fun y c z => Nat.ne_of_lt (Nat.lt_trans (below y c z) szC)) (fun p hp => Nat.ne_of_lt (Nat.lt_trans (pbelow p hp) szC))
  obtain ⟨eD, nD, _⟩ := J1.pin (s2.heap.objs.size, lobj vs k) (by simp)
  have eD' : h'.get? s2.heap.objs.size = some (lobj vs k) := sb.extBut _ _ dne.1 eD
  exact ⟨.ref s2.heap.objs.size, _, I6.adopt nD eD' rv hz I2.sz (Nat.ne_of_gt I2.lt) (fun y c z => Nat.ne_of_lt (below y c z)) (fun p hp => Nat.ne_of_lt (pbelow p hp)), rfl, q _ nD⟩
 have loop : ∀ s4 : Shared, s4 = { s2 with heap := h4, toks := s2.toks + ([] : List (Str × Value)).length } →
   codeAny (model X.prog X.w) X.A (.compLoop (.ListComp elt [⟨tg, iter, ifs, 0⟩] scope pos) 0 (.ref it) (.ref s2.heap.objs.size) (compEnvC scope (clOf scope X.env) g3.objs.size X.env))
    (compPost (model X.prog X.w) X.A X.xe none (EP X pins σ Q) (.ref s2.heap.objs.size) g3.objs.size) s4 := by
  rintro s4 rfl
  refine comp_loopT (fun n s' => ∃ i σ0 H' ys vs k, σ0.length = more.length + 1 ∧ Inv (compX X (x :: more ++ fs) scope g3.objs.size { s2 with heap := g3 } H2 (s2.heap.objs.size :: fp)) [(s2.heap.objs.size, lobj vs k)] (σ0 ++ slotsOf fr σ) H' s' ∧ tn i s'.heap ∧ (∀ b ∈ fp, H' b = none) ∧ Vals ys vs ∧ W i n ys H') ?_ m0
   ⟨0, List.replicate (more.length + 1) none, H2, [], [], 0, List.length_replicate, start, stn, fun b hb => (f2 b hb).1, .nil, w0⟩
  rintro n s' ⟨i, σ0, H', ys, vs, k, h0, J1, st, fr1, rv, w1⟩
  rcases turn i n ys H' w1 with ⟨stop, hz, q⟩ | ⟨go, hz, step⟩
  ·refine thn (T.done (compX X (x :: more ++ fs) scope g3.objs.size { s2 with heap := g3 } H2 (s2.heap.objs.size :: fp)) rfl rfl rfl hc i _ s' _ H' _ J1 (fpok fr1) st stop) fun r s5 ⟨hr, J2⟩ => ?_
   subst hr
   exact fin (i := i) J2 rv hz q
  ·refine thn (T.item (compX X (x :: more ++ fs) scope g3.objs.size { s2 with heap := g3 } H2 (s2.heap.objs.size :: fp)) rfl rfl rfl hc i _ s' _ H' _ J1 (fpok fr1) st go) fun r s5 ⟨u, hr, h5⟩ => ?_
   subst hr
   refine thn h5 fun _ s6 ⟨v, H6, J6, r6, y6, st6, fr6⟩ => ?_
   have J6' := J6.pinned (fp := fp) (fpok fr6) (T.obj _ _ st6)
   refine wpAny_mono (hg _ _ _ _ _ s6 _ H6 v u _ J6' r6 (step v H6 y6 σ0 h0)) (fun _ s7 ⟨σ7, H7, J7, own, e7, l7, q7⟩ => ?_) (fun _ _ z => z.elim)
   subst e7
   have pfp : ∀ {σ8 : St} {H8 : Hp} {s8 : Shared}, Inv (compX X (x :: more ++ fs) scope g3.objs.size { s2 with heap := g3 } H2 (s2.heap.objs.size :: fp)) ([(s2.heap.objs.size, lobj vs k)] ++ pinsAt fp s6.heap) σ8 H8 s8 →
     tn (i + 1) s8.heap ∧ ∀ b ∈ fp, H8 b = none := fun {σ8 H8 s8} J8 => by
    refine ⟨T.keep _ _ _ st6 fun b hb o e => (J8.pin (b, o) (List.mem_append_right _ (List.mem_append_right _ (mem_pinsAt hb e)))).1, fun b hb => ?_⟩
    obtain ⟨o, e, d⟩ := T.obj _ _ st6 b hb
    exact (J8.pin (b, o) (List.mem_append_right _ (List.mem_append_right _ (mem_pinsAt hb e)))).2.1
   refine wpAny_mono (ht _ _ _ _ _ s7 _ H7 _ J7 q7) (fun ok8 s8 ⟨H8, J8, q8⟩ => ?_) (fun _ _ z => z.elim)
   cases ok8 with
   | false =>
    rw [if_neg Bool.false_ne_true] at q8
    rw [if_neg Bool.false_ne_true]
    obtain ⟨m', hm, w8⟩ := q8
    obtain ⟨t8, n8⟩ := pfp J8
    exact ⟨m', hm, i + 1, own, H8, ys, vs, k, l7, J8.unpinned, t8, n8, rv, w8⟩
   | true =>
    rw [if_pos rfl] at q8
    rw [if_pos rfl]
    refine wpAny_mono (he _ _ _ _ _ s8 _ H8 _ J8 q8) (fun y s9 ⟨yv, H9, J9, r9, m', hm, w9⟩ => ?_) (fun _ _ z => z.elim)
    obtain ⟨t9, n9⟩ := pfp J9
    obtain ⟨eD, nD, _⟩ := J9.pin (s2.heap.objs.size, lobj vs k) (by simp)
    have hl := rv.length
    refine call_meets F.slot_list_append ⟨_, eD, rfl⟩ F.entry_list_append (F.args_list_append_2 _ _) (PySem.list_append s2.heap.objs.size vs.toArray k y (by rw [List.size_toArray]; omega)) ⟨eD, ?_⟩
    have eN := PySem.IsL.update (h := s9.heap) (l := s2.heap.objs.size) (items := vs.toArray) (n := k) eD (·.push y)
    have eV : vs.toArray.push y = (vs ++ [y]).toArray := by simp
    rw [eV] at eN
    obtain ⟨k', eN⟩ : ∃ k', (s9.heap.update s2.heap.objs.size (Obj.mapSeq (·.push y))).get? s2.heap.objs.size = some (lobj (vs ++ [y]) k') := ⟨_, eN⟩
    have K9 : Inv (compX X (x :: more ++ fs) scope g3.objs.size { s2 with heap := g3 } H2 (s2.heap.objs.size :: fp)) [] (own ++ slotsOf fr σ) H9 s9 := J9.pins_of fun p hp => absurd hp (by simp)
    have K10 : Inv (compX X (x :: more ++ fs) scope g3.objs.size { s2 with heap := g3 } H2 (s2.heap.objs.size :: fp)) [] (own ++ slotsOf fr σ) H9 { s9 with heap := s9.heap.update s2.heap.objs.size (Obj.mapSeq (·.push y)) } :=
     K9.turned (t' := s9.toks) (it := s2.heap.objs.size) (fun b o hb e => (Heap.get?_update_other s9.heap (Obj.mapSeq (·.push y)) (Ne.symm hb)).trans e) nD dne.1 (.inl List.mem_cons_self) dne.2 (fun p hp => absurd hp (by simp))
    refine ⟨m', hm, i + 1, own, H9, ys ++ [yv], vs ++ [y], k', l7, K10.pins_of fun p hp => ?_, T.keep _ _ _ t9 fun b hb o e => (Heap.get?_update_other s9.heap (Obj.mapSeq (·.push y)) (Nat.ne_of_gt (hlt b hb))).trans e, n9, rv.append (.cons r9 .nil), w9⟩
    have e : p = (s2.heap.objs.size, lobj (vs ++ [y]) k') := List.mem_singleton.mp hp
    rw [e]
    exact ⟨eN, nD, dne.1, dnf, fun v z => by cases z⟩
 exact codeAny_compStart_list (loop _ rfl) (T.self X.A 0 _ _ _ stn (loop _ rfl))
theorem pe_compT {elt iter tg : Expr} {x : Str} {more : List Str} {g : TG} {scope : Scope} {pos : Pos} {wi : TI} {fs : List Str} {fr : List Nat} {te : TE} (hc : X.calm = true) (S : CompScT X scope x more fs fr) (hi : PI X tg iter wi) (hg : ∀ C s H ex, PG (compX X (x :: more ++ fs) scope C s H ex) tg g)
  (he : ∀ C s H ex, PE (compX X (x :: more ++ fs) scope C s H ex) elt te) (hs : ∀ z, foldedSetIterable iter X.env z = pure z := by intro _; rfl) :
  PE X (.ListComp elt [⟨tg, iter, [], 0⟩] scope pos) (tCompT wi (more.length + 1) fr g tTrue te) := pe_compGT hc S hi hg (fun _ _ _ _ => ct_nil) he hs
theorem compScT_mk {scope : Scope} {x : Str} {more fs : List Str} {fr : List Nat} (h : cscOk X.env.scope X.N scope x fs fr = true := by kernel_rfl) (h2 : decide (x :: more ++ fs).Nodup = true := by kernel_rfl) : CompScT X scope x more fs fr := ⟨compSc_mk h, of_decide_eq_true h2⟩
theorem pg_tupK {K : PySem.W.Frag} {es : List Expr} {k : Nat} {t : TGs} {n : Nat} {pos : Pos} (hc : X.calm = true) (h : PGs X es t) (hK : X.K = K := by rfl)
  (hn : (assignEach es X.env).length = n := by rfl) (hst : (assignEach es X.env).findIdx? (·.1) = none := by rfl) : PG X (.Tuple es k pos) (gTup K n t) := hK ▸ pg_tup hc h hn hst
theorem pg_nameC {i : Nat} {x : Str} {pos : Pos} (hN : decide X.N.Nodup = true := by kernel_rfl) (hi : X.N[i]? = some x := by rfl) (hl : X.env.scope.names.lookup x = some .local := by first | rfl | exact lookup_relabel_local rfl) : PG X (.Name x pos) (gName i) :=
 pg_name (of_decide_eq_true hN) hi (.inl hl) (.inr hl)
end
section
variable {K : PySem.W.Frag} {a : Addr} {xs : List V} {fr : List Nat} {tt : TT} {te : TE} {σ : St} {H1 : Hp} {R : Addr → List V → Hp → Prop}
abbrev gPair (K : PySem.W.Frag) : TG := gTup K 2 (gCons (gName 0) (gCons (gName 1) gNil))
abbrev CompGoalT (J : It) (k : Nat) (fr : List Nat) (g : TG) (tt : TT) (te : TE) (σ : St) (H1 : Hp) (R : Addr → List V → Hp → Prop) : Prop :=
 ∃ W : Nat → Nat → List V → Hp → Prop, (∃ m, W 0 m [] H1) ∧ ∀ i m ys H2, W i m ys H2 →
 (J.stop i H2 ∧ ys.length ≤ sizeLine ∧ ∀ l, H2 l = none → R l ys H2) ∨
 (J.go i H2 ∧ ys.length < sizeLine ∧ ∀ v H3, J.yld i H2 v H3 → ∀ own : St, own.length = k → g v (own ++ slotsOf fr σ) H3 fun σ4 H4 => ∃ own4, σ4 = own4 ++ slotsOf fr σ ∧ own4.length = k ∧ tt σ4 H4 fun b H5 =>
  if b = true then te σ4 H5 (fun y H6 => ∃ m', m' < m ∧ W (i + 1) m' (ys ++ [y]) H6) else ∃ m', m' < m ∧ W (i + 1) m' ys H5)
theorem pair_in {v a b : V} {p : Addr} {H : Hp} {Q : St → Hp → Prop} {own rest : St} (ho : own.length = 2) (ev : v = .ref p) (hp : SqT K H p [a, b]) (h : Q (some a :: some b :: rest) H) : gPair K v (own ++ rest) H Q := by
 match own, ho with
 | [o1, o2], _ => exact ⟨p, _, ev, hp, rfl, _, _, rfl, _, _, rfl, rfl, h⟩
theorem comp2_tup (Pv : Nat → List V → Hp → Prop) (hx : xs.length < sizeLine) (h0 : Pv 0 [] H1) (hl : ∀ i ys H, i ≤ xs.length → Pv i ys H → SqT K H a xs ∧ ys.length ≤ i)
  (hs : ∀ (i : Nat) (x : V) (ys : List V) (H : Hp) (N : List V → Hp → Prop), xs[i]? = some x → Pv i ys H → (∀ ys' H', Pv (i + 1) ys' H' → N ys' H') →
   ∃ p b c, x = .ref p ∧ SqT K H p [b, c] ∧ tt (some b :: some c :: slotsOf fr σ) H fun t H4 => if t = true then te (some b :: some c :: slotsOf fr σ) H4 (fun y H5 => N (ys ++ [y]) H5) else N ys H4)
  (hd : ∀ ys H, Pv xs.length ys H → ∀ l, H l = none → R l ys H) : CompGoalT (Itt K a) 2 fr (gPair K) tt te σ H1 R := by
 refine ⟨fun i m ys H => m = xs.length - i ∧ i ≤ xs.length ∧ Pv i ys H, ⟨xs.length, by simp, Nat.zero_le _, h0⟩, ?_⟩
 rintro i m ys H ⟨rfl, hi, p⟩
 obtain ⟨q, hy⟩ := hl i ys H hi p
 by_cases hlt : i < xs.length
 ·refine .inr ⟨⟨xs, _, q, List.getElem?_eq_getElem hlt⟩, by omega, ?_⟩
  rintro v H3 ⟨rfl, hv⟩ own ho
  obtain ⟨pp, b, c, ev, hp, h⟩ := hs i v ys H3 (fun ys' H' => ∃ m', m' < xs.length - i ∧ m' = xs.length - (i + 1) ∧ i + 1 ≤ xs.length ∧ Pv (i + 1) ys' H') (hv xs q) p fun ys' H' p' => ⟨_, by omega, rfl, hlt, p'⟩
  exact pair_in ho ev hp ⟨[some b, some c], rfl, rfl, h⟩
 ·have e : i = xs.length := by omega
  subst e
  exact .inl ⟨⟨xs, q, Nat.le_refl _⟩, by omega, hd ys H p⟩
theorem comp2_list (Pv : Nat → List V → Hp → Prop) (hx : xs.length < sizeLine) (h0 : Pv 0 [] H1) (hl : ∀ i ys H, i ≤ xs.length → Pv i ys H → SqL K H a xs ∧ ys.length ≤ i)
  (hs : ∀ (i : Nat) (x : V) (ys : List V) (H : Hp) (N : List V → Hp → Prop), xs[i]? = some x → Pv i ys H → (∀ ys' H', Pv (i + 1) ys' H' → N ys' H') →
   ∃ p b c, x = .ref p ∧ SqT K H p [b, c] ∧ tt (some b :: some c :: slotsOf fr σ) H fun t H4 => if t = true then te (some b :: some c :: slotsOf fr σ) H4 (fun y H5 => N (ys ++ [y]) H5) else N ys H4)
  (hd : ∀ ys H, Pv xs.length ys H → ∀ l, H l = none → R l ys H) : CompGoalT (Itl K a) 2 fr (gPair K) tt te σ H1 R := by
 refine ⟨fun i m ys H => m = xs.length - i ∧ i ≤ xs.length ∧ Pv i ys H, ⟨xs.length, by simp, Nat.zero_le _, h0⟩, ?_⟩
 rintro i m ys H ⟨rfl, hi, p⟩
 obtain ⟨q, hy⟩ := hl i ys H hi p
 by_cases hlt : i < xs.length
 ·refine .inr ⟨⟨xs, _, q, List.getElem?_eq_getElem hlt⟩, by omega, ?_⟩
  rintro v H3 ⟨rfl, hv⟩ own ho
  obtain ⟨pp, b, c, ev, hp, h⟩ := hs i v ys H3 (fun ys' H' => ∃ m', m' < xs.length - i ∧ m' = xs.length - (i + 1) ∧ i + 1 ≤ xs.length ∧ Pv (i + 1) ys' H') (hv xs q) p fun ys' H' p' => ⟨_, by omega, rfl, hlt, p'⟩
  exact pair_in ho ev hp ⟨[some b, some c], rfl, rfl, h⟩
 ·have e : i = xs.length := by omega
  subst e
  exact .inl ⟨⟨xs, q, Nat.le_refl _⟩, by omega, hd ys H p⟩
end
section
variable {X : Cx}
def rInsert : V → List V → Hp → VK → Prop := fun x vs H Q => ∃ l xs i y, x = .ref l ∧ vs = [.int i, y] ∧ H l = some (.lst xs) ∧ 0 ≤ i ∧ i ≤ (xs.length : Int) ∧ xs.length < 1000 ∧ Q .non (upd H l (.lst (xs.take i.toNat ++ y :: xs.drop i.toNat)))
theorem ins_arr (its : List Value) (u : Value) (i : Int) (h0 : 0 ≤ i) (h1 : i.toNat ≤ its.length) : (fun xs : Array Value => have k := if i < 0 then (i + ((xs.size : Nat) : Int)).toNat else min i.toNat xs.size; (xs.extract 0 k).push u ++ xs.extract k) its.toArray = (its.take i.toNat ++ u :: its.drop i.toNat).toArray := by
 have e : (if i < 0 then (i + ((its.toArray.size : Nat) : Int)).toNat else min i.toNat its.toArray.size) = i.toNat := by
  rw [if_neg (by omega), List.size_toArray]
  omega
 show ((its.toArray.extract 0 (if i < 0 then (i + ((its.toArray.size : Nat) : Int)).toNat else min i.toNat its.toArray.size)).push u ++ its.toArray.extract (if i < 0 then (i + ((its.toArray.size : Nat) : Int)).toNat else min i.toNat its.toArray.size)) = _
 rw [e]
 apply Array.ext'
 simp
 exact List.take_of_length_le (by rw [List.length_drop]; exact Nat.le_refl _)
theorem mt_insert : MtM X "list.insert" rInsert := by
 intro pins s σ H x vs v us Q I rx rv h
 obtain ⟨l, xs, i, y, rfl, rfl, hH, h0, h1, hz, q⟩ := h
 cases rx
 match us, rv with
 | [_, u], .cons ⟨t, rfl⟩ (.cons ru .nil) =>
  obtain ⟨z, its, n, r, hl, e⟩ := I.lstM hH
  refine call_meets F.slot_list_insert ⟨_, e, rfl⟩ F.entry_list_insert (F.args_list_insert_3 _ _ _) (AutoListH.list_insert_list_int_val_1 l its.toArray n i t u ?_ (by rw [List.size_toArray]; omega)) ⟨e, ?_⟩
  ·have := fitsIndex_both (k := i) (by omega) (by omega)
   simpa using this
  ·refine ⟨.non, _, I.lset (its' := its.take i.toNat ++ u :: its.drop i.toNat) hH e (ins_arr its u i h0 (by omega)) ((r.take _).append (.cons ru (r.drop _))) ?_, rfl, q⟩
   have := small1000 (n := xs.length + 1) (by omega)
   rw [List.length_append, List.length_cons, List.length_take, List.length_drop]
   omega
theorem m2_nn {d x y : Str} {pd px py apos cpos : Pos} (hl : (apos.endLine == cpos.line) = true := by rfl) (hb : attributeBase (.Name d pd) "get" X.env (eval (.Name d pd) X.env) = eval (.Name d pd) X.env := by rfl) : M2 X (.Name d pd) "get" apos (.Name x px) (.Name y py) cpos := ⟨hb, rfl, hl, rfl⟩
end
theorem ObjOk.some_ {P : Program} {w : World} {H : Hp} {h : Heap} {a : Addr} {o : HO} (x : ObjOk P w H h a o) : ∃ u, h.get? a = some u := by
 cases o with
 | lst xs => obtain ⟨_, _, _, _, e⟩ := x; exact ⟨_, e⟩
 | tup xs => obtain ⟨_, _, _, u, e, _⟩ := x; exact ⟨_, e⟩
 | dK kvs => obtain ⟨_, _, _, _, u, _, _, e, _⟩ := x; exact ⟨_, e⟩
 | dT kvs => obtain ⟨_, _, _, _, u, _, _, e, _⟩ := x; exact ⟨_, e⟩
 | set S n => obtain ⟨u, _, _, _, e, _⟩ := x; exact ⟨_, e⟩
 | ins C dx fs => obtain ⟨_, _, _, e, _⟩ := x; exact ⟨_, e⟩
 | own y => exact x
 | xd fs => obtain ⟨_, ⟨u, _, _, e, _⟩, _⟩ := x; exact ⟨_, e⟩
 | rng lo hi => obtain ⟨_, _, _, e⟩ := x; exact ⟨_, e⟩
 | frz ob u => exact ⟨_, x.1⟩
 | tbl ps => exact ⟨_, x⟩
 | met f y => exact ⟨_, x⟩
 | ext φ => exact x.2.1
section
variable {X : Cx} {pins : List (Addr × Obj)} {σ : St} {H : Hp} {s : Shared} {h' : Heap} {a : Addr} {o : HO}
theorem Inv.none_ (I : Inv X pins σ H s) (hn : s.heap.get? a = none) : H a = none := by
 cases q : H a with
 | none => rfl
 | some u =>
  obtain ⟨v, e⟩ := (I.hok a u q).some_
  rw [hn] at e
  cases e
theorem Inv.laidN {t' : Nat} (I : Inv X pins σ H s) (k : ∀ b u, s.heap.get? b = some u → h'.get? b = some u) (hn : s.heap.get? a = none) (new : ObjOk X.prog X.w (upd H a o) h' a o) :
  Inv X pins σ (upd H a o) { s with heap := h', toks := t' } := by
 have hH := I.none_ hn
 have ne : ∀ {b u}, s.heap.get? b = some u → b ≠ a := fun q z => by
  rw [z, hn] at q
  cases q
 refine I.un ⟨fun b u q _ _ _ => k b u q, fun b u q _ _ _ => ⟨u.slots, k b u q⟩, fun b u q n _ => by rw [upd_ne (ne q)]; exact n, fun b u q _ => ⟨u, k b u q⟩, fun b xs q => by rw [upd_ne (ne_of_none q hH)]; exact q,
  fun b u v q => by rw [upd_ne (ne_of_none q hH)]; exact q, fun b ps q => ⟨#[], by rw [upd_ne (ne_of_none q hH), q]; simp⟩⟩ fun b u e => ?_
 by_cases hb : b = a
 ·subst hb
  rw [upd_same] at e
  cases e
  exact new
 ·rw [upd_ne hb] at e
  exact (I.hok b u e).stay (fun c v _ q => k c v q) (fun c q => by rw [upd_ne (ne_of_none q hH)]; exact q) fun c xs q => by rw [upd_ne (ne_of_none q hH)]; exact q
end
abbrev bmV : List Value := [.type "ValueError", .type "Exception", .type "BaseException", .type "object"]
def ExcF (e C : Addr) (dd : Option Addr) : Heap → Prop := fun h => ∃ t, h.get? e = some { cls := .ref C, dict := dd, data := .fields #[.ref t, .none, .none, .none, .bool false, .none] }
theorem excF_ok {P : Program} {w : World} {H : Hp} {h : Heap} {e C : Addr} {dd : Option Addr} (x : ExcF e C dd h) : ObjOk P w H h e (.ext (ExcF e C dd)) :=
 ⟨x, let ⟨_, q⟩ := x; ⟨_, q⟩, fun _ _ ⟨t, q⟩ k => ⟨t, k _ q⟩⟩
section
variable {X : Cx} {C : Addr} {x : Str} {p pos : Pos} {e : Expr} {es : List Expr} {t : TA}
end
section
variable {prog : Program} {w : World} {A : Around} {E : Value → Shared → Prop} {h : Heap} {g : Array GenState} {d : Drawn} {t : Nat} {os : OsState}
 {nm qn : Str} {C N fI : Addr} {bs bm bmB : List Value} {hd : Bool} {sn : List Str} {sub : List Value} {ab : Bool} {col : Option Bool} {dd : Option Addr} {k0 k1 k2 k3 k5 : Option Value} {B nid iid : String} {us : List Value}
theorem type_call_own (F : ExcBaseFacts B nid iid bmB) (T : OwnTail h bmB bm) {Q : Fin → Shared → Prop} (hC : h.get? C = some (excClassObj nm qn C N bs bm hd sn sub ab col dd k0 k1 k2 k3 k5 nid))
  (hl : PySem.W.Looks (model prog w) h (typeLookup (.ref C) "__init__") (some (.ref fI))) (hb : ∀ v, PySem.W.Looks (model prog w) h (bindSpecial (.ref fI) v) (.ref fI, [v]))
  (k : ∀ h' a, Heap.MadeExcOf h h' a (.ref C) us → wpAny (model prog w) A (call (.ref fI) (.ref a :: us)) (fun r s' => r = .none ∧ Q (.done (.ret (.ref a))) s') E ⟨h', g, d, t, os⟩) (hz : us.length ≤ sizeLine) :
  wpAny (model prog w) A (Builtin.«type.__call__» ⟨.ref C :: us, []⟩) Q E ⟨h, g, d, t, os⟩ := by
 repeat (first | with_reducible refine wpAny_madeBy_exc hC ?_ | with_reducible refine wpAny_loadPart_at hC ?_ | wp_step)
 refine codeAny_call_builtin_code (Code.quiet_builtin _ F.quiet) (wpAny_check_new_subT F T hC
  (codeAny_exc_new_subT F T hC ?_ hz))
 show wpAny _ _ _ _ _ _
 generalize e1 : h.push { cls := .type "tuple", data := .seq us.toArray } = h1
 have c1 : ∀ b o, h.get? b = some o → h1.get? b = some o := fun b o q => by rw [← e1]; exact Heap.get?_push_of_some _ q
 generalize e2 : h1.push { cls := .ref C, data := .fields #[.ref h.objs.size, .none, .none, .none, .bool false, .none] } = h2
 have c2 : ∀ b o, h.get? b = some o → h2.get? b = some o := fun b o q => by rw [← e2]; exact Heap.get?_push_of_some _ (c1 b o q)
 have z1 : h1.objs.size = h.objs.size + 1 := by rw [← e1]; exact Heap.size_push _ _
 have g2 : h2.get? (h.objs.size + 1) = some { cls := .ref C, data := .fields #[.ref h.objs.size, .none, .none, .none, .bool false, .none] } := by
  rw [← e2, ← z1]
  exact Heap.get?_push_size _ rfl
 have g1 : h2.get? h.objs.size = some { cls := .type "tuple", data := .seq us.toArray } := by
  rw [← e2, ← e1]
  exact Heap.get?_push_of_some _ (Heap.get?_push_size _ rfl)
 have hC2 := c2 _ _ hC
 have hcC : (Value.ref C :: bm).contains (.ref C) = true := by simp
 unfold isInstance
 repeat (first | (with_reducible refine wpAny_isSubtype_exc hC2 ?_; rw [hcC]) | with_reducible refine wpAny_loadPart_at g2 ?_ | wp_step)
 show wpAny _ _ (typeLookup (.ref C) _) _ _ _
 refine hl A _ E _ c2 (wpAny_holding (wpAny_bind (hb _ A _ E _ c2 (wpAny_bind (wpAny_mono (k h2 (h.objs.size + 1) ⟨c2, Heap.get?_none_of_le (Nat.le_succ _), _, g2, Heap.get?_none_of_le (Nat.le_refl _), g1⟩) (fun r s' q => ?_) fun _ _ z => z)))))
 obtain ⟨rfl, q⟩ := q
 wp_walk
 exact q
theorem call_own (F : ExcBaseFacts B nid iid bmB) (T : OwnTail h bmB bm) {Q : Value → Shared → Prop} (hC : h.get? C = some (excClassObj nm qn C N bs bm hd sn sub ab col dd k0 k1 k2 k3 k5 nid))
  (hl : PySem.W.Looks (model prog w) h (typeLookup (.ref C) "__init__") (some (.ref fI))) (hb : ∀ v, PySem.W.Looks (model prog w) h (bindSpecial (.ref fI) v) (.ref fI, [v]))
  (k : ∀ h' a, Heap.MadeExcOf h h' a (.ref C) us → wpAny (model prog w) (A.under (.builtin "type.__call__" ⟨.ref C :: us, []⟩)) (call (.ref fI) (.ref a :: us)) (fun r s' => r = .none ∧ Q (.ref a) s') E ⟨h', g, d, t, os⟩) (hz : us.length ≤ sizeLine) :
  wpAny (model prog w) A (call (.ref C) us) Q E ⟨h, g, d, t, os⟩ := by
 have f1 := tc_lookup
 have f2 := tc_bind (.ref C)
 have f3 : (⟨h, g, d, t, os⟩ : Shared).TypeIs (.ref C) "type" := ⟨_, hC, rfl⟩
 refine wpAny_call (codeAny_of_tree ?_)
 show wpAny _ _ (callAny (.ref C) _) _ _ _
 repeat (any_goals (first | assumption | (with_reducible refine wpAny_loadPart_at hC ?_) | wp_step))
 exact ⟨rfl, codeAny_call_builtin_at (Code.quiet_builtin _ (by decide +kernel)) entry_typeCall (wpAny_check_type_call_sub hC (type_call_own F T hC hl hb (fun h' a m => k h' a m) hz))⟩
end
def excInI (K : PySem.W.Frag) (C : Addr) (bmB : List Value) (nid : String) : Bool := match K.lookup C with
 | some ⟨.type "type", _, .cls cd, sl⟩ => (match cd.mro, sl.toList with
  | .ref C2 :: bm, [_, _, _, _, some (.builtin n), _] => C2 == C && (n == nid && (!cd.hasDel && PySem.W.tailIn K bmB bm))
  | _, _ => false)
 | _ => false
theorem exc_shapeI {K : PySem.W.Frag} {h : Heap} {C : Addr} {bmB : List Value} {nid : String} (X : K.In h) (q : excInI K C bmB nid = true) :
  ∃ bm N nm qn bs hd sn sub ab col dd k0 k1 k2 k3 k5, h.get? C = some (excClassObj nm qn C N bs bm hd sn sub ab col dd k0 k1 k2 k3 k5 nid) ∧ OwnTail h bmB bm := by
 unfold excInI at q
 split at q
 case h_2 => cases q
 case h_1 d cd sl ho =>
  split at q
  case h_2 => cases q
  case h_1 C2 bm k0 k1 k2 k3 n k5 hm hs =>
   simp only [Bool.and_eq_true, beq_iff_eq, Bool.not_eq_true'] at q
   obtain ⟨e1, e2, e3, e4⟩ := q
   subst e1 e2
   cases cd with
   | mk nm bs mro ns qn hd sn sub ab col del =>
    dsimp only at hm e3
    subst hm e3
    cases sl with
    | mk l =>
     have hl : l = [k0, k1, k2, k3, some (.builtin n), k5] := hs
     subst hl
     exact ⟨_, _, _, _, _, _, _, _, _, _, _, _, _, _, _, _, X _ _ ho, PySem.W.tail_of_in X e4⟩
section
variable {X : Cx} {CX : CXT} {k : Nat} {C f : Addr} {fd : FuncData} {ps : List Str} {sp : Sp} {ds : List Value} {dvs : List V} {E : XK} {x : Str} {p pos : Pos} {e : Expr} {es : List Expr} {t : TA}
def tExcI (C : Addr) (sp : Sp) (E : XK) (t : TA) : TE := fun σ H Q => t σ H fun vs H1 => vs.length ≤ 1000 ∧ ∀ a, H1 a = none → sp (.ref a :: vs) (upd H1 a (.ext (ExcF a C none))) (fun v H2 => v = .non ∧ Q (.ref a) H2) E
theorem pe_excI (q : excInI X.K C bmV "ValueError.__new__" = true) (kp : PySem.W.keepIn X.K (.ref C) = true) (hi : PySem.W.findIn X.K (.ref C) "__init__" = some (some (.ref f))) (hf : PySem.W.isFn X.K (.ref f) = true)
  (F : FnOk X.prog X.w X.K X.mg X.base CX k f fd ps sp) (hr : Room (k + 1) X.A) (hb : Binds X.K fd ps []) (hx : Passes CX X E) (hg : Gl X x) (hm : X.mg x = some (.ref C))
  (ha : PA X (e :: es) t) (hdb : (x == ("__debug__" : Str)) = false := by decide) (he : starEach (e :: es) X.env = (false, eval e X.env) :: starEach es X.env := by rfl) (hpl : (backTo pos (starEach es X.env)).any (·.1) = false := by rfl) :
  PE X (.Call (.Name x p) (e :: es) [] pos) (tExcI C sp E t) := by
 intro pins s σ H Q I h
 refine wpAny_Call_Name_kw (ld_glob I hg hm ?_ hdb)
 refine PySem.W.callWith_K (h₀ := X.base) I.ok.mod.kin kp (thn (ha pos pins s σ H _ I h) fun us s1 ⟨vs, H1, I1, r, hl, kk⟩ => ⟨I1.kIn, ?_⟩) he hpl
 have KI := I1.kIn
 obtain ⟨bm, N, nm, qn, bs, hd, sn, sub, ab, col, dd, k0, k1, k2, k3, k5, hC, T⟩ := exc_shapeI KI q
 obtain ⟨hp, g, d, tk, os⟩ := s1
 refine call_own PySem.F.excBase_ValueError T hC (PySem.W.looks_findIn KI hi) (fun v => PySem.W.bind_fn KI v (beq_iff_eq.mp hf)) (fun h' a m => ?_) (by show us.length ≤ sizeLine; rw [← r.length]; exact Nat.le_of_lt (small1000 hl))
 obtain ⟨mk, mn, tt, m1, _, _⟩ := m
 have I2 : Inv X pins σ (upd H1 a (.ext (ExcF a C none))) ⟨h', g, d, tk, os⟩ := I1.laidN (t' := tk) (o := .ext (ExcF a C none)) mk mn (excF_ok ⟨tt, m1⟩)
 have hq := kk a (I1.none_ mn)
 have r2 : Vals (V.ref a :: vs) (Value.ref a :: us) := .cons rfl r
 have hlen : (Value.ref a :: us ++ []).length = ps.length := by
  have e1 := r2.length
  rw [F.len _ _ _ _ hq] at e1
  rw [List.append_nil]
  exact e1.symm
 refine wpAny_call (codeAny_mono (F.run _ X.stack _ _ ⟨Value.ref a :: us, []⟩ (Value.ref a :: us) _ _ E (hr.make C us []) (I2.env0.make C us []) (by have := hb _ (Value.ref a :: us) I2.kIn hlen; rw [List.append_nil] at this; exact this) r2 hq) fun r s' hq' => ?_)
 cases r with
 | error e => exact hx pins σ _ _ e s' I2 hq'
 | ok fl =>
  cases fl with
  | ret u =>
   obtain ⟨v, H', I3, rv, ev, q3⟩ := I2.after hq'
   subst ev
   exact ⟨rv, V.ref a, H', I3, rfl, q3⟩
  | next => exact False.elim hq'
  | brk => exact False.elim hq'
  | cont => exact False.elim hq'
end
section
variable {prog : Program} {w : World} {A : Around} {E : Value → Shared → Prop} {h : Heap} {g : Array GenState} {d : Drawn} {t : Nat} {os : OsState}
 {nm qn : Str} {C N fI e ta : Addr} {bs bm bmB : List Value} {hd : Bool} {sn : List Str} {sub : List Value} {ab : Bool} {col : Option Bool} {dd de : Option Addr} {k0 k1 k2 k3 k5 : Option Value} {B nid iid : String} {us : List Value}
theorem call_vinit (F : ExcBaseFacts B nid iid bmB) (T : OwnTail h bmB bm) {Q : Value → Shared → Prop} (hC : h.get? C = some (excClassObj nm qn C N bs bm hd sn sub ab col dd k0 k1 k2 k3 k5 nid))
  (he : h.get? e = some { cls := .ref C, dict := de, data := .fields #[.ref ta, .none, .none, .none, .bool false, .none] }) (hz : us.length ≤ sizeLine)
  (k : ∀ h' : Heap, (∀ b o, b ≠ e → h.get? b = some o → h'.get? b = some o) → ExcF e C de h' → Q .none ⟨h', g, d, t, os⟩) :
  wpAny (model prog w) A (call (.builtin iid) (.ref e :: us)) Q E ⟨h, g, d, t, os⟩ := by
 refine wpAny_call (codeAny_call_builtin F.init.plain F.initEntry (wpAny_check_init_subT F T hC he rfl ?_))
 wp_walk
 have he1 : (h.push { cls := .type "tuple", data := .seq us.toArray }).get? e = some { cls := .ref C, dict := de, data := .fields #[.ref ta, .none, .none, .none, .bool false, .none] } := Heap.get?_push_of_some _ he
 refine k _ (fun b o n q => ?_) ⟨h.objs.size, ?_⟩
 ·rw [Heap.get?_update_other _ _ (Ne.symm n)]
  exact Heap.get?_push_of_some _ q
 ·rw [Heap.get?_update_self _ he1 rfl]
  rfl
end
section
variable {X : Cx} {A0 : Addr} {o e : Expr} {es : List Expr} {ta : TE} {t : TA} {apos pos : Pos}
def tBInit (K : PySem.W.Frag) (A0 : Addr) (ta : TE) (t : TA) : TE := fun σ H Q => ta σ H fun x H1 => x = .ref A0 ∧ t σ H1 fun vs H2 => ∃ a C dd rest, vs = .ref a :: rest ∧ rest.length ≤ 1000 ∧
 H2 a = some (.ext (ExcF a C dd)) ∧ excInI K C bmV "ValueError.__new__" = true ∧ Q .non (upd H2 a (.ext (ExcF a C dd)))
theorem pe_binit {pl : Sem Bool} (ho : PE X o ta) (hs : PySem.W.specialIn X.K (.ref A0) "__getattribute__" = some (some (.builtin "type.__getattribute__"))) (hr : PySem.W.readsIn X.K A0 (.type "type") = true)
  (hf : PySem.W.findCls X.K (.ref A0) (.type "type") "__init__" = some (.val (.builtin "ValueError.__init__"))) (ha : PA X (e :: es) t)
  (hst : starEach (e :: es) X.env = (false, eval e X.env) :: starEach es X.env := by rfl) (hpl : (backTo pos (starEach es X.env)).any (·.1) = false := by rfl)
  (ht : eval (.Call (.Attribute o "__init__" apos) (e :: es) [] pos) X.env = (do
   let ov ← eval o X.env
   standAt apos.atName
   let (f, first) ← holding [ov] (getMethod ov "__init__" pl)
   callWith pos f first (backTo pos (starEach (e :: es) X.env)) (backToKw pos (keywordEach [] X.env))) := by rfl) :
  PE X (.Call (.Attribute o "__init__" apos) (e :: es) [] pos) (tBInit X.K A0 ta t) := by
 intro pins s σ H Q I h
 refine PySem.W.methodCall_KW (pl := pl) (thn (ho pins s σ H _ I h) fun u s1 ⟨x, H1, I1, rx, ex, q1⟩ => ?_) ht
 subst ex
 obtain rfl : u = Value.ref A0 := rx
 refine PySem.W.method_cls I1.kIn hs (PySem.W.cls_value I1.kIn hr hf (by decide) ?_)
 have I1' := I1.tok (s1.toks + 1)
 have hA := ha pos pins _ σ H1 _ I1' q1
 rw [hst] at hA ⊢
 refine Calls.callWith_builtin (by show (false || (backTo pos (starEach es X.env)).any (·.1)) = false; rw [hpl] <;> rfl) (Calls.evalArgs_plain ?_)
 refine thn hA fun us s2 ⟨vs, H2, I2, r, a, C, dd, rest, ev, hl, hH, hc, k⟩ => ?_
 subst ev
 cases r with
 | @cons _ v1 _ us' r1 r2 =>
  obtain rfl : v1 = Value.ref a := r1
  obtain ⟨bm, N, nm, qn, bs, hd, sn, sub, ab, col, d2, k0, k1, k2, k3, k5, hC, T⟩ := exc_shapeI I2.kIn hc
  obtain ⟨⟨tt, he⟩, _⟩ := (show ObjOk X.prog X.w H2 s2.heap a (.ext (ExcF a C dd)) from I2.hok a _ hH)
  obtain ⟨hp, g, d, tk, os⟩ := s2
  refine call_vinit PySem.F.excBase_ValueError T hC he (by rw [← r2.length]; exact Nat.le_of_lt (small1000 hl)) fun h' kk hx => ?_
  obtain ⟨t2, hx2⟩ := hx
  exact ⟨.non, _, I2.write (t' := tk) (x := a) (e := a) (by rw [hH]; exact trivial) (.inl rfl) (fun b u n q => kk b u n q) ⟨_, hx2⟩ (excF_ok ⟨t2, hx2⟩), rfl, k⟩
end
end L2
namespace L2
open PySem PySem.Spec PyProof.Rows PySem.W Builtin Builtin.ObjectAttr
def exTail : List Value → Bool
 | .ref _ :: r => exTail r
 | l => l == [.type "ValueError", .type "Exception", .type "BaseException", .type "object"]
theorem refuse_four (self : Value) : refuseLoop self "__setattr__" [.type "ValueError", .type "Exception", .type "BaseException", .type "object"] = pure () := by kernel_rfl
theorem refuse_exc (self : Value) : ∀ {l : List Value}, exTail l = true → refuseLoop self "__setattr__" l = pure ()
 | .ref c :: r, h => by
  rw [refuseLoop_ref]
  exact refuse_exc self (l := r) h
 | [], h => by cases h
 | .type n :: r, h => by
  have e : Value.type n :: r = [.type "ValueError", .type "Exception", .type "BaseException", .type "object"] := beq_iff_eq.mp h
  rw [e]
  exact refuse_four self
structure ExcK (K : Frag) (C : Addr) : Prop where
 ga : findIn K (.ref C) "__getattribute__" = some (some (.builtin "BaseException.__getattribute__"))
 gt : findIn K (.ref C) "__getattr__" = some none
 sa : findIn K (.ref C) "__setattr__" = some (some (.builtin "object.__setattr__"))
 be : mroIn K C (.type "BaseException") = some true
 ob : mroIn K C (.type "object") = some true
 hd : hasDictIn K C = true
 tl : (clsIn K C).any (fun cd => exTail cd.mro) = true
 cl : findIn K (.ref C) "__class__" = some (some (.builtin "object.__class__"))
 cg : specialIn K (.builtin "object.__class__") "__get__" = some (some (.builtin "getset_descriptor.__get__"))
 ct : takesIn K (.builtin "object.__class__") = some true
section
variable {prog : Program} {w : World} {A : Around} {E : Value → Shared → Prop} {s : Shared} {K : Frag} {x C : Addr} {ox : Obj} {od : Option Obj} {name : Str}
theorem kind_bga : builtinKind "BaseException.__getattribute__" = some .slot := by decide +kernel
theorem split_bga : splitId "BaseException.__getattribute__" = some ("BaseException", "__getattribute__") := by decide +kernel
theorem bga_call {R : Result → Shared → Prop} {tk : Tok} (X : K.In s.heap) (I : InstAt s.heap x ox C od) (e : ExcK K C)
  (h : wpAny (model prog w) A.in1 (Builtin.«object.__getattribute__» ⟨[.ref x, .str name tk], []⟩) (fun fin s' => match fin with | .done f => R (.ok f) s' | .again c' => c'.quiet = true ∧ codeAny (model prog w) A c' R s') (fun e s' => R (.error e) s') s) :
  codeAny (model prog w) A (.call (.builtin "BaseException.__getattribute__") ⟨[.ref x, .str name tk], []⟩) R s := by
 refine codeAny_call_builtin PySem.F.excAttr_ValueError.ga.plain PySem.F.entry_bexc_ga (@check_slot (model prog w) _ _ s "BaseException.__getattribute__" "BaseException" "__getattribute__" (.ref x) [.str name tk] [] _ kind_bga split_bga (I.type.andThen (looks_mroIn X e.be)) (PySem.F.args_bexc_ga _ _) ?_)
 exact h
theorem exc_get {Q : Value → Shared → Prop} {tk : Tok} {fill expr : Bool} (X : K.In s.heap) (I : InstAt s.heap x ox C od) (e : ExcK K C)
  (h : codeAny (model prog w) A (.call (.builtin "BaseException.__getattribute__") ⟨[.ref x, .str name tk], []⟩) (fun r s' => match r with | .ok (.ret v) => wpAny (model prog w) A (handedOut v) Q E s' | _ => False) s) :
  wpAny (model prog w) A (getAttrBy (.ref x) (.str name tk) fill expr) Q E s := by
 unfold getAttrBy
 refine wpAny_holding (wpAny_bind (I.type.here (wpAny_bind ((looks_findIn X e.ga).here ?_))))
 have n1 : ¬ ((onTheHeap (Value.ref C) && Value.builtin "BaseException.__getattribute__" == Value.builtin "object.__getattribute__") = true) := by
  show ¬ ((true && Value.builtin "BaseException.__getattribute__" == Value.builtin "object.__getattribute__") = true)
  decide
 show wpAny _ _ (if (onTheHeap (Value.ref C) && Value.builtin "BaseException.__getattribute__" == Value.builtin "object.__getattribute__") = true then _ else _) _ _ _
 rw [if_neg n1]
 unfold getAttrByItsOwn hookBefore
 rw [if_pos (show onTheHeap (Value.ref C) = true from rfl)]
 refine wpAny_bind ((looks_findIn X e.gt).here (wpAny_bind (wpAny_attempt (wpAny_holding ?_))))
 unfold callGetattribute
 rw [if_neg (by cases expr <;> decide)]
 unfold boundAndCalled
 rw [PySem.F.excAttr_ValueError.ga.bind]
 refine wpAny_bind (wpAny_pure ?_)
 refine wpAny_call (codeAny_mono h fun r s' z => ?_)
 rcases r with e | (v | _ | _ | _) <;> first | exact z | exact z.elim
theorem exc_value {Q : Value → Shared → Prop} {v : Value} {expr : Bool} (X : K.In s.heap) (I : InstAt s.heap x ox C od) (e : ExcK K C) (hf : findObj K C od name = some (.value v)) (hh : handedIn v = true) (h : Q v { s with toks := s.toks + 1 }) :
  wpAny (model prog w) A (getAttr (.ref x) name expr) Q E s := by
 obtain ⟨hp, g, d, t, os⟩ := s
 have L0 := I.type (M := model prog w)
 have L1 := looks_find (M := model prog w) X I hf
 unfold getAttr
 refine wpAny_bind (wpAny_mkText (exc_get (s := ⟨hp, g, d, t + 1, os⟩) X I e (bga_call (s := ⟨hp, g, d, t + 1, os⟩) X I e ?_)))
 refine wpAny_bind (wpAny_pure (wpAny_bind (wpAny_pure (wpAny_bind (L0.at (wpAny_bind (L1.at (wpAny_pure ?_))))))))
 show wpAny _ _ (handedOut v) _ _ _
 rw [handedOut_of hh]
 exact wpAny_pure h
theorem exc_class {Q : Option Value → Shared → Prop} (X : K.In s.heap) (I : InstAt s.heap x ox C od) (e : ExcK K C) (h : Q (some (.ref C)) { s with toks := s.toks + 1 }) :
  wpAny (model prog w) A (getAttr? (.ref x) "__class__") Q E s := by
 have hf : findObj K C od "__class__" = some (.bind (.builtin "getset_descriptor.__get__") (.builtin "object.__class__")) := by
  obtain ⟨cd, hc, _⟩ := any_some e.hd
  unfold findObj
  rw [hc, Option.bind_some, e.cl, Option.bind_some]
  simp [e.cg, e.ct]
 obtain ⟨hp, g, d, t, os⟩ := s
 have L0 := I.type (M := model prog w)
 have L1 := looks_find (M := model prog w) X I hf
 unfold getAttr? getAttrBy?
 refine wpAny_bind (wpAny_mkText (wpAny_bind (wpAny_attempt (exc_get (s := ⟨hp, g, d, t + 1, os⟩) X I e (bga_call (s := ⟨hp, g, d, t + 1, os⟩) X I e ?_)))))
 refine wpAny_bind (wpAny_pure (wpAny_bind (wpAny_pure (wpAny_bind (L0.at (wpAny_bind (L1.at ?_)))))))
 show wpAny _ _ (holding [.builtin "object.__class__"] (call (.builtin "getset_descriptor.__get__") [.builtin "object.__class__", .ref x, .ref C]) >>= ret) _ _ _
 refine wpAny_bind (wpAny_holding (wpAny_call (class_get (s := ⟨hp, g, d, t + 1, os⟩) (ox := ox) (od := od) X I e.ob (wpAny_pure ?_))))
 exact handed_on rfl (wpAny_pure h)
theorem kitx_exc (e : ExcK K C) : KitX K (.ref x) (.ref C) (fun h => ∃ ox od, InstAt h x ox C od) where
 ty := fun _ _ _ ⟨_, _, I⟩ => I.type
 it := fun _ _ X _ => by
  obtain ⟨cdD, hcD, _⟩ := any_some e.hd
  unfold clsIn at hcD
  split at hcD
  ·rename_i ho
   intro A' Q' E' s' k q
   unfold isType loadHead
   exact wpAny_bind (wpAny_loadPart (k _ _ (X _ _ ho)) (wpAny_pure q))
  ·cases hcD
 ne := fun h tp dd its n sl X htp => by
  obtain ⟨cdD, hcD, _⟩ := any_some e.hd
  refine Bool.eq_false_iff.mpr fun q => ?_
  have ee : C = tp := Value.ref.inj (beq_iff_eq.mp q)
  subst ee
  unfold clsIn at hcD
  split at hcD
  ·rename_i ho
   have z := (X _ _ ho).symm.trans htp
   cases z
  ·cases hcD
 ca := fun X ⟨_, _, I⟩ k => exc_class X I e k
theorem exc_put {Q : Unit → Shared → Prop} {v : Value} {vs : Array Value} (X : K.In s.heap) (e : ExcK K C) (hn : findIn K (.ref C) name = some none) (hx : s.heap.get? x = some { cls := .ref C, dict := none, data := .fields vs })
  (q : ∀ (h' : Heap) (tk : Nat), (∀ b o, b ≠ x → s.heap.get? b = some o → h'.get? b = some o) → h'.get? x = some { cls := .ref C, dict := some s.heap.objs.size, data := .fields vs } → h'.Ns1 s.heap.objs.size (fun y => if y = name then some v else none) → Q () { s with heap := h', toks := tk }) :
  wpAny (model prog w) A (setAttr (.ref x) name v) Q E s := by
 have I : InstAt s.heap x { cls := .ref C, dict := none, data := .fields vs } C none := ⟨hx, rfl, rfl, trivial⟩
 have SF := PySem.F.store_object
 obtain ⟨cd, hc, ho⟩ := any_some e.tl
 obtain ⟨cd', hc', hd'⟩ := any_some e.hd
 rw [hc] at hc'
 cases hc'
 refine set_plain X I e.sa ?_
 obtain ⟨hp, g, d, t, os⟩ := s
 have L0 := I.type (M := model prog w)
 have hm : Looks (model prog w) hp (mroOf (.ref C)) cd.mro := (looks_clsIn X hc).andThen .now
 refine codeAny_call_builtin SF.slot.plain SF.entry (@check_slot (model prog w) _ _ ⟨hp, g, d, t + 1, os⟩ "object.__setattr__" "object" "__setattr__" (.ref x) [.str name t, v] [] _ SF.kind SF.split (I.type.andThen (looks_mroIn X e.ob)) (SF.args (.ref x) (.str name t) v) ?_)
 rw [osa_eq, refuse_eq]
 refine wpAny_bind (wpAny_bind (L0.at (wpAny_bind (hm.at ?_))))
 rw [refuse_exc _ ho]
 refine wpAny_pure (wpAny_bind (L0.at (wpAny_bind ((looks_findIn X hn).at (wpAny_bind (wpAny_pure ?_))))))
 have hx1 : (hp.push { cls := .type "dict", data := .dict #[] }).get? x = some { cls := .ref C, dict := none, data := .fields vs } := Heap.get?_push_of_some _ hx
 have hxs : x ≠ hp.objs.size := Nat.ne_of_lt (Heap.lt_size hx)
 refine wpAny_bind (wpAny_pure (wpAny_bind (wpAny_bind (wpAny_loadPart hx (wpAny_bind ((looks_clsIn X hc).at ?_))))))
 rw [hd']
 show wpAny _ _ (alloc { cls := .type "dict", data := .dict #[] } >>= fun d => update x (fun o => { cls := o.cls, dict := some d, data := o.data, slots := o.slots }) >>= fun _ => dictMade (.ref C) x d) _ _ _
 refine wpAny_bind (wpAny_alloc' (wpAny_bind (wpAny_update' hx1 (wpAny_pure ?_))))
 have g1 : ((hp.push { cls := .type "dict", data := .dict #[] }).update x fun o => { cls := o.cls, dict := some hp.objs.size, data := o.data, slots := o.slots }).get? hp.objs.size = some { cls := .type "dict", data := .dict #[] } :=
  (Heap.get?_update_ne _ _ _ _ hxs.symm).trans (Heap.get?_push_at rfl rfl)
 have g2 : ((hp.push { cls := .type "dict", data := .dict #[] }).update x fun o => { cls := o.cls, dict := some hp.objs.size, data := o.data, slots := o.slots }).Ns hp.objs.size (fun _ => none) :=
  ⟨_, #[], _, g1, rfl, fun e he => absurd he (by simp), fun _ => rfl⟩
 show wpAny _ _ (storeInDict hp.objs.size (.str name t) name v) _ _ _
 unfold storeInDict newKeyGuard
 refine wpAny_bind (wpAny_pure (wpAny_bind (wpAny_nsSet1 (Heap.Ns1.of_empty g2) fun h' hn' hs => ?_)))
 obtain ⟨oD, esD, epD, hoD, hdD, hcD⟩ := hn'.count (Within.cons name v Within.nil)
 refine wpAny_bind (wpAny_lookBehind hoD (by rw [hdD]; exact pastItsLine_dict (Nat.le_trans hcD (by rw [List.length_cons, List.length_nil, sizeLine_eq]; omega))) (wpAny_pure ?_))
 refine q h' _ (fun b o n gb => ?_) ?_ hn'
 ·exact (hs.2 b (Nat.ne_of_lt (Heap.lt_size gb))).trans ((Heap.get?_update_ne _ _ _ _ n).trans (Heap.get?_push_of_some _ gb))
 ·exact (hs.2 x hxs).trans (Heap.get?_update_self _ hx1 rfl)
end
def ErrAt (H : Hp) (a C : Addr) : Option (List (Str × V)) → Prop
 | none => H a = some (.ext (ExcF a C none))
 | some fs => ∃ d, H a = some (.ext (ExcF a C (some d))) ∧ H d = some (.xd fs)
section
variable {X : Cx} {pins : List (Addr × Obj)} {σ : St} {H : Hp} {s : Shared} {a C : Addr}
end
section
variable {X : Cx} {e o value : Expr} {ta tv : TE} {f : Str} {pos pos' : Pos}
theorem pe_globR {x : Str} {c : Addr} (hg : Gl X x) (hm : X.mg x = some (.ref c)) (hd : (x == ("__debug__" : Str)) = false := by decide) : PE X (.Name x pos) (tC (.ref c)) := pe_glob (v := .ref c) hg hm rfl hd
def sExSet (K : Frag) (ta tv : TE) (f : Str) : TS := fun D σ H => tv σ H fun y H1 => ta σ H1 fun x H2 => ∃ a C, x = .ref a ∧ ErrAt H2 a C none ∧ ExcK K C ∧ findIn K (.ref C) f = some none ∧
 ∀ d, H2 d = none → d ≠ a → D.nx σ (upd (upd H2 a (.ext (ExcF a C (some d)))) d (.xd [(f, y)]))
theorem ps_exset (ha : PE X o ta) (hv : PE X value tv) (hs : swapsWith value (some (.Attribute o f pos')) pos.line X.env = pure false := by rfl) : PS X (.Assign [.Attribute o f pos'] value pos) (sExSet X.K ta tv f) := by
 intro pins s σ H D I h
 refine plainObj_wpAny_Assign_Attribute (thn (hv pins s σ H _ I h) fun u s1 ⟨y, H1, I1, ry, q⟩ => thn (ha pins s1 σ H1 _ I1 q) fun ov s2 ⟨x, H2, I2, rx, a, C, ex, he, ek, hf, q2⟩ => ?_) hs
 subst ex
 obtain rfl : ov = Value.ref a := rx
 have he' : H2 a = some (.ext (ExcF a C none)) := he
 obtain ⟨⟨t, e0⟩, _⟩ := (show ObjOk X.prog X.w H2 s2.heap a (.ext (ExcF a C none)) from I2.hok a _ he')
 refine exc_put I2.kIn ek hf e0 fun h' tk kp hx hns => ?_
 have hlt : a < s2.heap.objs.size := Heap.lt_size e0
 have hfr : H2 s2.heap.objs.size = none := I2.hok.fresh (Nat.le_refl _)
 -- the error's own record first, then the dict
 generalize eh1 : s2.heap.update a (fun o => { cls := o.cls, dict := some s2.heap.objs.size, data := o.data, slots := o.slots }) = h1
 have g1 : h1.get? a = some { cls := .ref C, dict := some s2.heap.objs.size, data := .fields #[.ref t, .none, .none, .none, .bool false, .none] } := by
  rw [← eh1]
  exact Heap.get?_update_self _ e0 rfl
 have g2 : ∀ b o, b ≠ a → s2.heap.get? b = some o → h1.get? b = some o := fun b o n g => by
  rw [← eh1]
  exact (Heap.get?_update_ne _ _ _ _ n).trans g
 have z1 : h1.objs.size = s2.heap.objs.size := by
  rw [← eh1]
  exact Heap.size_update ..
 have J1 : Inv X pins σ (upd H2 a (.ext (ExcF a C (some s2.heap.objs.size)))) { s2 with heap := h1, toks := tk } :=
  I2.write (t' := tk) (x := a) (e := a) (by rw [he']; exact trivial) (.inl rfl) (fun b o n g => g2 b o n g) ⟨_, g1⟩ (excF_ok ⟨t, g1⟩)
 have k1 : ∀ b o, h1.get? b = some o → h'.get? b = some o := fun b o g => by
  by_cases hb : b = a
  ·subst hb
   rw [g1] at g
   cases g
   exact hx
  ·refine kp b o hb ?_
   rw [← eh1, Heap.get?_update_ne _ _ _ _ hb] at g
   exact g
 have J2 : Inv X pins σ (upd (upd H2 a (.ext (ExcF a C (some s2.heap.objs.size)))) s2.heap.objs.size (.xd [(f, y)])) { s2 with heap := h', toks := tk } :=
  J1.laid (t' := tk) (a := s2.heap.objs.size) (o := .xd [(f, y)]) k1 (by show h1.objs.size ≤ _; rw [z1]; exact Nat.le_refl _) ⟨_, hns, fun g => by
   show RelO (List.lookup g [(f, y)]) (if g = f then some u else none)
   by_cases hg : g = f
   ·subst hg
    rw [if_pos rfl, List.lookup_cons_self]
    exact ry
   ·rw [if_neg hg, List.lookup_cons, beq_eq_false_iff_ne.mpr hg]
    exact trivial⟩
 exact ⟨σ, _, J2, q2 _ hfr (Nat.ne_of_gt hlt)⟩
def tFstr (te : TE) : TE := fun σ H Q => te σ H fun x H1 => ((∃ z : Str, x = .str z ∧ z.length ≤ 1000) ∨ ∃ i : Int, x = .int i ∧ i.natAbs.log2 < 1920) ∧ ∀ y : Str, Q (.str y) H1
theorem pe_fstr2 {c1 : Str} {k1 : Nat} {p1 p2 : Pos} {te : TE} (he : PE X e te) (h1 : c1.length ≤ 1000) :
  PE X (.JoinedStr [.Constant (.str c1) k1 p1, .FormattedValue e (-1) none p2] pos) (tFstr te) := by
 intro pins s σ H Q I h
 have big : 10000 ≤ sizeLine := by rw [sizeLine_eq]; decide
 have l0 : (Str.empty ++ c1).length = c1.length := by rw [Str.length_append]; simp [Str.empty, Str.length]
 refine JoinedStr_many (joinParts_cons (Calls.Constant_str ⟨?_, joinParts_cons (FormattedValue_plain (thn (he pins _ σ H _ (I.tok _) h) fun v s1 ⟨x, H1, I1, r1, q1, q⟩ => ?_))⟩))
 ·omega
 rcases q1 with ⟨z, rfl, hz⟩ | ⟨i, rfl, hi⟩
 ·obtain ⟨t, rfl⟩ := r1
  refine formatField_str (fun t' tk => ⟨?_, joinParts_nil ⟨.str _, H1, (I1.tok _).tok _, ⟨_, rfl⟩, q _⟩ ?_⟩) (by omega)
  ·rw [Str.length_append]; omega
  ·rw [Str.length_append]; omega
 ·obtain ⟨t, rfl⟩ := r1
  have li : (Str.ofString (toString i)).length ≤ 2000 := by
   have := int_text_length_le (a := i) (k := 1920) (by decide) hi
   rw [PySem.ofString_length]
   omega
  refine formatField_int_small hi ⟨?_, joinParts_nil ⟨.str _, H1, (I1.tok _).tok _, ⟨_, rfl⟩, q _⟩ ?_⟩
  ·rw [Str.length_append]; show (Str.empty ++ c1).length + (Str.ofString (toString i)).length ≤ _; omega
  ·rw [Str.length_append]; show (Str.empty ++ c1).length + (Str.ofString (toString i)).length ≤ _; omega
end
end L2
namespace L2
open PySem PySem.Spec PyProof.Rows PySem.W
abbrev excO (C : Addr) (dd : Option Addr) (t : Addr) (tb : Value) : Obj := { cls := .ref C, dict := dd, data := .fields #[.ref t, tb, .none, .none, .bool false, .none] }
def ExcG (e C : Addr) (dd : Option Addr) : Heap → Prop := fun h => ∃ t tb, h.get? e = some (excO C dd t tb)
theorem excG_ok {P : Program} {w : World} {H : Hp} {h : Heap} {e C : Addr} {dd : Option Addr} (x : ExcG e C dd h) : ObjOk P w H h e (.ext (ExcG e C dd)) :=
 ⟨x, let ⟨_, _, q⟩ := x; ⟨_, q⟩, fun _ _ ⟨t, tb, q⟩ k => ⟨t, tb, k _ q⟩⟩
def gone (H : Hp) (e C : Addr) (dd : Option Addr) : Hp := upd H e (.ext (ExcG e C dd))
theorem gone_same {H : Hp} {e C : Addr} {dd : Option Addr} : gone H e C dd e = some (.ext (ExcG e C dd)) := upd_same
theorem gone_ne {H : Hp} {e C b : Addr} {dd : Option Addr} (h : b ≠ e) : gone H e C dd b = H b := upd_ne h
theorem gone_self {H : Hp} {e C : Addr} {dd : Option Addr} (h : H e = some (.ext (ExcG e C dd))) : gone H e C dd = H := by
 funext b
 by_cases q : b = e
 ·subst q
  rw [gone_same, h]
 ·rw [gone_ne q]
section
variable {M : Model} {A : Around} {E : Value → Shared → Prop} {s : Shared}
theorem fly_entry {base : Heap} {env : Env} {outer : List Env} {L e C t : Addr} {dd : Option Addr} {tb head : Value} {nx : Bool} {Q : Unit → Shared → Prop} (hfr : A.frames = some (env :: outer)) (hl : s.heap.FunFrames base (env :: outer)) (hf : env.frame = some L) (he : s.heap.get? e = some (excO C dd t tb))
  (k : ∀ (h' : Heap) (T : Addr) (oT : Obj) (ts : Array Value), s.heap.objs.size ≤ T → (∀ b o, b ≠ e → b ∉ frs (env :: outer) → s.heap.get? b = some o → h'.get? b = some o) → (∀ b o, b ≠ e → b ∈ frs (env :: outer) → s.heap.get? b = some o → ∃ sl, h'.get? b = some { o with slots := sl }) →
   h'.get? e = some (excO C dd t (.ref T)) → h'.get? T = some oT → oT.data = .fields ts → ts[3]? = some .none → Q () { s with heap := h' }) :
  wpAny M A (do let a ← frameOf env; let pl ← entryPlaceOf L nx; let b ← EntryCells.newEntry head a .none (rawInt L) .none pl; setField (.ref e) 1 b) (fun _ s' => wpAny M A (setFlight (.ref e) none) Q E s') E s := by
 have nfe : e ∉ frs (env :: outer) := fun hm => by
  obtain ⟨_, o, ho, hn⟩ := hl.mem hm
  rw [he] at ho
  cases ho
  exact hn _ rfl
 refine wpAny_bind (wpAny_frameOf_fun hfr hl hf fun h1 hs1 => wpAny_bind (wpAny_entryPlaceOf fun pl hpl => ?_))
 unfold EntryCells.newEntry newFields
 refine wpAny_bind (wpAny_newObj_type ?_ (hpl.sizeOk5 _ _ _ _ _))
 have e1 : h1.get? e = some (excO C dd t tb) := (hs1.2.1 e nfe).trans he
 generalize eo : ({ cls := .type "traceback", dict := none, data := .fields ([head, .ref L, .none, rawInt L, .none] ++ (if pl.isEmpty then List.replicate 6 Value.none else pl)).toArray } : Obj) = oT
 have dT : oT.data = .fields ([head, .ref L, .none, rawInt L, .none] ++ (if pl.isEmpty then List.replicate 6 Value.none else pl)).toArray := by rw [← eo]
 have fT : oT.isFreed = false := Obj.isFreed_of_fields dT
 have e2 : (h1.push oT).get? e = some (excO C dd t tb) := Heap.get?_push_of_some _ e1
 have gT : (h1.push oT).get? h1.objs.size = some oT := Heap.get?_push_size h1 fT
 refine wpAny_setField e2 rfl (by show 1 < 6; decide) ?_
 have nT : h1.objs.size ≠ e := Nat.ne_of_gt (Heap.lt_size e1)
 have e3 : ((h1.push oT).update e (Obj.mapFields (·.setIfInBounds 1 (Value.ref h1.objs.size)))).get? e = some (excO C dd t (.ref h1.objs.size)) := Heap.get?_update_self _ e2 rfl
 have gT3 : ((h1.push oT).update e (Obj.mapFields (·.setIfInBounds 1 (Value.ref h1.objs.size)))).get? h1.objs.size = some oT := (Heap.get?_update_other _ _ (Ne.symm nT)).trans gT
 unfold setFlight
 refine wpAny_bind (wpAny_field e3 rfl (x := .ref h1.objs.size) rfl ?_)
 rw [if_pos (show (Value.ref h1.objs.size != Value.none) = true by simp)]
 refine wpAny_setField gT3 dT (by simp only [List.size_toArray, List.length_append, List.length_cons, List.length_nil] <;> omega) ?_
 have keep : ∀ b o, b ≠ e → h1.get? b = some o → (((h1.push oT).update e (Obj.mapFields (·.setIfInBounds 1 (Value.ref h1.objs.size)))).update h1.objs.size (Obj.mapFields (·.setIfInBounds 3 ((none : Option Addr).elim Value.none fun f => rawInt f)))).get? b = some o := fun b o hb q => by
  rw [Heap.get?_update_other _ _ (Nat.ne_of_gt (Heap.lt_size q)), Heap.get?_update_other _ _ (Ne.symm hb)]
  exact Heap.get?_push_of_some _ q
 have dT4 := Obj.data_mapFields dT (·.setIfInBounds 3 ((none : Option Addr).elim Value.none fun f => rawInt f))
 refine k _ h1.objs.size _ _ ?_ (fun b o hb hn q => keep b o hb ((hs1.2.1 b hn).trans q)) (fun b o hb _ q => ?_) ?_ (Heap.get?_update_self _ gT3 (Obj.isFreed_of_fields dT4)) dT4 ?_
 ·rw [hs1.1]
  exact Nat.le_refl _
 ·obtain ⟨sl, q'⟩ := hs1.2.2 b o q
  exact ⟨sl, keep b _ hb q'⟩
 ·rw [Heap.get?_update_other _ _ nT]
  exact e3
 ·first | (simp; done) | (rcases hpl with rfl | ⟨_, _, _, _, _, _, _, rfl⟩ <;> simp)
end
def FlyT (X : Cx) (pins : List (Addr × Obj)) (H : Hp) (h : Heap) (e C : Addr) (dd : Option Addr) : Prop :=
 H e = some (.ext (ExcG e C dd)) ∧ ∃ t T oT ts, h.get? e = some (excO C dd t (.ref T)) ∧ T ≠ e ∧ h.get? T = some oT ∧ oT.data = .fields ts ∧ ts[3]? = some .none ∧
  H T = none ∧ (T ∈ X.ex ∨ X.s₀.heap.objs.size ≤ T) ∧ T ≠ X.env.locals ∧ (∀ x c, X.env.cells.lookup x = some c → c ≠ T) ∧ ∀ p ∈ X.pn ++ pins, p.1 ≠ T
def FlyX (X : Cx) (pins : List (Addr × Obj)) (H : Hp) (h : Heap) (e C : Addr) (dd : Option Addr) : Prop := H e = some (.ext (ExcF e C dd)) ∨ FlyT X pins H h e C dd
section
variable {X : Cx} {pins : List (Addr × Obj)} {σ : St} {H : Hp} {s : Shared} {e C : Addr} {dd : Option Addr}
theorem Inv.fly {h1 h' : Heap} {ch : List Addr} (I : Inv X pins σ H s) (hH : ∃ φ, H e = some (.ext φ)) (hx : ExcG e C dd h') (kp : ∀ b o, b ≠ e → b ∉ ch → b ∉ frs X.stack → s.heap.get? b = some o → h'.get? b = some o) (ks : ∀ b o, b ≠ e → b ∉ ch → b ∈ frs X.stack → s.heap.get? b = some o → ∃ sl, h'.get? b = some { o with slots := sl })
  (hc : ∀ b ∈ ch, H b = none ∧ (b ∈ X.ex ∨ X.s₀.heap.objs.size ≤ b) ∧ b ≠ X.env.locals ∧ (∀ x c, X.env.cells.lookup x = some c → c ≠ b) ∧ ∀ p ∈ X.pn ++ pins, p.1 ≠ b) : Inv X pins σ (gone H e C dd) { s with heap := h' } := by
 obtain ⟨φ, hH⟩ := hH
 have ne : ∀ {b}, H b = none → b ≠ e := fun n q => by
  rw [q, hH] at n
  cases n
 have ny : ∀ {b o}, H b = some o → (∀ ψ, o ≠ .ext ψ) → b ≠ e := fun q n z => by
  rw [z, hH] at q
  exact n _ (Option.some.inj q).symm
 obtain ⟨t, tb, he⟩ := hx
 refine I.call (g' := s.gens) (t' := s.toks) (d' := s.drawn) (ch := ch) ⟨fun b o q n hf hc' => kp b o (ne n) hc' hf q, fun b o q n hf hc' => ks b o (ne n) hc' hf q, fun b o q n _ => by rw [gone_ne (ne n)]; exact n, fun b o q hc' => ?_, fun b xs q => ?_, fun b o u q => ?_, fun b ps q => ⟨#[], ?_⟩⟩ (fun b o q => ?_) I.bare fun b hb => (hc b hb).2
 ·by_cases h1 : b = e
  ·exact ⟨_, h1 ▸ he⟩
  ·by_cases h2 : b ∈ frs X.stack
   ·obtain ⟨sl, z⟩ := ks b o h1 hc' h2 q
    exact ⟨_, z⟩
   ·exact ⟨_, kp b o h1 hc' h2 q⟩
 ·rw [gone_ne (ny q fun ψ z => by cases z)]
  exact q
 ·rw [gone_ne (ny q fun ψ z => by cases z)]
  exact q
 ·rw [gone_ne (ny q fun ψ z => by cases z), q]
  simp
 ·by_cases hb : b = e
  ·subst hb
   rw [gone_same] at q
   cases q
   exact excG_ok ⟨t, tb, he⟩
  ·rw [gone_ne hb] at q
   have nk : ∀ {c u}, H c = some u → c ≠ e → ∀ v, s.heap.get? c = some v → h'.get? c = some v := fun hu n v z => by
    refine kp _ v n (fun m => ?_) (fun m => ?_) z
    ·rw [(hc _ m).1] at hu
     cases hu
    ·rw [I.stkFree _ m] at hu
     cases hu
   refine (I.hok b o q).stay (fun c u hcu z => ?_) (fun c z => ?_) (fun c xs z => ?_)
   ·rcases hcu with rfl | hcu
    ·exact nk q hb u z
    ·exact nk hcu (ny hcu fun ψ z => by cases z) u z
   ·rw [gone_ne (ny z fun ψ z => by cases z)]
    exact z
   ·rw [gone_ne (ny z fun ψ z => by cases z)]
    exact z
theorem fly_note {M : Model} {A : Around} {E : Value → Shared → Prop} {Q : Unit → Shared → Prop} (I : Inv X pins σ H s) (hfr : A.frames = some X.stack) (hst : X.stack = X.env :: X.outer) (hf : X.env.frame = some X.env.locals) (F : FlyX X pins H s.heap e C dd)
  (k : ∀ h' : Heap, Inv X pins σ (gone H e C dd) { s with heap := h' } → FlyT X pins (gone H e C dd) h' e C dd → Q () { s with heap := h' }) : wpAny M A (noteFrame (.ref e) X.env) (fun _ s' => wpAny M A (setFlight (.ref e) none) Q E s') E s := by
 have fun0 : s.heap.FunFrames X.base (X.env :: X.outer) := hst ▸ I.stack
 have fin : ∀ (ch : List Addr) (h0 h' : Heap) (T t : Addr) (oT : Obj) (ts : Array Value), (∃ φ, H e = some (.ext φ)) → s.heap.objs.size ≤ h0.objs.size → (∀ b, b ∉ ch → h0.get? b = s.heap.get? b) → (∀ b ∈ ch, H b = none ∧ (b ∈ X.ex ∨ X.s₀.heap.objs.size ≤ b) ∧ b ≠ X.env.locals ∧ (∀ x c, X.env.cells.lookup x = some c → c ≠ b) ∧ ∀ p ∈ X.pn ++ pins, p.1 ≠ b) →
   h0.objs.size ≤ T → (∀ b o, b ≠ e → b ∉ frs (X.env :: X.outer) → h0.get? b = some o → h'.get? b = some o) → (∀ b o, b ≠ e → b ∈ frs (X.env :: X.outer) → h0.get? b = some o → ∃ sl, h'.get? b = some { o with slots := sl }) →
   h'.get? e = some (excO C dd t (.ref T)) → h'.get? T = some oT → oT.data = .fields ts → ts[3]? = some .none → Q () { s with heap := h' } := fun ch h0 h' T t oT ts hH hz h0k hc lT kp ks ge gT dT t3 => by
  have lT' : s.heap.objs.size ≤ T := Nat.le_trans hz lT
  have J := I.fly (h1 := h0) (ch := ch) hH ⟨t, _, ge⟩ (fun b o n hn hfm q => kp b o n (hst ▸ hfm) ((h0k b hn).trans q)) (fun b o n hn hfm q => ks b o n (hst ▸ hfm) ((h0k b hn).trans q)) hc
  have fr : ∀ {b : Addr} {o : Obj}, s.heap.get? b = some o → b ≠ T := fun q z => by
   subst z
   exact absurd (Heap.lt_size q) (Nat.not_lt.mpr lT')
  obtain ⟨φ, hH'⟩ := hH
  obtain ⟨u, heu⟩ := (I.hok e _ hH').some_
  have nTe : T ≠ e := fun z => fr heu z.symm
  refine k h' J ⟨gone_same, t, T, oT, ts, ge, nTe, gT, dT, t3, ?_, .inr (Nat.le_trans I.sz lT'), ?_, fun x c hx z => ?_, fun p hp z => ?_⟩
  ·rw [gone_ne nTe]
   exact I.hok.fresh lT'
  ·exact Nat.ne_of_gt (Nat.lt_of_lt_of_le I.lt lT')
  ·obtain ⟨v, o, ho, _⟩ := I.cell x c hx
   exact fr ho z
  ·exact fr (I.pin p hp).1 z
 unfold noteFrame
 simp only [hf]
 rcases F with F | ⟨F, t, T, oT, ts, ge, nTe, gT, dT, t3, hT⟩
 ·obtain ⟨⟨t, ge⟩, _⟩ := (show ObjOk X.prog X.w H s.heap e (.ext (ExcF e C dd)) from I.hok e _ F)
  have ge : s.heap.get? e = some (excO C dd t .none) := ge
  refine wpAny_bind (wpAny_field ge rfl (x := .none) rfl ?_)
  rw [if_neg (by decide)]
  exact fly_entry (hst ▸ hfr) fun0 hf ge fun h' T oT ts a1 a2 a3 a4 a5 a6 a7 => fin [] s.heap h' T t oT ts ⟨_, F⟩ (Nat.le_refl _) (fun _ _ => rfl) (fun b hb => by cases hb) a1 a2 a3 a4 a5 a6 a7
 ·refine wpAny_bind (wpAny_field ge rfl (x := .ref T) rfl ?_)
  rw [if_pos (show (Value.ref T != Value.none) = true by simp)]
  refine wpAny_bind (wpAny_field gT dT t3 ?_)
  rw [if_neg (show ¬ ((Value.none == rawInt X.env.locals) = true) by simp [rawInt])]
  refine wpAny_bind (wpAny_setField gT dT (Array.getElem?_eq_some_iff.mp t3).1 ?_)
  have oth : ∀ b, b ∉ [T] → (s.heap.update T (Obj.mapFields (·.setIfInBounds 3 Value.none))).get? b = s.heap.get? b := fun b hb => Heap.get?_update_other _ _ fun z => hb (List.mem_singleton.mpr z.symm)
  have zz : (s.heap.update T (Obj.mapFields (·.setIfInBounds 3 Value.none))).objs.size = s.heap.objs.size := Heap.size_update ..
  have nfr : T ∉ frs (X.env :: X.outer) := fun hm => by
   obtain ⟨_, o, ho, hn⟩ := fun0.mem hm
   rw [gT] at ho
   cases ho
   exact hn _ dT
  refine fly_entry (s := { s with heap := s.heap.update T (Obj.mapFields (·.setIfInBounds 3 Value.none)) }) (hst ▸ hfr) (fun0.of_keeps fun b o hb hnf => ⟨o, (oth b fun z => ?_).trans hb, rfl⟩) hf ((oth e fun z => nTe (List.mem_singleton.mp z).symm).trans ge) fun h' T' oT' ts' a1 a2 a3 a4 a5 a6 a7 =>
   fin [T] _ h' T' t oT' ts' ⟨_, F⟩ (by rw [zz]; exact Nat.le_refl _) oth (fun b hb => by rw [List.mem_singleton.mp hb]; exact hT) a1 a2 a3 a4 a5 a6 a7
  rw [List.mem_singleton.mp z, gT] at hb
  cases hb
  exact hnf _ dT
end
def CXE (P : Program) (w : World) : CXT := fun outer H s E v s' => ∃ (e C : Addr) (dd : Option Addr) (H' : Hp), v = .ref e ∧ s'.os = s.os ∧ AllBare s'.gens ∧ Un (frs outer) [] H H' s.heap s'.heap ∧ HOk P w H' s'.heap ∧ H' e = some (.ext (ExcG e C dd)) ∧ E (.ref C) dd H' ∧
 ∃ t T oT ts, s'.heap.get? e = some (excO C dd t (.ref T)) ∧ T ≠ e ∧ s'.heap.get? T = some oT ∧ oT.data = .fields ts ∧ ts[3]? = some .none ∧ H' T = none ∧ s.heap.objs.size ≤ T
def Lets (X : Cx) (E : XK) : Prop := ∀ (pins : List (Addr × Obj)) (σ : St) (H : Hp) (s : Shared) (e C : Addr) (dd : Option Addr), Inv X pins σ H s → FlyX X pins H s.heap e C dd → E (.ref C) dd (gone H e C dd) → X.xe (.ref e) s
theorem Lets.passes {X : Cx} {E : XK} (L : Lets X E) : Passes (CXE X.prog X.w) X E := by
 rintro pins σ H s v s' I ⟨e, C, dd, H', rfl, os, bare, un, hok, hH, hE, t, T, oT, ts, ge, nTe, gT, dT, t3, hT, lT⟩
 have I' : Inv X pins σ H' s' := I.call' (ch := []) os un hok bare fun b hb => by cases hb
 have fr : ∀ {b : Addr} {o : Obj}, s.heap.get? b = some o → b ≠ T := fun q z => by
  subst z
  exact absurd (Heap.lt_size q) (Nat.not_lt.mpr lT)
 refine L pins σ H' s' e C dd I' (.inr ⟨hH, t, T, oT, ts, ge, nTe, gT, dT, t3, hT, .inr (Nat.le_trans I.sz lT), ?_, fun x c hx z => ?_, fun p hp z => ?_⟩) (by rw [gone_self hH]; exact hE)
 ·exact Nat.ne_of_gt (Nat.lt_of_lt_of_le I.lt lT)
 ·obtain ⟨v, o, ho, _⟩ := I.cell x c hx
  exact fr ho z
 ·exact fr (I.pin p hp).1 z
section
variable {P : Program} {w : World} {K : PySem.W.Frag} {mg : Str → Option Value} {base : Heap} {N : List Str} {qual : Str} {scope : Scope} {f : Addr} {cd : Value} {A : Around} {outer : List Env} {s : Shared} {H : Hp} {E : XK}
theorem lets_cx : Lets (cxOf (CXE P w) P w K mg base N qual scope f cd A outer s H E) E := by
 intro pins σ H1 s1 e C dd I F hE
 show wpAny _ _ (do noteFrame (.ref e) _; setFlight (.ref e) none) _ _ s1
 refine wpAny_bind (fly_note (X := cxOf (CXE P w) P w K mg base N qual scope f cd A outer s H E) I I.ok.frames rfl rfl F fun h' J F' => ?_)
 obtain ⟨F', t, T, oT, ts, ge, nTe, gT, dT, t3, hT, lT, _⟩ := F'
 have lT : s.heap.objs.size ≤ T := lT.resolve_left fun z => by cases z
 exact ⟨e, C, dd, _, rfl, J.os, J.bare, J.base, J.hok, gone_same, hE, t, T, oT, ts, ge, nTe, gT, dT, t3, hT, lT⟩
end
section
variable {P : Program} {w : World} {K : PySem.W.Frag} {mg : Str → Option Value} {base : Heap}
theorem Fun.okE {x qual : Str} {st : Stmt} {f : Addr} {fd : FuncData} {N ps : List Str} {k : Nat} {sp : Sp} (F : Fun K x qual st f fd) (S : FnScope N ps (defScope st)) (len : ∀ vs H Q E, sp vs H Q E → vs.length = ps.length)
  (hb : ∀ (cdv : Value) (A : Around) (outer : List Env) (s : Shared) (H : Hp) (vs : List V) (Q : VK) (E : XK), Room k (A.deeper (envOfC qual (defScope st) s.heap.objs.size f cdv)) → sp vs H Q E →
   ∃ t, PSs (cxOf (CXE P w) P w K mg base N qual (defScope st) f cdv A outer s H E) (defBody st) t ∧ t { nx := fun _ H' => Q .non H', rt := Q } (start N vs) H) : FnOk P w K mg base (CXE P w) (k + 1) f fd ps sp := by
 obtain ⟨oc, od, kV, doc, pm, an, cdv, ct, osl, rfl, lk, hcd⟩ := F.ex
 exact fn_of lk hcd S len fun A outer s H vs Q E hr hsp => hb cdv A outer s H vs Q E hr hsp
def DefOkE (P : Program) (w : World) (K : PySem.W.Frag) (mg : Str → Option Value) (base : Heap) (k : Nat) (x : Str) (ps : List Str) (sp : Sp) : Prop :=
 ∃ (f : Addr) (fd : FuncData), FnOk P w K mg base (CXE P w) k f fd ps sp ∧ mg x = some (.ref f) ∧ PySem.W.keepIn K (.ref f) = true ∧ Binds K fd ps []
end
theorem clE {X : Cx} {k : Nat} {x : Str} {ps : List Str} {sp : Sp} {j : Nat} {E : XK} {e : Expr} {es : List Expr} {t : TA} {p pos : Pos} (D : DefOkE X.prog X.w X.K X.mg X.base k x ps sp) (hr : Room j X.A) (L : Lets X E) (ha : PA X (e :: es) t) (hk : k ≤ j := by decide) (hg : Gl X x := by rfl)
  (hdb : (x == ("__debug__" : Str)) = false := by decide) (he : starEach (e :: es) X.env = (false, eval e X.env) :: starEach es X.env := by rfl) (hpl : (backTo pos (starEach es X.env)).any (·.1) = false := by rfl) :
  PE X (.Call (.Name x p) (e :: es) [] pos) (tCall sp [] E t) := by
 obtain ⟨f, fd, F, m, kp, b⟩ := D
 exact pe_call F (hr.mono hk) hg m kp b .nil L.passes ha hdb he hpl
section
variable {X : Cx} {E : XK} {x : Expr} {te : TE} {pos : Pos}
def tRaise (K : PySem.W.Frag) (E : XK) (te : TE) : TS := fun D σ H => te σ H fun v H1 => ∃ (e C : Addr) (dd : Option Addr), v = .ref e ∧ H1 e = some (.ext (ExcF e C dd)) ∧ excInI K C bmV "ValueError.__new__" = true ∧ E (.ref C) dd (gone H1 e C dd)
theorem ps_raise (he : PE X x te) (L : Lets X E) (hA : X.A.handled = none) : PS X (.Raise (some x) none pos) (tRaise X.K E te) := by
 intro pins s σ H D I h
 show wpAny _ _ (do standAt pos; raiseStmt X.env (some (do let v ← eval x X.env; standAt pos; pure v)) none) _ _ s
 refine wpAny_bind (wpAny_standAt ?_)
 unfold raiseStmt
 refine wpAny_bind (wpAny_bind (thn (he pins s σ H _ I h) fun v s1 ⟨v', H1, I1, rv, e, C, dd, ev, hH, hq, hE⟩ => wpAny_bind (wpAny_standAt (wpAny_pure ?_))))
 subst ev
 obtain rfl : v = Value.ref e := rv
 obtain ⟨bm, N, nm, qn, bs, hd, sn, sub, ab, col, d2, k0, k1, k2, k3, k5, hC, T⟩ := exc_shapeI I1.kIn hq
 have hx := L pins σ H1 s1 e C dd I1 (.inl hH) hE
 obtain ⟨⟨t, ge⟩, _⟩ := (show ObjOk X.prog X.w H1 s1.heap e (.ext (ExcF e C dd)) from I1.hok e _ hH)
 have hcB : (Value.ref C :: bm).contains (.type "BaseException") = true := by
  rw [List.contains_cons, T.hasType (X := "BaseException") (b := true) (by decide), Bool.or_true]
 obtain ⟨hp, g, d, tk, os⟩ := s1
 repeat (first | with_reducible refine wpAny_loadPart_at ge ?_ | with_reducible refine wpAny_loadPart_at hC ?_ | (with_reducible refine wpAny_isSubtype_exc hC ?_; rw [hcB]) | wp_step)
 exact wpAny_raiseNew_none hA hx
end
abbrev Cx.held (X : Cx) (q : List (Addr × Obj)) (E : Value → Shared → Prop) : Cx := { X with pn := q, xe := E }
abbrev Cx.markd (X : Cx) (e : Addr) : Cx := { X with A := X.A.mark (some (.ref e)), calm := false, xe := fun _ _ => False }
section
variable {X : Cx} {pins : List (Addr × Obj)} {σ : St} {H : Hp} {s : Shared}
theorem Cx.Ok.held {q : List (Addr × Obj)} {E : Value → Shared → Prop} (ok : X.Ok) : (X.held q E).Ok :=
 ⟨ok.mod, ok.kind, ok.glob, ok.blt, ok.above, ok.inj, ok.has, ok.cab, ok.hd, ok.frames, ok.stk, ok.exf, ok.bs, ok.bsz, ok.noex, ok.exfs, ok.funs, ok.frf⟩
theorem Cx.Ok.markd {e : Addr} (ok : X.Ok) : (X.markd e).Ok :=
 ⟨ok.mod, ok.kind, ok.glob, ok.blt, ok.above, ok.inj, ok.has, ok.cab, (fun z => by cases z), ok.frames, ok.stk, ok.exf, ok.bs, ok.bsz, ok.noex, ok.exfs, ok.funs, ok.frf⟩
theorem Inv.held {E : Value → Shared → Prop} (I : Inv X pins σ H s) : Inv (X.held (X.pn ++ pins) E) [] σ H s :=
 ⟨I.ok.held, I.os, I.bare, I.base, I.loc, I.cell, I.free, I.freeC, fun p hp => I.pin p (by simpa using hp), I.hok, I.len⟩
theorem Inv.unheld {E : Value → Shared → Prop} {pins' : List (Addr × Obj)} (ok : X.Ok) (I : Inv (X.held (X.pn ++ pins) E) pins' σ H s) : Inv X pins σ H s :=
 ⟨ok, I.os, I.bare, I.base, I.loc, I.cell, I.free, I.freeC, fun p hp => I.pin p (List.mem_append_left _ hp), I.hok, I.len⟩
theorem Inv.markd {e : Addr} (I : Inv X pins σ H s) : Inv (X.markd e) pins σ H s := ⟨I.ok.markd, I.os, I.bare, I.base, I.loc, I.cell, I.free, I.freeC, I.pin, I.hok, I.len⟩
theorem Inv.unmarkd {e : Addr} (ok : X.Ok) (I : Inv (X.markd e) pins σ H s) : Inv X pins σ H s := ⟨ok, I.os, I.bare, I.base, I.loc, I.cell, I.free, I.freeC, I.pin, I.hok, I.len⟩
abbrev blank (X : Cx) : St := List.replicate X.N.length none
theorem Inv.blank (I : Inv X pins σ H s) : Inv X pins (blank X) H s :=
 ⟨I.ok, I.os, I.bare, I.base, let ⟨m, hn, _⟩ := I.loc; ⟨m, hn, fun i x v _ e _ => by
  rw [List.getElem?_replicate] at e
  split at e <;> cases e⟩, I.cell, I.free, I.freeC, I.pin, I.hok, List.length_replicate⟩
theorem goes_ok {M : Model} {A : Around} {E : Value → Shared → Prop} {i : Nat} {x : Str} {pos : Pos} {Q : Unit → Shared → Prop} (I : Inv X pins σ H s) (hN : X.N.Nodup) (hi : X.N[i]? = some x) (hk : X.env.kindOf x = some .local) (h : ∀ s', Inv X pins (σ.set i none) H s' → Q () s') :
  wpAny M A (do bindName X.env x .none; unbindBehindTheSuite X.env x pos) Q E s := by
 obtain ⟨m, hn, hl⟩ := id I.loc
 have hcls : (X.env.scope.kind == .class || (X.env.scope.kind == .module && X.env.locals != X.env.globals)) = false := by rw [I.ok.kind]; rfl
 have hiσ : i < σ.length := by rw [I.len]; exact (List.getElem?_eq_some_iff.mp hi).1
 refine wpAny_nameGoes_keeps hk hn hcls fun h' v hn' hs => ?_
 have old : ∀ {b : Addr} {o : Obj}, X.s₀.heap.get? b = some o → b ≠ X.env.locals := fun q => Nat.ne_of_lt (Nat.lt_of_lt_of_le (Heap.lt_size q) I.ok.above)
 refine h _ ⟨I.ok, I.os, I.bare, ⟨fun b o e n hb hx => (hs.2 b (old e)).trans (I.base.keep b o e n hb hx), fun b o e n hb hx => ?_, I.base.free, fun b o e hx => ?_, I.base.tups, I.base.frzs, I.base.tbls⟩, ⟨_, hn', fun j y v' e1 e2 e3 => ?_⟩, fun y c e => ?_, I.free, I.freeC, fun p hp => ?_, fun b ob e => ?_, by simpa using I.len⟩
 ·obtain ⟨sl, e1⟩ := I.base.slot b o e n hb hx
  exact ⟨sl, (hs.2 b (old e)).trans e1⟩
 ·obtain ⟨o', e1⟩ := I.base.there b o e hx
  exact ⟨o', (hs.2 b (old e)).trans e1⟩
 ·by_cases hj : j = i
  ·subst hj
   rw [List.getElem?_set_self hiσ] at e2
   cases e2
  ·rw [List.getElem?_set_ne (Ne.symm hj)] at e2
   obtain ⟨u', r', q⟩ := hl j y v' e1 e2 e3
   refine ⟨u', r', ?_⟩
   rcases q with ⟨k, e⟩ | ⟨k, c, e, z⟩
   ·refine .inl ⟨k, ?_⟩
    have : y ≠ x := fun e => hj (nodup_ix hN e1 (e ▸ hi))
    simp [this, e]
   ·exact .inr ⟨k, c, e, z.sameBut hs (I.cne y c e)⟩
 ·obtain ⟨w', z⟩ := I.cell y c e
  exact ⟨w', z.sameBut hs (I.cne y c e)⟩
 ·obtain ⟨e, n, ne, nf, d⟩ := I.pin p hp
  exact ⟨(hs.2 p.1 ne).trans e, n, ne, nf, d⟩
 ·refine (I.hok b ob e).stay (fun c w' hc q => (hs.2 c ?_).trans q) (fun _ q => q) fun _ _ q => q
  intro z
  subst z
  rcases hc with z | hc
  ·rw [← z, I.free] at e
   cases e
  ·rw [I.free] at hc
   cases hc
end
section
variable {X : Cx} {E : XK} {pos hpos p : Pos} {body suite : List Stmt} {b0 : Stmt} {n x : Str} {C0 : Addr} {tb ts : TS} {i : Nat}
theorem exc_match {M : Model} {A : Around} {E : Value → Shared → Prop} {Q : Bool → Shared → Prop} {K : PySem.W.Frag} {s : Shared} {e C : Addr} {oe : Obj} (KI : K.In s.heap) (h0 : excInI K C0 bmV "ValueError.__new__" = true) (he : s.heap.get? e = some oe) (hcl : oe.cls = .ref C) (hm : mroIn K C (.ref C0) = some true) (q : Q true s) :
  wpAny M A (excMatches (.ref e) (.ref C0)) Q E s := by
 obtain ⟨bm, N, nm, qn, bs, hd, sn, sub, ab, col, d2, k0, k1, k2, k3, k5, hC, T⟩ := exc_shapeI KI h0
 have hcB : (Value.ref C0 :: bm).contains (.type "BaseException") = true := by
  rw [List.contains_cons, T.hasType (X := "BaseException") (b := true) (by decide), Bool.or_true]
 have f := tc_notTuple
 have L := looks_mroIn (M := M) KI hm
 obtain ⟨hp, g, d, tk, os⟩ := s
 unfold excMatches
 repeat (first | (with_reducible refine wpAny_loadPart_at he ?_; rw [hcl]) | with_reducible refine wpAny_loadPart_at hC ?_ | (with_reducible refine wpAny_isSubtype_exc hC ?_; rw [hcB]) | with_reducible refine L.at ?_ | wp_step)
 exact q
def tTry (K : PySem.W.Frag) (b : St) (i : Nat) (EH : XK) (C0 : Addr) (tb ts : TS) : TS := fun D σ H => tb D σ H ∧ ∀ (e C : Addr) (dd : Option Addr) (H' : Hp), H' e = some (.ext (ExcG e C dd)) → EH (.ref C) dd H' → mroIn K C (.ref C0) = some true ∧
 ts { nx := fun τ H2 => D.nx (τ.set i none) H2, rt := D.rt, bk := fun τ H2 => D.bk (τ.set i none) H2, ct := fun τ H2 => D.ct (τ.set i none) H2 } (b.set i (some (.ref e))) H'
theorem ps_try {EH : XK} (hN : X.N.Nodup) (hi : X.N[i]? = some n) (hk : X.env.kindOf n = some .local) (hg : Gl X x) (hm : X.mg x = some (.ref C0)) (h0 : excInI X.K C0 bmV "ValueError.__new__" = true) (hst : X.stack = X.env :: X.outer) (hf : X.env.frame = some X.env.locals)
  (hb : ∀ (q : List (Addr × Obj)) (E' : Value → Shared → Prop), Lets (X.held q E') EH → PSs (X.held q E') body tb) (hs : ∀ e, PSs (X.markd e) (b0 :: suite) ts) (hdb : (x == ("__debug__" : Str)) = false := by decide) :
  PS X (.Try body [.ExceptHandler (some (.Name x p)) (some n) (b0 :: suite) hpos] [] [] pos) (tTry X.K (blank X) i EH C0 tb ts) := by
 intro pins s σ H D I ⟨hB, hH⟩
 refine wpAny_Try_except ?_
 have L : Lets (X.held (X.pn ++ pins) (fun v s1 => wpAny (model X.prog X.w) X.A (noteFrame v X.env) (fun _ s2 => wpAny (model X.prog X.w) X.A (setFlight v none) (fun _ s3 => wpAny (model X.prog X.w) X.A (handleBy v X.env [.ExceptHandler (some (.Name x p)) (some n) (b0 :: suite) hpos]) (SP X pins D) X.xe s3) X.xe s2) X.xe s1)) EH := by
  intro pins' σ' H' s' e C dd I' F hE
  refine fly_note (X := X.held (X.pn ++ pins) _) I' I'.ok.frames hst hf F fun h2 J F2 => ?_
  obtain ⟨hE2, hT⟩ := hH e C dd (gone H' e C dd) gone_same hE
  obtain ⟨F2, t, T, oT, ts', ge, nTe, gT, dT, t3, fT, lT, n1, n2, n3⟩ := F2
  have J2 : Inv X pins (blank X) (gone H' e C dd) { s' with heap := h2 } := (J.unheld I.ok).blank
  refine wpAny_handleBy_cons (codeAny_handlers_test ?_) (by intro q; cases q)
  refine ld_glob (X := X.markd e) J2.markd hg hm (exc_match J2.kIn h0 ge rfl hE2 ?_) hdb
  refine codeAny_handlers_suite_as (wpAny_setFlight_none ge rfl rfl gT dT (Array.getElem?_eq_some_iff.mp t3).1 ?_)
  have J4 : Inv X pins (blank X) (gone H' e C dd) { s' with heap := h2.update T (Obj.mapFields (·.setIfInBounds 3 .none)) } := Inv.turned (s := { s' with heap := h2 }) (h' := h2.update T (Obj.mapFields (·.setIfInBounds 3 .none))) (t' := s'.toks) (it := T) J2 (fun b o nb q => (Heap.get?_update_other _ _ (Ne.symm nb)).trans q) fT n1 lT n2 fun q hq => n3 q (List.mem_append_left _ hq)
  refine store_ok (X := X.markd e) (v := .ref e) J4.markd hN hi (.inl hk) rfl (fun s5 J5 => ?_) (.inr hk)
  refine wpAny_mono (hs e pins s5 _ _ _ J5 hT) (fun f s6 h6 => ?_) fun _ _ z => False.elim z
  cases f with
  | next =>
   obtain ⟨σ6, H6, I6, q6⟩ := h6
   exact goes_ok (I6.unmarkd I.ok) hN hi hk fun s7 J7 => ⟨_, _, J7, q6⟩
  | brk =>
   obtain ⟨σ6, H6, I6, q6⟩ := h6
   exact goes_ok (I6.unmarkd I.ok) hN hi hk fun s7 J7 => ⟨_, _, J7, q6⟩
  | cont =>
   obtain ⟨σ6, H6, I6, q6⟩ := h6
   exact goes_ok (I6.unmarkd I.ok) hN hi hk fun s7 J7 => ⟨_, _, J7, q6⟩
  | ret u =>
   obtain ⟨v6, σ6, H6, I6, r6, q6⟩ := h6
   exact goes_ok (I6.unmarkd I.ok) hN hi hk fun s7 J7 => ⟨_, _, _, J7, r6, q6⟩
 refine thn (hb (X.pn ++ pins) _ L [] s σ H D I.held hB) fun f s1 q => ?_
 cases f with
 | next =>
  obtain ⟨σ', H', I', q⟩ := q
  exact wpAny_execs_nil ⟨σ', H', I'.unheld I.ok, q⟩
 | brk =>
  obtain ⟨σ', H', I', q⟩ := q
  exact ⟨σ', H', I'.unheld I.ok, q⟩
 | cont =>
  obtain ⟨σ', H', I', q⟩ := q
  exact ⟨σ', H', I'.unheld I.ok, q⟩
 | ret u =>
  obtain ⟨v, σ', H', I', r, q⟩ := q
  exact ⟨v, σ', H', I'.unheld I.ok, r, q⟩
end
section
variable {X : Cx}
end
section
variable {X : Cx} {K : Frag}
theorem call_tuple_ofK (h : X.K = K := by rfl) : CallR X (.type "tuple") (fun xs H Q => ∃ p ys, xs = [.ref p] ∧ ((SqL K H p ys ∧ ∀ l, H l = none → Q (.ref l) (upd H l (.tup ys))) ∨ (SqT K H p ys ∧ Q (.ref p) H))) := h ▸ call_tuple_of
end
def ErrG (H : Hp) (a C : Addr) (fs : List (Str × V)) : Prop := ∃ d, H a = some (.ext (ExcG a C (some d))) ∧ H d = some (.xd fs)
section
variable {X : Cx} {pins : List (Addr × Obj)} {σ : St} {H : Hp} {s : Shared} {a C : Addr} {fs : List (Str × V)}
theorem errG_inst (I : Inv X pins σ H s) (h : ErrG H a C fs) : ∃ ox od, W.InstAt s.heap a ox C od := by
 obtain ⟨d, h1, h2⟩ := h
 obtain ⟨⟨t, tb, e⟩, _⟩ := (show ObjOk X.prog X.w H s.heap a (.ext (ExcG a C (some d))) from I.hok a _ h1)
 obtain ⟨mA, n1, _⟩ := (show ObjOk X.prog X.w H s.heap d (.xd fs) from I.hok d _ h2)
 obtain ⟨od, eo, _⟩ := lookIn_ns n1
 exact ⟨_, some od, e, rfl, rfl, eo⟩
theorem call_isinstG : CallR X (.builtin "isinstance") (fun xs H Q => ∃ (a C : Addr) (fs : List (Str × V)) (c : V) (u : Value) (b : Bool), xs = [.ref a, c] ∧ ErrG H a C fs ∧ ExcK X.K C ∧ (∀ u', RelV c u' → u' = u) ∧ kitOne X.K (.ref C) u = some b ∧ Q (.bl b) H) := by
 intro pins s σ H xs us Q I r h
 obtain ⟨a, C, o, c, u, b, rfl, ha, ek, hu, hb, q⟩ := h
 obtain ⟨v, w', rfl, rv, rw'⟩ := vals2 r
 cases rv
 obtain rfl := hu _ rw'
 exact kia_one (kitx_exc ek) I.kIn (errG_inst I ha) hb (fun z => nomatch z) fun tk => ⟨.bl b, H, I.tok tk, rfl, q⟩
theorem vals_refs : ∀ {cs : List Addr} {us : List Value}, Vals (cs.map V.ref) us → us = cs.map Value.ref
 | [], _, .nil => rfl
 | c :: r, _, .cons e h => by
  rw [vals_refs h]
  have e : _ = Value.ref c := e
  rw [e]
  rfl
theorem call_isinstT : CallR X (.builtin "isinstance") (fun xs H Q => ∃ (a C p : Addr) (fs : List (Str × V)) (cs : List Addr) (b : Bool), xs = [.ref a, .ref p] ∧ ErrG H a C fs ∧ ExcK X.K C ∧ H p = some (.tup (cs.map V.ref)) ∧ kitAny X.K (.ref C) (cs.map Value.ref) = some b ∧ Q (.bl b) H) := by
 intro pins s σ H xs us Q I r h
 obtain ⟨a, C, p, fs, cs, b, rfl, ha, ek, hp, hb, q⟩ := h
 obtain ⟨v, w', rfl, rv, rw'⟩ := vals2 r
 cases rv
 cases rw'
 obtain ⟨its, r', ⟨⟨c0, d0, da0, s0⟩, e1, e2, n, e3⟩, _⟩ := I.tuple (SqT.of hp)
 have e2 : c0 = .type "tuple" := e2
 have e3 : da0 = .seq its.toArray n := e3
 subst e2 e3
 rw [vals_refs r'] at e1
 exact kia_tup (kitx_exc ek) I.kIn (errG_inst I ha) e1 hb (fun z => nomatch z) fun tk => ⟨.bl b, H, I.tok tk, rfl, q⟩
end
section
variable {X : Cx} {e : Expr} {ta : TE} {f : Str} {pos : Pos}
def tExGetG (K : Frag) (ta : TE) (f : Str) : TE := fun σ H Q => ta σ H fun x H1 => ∃ a C fs v, x = .ref a ∧ ErrG H1 a C fs ∧ ExcK K C ∧ findIn K (.ref C) f = some none ∧ fs.lookup f = some v ∧ Q v H1
theorem pe_exgetG (he : PE X e ta) (hb : attributeBase e f X.env (eval e X.env) = eval e X.env := by rfl) : PE X (.Attribute e f pos) (tExGetG X.K ta f) := by
 intro pins s σ H Q I h
 refine attr_of hb (thn (he pins s σ H _ I h) fun u s1 ⟨x, H1, I1, rx, a, C, fs, v, ex, ha, ek, hf, hl, q⟩ => ?_)
 subst ex
 obtain rfl : u = Value.ref a := rx
 obtain ⟨d, h1, h2⟩ := ha
 obtain ⟨⟨t, tb, e0⟩, _⟩ := (show ObjOk X.prog X.w H1 s1.heap a (.ext (ExcG a C (some d))) from I1.hok a _ h1)
 obtain ⟨mA, n1, r1⟩ := (show ObjOk X.prog X.w H1 s1.heap d (.xd fs) from I1.hok d _ h2)
 obtain ⟨od, eo, el⟩ := lookIn_ns n1
 obtain ⟨u', hu, ru⟩ := RelO.some_of (v := v) (o := mA f) (by rw [← hl]; exact r1 f)
 obtain ⟨cd, hc, hd⟩ := any_some ek.hd
 have J : W.InstAt s1.heap a (excO C (some d) t tb) C (some od) := ⟨e0, rfl, rfl, eo⟩
 have hfo : findObj X.K C (some od) f = some (.value u') := by
  unfold findObj
  rw [hc, Option.bind_some, hf, Option.bind_some]
  show (W.ownOf cd (some od) f).bind _ = _
  unfold W.ownOf
  rw [if_pos hd]
  show (W.lookIn f od).bind _ = _
  rw [el f, hu]
  rfl
 exact exc_value I1.kIn J ek hfo (handed_of ru) ⟨v, H1, I1.tok _, ru, q⟩
theorem pe_exgetGK {K : Frag} (he : PE X e ta) (hb : attributeBase e f X.env (eval e X.env) = eval e X.env := by rfl) (h : X.K = K := by rfl) : PE X (.Attribute e f pos) (tExGetG K ta f) := h ▸ pe_exgetG he hb
theorem call_isinstGK {K : Frag} (h : X.K = K := by rfl) : CallR X (.builtin "isinstance") (fun xs H Q => ∃ (a C : Addr) (fs : List (Str × V)) (c : V) (u : Value) (b : Bool), xs = [.ref a, c] ∧ ErrG H a C fs ∧ ExcK K C ∧ (∀ u', RelV c u' → u' = u) ∧ kitOne K (.ref C) u = some b ∧ Q (.bl b) H) := h ▸ call_isinstG
theorem call_isinstTK {K : Frag} (h : X.K = K := by rfl) : CallR X (.builtin "isinstance") (fun xs H Q => ∃ (a C p : Addr) (fs : List (Str × V)) (cs : List Addr) (b : Bool), xs = [.ref a, .ref p] ∧ ErrG H a C fs ∧ ExcK K C ∧ H p = some (.tup (cs.map V.ref)) ∧ kitAny K (.ref C) (cs.map Value.ref) = some b ∧ Q (.bl b) H) := h ▸ call_isinstT
end
end L2
namespace L2
open PySem PySem.Spec PyProof.Rows
section
variable {X : Cx}
end
section
variable {P : Program} {w : World} {A : Around} {E : Value → Shared → Prop} {v : Shared}
structure Zt (h : Heap) (z ti to i1 i2 l1 l2 : Addr) (f : Value) (k : Nat) : Prop where
 self : IsZip h z ti to f
 ins : IsPair h ti (.ref i1) (.ref i2)
 outs : ∃ a b, IsPair h to a b
 w1 : h.IsTupleIter i1 l1 k
 w2 : h.IsTupleIter i2 l2 k
structure Ztd (z ti to i1 i2 l1 l2 : Addr) : Prop where
 ntt : ti ≠ to
 nii : i1 ≠ i2
 nl1 : l1 ≠ to
 nl2 : l2 ≠ to
theorem apart_cls {h : Heap} {a b : Addr} {o o' : Obj} {m n : String} (e : h.get? a = some o) (e' : h.get? b = some o') (c : o.cls = .type m) (c' : o'.cls = .type n) (d : m ≠ n) : a ≠ b := fun g => by
 rw [g, e'] at e
 cases e
 rw [c] at c'
 cases c'
 exact d rfl
theorem Zt.ne {h : Heap} {z ti to i1 i2 l1 l2 : Addr} {f : Value} {k : Nat} (g : Zt h z ti to i1 i2 l1 l2 f k) : (ti ≠ z ∧ to ≠ z ∧ i1 ≠ z ∧ i2 ≠ z) ∧ (ti ≠ i1 ∧ ti ≠ i2 ∧ to ≠ i1 ∧ to ≠ i2) := by
 obtain ⟨gs, gi, ⟨a, b, go⟩, ⟨o1, q1, c1, _⟩, ⟨o2, q2, c2, _⟩⟩ := g
 exact ⟨⟨apart_cls gi gs rfl rfl (by decide), apart_cls go gs rfl rfl (by decide), apart_cls q1 gs c1 rfl (by decide), apart_cls q2 gs c2 rfl (by decide)⟩,
  apart_cls gi q1 rfl c1 (by decide), apart_cls gi q2 rfl c2 (by decide), apart_cls go q1 rfl c1 (by decide), apart_cls go q2 rfl c2 (by decide)⟩
theorem tup_ne {h : Heap} {z ti to i1 i2 l1 l2 l : Addr} {f : Value} {k : Nat} {xs : Array Value} (g : Zt h z ti to i1 i2 l1 l2 f k) (t : h.IsTuple l xs) : l ≠ z ∧ l ≠ i1 ∧ l ≠ i2 := by
 obtain ⟨gs, _, _, ⟨o1, q1, c1, _⟩, ⟨o2, q2, c2, _⟩⟩ := g
 obtain ⟨o, q, c, _⟩ := t
 exact ⟨apart_cls q gs c rfl (by decide), apart_cls q q1 c c1 (by decide), apart_cls q q2 c c2 (by decide)⟩
theorem it_stay {h h' : Heap} {j p b : Addr} {k : Nat} (g : h.IsTupleIter j p k) (s : Heap.SameBut b h h') (n : j ≠ b) : h'.IsTupleIter j p k := by
 obtain ⟨o, q, r⟩ := g
 exact ⟨o, s.extBut _ _ n q, r⟩
theorem tp_stay {h h' : Heap} {l b : Addr} {xs : Array Value} (g : h.IsTuple l xs) (s : Heap.SameBut b h h') (n : l ≠ b) : h'.IsTuple l xs := by
 obtain ⟨o, q, r⟩ := g
 exact ⟨o, s.extBut _ _ n q, r⟩
theorem pair_put {t : Addr} {a b x : Value} {k : Nat} {Q : Unit → Shared → Prop} (g : IsPair v.heap t a b)
  (q : ∀ h', h'.get? t = some { cls := .type "tuple", data := .seq ((#[a, b] : Array Value).setIfInBounds k x) } → Heap.SameBut t v.heap h' → Q () { v with heap := h' }) :
  wpAny (model P w) A (updateSeq t (·.setIfInBounds k x)) Q E v := wpAny_updateSeq_pair g q
theorem zt_item {z ti to i1 i2 l1 l2 : Addr} {k : Nat} {xs ys : Array Value} {x y : Value} {Q : Value → Shared → Prop} (d : Ztd z ti to i1 i2 l1 l2) (g : Zt v.heap z ti to i1 i2 l1 l2 .none k)
  (t1 : v.heap.IsTuple l1 xs) (t2 : v.heap.IsTuple l2 ys) (ex : xs[k]? = some x) (ey : ys[k]? = some y)
  (q : ∀ h', Zt h' z ti to i1 i2 l1 l2 (rawInt v.heap.objs.size) (k + 1) → IsPair h' v.heap.objs.size x y → (∀ c o, c ≠ z → c ≠ to → c ≠ i1 → c ≠ i2 → v.heap.get? c = some o → h'.get? c = some o) → Q (.ref v.heap.objs.size) { v with heap := h' }) :
  wpAny (model P w) A (Builtin.«zip.__next__» ⟨[.ref z], []⟩) (fun fin s' => ∃ u, fin = .done (.ret u) ∧ Q u s') E v := by
 obtain ⟨⟨a1, a2, a3, a4⟩, a5, a6, a7, a8⟩ := g.ne
 obtain ⟨b1, b2, b3⟩ := tup_ne g t1
 obtain ⟨c1, c2, c3⟩ := tup_ne g t2
 obtain ⟨gs, gi, ⟨a, b, go⟩, g1, g2⟩ := g
 show wpAny _ _ (field (.ref z) 2 >>= _) _ _ _
 refine wpAny_bind (wpAny_field gs rfl (x := .bool false) rfl ?_)
 show wpAny _ _ (field (.ref z) 3 >>= _) _ _ _
 refine wpAny_bind (wpAny_field gs rfl (x := .ref ti) rfl ?_)
 refine wpAny_bind (wpAny_seqItems gi rfl ?_)
 show wpAny _ _ (Builtin.SmallTypes.ownedTupleIsFree (.ref z) >>= _) _ _ _
 refine wpAny_bind ?_
 unfold Builtin.SmallTypes.ownedTupleIsFree
 refine wpAny_bind (wpAny_field gs rfl (x := .none) rfl (wpAny_pure ?_))
 simp only [if_true]
 refine wpAny_bind (wpAny_rule ?_)
 refine wpAny_bind (wpAny_field gs rfl (x := .ref to) rfl ?_)
 refine wpAny_bind (wpAny_setField_rec gs (by simp) fun p1 k1 r1 => ?_)
 replace k1 : IsZip p1 z ti to .ellipsis := k1
 refine wpAny_bind ?_
 simp only [List.zipIdx_cons, List.zipIdx_nil, List.forIn_cons, List.forIn_nil]
 refine wpAny_bind (wpAny_bind (wpAny_onRaise ?_))
 show wpAny _ _ (Builtin.SmallTypes.nextOf (.ref i1) >>= _) _ _ _
 refine wpAny_bind (nextOf_tup (it_stay g1 r1 a3) (tp_stay t1 r1 b1) ex fun p2 k2 r2 => wpAny_pure ?_)
 have o2 : IsPair p2 to a b := r2.extBut _ _ a7 (r1.extBut _ _ a2 go)
 refine wpAny_bind (wpAny_seqItems o2 rfl ?_)
 refine wpAny_bind (pair_put o2 fun p3 o3 r3 => ?_)
 replace o3 : IsPair p3 to x b := o3
 refine wpAny_bind (wpAny_letGo (wpAny_pure ?_))
 refine wpAny_bind (wpAny_bind (wpAny_onRaise ?_))
 show wpAny _ _ (Builtin.SmallTypes.nextOf (.ref i2) >>= _) _ _ _
 refine wpAny_bind (nextOf_tup (it_stay (it_stay (it_stay g2 r1 a4) r2 d.nii.symm) r3 a8.symm) (tp_stay (tp_stay (tp_stay t2 r1 c1) r2 c2) r3 d.nl2) ey fun p4 k4 r4 => wpAny_pure ?_)
 have o4 : IsPair p4 to x b := r4.extBut _ _ a8 o3
 refine wpAny_bind (wpAny_seqItems o4 rfl ?_)
 refine wpAny_bind (pair_put o4 fun p5 o5 r5 => ?_)
 replace o5 : IsPair p5 to x y := o5
 refine wpAny_bind (wpAny_letGo (wpAny_pure (wpAny_pure ?_)))
 refine wpAny_bind (wpAny_seqItems o5 rfl ?_)
 refine wpAny_bind (wpAny_newTuple ?_)
 have sz : p5.objs.size = v.heap.objs.size := by rw [r5.1, r4.1, r3.1, r2.1, r1.1]
 have z5 : IsZip p5 z ti to .ellipsis := r5.extBut _ _ a2.symm (r4.extBut _ _ a4.symm (r3.extBut _ _ a2.symm (r2.extBut _ _ a3.symm k1)))
 have st : ∀ c o, c ≠ z → c ≠ to → c ≠ i1 → c ≠ i2 → v.heap.get? c = some o → p5.get? c = some o := fun c o m1 m2 m3 m4 e =>
  r5.extBut _ _ m2 (r4.extBut _ _ m4 (r3.extBut _ _ m2 (r2.extBut _ _ m3 (r1.extBut _ _ m1 e))))
 have j1 : p5.IsTupleIter i1 l1 (k + 1) := it_stay (it_stay (it_stay k2 r3 a7.symm) r4 d.nii) r5 a7.symm
 have j2 : p5.IsTupleIter i2 l2 (k + 1) := it_stay k4 r5 a8.symm
 have lz : z < p5.objs.size := Heap.lt_size z5
 show wpAny _ _ (Builtin.SmallTypes.ownedTupleHandOut (.ref z) (.ref p5.objs.size) >>= _) _ _ _
 refine wpAny_bind ?_
 unfold Builtin.SmallTypes.ownedTupleHandOut
 have z6 : IsZip (p5.push { cls := .type "tuple", data := .seq #[x, y] }) z ti to .ellipsis := Heap.get?_push_of_some _ z5
 refine wpAny_bind (wpAny_setField_rec z6 (by simp) fun p7 z7 r7 => ?_)
 replace z7 : IsZip p7 z ti to (rawInt p5.objs.size) := z7
 refine wpAny_setField_rec z7 (by simp) fun p8 z8 r8 => ?_
 replace z8 : IsZip p8 z ti to (rawInt p5.objs.size) := z8
 have up : ∀ c o, c ≠ z → p5.get? c = some o → p8.get? c = some o := fun c o m e => r8.extBut _ _ m (r7.extBut _ _ m (Heap.get?_push_of_some _ e))
 have n8 : IsPair p8 p5.objs.size x y := r8.extBut _ _ (Nat.ne_of_gt lz) (r7.extBut _ _ (Nat.ne_of_gt lz) (Heap.get?_push_size _ rfl))
 rw [sz] at z8 n8
 refine wpAny_pure ⟨_, rfl, ?_⟩
 show Q (.ref p5.objs.size) _
 rw [sz]
 obtain ⟨oa, ja, ra⟩ := j1
 obtain ⟨ob, jb, rb⟩ := j2
 refine q p8 ⟨z8, ?_, ⟨x, y, up _ _ a2 o5⟩, ⟨oa, up _ _ a3 ja, ra⟩, ⟨ob, up _ _ a4 jb, rb⟩⟩ n8 fun c o m1 m2 m3 m4 e => up c o m1 (st c o m1 m2 m3 m4 e)
 exact up _ _ a1 (st _ _ a1 d.ntt a5 a6 gi)
theorem zt_end {z ti to i1 i2 l1 l2 : Addr} {k : Nat} {xs ys : Array Value} {Q : Fin → Shared → Prop} (hh : A.handled = none) (d : Ztd z ti to i1 i2 l1 l2) (g : Zt v.heap z ti to i1 i2 l1 l2 .none k)
  (t1 : v.heap.IsTuple l1 xs) (ex : xs[k]? = none)
  (q : ∀ h' e, (∀ c o, c ≠ z → c ≠ to → c ≠ i1 → c ≠ i2 → v.heap.get? c = some o → h'.get? c = some o) → (∃ o, h'.get? e = some o ∧ o.cls = .type "StopIteration") → E (.ref e) { v with heap := h' }) :
  wpAny (model P w) A (Builtin.«zip.__next__» ⟨[.ref z], []⟩) Q E v := by
 obtain ⟨⟨a1, a2, a3, a4⟩, a5, a6, a7, a8⟩ := g.ne
 obtain ⟨b1, b2, b3⟩ := tup_ne g t1
 obtain ⟨gs, gi, ⟨a, b, go⟩, g1, g2⟩ := g
 show wpAny _ _ (field (.ref z) 2 >>= _) _ _ _
 refine wpAny_bind (wpAny_field gs rfl (x := .bool false) rfl ?_)
 show wpAny _ _ (field (.ref z) 3 >>= _) _ _ _
 refine wpAny_bind (wpAny_field gs rfl (x := .ref ti) rfl ?_)
 refine wpAny_bind (wpAny_seqItems gi rfl ?_)
 show wpAny _ _ (Builtin.SmallTypes.ownedTupleIsFree (.ref z) >>= _) _ _ _
 refine wpAny_bind ?_
 unfold Builtin.SmallTypes.ownedTupleIsFree
 refine wpAny_bind (wpAny_field gs rfl (x := .none) rfl (wpAny_pure ?_))
 simp only [if_true]
 refine wpAny_bind (wpAny_rule ?_)
 refine wpAny_bind (wpAny_field gs rfl (x := .ref to) rfl ?_)
 refine wpAny_bind (wpAny_setField_rec gs (by simp) fun p1 k1 r1 => ?_)
 replace k1 : IsZip p1 z ti to .ellipsis := k1
 refine wpAny_bind ?_
 simp only [List.zipIdx_cons, List.zipIdx_nil, List.forIn_cons, List.forIn_nil]
 refine wpAny_bind (wpAny_bind (wpAny_onRaise ?_))
 show wpAny _ _ (Builtin.SmallTypes.nextOf (.ref i1) >>= _) _ _ _
 refine wpAny_bind (nextOf_tup_end hh (it_stay g1 r1 a3) (tp_stay t1 r1 b1) ex fun p2 e r2 he => ?_)
 obtain ⟨oe, ge, ce⟩ := he
 have z2 : IsZip p2 z ti to .ellipsis := r2 _ _ a3.symm k1
 have nez : e ≠ z := apart_cls ge z2 ce rfl (by decide)
 refine wpAny_setField_rec z2 (by simp) fun p3 _ r3 => q p3 e (fun c o m1 _ m3 _ e => r3.extBut _ _ m1 (r2 _ _ m3 (r1.extBut _ _ m1 e))) ⟨oe, r3.extBut _ _ nez ge, ce⟩
end
section
variable {X : Cx} {pins : List (Addr × Obj)} {σ : St} {H : Hp} {s : Shared}
theorem Inv.freeze {d : Addr} {kvs : List (Key × V)} {o : Obj} (I : Inv X pins σ H s) (hd : H d = some (.dK kvs)) (ho : s.heap.get? d = some o) : Inv X pins σ (upd H d (.frz o (.dK kvs))) s := by
 have nd : ∀ b u, H b = some u → (∀ l, u ≠ .dK l) → b ≠ d := fun b u q n z => by
  rw [z, hd] at q
  exact n kvs (Option.some.inj q).symm
 have hne : ∀ b, H b = none → b ≠ d := fun b q z => by rw [z, hd] at q; cases q
 refine I.un (h' := s.heap) (t' := s.toks) ⟨fun b u e _ _ _ => e, fun b u e _ _ _ => ⟨u.slots, e⟩, fun b u e n _ => by rw [upd_ne (hne b n)]; exact n, fun b u e _ => ⟨u, e⟩, fun b xs q => by rw [upd_ne (nd b _ q fun l z => by cases z)]; exact q, fun b u v q => by rw [upd_ne (nd b _ q fun l z => by cases z)]; exact q, fun b ps q => ⟨#[], by rw [upd_ne (nd b _ q fun l z => by cases z), q]; simp⟩⟩ fun b u g => ?_
 by_cases hb : b = d
 ·subst hb
  rw [upd_same] at g
  cases g
  exact ⟨ho, I.hok b _ hd⟩
 ·rw [upd_ne hb] at g
  exact (I.hok b u g).stay (fun c v hc q => q) (fun c q => by rw [upd_ne (nd c _ q fun l z => by cases z)]; exact q) fun c ys q => by rw [upd_ne (nd c _ q fun l z => by cases z)]; exact q
theorem Inv.thaw {d : Addr} {kvs : List (Key × V)} {o : Obj} (I : Inv X pins σ H s) (hd : H d = some (.frz o (.dK kvs))) (hn : ∀ u v, X.H₀ d ≠ some (.frz u v)) : Inv X pins σ (upd H d (.dK kvs)) s := by
 have nd : ∀ b u, H b = some u → (∀ v l, u ≠ .frz v l) → b ≠ d := fun b u q n z => by
  rw [z, hd] at q
  exact n _ _ (Option.some.inj q).symm
 have hne : ∀ b, H b = none → b ≠ d := fun b q z => by rw [z, hd] at q; cases q
 refine ⟨I.ok, I.os, I.bare, ⟨I.base.keep, I.base.slot, fun b u e n hx => ?_, I.base.there, fun b xs q => ?_, fun b u v q => ?_, fun b ps q => ?_⟩, I.loc, I.cell, ?_, fun x c e => ?_, fun p hp => ?_, fun b u g => ?_, I.len⟩
 ·have z := I.base.free b u e n hx
  rw [upd_ne (hne b z)]
  exact z
 ·have z := I.base.tups b xs q
  rw [upd_ne (nd b _ z fun v l t => by cases t)]
  exact z
 ·have z := I.base.frzs b u v q
  rw [upd_ne (show b ≠ d from fun t => hn u v (by rw [← t]; exact q))]
  exact z
 ·obtain ⟨m, z⟩ := I.base.tbls b ps q
  exact ⟨m, by rw [upd_ne (nd b _ z fun v l t => by cases t)]; exact z⟩
 ·rw [upd_ne (hne _ I.free)]
  exact I.free
 ·rw [upd_ne (hne _ (I.freeC x c e))]
  exact I.freeC x c e
 ·obtain ⟨a1, a2, a3, a4, a5⟩ := I.pin p hp
  exact ⟨a1, by rw [upd_ne (hne _ a2)]; exact a2, a3, a4, a5⟩
 ·by_cases hb : b = d
  ·subst hb
   rw [upd_same] at g
   cases g
   exact (I.hok b _ hd).2
  ·rw [upd_ne hb] at g
   exact (I.hok b u g).stay (fun c v hc q => q) (fun c q => by rw [upd_ne (nd c _ q fun v l z => by cases z)]; exact q) fun c ys q => by rw [upd_ne (nd c _ q fun v l z => by cases z)]; exact q
end
def tThaw (t : TS) : TS := fun D σ H => ∃ d : Addr, (∀ u v, H d ≠ some (.frz u v)) ∧ t { D with nx := fun σ' H' => ∃ o kvs, H' d = some (.frz o (.dK kvs)) ∧ D.nx σ' (upd H' d (.dK kvs)) } σ H
theorem ps_thaw {X : Cx} {st : Stmt} {t : TS} (h : PS X st t) : PS X st (tThaw t) := by
 intro pins s σ H D I ht
 obtain ⟨d, hd, ht⟩ := ht
 have h0 : ∀ u v, X.H₀ d ≠ some (.frz u v) := fun u v e => hd u v (I.base.frzs d u v e)
 refine thn (h pins s σ H _ I ht) fun f s1 q => ?_
 cases f with
 | next =>
  obtain ⟨σ', H', J, o, kvs, e, n⟩ := q
  exact ⟨σ', _, J.thaw e h0, n⟩
 | brk => exact q
 | cont => exact q
 | ret u => exact q
def Itd (d : Addr) (o : Obj) (kvs : List (Key × V)) : It :=
 ⟨fun i H => H d = some (.frz o (.dK kvs)) ∧ i < kvs.length, fun i H x H' => H' = H ∧ ∃ kv, kvs[i]? = some kv ∧ x = kV kv.1, fun i H => H d = some (.frz o (.dK kvs)) ∧ kvs.length ≤ i⟩
def iDict (tl : TE) : TI := fun σ H R => tl σ H fun x H1 => ∃ d kvs, x = .ref d ∧ H1 d = some (.dK kvs) ∧ ∀ o, R (Itd d o kvs) (upd H1 d (.frz o (.dK kvs)))
theorem turn_dict {P : Program} {w : World} {K : PySem.W.Frag} {tg : Expr} {d it : Addr} {o : Obj} {kvs : List (Key × V)} {vs : List (Key × Value)} {es : Array DictEntry} {ep : Nat} (rel : KV kvs vs)
  (m : o.ExactDict ∧ o.data = .dict es ep ∧ KeysOf (mixKind P w) es ∧ Pairs (mixKind P w) es.toList vs ∧ (vs.map (·.1)).Nodup) : Turn P w K tg (Itd d o kvs) [it] it (fun i h => h.IsKeyIter it d i vs.length ep) where
 mem := by simp
 obj := fun i h st b hb => by
  have e : b = it := by simpa using hb
  subst e
  obtain ⟨u, e, c, q⟩ := st
  exact ⟨u, e, fun v z => by rw [q] at z; cases z⟩
 keep := fun i h h' st k => by
  obtain ⟨u, e, r⟩ := st
  exact ⟨u, k it (by simp) u e, r⟩
 item := by
  intro X hP hw hK hc i pins s σ H E I hf st hg
  subst hP hw hK
  obtain ⟨hd, hi⟩ := hg
  have hl : kvs.length = vs.length := rel.length
  have ga : s.heap.get? d = some o := (I.hok d _ hd).1
  have at' : s.heap.DictAt (mixKind X.prog X.w) d vs ep := ⟨o, es, ga, m⟩
  obtain ⟨f0, f1, f2, f3, f4, f5⟩ := hf it (by simp)
  obtain ⟨kv, hkv⟩ : ∃ kv, kvs[i]? = some kv := ⟨_, List.getElem?_eq_getElem hi⟩
  obtain ⟨qv, hqv⟩ : ∃ qv, vs[i]? = some qv := ⟨_, List.getElem?_eq_getElem (by omega)⟩
  have ek : kv.1 = qv.1 := by
   obtain ⟨y, hy, r⟩ := Paired.at' rel hkv
   rw [hqv] at hy
   cases hy
   exact r.1
  refine wpAny_pyNext_dict_item (k := qv.1) (v := qv.2) st at' hqv fun key h' hk st' sb => ?_
  have I1 : Inv X pins σ H { s with heap := h' } := I.turned (t' := s.toks) (fun b o hb e => (sb.2 b hb).trans e) f0 f1 f3 f4 f5
  obtain ⟨u, e, c, q⟩ := id st'
  exact ⟨key, rfl, go_of (s := { s with heap := h' }) e c q (by decide) ⟨kV kv.1, H, I1, rel_key (by rw [ek]; exact hk), ⟨rfl, kv, hkv, rfl⟩, st', fun b hb => (hf b hb).1⟩⟩
 done := by
  intro X hP hw hK hc i pins s σ H E I hf st hg
  subst hP hw hK
  obtain ⟨hd, hi⟩ := hg
  have hl : kvs.length = vs.length := rel.length
  have ga : s.heap.get? d = some o := (I.hok d _ hd).1
  have at' : s.heap.DictAt (mixKind X.prog X.w) d vs ep := ⟨o, es, ga, m⟩
  obtain ⟨f0, f1, f2, f3, f4, f5⟩ := hf it (by simp)
  exact wpAny_pyNext_dict_end (I.ok.hd hc) st at' (List.getElem?_eq_none (by omega)) fun h' eb => ⟨rfl, I.turned (t' := s.toks) (fun b o hb e => eb b o hb e) f0 f1 f3 f4 f5⟩
 self := fun _ _ _ _ _ st h => wpAny_pyIter_keyiter st h
theorem pi_dict {X : Cx} {tg l : Expr} {tl : TE} (hl : PE X l tl) : PI X tg l (iDict tl) := by
 intro pins s σ H R I h
 refine thn (hl pins s σ H _ I h) fun v s1 ⟨x, H1, I1, r1, q1⟩ => ?_
 obtain ⟨d, kvs, e, hd, q⟩ := q1
 subst e
 cases r1
 obtain ⟨hz, lo, vs, rel, o, es, ep, ga, m⟩ := dk_of I1.hok hd
 have at' : s1.heap.DictAt (mixKind X.prog X.w) d vs ep := ⟨o, es, ga, m⟩
 refine wpAny_pyIter_dict lo at' ?_
 have I2 := I1.freeze hd ga
 refine ⟨s1.heap.objs.size, [s1.heap.objs.size], _, _, _, rfl, I2.kept (t' := s1.toks) fun b o e => Heap.get?_push_of_some _ e, turn_dict rel m, ⟨_, Heap.get?_push_size _ rfl, rfl, rfl⟩, fun b hb => ?_, q o⟩
 have e : b = s1.heap.objs.size := by simpa using hb
 subst e
 exact I2.fpOk (Nat.le_refl _) (I2.hok.fresh (Nat.le_refl _))
theorem comp_dict {d : Addr} {o : Obj} {kvs : List (Key × V)} {fr : List Nat} {tt : TT} {te : TE} {σ : St} {H1 : Hp} {R : Addr → List V → Hp → Prop} (Pv : Nat → List V → Hp → Prop) (hx : kvs.length < sizeLine) (h0 : Pv 0 [] H1) (hl : ∀ i ys H, i ≤ kvs.length → Pv i ys H → H d = some (.frz o (.dK kvs)) ∧ ys.length ≤ i)
  (hs : ∀ (i : Nat) (kv : Key × V) (ys : List V) (H : Hp) (N : List V → Hp → Prop), kvs[i]? = some kv → Pv i ys H → (∀ ys' H', Pv (i + 1) ys' H' → N ys' H') →
   tt (some (kV kv.1) :: slotsOf fr σ) H fun b H4 => if b = true then te (some (kV kv.1) :: slotsOf fr σ) H4 (fun y H5 => N (ys ++ [y]) H5) else N ys H4)
  (hd : ∀ ys H, Pv kvs.length ys H → ∀ l, H l = none → R l ys H) : CompGoal (Itd d o kvs) fr tt te σ H1 R := by
 refine ⟨fun i m ys H => m = kvs.length - i ∧ i ≤ kvs.length ∧ Pv i ys H, ⟨kvs.length, by simp, Nat.zero_le _, h0⟩, ?_⟩
 rintro i m ys H ⟨rfl, hi, p⟩
 obtain ⟨q, hy⟩ := hl i ys H hi p
 by_cases hlt : i < kvs.length
 ·refine .inr ⟨⟨q, hlt⟩, by omega, ?_⟩
  rintro v H3 ⟨rfl, kv, hkv, rfl⟩
  exact hs i kv ys H3 (fun ys' H' => ∃ m', m' < kvs.length - i ∧ m' = kvs.length - (i + 1) ∧ i + 1 ≤ kvs.length ∧ Pv (i + 1) ys' H') hkv p fun ys' H' p' => ⟨_, by omega, rfl, hlt, p'⟩
 ·have e : i = kvs.length := by omega
  subst e
  exact .inl ⟨⟨q, Nat.le_refl _⟩, by omega, hd ys H p⟩
theorem m1_n {X : Cx} {d x : Str} {pd px apos cpos : Pos} (hl : (apos.endLine == cpos.line) = true := by rfl) (hb : attributeBase (.Name d pd) "get" X.env (eval (.Name d pd) X.env) = eval (.Name d pd) X.env := by rfl) : M1 X (.Name d pd) "get" apos (.Name x px) cpos := ⟨hb, rfl, hl, rfl⟩
theorem lets_no {X : Cx} : Lets X (fun _ _ _ => False) := fun _ _ _ _ _ _ _ _ _ h => h.elim
section
variable {X : Cx}
theorem ints_of : ∀ {ns : List Int} {us : List Value}, Vals (ns.map V.int) us → IntsAre us ns
 | [], _, .nil => .nil
 | n :: ns, _, .cons ⟨t, r⟩ q => by subst r; exact .cons _ _ (ints_of q)
theorem call_sum (hc : X.calm = true) : CallR X (.builtin "sum") (fun xs H Q => ∃ (a : Addr) (ns : List Int), xs = [.ref a] ∧ SqL X.K H a (ns.map V.int) ∧ Q (.int ns.sum) H) := by
 intro pins s σ H xs us Q I r h
 obtain ⟨a, ns, rfl, hq, q⟩ := h
 obtain ⟨u, rfl, ru⟩ := vals1 r
 cases ru
 obtain ⟨its, rv, pl, hz⟩ := I.list hq
 have ia := ints_of rv
 obtain ⟨ws, ex⟩ := ia.allInts.items
 have en : ws.toList.map (·.1) = ns := by
  rw [← nums_intItems, ← ex]
  exact ia.numsOf
 refine sum_intListG (xs := ws) (I.ok.hd hc) (by rw [← ex]; exact pl.isList) fun h' tk t' hk => ?_
 have e : preSum (numAt ws) ws.size = ns.sum := by
  rw [preSum_eq, List.take_of_length_le (by simp), en]
 rw [e]
 exact ⟨.int ns.sum, H, I.kept (t' := tk) hk, ⟨_, rfl⟩, q⟩
theorem call_str1 : CallR X (.type "str") (fun xs H Q => ∃ i : Int, xs = [.int i] ∧ i.natAbs.log2 < 1920 ∧ Q (.str (Str.ofString (toString i))) H) := by
 intro pins s σ H xs us Q I r h
 obtain ⟨i, rfl, hl, q⟩ := h
 obtain ⟨u, rfl, t, rfl⟩ := vals1 r
 exact P.str_of_int hl ⟨.str (Str.ofString (toString i)), H, I.tok _, ⟨_, rfl⟩, q⟩
end
section
variable {X : Cx} {pins : List (Addr × Obj)} {σ : St} {H : Hp} {s : Shared} {h' : Heap}
theorem Inv.turnedL {t' : Nat} {ch : List Addr} {p : Addr} {xs : List V} {us : List Value} (I : Inv X pins σ H s) (k : ∀ b o, b ∉ ch → s.heap.get? b = some o → h'.get? b = some o) (fc : ∀ b ∈ ch, FpOk X pins H b)
  (hp : s.heap.objs.size ≤ p) (ht : IsTup h' p us.toArray) (r : Vals xs us) (hz : xs.length ≤ sizeLine) : Inv X pins σ (upd H p (.tup xs)) { s with heap := h', toks := t' } := by
 have hn := I.hok.fresh hp
 have fp := I.fpOk hp hn
 have nH : ∀ b u, H b = some u → b ∉ ch ∧ b ≠ p := fun b u g => ⟨(fun z => by rw [(fc b z).1] at g; cases g), fun z => by rw [z, hn] at g; cases g⟩
 refine I.step (g' := s.gens) (d' := s.drawn) (ch := p :: ch) (fun b hb => ?_) (fun b o _ _ hc g _ => k b o (fun z => hc (List.mem_cons_of_mem _ z)) g) (fun b o _ _ hc g _ => ⟨o.slots, k b o (fun z => hc (List.mem_cons_of_mem _ z)) g⟩)
  (fun b o hc g n => by rw [upd_ne fun z => hc (by rw [z]; exact List.mem_cons_self)]; exact n) (fun b o hc g => ⟨o, k b o (fun z => hc (List.mem_cons_of_mem _ z)) g⟩)
  (fun b ys g => by rw [upd_ne (nH b _ g).2]; exact g) (fun b o u g => by rw [upd_ne (nH b _ g).2]; exact g) (fun b ps g => ⟨#[], by rw [upd_ne (nH b _ g).2, g]; simp⟩) (fun m hm => ?_) (fun b u g => ?_) I.bare
 ·rcases List.mem_cons.mp hb with rfl | z
  ·exact ⟨fp.2.2.2.1, fp.2.1, fp.2.2.2.2.1, fp.2.2.2.2.2⟩
  ·have f := fc b z
   exact ⟨f.2.2.2.1, f.2.1, f.2.2.2.2.1, f.2.2.2.2.2⟩
 ·obtain ⟨o, es, ep, ho, r'⟩ := hm
  exact ⟨o, es, ep, k _ o (fun z => (fc _ z).2.1 rfl) ho, r'⟩
 ·by_cases hb : b = p
  ·subst hb
   rw [upd_same] at g
   cases g
   exact ⟨hz, us, r, ht⟩
  ·rw [upd_ne hb] at g
   refine (I.hok b u g).stay (fun c v hc q => ?_) (fun c q => ?_) fun c ys q => ?_
   ·rcases hc with z | z
    ·rw [z]
     rw [z] at q
     exact k b v (nH b _ g).1 q
    ·exact k c v (nH c _ z).1 q
   ·rw [upd_ne (nH c _ q).2]
    exact q
   ·rw [upd_ne (nH c _ q).2]
    exact q
theorem Inv.turnedC {t' : Nat} {ch : List Addr} (I : Inv X pins σ H s) (k : ∀ b o, b ∉ ch → s.heap.get? b = some o → h'.get? b = some o) (fc : ∀ b ∈ ch, FpOk X pins H b) : Inv X pins σ H { s with heap := h', toks := t' } := by
 have nH : ∀ b u, H b = some u → b ∉ ch := fun b u g z => by rw [(fc b z).1] at g; cases g
 refine I.step (g' := s.gens) (d' := s.drawn) (ch := ch) (fun b z => ?_) (fun b o _ _ hc g _ => k b o hc g) (fun b o _ _ hc g _ => ⟨o.slots, k b o hc g⟩) (fun _ _ _ _ n => n) (fun b o hc g => ⟨o, k b o hc g⟩)
  (fun _ _ g => g) (fun _ _ _ g => g) (fun b ps g => ⟨#[], by rw [g]; simp⟩) (fun m hm => ?_) (fun b u g => ?_) I.bare
 ·have f := fc b z
  exact ⟨f.2.2.2.1, f.2.1, f.2.2.2.2.1, f.2.2.2.2.2⟩
 ·obtain ⟨o, es, ep, ho, r'⟩ := hm
  exact ⟨o, es, ep, k _ o (fun z => (fc _ z).2.1 rfl) ho, r'⟩
 ·refine (I.hok b u g).stay (fun c v hc q => k c v ?_ q) (fun _ q => q) fun _ _ q => q
  rcases hc with z | z
  ·rw [z]
   exact nH b _ g
  ·exact nH c _ z
end
section
variable {P : Program} {w : World} {A : Around} {E : Value → Shared → Prop} {v : Shared}
theorem zt_next {z ti to i1 i2 l1 l2 : Addr} {k : Nat} {xs ys : Array Value} {x y : Value} {Q : Option Value → Shared → Prop} (d : Ztd z ti to i1 i2 l1 l2) (g : Zt v.heap z ti to i1 i2 l1 l2 .none k)
  (t1 : v.heap.IsTuple l1 xs) (t2 : v.heap.IsTuple l2 ys) (ex : xs[k]? = some x) (ey : ys[k]? = some y)
  (q : ∀ h', Zt h' z ti to i1 i2 l1 l2 (rawInt v.heap.objs.size) (k + 1) → IsPair h' v.heap.objs.size x y → (∀ c o, c ≠ z → c ≠ to → c ≠ i1 → c ≠ i2 → v.heap.get? c = some o → h'.get? c = some o) → Q (some (.ref v.heap.objs.size)) { v with heap := h' }) :
  wpAny (model P w) A (pyNext (.ref z)) Q E v := by
 have ty : v.TypeIs (.ref z) "zip" := ⟨_, g.self, rfl⟩
 unfold pyNext
 exact wpAny_bind (wpAny_attempt (wpAny_callSpecial?_slot (name := Str.ofString "__next__") ty F.slot_zip_next (wpAny_call_entry F.slot_zip_next ty F.entry_zip_next (zt_item d g t1 t2 ex ey fun h' b1 b2 b3 => wpAny_pure (q h' b1 b2 b3)) (F.args_zip_next_1 _))))
theorem zt_stop {z ti to i1 i2 l1 l2 : Addr} {k : Nat} {xs : Array Value} {Q : Option Value → Shared → Prop} (hh : A.handled = none) (d : Ztd z ti to i1 i2 l1 l2) (g : Zt v.heap z ti to i1 i2 l1 l2 .none k)
  (t1 : v.heap.IsTuple l1 xs) (ex : xs[k]? = none)
  (q : ∀ h', (∀ c o, c ≠ z → c ≠ to → c ≠ i1 → c ≠ i2 → v.heap.get? c = some o → h'.get? c = some o) → Q none { v with heap := h' }) :
  wpAny (model P w) A (pyNext (.ref z)) Q E v := by
 have ty : v.TypeIs (.ref z) "zip" := ⟨_, g.self, rfl⟩
 unfold pyNext
 refine wpAny_bind (wpAny_attempt (wpAny_callSpecial?_slot (name := Str.ofString "__next__") ty F.slot_zip_next (wpAny_call_entry F.slot_zip_next ty F.entry_zip_next (zt_end (ys := #[]) hh d g t1 ex fun h' e hk he => ?_) (F.args_zip_next_1 _))))
 obtain ⟨o, ho, hc⟩ := he
 exact wpAny_bind (wpAny_isInstance (T := "StopIteration") (b := true) ⟨o, ho, hc⟩ isSubtype_stop (wpAny_pure (q _ hk)))
abbrev zq1 (h : Heap) (l1 : Addr) : Heap := h.push { cls := .type "tuple_iterator", data := .fields #[.ref l1, .int 0 0] }
abbrev zq2 (h : Heap) (l1 l2 : Addr) : Heap := (zq1 h l1).push { cls := .type "tuple_iterator", data := .fields #[.ref l2, .int 0 0] }
abbrev zq3 (h : Heap) (l1 l2 : Addr) : Heap := (zq2 h l1 l2).push { cls := .type "tuple", data := .seq #[.ref h.objs.size, .ref (zq1 h l1).objs.size] }
abbrev zq4 (h : Heap) (l1 l2 : Addr) : Heap := (zq3 h l1 l2).push { cls := .type "tuple", data := .seq #[.none, .none] }
abbrev zq5 (h : Heap) (l1 l2 : Addr) : Heap := (zq4 h l1 l2).push { cls := .type "zip", data := .fields #[.none, .bool false, .bool false, .ref (zq2 h l1 l2).objs.size, .ref (zq3 h l1 l2).objs.size] }
theorem zq_new (l1 l2 : Addr) (xs ys : Array Value) :
  Meets (Builtin.«zip.__new__» ⟨[.type "zip", .ref l1, .ref l2], []⟩) (fun _ R s => s.heap.IsTuple l1 xs ∧ s.heap.IsTuple l2 ys ∧ R (.ok (.ret (.ref (zq4 s.heap l1 l2).objs.size))) { s with heap := zq5 s.heap l1 l2 }) :=
 .of_wp fun prog w A R s h => by
  obtain ⟨hp, g, d, tk, os⟩ := s
  obtain ⟨hl1, hl2, h⟩ := h
  have hsub := sub_zip
  have hL1 : Heap.IsTuple (Shared.heap ⟨hp, g, d, tk, os⟩) l1 xs := hl1
  have hL2 : Heap.IsTuple (Shared.heap ⟨hp.push { cls := .type "tuple_iterator", data := .fields #[.ref l1, .int 0 0] }, g, d, tk, os⟩) l2 ys := by
   obtain ⟨o, e, r⟩ := hl2
   exact ⟨o, Heap.get?_push_of_some _ e, r⟩
  wp_walk using wpAny_pyIter_tuple hL1, wpAny_pyIter_tuple hL2
  exact ⟨_, rfl, h⟩
theorem zq_call {l1 l2 : Addr} {xs ys : Array Value} {Q : Value → Shared → Prop} (h1 : v.heap.IsTuple l1 xs) (h2 : v.heap.IsTuple l2 ys)
  (q : ∀ h' n, n = v.heap.objs.size → Zt h' (n + 4) (n + 2) (n + 3) n (n + 1) l1 l2 .none 0 → (∀ c o, v.heap.get? c = some o → h'.get? c = some o) → Q (.ref (n + 4)) { v with heap := h' }) :
  wpAny (model P w) A (call (.type "zip") [.ref l1, .ref l2]) Q E v := by
 refine callType_new F.called_zip (by decide) (F.typeCall_zip_2 _ _) (F.newCall_zip_2 _ _) (fun obj => F.args_object_init_3 obj _ _) F.entry_zip_new (zq_new l1 l2 xs ys) ⟨h1, h2, ?_⟩
 have e1 : (zq1 v.heap l1).objs.size = v.heap.objs.size + 1 := Heap.size_push ..
 have e2 : (zq2 v.heap l1 l2).objs.size = v.heap.objs.size + 2 := by rw [Heap.size_push, e1]
 have e3 : (zq3 v.heap l1 l2).objs.size = v.heap.objs.size + 3 := by rw [Heap.size_push, e2]
 have e4 : (zq4 v.heap l1 l2).objs.size = v.heap.objs.size + 4 := by rw [Heap.size_push, e3]
 have g5 : (zq5 v.heap l1 l2).get? (zq4 v.heap l1 l2).objs.size = some _ := Heap.get?_push_size _ rfl
 have g4 : (zq5 v.heap l1 l2).get? (zq3 v.heap l1 l2).objs.size = some _ := Heap.get?_push_of_some _ (Heap.get?_push_size _ rfl)
 have g3 : (zq5 v.heap l1 l2).get? (zq2 v.heap l1 l2).objs.size = some _ := Heap.get?_push_of_some _ (Heap.get?_push_of_some _ (Heap.get?_push_size _ rfl))
 have g2 : (zq5 v.heap l1 l2).get? (zq1 v.heap l1).objs.size = some _ := Heap.get?_push_of_some _ (Heap.get?_push_of_some _ (Heap.get?_push_of_some _ (Heap.get?_push_size _ rfl)))
 have g1 : (zq5 v.heap l1 l2).get? v.heap.objs.size = some _ := Heap.get?_push_of_some _ (Heap.get?_push_of_some _ (Heap.get?_push_of_some _ (Heap.get?_push_of_some _ (Heap.get?_push_size _ rfl))))
 show _ ∧ _
 rw [e2, e3, e4] at g5
 rw [e1, e2] at g3
 rw [e3] at g4
 rw [e1] at g2
 rw [e4]
 exact ⟨⟨_, g5, rfl⟩, q _ _ rfl ⟨g5, g3, ⟨_, _, g4⟩, ⟨_, g1, rfl, rfl⟩, ⟨_, g2, rfl, rfl⟩⟩ fun c o x => Heap.get?_push_of_some _ (Heap.get?_push_of_some _ (Heap.get?_push_of_some _ (Heap.get?_push_of_some _ (Heap.get?_push_of_some _ x))))⟩
end
def Itz (K : PySem.W.Frag) (a b : Addr) : It :=
 ⟨fun i H => ∃ xs ys x y, SqT K H a xs ∧ SqT K H b ys ∧ xs[i]? = some x ∧ ys[i]? = some y,
  fun i H u H' => ∃ p x y, u = .ref p ∧ H p = none ∧ H' = upd H p (.tup [x, y]) ∧ (∀ xs, SqT K H a xs → xs[i]? = some x) ∧ ∀ ys, SqT K H b ys → ys[i]? = some y,
  fun i H => ∃ xs, SqT K H a xs ∧ xs.length = i⟩
def zfp (z ti to i1 i2 : Addr) : List Addr := [z, ti, to, i1, i2]
theorem turn_zip {P : Program} {w : World} {K : PySem.W.Frag} {elts : List Expr} {kk : Nat} {ps : Pos} (a b z ti to i1 i2 : Addr) (dd : Ztd z ti to i1 i2 a b) : Turn P w K (.Tuple elts kk ps) (Itz K a b) (zfp z ti to i1 i2) z (fun i h => Zt h z ti to i1 i2 a b .none i) where
 mem := List.mem_cons_self
 obj := fun i h st c hc => by
  obtain ⟨gs, gi, ⟨u, v, go⟩, ⟨o1, q1, c1, d1⟩, ⟨o2, q2, c2, d2⟩⟩ := st
  have hc' : c = z ∨ c = ti ∨ c = to ∨ c = i1 ∨ c = i2 := by simpa [zfp] using hc
  rcases hc' with rfl | rfl | rfl | rfl | rfl
  ·exact ⟨_, gs, fun v z => by cases z⟩
  ·exact ⟨_, gi, fun v z => by cases z⟩
  ·exact ⟨_, go, fun v z => by cases z⟩
  ·exact ⟨_, q1, fun v z => by rw [d1] at z; cases z⟩
  ·exact ⟨_, q2, fun v z => by rw [d2] at z; cases z⟩
 keep := fun i h h' st k => by
  obtain ⟨gs, gi, ⟨u, v, go⟩, ⟨o1, q1, r1⟩, ⟨o2, q2, r2⟩⟩ := st
  exact ⟨k z (by simp [zfp]) _ gs, k ti (by simp [zfp]) _ gi, ⟨u, v, k to (by simp [zfp]) _ go⟩, ⟨o1, k i1 (by simp [zfp]) _ q1, r1⟩, ⟨o2, k i2 (by simp [zfp]) _ q2, r2⟩⟩
 item := by
  intro X hP hw hK hc i pins s σ H E I hf st hg
  subst hP hw hK
  obtain ⟨xs, ys, x, y, ha, hb, hx, hy⟩ := hg
  obtain ⟨is1, rv1, pl1, hz1⟩ := I.tuple ha
  obtain ⟨is2, rv2, pl2, hz2⟩ := I.tuple hb
  obtain ⟨u1, hu1, ru1⟩ := rv1.get hx
  obtain ⟨u2, hu2, ru2⟩ := rv2.get hy
  refine zt_next dd st (show s.heap.IsTuple a is1.toArray from pl1) (show s.heap.IsTuple b is2.toArray from pl2) (x := u1) (y := u2) (by simpa using hu1) (by simpa using hu2) fun h1 g1 pr kp => ⟨_, rfl, ?_⟩
  refine wpAny_letOwnedTupleGo_zip g1.self fun h2 z2 sb => ?_
  have sb' : Heap.SameBut z h1 h2 := sb
  have lz : z < s.heap.objs.size := Heap.lt_size st.self
  have al : ∀ c ∈ zfp z ti to i1 i2, c < s.heap.objs.size := fun c hc => by
   obtain ⟨gs, gi, ⟨u, v, go⟩, ⟨o1, q1, r1⟩, ⟨o2, q2, r2⟩⟩ := id st
   have hc' : c = z ∨ c = ti ∨ c = to ∨ c = i1 ∨ c = i2 := by simpa [zfp] using hc
   rcases hc' with rfl | rfl | rfl | rfl | rfl
   ·exact Heap.lt_size gs
   ·exact Heap.lt_size gi
   ·exact Heap.lt_size go
   ·exact Heap.lt_size q1
   ·exact Heap.lt_size q2
  have kp2 : ∀ c o, c ∉ zfp z ti to i1 i2 → s.heap.get? c = some o → h2.get? c = some o := fun c o hc e =>
   sb'.extBut c o (fun t => hc (by simp [zfp, t])) (kp c o (fun t => hc (by simp [zfp, t])) (fun t => hc (by simp [zfp, t])) (fun t => hc (by simp [zfp, t])) (fun t => hc (by simp [zfp, t])) e)
  have tp : IsTup h2 s.heap.objs.size ([u1, u2] : List Value).toArray := ⟨_, sb'.extBut _ _ (Nat.ne_of_gt lz) pr, rfl, _, rfl⟩
  have I2 := I.turnedL (t' := s.toks) (xs := [x, y]) kp2 hf (Nat.le_refl _) tp (.cons ru1 (.cons ru2 .nil)) (by show 2 ≤ sizeLine; decide)
  obtain ⟨⟨n1, n2, n3, n4⟩, n5, n6, n7, n8⟩ := g1.ne
  obtain ⟨gs, gi, ⟨u, v, go⟩, ⟨o1, q1, r1⟩, ⟨o2, q2, r2⟩⟩ := g1
  refine ⟨.ref s.heap.objs.size, _, I2, rfl, ⟨_, x, y, rfl, I.hok.fresh (Nat.le_refl _), rfl, fun zs hz => by rw [I.tuple_inj hz ha]; exact hx, fun zs hz => by rw [I.tuple_inj hz hb]; exact hy⟩, ⟨z2, sb'.extBut _ _ n1 gi, ⟨u, v, sb'.extBut _ _ n2 go⟩, ⟨o1, sb'.extBut _ _ n3 q1, r1⟩, ⟨o2, sb'.extBut _ _ n4 q2, r2⟩⟩, fun c hc => ?_⟩
  rw [upd_ne (Nat.ne_of_lt (al c hc))]
  exact (hf c hc).1
 done := by
  intro X hP hw hK hc i pins s σ H E I hf st hg
  subst hP hw hK
  obtain ⟨xs, ha, hx⟩ := hg
  obtain ⟨is1, rv1, pl1, hz1⟩ := I.tuple ha
  have hl := rv1.length
  refine zt_stop (I.ok.hd hc) dd st (show s.heap.IsTuple a is1.toArray from pl1) (by simp; omega) fun h1 kp => ⟨rfl, I.turnedC (t' := s.toks) (ch := zfp z ti to i1 i2) (fun c o hc e => kp c o (fun t => hc (by simp [zfp, t])) (fun t => hc (by simp [zfp, t])) (fun t => hc (by simp [zfp, t])) (fun t => hc (by simp [zfp, t])) e) hf⟩
 self := fun _ _ _ _ _ st h => wpAny_pyIter_zip st.self h
def iZipT (K : PySem.W.Frag) (ta : TA) : TI := fun σ H R => ta σ H fun vs H1 => ∃ a b, vs = [.ref a, .ref b] ∧ (∃ xs, SqT K H1 a xs) ∧ (∃ ys, SqT K H1 b ys) ∧ R (Itz K a b) H1
theorem pi_zipT {X : Cx} {elts : List Expr} {kk : Nat} {ps : Pos} {a b : Expr} {ta : TA} {p pos : Pos} (hg : Gl X "zip") (hm : X.mg "zip" = none) (ha : PA X [a, b] ta) (hs : starEach [a, b] X.env = [(false, eval a X.env), (false, eval b X.env)] := by rfl) (hs2 : starEach [b] X.env = [(false, eval b X.env)] := by rfl) :
  PI X (.Tuple elts kk ps) (.Call (.Name "zip" p) [a, b] [] pos) (iZipT X.K ta) := by
 intro pins s σ H R I h
 refine Call_ (ld_blt I hg hm boot_zip (PyProof.Rows.callWith_type1 (thn (ha pos pins s σ H _ I h) fun us s1 ⟨vs, H1, I1, r1, q1⟩ => ?_) (by rw [hs, hs2]) (by rw [hs2]; rfl)))
 obtain ⟨l1, l2, e, ⟨xs, ha⟩, ⟨ys, hb⟩, q⟩ := q1
 subst e
 obtain ⟨u1, u2, rfl, ru1, ru2⟩ := vals2 r1
 cases ru1
 cases ru2
 obtain ⟨is1, rv1, pl1, hz1⟩ := I1.tuple ha
 obtain ⟨is2, rv2, pl2, hz2⟩ := I1.tuple hb
 have t1 : s1.heap.IsTuple l1 is1.toArray := pl1
 have t2 : s1.heap.IsTuple l2 is2.toArray := pl2
 have b1 : l1 < s1.heap.objs.size := by
  obtain ⟨o, e, _⟩ := t1
  exact Heap.lt_size e
 have b2 : l2 < s1.heap.objs.size := by
  obtain ⟨o, e, _⟩ := t2
  exact Heap.lt_size e
 refine zq_call t1 t2 fun h' n en g kp => ?_
 subst en
 have I2 : Inv X pins σ H1 { s1 with heap := h' } := I1.kept (t' := s1.toks) kp
 refine wpAny_pyIter_zip g.self ?_
 refine ⟨_, _, _, _, H1, rfl, I2, turn_zip l1 l2 _ _ _ _ _ ⟨?_, ?_, ?_, ?_⟩, g, fun c hc => ?_, q⟩
 ·exact fun t => absurd t (Nat.ne_of_lt (Nat.lt_succ_self _))
 ·exact fun t => absurd t (Nat.ne_of_lt (Nat.lt_succ_self _))
 ·exact Nat.ne_of_lt (Nat.lt_of_lt_of_le b1 (Nat.le_add_right _ _))
 ·exact Nat.ne_of_lt (Nat.lt_of_lt_of_le b2 (Nat.le_add_right _ _))
 ·have hc' : c = s1.heap.objs.size + 4 ∨ c = s1.heap.objs.size + 2 ∨ c = s1.heap.objs.size + 3 ∨ c = s1.heap.objs.size ∨ c = s1.heap.objs.size + 1 := by simpa [zfp] using hc
  have lc : s1.heap.objs.size ≤ c := by
   rcases hc' with e | e | e | e | e <;> rw [e] <;> first | exact Nat.le_refl _ | exact Nat.le_add_right _ _
  exact I1.fpOk lc (I1.hok.fresh lc)
theorem for_zipT {K : PySem.W.Frag} {a b : Addr} {xs ys : List V} {g : TG} {tb : TS} {D : Ends} {σ : St} {H : Hp} (Pv : Nat → St → Hp → Prop) (le : xs.length = ys.length) (h0 : Pv 0 σ H) (hl : ∀ i σ H, i ≤ xs.length → Pv i σ H → SqT K H a xs ∧ SqT K H b ys)
  (hs : ∀ i x y p σ H, xs[i]? = some x → ys[i]? = some y → Pv i σ H → H p = none → g (.ref p) σ (upd H p (.tup [x, y])) fun σ2 H2 => tb { D with nx := Pv (i + 1), ct := Pv (i + 1), bk := D.nx } σ2 H2) (hd : ∀ σ H, Pv xs.length σ H → D.nx σ H) :
  ∃ W : Nat → Nat → St → Hp → Prop, (∃ m, W 0 m σ H) ∧ ∀ i m σ H, W i m σ H →
   ((Itz K a b).stop i H ∧ D.nx σ H) ∨ ((Itz K a b).go i H ∧ ∃ N : St → Hp → Prop, (∀ σ' H', N σ' H' → ∃ m', m' < m ∧ W (i + 1) m' σ' H') ∧ ∀ x H', (Itz K a b).yld i H x H' → g x σ H' fun σ2 H2 => tb { D with nx := N, ct := N, bk := D.nx } σ2 H2) := by
 refine ⟨fun i m σ H => m = xs.length - i ∧ i ≤ xs.length ∧ Pv i σ H, ⟨xs.length, by simp, Nat.zero_le _, h0⟩, ?_⟩
 rintro i m σ H ⟨rfl, hi, p⟩
 obtain ⟨q1, q2⟩ := hl i σ H hi p
 by_cases hlt : i < xs.length
 ·refine .inr ⟨⟨xs, ys, xs[i], ys[i]'(by omega), q1, q2, by simp [hlt], List.getElem?_eq_getElem _⟩, Pv (i + 1), fun σ' H' p' => ⟨xs.length - (i + 1), by omega, rfl, hlt, p'⟩, fun x H' y => ?_⟩
  obtain ⟨r, u, v, rfl, hr, rfl, y1, y2⟩ := y
  exact hs i u v r σ H (y1 xs q1) (y2 ys q2) p hr
 ·have e : i = xs.length := by omega
  subst e
  exact .inl ⟨⟨xs, q1, rfl⟩, hd σ H p⟩
section
variable {P : Program} {w : World} {A : Around} {E : Value → Shared → Prop} {v : Shared}
theorem wpAny_alive {M : Model} {a : Addr} {Q : Option Obj → Shared → Prop} (h : Q (v.heap.get? a) v) : wpAny M A (loadIfAlive a) Q E v := fun Γ p _ => by
 show Sem.wp M Γ (Sem.loadIfAlive a Sem.pure) _ _ p v
 rw [Sem.wp_loadIfAlive]
 exact h
abbrev zipO (f0 : Value) (b : Bool) (ti to : Addr) : Obj := { cls := .type "zip", dict := none, data := .fields #[f0, .bool b, .bool false, .ref ti, .ref to], slots := #[] }
structure Zs (h : Heap) (z ti to i1 i2 l1 l2 T : Addr) (k : Nat) : Prop where
 self : ∃ b, h.get? z = some (zipO (rawInt T) b ti to)
 live : ∃ o, h.get? T = some o
 ins : IsPair h ti (.ref i1) (.ref i2)
 w1 : h.IsListIter i1 l1 k
 w2 : h.IsListIter i2 l2 k
theorem zs_free {z ti to T : Addr} {b : Bool} {Q : Bool → Shared → Prop} (g : v.heap.get? z = some (zipO (rawInt T) b ti to)) (l : ∃ o, v.heap.get? T = some o)
  (q : ∀ h', h'.get? z = some (zipO (rawInt T) true ti to) → Heap.SameBut z v.heap h' → Q false { v with heap := h' }) : wpAny (model P w) A (Builtin.SmallTypes.ownedTupleIsFree (.ref z)) Q E v := by
 obtain ⟨o, l⟩ := l
 unfold Builtin.SmallTypes.ownedTupleIsFree
 refine wpAny_bind (wpAny_field g rfl (x := rawInt T) rfl ?_)
 show wpAny _ _ (loadIfAlive (Int.toNat (T : Int)) >>= _) _ _ _
 refine wpAny_bind (wpAny_alive ?_)
 rw [Int.toNat_natCast, l]
 show wpAny _ _ (field (.ref z) 1 >>= _) _ _ _
 refine wpAny_bind (wpAny_field g rfl (x := .bool b) rfl ?_)
 cases b with
 | true =>
  exact wpAny_pure (q v.heap g (Heap.SameBut.refl _ _))
 | false =>
  refine wpAny_bind (wpAny_setField_rec g (by simp) fun h1 g1 s1 => wpAny_pure (q h1 g1 s1))
theorem zs_item {z ti to i1 i2 l1 l2 T : Addr} {k : Nat} {xs ys : Array Value} {x y : Value} {Q : Value → Shared → Prop} (D : ZipApart z ti to i1 i2 l1 l2) (nT : T ≠ z) (g : Zs v.heap z ti to i1 i2 l1 l2 T k)
  (t1 : v.heap.IsList l1 xs) (t2 : v.heap.IsList l2 ys) (ex : xs[k]? = some x) (ey : ys[k]? = some y)
  (q : ∀ h', Zs h' z ti to i1 i2 l1 l2 T (k + 1) → IsPair h' v.heap.objs.size x y → (∀ c o, c ≠ z → c ≠ i1 → c ≠ i2 → v.heap.get? c = some o → h'.get? c = some o) → Q (.ref v.heap.objs.size) { v with heap := h' }) :
  wpAny (model P w) A (Builtin.«zip.__next__» ⟨[.ref z], []⟩) (fun fin s' => ∃ u, fin = .done (.ret u) ∧ Q u s') E v := by
 obtain ⟨⟨b, gs⟩, gT, gi, g1, g2⟩ := g
 show wpAny _ _ (field (.ref z) 2 >>= _) _ _ _
 refine wpAny_bind (wpAny_field gs rfl (x := .bool false) rfl ?_)
 show wpAny _ _ (field (.ref z) 3 >>= _) _ _ _
 refine wpAny_bind (wpAny_field gs rfl (x := .ref ti) rfl ?_)
 refine wpAny_bind (wpAny_seqItems gi rfl ?_)
 show wpAny _ _ (Builtin.SmallTypes.ownedTupleIsFree (.ref z) >>= _) _ _ _
 refine wpAny_bind (zs_free gs gT fun p1 z1 r1 => ?_)
 simp only [Bool.false_eq_true, if_false]
 refine wpAny_bind ?_
 simp only [← Array.forIn_toList, List.forIn_cons, List.forIn_nil]
 refine wpAny_bind (wpAny_bind (wpAny_holding ?_))
 show wpAny _ _ (Builtin.SmallTypes.nextOf (.ref i1) >>= _) _ _ _
 refine wpAny_bind (wpAny_nextOf_list_item (g1.extBut r1.extBut D.i1z) (t1.extBut r1.extBut D.l1z) ex fun p2 k2 r2 => wpAny_pure ?_)
 refine wpAny_pure ?_
 refine wpAny_bind (wpAny_bind (wpAny_holding ?_))
 show wpAny _ _ (Builtin.SmallTypes.nextOf (.ref i2) >>= _) _ _ _
 refine wpAny_bind (wpAny_nextOf_list_item ((g2.extBut r1.extBut D.i2z).extBut r2.extBut D.i12.symm) ((t2.extBut r1.extBut D.l2z).extBut r2.extBut D.l2i1) ey fun p3 k3 r3 => wpAny_pure ?_)
 refine wpAny_pure (wpAny_pure ?_)
 show wpAny _ _ (newTuple [x, y] >>= _) _ _ _
 refine wpAny_bind (wpAny_newTuple (wpAny_pure ⟨_, rfl, ?_⟩))
 have sz : p3.objs.size = v.heap.objs.size := by rw [r3.1, r2.1, r1.1]
 have z3 : p3.get? z = some (zipO (rawInt T) true ti to) := r3.extBut _ _ D.i2z.symm (r2.extBut _ _ D.i1z.symm z1)
 have st : ∀ c o, c ≠ z → c ≠ i1 → c ≠ i2 → v.heap.get? c = some o → p3.get? c = some o := fun c o m1 m2 m3 e => r3.extBut _ _ m3 (r2.extBut _ _ m2 (r1.extBut _ _ m1 e))
 have j1 := k2.extBut r3.extBut D.i12
 show Q (.ref p3.objs.size) _
 rw [sz]
 obtain ⟨oa, ja, ra⟩ := j1
 obtain ⟨ob, jb, rb⟩ := k3
 obtain ⟨oT, gT⟩ := gT
 obtain ⟨o1, e1, c1, _⟩ := g1
 obtain ⟨o2, e2, c2, _⟩ := g2
 refine q _ ⟨⟨true, Heap.get?_push_of_some _ z3⟩, ?_, Heap.get?_push_of_some _ (st _ _ D.TIz D.TIi1 D.TIi2 gi), ⟨oa, Heap.get?_push_of_some _ ja, ra⟩, ⟨ob, Heap.get?_push_of_some _ jb, rb⟩⟩ ?_ fun c o m1 m2 m3 e => Heap.get?_push_of_some _ (st c o m1 m2 m3 e)
 ·by_cases n1 : T = i1
  ·rw [n1]
   exact ⟨oa, Heap.get?_push_of_some _ ja⟩
  ·by_cases n2 : T = i2
   ·rw [n2]
    exact ⟨ob, Heap.get?_push_of_some _ jb⟩
   ·exact ⟨oT, Heap.get?_push_of_some _ (st _ _ nT n1 n2 gT)⟩
 ·have := Heap.get?_push_size p3 (o := { cls := .type "tuple", data := .seq #[x, y] }) rfl
  rw [sz] at this
  exact this
theorem zs_end {z ti to i1 i2 l1 l2 T : Addr} {k : Nat} {xs : Array Value} {Q : Fin → Shared → Prop} (hh : A.handled = none) (D : ZipApart z ti to i1 i2 l1 l2) (g : Zs v.heap z ti to i1 i2 l1 l2 T k)
  (t1 : v.heap.IsList l1 xs) (ex : xs[k]? = none)
  (q : ∀ h' e, (∀ c o, c ≠ z → c ≠ i1 → c ≠ i2 → v.heap.get? c = some o → h'.get? c = some o) → (∃ o, h'.get? e = some o ∧ o.cls = .type "StopIteration") → E (.ref e) { v with heap := h' }) :
  wpAny (model P w) A (Builtin.«zip.__next__» ⟨[.ref z], []⟩) Q E v := by
 obtain ⟨⟨b, gs⟩, gT, gi, g1, g2⟩ := g
 show wpAny _ _ (field (.ref z) 2 >>= _) _ _ _
 refine wpAny_bind (wpAny_field gs rfl (x := .bool false) rfl ?_)
 show wpAny _ _ (field (.ref z) 3 >>= _) _ _ _
 refine wpAny_bind (wpAny_field gs rfl (x := .ref ti) rfl ?_)
 refine wpAny_bind (wpAny_seqItems gi rfl ?_)
 show wpAny _ _ (Builtin.SmallTypes.ownedTupleIsFree (.ref z) >>= _) _ _ _
 refine wpAny_bind (zs_free gs gT fun p1 z1 r1 => ?_)
 simp only [Bool.false_eq_true, if_false]
 refine wpAny_bind ?_
 simp only [← Array.forIn_toList, List.forIn_cons, List.forIn_nil]
 refine wpAny_bind (wpAny_bind (wpAny_holding ?_))
 show wpAny _ _ (Builtin.SmallTypes.nextOf (.ref i1) >>= _) _ _ _
 exact wpAny_bind (wpAny_nextOf_list_end hh (g1.extBut r1.extBut D.i1z) (t1.extBut r1.extBut D.l1z) ex fun p2 e r2 he => q p2 e (fun c o m1 m2 m3 x => r2 _ _ m2 (r1.extBut _ _ m1 x)) he)
theorem zs_next {z ti to i1 i2 l1 l2 T : Addr} {k : Nat} {xs ys : Array Value} {x y : Value} {Q : Option Value → Shared → Prop} (D : ZipApart z ti to i1 i2 l1 l2) (nT : T ≠ z) (g : Zs v.heap z ti to i1 i2 l1 l2 T k)
  (t1 : v.heap.IsList l1 xs) (t2 : v.heap.IsList l2 ys) (ex : xs[k]? = some x) (ey : ys[k]? = some y)
  (q : ∀ h', Zs h' z ti to i1 i2 l1 l2 T (k + 1) → IsPair h' v.heap.objs.size x y → (∀ c o, c ≠ z → c ≠ i1 → c ≠ i2 → v.heap.get? c = some o → h'.get? c = some o) → Q (some (.ref v.heap.objs.size)) { v with heap := h' }) :
  wpAny (model P w) A (pyNext (.ref z)) Q E v := by
 obtain ⟨b, gs⟩ := g.self
 have ty : v.TypeIs (.ref z) "zip" := ⟨_, gs, rfl⟩
 unfold pyNext
 exact wpAny_bind (wpAny_attempt (wpAny_callSpecial?_slot (name := Str.ofString "__next__") ty F.slot_zip_next (wpAny_call_entry F.slot_zip_next ty F.entry_zip_next (zs_item D nT g t1 t2 ex ey fun h' b1 b2 b3 => wpAny_pure (q h' b1 b2 b3)) (F.args_zip_next_1 _))))
theorem zs_stop {z ti to i1 i2 l1 l2 T : Addr} {k : Nat} {xs : Array Value} {Q : Option Value → Shared → Prop} (hh : A.handled = none) (D : ZipApart z ti to i1 i2 l1 l2) (g : Zs v.heap z ti to i1 i2 l1 l2 T k)
  (t1 : v.heap.IsList l1 xs) (ex : xs[k]? = none) (q : ∀ h', (∀ c o, c ≠ z → c ≠ i1 → c ≠ i2 → v.heap.get? c = some o → h'.get? c = some o) → Q none { v with heap := h' }) :
  wpAny (model P w) A (pyNext (.ref z)) Q E v := by
 obtain ⟨b, gs⟩ := g.self
 have ty : v.TypeIs (.ref z) "zip" := ⟨_, gs, rfl⟩
 unfold pyNext
 refine wpAny_bind (wpAny_attempt (wpAny_callSpecial?_slot (name := Str.ofString "__next__") ty F.slot_zip_next (wpAny_call_entry F.slot_zip_next ty F.entry_zip_next (zs_end hh D g t1 ex fun h' e hk he => ?_) (F.args_zip_next_1 _))))
 obtain ⟨o, ho, hc⟩ := he
 exact wpAny_bind (wpAny_isInstance (T := "StopIteration") (b := true) ⟨o, ho, hc⟩ isSubtype_stop (wpAny_pure (q _ hk)))
end
section
variable {prog : Program} {w : World} {A : Around} {E : Value → Shared → Prop}
theorem dz_getattr : typeLookup (.type "zip") "__getattr__" = pure none := by rw [typeLookup_type, builtinLookup_eq_fast]; kernel_rfl
theorem dz_keys : typeLookup (.type "zip") "keys" = pure none := by rw [typeLookup_type, builtinLookup_eq_fast]; kernel_rfl
theorem dz_ga : entryFor table "zip.__getattribute__" = some Builtin.«object.__getattribute__» := entryFor_alias (id' := "object.__getattribute__") (by kernel_rfl) (by decide +kernel) (by decide +kernel) (by kernel_rfl)
theorem dz_miss {a ti to : Addr} {f0 : Value} {b : Bool} {u : Tok} {h : Heap} {g : Array GenState} {d : Drawn} {t : Nat} {os : OsState} {Q : Fin → Shared → Prop} (hx : h.get? a = some (zipO f0 b ti to)) (hA : A.handled = none)
  (k : ∀ h' tk e, Heap.NewAttrErr h h' e (.ref a) "keys" → E (.ref e) ⟨h', g, d, tk, os⟩) :
  wpAny (model prog w) A (Builtin.«object.__getattribute__» ⟨[.ref a, .str "keys" u], []⟩) Q E ⟨h, g, d, t, os⟩ := by
 have hT : (⟨h, g, d, t, os⟩ : Shared).TypeIs (.ref a) "zip" := ⟨_, hx, rfl⟩
 have f4 := dz_keys
 unfold Builtin.«object.__getattribute__»
 repeat (any_goals (first | (assumption) | (wp_step)))
 refine wpAny_raiseAttrError hA k ?_
 exact attrMsg_fits (by decide +kernel) (by size_fits)
theorem dz_call {a ti to : Addr} {f0 : Value} {b : Bool} {u : Tok} {h : Heap} {g : Array GenState} {d : Drawn} {t : Nat} {os : OsState} {R : Result → Shared → Prop} (hx : h.get? a = some (zipO f0 b ti to)) (hA : A.handled = none)
  (k : ∀ h' tk e, Heap.NewAttrErr h h' e (.ref a) "keys" → R (.error (.ref e)) ⟨h', g, d, tk, os⟩) :
  codeAny (model prog w) A (.call (.builtin "zip.__getattribute__") ⟨[.ref a, .str "keys" u], []⟩) R ⟨h, g, d, t, os⟩ :=
 codeAny_call_builtin F.slot_zip_getattribute.plain dz_ga (F.slot_zip_getattribute.check _ _ _ _ _ _ _ _ (show (⟨h, g, d, t, os⟩ : Shared).TypeIs (.ref a) "zip" from ⟨_, hx, rfl⟩) (F.args_zip_getattribute_2 _ _) (dz_miss hx hA k))
theorem dz_by {a ti to : Addr} {f0 : Value} {b : Bool} {u : Tok} {h : Heap} {g : Array GenState} {d : Drawn} {t : Nat} {os : OsState} {Q : Value → Shared → Prop} (hx : h.get? a = some (zipO f0 b ti to)) (hA : A.handled = none)
  (k : ∀ h' tk e, Heap.NewAttrErr h h' e (.ref a) "keys" → E (.ref e) ⟨h', g, d, tk, os⟩) :
  wpAny (model prog w) A (getAttrBy (.ref a) (.str "keys" u) false) Q E ⟨h, g, d, t, os⟩ := by
 have hT : (⟨h, g, d, t, os⟩ : Shared).TypeIs (.ref a) "zip" := ⟨_, hx, rfl⟩
 have g2 := F.slot_zip_getattribute.lookup
 have g3 := F.slot_zip_getattribute.bind (.ref a)
 have f5 := dz_getattr
 have f1 := sub_AttributeError
 repeat (any_goals (first | (assumption) | (wp_step)))
 refine dz_call hx hA fun h' tk e ne => ?_
 obtain ⟨t', u', he⟩ := ne.there
 show wpAny (model prog w) A (getattributeRaised (.ref a) (.str "keys" u) _ _ _ _ _) _ _ _
 unfold getattributeRaised
 repeat (any_goals (first | (assumption) | (wp_step)))
 exact k _ _ _ ne
theorem dz_attr {a ti to : Addr} {f0 : Value} {b : Bool} {h : Heap} {g : Array GenState} {d : Drawn} {t : Nat} {os : OsState} {Q : Option Value → Shared → Prop} (hx : h.get? a = some (zipO f0 b ti to)) (hA : A.handled = none)
  (k : ∀ h' tk e, Heap.NewAttrErr h h' e (.ref a) "keys" → Q none ⟨h', g, d, tk, os⟩) :
  wpAny (model prog w) A (getAttr? (.ref a) "keys") Q E ⟨h, g, d, t, os⟩ := by
 have f1 := sub_AttributeError
 unfold getAttr? getAttrBy?
 repeat (any_goals (first | assumption | (with_reducible refine dz_by hx hA fun h' tk e ne => ?_) | wp_step))
 obtain ⟨t', u', he⟩ := ne.there
 repeat (any_goals (first | (assumption) | (wp_step)))
 exact k _ _ _ ne
theorem dz_loop {l1 l2 d z ti to i1 i2 : Addr} {us vs : List Value} {h0 : Heap} {pairs : List (Key × Value)} {R : Result → Shared → Prop} (hA : A.handled = none) (D : ZipApart z ti to i1 i2 l1 l2) (hd0 : h0.get? d = none) (n1 : d ≠ z) (n2 : d ≠ i1) (n3 : d ≠ i2) (n4 : d ≠ ti)
  (hl1 : h0.IsList l1 us.toArray) (hl2 : h0.IsList l2 vs.toArray) (hp : Paired (fun (u : Value) (p : Key × Value) => (mixKind prog w).is p.1 u = true) us pairs) (hv : vs = pairs.map (·.2)) (hsz : pairs.length ≤ sizeLine) (g : Array GenState) (dr : Drawn) (os : OsState)
  (k : ∀ h' tk, (∀ b o, b ≠ z → b ≠ to → b ≠ i1 → b ≠ i2 → h0.get? b = some o → h'.get? b = some o) → h'.DictOf (mixKind prog w) d (merged [] pairs) → R (.ok (.ret .none)) ⟨h', g, dr, tk, os⟩) :
  ∀ (m i : Nat) (h : Heap) (tk : Nat) (T : Addr), us.length - i = m → i ≤ us.length → (∀ b o, b ≠ z → b ≠ to → b ≠ i1 → b ≠ i2 → h0.get? b = some o → h.get? b = some o) → T ≠ z → Zs h z ti to i1 i2 l1 l2 T i → h.DictOf (mixKind prog w) d (merged [] (pairs.take i)) →
   codeAny (model prog w) A (.builtin "dict.update.loop" ⟨[.ref d, .ref z, rawInt i, .none], []⟩) R ⟨h, g, dr, tk, os⟩ := by
 intro m
 have lp : us.length = pairs.length := Paired.length hp
 have keepL : ∀ (h : Heap), (∀ b o, b ≠ z → b ≠ to → b ≠ i1 → b ≠ i2 → h0.get? b = some o → h.get? b = some o) → h.IsList l1 us.toArray ∧ h.IsList l2 vs.toArray := fun h kp => by
  obtain ⟨o1, e1, r1⟩ := hl1
  obtain ⟨o2, e2, r2⟩ := hl2
  exact ⟨⟨o1, kp _ _ D.l1z D.l1TO D.l1i1 D.l1i2 e1, r1⟩, ⟨o2, kp _ _ D.l2z D.l2TO D.l2i1 D.l2i2 e2, r2⟩⟩
 induction m with
 | zero =>
  intro i h tk T em hi kp nT hz hd
  have ei : i = us.length := by omega
  refine codeAny_builtin dp_entry ?_
  unfold Builtin.«dict.update.loop»
  show wpAny _ _ (pyNext (.ref z) >>= _) _ _ _
  refine wpAny_bind (zs_stop (show (A.under _).handled = none from hA) D hz (keepL h kp).1 (by rw [ei]; simp) fun h' hs => ?_)
  show wpAny _ _ (Builtin.Dict.addKeywords d [] >>= _) _ _ _
  refine wpAny_bind (wpAny_pure (wpAny_pure ?_))
  rw [ei, lp, List.take_length] at hd
  obtain ⟨o, es, ep, e, r⟩ := hd
  exact k h' _ (fun b o m1 m2 m3 m4 hb => hs b o m1 m3 m4 (kp b o m1 m2 m3 m4 hb)) ⟨o, es, ep, hs _ _ n1 n2 n3 e, r⟩
 | succ m ih =>
  intro i h tk T em hi kp nT hz hd
  have hlt : i < us.length := by omega
  obtain ⟨x, hx⟩ : ∃ x, us[i]? = some x := ⟨_, List.getElem?_eq_getElem hlt⟩
  obtain ⟨kv, hkv, hku⟩ := Paired.at' hp hx
  have hy : vs[i]? = some kv.2 := by rw [hv, List.getElem?_map, hkv]; rfl
  refine codeAny_builtin dp_entry ?_
  unfold Builtin.«dict.update.loop»
  show wpAny _ _ (pyNext (.ref z) >>= _) _ _ _
  obtain ⟨t1, t2⟩ := keepL h kp
  refine wpAny_bind (zs_next D nT hz t1 t2 (x := x) (y := kv.2) (by simpa using hx) (by simpa using hy) fun h1 hz1 pr hs1 => ?_)
  have kp1 : ∀ b o, b ≠ z → b ≠ to → b ≠ i1 → b ≠ i2 → h0.get? b = some o → h1.get? b = some o := fun b o m1 m2 m3 m4 hb => hs1 b o m1 m3 m4 (kp b o m1 m2 m3 m4 hb)
  obtain ⟨od, es, ep, ed, rd⟩ := hd
  have hd1 : h1.DictOf (mixKind prog w) d (merged [] (pairs.take i)) := ⟨od, es, ep, hs1 _ _ n1 n2 n3 ed, rd⟩
  refine wpAny_bind (wpAny_holding (wpAny_bind (wpAny_tryCatch ?_)))
  unfold Builtin.Dict.pairItems
  refine wpAny_bind (wpAny_typeOf (T := "tuple") ⟨_, pr, rfl⟩ ?_)
  rw [if_pos (by decide)]
  refine wpAny_bind (wpAny_seqItems pr rfl (wpAny_pure ?_))
  show wpAny _ _ (holding [x, kv.2] (dictSet d x kv.2)) _ _ _
  have lm : (merged [] (pairs.take i)).length ≤ sizeLine := by
   have e1 := merged_length_le [] (pairs.take i)
   rw [List.length_take] at e1
   simp only [List.length_nil] at e1
   omega
  refine wpAny_holding (wpAny_dictSet_pairs (hsz := lm) hku hd1 fun h2 hd2 hs2 => ?_)
  refine wpAny_pure ⟨Code.quiet_builtin _ (by decide +kernel), ?_⟩
  have st : ∀ b o, b ≠ d → h1.get? b = some o → h2.get? b = some o := fun b o n e => (hs2.2 b n).trans e
  have kp2 : ∀ b o, b ≠ z → b ≠ to → b ≠ i1 → b ≠ i2 → h0.get? b = some o → h2.get? b = some o := fun b o m1 m2 m3 m4 hb => st b o (fun e => by rw [e, hd0] at hb; cases hb) (kp1 b o m1 m2 m3 m4 hb)
  obtain ⟨⟨b, gs⟩, ⟨oT, gT⟩, gi, ⟨oa, ja, ra⟩, ⟨ob, jb, rb⟩⟩ := hz1
  have hz2 : Zs h2 z ti to i1 i2 l1 l2 T (i + 1) := by
   refine ⟨⟨b, st _ _ (Ne.symm n1) gs⟩, ?_, st _ _ (Ne.symm n4) gi, ⟨oa, st _ _ (Ne.symm n2) ja, ra⟩, ⟨ob, st _ _ (Ne.symm n3) jb, rb⟩⟩
   by_cases nd : T = d
   ·obtain ⟨o', _, _, e', _⟩ := hd2
    rw [nd]
    exact ⟨o', e'⟩
   ·exact ⟨oT, st _ _ nd gT⟩
  exact ih (i + 1) h2 _ T (by omega) hlt kp2 nT hz2 (by rw [merged_take_succ [] pairs i kv hkv]; exact hd2)
theorem dz_first {l1 l2 d z ti to i1 i2 : Addr} {us vs : List Value} {h0 h : Heap} {tk : Nat} {pairs : List (Key × Value)} {R : Result → Shared → Prop} (hA : A.handled = none) (D : ZipApart z ti to i1 i2 l1 l2) (hd0 : h0.get? d = none) (n1 : d ≠ z) (n2 : d ≠ i1) (n3 : d ≠ i2) (n4 : d ≠ ti) (n5 : d ≠ to)
  (hl1 : h0.IsList l1 us.toArray) (hl2 : h0.IsList l2 vs.toArray) (hp : Paired (fun (u : Value) (p : Key × Value) => (mixKind prog w).is p.1 u = true) us pairs) (hv : vs = pairs.map (·.2)) (hsz : pairs.length ≤ sizeLine) (h1l : 1 ≤ us.length) (g : Array GenState) (dr : Drawn) (os : OsState)
  (k : ∀ h' tk, (∀ b o, b ≠ z → b ≠ to → b ≠ i1 → b ≠ i2 → h0.get? b = some o → h'.get? b = some o) → h'.DictOf (mixKind prog w) d (merged [] pairs) → R (.ok (.ret .none)) ⟨h', g, dr, tk, os⟩)
  (kp : ∀ b o, b ≠ z → b ≠ to → b ≠ i1 → b ≠ i2 → h0.get? b = some o → h.get? b = some o) (hz : IsZip h z ti to .none) (hi : IsPair h ti (.ref i1) (.ref i2)) (ho : ∃ a b, IsPair h to a b) (j1 : h.IsListIter i1 l1 0) (j2 : h.IsListIter i2 l2 0) (hd : h.DictOf (mixKind prog w) d []) :
   codeAny (model prog w) A (.builtin "dict.update.loop" ⟨[.ref d, .ref z, rawInt 0, .none], []⟩) R ⟨h, g, dr, tk, os⟩ := by
 have lp : us.length = pairs.length := Paired.length hp
 obtain ⟨x, hx⟩ : ∃ x, us[0]? = some x := ⟨_, List.getElem?_eq_getElem (by omega)⟩
 obtain ⟨kv, hkv, hku⟩ := Paired.at' hp hx
 have hy : vs[0]? = some kv.2 := by rw [hv, List.getElem?_map, hkv]; rfl
 have t1 : h.IsList l1 us.toArray := by
  obtain ⟨o1, e1, r1⟩ := hl1
  exact ⟨o1, kp _ _ D.l1z D.l1TO D.l1i1 D.l1i2 e1, r1⟩
 have t2 : h.IsList l2 vs.toArray := by
  obtain ⟨o2, e2, r2⟩ := hl2
  exact ⟨o2, kp _ _ D.l2z D.l2TO D.l2i1 D.l2i2 e2, r2⟩
 refine codeAny_builtin dp_entry ?_
 unfold Builtin.«dict.update.loop»
 show wpAny _ _ (pyNext (.ref z) >>= _) _ _ _
 obtain ⟨a, b, ho⟩ := ho
 have lz : z < h.objs.size := Heap.lt_size hz
 refine wpAny_bind (wpAny_pyNext_zip_item D hz hi ho j1 j2 t1 t2 (x := x) (y := kv.2) (by simpa using hx) (by simpa using hy) fun h1 a1 a2 a3 a4 a5 a6 hs1 => ?_)
 have hs1 : ∀ c o, c ≠ z → c ≠ to → c ≠ i1 → c ≠ i2 → h.get? c = some o → h1.get? c = some o := hs1
 have a5 : IsPair h1 h.objs.size x kv.2 := a5
 have a1 : h1.get? z = some (zipO (rawInt h.objs.size) false ti to) := a1
 obtain ⟨od, es, ep, ed, rd⟩ := hd
 have hd1 : h1.DictOf (mixKind prog w) d [] := ⟨od, es, ep, hs1 _ _ n1 n5 n2 n3 ed, rd⟩
 refine wpAny_bind (wpAny_holding (wpAny_bind (wpAny_tryCatch ?_)))
 unfold Builtin.Dict.pairItems
 refine wpAny_bind (wpAny_typeOf (T := "tuple") ⟨_, a5, rfl⟩ ?_)
 rw [if_pos (by decide)]
 refine wpAny_bind (wpAny_seqItems a5 rfl (wpAny_pure ?_))
 show wpAny _ _ (holding [x, kv.2] (dictSet d x kv.2)) _ _ _
 refine wpAny_holding (wpAny_dictSet_pairs (hsz := Nat.zero_le _) hku hd1 fun h2 hd2 hs2 => ?_)
 refine wpAny_pure ⟨Code.quiet_builtin _ (by decide +kernel), ?_⟩
 have st : ∀ b o, b ≠ d → h1.get? b = some o → h2.get? b = some o := fun b o n e => (hs2.2 b n).trans e
 obtain ⟨oa, ja, ra⟩ := a3
 obtain ⟨ob, jb, rb⟩ := a4
 have hz2 : Zs h2 z ti to i1 i2 l1 l2 h.objs.size 1 := by
  refine ⟨⟨false, st _ _ (Ne.symm n1) a1⟩, ?_, st _ _ (Ne.symm n4) (hs1 _ _ D.TIz D.TITO D.TIi1 D.TIi2 hi), ⟨oa, st _ _ (Ne.symm n2) ja, ra⟩, ⟨ob, st _ _ (Ne.symm n3) jb, rb⟩⟩
  by_cases nd : h.objs.size = d
  ·obtain ⟨o', _, _, e', _⟩ := hd2
   rw [nd]
   exact ⟨o', e'⟩
  ·exact ⟨_, st _ _ nd a5⟩
 exact dz_loop hA D hd0 n1 n2 n3 n4 hl1 hl2 hp hv hsz g dr os k (us.length - 1) 1 h2 _ h.objs.size rfl (by omega) (fun b o m1 m2 m3 m4 hb => st b o (fun e => by rw [e, hd0] at hb; cases hb) (hs1 b o m1 m2 m3 m4 (kp b o m1 m2 m3 m4 hb))) (Nat.ne_of_gt lz) hz2 (by rw [merged_take_succ [] pairs 0 kv hkv]; exact hd2)
end
section
variable {prog : Program} {w : World} {A : Around} {E : Value → Shared → Prop}
theorem dz_dict {l1 l2 z ti to i1 i2 : Addr} {us vs : List Value} {pairs : List (Key × Value)} {s : Shared} {Q : Value → Shared → Prop} (hA : A.handled = none) (D : ZipApart z ti to i1 i2 l1 l2)
  (hl1 : s.heap.IsList l1 us.toArray) (hl2 : s.heap.IsList l2 vs.toArray) (hp : Paired (fun (u : Value) (p : Key × Value) => (mixKind prog w).is p.1 u = true) us pairs) (hv : vs = pairs.map (·.2)) (hsz : pairs.length ≤ sizeLine) (h1l : 1 ≤ us.length)
  (hz : IsZip s.heap z ti to .none) (hi : IsPair s.heap ti (.ref i1) (.ref i2)) (ho : ∃ a b, IsPair s.heap to a b) (j1 : s.heap.IsListIter i1 l1 0) (j2 : s.heap.IsListIter i2 l2 0)
  (k : ∀ h' tk, (∀ b o, b ≠ z → b ≠ to → b ≠ i1 → b ≠ i2 → s.heap.get? b = some o → h'.get? b = some o) → h'.DictOf (mixKind prog w) s.heap.objs.size (merged [] pairs) → Q (.ref s.heap.objs.size) { s with heap := h', toks := tk }) :
  wpAny (model prog w) A (call (.type "dict") [.ref z]) Q E s := by
 refine callType_codes (Q₁ := fun v1 z1 => v1 = .ref s.heap.objs.size ∧ z1 = { s with heap := s.heap.push { cls := .type "dict", data := .dict #[] } }) F.kt_called_dict (F.kt_typeCall_dict_1 _) F.entry_dict_init (kt_code_dict_new _ ⟨rfl, rfl⟩) ?_
 rintro v1 z1 ⟨rfl, rfl⟩
 obtain ⟨hp0, g, dr, tk, os⟩ := s
 have hnew : (hp0.push { cls := .type "dict", data := .dict #[] }).DictOf (mixKind prog w) hp0.objs.size [] := Heap.DictOf.new hp0
 have hz1 : (hp0.push { cls := .type "dict", data := .dict #[] }).get? z = some (zipO .none false ti to) := Heap.get?_push_of_some _ hz
 refine ⟨hnew.typeIs, F.args_dict_init_2 _ _, ?_⟩
 unfold Builtin.«dict.__init__»
 refine wpAny_bind ?_
 unfold Builtin.Dict.selfAndRest
 refine wpAny_bind (wpAny_notOrdered_dict hnew.typeIs (wpAny_pure ?_))
 show wpAny (model prog w) _ (Builtin.Dict.updateFrom "dict.__init__" hp0.objs.size (.ref z) [] .none) _ _ _
 unfold Builtin.Dict.updateFrom
 refine wpAny_bind (wpAny_typeOf (T := "zip") ⟨_, hz1, rfl⟩ ?_)
 rw [if_pos (by decide)]
 refine wpAny_bind (dz_attr hz1 hA fun h2 tk2 e ne => ?_)
 rw [if_pos (by decide)]
 refine wpAny_bind (wpAny_rule ?_)
 have kp : ∀ b o, hp0.get? b = some o → h2.get? b = some o := fun b o hb => ne.keeps _ _ (Heap.get?_push_of_some _ hb)
 have hz2 : IsZip h2 z ti to .none := kp _ _ hz
 refine wpAny_bind (wpAny_pyIter_zip hz2 ?_)
 have hd2 : h2.DictOf (mixKind prog w) hp0.objs.size [] := by
  obtain ⟨o', es, ep, h', r⟩ := hnew
  exact ⟨o', es, ep, ne.keeps _ _ h', r⟩
 refine wpAny_pure ⟨Code.quiet_builtin _ (by decide +kernel), ?_⟩
 obtain ⟨a, b, ho⟩ := ho
 obtain ⟨oa, ja, ra⟩ := j1
 obtain ⟨ob, jb, rb⟩ := j2
 have nz : ∀ {c : Addr} {o : Obj}, hp0.get? c = some o → hp0.objs.size ≠ c := fun e => Nat.ne_of_gt (Heap.lt_size e)
 exact dz_first (h0 := hp0) (show A.in1.handled = none from hA) D (Heap.get?_none_of_le (Nat.le_refl _)) (nz hz) (nz ja) (nz jb) (nz hi) (nz ho) hl1 hl2 hp hv hsz h1l g dr os (fun h' tk' kp' hd' => ⟨rfl, k h' tk' kp' hd'⟩) (fun b o _ _ _ _ hb => kp b o hb) hz2 (kp _ _ hi) ⟨a, b, kp _ _ ho⟩ ⟨oa, kp _ _ ja, ra⟩ ⟨ob, kp _ _ jb, rb⟩ hd2
end
section
variable {X : Cx}
def tDZ (K : PySem.W.Frag) (ta : TA) : TE := fun σ H Q => ta σ H fun vs H1 => ∃ (l1 l2 : Addr) (ks : List Key) (ys : List V), vs = [.ref l1, .ref l2] ∧ SqL K H1 l1 (ks.map kV) ∧ SqL K H1 l2 ys ∧ 1 ≤ ks.length ∧ ks.length = ys.length ∧ ∀ d, H1 d = none → Q (.ref d) (upd H1 d (.dK (mergeK [] (ks.zip ys))))
theorem zip_rel {P : Program} {w : World} : ∀ {ks : List Key} {ys : List V} {us vs : List Value}, Vals (ks.map kV) us → Vals ys vs → ks.length = ys.length → ∃ pairs : List (Key × Value), Paired (fun (u : Value) (p : Key × Value) => (mixKind P w).is p.1 u = true) us pairs ∧ vs = pairs.map (·.2) ∧ KV (ks.zip ys) pairs ∧ pairs.length = ks.length
 | [], [], _, _, .nil, .nil, _ => ⟨[], .nil, rfl, .nil, rfl⟩
 | k :: ks, y :: ys, _, _, .cons (b := u) r1 t1, .cons (b := v) r2 t2, h => by
  obtain ⟨ps, h1, h2, h3, h4⟩ := zip_rel (P := P) (w := w) t1 t2 (Nat.succ.inj h)
  exact ⟨(k, v) :: ps, .cons (kV_is r1) h1, by rw [List.map_cons, ← h2], .cons ⟨rfl, r2⟩ h3, congrArg Nat.succ h4⟩
theorem pe_dzip {a b : Expr} {ta : TA} {p p2 pos pos2 : Pos} (hg : Gl X "dict") (hm : X.mg "dict" = none) (hg2 : Gl X "zip") (hm2 : X.mg "zip" = none) (hA : X.A.handled = none) (ha : PA X [a, b] ta)
  (hs : starEach [a, b] X.env = [(false, eval a X.env), (false, eval b X.env)] := by rfl) (hs2 : starEach [b] X.env = [(false, eval b X.env)] := by rfl) (hs3 : starEach [.Call (.Name "zip" p2) [a, b] [] pos2] X.env = [(false, eval (.Call (.Name "zip" p2) [a, b] [] pos2) X.env)] := by rfl) :
  PE X (.Call (.Name "dict" p) [.Call (.Name "zip" p2) [a, b] [] pos2] [] pos) (tDZ X.K ta) := by
 intro pins s σ H Q I h
 refine Call_ (ld_blt I hg hm (by decide +kernel : bootBuiltins "dict" = some (.type "dict")) (PyProof.Rows.callWith_type1 ?_ hs3 rfl))
 rw [hs3]
 show wpAny _ _ (spliced [(false, eval (.Call (.Name "zip" p2) [a, b] [] pos2) X.env)]) _ _ s
 refine Calls.spliced_cons (Call_ (ld_blt I hg2 hm2 boot_zip (PyProof.Rows.callWith_type1 (thn (ha pos2 pins s σ H _ I h) fun us s1 ⟨vs, H1, I1, r1, q1⟩ => ?_) (by rw [hs, hs2]) (by rw [hs2]; rfl))))
 obtain ⟨l1, l2, ks, ys, e, h1, h2, hk1, hkl, q⟩ := q1
 subst e
 obtain ⟨u1, u2, rfl, ru1, ru2⟩ := vals2 r1
 cases ru1
 cases ru2
 obtain ⟨is1, rv1, pl1, hz1⟩ := I1.list h1
 obtain ⟨is2, rv2, pl2, hz2⟩ := I1.list h2
 obtain ⟨pairs, hp1, hp2, hp3, hp4⟩ := zip_rel (P := X.prog) (w := X.w) rv1 rv2 hkl
 have b1 : l1 < s1.heap.objs.size := by
  obtain ⟨o, e, _⟩ := id pl1.isList
  exact Heap.lt_size e
 have b2 : l2 < s1.heap.objs.size := by
  obtain ⟨o, e, _⟩ := id pl2.isList
  exact Heap.lt_size e
 have lz : ks.length ≤ sizeLine := by
  rw [List.length_map] at hz1
  exact hz1
 refine call_zip_2 pl1.isList pl2.isList fun h' z0 z1 z2 z3 z4 zs kp => ?_
 have I2 : Inv X pins σ H1 { s1 with heap := h' } := I1.kept (t' := s1.toks) kp
 refine Calls.spliced_nil ?_
 have t1 : h'.IsList l1 is1.toArray := by
  obtain ⟨o, e, r⟩ := id pl1.isList
  exact ⟨o, kp _ _ e, r⟩
 have t2 : h'.IsList l2 is2.toArray := by
  obtain ⟨o, e, r⟩ := id pl2.isList
  exact ⟨o, kp _ _ e, r⟩
 have l0 : is1.length = ks.length := by
  have := rv1.length
  rw [List.length_map] at this
  exact this.symm
 refine dz_dict (s := { s1 with heap := h' }) hA (zipApart_new b1 b2) t1 t2 hp1 hp2 (by omega) (by omega) z0 z1 ⟨_, _, z2⟩ z3 z4 fun h2 tk kp2 hd => ?_
 have rel : KV (mergeK [] (ks.zip ys)) (merged [] pairs) := KV.merge hp3 .nil
 have lzm : (mergeK [] (ks.zip ys)).length ≤ sizeLine := by
  have e1 := merged_length_le [] pairs
  rw [rel.length]
  simp only [List.length_nil] at e1
  omega
 have kpA : ∀ c o, s1.heap.get? c = some o → h2.get? c = some o := fun c o e => by
  have lc := Heap.lt_size e
  exact kp2 c o (Nat.ne_of_lt (Nat.lt_of_lt_of_le lc (Nat.le_add_right _ _))) (Nat.ne_of_lt (Nat.lt_of_lt_of_le lc (Nat.le_add_right _ _))) (Nat.ne_of_lt lc) (Nat.ne_of_lt (Nat.lt_of_lt_of_le lc (Nat.le_add_right _ _))) (kp c o e)
 have ld : s1.heap.objs.size ≤ h'.objs.size := by
  rw [zs]
  exact Nat.le_add_right _ _
 exact ⟨.ref h'.objs.size, _, I1.laid (t' := tk) kpA ld (dk_new lzm (beq_eq_false_iff_ne.mpr (Ne.symm (Nat.ne_of_lt (Nat.lt_of_lt_of_le I1.big ld)))) rel hd), rfl, q _ (I1.hok.fresh ld)⟩
end
end L2
namespace K42
open PySem PySem.Spec PyProof.Rows L2
seal L2.PE L2.PT L2.PW L2.PA L2.PS L2.PSs L2.PI L2.PO L2.PPs L2.PG L2.PGs
def top (i : Nat) : Stmt := PySem.Challenge.pw_askviews_k42_unfolded_or_no_view.main.body.getD i (.Pass ⟨0, 0, 0, 0⟩)
abbrev s_is_value : Stmt := top 13
abbrev s_is_unknown : Stmt := top 14
abbrev s_new_values : Stmt := top 15
abbrev s_image : Stmt := top 17
abbrev s_unknowns_of : Stmt := top 19
abbrev s_terms_of : Stmt := top 20
abbrev s_unfolded : Stmt := top 22
abbrev s_unfolded_parts : Stmt := top 23
abbrev s_joined : Stmt := top 24
abbrev s_check_views : Stmt := top 25
abbrev s_new_unknowns : Stmt := top 26
abbrev s_inner_unknowns : Stmt := top 27
abbrev s_l_feed : Stmt := top 29
abbrev s_l_draw : Stmt := top 30
abbrev s_l_words : Stmt := top 31
abbrev s_l_atom : Stmt := top 32
abbrev s_l_head : Stmt := top 33
abbrev s_l_question : Stmt := top 34
abbrev s_l_unknowns : Stmt := top 35
abbrev s_l_view_question : Stmt := top 36
abbrev s_l_views : Stmt := top 37
abbrev s_l_over : Stmt := top 38
abbrev s_l_unfolded_right : Stmt := top 39
abbrev s_l_laid : Stmt := top 40
abbrev s_l_is_unknown : Stmt := top 41
abbrev s_l_refused : Stmt := top 42
abbrev s_l_bent_over : Stmt := top 43
abbrev s_l_place : Stmt := top 44
abbrev s_l_called_so : Stmt := top 45
abbrev s_l_again : Stmt := top 46
abbrev s_law : Stmt := top 47
def Scr (K : PySem.W.Frag) (H : Hp) (a : Addr) (xs : List V) : Prop :=
 (∃ o, H a = some (.frz o (.lst xs))) ∨ ∃ (o : Obj) (its : Array Value) (n : Nat), K.lookup a = some o ∧ o.cls = .type "list" ∧ o.dict = none ∧ o.data = .seq its n ∧ its.size ≤ sizeLine ∧ Vals xs its.toList
theorem Scr.sq {K : PySem.W.Frag} {H : Hp} {a : Addr} {xs : List V} (h : Scr K H a xs) : SqL K H a xs := by
 rcases h with ⟨o, h⟩ | h
 ·exact .inl (.inr ⟨o, h⟩)
 ·exact .inr h
def Feed (_K : PySem.W.Frag) (f : Addr) (H : Hp) : Prop := ∃ x p q : Int, H f = some (.lst [.int x, .int p, .int q])
def Ext (f : Addr) (H H' : Hp) : Prop := ∀ b o, b ≠ f → H b = some o → H' b = some o
theorem Ext.refl (f : Addr) (H : Hp) : Ext f H H := fun _ _ _ h => h
theorem Ext.trans {f : Addr} {H H1 H2 : Hp} (a : Ext f H H1) (b : Ext f H1 H2) : Ext f H H2 := fun c o n h => b c o n (a c o n h)
theorem Ext.new {f : Addr} {H H1 : Hp} {p : Addr} (a : Ext f H H1) (h : H1 p = none) (o : HO) : Ext f H (upd H1 p o) := fun b u n q => by
 rw [upd_ne (ne_of_none (a b u n q) h)]
 exact a b u n q
theorem Ext.own {f : Addr} {H H1 : Hp} {p : Addr} (a : Ext f H H1) (h : H p = none) (o : HO) : Ext f H (upd H1 p o) := fun b u n q => by
 rw [upd_ne (ne_of_none q h)]
 exact a b u n q
theorem Ext.feed {f : Addr} {H H1 : Hp} (a : Ext f H H1) (o : HO) : Ext f H (upd H1 f o) := fun b u n q => by
 rw [upd_ne n]
 exact a b u n q
theorem Ext.none {f : Addr} {H H1 : Hp} (a : Ext f H H1) {p : Addr} (n : p ≠ f) (h : H1 p = Option.none) : H p = Option.none := by
 cases q : H p with
 | none => rfl
 | some o =>
  rw [a p o n q] at h
  cases h
theorem Feed.new {K : PySem.W.Frag} {f : Addr} {H : Hp} {p : Addr} (h : Feed K f H) (hp : H p = none) (o : HO) : Feed K f (upd H p o) := by
 obtain ⟨x, y, z, hf⟩ := h
 exact ⟨x, y, z, by rw [upd_ne (ne_of_none hf hp)]; exact hf⟩
theorem Feed.lst {K : PySem.W.Frag} {f : Addr} {H : Hp} {p : Addr} {xs : List V} (h : Feed K f H) (hp : H p = some (.lst xs)) (n : p ≠ f) (o : HO) : Feed K f (upd H p o) := by
 obtain ⟨x, y, z, hf⟩ := h
 exact ⟨x, y, z, by rw [upd_ne n.symm]; exact hf⟩
theorem Feed.nef {K : PySem.W.Frag} {f : Addr} {H : Hp} {p : Addr} (h : Feed K f H) (hp : H p = none) : p ≠ f := by
 obtain ⟨x, y, z, hf⟩ := h
 exact (ne_of_none hf hp).symm
theorem Feed.same {K : PySem.W.Frag} {f : Addr} {H H' : Hp} (h : Feed K f H) (sm : Same H H') : Feed K f H' := by
 obtain ⟨x, y, z, hf⟩ := h
 exact ⟨x, y, z, sm _ _ hf⟩
def spDraw (K : PySem.W.Frag) : Sp := fun vs H Q _ => ∃ (f : Addr) (many : Int), vs = [.ref f, .int many] ∧ Feed K f H ∧ 0 < many ∧ many < 1073741824 ∧ ∀ (i : Int) (H' : Hp), 0 ≤ i → i < many → Feed K f H' → Ext f H H' → Q (.int i) H'
def spFeed (K : PySem.W.Frag) : Sp := fun vs H Q _ => ∃ (a : Addr) (ns : List Int) (k : Int), vs = [.ref a, .int k] ∧ Scr K H a (ns.map V.int) ∧ ns.length ≤ 63 ∧ 0 ≤ k ∧ ∀ (r : Addr) (H' : Hp), Feed K r H' → Same H H' → H r = none → Q (.ref r) H'
def wordsPool : List Str := ["a", "ab", "r", "rs", "abc", "12", "1", "x", "s", "x1", "0", "abcdefgh"]
def spWords (K : PySem.W.Frag) : Sp := fun vs H Q _ => ∃ (f : Addr) (many : Int), vs = [.ref f, .int many] ∧ Feed K f H ∧ 0 ≤ many ∧ many ≤ 12 ∧
 ∀ (r : Addr) (ws : List Str) (H' : Hp), Feed K f H' → Ext f H H' → r ≠ f → H r = none → H' r = some (.lst (ws.map V.str)) → (ws.length : Int) = many → ws.Nodup → (∀ z ∈ ws, z ∈ wordsPool) → Q (.ref r) H'
section
variable {P : Program} {w : World} {K : PySem.W.Frag} {mg : Str → Option Value} {base : Heap}
structure Txt (K : PySem.W.Frag) (mg : Str → Option Value) : Prop where
 n_len : mg "len" = none
 n_range : mg "range" = none
 n_tuple : mg "tuple" = none
 n_list : mg "list" = none
 n_isinstance : mg "isinstance" = none
 n_all : mg "all" = none
 n_str : mg "str" = none
 n_bool : mg "bool" = none
 n_int : mg "int" = none
 n_dict : mg "dict" = none
 n_enumerate : mg "enumerate" = none
 n_zip : mg "zip" = none
 n_sum : mg "sum" = none
 n_ValueError : mg "ValueError" = none
 g_SIGNS : ∃ t, mg "SIGNS" = some (.str "abcdefghijklmnopqrstuvwxyz0123456789" t)
 g_MOST_SIGNS : ∃ t, mg "MOST_SIGNS" = some (.int 8 t)
theorem sc_l_feed : FnScope ["_law_script", "_law_k"] ["_law_script", "_law_k"] (defScope s_l_feed) := ⟨rfl, rfl, rfl, by decide +kernel, rfl, by decide +kernel, by decide +kernel⟩
theorem ok_feed {f : Addr} {fd : FuncData} (F : Fun K "_law_feed" "_law_feed" s_l_feed f fd) (T : Txt K mg) : FnOk P w K mg base CX0 1 f fd ["_law_script", "_law_k"] (spFeed K) := by
 refine F.ok sc_l_feed (fun vs H Q E h => ?_) (fun cdv A outer s H vs Q E hr h => ?_)
 ·obtain ⟨a, ns, k, rfl, _⟩ := h
  rfl
 obtain ⟨a, ns, kk, rfl, hS, hn, hk, k⟩ := h
 refine ⟨_, (pss_cons (ps_if (pt_cmpR op_eq (pe_callB call_len rfl T.n_len PySem.boot_len (pa_cons (pv 0) pa_nil)) pe_int (nomark _)) (pss_one (ps_ret (pe_lst (pa_cons pe_int (pa_cons pe_int (pa_cons (pv 1) pa_nil)))))) pss_nil)
   (pss_one (ps_ret (pe_lst (pa_cons (pe_ix ix_list (pv 0) (pe_op op_mod (pv 1) (pe_callB call_len rfl T.n_len PySem.boot_len (pa_cons (pv 0) pa_nil))) (fun _ _ => rfl)) (pa_cons pe_int (pa_cons (pv 1) pa_nil))))))), ?_⟩
 have nl : (ns.map V.int).length = ns.length := List.length_map _
 refine ⟨_, rfl, _, _, rfl, .inl ⟨_, hS.sq, rfl⟩, rfl, _, rfl, ?_⟩
 refine ite2 (fun c => ?_) (fun c => ?_)
 ·refine ⟨_, rfl, (by show 3 ≤ sizeLine; decide), fun p hp => ?_⟩
  exact k p _ ⟨_, _, _, upd_same⟩ (fun b u q => by rw [upd_ne (ne_of_none q hp)]; exact q) hp
 ·have c1 : ((ns.map V.int).length : Int) ≠ 0 := fun e => c (decide_eq_true (congrArg V.int e))
  have c3 : (0 : Int) < ((ns.map V.int).length : Int) := by omega
  have c4 := Int.emod_nonneg kk (show ((ns.map V.int).length : Int) ≠ 0 by omega)
  have c5 := Int.emod_lt_of_pos kk c3
  obtain ⟨v, hv⟩ : ∃ v, ns[(kk % ((ns.map V.int).length : Int)).toNat]? = some v := ⟨_, List.getElem?_eq_getElem (by rw [← nl]; omega)⟩
  have ev : atI (ns.map V.int) (kk % ((ns.map V.int).length : Int)) = some (.int v) := by
   have e0 : kk % ((ns.map V.int).length : Int) = (((kk % ((ns.map V.int).length : Int)).toNat : Nat) : Int) := by omega
   rw [e0]
   exact atI_nat (by rw [List.getElem?_map, hv]; rfl)
  refine ⟨_, rfl, _, rfl, _, rfl, _, _, rfl, .inl ⟨_, hS.sq, rfl⟩, _, _, rfl, rfl, c3, _, _, _, _, rfl, rfl, hS.sq, ev, _, rfl, (by show 3 ≤ sizeLine; decide), fun p hp => ?_⟩
  exact k p _ ⟨_, _, _, upd_same⟩ (fun b u q => by rw [upd_ne (ne_of_none q hp)]; exact q) hp
theorem sc_l_draw : FnScope ["_law_feed_here", "_law_many", "_law_digit", "_law_seed"] ["_law_feed_here", "_law_many"] (defScope s_l_draw) := ⟨rfl, rfl, rfl, by decide +kernel, rfl, by decide +kernel, by decide +kernel⟩
theorem ok_draw {f : Addr} {fd : FuncData} (F : Fun K "_law_draw" "_law_draw" s_l_draw f fd) (T : Txt K mg) : FnOk P w K mg base CX0 1 f fd ["_law_feed_here", "_law_many"] (spDraw K) := by
 refine F.ok sc_l_draw (fun vs H Q E h => ?_) (fun cdv A outer s H vs Q E hr h => ?_)
 ·obtain ⟨a, ns, rfl, _⟩ := h
  rfl
 obtain ⟨fe, many, rfl, ⟨x, p, q, hf⟩, hm, hm2, k⟩ := h
 have lo : ∀ (x m : Int), 0 < m → m < 2 ^ 32 → -(2 ^ 64) < x % m ∧ x % m < 2 ^ 64 := fun x m h1 h2 => by
  have h3 := Int.emod_nonneg x (show m ≠ 0 by omega)
  have h4 := Int.emod_lt_of_pos x h1
  omega
 refine ⟨_, (pss_cons (ps_asg (pe_op op_add (pe_ix ix_list (pv 0) pe_int (fun _ _ => rfl)) pe_int) (pg_sub (pv 0) pe_int set_list))
   (pss_cons (ps_if (pt_cmpR op_ge (pe_ix ix_list (pv 0) pe_int (fun _ _ => rfl)) (pe_op op_pow pe_int pe_int) (nomark _)) (pss_cons (ps_set (i := 2) sc_l_draw.nd rfl (Or.inl rfl) (pe_op op_mod (pe_ix ix_list (pv 0) pe_int (fun _ _ => rfl)) (pv 1)))
   (pss_cons (ps_asg (pe_op op_fdivL (pe_ix ix_list (pv 0) pe_int (fun _ _ => rfl)) (pv 1)) (pg_sub (pv 0) pe_int set_list))
   (pss_one (ps_ret (pv 2))))) pss_nil)
   (pss_cons (ps_set (i := 3) sc_l_draw.nd rfl (Or.inl rfl) (pe_op op_add (pe_op op_add (pe_op op_add (pe_op op_mod (pe_ix ix_list (pv 0) pe_int (fun _ _ => rfl)) pe_int) (pe_op op_mul pe_int (pe_ix ix_list (pv 0) pe_int (fun _ _ => rfl)))) (pe_op op_mul pe_int (pe_ix ix_list (pv 0) pe_int (fun _ _ => rfl)))) pe_int))
   (pss_cons (ps_set (i := 3) sc_l_draw.nd rfl (Or.inl rfl) (pe_op op_mod (pe_op op_mul (pv 3) pe_int) pe_int))
   (pss_one (ps_ret (pe_op op_mod (pe_op op_mod (pe_op op_mul (pe_op op_mod (pe_op op_add (pe_op op_mul (pv 3) pe_int) (pe_ix ix_list (pv 0) pe_int (fun _ _ => rfl))) pe_int) pe_int) pe_int) (pv 1)))))))), ?_⟩
 -- feed[1] = feed[1] + 1
 refine ⟨_, rfl, fe, _, _, _, rfl, rfl, SqL.of hf, rfl, _, _, rfl, rfl, _, rfl, fe, _, _, _, rfl, rfl, hf, rfl, ?_⟩
 have hf1 : upd H fe (.lst [.int x, .int (p + 1), .int q]) fe = some (.lst [.int x, .int (p + 1), .int q]) := upd_same
 have ex1 : Ext fe H (upd H fe (.lst [.int x, .int (p + 1), .int q])) := (Ext.refl fe H).feed _
 -- if feed[0] >= 10 ** 18
 refine ⟨_, rfl, fe, _, _, _, rfl, rfl, SqL.of hf1, rfl, _, _, rfl, rfl, ⟨by decide, by decide, by decide⟩, _, _, rfl, rfl, _, rfl, ?_⟩
 refine ite2 (fun c => ?_) (fun c => ?_)
 ·refine ⟨_, rfl, fe, _, _, _, rfl, rfl, SqL.of hf1, rfl, _, rfl, _, _, rfl, rfl, hm, ?_⟩
  have l2 : many.natAbs.log2 < 9000 := by
   by_cases hz : many.natAbs = 0
   ·rw [hz]
    decide
   ·rw [Nat.log2_lt hz]
    exact Nat.lt_trans (show many.natAbs < 2 ^ 30 by omega) (Nat.pow_lt_pow_right (by decide) (by decide))
  refine ⟨_, rfl, fe, _, _, _, rfl, rfl, SqL.of hf1, rfl, _, rfl, _, _, rfl, rfl, ⟨hm, l2⟩, _, rfl, fe, _, _, _, rfl, rfl, hf1, rfl, ?_⟩
  refine ⟨_, rfl, ?_⟩
  exact k _ _ (Int.emod_nonneg _ (by omega)) (Int.emod_lt_of_pos _ hm) ⟨_, _, _, upd_same⟩ (ex1.feed _)
 ·refine ⟨_, rfl, fe, _, _, _, rfl, rfl, SqL.of hf1, rfl, _, _, rfl, rfl, (by show (0 : Int) < 2147483647; decide), ?_⟩
  refine ⟨_, rfl, fe, _, _, _, rfl, rfl, SqL.of hf1, rfl, _, _, rfl, rfl, .inl ⟨by decide, by decide⟩, _, _, rfl, rfl, ?_⟩
  refine ⟨_, rfl, fe, _, _, _, rfl, rfl, SqL.of hf1, rfl, _, _, rfl, rfl, .inl ⟨by decide, by decide⟩, _, _, rfl, rfl, _, _, rfl, rfl, ?_⟩
  refine ⟨_, rfl, _, _, rfl, rfl, .inr ⟨by decide, by decide⟩, _, _, rfl, rfl, (by show (0 : Int) < 2147483647; decide), ?_⟩
  refine ⟨_, rfl, _, _, rfl, rfl, .inr ⟨by decide, by decide⟩, _, rfl, fe, _, _, _, rfl, rfl, SqL.of hf1, rfl, _, _, rfl, rfl, _, _, rfl, rfl, (by show (0 : Int) < 2147483399; decide), _, _, rfl, rfl, .inr ⟨by decide, by decide⟩, _, _, rfl, rfl, (by show (0 : Int) < 2147483563; decide), _, rfl, _, _, rfl, rfl, hm, ?_⟩
  exact k _ _ (Int.emod_nonneg _ (by omega)) (Int.emod_lt_of_pos _ hm) ⟨_, _, _, hf1⟩ ex1
structure Dr (P : Program) (w : World) (K : PySem.W.Frag) (mg : Str → Option Value) (base : Heap) : Prop where
 l_draw : DefOk P w K mg base 1 "_law_draw" ["_law_feed_here", "_law_many"] (spDraw K)
def wordAt (i s j : Nat) : Str := wordsPool.getD ((i + s * j) % 12) ""
theorem words_nd : ((List.range 12).all fun i => ([1, 5, 7, 11] : List Nat).all fun s => decide (((List.range 12).map fun j => wordAt i s j).Nodup)) = true := by decide +kernel
theorem words_in : ((List.range 12).all fun i => decide (wordsPool.getD i "" ∈ wordsPool)) = true := by decide +kernel
theorem words_nodup {i s m : Nat} (hi : i < 12) (hs : s ∈ ([1, 5, 7, 11] : List Nat)) (hm : m ≤ 12) : ((List.range m).map fun j => wordAt i s j).Nodup := by
 have h1 := of_decide_eq_true (List.all_eq_true.mp (List.all_eq_true.mp words_nd i (List.mem_range.mpr hi)) s hs)
 have h2 : ((List.range m).map fun j => wordAt i s j) = (((List.range 12).map fun j => wordAt i s j)).take m := by
  rw [← List.map_take, List.take_range, Nat.min_eq_left hm]
 rw [h2]
 exact h1.sublist (List.take_sublist _ _)
theorem word_in (i s j : Nat) : wordAt i s j ∈ wordsPool := of_decide_eq_true (List.all_eq_true.mp words_in ((i + s * j) % 12) (List.mem_range.mpr (Nat.mod_lt _ (by decide))))
theorem step4 {i : Int} (h0 : 0 ≤ i) (h1 : i < 4) : ∃ s : Nat, s ∈ ([1, 5, 7, 11] : List Nat) ∧ atI [V.int 1, V.int 5, V.int 7, V.int 11] i = some (.int (s : Int)) := by
 have c : i = 0 ∨ i = 1 ∨ i = 2 ∨ i = 3 := by omega
 rcases c with rfl | rfl | rfl | rfl
 ·exact ⟨1, by decide, rfl⟩
 ·exact ⟨5, by decide, rfl⟩
 ·exact ⟨7, by decide, rfl⟩
 ·exact ⟨11, by decide, rfl⟩
theorem sc_l_words : FnScope ["_law_feed_here", "_law_many", "_law_some", "_law_first", "_law_step"] ["_law_feed_here", "_law_many"] (defScope s_l_words) := ⟨rfl, rfl, rfl, by decide +kernel, rfl, by decide +kernel, by decide +kernel⟩
theorem ok_words {f : Addr} {fd : FuncData} (F : Fun K "_law_words" "_law_words" s_l_words f fd) (T : Txt K mg) (D : Dr P w K mg base) : FnOk P w K mg base CX0 2 f fd ["_law_feed_here", "_law_many"] (spWords K) := by
 refine F.ok sc_l_words (fun vs H Q E h => ?_) (fun cdv A outer s H vs Q E hr h => ?_)
 ·obtain ⟨a, b, rfl, _⟩ := h
  rfl
 obtain ⟨fe, many, rfl, hF, hm0, hm1, k⟩ := h
 refine ⟨_, (pss_cons (ps_set (i := 2) sc_l_words.nd rfl (Or.inr rfl) (pe_lst (pa_cons pe_str (pa_cons pe_str (pa_cons pe_str (pa_cons pe_str (pa_cons pe_str (pa_cons pe_str (pa_cons pe_str (pa_cons pe_str (pa_cons pe_str (pa_cons pe_str (pa_cons pe_str (pa_cons pe_str pa_nil))))))))))))))
   (pss_cons (ps_set (i := 3) sc_l_words.nd rfl (Or.inr rfl) (cl D.l_draw hr (pa_cons (pv 0) (pa_cons pe_int pa_nil))))
   (pss_cons (ps_set (i := 4) sc_l_words.nd rfl (Or.inr rfl) (pe_ix ix_list (pe_lst (pa_cons pe_int (pa_cons pe_int (pa_cons pe_int (pa_cons pe_int pa_nil))))) (cl D.l_draw hr (pa_cons (pv 0) (pa_cons pe_int pa_nil))) (fun _ _ => rfl)))
   (pss_one (ps_ret (pe_comp rfl (compSc_mk (fs := ["_law_some", "_law_first", "_law_step"]) (fr := [2, 3, 4])) (pi_range1 rfl T.n_range (pa_cons (pv 1) pa_nil)) (fun _ _ _ _ => (pe_ix (ix_listK (K := K)) (pv 1) (pe_op op_mod (pe_op op_add (pv 2) (pe_op op_mul (pv 3) (pv 0))) pe_int) (fun _ _ => rfl))))))))), ?_⟩
 refine ⟨(by show 12 ≤ sizeLine; decide), fun p hp => ?_⟩
 have np := hF.nef hp
 have hF1 := hF.new hp (.lst [.str "a", .str "ab", .str "r", .str "rs", .str "abc", .str "12", .str "1", .str "x", .str "s", .str "x1", .str "0", .str "abcdefgh"])
 refine ⟨_, rfl, fe, 12, rfl, hF1, by decide, by decide, fun i H1 i0 i1 hF1 ex1 => ?_⟩
 refine ⟨(by show 4 ≤ sizeLine; decide), fun p2 hp2 => ?_⟩
 have np2 := hF1.nef hp2
 refine ⟨_, rfl, fe, 4, rfl, hF1.new hp2 _, by decide, by decide, fun j H2 j0 j1 hF2 ex2 => ?_⟩
 obtain ⟨st, hst, ev⟩ := step4 j0 j1
 refine ⟨_, _, _, _, rfl, rfl, SqL.of (ex2 _ _ np2 upd_same), ev, ?_⟩
 have hp1 : H1 p = some (.lst (wordsPool.map V.str)) := ex1 _ _ np upd_same
 have npp : p ≠ p2 := ne_of_none hp1 hp2
 have hpp : H2 p = some (.lst (wordsPool.map V.str)) := ex2 _ _ np (by rw [upd_ne npp]; exact hp1)
 have ex : Ext fe H H2 := (((Ext.refl fe H).new hp _).trans ex1).trans (((Ext.refl fe H1).new hp2 _).trans ex2)
 -- the words
 refine ⟨_, rfl, many, rfl, by omega, by omega, fun n m ys H3 => H3 = H2 ∧ n ≤ many.toNat ∧ m = many.toNat - n ∧ ys = ((List.range n).map fun j => wordAt i.toNat st j).map V.str, ⟨_, rfl, Nat.zero_le _, rfl, rfl⟩, ?_⟩
 rintro n m ys H3 ⟨rfl, hn, rfl, rfl⟩
 have ly : (((List.range n).map fun j => wordAt i.toNat st j).map V.str).length = n := by rw [List.length_map, List.length_map, List.length_range]
 by_cases hlt : n < many.toNat
 ·refine .inr ⟨hlt, by rw [ly]; exact small1000 (by omega), ?_⟩
  rintro v H4 ⟨rfl, rfl⟩
  refine rd_true ?_
  have hix : atI (wordsPool.map V.str) ((i + (st : Int) * (0 + (n : Int))) % 12) = some (.str (wordAt i.toNat st n)) := by
   have e0 : (i + (st : Int) * (0 + (n : Int))) % 12 = (((i.toNat + st * n) % 12 : Nat) : Int) := by
    have e1 : i = (i.toNat : Int) := by omega
    rw [Int.zero_add, e1]
    simp
   rw [e0]
   refine atI_nat ?_
   have hlt12 : (i.toNat + st * n) % 12 < wordsPool.length := Nat.mod_lt _ (by decide)
   rw [List.getElem?_map, List.getElem?_eq_getElem hlt12]
   unfold wordAt
   rw [List.getD_eq_getElem?_getD, List.getElem?_eq_getElem hlt12]
   rfl
  have hst12 : -(2 ^ 64) < (st : Int) ∧ (st : Int) < 2 ^ 64 := by
   simp at hst
   omega
  refine ⟨_, rfl, _, rfl, _, rfl, _, rfl, _, _, rfl, rfl, .inl hst12, _, _, rfl, rfl, _, _, rfl, rfl, (by show (0 : Int) < 12; decide), _, _, _, _, rfl, rfl, SqL.of hpp, hix, ?_⟩
  refine ⟨many.toNat - (n + 1), by omega, rfl, hlt, rfl, ?_⟩
  rw [List.range_succ, List.map_append, List.map_append]
  rfl
 ·have en : n = many.toNat := by omega
  refine .inl ⟨by show many.toNat ≤ n; omega, by rw [ly]; exact Nat.le_of_lt (small1000 (by omega)), fun l hl => ?_⟩
  have nl := hF2.nef hl
  refine k l _ _ (hF2.new hl _) (ex.new hl _) nl (ex.none nl hl) upd_same ?_ (words_nodup (by omega) hst (by omega)) fun z hz => ?_
  ·rw [List.length_map, List.length_range]
   omega
  ·obtain ⟨j, _, rfl⟩ := List.mem_map.mp hz
   exact word_in _ _ _
end
theorem pe_ty {X : Cx} {x : Str} {n : String} {pos : Pos} (hg : Gl X x) (hm : X.mg x = none) (hv : bootBuiltins x = some (.type n)) (hn : x ≠ "__name__" := by decide) (hd : (x == ("__debug__" : Str)) = false := by decide) : PE X (.Name x pos) (tC (.ty n)) := pe_bltn hg hm hv rfl hn hd
def SIGNS : Str := "abcdefghijklmnopqrstuvwxyz0123456789"
def sgn (c : Nat) : Bool := !(Builtin.Str.occurrences SIGNS ⟨#[c]⟩ 0 SIGNS.length 1).isEmpty
def isVal (s : Str) : Bool := decide ((1 : Int) ≤ (s.length : Int)) && (decide ((s.length : Int) ≤ 8) && (s.cps.toList.map sgn).all id)
def isUnk (s : Str) : Bool := Txt.startswith s "?" && isVal (Txt.slice s (some 1) none)
section
variable {P : Program} {w : World} {K : PySem.W.Frag} {mg : Str → Option Value} {base : Heap}
def spVal : Sp := fun vs H Q _ => ∃ z : Str, vs = [.str z] ∧ z.length ≤ 1000 ∧ ∀ H', Same H H' → Q (.bl (isVal z)) H'
def spUnk : Sp := fun vs H Q _ => ∃ z : Str, vs = [.str z] ∧ z.length ≤ 1000 ∧ ∀ H', Same H H' → Q (.bl (isUnk z)) H'
theorem same_new {H : Hp} {p : Addr} (h : H p = none) (o : HO) : Same H (upd H p o) := fun b u q => by rw [upd_ne (ne_of_none q h)]; exact q
theorem kit_same (t : Value) : PySem.W.kitOne K t t = some true := by
 unfold PySem.W.kitOne
 rw [if_pos (beq_self_eq_true t)]
theorem sc_is_value : FnScope ["thing"] ["thing"] (defScope s_is_value) := ⟨rfl, rfl, rfl, by decide +kernel, rfl, by decide +kernel, by decide +kernel⟩
theorem ok_is_value {f : Addr} {fd : FuncData} (F : Fun K "is_value" "is_value" s_is_value f fd) (T : Txt K mg) : FnOk P w K mg base CX0 1 f fd ["thing"] spVal := by
 refine F.ok sc_is_value (fun vs H Q E h => ?_) (fun cdv A outer s H vs Q E hr h => ?_)
 ·obtain ⟨a, rfl, _⟩ := h
  rfl
 obtain ⟨z, rfl, hz, k⟩ := h
 refine ⟨_, (pss_cons (ps_if (pt_not (pt_val (pe_callB call_isinst rfl T.n_isinstance (by decide +kernel) (pa_cons (pv 0) (pa_cons (pe_ty (n := "str") rfl T.n_str (by decide +kernel)) pa_nil))))) (pss_one (ps_ret pe_bl)) pss_nil)
   (pss_one (ps_ret (pe_and (pe_chain op_le op_le pe_int (pe_callB call_len rfl T.n_len PySem.boot_len (pa_cons (pv 0) pa_nil)) (pe_globI rfl T.g_MOST_SIGNS)) (pe_one (pe_callB (call_all_bools rfl) rfl T.n_all boot_all (pa_cons (pe_comp rfl (compSc_mk (fs := []) (fr := [])) (pi_str (pv 0)) (fun _ _ _ _ => (pe_cmpR op_in_str (pv 0) (pe_globS rfl T.g_SIGNS) (by with_unfolding_all rfl)))) pa_nil))))))), ?_⟩
 have hz' : z.length ≤ sizeLine := Nat.le_of_lt (small1000 hz)
 refine ⟨_, rfl, _, _, _, true, rfl, TyOf.str z, kit_same _, _, rfl, ?_⟩
 refine iteF ?_
 refine ⟨_, rfl, _, _, rfl, ⟨hz', rfl⟩, _, _, rfl, rfl, _, rfl, ?_⟩
 refine ite2 (fun c1 => ?_) (fun c1 => ?_)
 ·refine ⟨_, _, rfl, rfl, _, rfl, ?_⟩
  refine ite2 (fun c2 => ?_) (fun c2 => ?_)
  ·refine ⟨_, rfl, _, rfl, fun i m ys H2 => H2 = H ∧ i ≤ z.cps.size ∧ m = z.cps.size - i ∧ ys = ((z.cps.toList.take i).map sgn).map V.bl, ⟨_, rfl, Nat.zero_le _, rfl, rfl⟩, ?_⟩
   rintro i m ys H2 ⟨rfl, hi, rfl, rfl⟩
   have hl : ∀ j, (((z.cps.toList.take j).map sgn).map V.bl).length ≤ 1000 := fun j => by
    rw [List.length_map, List.length_map, List.length_take]
    have : z.cps.toList.length = z.length := by simp [Str.length]
    omega
   by_cases hlt : i < z.cps.size
   ·refine .inr ⟨hlt, small1000 (hl i), ?_⟩
    rintro v H3 ⟨rfl, c, hc, rfl⟩
    refine rd_true ?_
    refine ⟨_, rfl, _, _, rfl, rfl, _, ?_, rfl, hlt, rfl, ?_⟩
    ·exact Nat.sub_lt_sub_left hlt (Nat.lt_succ_self i)
    ·have hc' : z.cps.toList[i]? = some c := by simpa using hc
     rw [List.take_add_one, hc', List.map_append, List.map_append]
     rfl
   ·have e : i = z.cps.size := by omega
    refine .inl ⟨e, Nat.le_of_lt (small1000 (hl i)), fun l hl' => ?_⟩
    refine ⟨_, (z.cps.toList.take i).map sgn, rfl, SqL.of upd_same, ?_⟩
    have et : z.cps.toList.take i = z.cps.toList := List.take_of_length_le (by rw [e]; simp)
    have ev : isVal z = ((z.cps.toList.take i).map sgn).all id := by
     unfold isVal
     rw [c1, c2, et, Bool.true_and, Bool.true_and]
    rw [← ev]
    exact k _ (same_new hl' _)
  ·have ev : isVal z = false := by
    unfold isVal
    rw [Bool.eq_false_iff.mpr c2, Bool.false_and, Bool.and_false]
   have q := k H (Same.refl H)
   rw [ev] at q
   exact q
 ·have ev : isVal z = false := by
   unfold isVal
   rw [Bool.eq_false_iff.mpr c1, Bool.false_and]
  have q := k H (Same.refl H)
  rw [ev] at q
  refine ⟨_, rfl, ?_⟩
  exact iteF q
structure Dv (P : Program) (w : World) (K : PySem.W.Frag) (mg : Str → Option Value) (base : Heap) : Prop where
 is_value : DefOk P w K mg base 1 "is_value" ["thing"] spVal
theorem sc_is_unknown : FnScope ["thing"] ["thing"] (defScope s_is_unknown) := ⟨rfl, rfl, rfl, by decide +kernel, rfl, by decide +kernel, by decide +kernel⟩
theorem slice_le (z : Str) : (Txt.slice z (some 1) none).length ≤ z.length := Txt.slice_le z _ _
theorem ok_is_unknown {f : Addr} {fd : FuncData} (F : Fun K "is_unknown" "is_unknown" s_is_unknown f fd) (T : Txt K mg) (D : Dv P w K mg base) : FnOk P w K mg base CX0 2 f fd ["thing"] spUnk := by
 refine F.ok sc_is_unknown (fun vs H Q E h => ?_) (fun cdv A outer s H vs Q E hr h => ?_)
 ·obtain ⟨a, rfl, _⟩ := h
  rfl
 obtain ⟨z, rfl, hz, k⟩ := h
 refine ⟨_, (pss_one (ps_ret (pe_and (pe_callB call_isinst rfl T.n_isinstance (by decide +kernel) (pa_cons (pv 0) (pa_cons (pe_ty (n := "str") rfl T.n_str (by decide +kernel)) pa_nil))) (pe_and (pe_bm PySem.F.plainAttrs_str PySem.F.slot_str_startswith PySem.F.type_str_startswith mt_startswith (pv 0) (pa_cons pe_str pa_nil)) (pe_one (cl D.is_value hr (pa_cons (pe_slice sl_str (pv 0) (po_some pe_int) po_none) pa_nil))))))), ?_⟩
 have hz' : z.length ≤ sizeLine := Nat.le_of_lt (small1000 hz)
 refine ⟨_, rfl, _, _, _, true, rfl, TyOf.str z, kit_same _, _, rfl, ?_⟩
 refine iteT ?_
 refine ⟨_, rfl, rfl, _, _, rfl, rfl, _, rfl, ?_⟩
 refine ite2 (fun c1 => ?_) (fun c1 => ?_)
 ·refine ⟨_, rfl, _, rfl, _, rfl, hz', _, rfl, Nat.le_trans (slice_le z) hz, fun H' sm => ?_⟩
  have ev : isUnk z = isVal (Txt.slice z (some 1) none) := by
   unfold isUnk
   rw [c1, Bool.true_and]
  rw [← ev]
  exact k H' sm
 ·have ev : isUnk z = false := by
   unfold isUnk
   rw [Bool.eq_false_iff.mpr c1, Bool.false_and]
  have q := k H (Same.refl H)
  rw [ev] at q
  exact q
end
def step (acc : List Str) (t : Str) : List Str := if isUnk t = true then (if t ∈ acc then acc else acc ++ [t]) else acc
def unkL (fl : List Str) : List Str := fl.foldl step []
theorem len_step (acc : List Str) (t : Str) : (step acc t).length ≤ acc.length + 1 := by
 unfold step
 split
 ·split
  ·omega
  ·rw [List.length_append]; exact Nat.le_refl _
 ·omega
theorem len_fold : ∀ (fl acc : List Str), (fl.foldl step acc).length ≤ acc.length + fl.length
 | [], acc => by simp
 | t :: r, acc => by
  have h1 := len_fold r (step acc t)
  have h2 := len_step acc t
  rw [List.foldl_cons, List.length_cons]
  omega
theorem len_unk (fl : List Str) : (unkL fl).length ≤ fl.length := by
 have := len_fold fl []
 simpa [unkL] using this
theorem unk_snoc (fl : List Str) (t : Str) : unkL (fl ++ [t]) = step (unkL fl) t := by
 unfold unkL
 rw [List.foldl_append]
 rfl
def keysD (acc : List Str) : List (Key × V) := acc.map fun t => (Sum.inr t, V.bl true)
theorem any_keys (acc : List Str) (t : Str) : ((keysD acc).any fun kv => decide (kv.1 = (Sum.inr t : Key))) = decide (t ∈ acc) := by
 unfold keysD
 rw [List.any_map, Bool.eq_iff_iff, List.any_eq_true]
 constructor
 ·rintro ⟨x, hx, e⟩
  have e' : (Sum.inr x : Key) = Sum.inr t := of_decide_eq_true e
  injection e' with e'
  exact decide_eq_true (e' ▸ hx)
 ·intro h
  exact ⟨t, of_decide_eq_true h, decide_eq_true rfl⟩
theorem put_keys (acc : List Str) (t : Str) : putK (keysD acc) (Sum.inr t : Key) (V.bl true) = keysD (if t ∈ acc then acc else acc ++ [t]) := by
 unfold putK
 rw [any_keys]
 by_cases h : t ∈ acc
 ·rw [decide_eq_true h, if_pos rfl, if_pos h]
  unfold keysD
  rw [List.map_map]
  refine List.map_congr_left fun x _ => ?_
  show (if (Sum.inr x : Key) = Sum.inr t then ((Sum.inr x : Key), V.bl true) else (Sum.inr x, V.bl true)) = _
  split <;> rfl
 ·rw [decide_eq_false h, if_neg Bool.false_ne_true, if_neg h]
  unfold keysD
  rw [List.map_append]
  rfl
theorem keys_back (acc : List Str) : ((keysD acc).map fun kv => kV kv.1) = acc.map V.str := by
 unfold keysD
 rw [List.map_map]
 rfl
def Tups (H H' : Hp) : Prop := ∀ b xs, H b = some (.tup xs) → H' b = some (.tup xs)
theorem Tups.trans {H H1 H2 : Hp} (a : Tups H H1) (b : Tups H1 H2) : Tups H H2 := fun c xs h => b c xs (a c xs h)
theorem Tups.of {H H' : Hp} (a : Same H H') : Tups H H' := fun c xs h => a c _ h
theorem Tups.refl (H : Hp) : Tups H H := fun _ _ h => h
theorem Tups.new {H H1 : Hp} {p : Addr} (a : Tups H H1) (h : H1 p = none) (o : HO) : Tups H (upd H1 p o) := fun b xs q => by
 rw [upd_ne (ne_of_none (a b xs q) h)]
 exact a b xs q
theorem Tups.lst {H H1 : Hp} {p : Addr} {ys : List V} (a : Tups H H1) (h : H1 p = some (.lst ys)) (o : HO) : Tups H (upd H1 p o) := fun b xs q => by
 rw [upd_ne (ne_of (a b xs q) h fun z => by cases z)]
 exact a b xs q
theorem Tups.ext {f : Addr} {H H1 : Hp} {ys : List V} (hf : H f = some (.lst ys)) (a : Ext f H H1) : Tups H H1 := fun b xs q => a b _ (ne_of q hf fun z => by cases z) q
theorem Feed.tups {K : PySem.W.Frag} {f : Addr} {H H1 : Hp} (h : Feed K f H) (a : Ext f H H1) : Tups H H1 := by
 obtain ⟨_, _, _, hf⟩ := h
 exact Tups.ext hf a
def AtomAt (H : Hp) (v : V) (a : Str × List Str) : Prop := ∃ (p t : Addr), v = .ref p ∧ H p = some (.tup [.str a.1, .ref t]) ∧ H t = some (.tup (a.2.map V.str))
abbrev AtomsAt (H : Hp) : List V → List (Str × List Str) → Prop := Paired (AtomAt H)
theorem AtomAt.keep {H H' : Hp} {v : V} {b : Str × List Str} (a : Tups H H') (h : AtomAt H v b) : AtomAt H' v b := by
 obtain ⟨p, t, e, h1, h2⟩ := h
 exact ⟨p, t, e, a _ _ h1, a _ _ h2⟩
theorem AtomsAt.keep {H H' : Hp} (a : Tups H H') {vs : List V} {ats : List (Str × List Str)} (h : AtomsAt H vs ats) : AtomsAt H' vs ats := Paired.imp' (fun _ _ q => q.keep a) h
def QAt (H : Hp) (v : V) (hz : List Str) (ats : List (Str × List Str)) : Prop := ∃ (q h a : Addr) (vs : List V), v = .ref q ∧ H q = some (.tup [.ref h, .ref a]) ∧ H h = some (.tup (hz.map V.str)) ∧ H a = some (.tup vs) ∧ AtomsAt H vs ats
theorem QAt.keep {H H' : Hp} {v : V} {hz : List Str} {ats : List (Str × List Str)} (t : Tups H H') (x : QAt H v hz ats) : QAt H' v hz ats := by
 obtain ⟨q, h, a, vs, e, h1, h2, h3, h4⟩ := x
 exact ⟨q, h, a, vs, e, t _ _ h1, t _ _ h2, t _ _ h3, AtomsAt.keep t h4⟩
theorem Paired.snoc' {α β : Type} {F : α → β → Prop} {l₁ : List α} {l₂ : List β} {a : α} {b : β} (h : Paired F l₁ l₂) (q : F a b) : Paired F (l₁ ++ [a]) (l₂ ++ [b]) := h.snoc q
theorem Paired.at {α β : Type} {F : α → β → Prop} : ∀ {l₁ : List α} {l₂ : List β} {i : Nat} {x : α}, Paired F l₁ l₂ → l₁[i]? = some x → ∃ y, l₂[i]? = some y ∧ F x y
 | _, _, _, _, .nil, e => by simp at e
 | _, _, 0, _, .cons r _, e => by simp at e; subst e; exact ⟨_, rfl, r⟩
 | _, _, i + 1, x, .cons _ t, e => by
  obtain ⟨y, h1, h2⟩ := Paired.at (i := i) (x := x) t (by simpa using e)
  exact ⟨y, by simpa using h1, h2⟩
def flatA (ats : List (Str × List Str)) : List Str := (ats.map (·.2)).flatten
theorem flatA_snoc (l : List (Str × List Str)) (a : Str × List Str) : flatA (l ++ [a]) = flatA l ++ a.2 := by
 unfold flatA
 rw [List.map_append, List.flatten_append]
 simp
theorem flatA_take {ats : List (Str × List Str)} {i : Nat} {a : Str × List Str} (h : ats[i]? = some a) : flatA (ats.take (i + 1)) = flatA (ats.take i) ++ a.2 := by
 rw [List.take_add_one, h]
 exact flatA_snoc _ _
theorem pick_str {zs : List Str} {i : Int} (h0 : 0 ≤ i) (h1 : i < (zs.length : Int)) : ∃ z, z ∈ zs ∧ atI (zs.map V.str) i = some (.str z) := by
 obtain ⟨z, hz⟩ : ∃ z, zs[i.toNat]? = some z := ⟨_, List.getElem?_eq_getElem (by omega)⟩
 refine ⟨z, List.mem_of_getElem? hz, ?_⟩
 have e : i = ((i.toNat : Nat) : Int) := by omega
 rw [e]
 exact atI_nat (by rw [List.getElem?_map, hz]; rfl)
theorem len_all : ∀ l : List (Str × List Str), (∀ a ∈ l, a.2.length ≤ 4) → (flatA l).length ≤ 4 * l.length
 | [], _ => Nat.le_refl _
 | a :: r, q => by
  have h1 := len_all r fun ts hts => q ts (List.mem_cons_of_mem _ hts)
  have h2 := q a List.mem_cons_self
  show (a.2 ++ flatA r).length ≤ _
  rw [List.length_append, List.length_cons]
  omega
theorem flatA_mem {ats : List (Str × List Str)} {z : Str} : z ∈ flatA ats ↔ ∃ a ∈ ats, z ∈ a.2 := by
 unfold flatA
 rw [List.mem_flatten]
 constructor
 ·rintro ⟨l, h1, h2⟩
  obtain ⟨a, ha, rfl⟩ := List.mem_map.mp h1
  exact ⟨a, ha, h2⟩
 ·rintro ⟨a, ha, h⟩
  exact ⟨a.2, List.mem_map_of_mem ha, h⟩
def uWord (z : Str) : Str := ("?" : Str) ++ z
def unkPool : List Str := wordsPool.map uWord
def spAtomD (K : PySem.W.Frag) : Sp := fun vs H Q _ => ∃ (f nl ul vl : Addr) (nms us ws : List Str), vs = [.ref f, .ref nl, .ref ul, .ref vl] ∧ Feed K f H ∧ (nl ≠ f ∧ ul ≠ f ∧ vl ≠ f) ∧ (H nl = some (.lst (nms.map V.str)) ∧ 1 ≤ nms.length ∧ nms.length ≤ 100) ∧
 (H ul = some (.lst (us.map V.str)) ∧ 1 ≤ us.length ∧ us.length ≤ 100) ∧ (H vl = some (.lst (ws.map V.str)) ∧ 1 ≤ ws.length ∧ ws.length ≤ 100) ∧
 ∀ (r : Addr) (a : Str × List Str) (H' : Hp), Feed K f H' → Ext f H H' → AtomAt H' (.ref r) a → a.1 ∈ nms → 1 ≤ a.2.length → a.2.length ≤ 4 → (∀ z ∈ a.2, z ∈ us ∨ z ∈ ws) → Q (.ref r) H'
section
variable {P : Program} {w : World} {K : PySem.W.Frag} {mg : Str → Option Value} {base : Heap}
theorem long3 {i : Int} (h0 : 0 ≤ i) : ∃ n : Int, atI [V.int 2, V.int 1, V.int 3] (i % 3) = some (.int n) ∧ 1 ≤ n ∧ n ≤ 4 := by
 have h1 := Int.emod_nonneg i (show (3 : Int) ≠ 0 by decide)
 have h2 := Int.emod_lt_of_pos i (show (0 : Int) < 3 by decide)
 generalize i % 3 = j at h1 h2
 have c : j = 0 ∨ j = 1 ∨ j = 2 := by omega
 rcases c with rfl | rfl | rfl
 ·exact ⟨2, rfl, by decide, by decide⟩
 ·exact ⟨1, rfl, by decide, by decide⟩
 ·exact ⟨3, rfl, by decide, by decide⟩
theorem sc_l_atom : FnScope ["_law_feed_here", "_law_names", "_law_unknowns_here", "_law_values", "_law_at", "_law_long", "_law_terms", "_law_k", "_law_term"] ["_law_feed_here", "_law_names", "_law_unknowns_here", "_law_values"] (defScope s_l_atom) := ⟨rfl, rfl, rfl, by decide +kernel, rfl, by decide +kernel, by decide +kernel⟩
theorem ok_atomD {f : Addr} {fd : FuncData} (F : Fun K "_law_atom" "_law_atom" s_l_atom f fd) (T : Txt K mg) (D : Dr P w K mg base) : FnOk P w K mg base CX0 2 f fd ["_law_feed_here", "_law_names", "_law_unknowns_here", "_law_values"] (spAtomD K) := by
 refine F.ok sc_l_atom (fun vs H Q E h => ?_) (fun cdv A outer s H vs Q E hr h => ?_)
 ·obtain ⟨a, b, c, d, e, g, i, rfl, _⟩ := h
  rfl
 obtain ⟨fe, nl, ul, vl, nms, us, ws, rfl, hF, ⟨nnl, nul, nvl⟩, ⟨hnl, hn1, hn2⟩, ⟨hul, hu1, hu2⟩, ⟨hvl, hv1, hv2⟩, k⟩ := h
 have ln : (nms.map V.str).length = nms.length := List.length_map _
 have lu : (us.map V.str).length = us.length := List.length_map _
 have lv : (ws.map V.str).length = ws.length := List.length_map _
 refine cut 3 (fun σ H2 => ∃ (at' lg : Int) (x6 x7 x8 : Option V), σ = [some (.ref fe), some (.ref nl), some (.ref ul), some (.ref vl), some (.int at'), some (.int lg), none, none, none] ∧ 0 ≤ at' ∧ at' < (nms.length : Int) ∧ 1 ≤ lg ∧ lg ≤ 4 ∧ Feed K fe H2 ∧ Ext fe H H2)
  ⟨_, (pss_cons (ps_set (i := 6) sc_l_atom.nd rfl (Or.inl rfl) (pe_lst pa_nil))
   (pss_cons (ps_for PassesOwn.never rfl (pi_range1 rfl T.n_range (pa_cons (pv 5) pa_nil)) (pg_name (i := 7) sc_l_atom.nd rfl (Or.inl rfl))
   (pss_cons (ps_set (i := 8) sc_l_atom.nd rfl (Or.inl rfl) (pe_ix ix_list (pv 2) (cl D.l_draw hr (pa_cons (pv 0) (pa_cons (pe_callB call_len rfl T.n_len PySem.boot_len (pa_cons (pv 2) pa_nil)) pa_nil))) (fun _ _ => rfl)))
   (pss_cons (ps_if (pt_cmpR op_eq (cl D.l_draw hr (pa_cons (pv 0) (pa_cons pe_int pa_nil))) pe_int (nomark _)) (pss_one (ps_set (i := 8) sc_l_atom.nd rfl (Or.inl rfl) (pe_ix ix_list (pv 3) (cl D.l_draw hr (pa_cons (pv 0) (pa_cons (pe_callB call_len rfl T.n_len PySem.boot_len (pa_cons (pv 3) pa_nil)) pa_nil))) (fun _ _ => rfl)))) pss_nil)
   (pss_one (ps_expr (pe_bm PySem.F.plainAttrs_list PySem.F.slot_list_append PySem.F.type_list_append mt_append (pv 6) (pa_cons (pv 8) pa_nil)))))))
   (pss_one (ps_ret (pe_tup (pa_cons (pe_ix ix_list (pv 1) (pv 4) (fun _ _ => rfl)) (pa_cons (pe_callTy call_tuple_of rfl T.n_tuple (by decide +kernel) (pa_cons (pv 6) pa_nil)) pa_nil))))))), ?_⟩ (fun t2 ht => ⟨_, (pss_cons (ps_set (i := 4) sc_l_atom.nd rfl (Or.inl rfl) (cl D.l_draw hr (pa_cons (pv 0) (pa_cons (pe_callB call_len rfl T.n_len PySem.boot_len (pa_cons (pv 1) pa_nil)) pa_nil))))
   (pss_cons (ps_set (i := 5) sc_l_atom.nd rfl (Or.inl rfl) (pe_ix ix_list (pe_lst (pa_cons pe_int (pa_cons pe_int (pa_cons pe_int pa_nil)))) (pe_op op_mod (pv 4) pe_int) (fun _ _ => rfl)))
   (pss_cons (ps_if (pt_cmpR op_eq (cl D.l_draw hr (pa_cons (pv 0) (pa_cons pe_int pa_nil))) pe_int (nomark _)) (pss_one (ps_set (i := 5) sc_l_atom.nd rfl (Or.inl rfl) (pe_op op_add pe_int (cl D.l_draw hr (pa_cons (pv 0) (pa_cons pe_int pa_nil)))))) pss_nil) ht))), fun tl => ?_⟩)
 ·rintro σ H2 ⟨at', lg, _, _, _, rfl, a0, a1, l0, l1, hF2, ex2⟩
  -- terms = []
  refine ⟨(by show 0 ≤ sizeLine; decide), fun t ht => ?_⟩
  have nt := hF2.nef ht
  have ht0 : H t = none := ex2.none nt ht
  refine ⟨_, rfl, lg, rfl, by omega, by omega, for_range (lo := 0) (n := lg.toNat)
   (fun j σ H3 => ∃ (y7 y8 : Option V) (ts : List Str), σ = [some (.ref fe), some (.ref nl), some (.ref ul), some (.ref vl), some (.int at'), some (.int lg), some (.ref t), y7, y8] ∧ Feed K fe H3 ∧ Ext fe H H3 ∧ H3 t = some (.lst (ts.map V.str)) ∧ ts.length = j ∧ ∀ z ∈ ts, z ∈ us ∨ z ∈ ws)
   ⟨none, none, [], rfl, hF2.new ht _, ex2.new ht _, upd_same, rfl, fun z h => by cases h⟩ ?_ ?_⟩
  ·rintro j σ H3 hj ⟨y7, y8, ts, rfl, hF3, ex3, ht3, hlt, hts⟩
   -- term = unknowns[draw(feed, len(unknowns))]
   refine ⟨_, rfl, _, rfl, _, rfl, _, _, rfl, .inl ⟨_, SqL.of (ex3 _ _ nul hul), rfl⟩, fe, _, rfl, hF3, by omega, by omega, fun i4 H4 i0 i1 hF4 ex4 => ?_⟩
   have ex4' := ex3.trans ex4
   obtain ⟨z, hz, ev⟩ := pick_str (zs := us) i0 (by omega)
   refine ⟨_, _, _, _, rfl, rfl, SqL.of (ex4' _ _ nul hul), ev, ?_⟩
   have ht4 := ex4 _ _ nt ht3
   -- if draw(feed, 6) == 0
   refine ⟨_, rfl, fe, 6, rfl, hF4, by decide, by decide, fun i5 H5 j0 j1 hF5 ex5 => ⟨rfl, _, rfl, ?_⟩⟩
   have ex5' := ex4'.trans ex5
   have ht5 := ex5 _ _ nt ht4
   refine ite2 (fun c => ?_) (fun c => ?_)
   ·refine ⟨_, rfl, _, rfl, _, rfl, _, _, rfl, .inl ⟨_, SqL.of (ex5' _ _ nvl hvl), rfl⟩, fe, _, rfl, hF5, by omega, by omega, fun i6 H6 k0 k1 hF6 ex6 => ?_⟩
    obtain ⟨y, hy, ev6⟩ := pick_str (zs := ws) k0 (by omega)
    have ht6 := ex6 _ _ nt ht5
    refine ⟨_, _, _, _, rfl, rfl, SqL.of ((ex5'.trans ex6) _ _ nvl hvl), ev6, ?_⟩
    refine ⟨_, rfl, .inl ⟨rfl, _, SqL.of ht6⟩, _, rfl, _, _, _, rfl, rfl, ht6, by rw [List.length_map]; exact small1000 (by omega), ?_⟩
    refine ⟨_, _, ts ++ [y], rfl, hF6.lst ht6 nt _, (ex5'.trans ex6).own ht0 _, by rw [upd_same, List.map_append]; rfl, by rw [List.length_append, hlt]; rfl, fun z' h => ?_⟩
    rcases List.mem_append.mp h with q | q
    ·exact hts z' q
    ·rw [List.mem_singleton.mp q]
     exact .inr hy
   ·refine ⟨_, rfl, .inl ⟨rfl, _, SqL.of ht5⟩, _, rfl, _, _, _, rfl, rfl, ht5, by rw [List.length_map]; exact small1000 (by omega), ?_⟩
    refine ⟨_, _, ts ++ [z], rfl, hF5.lst ht5 nt _, ex5'.own ht0 _, by rw [upd_same, List.map_append]; rfl, by rw [List.length_append, hlt]; rfl, fun z' h => ?_⟩
    rcases List.mem_append.mp h with q | q
    ·exact hts z' q
    ·rw [List.mem_singleton.mp q]
     exact .inl hz
  ·rintro σ H3 ⟨y7, y8, ts, rfl, hF3, ex3, ht3, hlt, hts⟩
   obtain ⟨z, hz, ev⟩ := pick_str (zs := nms) a0 (by omega)
   refine ⟨_, rfl, _, rfl, _, _, _, _, rfl, rfl, SqL.of (ex3 _ _ nnl hnl), ev, ?_⟩
   refine ⟨_, rfl, t, _, rfl, .inl ⟨SqL.of ht3, fun tt htt => ?_⟩⟩
   refine ⟨(by show 2 ≤ sizeLine; decide), fun ap hap => ?_⟩
   have hFa := (hF3.new htt (.tup (ts.map V.str))).new hap (.tup [.str z, .ref tt])
   have nta : tt ≠ ap := fun e => by rw [← e, upd_same] at hap; cases hap
   exact k ap (z, ts) _ hFa ((ex3.new htt _).new hap _) ⟨ap, tt, rfl, upd_same, by rw [upd_ne nta, upd_same]⟩ hz (by show 1 ≤ ts.length; omega) (by show ts.length ≤ 4; omega) hts
 ·-- at, long
  refine ⟨_, rfl, _, rfl, _, _, rfl, .inl ⟨_, SqL.of hnl, rfl⟩, fe, _, rfl, hF, by omega, by omega, fun i1 H1 a0 a1 hF1 ex1 => ?_⟩
  refine ⟨(by show 3 ≤ sizeLine; decide), fun p hp => ?_⟩
  obtain ⟨lg, ev, l0, l1⟩ := long3 a0
  refine ⟨_, rfl, _, _, rfl, rfl, (by show (0 : Int) < 3; decide), _, _, _, _, rfl, rfl, SqL.of upd_same, ev, ?_⟩
  have hF2 := hF1.new hp (.lst [.int 2, .int 1, .int 3])
  have ex2 := ex1.new hp (.lst [.int 2, .int 1, .int 3])
  refine ⟨_, rfl, fe, 8, rfl, hF2, by decide, by decide, fun i3 H3 c0 c1 hF3 ex3 => ⟨rfl, _, rfl, ?_⟩⟩
  refine ite2 (fun c => ?_) (fun c => ?_)
  ·refine ⟨_, rfl, fe, 4, rfl, hF3, by decide, by decide, fun i4 H4 d0 d1 hF4 ex4 => ⟨_, _, rfl, rfl, ?_⟩⟩
   exact tl _ _ ⟨i1, _, none, none, none, rfl, a0, by omega, by omega, by omega, hF4, (ex2.trans ex3).trans ex4⟩
  ·exact tl _ _ ⟨i1, lg, none, none, none, rfl, a0, by omega, l0, l1, hF3, ex2.trans ex3⟩
def spHeadD (K : PySem.W.Frag) : Sp := fun vs H Q _ => ∃ (f al : Addr) (avs : List V) (ats : List (Str × List Str)), vs = [.ref f, .ref al] ∧ Feed K f H ∧ al ≠ f ∧ H al = some (.lst avs) ∧ AtomsAt H avs ats ∧ 1 ≤ ats.length ∧ ats.length ≤ 100 ∧ (∀ a ∈ ats, 1 ≤ a.2.length ∧ a.2.length ≤ 4) ∧
 ∀ (r : Addr) (hz : List Str) (H' : Hp), Feed K f H' → Ext f H H' → H' r = some (.tup (hz.map V.str)) → hz.length ≤ 4 → (∀ z ∈ hz, z ∈ flatA ats) → Q (.ref r) H'
theorem sc_l_head : FnScope ["_law_feed_here", "_law_atoms", "_law_terms", "_law_name", "_law_some"] ["_law_feed_here", "_law_atoms"] (defScope s_l_head) := ⟨rfl, rfl, rfl, by decide +kernel, rfl, by decide +kernel, by decide +kernel⟩
theorem flat_pos : ∀ {ats : List (Str × List Str)}, 1 ≤ ats.length → (∀ a ∈ ats, 1 ≤ a.2.length ∧ a.2.length ≤ 4) → 1 ≤ (flatA ats).length
 | [], h, _ => absurd h (by decide)
 | a :: r, _, g => by
  have := (g a List.mem_cons_self).1
  show 1 ≤ (a.2 ++ flatA r).length
  rw [List.length_append]
  omega
theorem ok_headD {f : Addr} {fd : FuncData} (F : Fun K "_law_head" "_law_head" s_l_head f fd) (T : Txt K mg) (D : Dr P w K mg base) : FnOk P w K mg base CX0 2 f fd ["_law_feed_here", "_law_atoms"] (spHeadD K) := by
 refine F.ok sc_l_head (fun vs H Q E h => ?_) (fun cdv A outer s H vs Q E hr h => ?_)
 ·obtain ⟨a, b, c, d, rfl, _⟩ := h
  rfl
 obtain ⟨fe, al, avs, ats, rfl, hF, nal, hal, hats, hl1, hl2, hg, k⟩ := h
 refine ⟨_, (pss_cons (ps_set (i := 2) sc_l_head.nd rfl (Or.inr rfl) (pe_lst pa_nil))
   (pss_cons (ps_for PassesOwn.never rfl (pi_list (pv 1)) (pg_tup rfl (pgs_cons (pg_name (i := 3) sc_l_head.nd rfl (Or.inl rfl)) (pgs_cons (pg_name (i := 4) sc_l_head.nd rfl (Or.inl rfl)) pgs_nil)))
   (pss_one (ps_expr (pe_bm PySem.F.plainAttrs_list PySem.F.slot_list_extend PySem.F.type_list_extend mt_extendT (pv 2) (pa_cons (pv 4) pa_nil)))))
   (pss_one (ps_ret (pe_callTy call_tuple_of rfl T.n_tuple (by decide +kernel) (pa_cons (pe_comp rfl (compSc_mk (fs := ["_law_terms", "_law_feed_here"]) (fr := [2, 0])) (pi_range1 rfl T.n_range (pa_cons (cl D.l_draw hr (pa_cons (pv 0) (pa_cons pe_int pa_nil))) pa_nil)) (fun _ _ _ _ => (pe_ix (ix_listK (K := K)) (pv 1) (cl D.l_draw hr (pa_cons (pv 2) (pa_cons (pe_callB (call_lenK (K := K)) rfl T.n_len PySem.boot_len (pa_cons (pv 1) pa_nil)) pa_nil))) (fun _ _ => rfl)))) pa_nil)))))), ?_⟩
 have la : avs.length = ats.length := Paired.length hats
 refine ⟨(by show 0 ≤ sizeLine; decide), fun t ht => ?_⟩
 have nt := hF.nef ht
 have nta : al ≠ t := ne_of_none hal ht
 have fl : ∀ n, (flatA (ats.take n)).length ≤ 4 * ats.length := fun n => by
  have h1 := len_all (ats.take n) fun a ha => (hg a (List.mem_of_mem_take ha)).2
  have h2 : (ats.take n).length ≤ ats.length := by rw [List.length_take]; omega
  omega
 refine ⟨_, rfl, al, rfl, ⟨avs, SqL.of (by rw [upd_ne nta]; exact hal)⟩, for_list (K := K) (a := al) (xs := avs)
  (fun i σ H2 => ∃ (x3 x4 : Option V), σ = [some (.ref fe), some (.ref al), some (.ref t), x3, x4] ∧ Feed K fe H2 ∧ Ext fe H H2 ∧ H2 t = some (.lst ((flatA (ats.take i)).map V.str))) ⟨none, none, rfl, hF.new ht _, (Ext.refl fe H).new ht _, upd_same⟩ (fun i σ H2 _ ⟨_, _, _, _, ex, _⟩ => SqL.of (ex _ _ nal hal)) ?_ ?_⟩
 ·rintro i x σ H2 hx ⟨x3, x4, rfl, hF2, ex2, ht2⟩
  obtain ⟨a, hta, p, tt, rfl, hp, htt⟩ := Paired.at hats hx
  have g := hg a (List.mem_of_getElem? hta)
  have hi : i < ats.length := (List.getElem?_eq_some_iff.mp hta).1
  have tu := hF.tups ex2
  have lf := fl i
  refine ⟨p, _, rfl, SqT.of (tu _ _ hp), rfl, _, _, rfl, _, _, rfl, rfl, ?_⟩
  refine ⟨_, rfl, .inl ⟨rfl, _, SqL.of ht2⟩, _, rfl, _, _, _, _, rfl, rfl, ht2, SqT.of (tu _ _ htt), ?_, ?_⟩
  ·rw [List.length_map, List.length_map]
   exact Nat.le_of_lt (small1000 (by omega))
  ·refine ⟨_, _, rfl, hF2.lst ht2 nt _, ex2.own ht _, ?_⟩
   rw [upd_same, flatA_take hta, List.map_append]
 ·rintro σ H2 ⟨x3, x4, rfl, hF2, ex2, ht2⟩
  rw [la, List.take_length] at ht2
  have lf := fl ats.length
  rw [List.take_length] at lf
  have lp := flat_pos hl1 hg
  refine ⟨_, rfl, fe, 5, rfl, hF2, by decide, by decide, fun n H3 n0 n1 hF3 ex3 => ?_⟩
  have ht3 := ex3 _ _ nt ht2
  refine ⟨n, rfl, by omega, by omega, fun j m ys H4 => j ≤ n.toNat ∧ m = n.toNat - j ∧ Feed K fe H4 ∧ Ext fe H3 H4 ∧ ∃ hz : List Str, ys = hz.map V.str ∧ hz.length = j ∧ ∀ z ∈ hz, z ∈ flatA ats, ⟨_, Nat.zero_le _, rfl, hF3, Ext.refl _ _, [], rfl, rfl, fun z h => by cases h⟩, ?_⟩
  rintro j m ys H4 ⟨hj, rfl, hF4, ex4, hz, rfl, hlz, hzz⟩
  have ly : (hz.map V.str).length = j := by rw [List.length_map, hlz]
  have ht4 := ex4 _ _ nt ht3
  have lt4 : ((flatA ats).map V.str).length = (flatA ats).length := List.length_map _
  by_cases hlt : j < n.toNat
  ·refine .inr ⟨hlt, by rw [ly]; exact small1000 (by omega), ?_⟩
   rintro v H5 ⟨rfl, rfl⟩
   refine rd_true ?_
   refine ⟨_, rfl, _, rfl, _, rfl, _, _, rfl, .inl ⟨_, SqL.of ht4, rfl⟩, fe, _, rfl, hF4, by omega, by omega, fun i6 H6 k0 k1 hF6 ex6 => ?_⟩
   obtain ⟨z, hzm, ev⟩ := pick_str (zs := flatA ats) k0 (by omega)
   refine ⟨_, _, _, _, rfl, rfl, SqL.of (ex6 _ _ nt ht4), ev, ?_⟩
   refine ⟨n.toNat - (j + 1), by omega, hlt, rfl, hF6, ex4.trans ex6, hz ++ [z], by rw [List.map_append]; rfl, by rw [List.length_append, hlz]; rfl, fun z' h => ?_⟩
   rcases List.mem_append.mp h with q | q
   ·exact hzz z' q
   ·rw [List.mem_singleton.mp q]
    exact hzm
  ·refine .inl ⟨by show n.toNat ≤ j; omega, by rw [ly]; exact Nat.le_of_lt (small1000 (by omega)), fun l hl => ?_⟩
   refine ⟨l, _, rfl, .inl ⟨SqL.of upd_same, fun tp htp => ?_⟩⟩
   exact k tp hz _ ((hF4.new hl _).new htp _) ((((ex2.trans ex3).trans ex4).new hl _).new htp _) upd_same (by omega) hzz
def GoodW (nms : List Str) (ats : List (Str × List Str)) : Prop := ∀ a ∈ ats, a.1 ∈ nms ∧ 1 ≤ a.2.length ∧ a.2.length ≤ 4 ∧ ∀ z ∈ a.2, z ∈ unkPool ∨ z ∈ wordsPool
def spQuestionD (K : PySem.W.Frag) : Sp := fun vs H Q _ => ∃ (f nl : Addr) (most : Int) (nms : List Str), vs = [.ref f, .ref nl, .int most] ∧ Feed K f H ∧ nl ≠ f ∧ (H nl = some (.lst (nms.map V.str)) ∧ 1 ≤ nms.length ∧ nms.length ≤ 100) ∧ 1 ≤ most ∧ most ≤ 20 ∧
 ∀ (r : Addr) (hz : List Str) (ats : List (Str × List Str)) (H' : Hp), Feed K f H' → Ext f H H' → QAt H' (.ref r) hz ats → 1 ≤ ats.length → (ats.length : Int) ≤ 2 * most → GoodW nms ats → hz.length ≤ 4 → (∀ z ∈ hz, z ∈ flatA ats) → Q (.ref r) H'
structure Dr2 (P : Program) (w : World) (K : PySem.W.Frag) (mg : Str → Option Value) (base : Heap) : Prop extends Dr P w K mg base where
 l_words : DefOk P w K mg base 2 "_law_words" ["_law_feed_here", "_law_many"] (spWords K)
 l_atom : DefOk P w K mg base 2 "_law_atom" ["_law_feed_here", "_law_names", "_law_unknowns_here", "_law_values"] (spAtomD K)
 l_head : DefOk P w K mg base 2 "_law_head" ["_law_feed_here", "_law_atoms"] (spHeadD K)
theorem sc_l_question : FnScope ["_law_feed_here", "_law_names", "_law_most", "_law_unknowns_here", "_law_values", "_law_many", "_law_atoms"] ["_law_feed_here", "_law_names", "_law_most"] (defScope s_l_question) := ⟨rfl, rfl, rfl, by decide +kernel, rfl, by decide +kernel, by decide +kernel⟩
theorem word_len : (wordsPool.all fun z => decide (z.length ≤ 8)) = true := by decide +kernel
theorem q_len : ("?" : Str).length = 1 := by decide +kernel
theorem ok_questionD {f : Addr} {fd : FuncData} (F : Fun K "_law_question" "_law_question" s_l_question f fd) (T : Txt K mg) (D : Dr2 P w K mg base) : FnOk P w K mg base CX0 3 f fd ["_law_feed_here", "_law_names", "_law_most"] (spQuestionD K) := by
 refine F.ok sc_l_question (fun vs H Q E h => ?_) (fun cdv A outer s H vs Q E hr h => ?_)
 ·obtain ⟨a, b, c, d, rfl, _⟩ := h
  rfl
 obtain ⟨fe, nl, most, nms, rfl, hF, nnl, ⟨hnl, hn1, hn2⟩, hm1, hm2, k⟩ := h
 have big : 10000 ≤ sizeLine := by rw [sizeLine_eq]; decide
 refine cut 4 (fun σ H2 => ∃ (ul vl : Addr) (us ws : List Str) (many : Int), σ = [some (.ref fe), some (.ref nl), some (.int most), some (.ref ul), some (.ref vl), some (.int many), none] ∧ (ul ≠ fe ∧ vl ≠ fe) ∧ (H2 ul = some (.lst (us.map V.str)) ∧ 1 ≤ us.length ∧ us.length ≤ 100) ∧ (H2 vl = some (.lst (ws.map V.str)) ∧ 1 ≤ ws.length ∧ ws.length ≤ 100) ∧ (∀ z ∈ us, z ∈ unkPool) ∧ (∀ z ∈ ws, z ∈ wordsPool) ∧ 1 ≤ many ∧ many ≤ 2 * most ∧ Feed K fe H2 ∧ Ext fe H H2)
  ⟨_, (pss_cons (ps_setComp (j := 6) sc_l_question.nd rfl rfl rfl (compSc_mk (fs := ["_law_feed_here", "_law_names", "_law_unknowns_here", "_law_values"]) (fr := [0, 1, 3, 4])) (pi_range1 rfl T.n_range (pa_cons (pv 5) pa_nil)) (fun _ _ _ _ => (cl D.l_atom hr (pa_cons (pv 1) (pa_cons (pv 2) (pa_cons (pv 3) (pa_cons (pv 4) pa_nil)))))))
   (pss_one (ps_ret (pe_tup (pa_cons (cl D.l_head hr (pa_cons (pv 0) (pa_cons (pv 6) pa_nil))) (pa_cons (pe_callTy call_tuple_of rfl T.n_tuple (by decide +kernel) (pa_cons (pv 6) pa_nil)) pa_nil)))))), ?_⟩ (fun t2 ht => ⟨_, (pss_cons (ps_set (i := 3) sc_l_question.nd rfl (Or.inr rfl) (pe_comp rfl (compSc_mk (fs := []) (fr := [])) (pi_list (cl D.l_words hr (pa_cons (pv 0) (pa_cons (pe_op op_add pe_int (cl D.l_draw hr (pa_cons (pv 0) (pa_cons pe_int pa_nil)))) pa_nil)))) (fun _ _ _ _ => (pe_op op_add_str pe_str (pv 0)))))
   (pss_cons (ps_set (i := 4) sc_l_question.nd rfl (Or.inr rfl) (cl D.l_words hr (pa_cons (pv 0) (pa_cons pe_int pa_nil))))
   (pss_cons (ps_set (i := 5) sc_l_question.nd rfl (Or.inl rfl) (pe_op op_add pe_int (cl D.l_draw hr (pa_cons (pv 0) (pa_cons (pv 2) pa_nil)))))
   (pss_cons (ps_if (pt_cmpR op_eq (cl D.l_draw hr (pa_cons (pv 0) (pa_cons pe_int pa_nil))) pe_int (nomark _)) (pss_one (ps_set (i := 5) sc_l_question.nd rfl (Or.inl rfl) (pe_op op_add (pv 2) (cl D.l_draw hr (pa_cons (pv 0) (pa_cons (pe_op op_add (pv 2) pe_int) pa_nil)))))) pss_nil) ht)))), fun tl => ?_⟩)
 ·rintro σ H2 ⟨ul, vl, us, ws, many, rfl, ⟨nul, nvl⟩, ⟨hul, hu1, hu2⟩, ⟨hvl, hv1, hv2⟩, huw, hww, m1, m2, hF2, ex2⟩
  refine ⟨_, rfl, many, rfl, by omega, by omega, fun j m ys H4 => j ≤ many.toNat ∧ m = many.toNat - j ∧ Feed K fe H4 ∧ Ext fe H2 H4 ∧ ∃ ats : List (Str × List Str), AtomsAt H4 ys ats ∧ ats.length = j ∧ GoodW nms ats, ⟨_, Nat.zero_le _, rfl, hF2, Ext.refl _ _, [], .nil, rfl, fun a h => by cases h⟩, ?_⟩
  rintro j m ys H4 ⟨hj, rfl, hF4, ex4, ats, hats, hla, hg⟩
  have ly : ys.length = j := by rw [← hla]; exact Paired.length hats
  by_cases hlt : j < many.toNat
  ·refine .inr ⟨hlt, by rw [ly]; exact small1000 (by omega), ?_⟩
   rintro v H5 ⟨rfl, rfl⟩
   refine rd_true ?_
   refine ⟨_, rfl, _, rfl, _, rfl, _, rfl, fe, nl, ul, vl, nms, us, ws, rfl, hF4, ⟨nnl, nul, nvl⟩, ⟨ex4 _ _ nnl (ex2 _ _ nnl hnl), hn1, hn2⟩, ⟨ex4 _ _ nul hul, hu1, hu2⟩, ⟨ex4 _ _ nvl hvl, hv1, hv2⟩, fun r a H6 hF6 ex6 hA ha1 hl1 hl4 hts => ?_⟩
   refine ⟨many.toNat - (j + 1), by omega, hlt, rfl, hF6, ex4.trans ex6, ats ++ [a], Paired.snoc' (AtomsAt.keep (hF4.tups ex6) hats) hA, by rw [List.length_append, hla]; rfl, fun b hb => ?_⟩
   rcases List.mem_append.mp hb with q | q
   ·exact hg b q
   ·rw [List.mem_singleton.mp q]
    refine ⟨ha1, hl1, hl4, fun z hz => ?_⟩
    rcases hts z hz with q | q
    ·exact .inl (huw z q)
    ·exact .inr (hww z q)
  ·refine .inl ⟨by show many.toNat ≤ j; omega, by rw [ly]; exact Nat.le_of_lt (small1000 (by omega)), fun l hl => ?_⟩
   have nl' := hF4.nef hl
   have hFl := hF4.new hl (.lst ys)
   have exl := ex4.new hl (.lst ys)
   have hats' := AtomsAt.keep ((Tups.refl H4).new hl (.lst ys)) hats
   have hll : upd H4 l (.lst ys) l = some (.lst ys) := upd_same
   generalize upd H4 l (.lst ys) = H5 at hFl exl hats' hll ⊢
   refine ⟨_, rfl, _, rfl, fe, l, ys, ats, rfl, hFl, nl', hll, hats', by omega, by omega, fun a ha => ⟨(hg a ha).2.1, (hg a ha).2.2.1⟩, fun r hz H6 hF6 ex6 hr6 hz4 hzz => ?_⟩
   have tu6 := hFl.tups ex6
   refine ⟨_, rfl, l, _, rfl, .inl ⟨SqL.of (ex6 _ _ nl' hll), fun ta hta => ?_⟩⟩
   refine ⟨(by show 2 ≤ sizeLine; decide), fun q hq => ?_⟩
   have tu7 := (((Tups.refl H6).new hta (.tup ys)).new hq (.tup [.ref r, .ref ta]))
   have nq : ta ≠ q := fun e => by rw [← e, upd_same] at hq; cases hq
   exact k q hz ats _ ((hF6.new hta _).new hq _) ((((ex2.trans exl).trans ex6).new hta _).new hq _) ⟨q, r, ta, ys, rfl, upd_same, tu7 _ _ hr6, by rw [upd_ne nq, upd_same], AtomsAt.keep (tu6.trans tu7) hats'⟩ (by omega) (by omega) hg hz4 hzz
 ·-- unknowns
  refine ⟨_, rfl, _, rfl, fe, 5, rfl, hF, by decide, by decide, fun i1 H1 a0 a1 hF1 ex1 => ⟨_, _, rfl, rfl, fe, _, rfl, hF1, by omega, by omega, fun wl wds H2 hF2 ex2 nwl hwl0 hwl hlw ndw hin => ?_⟩⟩
  refine ⟨wl, rfl, ⟨_, SqL.of hwl⟩, comp_list (K := K) (a := wl) (xs := wds.map V.str) (fun i ys H3 => H3 = H2 ∧ i ≤ wds.length ∧ ys = ((wds.take i).map uWord).map V.str) (by rw [List.length_map]; exact small1000 (by omega)) ⟨rfl, Nat.zero_le _, rfl⟩ ?_ ?_ ?_⟩
  ·rintro i ys H3 hi ⟨rfl, _, rfl⟩
   refine ⟨SqL.of hwl, ?_⟩
   rw [List.length_map, List.length_map, List.length_take]
   omega
  ·rintro i x ys H3 N hc ⟨rfl, hi, rfl⟩ hN
   have hlt : i < (wds.map V.str).length := (List.getElem?_eq_some_iff.mp hc).1
   rw [List.length_map] at hlt
   rw [List.getElem?_map, List.getElem?_eq_getElem hlt] at hc
   obtain rfl : V.str wds[i] = x := Option.some.inj hc
   have lw := of_decide_eq_true (List.all_eq_true.mp word_len wds[i] (hin _ (List.getElem_mem hlt)))
   refine rd_true ?_
   refine ⟨_, rfl, _, _, rfl, rfl, by rw [q_len]; omega, hN _ _ ⟨rfl, hlt, ?_⟩⟩
   rw [List.take_add_one, List.getElem?_eq_getElem hlt, List.map_append, List.map_append]
   rfl
  ·rintro ys H3 ⟨rfl, _, rfl⟩ l hl
   rw [List.length_map, List.take_length]
   have nl' := hF2.nef hl
   have hF3 := hF2.new hl (.lst ((wds.map uWord).map V.str))
   have hll : upd H3 l (.lst ((wds.map uWord).map V.str)) l = some (.lst ((wds.map uWord).map V.str)) := upd_same
   have ex3 := (ex1.trans ex2).new hl (.lst ((wds.map uWord).map V.str))
   generalize upd H3 l (.lst ((wds.map uWord).map V.str)) = H4 at hF3 hll ex3 ⊢
   -- values
   refine ⟨_, rfl, fe, 2, rfl, hF3, by decide, by decide, fun vl vws H5 hF5 ex5 nvl hvl0 hvl hlv ndv hinv => ?_⟩
   -- many
   refine ⟨_, rfl, _, rfl, fe, most, rfl, hF5, by omega, by omega, fun i6 H6 b0 b1 hF6 ex6 => ⟨_, _, rfl, rfl, ?_⟩⟩
   have huw : ∀ z ∈ wds.map uWord, z ∈ unkPool := fun z hz => by
    obtain ⟨y, hy, rfl⟩ := List.mem_map.mp hz
    exact List.mem_map_of_mem (hin y hy)
   have lus : (wds.map uWord).length = wds.length := List.length_map _
   refine ⟨_, rfl, fe, 8, rfl, hF6, by decide, by decide, fun i7 H7 c0 c1 hF7 ex7 => ⟨rfl, _, rfl, ?_⟩⟩
   have ex57 := ex6.trans ex7
   refine ite2 (fun c => ?_) (fun c => ?_)
   ·refine ⟨_, rfl, _, rfl, _, rfl, _, _, rfl, rfl, fe, _, rfl, hF7, by omega, by omega, fun i8 H8 d0 d1 hF8 ex8 => ⟨_, _, rfl, rfl, ?_⟩⟩
    have ex58 := ex57.trans ex8
    exact tl _ _ ⟨l, vl, wds.map uWord, vws, _, rfl, ⟨nl', nvl⟩, ⟨ex58 _ _ nl' (ex5 _ _ nl' hll), by omega, by omega⟩, ⟨ex58 _ _ nvl hvl, by omega, by omega⟩, huw, hinv, by omega, by omega, hF8, (ex3.trans ex5).trans ex58⟩
   ·exact tl _ _ ⟨l, vl, wds.map uWord, vws, _, rfl, ⟨nl', nvl⟩, ⟨ex57 _ _ nl' (ex5 _ _ nl' hll), by omega, by omega⟩, ⟨ex57 _ _ nvl hvl, by omega, by omega⟩, huw, hinv, by omega, by omega, hF7, (ex3.trans ex5).trans ex57⟩
end
theorem one_eq (c d : Nat) : decide ((⟨#[c]⟩ : Str) = ⟨#[d]⟩) = (c == d) := by
 by_cases h : c = d
 ·subst h
  simp
 ·have : ¬ ((⟨#[c]⟩ : Str) = ⟨#[d]⟩) := fun e => h (by injection e with e; simpa using e)
  rw [decide_eq_false this]
  exact (beq_eq_false_iff_ne.mpr h).symm
theorem q_is : ("?" : Str) = ⟨#[63]⟩ := by decide +kernel
theorem starts_q {z : Str} {c : Nat} (h : z.cps.toList[0]? = some c) : Txt.startswith z "?" = decide ((⟨#[c]⟩ : Str) = "?") := by
 rw [q_is, one_eq]
 rw [Bool.eq_iff_iff, beq_iff_eq]
 unfold Txt.startswith
 rw [Bool.and_eq_true, decide_eq_true_iff, StrLaws.subAt_one, h]
 exact ⟨fun e => Option.some.inj e, fun e => by rw [e]⟩
theorem starts_none {z : Str} (h : z.cps.toList[0]? = none) : Txt.startswith z "?" = false := by
 rw [q_is]
 refine Bool.eq_false_iff.mpr fun e => ?_
 unfold Txt.startswith at e
 rw [Bool.and_eq_true, decide_eq_true_iff, StrLaws.subAt_one, h] at e
 cases e
theorem first_of {z : Str} (h : z ≠ "") : ∃ c, z.cps.toList[0]? = some c := by
 cases e : z.cps.toList with
 | cons c r => exact ⟨c, rfl⟩
 | nil =>
  exact absurd (PyProof.Rows.ext_toList (a := z) (b := "") (e.trans rfl)) h
section
variable {P : Program} {w : World} {K : PySem.W.Frag} {mg : Str → Option Value} {base : Heap}
theorem filter_take {α : Type} {g : α → Bool} {l : List α} {i : Nat} {x : α} (h : l[i]? = some x) : (l.take (i + 1)).filter g = (l.take i).filter g ++ (if g x = true then [x] else []) := by
 rw [List.take_add_one, h, List.filter_append]
 show _ ++ [x].filter g = _
 rw [List.filter_cons, List.filter_nil]
theorem isEmpty_map {α β : Type} (g : α → β) (l : List α) : (l.map g).isEmpty = l.isEmpty := by cases l <;> rfl
end
theorem noPart {σ : L2.St} {H : Hp} {q : Option Int → Hp → Prop} (h : q none H) : tNoPart σ H q := h
theorem sgn_qm : sgn 63 = false := by decide +kernel
theorem val_unk {z : Str} (h : isVal z = true) : isUnk z = false := by
 unfold isVal at h
 rw [Bool.and_eq_true, Bool.and_eq_true] at h
 have h1 := of_decide_eq_true h.1
 unfold isUnk
 cases e : z.cps.toList with
 | nil =>
  have : z.length = 0 := by
   show z.cps.size = 0
   rw [← Array.length_toList, e]
   rfl
  omega
 | cons c r =>
  have e0 : z.cps.toList[0]? = some c := by rw [e]; rfl
  have hc : sgn c = true := List.all_eq_true.mp h.2.2 _ (List.mem_map_of_mem (by rw [e]; exact List.mem_cons_self))
  have nc : c ≠ 63 := fun z => by
   rw [z, sgn_qm] at hc
   cases hc
  rw [starts_q e0, q_is, one_eq, beq_eq_false_iff_ne.mpr nc, Bool.false_and]
theorem inV_str (z : Str) (l : List Str) : inV (.str z) (l.map V.str) = decide (z ∈ l) := by
 unfold inV
 rw [List.any_map, Bool.eq_iff_iff, List.any_eq_true]
 constructor
 ·rintro ⟨y, hy, e⟩
  have e' : (y == z) = true := e
  rw [eq_of_beq e'] at hy
  exact decide_eq_true hy
 ·intro h
  exact ⟨z, of_decide_eq_true h, by show (z == z) = true; simp⟩
theorem flat_V (l : List Str) : (l.map V.str).all flatV = true := by
 rw [List.all_map]
 exact List.all_eq_true.mpr fun _ _ => rfl
def isTermS (z : Str) : Bool := isVal z || isUnk z
def addS (acc : List Str) (t : Str) : List Str := if t ∈ acc then acc else acc ++ [t]
def dedL (g : List Str) : List Str := g.foldl addS []
theorem ded_snoc (g : List Str) (t : Str) : dedL (g ++ [t]) = addS (dedL g) t := by
 unfold dedL
 rw [List.foldl_append]
 rfl
theorem mem_addF : ∀ (g acc : List Str) (z : Str), z ∈ g.foldl addS acc ↔ z ∈ acc ∨ z ∈ g
 | [], acc, z => by simp
 | t :: r, acc, z => by
  rw [List.foldl_cons, mem_addF r (addS acc t) z]
  unfold addS
  by_cases d : t ∈ acc
  ·rw [if_pos d]
   constructor
   ·rintro (h | h)
    ·exact .inl h
    ·exact .inr (List.mem_cons_of_mem _ h)
   ·rintro (h | h)
    ·exact .inl h
    ·rcases List.mem_cons.mp h with rfl | h
     ·exact .inl d
     ·exact .inr h
  ·rw [if_neg d]
   constructor
   ·rintro (h | h)
    ·rcases List.mem_append.mp h with h | h
     ·exact .inl h
     ·rw [List.mem_singleton.mp h]
      exact .inr List.mem_cons_self
    ·exact .inr (List.mem_cons_of_mem _ h)
   ·rintro (h | h)
    ·exact .inl (List.mem_append_left _ h)
    ·rcases List.mem_cons.mp h with rfl | h
     ·exact .inl (List.mem_append_right _ (List.mem_singleton.mpr rfl))
     ·exact .inr h
theorem mem_ded (g : List Str) (z : Str) : z ∈ dedL g ↔ z ∈ g := by
 unfold dedL
 rw [mem_addF]
 simp
theorem ded_len : ∀ (g acc : List Str), (g.foldl addS acc).length ≤ acc.length + g.length
 | [], acc => by simp
 | t :: r, acc => by
  have h1 := ded_len r (addS acc t)
  have h2 : (addS acc t).length ≤ acc.length + 1 := by
   unfold addS
   split
   ·omega
   ·rw [List.length_append]; exact Nat.le_refl _
  rw [List.foldl_cons, List.length_cons]
  omega
theorem len_ded (g : List Str) : (dedL g).length ≤ g.length := by
 have := ded_len g []
 simpa [dedL] using this
theorem addF_nodup : ∀ (g acc : List Str), acc.Nodup → (g.foldl addS acc).Nodup
 | [], acc, h => h
 | t :: r, acc, h => by
  rw [List.foldl_cons]
  refine addF_nodup r _ ?_
  unfold addS
  split
  ·exact h
  ·rename_i d
   rw [List.nodup_append]
   refine ⟨h, by simp, fun a ha b hb e => ?_⟩
   rw [List.mem_singleton.mp hb] at e
   exact d (e ▸ ha)
theorem ded_nodup (g : List Str) : (dedL g).Nodup := addF_nodup g [] .nil
theorem step_fold : ∀ (fl acc : List Str), fl.foldl step acc = (fl.filter isUnk).foldl addS acc
 | [], acc => rfl
 | t :: r, acc => by
  rw [List.foldl_cons, List.filter_cons, step_fold r]
  unfold step
  by_cases c : isUnk t = true
  ·rw [if_pos c, if_pos c, List.foldl_cons]
   rfl
  ·rw [if_neg c, if_neg c]
theorem unk_ded (fl : List Str) : unkL fl = dedL (fl.filter isUnk) := step_fold fl []
theorem unk_nodup (fl : List Str) : (unkL fl).Nodup := by
 rw [unk_ded]
 exact ded_nodup _
theorem term_q {z : Str} (h : isTermS z = true) : Txt.startswith z "?" = isUnk z := by
 have h' : (isVal z || isUnk z) = true := h
 cases e : isVal z with
 | true =>
  rw [val_unk e]
  cases e1 : z.cps.toList with
  | nil => exact starts_none (by rw [e1]; rfl)
  | cons c r =>
   have e0 : z.cps.toList[0]? = some c := by rw [e1]; rfl
   unfold isVal at e
   rw [Bool.and_eq_true, Bool.and_eq_true] at e
   have hc : sgn c = true := List.all_eq_true.mp e.2.2 _ (List.mem_map_of_mem (by rw [e1]; exact List.mem_cons_self))
   have nc : c ≠ 63 := fun z => by
    rw [z, sgn_qm] at hc
    cases hc
   rw [starts_q e0, q_is, one_eq, beq_eq_false_iff_ne.mpr nc]
 | false =>
  rw [e, Bool.false_or] at h'
  rw [h']
  unfold isUnk at h'
  rw [Bool.and_eq_true] at h'
  exact h'.1
theorem term_fst {z : Str} (h : isTermS z = true) : ∃ c, z.cps.toList[0]? = some c := by
 refine first_of fun e => ?_
 rw [e] at h
 have : isTermS "" = false := by decide +kernel
 rw [this] at h
 cases h
theorem term_ask {z : Str} (h : isTermS z = true) {c : Nat} (hc : z.cps.toList[0]? = some c) : decide (V.str ⟨#[c]⟩ = V.str "?") = isUnk z := by
 rw [← term_q h, starts_q hc, Bool.eq_iff_iff]
 simp
theorem cut_to (xs : List V) (j : Nat) : cutV xs none (some (j : Int)) = xs.take j := by
 unfold cutV
 rw [HT.sIx_none, HT.sIx_nat, List.drop_zero, Nat.sub_zero]
 by_cases h : j ≤ xs.length
 ·rw [Nat.min_eq_left h]
 ·rw [Nat.min_eq_right (by omega), List.take_length, List.take_of_length_le (by omega)]
theorem cut_from (xs : List V) (j : Nat) : cutV xs (some (j : Int)) none = xs.drop j := by
 unfold cutV
 rw [HT.sIx_none, HT.sIx_nat]
 by_cases h : j ≤ xs.length
 ·rw [Nat.min_eq_left h, List.take_of_length_le (by rw [List.length_drop]; exact Nat.le_refl _)]
 ·rw [Nat.min_eq_right (by omega), Nat.sub_self, List.take_zero, List.drop_of_length_le (by omega)]
def TermOk (z : Str) : Prop := isTermS z = true ∧ z.length ≤ 100 ∧ PyData.strOk z = true
def NameOk (z : Str) : Prop := isVal z = true ∧ z.length ≤ 100 ∧ PyData.strOk z = true
theorem words_ok : (wordsPool.all fun z => isVal z && decide (z.length ≤ 100) && PyData.strOk z) = true := by decide +kernel
theorem unks_ok : (unkPool.all fun z => isTermS z && isUnk z && decide (z.length ≤ 100) && PyData.strOk z) = true := by decide +kernel
theorem word_N {z : Str} (h : z ∈ wordsPool) : NameOk z := by
 have := List.all_eq_true.mp words_ok z h
 rw [Bool.and_eq_true, Bool.and_eq_true] at this
 exact ⟨this.1.1, of_decide_eq_true this.1.2, this.2⟩
theorem name_T {z : Str} (h : NameOk z) : TermOk z := ⟨by unfold isTermS; rw [h.1]; rfl, h.2⟩
theorem word_T {z : Str} (h : z ∈ wordsPool) : TermOk z := name_T (word_N h)
theorem unk_T {z : Str} (h : z ∈ unkPool) : TermOk z := by
 have := List.all_eq_true.mp unks_ok z h
 rw [Bool.and_eq_true, Bool.and_eq_true, Bool.and_eq_true] at this
 exact ⟨this.1.1.1, of_decide_eq_true this.1.2, this.2⟩
theorem unk_U {z : Str} (h : z ∈ unkPool) : isUnk z = true := by
 have := List.all_eq_true.mp unks_ok z h
 rw [Bool.and_eq_true, Bool.and_eq_true, Bool.and_eq_true] at this
 exact this.1.1.2
def GoodT (ats : List (Str × List Str)) : Prop := ∀ a ∈ ats, NameOk a.1 ∧ 1 ≤ a.2.length ∧ a.2.length ≤ 4 ∧ ∀ z ∈ a.2, TermOk z
structure QW (H : Hp) (v : V) (hz : List Str) (ats : List (Str × List Str)) : Prop where
 at' : QAt H v hz ats
 l1 : 1 ≤ ats.length
 l8 : ats.length ≤ 200
 good : GoodT ats
 h4 : hz.length ≤ 4
 hh : ∀ z ∈ hz, TermOk z
theorem QW.keep {H H' : Hp} {v : V} {hz : List Str} {ats : List (Str × List Str)} (t : Tups H H') (x : QW H v hz ats) : QW H' v hz ats := ⟨x.at'.keep t, x.l1, x.l8, x.good, x.h4, x.hh⟩
theorem GoodT.flat {ats : List (Str × List Str)} (g : GoodT ats) {z : Str} (h : z ∈ flatA ats) : TermOk z := by
 obtain ⟨a, ha, hz⟩ := flatA_mem.mp h
 exact (g a ha).2.2.2 z hz
theorem GoodT.len {ats : List (Str × List Str)} (g : GoodT ats) (n : Nat) : (flatA (ats.take n)).length ≤ 4 * ats.length := by
 have h1 := len_all (ats.take n) fun a ha => (g a (List.mem_of_mem_take ha)).2.2.1
 have h2 : (ats.take n).length ≤ ats.length := by rw [List.length_take]; omega
 omega
theorem at_strs {zs : List Str} {i : Nat} {y : V} (h : (zs.map V.str)[i]? = some y) : ∃ z, zs[i]? = some z ∧ y = V.str z := by
 rw [List.getElem?_map] at h
 cases e : zs[i]? with
 | none => rw [e] at h; cases h
 | some z => rw [e] at h; exact ⟨z, rfl, (Option.some.inj h).symm⟩
def spUnksQ : Sp := fun vs H Q _ => ∃ (v : V) (hz : List Str) (ats : List (Str × List Str)), vs = [v] ∧ QW H v hz ats ∧ ∀ (r : Addr) (H' : Hp), Same H H' → H r = none → H' r = some (.lst ((unkL (flatA ats)).map V.str)) → Q (.ref r) H'
section
variable {P : Program} {w : World} {K : PySem.W.Frag} {mg : Str → Option Value} {base : Heap}
theorem sc_l_unknowns : FnScope ["_law_question_here", "_law_found", "_law_name", "_law_terms"] ["_law_question_here"] (defScope s_l_unknowns) := ⟨rfl, rfl, rfl, by decide +kernel, rfl, by decide +kernel, by decide +kernel⟩
theorem ok_unknownsQ {f : Addr} {fd : FuncData} (F : Fun K "_law_unknowns" "_law_unknowns" s_l_unknowns f fd) (T : Txt K mg) : FnOk P w K mg base CX0 1 f fd ["_law_question_here"] spUnksQ := by
 refine F.ok sc_l_unknowns (fun vs H Q E h => ?_) (fun cdv A outer s H vs Q E hr h => ?_)
 ·obtain ⟨a, b, c, rfl, _⟩ := h
  rfl
 obtain ⟨v, hz0, ats, rfl, ⟨⟨q, hd', aa, avs, rfl, hq, hhd, haa, hats⟩, l1, l8, good, h4, hh⟩, k⟩ := h
 have la : avs.length = ats.length := Paired.length hats
 refine ⟨_, (pss_cons (ps_set (i := 1) sc_l_unknowns.nd rfl (Or.inr rfl) (pe_lst pa_nil))
   (pss_cons (ps_for PassesOwn.never rfl (pi_tup (pe_ix ix_tup (pv 0) pe_int (fun _ _ => rfl))) (pg_tup rfl (pgs_cons (pg_name (i := 2) sc_l_unknowns.nd rfl (Or.inl rfl)) (pgs_cons (pg_name (i := 3) sc_l_unknowns.nd rfl (Or.inl rfl)) pgs_nil)))
   (pss_one (ps_expr (pe_bm PySem.F.plainAttrs_list PySem.F.slot_list_extend PySem.F.type_list_extend mt_extend (pv 1) (pa_cons (pe_compIf rfl (compSc_mk (fs := []) (fr := [])) (pi_tup (pv 3)) (fun _ _ _ _ => (pt_cmpR op_eq (pe_ix ix_str (pv 0) pe_int (fun _ _ => rfl)) pe_str (nomark _))) (fun _ _ _ _ => (pv 0))) pa_nil)))))
   (pss_one (ps_ret (pe_compIf rfl (compSc_mk (fs := ["_law_found"]) (fr := [1])) (pi_range1 rfl T.n_range (pa_cons (pe_callB call_len rfl T.n_len PySem.boot_len (pa_cons (pv 1) pa_nil)) pa_nil)) (fun _ _ _ _ => (pt_cmpR (op_notIn_seqK (K := K)) (pe_ix (ix_listK (K := K)) (pv 1) (pv 0) (fun _ _ => rfl)) (pe_slice (sl_listK (K := K)) (pv 1) po_none (po_some (pv 0))) (by with_unfolding_all rfl))) (fun _ _ _ _ => (pe_ix (ix_listK (K := K)) (pv 1) (pv 0) (fun _ _ => rfl)))))))), ?_⟩
 have lf : ∀ i, ((flatA (ats.take i)).filter isUnk).length ≤ 800 := fun i => by
  have h1 := List.length_filter_le isUnk (flatA (ats.take i))
  have h2 := good.len i
  omega
 -- found = []
 refine ⟨(by show 0 ≤ sizeLine; decide), fun d hd0 => ?_⟩
 refine ⟨_, rfl, _, _, _, _, rfl, rfl, SqT.of (same_new hd0 _ _ _ hq), rfl, aa, rfl, ⟨avs, SqT.of (same_new hd0 _ _ _ haa)⟩, for_tup (K := K) (a := aa) (xs := avs)
  (fun i σ H2 => ∃ (x2 x3 : Option V), σ = [some (.ref q), some (.ref d), x2, x3] ∧ Same H H2 ∧ H2 d = some (.lst (((flatA (ats.take i)).filter isUnk).map V.str))) ⟨none, none, rfl, same_new hd0 _, upd_same⟩ (fun i σ H2 _ ⟨_, _, _, sm, _⟩ => SqT.of (sm _ _ haa)) ?_ ?_⟩
 ·rintro i x σ H2 hx ⟨x2, x3, rfl, sm, hd2⟩
  obtain ⟨ta, ht, p, t, rfl, hp, htt⟩ := Paired.at hats hx
  have g := good ta (List.mem_of_getElem? ht)
  have l4' := g.2.2.1
  have lfi := lf i
  refine ⟨p, _, rfl, SqT.of (sm _ _ hp), rfl, _, _, rfl, _, _, rfl, rfl, ?_⟩
  refine ⟨_, rfl, .inl ⟨rfl, _, SqL.of hd2⟩, _, rfl, t, rfl, ⟨_, SqT.of (sm _ _ htt)⟩, comp_tup (K := K) (a := t) (xs := ta.2.map V.str) (fun j ys H3 => H3 = H2 ∧ j ≤ ta.2.length ∧ ys = ((ta.2.take j).filter isUnk).map V.str) (by rw [List.length_map]; exact small1000 (by omega)) ⟨rfl, Nat.zero_le _, rfl⟩ ?_ ?_ ?_⟩
  ·rintro j ys H3 hj ⟨rfl, _, rfl⟩
   refine ⟨SqT.of (sm _ _ htt), ?_⟩
   rw [List.length_map]
   refine Nat.le_trans (List.length_filter_le _ _) ?_
   rw [List.length_take]
   omega
  ·rintro j y ys H3 N hc ⟨rfl, hj, rfl⟩ hN
   obtain ⟨z, hz, rfl⟩ := at_strs hc
   have hj' : j < ta.2.length := (List.getElem?_eq_some_iff.mp hz).1
   have hzz := (g.2.2.2 z (List.mem_of_getElem? hz))
   have hz100 := hzz.2.1
   obtain ⟨c, hcz⟩ := term_fst hzz.1
   have ei : atI z.cps.toList 0 = some c := atI_nat (j := 0) hcz
   refine ⟨_, rfl, _, _, _, rfl, rfl, Nat.le_of_lt (small1000 (by omega)), ei, rfl, _, rfl, ?_⟩
   rw [term_ask hzz.1 hcz]
   refine ite2 (fun c1 => ?_) (fun c1 => ?_)
   ·refine ⟨_, rfl, hN _ _ ⟨rfl, hj', ?_⟩⟩
    rw [filter_take hz, if_pos c1, List.map_append]
    rfl
   ·refine hN _ _ ⟨rfl, hj', ?_⟩
    rw [filter_take hz, if_neg c1, List.append_nil]
  ·rintro ys H3 ⟨rfl, _, rfl⟩ l hl
   rw [List.length_map, List.take_length]
   have nl : d ≠ l := ne_of_none hd2 hl
   refine ⟨_, _, _, _, rfl, rfl, by rw [upd_ne nl]; exact hd2, upd_same, ?_, ?_⟩
   ·rw [List.length_map, List.length_map]
    have := Nat.le_trans (List.length_filter_le isUnk ta.2) l4'
    exact Nat.le_of_lt (small1000 (by omega))
   ·refine ⟨_, _, rfl, fun b u e => ?_, ?_⟩
    ·rw [upd_ne (ne_of_none e hd0)]
     exact same_new hl _ _ _ (sm _ _ e)
    ·rw [upd_same, flatA_take ht, List.filter_append, List.map_append]
 ·rintro σ H2 ⟨x2, x3, rfl, sm, hd2⟩
  rw [la, List.take_length] at hd2
  have lfa := lf ats.length
  rw [List.take_length] at lfa
  rw [unk_ded] at k
  generalize (flatA ats).filter isUnk = g at hd2 lfa k
  have lg : (g.map V.str).length = g.length := List.length_map _
  refine ⟨_, rfl, _, _, rfl, .inl ⟨_, SqL.of hd2, rfl⟩, _, rfl, by omega, by omega, fun j m' ys H3 => j ≤ g.length ∧ m' = g.length - j ∧ Same H2 H3 ∧ ys = (dedL (g.take j)).map V.str, ⟨_, Nat.zero_le _, rfl, Same.refl _, rfl⟩, ?_⟩
  rintro j m' ys H3 ⟨hj, rfl, sm3, rfl⟩
  have ly : ((dedL (g.take j)).map V.str).length ≤ 800 := by
   rw [List.length_map]
   refine Nat.le_trans (len_ded _) ?_
   rw [List.length_take]
   omega
  by_cases hlt : j < g.length
  ·refine .inr ⟨by show j < ((g.map V.str).length : Int).toNat; omega, small1000 (by omega), ?_⟩
   rintro v H4 ⟨rfl, rfl⟩
   have hd4 := sm3 _ _ hd2
   obtain ⟨z, hz⟩ : ∃ z, g[j]? = some z := ⟨_, List.getElem?_eq_getElem hlt⟩
   have ev : atI (g.map V.str) (0 + (j : Int)) = some (.str z) := by
    rw [Int.zero_add]
    exact atI_nat (by rw [List.getElem?_map, hz]; rfl)
   refine ⟨_, rfl, _, rfl, _, _, _, _, rfl, rfl, SqL.of hd4, ev, ?_⟩
   refine ⟨_, rfl, noPart ⟨_, rfl, _, rfl, _, _, rfl, SqL.of hd4, fun p hp => ?_⟩⟩
   have ec : cutV (g.map V.str) none (some (0 + (j : Int))) = (g.take j).map V.str := by
    rw [Int.zero_add, cut_to, List.map_take]
   rw [ec]
   refine ⟨p, _, rfl, .inl (SqL.of upd_same), rfl, flat_V _, _, rfl, ?_⟩
   have sm5 : Same H2 (upd H4 p (.lst ((g.take j).map V.str))) := sm3.trans (same_new hp _)
   have et : g.take (j + 1) = g.take j ++ [z] := by rw [List.take_add_one, hz]; rfl
   show if (!inV (.str z) ((g.take j).map V.str)) = true then _ else _
   rw [inV_str]
   refine ite2 (fun c1 => ?_) (fun c1 => ?_)
   ·have c1 : z ∉ g.take j := by simpa using c1
    refine ⟨_, rfl, _, rfl, _, _, _, _, rfl, rfl, SqL.of (sm5 _ _ hd2), ev, ?_⟩
    refine ⟨_, by omega, hlt, rfl, sm5, ?_⟩
    rw [et, ded_snoc]
    unfold addS
    rw [if_neg (fun h => c1 ((mem_ded _ _).mp h)), List.map_append]
    rfl
   ·have c1 : z ∈ g.take j := by simpa using c1
    refine ⟨_, by omega, hlt, rfl, sm5, ?_⟩
    rw [et, ded_snoc]
    unfold addS
    rw [if_pos ((mem_ded _ _).mpr c1)]
  ·have ej : j = g.length := by omega
   refine .inl ⟨by show ((g.map V.str).length : Int).toNat ≤ j; omega, Nat.le_of_lt (small1000 (by omega)), fun l hl => ?_⟩
   refine k l _ ((sm.trans sm3).trans (same_new hl _)) ((sm.trans sm3).free hl) ?_
   rw [upd_same, ej, List.take_length]
end
theorem nd_snoc {l : List Str} {z : Str} : (l ++ [z]).Nodup ↔ l.Nodup ∧ z ∉ l := by
 rw [List.nodup_append]
 constructor
 ·rintro ⟨h1, _, h3⟩
  exact ⟨h1, fun h => h3 z h z (List.mem_singleton.mpr rfl) rfl⟩
 ·rintro ⟨h1, h2⟩
  refine ⟨h1, by simp, fun a ha b hb e => ?_⟩
  rw [List.mem_singleton.mp hb] at e
  exact h2 (e ▸ ha)
theorem Ext.of {f : Addr} {H H' : Hp} (s : Same H H') : Ext f H H' := fun b o _ h => s b o h
structure VQ (H : Hp) (v : V) (hs : List Str) (ats : List (Str × List Str)) : Prop where
 q : QW H v hs ats
 l8 : ats.length ≤ 8
 nd : hs.Nodup
 l1 : 1 ≤ hs.length
 hu : ∀ z ∈ hs, z ∈ flatA ats ∧ isUnk z = true
theorem VQ.keep {H H' : Hp} {v : V} {hs : List Str} {ats : List (Str × List Str)} (t : Tups H H') (x : VQ H v hs ats) : VQ H' v hs ats := ⟨x.q.keep t, x.l8, x.nd, x.l1, x.hu⟩
def spViewQ (K : PySem.W.Frag) : Sp := fun vs H Q _ => ∃ (f nl : Addr) (most : Int) (nms : List Str), vs = [.ref f, .ref nl, .int most] ∧ Feed K f H ∧ nl ≠ f ∧ (H nl = some (.lst (nms.map V.str)) ∧ 1 ≤ nms.length ∧ nms.length ≤ 100) ∧ (∀ z ∈ nms, z ∈ wordsPool) ∧ 1 ≤ most ∧ most ≤ 4 ∧
 ∀ (r : Addr) (hs : List Str) (ats : List (Str × List Str)) (H' : Hp), Feed K f H' → Ext f H H' → VQ H' (.ref r) hs ats → Q (.ref r) H'
section
variable {P : Program} {w : World} {K : PySem.W.Frag} {mg : Str → Option Value} {base : Heap}
theorem rd_cutS {a : Addr} {H : Hp} {xs : List V} {lo hi : Option Int} {Q : VK} (ha : H a = some (.tup xs))
  (k : ∀ (p : Addr) (H' : Hp), Same H H' → H' p = some (.tup (cutV xs lo hi)) → Q (.ref p) H') : rSlA K (.ref a) lo hi H Q := by
 refine ⟨a, xs, rfl, SqT.of ha, fun h => ?_, fun h p hp => ?_⟩
 ·refine k a H (Same.refl H) ?_
  unfold cutV
  rw [h.1, h.2, List.drop_zero, Nat.sub_zero, List.take_length]
  exact ha
 ·exact k p _ (same_new hp _) upd_same
theorem rd_catS {a b : Addr} {H : Hp} {xs ys : List V} {Q : VK} (ha : H a = some (.tup xs)) (hb : H b = some (.tup ys)) (hl : xs.length + ys.length ≤ 1000)
  (k : ∀ (p : Addr) (H' : Hp), Same H H' → H' p = some (.tup (xs ++ ys)) → Q (.ref p) H') : rCatA K (.ref a) (.ref b) H Q := by
 refine ⟨a, b, xs, ys, rfl, rfl, SqT.of ha, SqT.of hb, Nat.le_of_lt (small1000 hl), fun h => ?_, fun _ h => ?_, fun _ _ p hp => ?_⟩
 ·exact k b H (Same.refl H) (by rw [h, List.nil_append]; exact hb)
 ·exact k a H (Same.refl H) (by rw [h, List.append_nil]; exact ha)
 ·exact k p _ (same_new hp _) upd_same
structure Dw (P : Program) (w : World) (K : PySem.W.Frag) (mg : Str → Option Value) (base : Heap) : Prop where
 l_draw : DefOk P w K mg base 1 "_law_draw" ["_law_feed_here", "_law_many"] (spDraw K)
 l_question : DefOk P w K mg base 3 "_law_question" ["_law_feed_here", "_law_names", "_law_most"] (spQuestionD K)
 l_unknowns : DefOk P w K mg base 1 "_law_unknowns" ["_law_question_here"] spUnksQ
theorem sc_l_view_question : FnScope ["_law_feed_here", "_law_names", "_law_most", "_law_made", "_law_some", "_law_name", "_law_terms", "_law_head_here", "_law_k", "_law_unknown"] ["_law_feed_here", "_law_names", "_law_most"] (defScope s_l_view_question) := ⟨rfl, rfl, rfl, by decide +kernel, rfl, by decide +kernel, by decide +kernel⟩
theorem a_unk : uWord "a" = "?a" := by decide +kernel
theorem ok_viewQ {f : Addr} {fd : FuncData} (F : Fun K "_law_view_question" "_law_view_question" s_l_view_question f fd) (T : Txt K mg) (D : Dw P w K mg base) : FnOk P w K mg base CX0 4 f fd ["_law_feed_here", "_law_names", "_law_most"] (spViewQ K) := by
 refine F.ok sc_l_view_question (fun vs H Q E h => ?_) (fun cdv A outer s H vs Q E hr h => ?_)
 ·obtain ⟨a, b, c, d, rfl, _⟩ := h
  rfl
 obtain ⟨fe, nl, most, nms, rfl, hF, nnl, ⟨hnl, hn1, hn2⟩, hnw, hm1, hm2, k⟩ := h
 refine cut 3 (fun σ H2 => ∃ (qa h0 aa sl : Addr) (x5 x6 : Option V) (avs : List V) (ats : List (Str × List Str)) (us : List Str), σ = [some (.ref fe), some (.ref nl), some (.int most), some (.ref qa), some (.ref sl), x5, x6, none, none, none] ∧ H2 qa = some (.tup [.ref h0, .ref aa]) ∧ H2 aa = some (.tup avs) ∧ AtomsAt H2 avs ats ∧ (1 ≤ ats.length ∧ ats.length ≤ 8) ∧ GoodT ats ∧ sl ≠ fe ∧ H2 sl = some (.lst (us.map V.str)) ∧ 1 ≤ us.length ∧ us.length ≤ 100 ∧ (∀ z ∈ us, z ∈ flatA ats ∧ isUnk z = true ∧ z.length ≤ 100) ∧ Feed K fe H2 ∧ Ext fe H H2)
  ⟨_, (pss_cons (ps_set (i := 7) sc_l_view_question.nd rfl (Or.inl rfl) (pe_lst pa_nil))
   (pss_cons (ps_for PassesOwn.never rfl (pi_range1 rfl T.n_range (pa_cons (pe_op op_add pe_int (cl D.l_draw hr (pa_cons (pv 0) (pa_cons pe_int pa_nil)))) pa_nil)) (pg_name (i := 8) sc_l_view_question.nd rfl (Or.inl rfl))
   (pss_cons (ps_set (i := 9) sc_l_view_question.nd rfl (Or.inl rfl) (pe_ix ix_list (pv 4) (cl D.l_draw hr (pa_cons (pv 0) (pa_cons (pe_callB call_len rfl T.n_len PySem.boot_len (pa_cons (pv 4) pa_nil)) pa_nil))) (fun _ _ => rfl)))
   (pss_one (ps_if (pt_cmpR op_notIn_seq (pv 9) (pv 7) (by with_unfolding_all rfl)) (pss_one (ps_expr (pe_bm PySem.F.plainAttrs_list PySem.F.slot_list_append PySem.F.type_list_append mt_append (pv 7) (pa_cons (pv 9) pa_nil)))) pss_nil))))
   (pss_one (ps_ret (pe_tup (pa_cons (pe_callTy call_tuple_of rfl T.n_tuple (by decide +kernel) (pa_cons (pv 7) pa_nil)) (pa_cons (pe_ix ix_tup (pv 3) pe_int (fun _ _ => rfl)) pa_nil))))))), ?_⟩ (fun t2 ht => ⟨_, (pss_cons (ps_set (i := 3) sc_l_view_question.nd rfl (Or.inl rfl) (cl D.l_question hr (pa_cons (pv 0) (pa_cons (pv 1) (pa_cons (pv 2) pa_nil)))))
   (pss_cons (ps_set (i := 4) sc_l_view_question.nd rfl (Or.inl rfl) (cl D.l_unknowns hr (pa_cons (pv 3) pa_nil)))
   (pss_cons (ps_if (pt_cmpR (op_eqN hr.units0) (pv 4) (pe_lst pa_nil) (nomark _)) (pss_cons (ps_asg (pe_ix ix_tup (pe_ix ix_tup (pv 3) pe_int (fun _ _ => rfl)) pe_int (fun _ _ => rfl)) (pg_tup rfl (pgs_cons (pg_name (i := 5) sc_l_view_question.nd rfl (Or.inl rfl)) (pgs_cons (pg_name (i := 6) sc_l_view_question.nd rfl (Or.inl rfl)) pgs_nil))))
   (pss_cons (ps_set (i := 3) sc_l_view_question.nd rfl (Or.inl rfl) (pe_tup (pa_cons (pe_ix ix_tup (pv 3) pe_int (fun _ _ => rfl)) (pa_cons (pe_op op_catA (pe_tup (pa_cons (pe_tup (pa_cons (pv 5) (pa_cons (pe_op op_catA (pe_tup (pa_cons pe_str pa_nil)) (pe_slice sl_tupA (pv 6) (po_some pe_int) po_none)) pa_nil))) pa_nil)) (pe_slice sl_tupA (pe_ix ix_tup (pv 3) pe_int (fun _ _ => rfl)) (po_some pe_int) po_none)) pa_nil))))
   (pss_one (ps_set (i := 4) sc_l_view_question.nd rfl (Or.inl rfl) (pe_lst (pa_cons pe_str pa_nil)))))) pss_nil) ht))), fun tl => ?_⟩)
 ·rintro σ H2 ⟨qa, h0, aa, sl, x5, x6, avs, ats, us, rfl, hqa, haa, hA, ⟨l1, l8⟩, hg, nsl, hsl, hu1, hu2, huu, hF2, ex2⟩
  have lu : (us.map V.str).length = us.length := List.length_map _
  -- head = []
  refine ⟨(by show 0 ≤ sizeLine; decide), fun t ht => ?_⟩
  have nt := hF2.nef ht
  have nts : sl ≠ t := ne_of_none hsl ht
  refine ⟨_, rfl, fe, 4, rfl, hF2.new ht _, by decide, by decide, fun i3 H3 a0 a1 hF3 ex3 => ⟨_, _, rfl, rfl, ?_⟩⟩
  have ex23 : Ext fe H2 H3 := ((Ext.refl fe H2).new ht _).trans ex3
  refine ⟨_, rfl, by omega, by omega, for_range (lo := 0) (n := (1 + i3).toNat)
   (fun j σ H4 => ∃ (x8 x9 : Option V) (hs : List Str), σ = [some (.ref fe), some (.ref nl), some (.int most), some (.ref qa), some (.ref sl), x5, x6, some (.ref t), x8, x9] ∧ Feed K fe H4 ∧ Ext fe H2 H4 ∧ H4 t = some (.lst (hs.map V.str)) ∧ hs.length ≤ j ∧ (1 ≤ j → hs ≠ []) ∧ hs.Nodup ∧ ∀ z ∈ hs, z ∈ us)
   ⟨none, none, [], rfl, hF3, ex23, ex3 _ _ nt upd_same, Nat.le_refl _, fun h => absurd h (by decide), .nil, fun z h => by cases h⟩ ?_ ?_⟩
  ·rintro j σ H4 hj ⟨x8, x9, hs, rfl, hF4, ex4, ht4, hl, hne, hnd, hsu⟩
   refine ⟨_, rfl, _, rfl, _, rfl, _, _, rfl, .inl ⟨_, SqL.of (ex4 _ _ nsl hsl), rfl⟩, fe, _, rfl, hF4, by omega, by omega, fun i5 H5 b0 b1 hF5 ex5 => ?_⟩
   obtain ⟨z, hz, ev⟩ := pick_str (zs := us) b0 (by omega)
   have ex25 := ex4.trans ex5
   have ht5 := ex5 _ _ nt ht4
   refine ⟨_, _, _, _, rfl, rfl, SqL.of (ex25 _ _ nsl hsl), ev, ?_⟩
   refine ⟨_, rfl, _, rfl, t, _, rfl, .inl (SqL.of ht5), rfl, flat_V _, _, rfl, ?_⟩
   show if (!inV (.str z) (hs.map V.str)) = true then _ else _
   rw [inV_str]
   refine ite2 (fun c1 => ?_) (fun c1 => ?_)
   ·have c1 : z ∉ hs := by simpa using c1
    refine ⟨_, rfl, .inl ⟨rfl, _, SqL.of ht5⟩, _, rfl, _, _, _, rfl, rfl, ht5, by rw [List.length_map]; exact small1000 (by omega), ?_⟩
    refine ⟨_, _, hs ++ [z], rfl, hF5.lst ht5 nt _, ex25.own ht _, by rw [upd_same, List.map_append]; rfl, by rw [List.length_append]; show hs.length + 1 ≤ j + 1; omega, fun _ h => by simp at h, nd_snoc.mpr ⟨hnd, c1⟩, fun y hy => ?_⟩
    rcases List.mem_append.mp hy with hy | hy
    ·exact hsu y hy
    ·rw [List.mem_singleton.mp hy]
     exact hz
   ·have c1 : z ∈ hs := by simpa using c1
    exact ⟨_, _, hs, rfl, hF5, ex25, ht5, by omega, fun _ h => by (rw [h] at c1; cases c1), hnd, hsu⟩
  ·rintro σ H4 ⟨x8, x9, hs, rfl, hF4, ex4, ht4, hl, hne, hnd, hsu⟩
   have tu4 := hF2.tups ex4
   refine ⟨_, rfl, t, _, rfl, .inl ⟨SqL.of ht4, fun tp htp => ?_⟩⟩
   have tu5 := (Tups.refl H4).new htp (.tup (hs.map V.str))
   have tu25 := tu4.trans tu5
   refine ⟨_, rfl, _, _, _, _, rfl, rfl, SqT.of (tu25 _ _ hqa), rfl, (by show 2 ≤ sizeLine; decide), fun q hq => ?_⟩
   have tu6 := (Tups.refl _).new hq (.tup [.ref tp, .ref aa])
   have tu := tu25.trans tu6
   have nq : tp ≠ q := fun e => by rw [← e, upd_same] at hq; cases hq
   have hFq := (hF4.new htp (.tup (hs.map V.str))).new hq (.tup [.ref tp, .ref aa])
   have hne1 : 1 ≤ hs.length := by
    have := hne (by omega)
    cases hs with
    | nil => exact absurd rfl this
    | cons _ _ => exact Nat.succ_le_succ (Nat.zero_le _)
   refine k q hs ats _ hFq (((ex2.trans ex4).new htp _).new hq _) ⟨⟨⟨q, tp, aa, avs, rfl, upd_same, by rw [upd_ne nq, upd_same], tu _ _ haa, AtomsAt.keep tu hA⟩, l1, by omega, hg, by omega, fun z hz => hg.flat (huu z (hsu z hz)).1⟩, l8, hnd, hne1, fun z hz => ⟨(huu z (hsu z hz)).1, (huu z (hsu z hz)).2.1⟩⟩
 ·-- made
  refine ⟨_, rfl, _, rfl, _, rfl, fe, nl, most, nms, rfl, hF, nnl, ⟨hnl, hn1, hn2⟩, hm1, by omega, fun r hz ats H1 hF1 ex1 hQ l1 l2 hgw hz4 hzz => ?_⟩
  obtain ⟨q, h0, aa, avs, e, hq, hh0, haa, hA⟩ := hQ
  cases e
  have l8 : ats.length ≤ 8 := by omega
  have hg : GoodT ats := fun a ha => by
   obtain ⟨g1, g2, g3, g4⟩ := hgw a ha
   exact ⟨word_N (hnw _ g1), g2, g3, fun z hz => (g4 z hz).elim unk_T word_T⟩
  -- some
  have hqw : QW H1 (.ref r) hz ats := ⟨⟨_, _, _, _, rfl, hq, hh0, haa, hA⟩, l1, by omega, hg, by omega, fun z hz' => hg.flat (hzz z hz')⟩
  refine ⟨_, rfl, .ref r, hz, ats, rfl, hqw, fun sl H2 sm2 nsl0 hsl => ?_⟩
  have nsl : sl ≠ fe := hF1.nef nsl0
  have hF2 := hF1.same sm2
  have ex2 := ex1.trans (Ext.of sm2)
  refine ⟨_, rfl, (by show 0 ≤ sizeLine; decide), fun l2' hl2' => ?_⟩
  have hsl' : upd H2 l2' (.lst []) sl = some (.lst ((unkL (flatA ats)).map V.str)) := by
   rw [upd_ne (ne_of_none hsl hl2')]
   exact hsl
  refine ⟨_, _, _, rfl, rfl, SqL.of hsl', SqL.of upd_same, _, rfl, ?_⟩
  have hF3 := hF2.new hl2' (.lst [])
  have ex3 := ex2.new hl2' (.lst [])
  have tu3 : Tups H1 (upd H2 l2' (.lst [])) := (Tups.of sm2).new hl2' _
  generalize upd H2 l2' (.lst []) = H3 at hsl' hF3 ex3 tu3 ⊢
  have lfl : (flatA ats).length ≤ 32 := by
   have := len_all ats fun a ha => (hg a ha).2.2.1
   omega
  refine ite2 (fun c => ?_) (fun c => ?_)
  ·-- no unknown
   match ats, avs, hA, l1, l8, hg with
   | a :: ats', _, .cons (a := av) (l₁ := avs') ⟨ap, tp, ea, hap, htp⟩ hA', l1, l8, hg =>
    subst ea
    have ga := hg a List.mem_cons_self
    refine ⟨_, rfl, _, _, _, _, rfl, rfl, SqT.of (tu3 _ _ hq), rfl, _, _, _, _, rfl, rfl, SqT.of (tu3 _ _ haa), atI_nat (j := 0) rfl, ap, _, rfl, SqT.of (tu3 _ _ hap), rfl, _, _, rfl, _, _, rfl, rfl, ?_⟩
    -- made = (made[0], ((name, ("?a",) + terms[1:]),) + made[1][1:])
    refine ⟨_, rfl, _, _, _, _, rfl, rfl, SqT.of (tu3 _ _ hq), rfl, _, rfl, (by show 1 ≤ sizeLine; decide), fun p4 hp4 => ?_⟩
    have sm4 : Same H3 (upd H3 p4 (.tup [.str "?a"])) := same_new hp4 _
    have hp4' : upd H3 p4 (.tup [.str "?a"]) p4 = some (.tup [.str "?a"]) := upd_same
    generalize upd H3 p4 (.tup [.str "?a"]) = H4 at sm4 hp4' ⊢
    have htp4 := sm4 _ _ (tu3 _ _ htp)
    refine ⟨_, rfl, _, rfl, noPart (rd_cutS htp4 fun p5 H5 sm5 hp5 => ?_)⟩
    have ec : cutV (a.2.map V.str) (some 1) none = (a.2.drop 1).map V.str := by
     rw [show (1 : Int) = ((1 : Nat) : Int) from rfl, cut_from, List.map_drop]
    rw [ec] at hp5
    have ld : (a.2.drop 1).length ≤ 4 := by
     rw [List.length_drop]
     have := ga.2.2.1
     omega
    refine rd_catS (sm5 _ _ hp4') hp5 (by rw [List.length_map]; show 1 + (a.2.drop 1).length ≤ 1000; omega) fun p6 H6 sm6 hp6 => ?_
    refine ⟨(by show 2 ≤ sizeLine; decide), fun p7 hp7 => ?_⟩
    have sm7 : Same H6 (upd H6 p7 (.tup [.str a.1, .ref p6])) := same_new hp7 _
    have hp7' : upd H6 p7 (.tup [.str a.1, .ref p6]) p7 = some (.tup [.str a.1, .ref p6]) := upd_same
    generalize upd H6 p7 (.tup [.str a.1, .ref p6]) = H7 at sm7 hp7' ⊢
    refine ⟨(by show 1 ≤ sizeLine; decide), fun p8 hp8 => ?_⟩
    have sm8 : Same H7 (upd H7 p8 (.tup [.ref p7])) := same_new hp8 _
    have hp8' : upd H7 p8 (.tup [.ref p7]) p8 = some (.tup [.ref p7]) := upd_same
    generalize upd H7 p8 (.tup [.ref p7]) = H8 at sm8 hp8' ⊢
    have sm38 : Same H3 H8 := sm4.trans (sm5.trans (sm6.trans (sm7.trans sm8)))
    refine ⟨_, rfl, _, _, _, _, rfl, rfl, SqT.of (sm38 _ _ (tu3 _ _ hq)), rfl, _, rfl, noPart (rd_cutS (sm38 _ _ (tu3 _ _ haa)) fun p9 H9 sm9 hp9 => ?_)⟩
    have ec2 : cutV (V.ref ap :: avs') (some 1) none = avs' := by
     rw [show (1 : Int) = ((1 : Nat) : Int) from rfl, cut_from]
     rfl
    rw [ec2] at hp9
    have lav : avs'.length = ats'.length := Paired.length hA'
    have l8' : ats'.length + 1 ≤ 8 := l8
    refine rd_catS (sm9 _ _ hp8') hp9 (by show 1 + avs'.length ≤ 1000; omega) fun p10 H10 sm10 hp10 => ?_
    refine ⟨(by show 2 ≤ sizeLine; decide), fun p11 hp11 => ?_⟩
    have sm11 : Same H10 (upd H10 p11 (.tup [.ref h0, .ref p10])) := same_new hp11 _
    have hp11' : upd H10 p11 (.tup [.ref h0, .ref p10]) p11 = some (.tup [.ref h0, .ref p10]) := upd_same
    generalize upd H10 p11 (.tup [.ref h0, .ref p10]) = H11 at sm11 hp11' ⊢
    have sm611 : Same H6 H11 := sm7.trans (sm8.trans (sm9.trans (sm10.trans sm11)))
    have sm311 : Same H3 H11 := sm38.trans (sm9.trans (sm10.trans sm11))
    have hF11 := hF3.same sm311
    -- some = ["?a"]
    refine ⟨(by show 1 ≤ sizeLine; decide), fun l12 hl12 => ?_⟩
    have n12 := hF11.nef hl12
    have tu12 : Tups H11 (upd H11 l12 (.lst [.str "?a"])) := (Tups.refl H11).new hl12 _
    have ua : ("?a" : Str) ∈ unkPool := by
     rw [← a_unk]
     exact List.mem_map_of_mem (by decide +kernel)
    refine tl _ _ ⟨p11, h0, p10, l12, _, _, [.ref p7] ++ avs', (a.1, "?a" :: a.2.drop 1) :: ats', ["?a"], rfl, tu12 _ _ hp11', tu12 _ _ (sm11 _ _ hp10), ?_, ⟨l1, l8⟩, fun b hb => ?_, n12, upd_same, Nat.le_refl _, by decide, fun z hz => ?_, hF11.new hl12 _, (ex3.trans (Ext.of sm311)).new hl12 _⟩
    ·refine .cons ⟨p7, p6, rfl, tu12 _ _ ((sm8.trans (sm9.trans (sm10.trans sm11))) _ _ hp7'), tu12 _ _ (sm611 _ _ hp6)⟩ (AtomsAt.keep ((tu3.trans (Tups.of sm311)).trans tu12) hA')
    ·rcases List.mem_cons.mp hb with rfl | hb
     ·refine ⟨ga.1, by show 1 ≤ (a.2.drop 1).length + 1; omega, by show (a.2.drop 1).length + 1 ≤ 4; rw [List.length_drop]; have := ga.2.2.1; have := ga.2.1; omega, fun z hz => ?_⟩
      rcases List.mem_cons.mp hz with rfl | hz
      ·exact unk_T ua
      ·exact ga.2.2.2 z (List.mem_of_mem_drop hz)
     ·exact hg b (List.mem_cons_of_mem _ hb)
    ·rw [List.mem_singleton.mp hz]
     exact ⟨flatA_mem.mpr ⟨_, List.mem_cons_self, List.mem_cons_self⟩, unk_U ua, (unk_T ua).2.1⟩
  ·have c : (unkL (flatA ats)).isEmpty = false := by
    have c : ¬ ((unkL (flatA ats)).map V.str).isEmpty = true := c
    rw [isEmpty_map] at c
    exact Bool.eq_false_iff.mpr c
   have lu := len_unk (flatA ats)
   have lu1 : 1 ≤ (unkL (flatA ats)).length := by
    cases e : unkL (flatA ats) with
    | nil => rw [e] at c; cases c
    | cons _ _ => exact Nat.succ_le_succ (Nat.zero_le _)
   refine tl _ _ ⟨r, h0, aa, sl, none, none, avs, ats, unkL (flatA ats), rfl, tu3 _ _ hq, tu3 _ _ haa, AtomsAt.keep tu3 hA, ⟨l1, l8⟩, hg, nsl, hsl', lu1, by omega, fun z hz => ?_, hF3, ex3⟩
   rw [unk_ded, mem_ded, List.mem_filter] at hz
   exact ⟨hz.1, hz.2, (hg.flat hz.1).2.1⟩
end
abbrev View := Str × List Str × List (Str × List Str)
def VW (H : Hp) (v : V) (x : View) : Prop := ∃ (p : Addr) (q : V), v = .ref p ∧ H p = some (.tup [.str x.1, q]) ∧ VQ H q x.2.1 x.2.2 ∧ NameOk x.1
theorem VW.keep {H H' : Hp} {v : V} {x : View} (t : Tups H H') (h : VW H v x) : VW H' v x := by
 obtain ⟨p, q, e, hp, hq, hn⟩ := h
 exact ⟨p, q, e, t _ _ hp, hq.keep t, hn⟩
abbrev VWs (H : Hp) : List V → List View → Prop := Paired (VW H)
theorem VWs.keep {H H' : Hp} (a : Tups H H') {vs : List V} {xs : List View} (h : VWs H vs xs) : VWs H' vs xs := Paired.imp' (fun _ _ q => q.keep a) h
def spViewsD (K : PySem.W.Frag) : Sp := fun vs H Q _ => ∃ (f nl : Addr) (many : Int) (nms : List Str), vs = [.ref f, .ref nl, .int many] ∧ Feed K f H ∧ nl ≠ f ∧ (H nl = some (.lst (nms.map V.str)) ∧ 1 ≤ nms.length ∧ nms.length ≤ 100) ∧ (∀ z ∈ nms, z ∈ wordsPool) ∧ 0 ≤ many ∧ many ≤ 12 ∧
 ∀ (r : Addr) (vws : List V) (xs : List View) (H' : Hp), Feed K f H' → Ext f H H' → r ≠ f → H r = none → H' r = some (.lst vws) → VWs H' vws xs → (xs.length : Int) = many → (xs.map (·.1)).Nodup → Q (.ref r) H'
section
variable {P : Program} {w : World} {K : PySem.W.Frag} {mg : Str → Option Value} {base : Heap}
structure Dx (P : Program) (w : World) (K : PySem.W.Frag) (mg : Str → Option Value) (base : Heap) : Prop where
 l_words : DefOk P w K mg base 2 "_law_words" ["_law_feed_here", "_law_many"] (spWords K)
 l_view_question : DefOk P w K mg base 4 "_law_view_question" ["_law_feed_here", "_law_names", "_law_most"] (spViewQ K)
theorem sc_l_views : FnScope ["_law_feed_here", "_law_names", "_law_many"] ["_law_feed_here", "_law_names", "_law_many"] (defScope s_l_views) := ⟨rfl, rfl, rfl, by decide +kernel, rfl, by decide +kernel, by decide +kernel⟩
theorem ok_viewsD {f : Addr} {fd : FuncData} (F : Fun K "_law_views" "_law_views" s_l_views f fd) (T : Txt K mg) (D : Dx P w K mg base) : FnOk P w K mg base CX0 5 f fd ["_law_feed_here", "_law_names", "_law_many"] (spViewsD K) := by
 refine F.ok sc_l_views (fun vs H Q E h => ?_) (fun cdv A outer s H vs Q E hr h => ?_)
 ·obtain ⟨a, b, c, d, rfl, _⟩ := h
  rfl
 obtain ⟨fe, nl, many, nms, rfl, hF, nnl, ⟨hnl, hn1, hn2⟩, hnw, hm1, hm2, k⟩ := h
 refine ⟨_, (pss_one (ps_ret (pe_comp rfl (compSc_mk (fs := ["_law_feed_here", "_law_names"]) (fr := [0, 1])) (pi_list (pe_slice sl_list (cl D.l_words hr (pa_cons (pv 0) (pa_cons pe_int pa_nil))) po_none (po_some (pv 2)))) (fun _ _ _ _ => (pe_tup (pa_cons (pv 0) (pa_cons (cl D.l_view_question hr (pa_cons (pv 1) (pa_cons (pv 2) (pa_cons pe_int pa_nil)))) pa_nil))))))), ?_⟩
 refine ⟨_, rfl, fe, 12, rfl, hF, by decide, by decide, fun wl ws H1 hF1 ex1 nwl hwl0 hwl hlw ndw hin => ?_⟩
 refine noPart ⟨_, rfl, _, rfl, wl, _, rfl, SqL.of hwl, fun l hl => ?_⟩
 have e0 : many = ((many.toNat : Nat) : Int) := by omega
 have ec : cutV (ws.map V.str) none (some many) = (ws.take many.toNat).map V.str := by
  rw [e0, cut_to, List.map_take]
  rfl
 rw [ec]
 have nl' := hF1.nef hl
 have hF2 := hF1.new hl (.lst ((ws.take many.toNat).map V.str))
 have ex2 := ex1.new hl (.lst ((ws.take many.toNat).map V.str))
 have hll : upd H1 l (.lst ((ws.take many.toNat).map V.str)) l = some (.lst ((ws.take many.toNat).map V.str)) := upd_same
 generalize upd H1 l (.lst ((ws.take many.toNat).map V.str)) = H2 at hF2 ex2 hll ⊢
 have lw : (ws.take many.toNat).length = many.toNat := by rw [List.length_take]; omega
 have ndt : (ws.take many.toNat).Nodup := ndw.sublist (List.take_sublist _ _)
 have hin' : ∀ z ∈ ws.take many.toNat, z ∈ wordsPool := fun z hz => hin z (List.mem_of_mem_take hz)
 generalize ws.take many.toNat = us at lw ndt hin' hll
 refine ⟨l, rfl, ⟨_, SqL.of hll⟩, comp_list (K := K) (a := l) (xs := us.map V.str) (fun i ys H3 => Feed K fe H3 ∧ Ext fe H2 H3 ∧ i ≤ us.length ∧ ys.length = i ∧ ∃ xs : List View, VWs H3 ys xs ∧ xs.map (·.1) = us.take i) (by rw [List.length_map]; exact small1000 (by omega)) ⟨hF2, Ext.refl _ _, Nat.zero_le _, rfl, [], .nil, rfl⟩ ?_ ?_ ?_⟩
 ·rintro i ys H3 hi ⟨hF3, ex3, hi', hy, _⟩
  exact ⟨SqL.of (ex3 _ _ nl' hll), by omega⟩
 ·rintro i x ys H3 N hc ⟨hF3, ex3, hi, hly, xs, hall, hnm⟩ hN
  have hlt : i < (us.map V.str).length := (List.getElem?_eq_some_iff.mp hc).1
  rw [List.length_map] at hlt
  rw [List.getElem?_map, List.getElem?_eq_getElem hlt] at hc
  obtain rfl : V.str us[i] = x := Option.some.inj hc
  have hw := word_N (hin' _ (List.getElem_mem hlt))
  refine rd_true ?_
  refine ⟨_, rfl, _, rfl, _, rfl, fe, nl, 2, nms, rfl, hF3, nnl, ⟨ex3 _ _ nnl (ex2 _ _ nnl hnl), hn1, hn2⟩, hnw, by decide, by decide, fun r hs ats H4 hF4 ex4 hV4 => ?_⟩
  refine ⟨(by show 2 ≤ sizeLine; decide), fun p hp => ?_⟩
  have ex5 : Ext fe H4 (upd H4 p (.tup [.str us[i], .ref r])) := (Ext.refl fe H4).new hp _
  have hF5 := hF4.new hp (.tup [.str us[i], .ref r])
  have np := hF4.nef hp
  have hpp : upd H4 p (.tup [.str us[i], .ref r]) p = some (.tup [.str us[i], .ref r]) := upd_same
  generalize upd H4 p (.tup [.str us[i], .ref r]) = H5 at ex5 hF5 hpp ⊢
  have ex35 := ex4.trans ex5
  have tu35 := hF3.tups ex35
  refine hN _ _ ⟨hF5, ex3.trans ex35, hlt, by rw [List.length_append, hly]; rfl, xs ++ [(us[i], hs, ats)], Paired.snoc' (VWs.keep tu35 hall) ⟨p, .ref r, rfl, hpp, hV4.keep (hF4.tups ex5), hw⟩, ?_⟩
  rw [List.map_append, hnm, List.take_add_one, List.getElem?_eq_getElem hlt]
  rfl
 ·rintro ys H3 ⟨hF3, ex3, hi, hly, xs, hall, hnm⟩ l2 hl2
  rw [List.length_map] at hly hnm
  rw [List.take_length] at hnm
  have ex4 : Ext fe H3 (upd H3 l2 (.lst ys)) := (Ext.refl fe H3).new hl2 _
  have lx : xs.length = us.length := by
   have := congrArg List.length hnm
   rw [List.length_map] at this
   exact this
  refine k l2 ys xs _ (hF3.new hl2 _) ((ex2.trans ex3).trans ex4) (hF3.nef hl2) ?_ upd_same (VWs.keep (hF3.tups ex4) hall) (by omega) ?_
  ·exact (ex2.trans ex3).none (hF3.nef hl2) hl2
  ·rw [hnm]
   exact ndt
end
def OverV (xs : List View) (ats : List (Str × List Str)) : Prop := ∀ a ∈ ats, ∃ x ∈ xs, a.1 = x.1 ∧ a.2.length = x.2.1.length
def spOver (K : PySem.W.Frag) : Sp := fun vs H Q _ => ∃ (f vl : Addr) (vws : List V) (xs : List View), vs = [.ref f, .ref vl] ∧ Feed K f H ∧ vl ≠ f ∧ H vl = some (.lst vws) ∧ VWs H vws xs ∧ 1 ≤ xs.length ∧ xs.length ≤ 12 ∧
 ∀ (r : Addr) (hz : List Str) (ats : List (Str × List Str)) (H' : Hp), Feed K f H' → Ext f H H' → QW H' (.ref r) hz ats → ats.length ≤ 3 → OverV xs ats → (∀ z ∈ hz, z ∈ flatA ats) → Q (.ref r) H'
section
variable {P : Program} {w : World} {K : PySem.W.Frag} {mg : Str → Option Value} {base : Heap}
theorem pick_v {vs : List V} {i : Int} (h0 : 0 ≤ i) (h1 : i < (vs.length : Int)) : ∃ (j : Nat) (v : V), i = (j : Int) ∧ vs[j]? = some v ∧ atI vs i = some v := by
 have hl : i.toNat < vs.length := by omega
 refine ⟨i.toNat, vs[i.toNat], by omega, List.getElem?_eq_getElem hl, ?_⟩
 have e : ((i.toNat : Nat) : Int) = i := by omega
 have := atI_nat (xs := vs) (j := i.toNat) (List.getElem?_eq_getElem hl)
 rwa [e] at this
theorem word_a : ("a" : Str) ∈ wordsPool := by decide +kernel
structure Dov (P : Program) (w : World) (K : PySem.W.Frag) (mg : Str → Option Value) (base : Heap) : Prop where
 l_draw : DefOk P w K mg base 1 "_law_draw" ["_law_feed_here", "_law_many"] (spDraw K)
 l_words : DefOk P w K mg base 2 "_law_words" ["_law_feed_here", "_law_many"] (spWords K)
 l_head : DefOk P w K mg base 2 "_law_head" ["_law_feed_here", "_law_atoms"] (spHeadD K)
theorem sc_l_over : FnScope ["_law_feed_here", "_law_views_here", "_law_unknowns_here", "_law_atoms", "_law_k", "_law_name", "_law_made", "_law_terms", "_law_j"] ["_law_feed_here", "_law_views_here"] (defScope s_l_over) := ⟨rfl, rfl, rfl, by decide +kernel, rfl, by decide +kernel, by decide +kernel⟩
theorem ok_over {f : Addr} {fd : FuncData} (F : Fun K "_law_over" "_law_over" s_l_over f fd) (T : Txt K mg) (D : Dov P w K mg base) : FnOk P w K mg base CX0 3 f fd ["_law_feed_here", "_law_views_here"] (spOver K) := by
 refine F.ok sc_l_over (fun vs H Q E h => ?_) (fun cdv A outer s H vs Q E hr h => ?_)
 ·obtain ⟨a, b, c, d, rfl, _⟩ := h
  rfl
 obtain ⟨fe, vl, vws, xs, rfl, hF, nvl, hvl, hV, hx1, hx2, k⟩ := h
 have lvx : vws.length = xs.length := Paired.length hV
 refine cut 1 (fun σ H2 => ∃ (ul : Addr) (us : List Str), σ = [some (.ref fe), some (.ref vl), some (.ref ul), none, none, none, none, none, none] ∧ ul ≠ fe ∧ H2 ul = some (.lst (us.map V.str)) ∧ 1 ≤ us.length ∧ us.length ≤ 100 ∧ (∀ z ∈ us, z ∈ unkPool) ∧ Feed K fe H2 ∧ Ext fe H H2)
  ⟨_, (pss_cons (ps_set (i := 3) sc_l_over.nd rfl (Or.inl rfl) (pe_lst pa_nil))
   (pss_cons (ps_for PassesOwn.never rfl (pi_range1 rfl T.n_range (pa_cons (pe_op op_add pe_int (cl D.l_draw hr (pa_cons (pv 0) (pa_cons pe_int pa_nil)))) pa_nil)) (pg_name (i := 4) sc_l_over.nd rfl (Or.inl rfl))
   (pss_cons (ps_asg (pe_ix ix_list (pv 1) (cl D.l_draw hr (pa_cons (pv 0) (pa_cons (pe_callB call_len rfl T.n_len PySem.boot_len (pa_cons (pv 1) pa_nil)) pa_nil))) (fun _ _ => rfl)) (pg_tup rfl (pgs_cons (pg_name (i := 5) sc_l_over.nd rfl (Or.inl rfl)) (pgs_cons (pg_name (i := 6) sc_l_over.nd rfl (Or.inl rfl)) pgs_nil))))
   (pss_cons (ps_set (i := 7) sc_l_over.nd rfl (Or.inl rfl) (pe_lst pa_nil))
   (pss_cons (ps_for PassesOwn.never rfl (pi_range1 rfl T.n_range (pa_cons (pe_callB call_len rfl T.n_len PySem.boot_len (pa_cons (pe_ix ix_tup (pv 6) pe_int (fun _ _ => rfl)) pa_nil)) pa_nil)) (pg_name (i := 8) sc_l_over.nd rfl (Or.inl rfl))
   (pss_one (ps_expr (pe_bm PySem.F.plainAttrs_list PySem.F.slot_list_append PySem.F.type_list_append mt_append (pv 7) (pa_cons (pe_ix ix_list (pe_op op_cat (pe_op op_cat (pv 2) (pv 2)) (pe_lst (pa_cons pe_str pa_nil))) (cl D.l_draw hr (pa_cons (pv 0) (pa_cons (pe_op op_add (pe_op op_mul pe_int (pe_callB call_len rfl T.n_len PySem.boot_len (pa_cons (pv 2) pa_nil))) pe_int) pa_nil))) (fun _ _ => rfl)) pa_nil)))))
   (pss_one (ps_expr (pe_bm PySem.F.plainAttrs_list PySem.F.slot_list_append PySem.F.type_list_append mt_append (pv 3) (pa_cons (pe_tup (pa_cons (pv 5) (pa_cons (pe_callTy call_tuple_of rfl T.n_tuple (by decide +kernel) (pa_cons (pv 7) pa_nil)) pa_nil))) pa_nil))))))))
   (pss_one (ps_ret (pe_tup (pa_cons (cl D.l_head hr (pa_cons (pv 0) (pa_cons (pv 3) pa_nil))) (pa_cons (pe_callTy call_tuple_of rfl T.n_tuple (by decide +kernel) (pa_cons (pv 3) pa_nil)) pa_nil))))))), ?_⟩ (fun t2 ht => ⟨_, (pss_cons (ps_setComp (j := 2) sc_l_over.nd rfl rfl rfl (compSc_mk (fs := []) (fr := [])) (pi_list (cl D.l_words hr (pa_cons (pv 0) (pa_cons (pe_op op_add pe_int (cl D.l_draw hr (pa_cons (pv 0) (pa_cons pe_int pa_nil)))) pa_nil)))) (fun _ _ _ _ => (pe_op op_add_str pe_str (pv 0)))) ht), fun tl => ?_⟩)
 ·rintro σ H2 ⟨ul, us, rfl, nul, hul, hu1, hu2, huw, hF2, ex2⟩
  have lu : (us.map V.str).length = us.length := List.length_map _
  -- atoms = []
  refine ⟨(by show 0 ≤ sizeLine; decide), fun al hal => ?_⟩
  have nal := hF2.nef hal
  refine ⟨_, rfl, fe, 3, rfl, hF2.new hal _, by decide, by decide, fun i3 H3 a0 a1 hF3 ex3 => ⟨_, _, rfl, rfl, ?_⟩⟩
  have ex23 : Ext fe H2 H3 := ((Ext.refl fe H2).new hal _).trans ex3
  refine ⟨_, rfl, by omega, by omega, for_range (lo := 0) (n := (1 + i3).toNat)
   (fun j σ H4 => ∃ (x4 x5 x6 x7 x8 : Option V) (avs : List V) (ats : List (Str × List Str)), σ = [some (.ref fe), some (.ref vl), some (.ref ul), some (.ref al), x4, x5, x6, x7, x8] ∧ Feed K fe H4 ∧ Ext fe H2 H4 ∧ H4 al = some (.lst avs) ∧ AtomsAt H4 avs ats ∧ ats.length = j ∧ GoodT ats ∧ OverV xs ats)
   ⟨none, none, none, none, none, [], [], rfl, hF3, ex23, ex3 _ _ nal upd_same, .nil, rfl, (fun a h => by cases h), (fun a h => by cases h)⟩ ?_ ?_⟩
  ·rintro j σ H4 hj ⟨x4, x5, x6, x7, x8, avs, ats, rfl, hF4, ex4, hal4, hA, hla, hg, hov⟩
   have hvl4 := ex4 _ _ nvl (ex2 _ _ nvl hvl)
   -- name, made = views[draw(feed, len(views))]
   refine ⟨_, rfl, _, rfl, _, rfl, _, _, rfl, .inl ⟨_, SqL.of hvl4, rfl⟩, fe, _, rfl, hF4, by omega, by omega, fun i5 H5 b0 b1 hF5 ex5 => ?_⟩
   obtain ⟨jv, v, ej, hjv, ev⟩ := pick_v (vs := vws) b0 b1
   obtain ⟨x, hx, vp, q, rfl, hvp, hq, hnm⟩ := Paired.at hV hjv
   have ex25 := ex4.trans ex5
   have tu5 := hF.tups (ex2.trans ex25)
   have hvl5 := ex5 _ _ nvl hvl4
   have hq5 := hq.keep tu5
   refine ⟨_, _, _, _, rfl, rfl, SqL.of hvl5, ev, vp, _, rfl, SqT.of (tu5 _ _ hvp), rfl, _, _, rfl, _, _, rfl, rfl, ?_⟩
   obtain ⟨⟨qa, hd, aa, avs', rfl, hqa, hhd, haa, hA'⟩, _, _, _, h4, _⟩ := hq5.q
   have lh1 := hq5.l1
   have lhm : (x.2.1.map V.str).length = x.2.1.length := List.length_map _
   -- terms = []
   refine ⟨(by show 0 ≤ sizeLine; decide), fun tl' htl => ?_⟩
   have ntl := hF5.nef htl
   have hF6 := hF5.new htl (.lst [])
   have ex6 : Ext fe H5 (upd H5 tl' (.lst [])) := (Ext.refl fe H5).new htl _
   have htl6 : upd H5 tl' (.lst []) tl' = some (.lst (([] : List Str).map V.str)) := upd_same
   have hal5 := ex5 _ _ nal hal4
   have nat' : al ≠ tl' := ne_of_none hal5 htl
   have sm56 : Same H5 (upd H5 tl' (.lst [])) := same_new htl _
   have hn5 : H5 tl' = none := htl
   generalize upd H5 tl' (.lst []) = H6 at hF6 ex6 htl6 sm56 ⊢
   refine ⟨_, rfl, _, _, _, _, rfl, rfl, SqT.of (sm56 _ _ hqa), rfl, _, _, rfl, .inr ⟨_, SqT.of (sm56 _ _ hhd), rfl⟩, _, rfl, by omega, by omega, for_range (lo := 0) (n := (((x.2.1.map V.str).length : Nat) : Int).toNat)
    (fun i σ H7 => ∃ (y8 : Option V) (ts : List Str), σ = [some (.ref fe), some (.ref vl), some (.ref ul), some (.ref al), some (.int (0 + (j : Int))), some (.str x.1), some (.ref qa), some (.ref tl'), y8] ∧ Feed K fe H7 ∧ Ext fe H5 H7 ∧ H7 tl' = some (.lst (ts.map V.str)) ∧ ts.length = i ∧ ∀ z ∈ ts, TermOk z)
    ⟨x8, [], rfl, hF6, ex6, htl6, rfl, fun z h => by cases h⟩ ?_ ?_⟩
   ·rintro i σ H7 hi ⟨y8, ts, rfl, hF7, ex7, htl7, hlt, hts⟩
    have hul7 := ex7 _ _ nul (ex25 _ _ nul hul)
    refine ⟨_, rfl, .inl ⟨rfl, _, SqL.of htl7⟩, _, rfl, _, rfl, ⟨_, _, _, _, rfl, rfl, hul7, hul7, by rw [lu]; exact Nat.le_of_lt (small1000 (by omega)), fun c1 hc1 => ?_⟩⟩
    have sm1 : Same H7 (upd H7 c1 (.lst (us.map V.str ++ us.map V.str))) := same_new hc1 _
    have nc1 := hF7.nef hc1
    have hF8 := hF7.new hc1 (.lst (us.map V.str ++ us.map V.str))
    have ex8 : Ext fe H7 (upd H7 c1 (.lst (us.map V.str ++ us.map V.str))) := (Ext.refl fe H7).new hc1 _
    have hcc : upd H7 c1 (.lst (us.map V.str ++ us.map V.str)) c1 = some (.lst (us.map V.str ++ us.map V.str)) := upd_same
    generalize upd H7 c1 (.lst (us.map V.str ++ us.map V.str)) = H8 at sm1 hF8 ex8 hcc ⊢
    refine ⟨(by show 1 ≤ sizeLine; decide), fun c2 hc2 => ?_⟩
    have n2 : c1 ≠ c2 := ne_of_none hcc hc2
    have nc2 := hF8.nef hc2
    refine ⟨_, _, _, _, rfl, rfl, by rw [upd_ne n2]; exact hcc, upd_same, by rw [List.length_append, lu]; show us.length + us.length + 1 ≤ sizeLine; exact Nat.le_of_lt (small1000 (by omega)), fun c3 hc3 => ?_⟩
    have nc3 : c3 ≠ fe := (hF8.new hc2 (.lst [.str "a"])).nef hc3
    have hF9 := (hF8.new hc2 (.lst [.str "a"])).new hc3 (.lst (us.map V.str ++ us.map V.str ++ [.str "a"]))
    have ex9 : Ext fe H7 (upd (upd H8 c2 (.lst [.str "a"])) c3 (.lst (us.map V.str ++ us.map V.str ++ [.str "a"]))) := (ex8.new hc2 _).new hc3 _
    have h33 : upd (upd H8 c2 (.lst [.str "a"])) c3 (.lst (us.map V.str ++ us.map V.str ++ [.str "a"])) c3 = some (.lst (us.map V.str ++ us.map V.str ++ [.str "a"])) := upd_same
    generalize upd (upd H8 c2 (.lst [.str "a"])) c3 (.lst (us.map V.str ++ us.map V.str ++ [.str "a"])) = H9 at hF9 ex9 h33 ⊢
    have ex79 := ex7.trans ex9
    have hul9 := ex9 _ _ nul hul7
    have e3 : us.map V.str ++ us.map V.str ++ [V.str "a"] = (us ++ us ++ [("a" : Str)]).map V.str := by rw [List.map_append, List.map_append]; rfl
    refine ⟨_, rfl, _, rfl, _, _, rfl, .inl ⟨_, SqL.of hul9, rfl⟩, _, _, rfl, rfl, .inl ⟨by decide, by decide⟩, _, _, rfl, rfl, fe, _, rfl, hF9, by omega, by omega, fun i10 H10 d0 d1 hF10 ex10 => ?_⟩
    obtain ⟨z, hz, ez⟩ := pick_str (zs := us ++ us ++ [("a" : Str)]) d0 (by rw [List.length_append, List.length_append]; show i10 < ((us.length + us.length + 1 : Nat) : Int); omega)
    rw [← e3] at ez
    refine ⟨_, _, _, _, rfl, rfl, SqL.of (ex10 _ _ nc3 h33), ez, ?_⟩
    have htl10 := ex10 _ _ ntl (ex9 _ _ ntl htl7)
    have zT : TermOk z := by
     rcases List.mem_append.mp hz with hz | hz
     ·rcases List.mem_append.mp hz with hz | hz
      ·exact unk_T (huw z hz)
      ·exact unk_T (huw z hz)
     ·rw [List.mem_singleton.mp hz]
      exact word_T word_a
    refine ⟨_, _, _, rfl, rfl, htl10, by rw [List.length_map]; exact small1000 (by omega), ?_⟩
    refine ⟨_, ts ++ [z], rfl, hF10.lst htl10 ntl _, (ex79.trans ex10).own hn5 _, by rw [upd_same, List.map_append]; rfl, by rw [List.length_append, hlt]; rfl, fun z' h => ?_⟩
    rcases List.mem_append.mp h with q | q
    ·exact hts z' q
    ·rw [List.mem_singleton.mp q]
     exact zT
   ·rintro σ H7 ⟨y8, ts, rfl, hF7, ex7, htl7, hlt, hts⟩
    have lts : ts.length = x.2.1.length := by omega
    have hal7 := ex7 _ _ nal hal5
    refine ⟨_, rfl, .inl ⟨rfl, _, SqL.of hal7⟩, _, rfl, _, rfl, tl', _, rfl, .inl ⟨SqL.of htl7, fun tt htt => ?_⟩⟩
    refine ⟨(by show 2 ≤ sizeLine; decide), fun ap hap => ?_⟩
    have hFa := (hF7.new htt (.tup (ts.map V.str))).new hap (.tup [.str x.1, .ref tt])
    have nta : tt ≠ ap := fun e => by rw [← e, upd_same] at hap; cases hap
    have exa : Ext fe H7 (upd (upd H7 tt (.tup (ts.map V.str))) ap (.tup [.str x.1, .ref tt])) := ((Ext.refl fe H7).new htt _).new hap _
    have ha : AtomAt (upd (upd H7 tt (.tup (ts.map V.str))) ap (.tup [.str x.1, .ref tt])) (.ref ap) (x.1, ts) := ⟨ap, tt, rfl, upd_same, by rw [upd_ne nta, upd_same]⟩
    generalize upd (upd H7 tt (.tup (ts.map V.str))) ap (.tup [.str x.1, .ref tt]) = H8 at hFa exa ha ⊢
    have hal8 := exa _ _ nal hal7
    have lav : avs.length = ats.length := Paired.length hA
    refine ⟨_, _, _, rfl, rfl, hal8, small1000 (by omega), ?_⟩
    have tu8 := (hF4.tups ex5).trans ((hF5.tups ex7).trans (hF7.tups exa))
    have tul : Tups H8 (upd H8 al (.lst (avs ++ [.ref ap]))) := (Tups.refl H8).lst hal8 _
    refine ⟨_, _, _, _, _, avs ++ [.ref ap], ats ++ [(x.1, ts)], rfl, hFa.lst hal8 nal _, ?_, upd_same, Paired.snoc' (AtomsAt.keep (tu8.trans tul) hA) (ha.keep tul), by rw [List.length_append, hla]; rfl, fun b hb => ?_, fun b hb => ?_⟩
    ·exact (ex25.trans (ex7.trans exa)).own hal _
    ·rcases List.mem_append.mp hb with q | q
     ·exact hg b q
     ·rw [List.mem_singleton.mp q]
      exact ⟨hnm, by show 1 ≤ ts.length; omega, by show ts.length ≤ 4; omega, hts⟩
    ·rcases List.mem_append.mp hb with q | q
     ·exact hov b q
     ·rw [List.mem_singleton.mp q]
      exact ⟨x, List.mem_of_getElem? hx, rfl, lts⟩
  ·rintro σ H4 ⟨x4, x5, x6, x7, x8, avs, ats, rfl, hF4, ex4, hal4, hA, hla, hg, hov⟩
   refine ⟨_, rfl, _, rfl, fe, al, avs, ats, rfl, hF4, nal, hal4, hA, by omega, by omega, fun a ha => ⟨(hg a ha).2.1, (hg a ha).2.2.1⟩, fun r hz H6 hF6 ex6 hr6 hz4 hzz => ?_⟩
   refine ⟨_, rfl, al, _, rfl, .inl ⟨SqL.of (ex6 _ _ nal hal4), fun ta hta => ?_⟩⟩
   refine ⟨(by show 2 ≤ sizeLine; decide), fun q hq => ?_⟩
   have tu7 := (((Tups.refl H6).new hta (.tup avs)).new hq (.tup [.ref r, .ref ta]))
   have nq : ta ≠ q := fun e => by rw [← e, upd_same] at hq; cases hq
   exact k q hz ats _ ((hF6.new hta _).new hq _) ((((ex2.trans ex4).trans ex6).new hta _).new hq _) ⟨⟨q, r, ta, avs, rfl, upd_same, tu7 _ _ hr6, by rw [upd_ne nq, upd_same], AtomsAt.keep ((hF4.tups ex6).trans tu7) hA⟩, by omega, by omega, hg, hz4, fun z h => hg.flat (hzz z h)⟩ (by omega) hov hzz
 ·-- unknowns
  refine ⟨_, rfl, _, rfl, fe, 5, rfl, hF, by decide, by decide, fun i1 H1 a0 a1 hF1 ex1 => ⟨_, _, rfl, rfl, fe, _, rfl, hF1, by omega, by omega, fun wl wds H2 hF2 ex2 nwl hwl0 hwl hlw ndw hin => ?_⟩⟩
  refine ⟨wl, rfl, ⟨_, SqL.of hwl⟩, comp_list (K := K) (a := wl) (xs := wds.map V.str) (fun i ys H3 => H3 = H2 ∧ i ≤ wds.length ∧ ys = ((wds.take i).map uWord).map V.str) (by rw [List.length_map]; exact small1000 (by omega)) ⟨rfl, Nat.zero_le _, rfl⟩ ?_ ?_ ?_⟩
  ·rintro i ys H3 hi ⟨rfl, _, rfl⟩
   refine ⟨SqL.of hwl, ?_⟩
   rw [List.length_map, List.length_map, List.length_take]
   omega
  ·rintro i x ys H3 N hc ⟨rfl, hi, rfl⟩ hN
   have hlt : i < (wds.map V.str).length := (List.getElem?_eq_some_iff.mp hc).1
   rw [List.length_map] at hlt
   rw [List.getElem?_map, List.getElem?_eq_getElem hlt] at hc
   obtain rfl : V.str wds[i] = x := Option.some.inj hc
   have lw := of_decide_eq_true (List.all_eq_true.mp word_len wds[i] (hin _ (List.getElem_mem hlt)))
   refine rd_true ?_
   refine ⟨_, rfl, _, _, rfl, rfl, by rw [q_len]; have := small1000 (n := 1 + wds[i].length) (by omega); omega, hN _ _ ⟨rfl, hlt, ?_⟩⟩
   rw [List.take_add_one, List.getElem?_eq_getElem hlt, List.map_append, List.map_append]
   rfl
  ·rintro ys H3 ⟨rfl, _, rfl⟩ l hl
   rw [List.length_map, List.take_length]
   have lus : (wds.map uWord).length = wds.length := List.length_map _
   refine tl _ _ ⟨l, wds.map uWord, rfl, hF2.nef hl, upd_same, by omega, by omega, fun z hz => ?_, hF2.new hl _, (ex1.trans ex2).new hl _⟩
   obtain ⟨y, hy, rfl⟩ := List.mem_map.mp hz
   exact List.mem_map_of_mem (hin y hy)
end
def spInit (C : Addr) (fld : Str) : Sp := fun vs H Q _ => ∃ (a : Addr) (v : V), vs = [.ref a, v] ∧ ErrAt H a C none ∧ ((∃ z : Str, v = .str z ∧ z.length ≤ 1000) ∨ ∃ i : Int, v = .int i ∧ i.natAbs.log2 < 1920) ∧ ∀ d, H d = none → d ≠ a → Q .non (upd (upd H a (.ext (ExcF a C (some d)))) d (.xd [(fld, v)]))
theorem upd_id {H : Hp} {a : Addr} {o : HO} (h : H a = some o) : upd H a o = H := by
 funext b
 by_cases hb : b = a
 ·rw [hb, upd_same, h]
 ·rw [upd_ne hb]
structure Ba (K : PySem.W.Frag) (mg : Str → Option Value) (A0 : Addr) : Prop where
 m_AskError : mg "AskError" = some (.ref A0)
 s : PySem.W.specialIn K (.ref A0) "__getattribute__" = some (some (.builtin "type.__getattribute__"))
 r : PySem.W.readsIn K A0 (.type "type") = true
 f : PySem.W.findCls K (.ref A0) (.type "type") "__init__" = some (.val (.builtin "ValueError.__init__"))
section
variable {P : Program} {w : World} {K : PySem.W.Frag} {mg : Str → Option Value} {base : Heap}
abbrev i_NoView : Stmt := inClass (top 4) 0
theorem sc_i_NoView : FnScope ["self", "place"] ["self", "place"] (defScope i_NoView) := ⟨rfl, rfl, rfl, by decide +kernel, rfl, by decide +kernel, by decide +kernel⟩
theorem ok_i_NoView {A0 C : Addr} {f : Addr} {fd : FuncData} (F : Fun K "__init__" "NoView.__init__" i_NoView f fd) (B : Ba K mg A0) (q : excInI K C bmV "ValueError.__new__" = true) (ek : ExcK K C) (hf : PySem.W.findIn K (.ref C) "place" = some none) : FnOk P w K mg base CX0 1 f fd ["self", "place"] (spInit C "place") := by
 refine F.ok sc_i_NoView (fun vs H Q E h => ?_) (fun cdv A outer s H vs Q E hr h => ?_)
 ·obtain ⟨a, b, rfl, _⟩ := h
  rfl
 obtain ⟨a, v, rfl, ha, hv, k⟩ := h
 have ha' : H a = some (.ext (ExcF a C none)) := ha
 refine ⟨_, (pss_cons (ps_expr (pe_binit (A0 := A0) (pe_globR rfl B.m_AskError) B.s B.r B.f (pa_cons (pv 0) (pa_cons (pe_fstr2 (pv 1) (by decide +kernel)) pa_nil)))) (pss_one (ps_exset (pv 0) (pv 1)))), ?_⟩
 refine ⟨rfl, _, rfl, _, rfl, hv, fun y => ⟨a, C, none, _, rfl, by show 1 ≤ 1000; decide, ha', q, ?_⟩⟩
 rw [upd_id ha']
 exact ⟨_, rfl, _, rfl, a, C, rfl, ha, ek, hf, k⟩
end
def img (g : Str → Str) (a : Str × List Str) : Str × List Str := (a.1, a.2.map g)
def viewOf (xs : List View) (nm : Str) : Option View := xs.find? fun x => decide (x.1 = nm)
def okA (xs : List View) (a : Str × List Str) : Bool := match viewOf xs a.1 with
 | some x => decide (x.2.1.length = a.2.length)
 | none => false
def placeV (xs : List View) (ats : List (Str × List Str)) : Option Nat := ats.findIdx? fun a => !okA xs a
def innerL (hs : List Str) (ats : List (Str × List Str)) : List Str := (unkL (flatA ats)).filter fun z => !decide (z ∈ hs)
structure Fits (x : View) (ts used : List Str) (g : Str → Str) : Prop where
 head : ∀ (i : Nat) (z : Str), x.2.1[i]? = some z → ts[i]? = some (g z)
 vals : ∀ z, isUnk z = false → g z = z
 new : ∀ z, z ∈ innerL x.2.1 x.2.2 → TermOk (g z) ∧ isUnk (g z) = true ∧ g z ∉ used
 inj : ∀ y z, y ∈ innerL x.2.1 x.2.2 → z ∈ innerL x.2.1 x.2.2 → g y = g z → y = z
inductive Unf (xs : List View) : List Str → List (Str × List Str) → List (Str × List Str) → Prop
 | nil (used : List Str) : Unf xs used [] []
 | cons {used used' : List Str} {a : Str × List Str} {as rest : List (Str × List Str)} {x : View} {g : Str → Str} (hv : viewOf xs a.1 = some x) (hl : x.2.1.length = a.2.length) (hf : Fits x a.2 used g)
   (hu : ∀ u, u ∈ used ∨ (∃ z, z ∈ innerL x.2.1 x.2.2 ∧ u = g z) → u ∈ used') (hr : Unf xs used' as rest) : Unf xs used (a :: as) (x.2.2.map (img g) ++ rest)
theorem mem_unkL {z : Str} {fl : List Str} : z ∈ unkL fl ↔ z ∈ fl ∧ isUnk z = true := by
 rw [unk_ded, mem_ded, List.mem_filter]
theorem mem_inner {z : Str} {hs : List Str} {ats : List (Str × List Str)} : z ∈ innerL hs ats ↔ z ∈ flatA ats ∧ isUnk z = true ∧ z ∉ hs := by
 unfold innerL
 rw [List.mem_filter, mem_unkL]
 simp [and_assoc]
theorem inner_len (hs : List Str) (ats : List (Str × List Str)) : (innerL hs ats).length ≤ (flatA ats).length := Nat.le_trans (List.length_filter_le _ _) (len_unk _)
theorem inner_nd (hs : List Str) (ats : List (Str × List Str)) : (innerL hs ats).Nodup := (unk_nodup (flatA ats)).sublist List.filter_sublist
def KD (H : Hp) : List (Key × V) → List View → Prop := Paired fun (kv : Key × V) (x : View) => kv.1 = Sum.inr x.1 ∧ VQ H kv.2 x.2.1 x.2.2 ∧ NameOk x.1
theorem KD.keep {H H' : Hp} (t : Tups H H') {kvs : List (Key × V)} {xs : List View} (h : KD H kvs xs) : KD H' kvs xs := Paired.imp' (fun _ _ q => ⟨q.1, q.2.1.keep t, q.2.2⟩) h
theorem KD.none {H : Hp} {nm : Str} : ∀ {kvs : List (Key × V)} {xs : List View}, KD H kvs xs → viewOf xs nm = none → valV kvs (Sum.inr nm : Key) = none
 | _, _, .nil, _ => rfl
 | _, _, .cons (a := kv) (b := x) r t, h => by
  unfold viewOf at h
  rw [List.find?_cons] at h
  by_cases c : x.1 = nm
  ·rw [decide_eq_true c] at h
   cases h
  ·rw [decide_eq_false c] at h
   rw [valV_neg (by rw [r.1]; exact fun e => c (Sum.inr.inj e))]
   exact KD.none t h
theorem KD.some {H : Hp} {nm : Str} {x : View} : ∀ {kvs : List (Key × V)} {xs : List View}, KD H kvs xs → viewOf xs nm = some x → ∃ q, valV kvs (Sum.inr nm : Key) = some q ∧ VQ H q x.2.1 x.2.2
 | _, _, .nil, h => by cases h
 | _, _, .cons (a := kv) (b := y) r t, h => by
  unfold viewOf at h
  rw [List.find?_cons] at h
  by_cases c : y.1 = nm
  ·rw [decide_eq_true c] at h
   cases h
   exact ⟨kv.2, valV_pos (by rw [r.1, c]), r.2.1⟩
  ·rw [decide_eq_false c] at h
   obtain ⟨q, h1, h2⟩ := KD.some t h
   exact ⟨q, by rw [valV_neg (by rw [r.1]; exact fun e => c (Sum.inr.inj e))]; exact h1, h2⟩
theorem any_key {κ : Type} [DecidableEq κ] {l : List (κ × V)} {k : κ} (h : k ∉ l.map (·.1)) : (l.any fun kv => decide (kv.1 = k)) = false := by
 rw [Bool.eq_false_iff]
 intro e
 obtain ⟨kv, h1, h2⟩ := List.any_eq_true.mp e
 exact h (List.mem_map.mpr ⟨kv, h1, of_decide_eq_true h2⟩)
theorem put_new {l : List (Key × V)} {k : Key} {v : V} (h : k ∉ l.map (·.1)) : putK l k v = l ++ [(k, v)] := by
 unfold putK
 rw [any_key h]
 rfl
theorem merge_nd : ∀ (kvs l : List (Key × V)), ((l ++ kvs).map (·.1)).Nodup → mergeK l kvs = l ++ kvs
 | [], l, _ => by rw [List.append_nil]; rfl
 | kv :: r, l, h => by
  have hn : kv.1 ∉ l.map (·.1) := by
   rw [List.map_append, List.nodup_append] at h
   intro e
   exact h.2.2 _ e _ (by rw [List.map_cons]; exact List.mem_cons_self) rfl
  show mergeK (putK l kv.1 kv.2) r = _
  rw [put_new hn, merge_nd r (l ++ [(kv.1, kv.2)]) (by rw [List.append_assoc]; exact h), List.append_assoc]
  rfl
theorem views_dict {H : Hp} : ∀ {vws : List V} {xs : List View}, VWs H vws xs → ∃ kvs : List (Key × V), Paired (fun (y : V) (kv : Key × V) => ∃ t, y = .ref t ∧ H t = some (.tup [kV kv.1, kv.2])) vws kvs ∧ KD H kvs xs ∧ kvs.map (·.1) = xs.map fun x => (Sum.inr x.1 : Key)
 | _, _, .nil => ⟨[], .nil, .nil, rfl⟩
 | _, _, .cons (b := x) ⟨p, q, e, hp, hq, hn⟩ t => by
  obtain ⟨kvs, h1, h2, h3⟩ := views_dict t
  exact ⟨(Sum.inr x.1, q) :: kvs, .cons ⟨p, e, hp⟩ h1, .cons ⟨rfl, hq, hn⟩ h2, by rw [List.map_cons, List.map_cons, h3]⟩
theorem nd_inr {xs : List View} (h : (xs.map (·.1)).Nodup) : (xs.map fun x => (Sum.inr x.1 : Key)).Nodup := by
 induction xs with
 | nil => exact .nil
 | cons x r ih =>
  rw [List.map_cons, List.nodup_cons] at h ⊢
  refine ⟨fun e => ?_, ih h.2⟩
  obtain ⟨y, hy, e⟩ := List.mem_map.mp e
  exact h.1 (List.mem_map.mpr ⟨y, hy, Sum.inr.inj e⟩)
theorem views_kept {H : Hp} {vws : List V} {xs : List View} (hV : VWs H vws xs) (nd : (xs.map (·.1)).Nodup) : ∃ kvs : List (Key × V), Paired (fun (y : V) (kv : Key × V) => ∃ t, y = .ref t ∧ H t = some (.tup [kV kv.1, kv.2])) vws kvs ∧ KD H kvs xs ∧ mergeK [] kvs = kvs := by
 obtain ⟨kvs, h1, h2, h3⟩ := views_dict hV
 exact ⟨kvs, h1, h2, merge_nd kvs [] (by rw [List.nil_append, h3]; exact nd_inr nd)⟩
theorem place_no {xs : List View} {ats : List (Str × List Str)} (h : placeV xs ats = none) : ∀ a ∈ ats, okA xs a = true := fun a ha => by
 unfold placeV at h
 rw [List.findIdx?_eq_none_iff] at h
 simpa using h a ha
theorem place_first {xs : List View} {ats : List (Str × List Str)} {n : Nat} {a : Str × List Str} (h : ∀ i b, i < n → ats[i]? = some b → okA xs b = true) (e : ats[n]? = some a) (hb : okA xs a = false) : placeV xs ats = some n := by
 unfold placeV
 rw [List.findIdx?_eq_some_iff_getElem]
 obtain ⟨hl, e⟩ := List.getElem?_eq_some_iff.mp e
 refine ⟨hl, by rw [e, hb]; rfl, fun j hj => ?_⟩
 rw [h j _ hj (List.getElem?_eq_getElem _)]
 simp
theorem place_none {xs : List View} {ats : List (Str × List Str)} (h : ∀ (i : Nat) b, ats[i]? = some b → okA xs b = true) : placeV xs ats = none := by
 unfold placeV
 rw [List.findIdx?_eq_none_iff]
 intro a ha
 obtain ⟨i, hi⟩ := List.mem_iff_getElem?.mp ha
 rw [h i a hi]
 rfl
theorem okA_view {xs : List View} {a : Str × List Str} (h : okA xs a = true) : ∃ x, viewOf xs a.1 = some x ∧ x.2.1.length = a.2.length := by
 unfold okA at h
 cases e : viewOf xs a.1 with
 | none => rw [e] at h; cases h
 | some x => rw [e] at h; exact ⟨x, rfl, of_decide_eq_true h⟩
theorem val_len {z : Str} (h : isVal z = true) : z.length ≤ 8 := by
 unfold isVal at h
 rw [Bool.and_eq_true, Bool.and_eq_true] at h
 have := of_decide_eq_true h.2.1
 omega
theorem slice1 {z : Str} (h : 1 ≤ z.length) : (Txt.slice z (some 1) none).cps.toList = z.cps.toList.drop 1 := by
 have e := slice_from_eq (x := z) (i := 1) (b := (z.length : Int)) (by decide) (by omega) rfl
 rw [e]
 show (z.cps.toList.drop 1).take ((z.length : Int) - 1).toNat = z.cps.toList.drop 1
 refine List.take_of_length_le ?_
 rw [List.length_drop]
 have : z.cps.toList.length = z.length := by simp [Str.length]
 omega
theorem val_sgn {z : Str} (h : isVal z = true) : 1 ≤ z.length ∧ ∀ c ∈ z.cps.toList, sgn c = true := by
 unfold isVal at h
 rw [Bool.and_eq_true, Bool.and_eq_true] at h
 have := of_decide_eq_true h.1
 exact ⟨by omega, fun c hc => List.all_eq_true.mp h.2.2 _ (List.mem_map_of_mem hc)⟩
theorem unk_at {z : Str} (h : isUnk z = true) : ∃ r, z.cps.toList = 63 :: r ∧ 1 ≤ z.length ∧ z.length ≤ 9 ∧ ∀ c ∈ r, sgn c = true := by
 unfold isUnk at h
 rw [Bool.and_eq_true] at h
 have lz : z.cps.toList.length = z.length := by simp [Str.length]
 cases e : z.cps.toList with
 | nil =>
  have h1 := h.1
  rw [starts_none (by rw [e]; rfl)] at h1
  cases h1
 | cons c r =>
  have e0 : z.cps.toList[0]? = some c := by rw [e]; rfl
  have h1 := h.1
  rw [starts_q e0, decide_eq_true_iff] at h1
  have ec : c = 63 := by
   have := congrArg (fun s : Str => s.cps.toList) h1
   have : [c] = ("?" : Str).cps.toList := this
   rw [show ("?" : Str).cps.toList = [63] by decide +kernel] at this
   injection this
  rw [e, List.length_cons] at lz
  have es := slice1 (z := z) (by omega)
  rw [e] at es
  have es : (Txt.slice z (some 1) none).cps.toList = r := es
  have l1 := val_len h.2
  have l2 : (Txt.slice z (some 1) none).length = r.length := by rw [← es]; simp [Str.length]
  refine ⟨r, by rw [ec], by omega, by omega, fun c hc => ?_⟩
  exact (val_sgn h.2).2 c (by rw [es]; exact hc)
def errTo (E : XK) (H : Hp) (C : Addr) (fld : Str) (v : V) : Prop := ∀ (d : Addr) (H' : Hp), Same H H' → H' d = some (.xd [(fld, v)]) → E (.ref C) (some d) H'
theorem raise_end {K : PySem.W.Frag} {E : XK} {H H1 : Hp} {C : Addr} {fld : Str} {v : V} (h : errTo E H C fld v) (sm : Same H H1) (hv : (∃ z : Str, v = .str z ∧ z.length ≤ 1000) ∨ ∃ i : Int, v = .int i ∧ i.natAbs.log2 < 1920) (q : excInI K C bmV "ValueError.__new__" = true) :
  [v].length ≤ 1000 ∧ ∀ a, H1 a = none → spInit C fld (.ref a :: [v]) (upd H1 a (.ext (ExcF a C none))) (fun u H2 => u = .non ∧ ∃ (e C' : Addr) (dd : Option Addr), V.ref a = .ref e ∧ H2 e = some (.ext (ExcF e C' dd)) ∧ excInI K C' bmV "ValueError.__new__" = true ∧ E (.ref C') dd (gone H2 e C' dd)) E0 := by
 refine ⟨by show 1 ≤ 1000; decide, fun a ha => ⟨a, v, rfl, upd_same, hv, fun d hd nd => ⟨rfl, a, C, some d, rfl, ?_, q, ?_⟩⟩⟩
 ·rw [upd_ne (Ne.symm nd), upd_same]
 ·refine h d _ (fun b u e => ?_) ?_
  ·have e1 := sm _ _ e
   have n1 := ne_of_none e1 ha
   have n2 : b ≠ d := fun z => by
    rw [← z, upd_ne n1, e1] at hd
    cases hd
   rw [gone_ne n1, upd_ne n2, upd_ne n1, upd_ne n1]
   exact e1
  ·rw [gone_ne nd, upd_same]
theorem small_int (n : Nat) (h : n ≤ 100000) : ((n : Int)).natAbs.log2 < 1920 := by
 rw [Int.natAbs_natCast]
 by_cases h0 : n = 0
 ·rw [h0]
  decide
 ·rw [Nat.log2_lt h0]
  exact Nat.lt_of_le_of_lt h (by decide +kernel)
def gD (g : List (Str × Str)) : List (Key × V) := g.map fun p => (Sum.inr p.1, V.str p.2)
def lkS (g : List (Str × Str)) (z : Str) : Option Str := (g.find? fun p => decide (p.1 = z)).map (·.2)
def ledS (g : List (Str × Str)) (z : Str) : Str := (lkS g z).getD z
theorem valV_gD (z : Str) : ∀ g : List (Str × Str), valV (gD g) (Sum.inr z : Key) = (lkS g z).map V.str
 | [] => rfl
 | p :: r => by
  have ih := valV_gD z r
  unfold valV lkS at *
  show Option.map _ (List.find? _ ((Sum.inr p.1, V.str p.2) :: gD r)) = _
  rw [List.find?_cons, List.find?_cons]
  by_cases h : p.1 = z
  ·rw [decide_eq_true h, decide_eq_true (show (Sum.inr p.1 : Key) = Sum.inr z from congrArg _ h)]
   rfl
  ·rw [decide_eq_false h, decide_eq_false (show ¬ (Sum.inr p.1 : Key) = Sum.inr z from fun e => h (by injection e))]
   exact ih
def spLed : Sp := fun vs H Q _ => ∃ (t d : Addr) (ts : List Str) (g : List (Str × Str)), vs = [.ref t, .ref d] ∧ H t = some (.tup (ts.map V.str)) ∧ H d = some (.dK (gD g)) ∧ ts.length ≤ 100 ∧ ∀ (r : Addr) (H' : Hp), Same H H' → H' r = some (.tup ((ts.map (ledS g)).map V.str)) → Q (.ref r) H'
section
variable {P : Program} {w : World} {K : PySem.W.Frag} {mg : Str → Option Value} {base : Heap}
structure Dv2 (P : Program) (w : World) (K : PySem.W.Frag) (mg : Str → Option Value) (base : Heap) : Prop extends Dv P w K mg base where
 is_unknown : DefOk P w K mg base 2 "is_unknown" ["thing"] spUnk
theorem sc_unknowns_of : FnScope ["question", "found", "atom", "term"] ["question"] (defScope s_unknowns_of) := ⟨rfl, rfl, rfl, by decide +kernel, rfl, by decide +kernel, by decide +kernel⟩
theorem ok_unknowns_of {f : Addr} {fd : FuncData} (F : Fun K "unknowns_of" "unknowns_of" s_unknowns_of f fd) (T : Txt K mg) (D : Dv2 P w K mg base) : FnOk P w K mg base CX0 3 f fd ["question"] spUnksQ := by
 refine F.ok sc_unknowns_of (fun vs H Q E h => ?_) (fun cdv A outer s H vs Q E hr h => ?_)
 ·obtain ⟨a, b, c, rfl, _⟩ := h
  rfl
 obtain ⟨v, hz0, ats, rfl, ⟨⟨q, hd, aa, avs, rfl, hq, hhd, haa, hats⟩, l1, l8, good, h4, hh⟩, k⟩ := h
 have hu := hu_of hr
 refine ⟨_, (pss_cons (ps_set (i := 1) sc_unknowns_of.nd rfl (Or.inl rfl) pe_dnewK)
   (pss_cons (ps_for PassesOwn.never rfl (pi_tup (pe_ix ix_tup (pv 0) pe_int (fun _ _ => rfl))) (pg_name (i := 2) sc_unknowns_of.nd rfl (Or.inl rfl))
   (pss_one (ps_for PassesOwn.never rfl (pi_tup (pe_ix ix_tup (pv 2) pe_int (fun _ _ => rfl))) (pg_name (i := 3) sc_unknowns_of.nd rfl (Or.inl rfl))
   (pss_one (ps_if (pt_val (cl D.is_unknown hr (pa_cons (pv 3) pa_nil))) (pss_one (ps_dput hu (pv 1) (pv 3) pe_bl rfl)) pss_nil)))))
   (pss_one (ps_ret (pe_callTy (call_list_dict rfl) rfl T.n_list (by decide +kernel) (pa_cons (pv 1) pa_nil)))))), ?_⟩
 have la : avs.length = ats.length := Paired.length hats
 intro d hd0
 refine ⟨_, rfl, _, _, _, _, rfl, rfl, SqT.of (same_new hd0 _ _ _ hq), rfl, aa, rfl, ⟨avs, SqT.of (same_new hd0 _ _ _ haa)⟩, for_tup (K := K) (a := aa) (xs := avs)
  (fun i σ H2 => ∃ (x2 x3 : Option V), σ = [some (.ref q), some (.ref d), x2, x3] ∧ Same H H2 ∧ H2 d = some (.dK (keysD (unkL (flatA (ats.take i)))))) ⟨none, none, rfl, same_new hd0 _, upd_same⟩ (fun i σ H2 _ ⟨_, _, _, sm, _⟩ => SqT.of (sm _ _ haa)) ?_ ?_⟩
 ·rintro i x σ H2 hx ⟨x2, x3, rfl, sm, hd2⟩
  obtain ⟨ta, ht, p, t, rfl, hp, htt⟩ := Paired.at hats hx
  have g := good ta (List.mem_of_getElem? ht)
  have hi : i < ats.length := (List.getElem?_eq_some_iff.mp ht).1
  have lf := good.len i
  refine ⟨_, rfl, _, _, _, _, rfl, rfl, SqT.of (sm _ _ hp), rfl, t, rfl, ⟨_, SqT.of (sm _ _ htt)⟩, for_tup (K := K) (a := t) (xs := ta.2.map V.str)
   (fun j σ H3 => ∃ (x3 : Option V), σ = [some (.ref q), some (.ref d), some (.ref p), x3] ∧ Same H H3 ∧ H3 d = some (.dK (keysD (unkL (flatA (ats.take i) ++ ta.2.take j))))) ⟨x3, rfl, sm, by rw [List.take_zero, List.append_nil]; exact hd2⟩ (fun j σ H3 _ ⟨_, _, sm', _⟩ => SqT.of (sm' _ _ htt)) ?_ ?_⟩
  ·rintro j y σ H3 hy ⟨x3, rfl, sm3, hd3⟩
   obtain ⟨z, hz, rfl⟩ := at_strs hy
   have hz9 := (g.2.2.2 z (List.mem_of_getElem? hz)).2.1
   have hj : j < ta.2.length := (List.getElem?_eq_some_iff.mp hz).1
   refine ⟨_, rfl, z, rfl, by omega, fun H4 sm4 => ⟨_, rfl, ?_⟩⟩
   have hd4 := sm4 _ _ hd3
   have en : unkL (flatA (ats.take i) ++ ta.2.take (j + 1)) = step (unkL (flatA (ats.take i) ++ ta.2.take j)) z := by
    rw [List.take_add_one, hz, ← unk_snoc, List.append_assoc]
    rfl
   have lu := len_unk (flatA (ats.take i) ++ ta.2.take j)
   have l4' := g.2.2.1
   rw [List.length_append, List.length_take] at lu
   refine ite2 (fun c1 => ?_) (fun c1 => ?_)
   ·refine ⟨_, rfl, _, rfl, d, _, rfl, DPut.k (k := Sum.inr z) hd4 (by unfold keysD; rw [List.length_map]; exact small1000 (by omega)), ?_⟩
    refine ⟨_, rfl, fun b u e => ?_, ?_⟩
    ·rw [upd_ne (ne_of_none e hd0)]
     exact sm4 _ _ (sm3 _ _ e)
    ·rw [upd_same, put_keys, en]
     unfold step
     rw [if_pos c1]
   ·refine ⟨_, rfl, sm3.trans sm4, ?_⟩
    rw [en]
    unfold step
    rw [if_neg c1]
    exact hd4
  ·rintro σ H3 ⟨x3, rfl, sm3, hd3⟩
   refine ⟨_, _, rfl, sm3, ?_⟩
   rw [List.length_map, List.take_length] at hd3
   rw [flatA_take ht]
   exact hd3
 ·rintro σ H2 ⟨x2, x3, rfl, sm, hd2⟩
  rw [la, List.take_length] at hd2
  refine ⟨_, rfl, d, _, rfl, hd2, fun l hl => ?_⟩
  refine k l _ (sm.trans (same_new hl _)) (sm.free hl) ?_
  rw [upd_same, keys_back]
theorem sc_image : FnScope ["terms", "given"] ["terms", "given"] (defScope s_image) := ⟨rfl, rfl, rfl, by decide +kernel, rfl, by decide +kernel, by decide +kernel⟩
theorem ok_image {f : Addr} {fd : FuncData} (F : Fun K "image" "image" s_image f fd) (T : Txt K mg) : FnOk P w K mg base CX0 1 f fd ["terms", "given"] spLed := by
 refine F.ok sc_image (fun vs H Q E h => ?_) (fun cdv A outer s H vs Q E hr h => ?_)
 ·obtain ⟨a, b, c, d, rfl, _⟩ := h
  rfl
 obtain ⟨t, d, ts, g, rfl, ht, hd, hl, k⟩ := h
 have hu := hu_of hr
 refine ⟨_, (pss_one (ps_ret (pe_callTy call_tuple_of rfl T.n_tuple (by decide +kernel) (pa_cons (pe_comp rfl (compSc_mk (fs := ["given"]) (fr := [1])) (pi_tup (pv 0)) (fun _ _ _ _ => (pe_dget2 hu (pv 1) (pv 0) (pv 0) m2_nn))) pa_nil)))), ?_⟩
 refine ⟨_, rfl, t, rfl, ⟨_, SqT.of ht⟩, comp_tup (K := K) (a := t) (xs := ts.map V.str) (fun i ys H2 => H2 = H ∧ i ≤ ts.length ∧ ys = ((ts.take i).map (ledS g)).map V.str) (by rw [List.length_map]; exact small1000 (by omega)) ⟨rfl, Nat.zero_le _, rfl⟩ ?_ ?_ ?_⟩
 ·rintro i ys H2 hi ⟨rfl, _, rfl⟩
  refine ⟨SqT.of ht, ?_⟩
  rw [List.length_map, List.length_map, List.length_take]
  omega
 ·rintro i x ys H2 N hc ⟨rfl, hi, rfl⟩ hN
  obtain ⟨z, hz, rfl⟩ := at_strs hc
  have hlt : i < ts.length := (List.getElem?_eq_some_iff.mp hz).1
  refine rd_true ?_
  refine ⟨_, rfl, d, rfl, .inl ⟨_, .inl hd⟩, _, rfl, _, rfl, _, DGet.k (k := Sum.inr z) hd, ?_⟩
  have e : (valV (gD g) (Sum.inr z : Key)).getD (.str z) = .str (ledS g z) := by
   rw [valV_gD]
   unfold ledS
   cases lkS g z <;> rfl
  rw [e]
  refine hN _ _ ⟨rfl, hlt, ?_⟩
  rw [List.take_add_one, hz, List.map_append, List.map_append]
  rfl
 ·rintro ys H2 ⟨rfl, _, rfl⟩ l hl'
  rw [List.length_map, List.take_length]
  refine ⟨l, _, rfl, .inl ⟨SqL.of upd_same, fun p hp => ?_⟩⟩
  exact k p _ ((same_new hl' _).trans (same_new hp _)) upd_same
end
def nmS (k : Nat) : Str := ⟨(110 :: (Nat.toDigits 10 k).map Char.toNat).toArray⟩
def unS (k : Nat) : Str := ⟨(63 :: 110 :: (Nat.toDigits 10 k).map Char.toNat).toArray⟩
theorem nm_eq (k : Nat) : ("n" : Str) ++ Str.ofString (toString (k : Int)) = nmS k := by
 rw [show (k : Int) = Int.ofNat k from rfl, text_ofNat]
 show (⟨("n" : Str).cps ++ _⟩ : Str) = _
 rw [show ("n" : Str).cps = #[110] by decide +kernel]
 unfold nmS
 simp
theorem un_eq (k : Nat) : ("?" : Str) ++ nmS k = unS k := by
 show (⟨("?" : Str).cps ++ _⟩ : Str) = _
 rw [show ("?" : Str).cps = #[63] by decide +kernel]
 unfold unS nmS
 simp
theorem dig_sgn : ((List.range 10).all fun d => sgn (48 + d)) = true := by decide +kernel
theorem n_sgn : sgn 110 = true := by decide +kernel
theorem dig_c {k c : Nat} (h : c ∈ (Nat.toDigits 10 k).map Char.toNat) : sgn c = true ∧ c < 128 := by
 obtain ⟨ch, hch, rfl⟩ := List.mem_map.mp h
 have r := Nat.isDigit_of_mem_toDigits (b := 10) (by decide) (by decide) hch
 have r2 : 48 ≤ ch.toNat ∧ ch.toNat ≤ 57 := digit_range r
 have e := List.all_eq_true.mp dig_sgn (ch.toNat - 48) (List.mem_range.mpr (by omega))
 rw [show 48 + (ch.toNat - 48) = ch.toNat by omega] at e
 exact ⟨e, by omega⟩
theorem nm_len {k : Nat} (h : k < 600) : (nmS k).length ≤ 4 := by
 show ((110 :: (Nat.toDigits 10 k).map Char.toNat).toArray).size ≤ 4
 rw [List.size_toArray, List.length_cons, List.length_map]
 have := digits10_le (k := 3) (n := k) (by decide) (by omega)
 omega
theorem nm_val {k : Nat} (h : k < 600) : isVal (nmS k) = true := by
 have l1 := nm_len h
 have l0 : 1 ≤ (nmS k).length := by
  show 1 ≤ ((110 :: (Nat.toDigits 10 k).map Char.toNat).toArray).size
  rw [List.size_toArray, List.length_cons]
  omega
 unfold isVal
 rw [decide_eq_true (by omega), decide_eq_true (by omega), Bool.true_and, Bool.true_and, List.all_eq_true]
 intro b hb
 obtain ⟨c, hc, rfl⟩ := List.mem_map.mp hb
 have hc : c ∈ 110 :: (Nat.toDigits 10 k).map Char.toNat := by simpa [nmS] using hc
 rcases List.mem_cons.mp hc with rfl | hc
 ·exact n_sgn
 ·exact (dig_c hc).1
theorem nm_dec {i j : Nat} (h : nmS i = nmS j) : i = j := by
 have h1 : (nmS i).cps.toList = (nmS j).cps.toList := by rw [h]
 unfold nmS at h1
 simp only [List.cons.injEq, true_and] at h1
 have h2 := PySem.W.KIN.val_back i
 rw [h1, PySem.W.KIN.val_back] at h2
 exact h2.symm
theorem un_slice (k : Nat) : Txt.slice (unS k) (some 1) none = nmS k := by
 have h := slice1 (z := unS k) (by show 1 ≤ ((63 :: 110 :: (Nat.toDigits 10 k).map Char.toNat).toArray).size; rw [List.size_toArray, List.length_cons]; omega)
 have e : (Txt.slice (unS k) (some 1) none).cps = (nmS k).cps := by
  apply Array.ext'
  rw [h]
  rfl
 cases hs : Txt.slice (unS k) (some 1) none with
 | mk c => rw [hs] at e; cases e; rfl
theorem un_unk {k : Nat} (h : k < 600) : isUnk (unS k) = true := by
 unfold isUnk
 rw [un_slice, nm_val h, Bool.and_true, starts_q (c := 63) rfl]
 decide +kernel
theorem ok_of {z : Str} (h : ∀ c ∈ z.cps.toList, c < 128) : PyData.strOk z = true := by
 unfold PyData.strOk
 rw [← Array.all_toList, List.all_eq_true]
 exact fun c hc => decide_eq_true (by have := h c hc; omega)
theorem un_ok (k : Nat) : PyData.strOk (unS k) = true := ok_of fun c hc => by
 have hc : c ∈ 63 :: 110 :: (Nat.toDigits 10 k).map Char.toNat := by simpa [unS] using hc
 rcases List.mem_cons.mp hc with rfl | hc
 ·decide
 ·rcases List.mem_cons.mp hc with rfl | hc
  ·decide
  ·exact (dig_c hc).2
structure NmOk (k : Nat) : Prop where
 v : isVal (nmS k) = true
 l : (nmS k).length ≤ 4
 u : isUnk ("?" ++ nmS k) = true
 us : PyData.strOk ("?" ++ nmS k) = true
 c : Txt.slice ("?" ++ nmS k) (some 1) none = nmS k
theorem nm_is {k : Nat} (h : k < 600) : NmOk k := ⟨nm_val h, nm_len h, by rw [un_eq]; exact un_unk h, by rw [un_eq]; exact un_ok k, by rw [un_eq]; exact un_slice k⟩
theorem nm_inj {i j : Nat} (hi : i < 600) (hj : j < 600) (h : nmS i = nmS j) : i = j := nm_dec h
theorem nd_mapI {α β : Type} {f : α → β} : ∀ {l : List α}, (∀ i ∈ l, ∀ j ∈ l, f i = f j → i = j) → l.Nodup → (l.map f).Nodup
 | [], _, _ => .nil
 | a :: l, h, nd => by
  rw [List.nodup_cons] at nd
  rw [List.map_cons, List.nodup_cons]
  refine ⟨fun e => ?_, nd_mapI (fun i hi j hj => h i (List.mem_cons_of_mem _ hi) j (List.mem_cons_of_mem _ hj)) nd.2⟩
  obtain ⟨b, hb, e⟩ := List.mem_map.mp e
  exact nd.1 (h b (List.mem_cons_of_mem _ hb) a List.mem_cons_self e ▸ hb)
theorem nd_keys {ks : List Str} (h : ks.Nodup) : (ks.map fun z => (Sum.inr z : Key)).Nodup := nd_mapI (fun _ _ _ _ e => Sum.inr.inj e) h
theorem nd_len : ∀ {s t : List Str}, s.Nodup → (∀ z ∈ s, z ∈ t) → s.length ≤ t.length
 | [], _, _, _ => Nat.zero_le _
 | z :: s, t, hn, hs => by
  have hz := hs z List.mem_cons_self
  rw [List.nodup_cons] at hn
  have h1 := nd_len (s := s) (t := t.erase z) hn.2 fun y hy => by
   have ne : y ≠ z := fun e => hn.1 (by rw [← e]; exact hy)
   exact (List.mem_erase_of_ne ne).mpr (hs y (List.mem_cons_of_mem _ hy))
  rw [List.length_erase_of_mem hz] at h1
  have h2 := List.length_pos_of_mem hz
  show s.length + 1 ≤ t.length
  omega
def spNewV : Sp := fun vs H Q _ => ∃ (n : Int) (tl : Addr) (tk : List Str), vs = [.int n, .ref tl] ∧ H tl = some (.lst (tk.map V.str)) ∧ 0 ≤ n ∧ n + tk.length ≤ 500 ∧
 ∀ (r : Addr) (ks : List Nat) (H' : Hp), Same H H' → H r = none → H' r = some (.lst ((ks.map nmS).map V.str)) → (ks.length : Int) = n → ks.Nodup → (∀ k ∈ ks, k < 600 ∧ nmS k ∉ tk) → Q (.ref r) H'
section
variable {P : Program} {w : World} {K : PySem.W.Frag} {mg : Str → Option Value} {base : Heap}
theorem sc_new_values : FnScope ["count", "taken", "found", "number", "value"] ["count", "taken"] (defScope s_new_values) := ⟨rfl, rfl, rfl, by decide +kernel, rfl, by decide +kernel, by decide +kernel⟩
theorem nnS {k : Nat} (h : k < 600) : (Str.ofString (toString (k : Int))).length ≤ 100 := by
 have h1 := (nm_is h).l
 rw [← nm_eq, Str.length_append] at h1
 omega
theorem ok_new_values {f : Addr} {fd : FuncData} (F : Fun K "new_values" "new_values" s_new_values f fd) (T : Txt K mg) : FnOk P w K mg base CX0 1 f fd ["count", "taken"] spNewV := by
 refine F.ok sc_new_values (fun vs H Q E h => ?_) (fun cdv A outer s H vs Q E hr h => ?_)
 ·obtain ⟨a, b, c, rfl, _⟩ := h
  rfl
 obtain ⟨n, tl, tk, rfl, htl, n0, nt, k⟩ := h
 refine ⟨_, (pss_cons (ps_set (i := 2) sc_new_values.nd rfl (Or.inl rfl) (pe_lst pa_nil))
   (pss_cons (ps_set (i := 3) sc_new_values.nd rfl (Or.inl rfl) pe_int)
   (pss_cons (ps_while PassesOwn.never (pt_cmpR op_lt (pe_callB call_len rfl T.n_len PySem.boot_len (pa_cons (pv 2) pa_nil)) (pv 0) (nomark _))
   (pss_cons (ps_set (i := 4) sc_new_values.nd rfl (Or.inl rfl) (pe_op op_add_str pe_str (pe_callTy call_str1 rfl T.n_str (by decide +kernel) (pa_cons (pv 3) pa_nil))))
   (pss_cons (ps_if (pt_cmpR op_notIn_seq (pv 4) (pv 1) (by with_unfolding_all rfl)) (pss_one (ps_expr (pe_bm PySem.F.plainAttrs_list PySem.F.slot_list_append PySem.F.type_list_append mt_append (pv 2) (pa_cons (pv 4) pa_nil)))) pss_nil)
   (pss_one (ps_aug (i := 3) sc_new_values.nd rfl (Or.inl rfl) pe_int ip_add)))))
   (pss_one (ps_ret (pv 2)))))), ?_⟩
 refine ⟨(by show 0 ≤ sizeLine; decide), fun fl hfl => ?_⟩
 have nfl : tl ≠ fl := ne_of_none htl hfl
 refine ⟨fun m σ H2 => ∃ (num : Nat) (x4 : Option V) (ks sk : List Nat), m = 600 - num ∧ num < 600 ∧ σ = [some (.int n), some (.ref tl), some (.ref fl), some (.int (num : Int)), x4] ∧ Same H H2 ∧ H2 fl = some (.lst ((ks.map nmS).map V.str)) ∧ (ks.length : Int) ≤ n ∧ ks.length + sk.length = num ∧ ks.Nodup ∧ sk.Nodup ∧ (∀ i ∈ ks, i < num ∧ nmS i ∉ tk) ∧ (∀ i ∈ sk, i < num ∧ nmS i ∈ tk), ⟨_, 0, none, [], [], rfl, by decide, rfl, same_new hfl _, upd_same, by show (0 : Int) ≤ n; exact n0, rfl, .nil, .nil, (fun i h => by cases h), fun i h => by cases h⟩, ?_⟩
 rintro m σ H2 ⟨num, x4, ks, sk, rfl, hnum, rfl, sm, hfl2, hkn, hks, nd1, nd2, hk1, hk2⟩
 have lk : ((ks.map nmS).map V.str).length = ks.length := by rw [List.length_map, List.length_map]
 have lsk : sk.length ≤ tk.length := by
  have h1 : (sk.map nmS).Nodup := by
   refine nd_mapI (fun i hi j hj e => ?_) nd2
   exact nm_inj (Nat.lt_trans (hk2 i hi).1 hnum) (Nat.lt_trans (hk2 j hj).1 hnum) e
  have := nd_len (s := sk.map nmS) (t := tk) h1 fun z hz => by
   obtain ⟨i, hi, rfl⟩ := List.mem_map.mp hz
   exact (hk2 i hi).2
  rw [List.length_map] at this
  exact this
 refine ⟨_, rfl, _, _, rfl, .inl ⟨_, SqL.of hfl2, rfl⟩, _, rfl, _, _, rfl, rfl, _, rfl, ?_⟩
 refine ite2 (fun c => ?_) (fun c => ?_)
 ·have c : ((ks.map nmS).map V.str).length < n := of_decide_eq_true c
  refine ⟨fun σ' H' => ∃ (num' : Nat) (x4' : Option V) (ks' sk' : List Nat), num' = num + 1 ∧ num' < 600 ∧ σ' = [some (.int n), some (.ref tl), some (.ref fl), some (.int (num' : Int)), x4'] ∧ Same H H' ∧ H' fl = some (.lst ((ks'.map nmS).map V.str)) ∧ (ks'.length : Int) ≤ n ∧ ks'.length + sk'.length = num' ∧ ks'.Nodup ∧ sk'.Nodup ∧ (∀ i ∈ ks', i < num' ∧ nmS i ∉ tk) ∧ (∀ i ∈ sk', i < num' ∧ nmS i ∈ tk), fun σ' H' ⟨num', x4', ks', sk', e, r⟩ => ⟨600 - num', by omega, num', x4', ks', sk', rfl, r⟩, ?_⟩
  have hb := nm_is hnum
  have hl := val_len hb.v
  have ln := nnS hnum
  have e1 : ("n" : Str).length = 1 := by decide +kernel
  have ls := small1000 (n := 1 + (Str.ofString (toString (num : Int))).length) (by omega)
  refine ⟨_, rfl, (num : Int), rfl, small_int num (by omega), _, _, rfl, rfl, by omega, ?_⟩
  rw [nm_eq]
  have htl2 := sm _ _ htl
  refine ⟨_, rfl, _, rfl, tl, _, rfl, .inl (SqL.of htl2), rfl, flat_V _, _, rfl, ?_⟩
  show if (!inV (.str (nmS num)) (tk.map V.str)) = true then _ else _
  rw [inV_str]
  refine ite2 (fun c1 => ?_) (fun c1 => ?_)
  ·have c1 : nmS num ∉ tk := by simpa using c1
   refine ⟨_, rfl, .inl ⟨rfl, _, SqL.of hfl2⟩, _, rfl, _, _, _, rfl, rfl, hfl2, by rw [lk]; exact small1000 (by omega), ?_⟩
   refine ⟨_, rfl, _, _, rfl, rfl, ?_⟩
   refine ⟨num + 1, _, ks ++ [num], sk, rfl, by rw [lk] at c; omega, rfl, fun b u e => ?_, ?_, ?_, ?_, ?_, nd2, fun i hi => ?_, fun i hi => ⟨Nat.lt_succ_of_lt (hk2 i hi).1, (hk2 i hi).2⟩⟩
   ·rw [upd_ne (ne_of_none e hfl)]
    exact sm _ _ e
   ·rw [upd_same, List.map_append, List.map_append]
    rfl
   ·rw [List.length_append]
    show ((ks.length + 1 : Nat) : Int) ≤ n
    omega
   ·rw [List.length_append]
    show ks.length + 1 + sk.length = num + 1
    omega
   ·rw [List.nodup_append]
    refine ⟨nd1, by simp, fun a ha b hb e => ?_⟩
    have h1 := (hk1 a ha).1
    rw [List.mem_singleton.mp hb] at e
    omega
   ·rcases List.mem_append.mp hi with hi | hi
    ·exact ⟨Nat.lt_succ_of_lt (hk1 i hi).1, (hk1 i hi).2⟩
    ·rw [List.mem_singleton.mp hi]
     exact ⟨Nat.lt_succ_self _, c1⟩
  ·have c1 : nmS num ∈ tk := by simpa using c1
   refine ⟨_, rfl, _, _, rfl, rfl, ?_⟩
   refine ⟨num + 1, _, ks, sk ++ [num], rfl, by rw [lk] at c; omega, rfl, sm, hfl2, hkn, ?_, nd1, ?_, fun i hi => ⟨Nat.lt_succ_of_lt (hk1 i hi).1, (hk1 i hi).2⟩, fun i hi => ?_⟩
   ·rw [List.length_append]
    show ks.length + (sk.length + 1) = num + 1
    omega
   ·rw [List.nodup_append]
    refine ⟨nd2, by simp, fun a ha b hb e => ?_⟩
    have h1 := (hk2 a ha).1
    rw [List.mem_singleton.mp hb] at e
    omega
   ·rcases List.mem_append.mp hi with hi | hi
    ·exact ⟨Nat.lt_succ_of_lt (hk2 i hi).1, (hk2 i hi).2⟩
    ·rw [List.mem_singleton.mp hi]
     exact ⟨Nat.lt_succ_self _, c1⟩
 ·have c : ¬ ((((ks.map nmS).map V.str).length : Nat) : Int) < n := fun h => c (decide_eq_true h)
  rw [lk] at c
  refine ⟨_, rfl, k fl ks H2 sm hfl hfl2 (by omega) nd1 fun i hi => ⟨by have := (hk1 i hi).1; omega, (hk1 i hi).2⟩⟩
end
def spTermsQ : Sp := fun vs H Q _ => ∃ (v : V) (hz : List Str) (ats : List (Str × List Str)), vs = [v] ∧ QW H v hz ats ∧ ∀ (r : Addr) (H' : Hp), Same H H' → H r = none → H' r = some (.lst ((hz ++ flatA ats).map V.str)) → Q (.ref r) H'
def spInner : Sp := fun vs H Q _ => ∃ (v : V) (hs : List Str) (ats : List (Str × List Str)), vs = [v] ∧ VQ H v hs ats ∧ ∀ (r : Addr) (H' : Hp), Same H H' → H r = none → H' r = some (.lst ((innerL hs ats).map V.str)) → Q (.ref r) H'
section
variable {P : Program} {w : World} {K : PySem.W.Frag} {mg : Str → Option Value} {base : Heap}
theorem sc_terms_of : FnScope ["question", "found", "atom"] ["question"] (defScope s_terms_of) := ⟨rfl, rfl, rfl, by decide +kernel, rfl, by decide +kernel, by decide +kernel⟩
theorem ok_terms_of {f : Addr} {fd : FuncData} (F : Fun K "terms_of" "terms_of" s_terms_of f fd) (T : Txt K mg) : FnOk P w K mg base CX0 1 f fd ["question"] spTermsQ := by
 refine F.ok sc_terms_of (fun vs H Q E h => ?_) (fun cdv A outer s H vs Q E hr h => ?_)
 ·obtain ⟨a, b, c, rfl, _⟩ := h
  rfl
 obtain ⟨v, hz, ats, rfl, ⟨⟨q, hd, aa, avs, rfl, hq, hhd, haa, hats⟩, l1, l8, good, h4, hh⟩, k⟩ := h
 refine ⟨_, (pss_cons (ps_set (i := 1) sc_terms_of.nd rfl (Or.inl rfl) (pe_callTy call_list_of rfl T.n_list (by decide +kernel) (pa_cons (pe_ix ix_tup (pv 0) pe_int (fun _ _ => rfl)) pa_nil)))
   (pss_cons (ps_for PassesOwn.never rfl (pi_tup (pe_ix ix_tup (pv 0) pe_int (fun _ _ => rfl))) (pg_name (i := 2) sc_terms_of.nd rfl (Or.inl rfl))
   (pss_one (ps_expr (pe_bm PySem.F.plainAttrs_list PySem.F.slot_list_extend PySem.F.type_list_extend mt_extendT (pv 1) (pa_cons (pe_ix ix_tup (pv 2) pe_int (fun _ _ => rfl)) pa_nil)))))
   (pss_one (ps_ret (pv 1))))), ?_⟩
 have la : avs.length = ats.length := Paired.length hats
 have lz : (hz.map V.str).length = hz.length := List.length_map _
 refine ⟨_, rfl, _, _, _, _, rfl, rfl, SqT.of hq, rfl, hd, _, rfl, .inr (SqT.of hhd), fun l hl => ?_⟩
 refine ⟨_, rfl, _, _, _, _, rfl, rfl, SqT.of (same_new hl _ _ _ hq), rfl, aa, rfl, ⟨avs, SqT.of (same_new hl _ _ _ haa)⟩, for_tup (K := K) (a := aa) (xs := avs)
  (fun i σ H2 => ∃ (x2 : Option V), σ = [some (.ref q), some (.ref l), x2] ∧ Same H H2 ∧ H2 l = some (.lst ((hz ++ flatA (ats.take i)).map V.str))) ⟨none, rfl, same_new hl _, by rw [upd_same]; show some (HO.lst _) = some (HO.lst ((hz ++ []).map V.str)); rw [List.append_nil]⟩ (fun i σ H2 _ ⟨_, _, sm, _⟩ => SqT.of (sm _ _ haa)) ?_ ?_⟩
 ·rintro i x σ H2 hx ⟨x2, rfl, sm, hl2⟩
  obtain ⟨ta, ht, p, t, rfl, hp, htt⟩ := Paired.at hats hx
  have g := good ta (List.mem_of_getElem? ht)
  have l4' := g.2.2.1
  have lf := good.len i
  refine ⟨_, rfl, .inl ⟨rfl, _, SqL.of hl2⟩, _, rfl, _, _, _, _, rfl, rfl, SqT.of (sm _ _ hp), rfl, l, t, _, _, rfl, rfl, hl2, SqT.of (sm _ _ htt), ?_, ?_⟩
  ·rw [List.length_map, List.length_map, List.length_append]
   exact Nat.le_of_lt (small1000 (by omega))
  ·refine ⟨_, rfl, fun b u e => ?_, ?_⟩
   ·rw [upd_ne (ne_of_none e hl)]
    exact sm _ _ e
   ·rw [upd_same, flatA_take ht, ← List.append_assoc, List.map_append (l₁ := hz ++ flatA (ats.take i))]
 ·rintro σ H2 ⟨x2, rfl, sm, hl2⟩
  rw [la, List.take_length] at hl2
  exact ⟨_, rfl, k l H2 sm hl hl2⟩
structure Dv3 (P : Program) (w : World) (K : PySem.W.Frag) (mg : Str → Option Value) (base : Heap) : Prop where
 unknowns_of : DefOk P w K mg base 3 "unknowns_of" ["question"] spUnksQ
theorem sc_inner_unknowns : FnScope ["view"] ["view"] (defScope s_inner_unknowns) := ⟨rfl, rfl, rfl, by decide +kernel, rfl, by decide +kernel, by decide +kernel⟩
theorem ok_inner {f : Addr} {fd : FuncData} (F : Fun K "inner_unknowns" "inner_unknowns" s_inner_unknowns f fd) (T : Txt K mg) (D : Dv3 P w K mg base) : FnOk P w K mg base CX0 4 f fd ["view"] spInner := by
 refine F.ok sc_inner_unknowns (fun vs H Q E h => ?_) (fun cdv A outer s H vs Q E hr h => ?_)
 ·obtain ⟨a, b, c, rfl, _⟩ := h
  rfl
 obtain ⟨v, hs, ats, rfl, hV, k⟩ := h
 have hq0 := hV.q
 obtain ⟨⟨q, hd, aa, avs, rfl, hq, hhd, haa, hats⟩, l1, l8, good, h4, hh⟩ := hV.q
 refine ⟨_, (pss_one (ps_ret (pe_compIf rfl (compSc_mk (fs := ["view"]) (fr := [0])) (pi_list (cl D.unknowns_of hr (pa_cons (pv 0) pa_nil))) (fun _ _ _ _ => (pt_cmpR (op_notIn_seqK (K := K)) (pv 0) (pe_ix (ix_tupK (K := K)) (pv 1) pe_int (fun _ _ => rfl)) (by with_unfolding_all rfl))) (fun _ _ _ _ => (pv 0))))), ?_⟩
 refine ⟨_, rfl, _, hs, ats, rfl, hq0, fun ul H1 sm1 nul hul => ?_⟩
 have lu := len_unk (flatA ats)
 have lfl : (flatA ats).length ≤ 800 := by
  have := good.len ats.length
  rw [List.take_length] at this
  omega
 refine ⟨ul, rfl, ⟨_, SqL.of hul⟩, comp_list (K := K) (a := ul) (xs := (unkL (flatA ats)).map V.str) (fun i ys H3 => H3 = H1 ∧ i ≤ (unkL (flatA ats)).length ∧ ys = (((unkL (flatA ats)).take i).filter fun z => !decide (z ∈ hs)).map V.str) (by rw [List.length_map]; exact small1000 (by omega)) ⟨rfl, Nat.zero_le _, rfl⟩ ?_ ?_ ?_⟩
 ·rintro i ys H3 hi ⟨rfl, _, rfl⟩
  refine ⟨SqL.of hul, ?_⟩
  rw [List.length_map]
  refine Nat.le_trans (List.length_filter_le _ _) ?_
  rw [List.length_take]
  omega
 ·rintro i x ys H3 N hc ⟨rfl, hi, rfl⟩ hN
  obtain ⟨z, hz, rfl⟩ := at_strs hc
  have hlt : i < (unkL (flatA ats)).length := (List.getElem?_eq_some_iff.mp hz).1
  refine ⟨_, rfl, _, rfl, _, _, _, _, rfl, rfl, SqT.of (sm1 _ _ hq), rfl, hd, _, rfl, .inr (SqT.of (sm1 _ _ hhd)), rfl, flat_V _, _, rfl, ?_⟩
  show if (!inV (.str z) (hs.map V.str)) = true then _ else _
  rw [inV_str]
  have et := List.take_add_one (l := unkL (flatA ats)) (i := i)
  rw [hz] at et
  refine ite2 (fun c1 => ?_) (fun c1 => ?_)
  ·refine ⟨_, rfl, hN _ _ ⟨rfl, hlt, ?_⟩⟩
   rw [et, List.filter_append, List.map_append]
   show _ = _ ++ (List.filter _ [z]).map V.str
   rw [List.filter_cons, if_pos c1]
   rfl
  ·refine hN _ _ ⟨rfl, hlt, ?_⟩
   rw [et, List.filter_append, List.map_append]
   show _ = _ ++ (List.filter _ [z]).map V.str
   rw [List.filter_cons, if_neg c1]
   simp
 ·rintro ys H3 ⟨rfl, _, rfl⟩ l hl
  rw [List.length_map, List.take_length]
  exact k l _ (sm1.trans (same_new hl _)) (sm1.free hl) upd_same
end
def inn (xs : List View) (nm : Str) : List Str := match viewOf xs nm with
 | some x => innerL x.2.1 x.2.2
 | none => []
def tot (xs : List View) (ats : List (Str × List Str)) : Nat := (ats.map fun a => (inn xs a.1).length).sum
theorem tot_cons (xs : List View) (a : Str × List Str) (ats : List (Str × List Str)) : tot xs (a :: ats) = (inn xs a.1).length + tot xs ats := by
 unfold tot
 rw [List.map_cons, List.sum_cons]
theorem tot_int (xs : List View) : ∀ ats : List (Str × List Str), (ats.map fun a => (((inn xs a.1).length : Nat) : Int)).sum = ((tot xs ats : Nat) : Int)
 | [] => rfl
 | a :: r => by
  rw [tot_cons, List.map_cons, List.sum_cons, tot_int xs r]
  omega
theorem tot_le {xs : List View} : ∀ {ats : List (Str × List Str)}, (∀ a ∈ ats, (inn xs a.1).length ≤ 32) → tot xs ats ≤ 32 * ats.length
 | [], _ => Nat.le_refl _
 | a :: r, h => by
  have h1 := h a List.mem_cons_self
  have h2 := tot_le (ats := r) fun b hb => h b (List.mem_cons_of_mem _ hb)
  rw [tot_cons, List.length_cons]
  omega
def spNewU : Sp := fun vs H Q _ => ∃ (xs : List View) (kd : Addr) (kvs : List (Key × V)) (v : V) (hz : List Str) (ats : List (Str × List Str)), vs = [.ref kd, v] ∧ H kd = some (.dK kvs) ∧ KD H kvs xs ∧ QW H v hz ats ∧ ats.length ≤ 6 ∧ (∀ a ∈ ats, okA xs a = true) ∧
 ∀ (r : Addr) (ws : List Str) (H' : Hp), Same H H' → H r = none → H' r = some (.lst (ws.map V.str)) → ws.length = tot xs ats → ws.Nodup → (∀ z ∈ ws, isUnk z = true ∧ TermOk z ∧ z ∉ hz ++ flatA ats) → Q (.ref r) H'
theorem VQ.inner {H : Hp} {q : V} {hs : List Str} {ats : List (Str × List Str)} (h : VQ H q hs ats) : (innerL hs ats).length ≤ 32 := by
 have h1 := inner_len hs ats
 have h2 := h.q.good.len ats.length
 rw [List.take_length] at h2
 have := h.l8
 omega
section
variable {P : Program} {w : World} {K : PySem.W.Frag} {mg : Str → Option Value} {base : Heap}
structure Dnu (P : Program) (w : World) (K : PySem.W.Frag) (mg : Str → Option Value) (base : Heap) : Prop where
 is_unknown : DefOk P w K mg base 2 "is_unknown" ["thing"] spUnk
 inner_unknowns : DefOk P w K mg base 4 "inner_unknowns" ["view"] spInner
 terms_of : DefOk P w K mg base 1 "terms_of" ["question"] spTermsQ
 new_values : DefOk P w K mg base 1 "new_values" ["count", "taken"] spNewV
theorem sc_new_unknowns : FnScope ["kept", "question", "count", "taken"] ["kept", "question"] (defScope s_new_unknowns) := ⟨rfl, rfl, rfl, by decide +kernel, rfl, by decide +kernel, by decide +kernel⟩
theorem ok_new_unknowns {f : Addr} {fd : FuncData} (F : Fun K "new_unknowns" "new_unknowns" s_new_unknowns f fd) (T : Txt K mg) (D : Dnu P w K mg base) : FnOk P w K mg base CX0 5 f fd ["kept", "question"] spNewU := by
 refine F.ok sc_new_unknowns (fun vs H Q E h => ?_) (fun cdv A outer s H vs Q E hr h => ?_)
 ·obtain ⟨y, a, b, c, d, e, rfl, _⟩ := h
  rfl
 obtain ⟨xs, kd, kvs, v, hz, ats, rfl, hkd, hK, hQ, la6, hok, k⟩ := h
 have hQ0 := hQ
 obtain ⟨⟨q, hd, aa, avs, rfl, hq, hhd, haa, hats⟩, l1, l8, good, h4, hh⟩ := hQ
 have hu := hu_of hr
 have la : avs.length = ats.length := Paired.length hats
 have hin : ∀ a ∈ ats, ∃ x qv, viewOf xs a.1 = some x ∧ valV kvs (Sum.inr a.1 : Key) = some qv ∧ VQ H qv x.2.1 x.2.2 ∧ inn xs a.1 = innerL x.2.1 x.2.2 := fun a ha => by
  obtain ⟨x, hx, _⟩ := okA_view (hok a ha)
  obtain ⟨qv, h1, h2⟩ := hK.some hx
  exact ⟨x, qv, hx, h1, h2, by unfold inn; rw [hx]⟩
 have htot : tot xs ats ≤ 32 * ats.length := tot_le fun a ha => by
  obtain ⟨x, qv, _, _, h2, e⟩ := hin a ha
  rw [e]
  exact h2.inner
 have lfl : (flatA ats).length ≤ 24 := by
  have := good.len ats.length
  rw [List.take_length] at this
  omega
 have hall : ∀ z ∈ hz ++ flatA ats, TermOk z := fun z h => by
  rcases List.mem_append.mp h with h | h
  ·exact hh z h
  ·exact good.flat h
 refine ⟨_, (pss_cons (ps_set (i := 2) sc_new_unknowns.nd rfl (Or.inl rfl) (pe_callB (call_sum rfl) rfl T.n_sum (by decide +kernel) (pa_cons (pe_compT rfl (compScT_mk (more := ["terms"]) (fs := ["kept"]) (fr := [0])) (pi_tup (pe_ix ix_tup (pv 1) pe_int (fun _ _ => rfl))) (fun _ _ _ _ => (pg_tupK (K := K) (n := 2) rfl (pgs_cons (pg_nameC (i := 0)) (pgs_cons (pg_nameC (i := 1)) pgs_nil)))) (fun _ _ _ _ => (pe_callB (call_lenK (K := K)) rfl T.n_len PySem.boot_len (pa_cons (cl D.inner_unknowns hr (pa_cons (pe_dget hu (pv 2) (pv 0) (fun _ _ => rfl)) pa_nil)) pa_nil)))) pa_nil)))
   (pss_cons (ps_setCompIf (j := 3) sc_new_unknowns.nd rfl rfl rfl (compSc_mk (fs := []) (fr := [])) (pi_list (cl D.terms_of hr (pa_cons (pv 1) pa_nil))) (fun _ _ _ _ => (pt_val (cl D.is_unknown hr (pa_cons (pv 0) pa_nil)))) (fun _ _ _ _ => (pe_slice sl_str (pv 0) (po_some pe_int) po_none)))
   (pss_one (ps_ret (pe_comp rfl (compSc_mk (fs := []) (fr := [])) (pi_list (cl D.new_values hr (pa_cons (pv 2) (pa_cons (pv 3) pa_nil)))) (fun _ _ _ _ => (pe_op op_add_str pe_str (pv 0)))))))), ?_⟩
 -- count
 refine ⟨_, rfl, _, _, _, _, rfl, rfl, SqT.of hq, rfl, aa, rfl, ⟨avs, SqT.of haa⟩, comp2_tup (K := K) (a := aa) (xs := avs) (fun i ys H2 => Same H H2 ∧ i ≤ ats.length ∧ ys = ((ats.take i).map fun a => (((inn xs a.1).length : Nat) : Int)).map V.int) (small1000 (by omega)) ⟨Same.refl _, Nat.zero_le _, rfl⟩ ?_ ?_ ?_⟩
 ·rintro i ys H2 hi ⟨sm, _, rfl⟩
  refine ⟨SqT.of (sm _ _ haa), ?_⟩
  rw [List.length_map, List.length_map, List.length_take]
  omega
 ·rintro i x ys H2 N hc ⟨sm, hi, rfl⟩ hN
  obtain ⟨ta, ht, p, t, rfl, hp, htt⟩ := Paired.at hats hc
  have hlt : i < ats.length := (List.getElem?_eq_some_iff.mp ht).1
  obtain ⟨x, qv, hx, hv, hV, ei⟩ := hin ta (List.mem_of_getElem? ht)
  refine ⟨p, _, _, rfl, SqT.of (sm _ _ hp), rd_true ?_⟩
  refine ⟨_, rfl, _, rfl, kd, qv, rfl, by rw [← hv]; exact DGet.k (k := Sum.inr ta.1) (sm _ _ hkd), qv, x.2.1, x.2.2, rfl, hV.keep (Tups.of sm), fun r H3 sm3 nr hr3 => ?_⟩
  refine ⟨_, _, rfl, .inl ⟨_, SqL.of hr3, rfl⟩, hN _ _ ⟨sm.trans sm3, hlt, ?_⟩⟩
  rw [List.take_add_one, ht, List.map_append, List.map_append]
  show _ = _ ++ [V.int (((inn xs ta.1).length : Nat) : Int)]
  rw [ei, List.length_map]
 ·rintro ys H2 ⟨sm, _, rfl⟩ l hl
  rw [la, List.take_length]
  refine ⟨l, _, rfl, SqL.of upd_same, ?_⟩
  rw [tot_int]
  have sm1 : Same H (upd H2 l (.lst ((ats.map fun a => (((inn xs a.1).length : Nat) : Int)).map V.int))) := sm.trans (same_new hl _)
  generalize upd H2 l (.lst ((ats.map fun a => (((inn xs a.1).length : Nat) : Int)).map V.int)) = H1 at sm1 ⊢
  -- taken
  refine ⟨_, rfl, .ref q, hz, ats, rfl, hQ0.keep (Tups.of sm1), fun tl H3 sm3 ntl htl => ?_⟩
  refine ⟨tl, rfl, ⟨_, SqL.of htl⟩, comp_list (K := K) (a := tl) (xs := (hz ++ flatA ats).map V.str) (fun i ys H4 => Same H3 H4 ∧ i ≤ (hz ++ flatA ats).length ∧ ys = ((((hz ++ flatA ats).take i).filter isUnk).map fun z => Txt.slice z (some 1) none).map V.str) (by rw [List.length_map, List.length_append]; exact small1000 (by omega)) ⟨Same.refl _, Nat.zero_le _, rfl⟩ ?_ ?_ ?_⟩
  ·rintro i ys H4 hi ⟨sm4, _, rfl⟩
   refine ⟨SqL.of (sm4 _ _ htl), ?_⟩
   rw [List.length_map, List.length_map]
   refine Nat.le_trans (List.length_filter_le _ _) ?_
   rw [List.length_take]
   omega
  ·rintro i x ys H4 N hc ⟨sm4, hi, rfl⟩ hN
   obtain ⟨z, hz', rfl⟩ := at_strs hc
   have hlt : i < (hz ++ flatA ats).length := (List.getElem?_eq_some_iff.mp hz').1
   have hzT := hall z (List.mem_of_getElem? hz')
   refine ⟨_, rfl, z, rfl, by have := hzT.2.1; omega, fun H5 sm5 => ⟨_, rfl, ?_⟩⟩
   refine ite2 (fun c1 => ?_) (fun c1 => ?_)
   ·refine ⟨_, rfl, _, rfl, _, rfl, Nat.le_of_lt (small1000 (by have := hzT.2.1; omega)), hN _ _ ⟨sm4.trans sm5, hlt, ?_⟩⟩
    rw [filter_take hz', if_pos c1, List.map_append, List.map_append]
    rfl
   ·refine hN _ _ ⟨sm4.trans sm5, hlt, ?_⟩
    rw [filter_take hz', if_neg c1, List.append_nil]
  ·rintro ys H4 ⟨sm4, _, rfl⟩ l2 hl2
   rw [List.length_map, List.take_length]
   have sm5 : Same H (upd H4 l2 (.lst ((((hz ++ flatA ats).filter isUnk).map fun z => Txt.slice z (some 1) none).map V.str))) := ((sm1.trans sm3).trans sm4).trans (same_new hl2 _)
   have hl5 : upd H4 l2 (.lst ((((hz ++ flatA ats).filter isUnk).map fun z => Txt.slice z (some 1) none).map V.str)) l2 = some (.lst ((((hz ++ flatA ats).filter isUnk).map fun z => Txt.slice z (some 1) none).map V.str)) := upd_same
   generalize upd H4 l2 (.lst ((((hz ++ flatA ats).filter isUnk).map fun z => Txt.slice z (some 1) none).map V.str)) = H5 at sm5 hl5 ⊢
   have ltk : (((hz ++ flatA ats).filter isUnk).map fun z => Txt.slice z (some 1) none).length ≤ 28 := by
    rw [List.length_map]
    refine Nat.le_trans (List.length_filter_le _ _) ?_
    rw [List.length_append]
    omega
   refine ⟨_, rfl, _, rfl, _, l2, _, rfl, hl5, by omega, by omega, fun vl ks H6 sm6 nvl hvl lks ndk hks => ?_⟩
   refine ⟨vl, rfl, ⟨_, SqL.of hvl⟩, comp_list (K := K) (a := vl) (xs := (ks.map nmS).map V.str) (fun i ys H7 => H7 = H6 ∧ i ≤ ks.length ∧ ys = ((ks.take i).map fun i => ("?" : Str) ++ nmS i).map V.str) (by rw [List.length_map, List.length_map]; exact small1000 (by omega)) ⟨rfl, Nat.zero_le _, rfl⟩ ?_ ?_ ?_⟩
   ·rintro i ys H7 hi ⟨rfl, _, rfl⟩
    refine ⟨SqL.of hvl, ?_⟩
    rw [List.length_map, List.length_map, List.length_take]
    omega
   ·rintro i x ys H7 N hc ⟨rfl, hi, rfl⟩ hN
    obtain ⟨z, hz', rfl⟩ := at_strs hc
    rw [List.getElem?_map] at hz'
    cases ek : ks[i]? with
    | none => rw [ek] at hz'; cases hz'
    | some m =>
     rw [ek] at hz'
     obtain rfl : nmS m = z := Option.some.inj hz'
     have hlt : i < ks.length := (List.getElem?_eq_some_iff.mp ek).1
     have hm := (hks m (List.mem_of_getElem? ek)).1
     have lm := val_len (nm_is hm).v
     refine rd_true ?_
     refine ⟨_, rfl, _, _, rfl, rfl, by rw [q_len]; have := small1000 (n := 1 + (nmS m).length) (by omega); omega, hN _ _ ⟨rfl, hlt, ?_⟩⟩
     rw [List.take_add_one, ek, List.map_append, List.map_append]
     rfl
   ·rintro ys H7 ⟨rfl, _, rfl⟩ l3 hl3
    rw [List.length_map, List.length_map, List.take_length]
    refine k l3 _ _ ((sm5.trans sm6).trans (same_new hl3 _)) ((sm5.trans sm6).free hl3) upd_same (by rw [List.length_map]; omega) ?_ fun z hz' => ?_
    ·refine nd_mapI (fun i hi j hj e => ?_) ndk
     have e1 := congrArg (fun z => Txt.slice z (some 1) none) e
     have e1 : Txt.slice (("?" : Str) ++ nmS i) (some 1) none = Txt.slice (("?" : Str) ++ nmS j) (some 1) none := e1
     rw [(nm_is (hks i hi).1).c, (nm_is (hks j hj).1).c] at e1
     exact nm_inj (hks i hi).1 (hks j hj).1 e1
    ·obtain ⟨m, hm, rfl⟩ := List.mem_map.mp hz'
     have hb := nm_is (hks m hm).1
     refine ⟨hb.u, ⟨by unfold isTermS; rw [hb.u, Bool.or_true], ?_, hb.us⟩, fun hmem => (hks m hm).2 ?_⟩
     ·rw [Str.length_append, q_len]
      have := val_len hb.v
      omega
     ·exact List.mem_map.mpr ⟨_, List.mem_filter.mpr ⟨hmem, hb.u⟩, hb.c⟩
end
def spCheck (cV : Addr) : Sp := fun vs H Q E => ∃ (xs : List View) (kd : Addr) (kvs : List (Key × V)) (v : V) (hz : List Str) (ats : List (Str × List Str)), vs = [.ref kd, v] ∧ H kd = some (.dK kvs) ∧ KD H kvs xs ∧ QW H v hz ats ∧ ats.length ≤ 100 ∧ (match placeV xs ats with
 | some n => errTo E H cV "place" (.int (n : Int))
 | none => ∀ H', Same H H' → Q .non H')
structure Dnv (P : Program) (w : World) (K : PySem.W.Frag) (mg : Str → Option Value) (base : Heap) (cV : Addr) : Prop where
 m_NoView : mg "NoView" = some (.ref cV)
 k_NoView : PySem.W.keepIn K (.ref cV) = true
 q_NoView : excInI K cV bmV "ValueError.__new__" = true
 x_NoView : ∃ (f : Addr) (fd : FuncData), PySem.W.findIn K (.ref cV) "__init__" = some (some (.ref f)) ∧ PySem.W.isFn K (.ref f) = true ∧ FnOk P w K mg base CX0 1 f fd ["self", "place"] (spInit cV "place") ∧ Binds K fd ["self", "place"] []
section
variable {P : Program} {w : World} {K : PySem.W.Frag} {mg : Str → Option Value} {base : Heap} {cV : Addr}
theorem pe_noView {X : Cx} {D : Dnv X.prog X.w X.K X.mg X.base cV} {j : Nat} {e : Expr} {t : TA} {p pos : Pos} (hr : Room j X.A) (ha : PA X [e] t) (hj : 2 ≤ j := by decide) (hg : Gl X "NoView" := by rfl) (he : starEach [e] X.env = (false, eval e X.env) :: starEach [] X.env := by rfl) : PE X (.Call (.Name "NoView" p) [e] [] pos) (tExcI cV (spInit cV "place") E0 t) := by
 obtain ⟨f, fd, h1, h2, h3, h4⟩ := D.x_NoView
 exact pe_excI D.q_NoView D.k_NoView h1 h2 h3 (hr.mono hj) h4 pass0 hg D.m_NoView ha (by decide) he rfl
theorem sc_check_views : FnScope ["kept", "question", "place", "atom", "name", "terms"] ["kept", "question"] (defScope s_check_views) := ⟨rfl, rfl, rfl, by decide +kernel, rfl, by decide +kernel, by decide +kernel⟩
theorem ok_check_views {f : Addr} {fd : FuncData} (F : Fun K "check_views" "check_views" s_check_views f fd) (T : Txt K mg) (DE : Dnv P w K mg base cV) : FnOk P w K mg base (CXE P w) 4 f fd ["kept", "question"] (spCheck cV) := by
 refine F.okE sc_check_views (fun vs H Q E h => ?_) (fun cdv A outer s H vs Q E hr h => ?_)
 ·obtain ⟨y, a, b, c, d, e, rfl, _⟩ := h
  rfl
 obtain ⟨xs, kd, kvs, v, hz, ats, rfl, hkd, hK, hQ, la6, k⟩ := h
 obtain ⟨⟨q, hd, aa, avs, rfl, hq, hhd, haa, hats⟩, l1, l8, good, h4, hh⟩ := hQ
 have hu := hu_of hr
 have la : avs.length = ats.length := Paired.length hats
 refine ⟨_, (pss_one (ps_for PassesOwn.leaving rfl (pi_enumT rfl T.n_enumerate (pa_cons (pe_ix ix_tup (pv 1) pe_int (fun _ _ => rfl)) pa_nil)) (pg_tup rfl (pgs_cons (pg_name (i := 2) sc_check_views.nd rfl (Or.inl rfl)) (pgs_cons (pg_name (i := 3) sc_check_views.nd rfl (Or.inl rfl)) pgs_nil)))
   (pss_cons (ps_asg (pv 3) (pg_tup rfl (pgs_cons (pg_name (i := 4) sc_check_views.nd rfl (Or.inl rfl)) (pgs_cons (pg_name (i := 5) sc_check_views.nd rfl (Or.inl rfl)) pgs_nil))))
   (pss_one (ps_if (PW.pt (pw_or (pt_cmp (pc_dnotin hu (pv 4) (pv 0))) (pw_or1 (pt_cmpR op_ne (pe_callB call_len rfl T.n_len PySem.boot_len (pa_cons (pe_ix ix_tup (pe_dget hu (pv 0) (pv 4) (fun _ _ => rfl)) pe_int (fun _ _ => rfl)) pa_nil)) (pe_callB call_len rfl T.n_len PySem.boot_len (pa_cons (pv 5) pa_nil)) (nomark _))))) (pss_one (ps_raise (pe_noView (D := DE) hr (pa_cons (pv 2) pa_nil)) lets_cx hr.hd)) pss_nil))))), ?_⟩
 refine ⟨_, rfl, _, _, _, _, rfl, rfl, SqT.of hq, rfl, aa, rfl, ⟨avs, SqT.of haa⟩, for_enumT (K := K) (a := aa) (xs := avs)
  (fun i σ H2 => ∃ (x2 x3 x4 x5 : Option V), σ = [some (.ref kd), some (.ref q), x2, x3, x4, x5] ∧ Same H H2 ∧ ∀ j b, j < i → ats[j]? = some b → okA xs b = true) ⟨none, none, none, none, rfl, Same.refl H, fun j b h => absurd h (Nat.not_lt_zero _)⟩ (fun i σ H2 _ ⟨_, _, _, _, _, sm, _⟩ => SqT.of (sm _ _ haa)) ?_ ?_⟩
 ·rintro i x p σ H2 hx ⟨x2, x3, x4, x5, rfl, sm, hb⟩ hp
  obtain ⟨ta, ht, ap, t, rfl, hap, htt⟩ := Paired.at hats hx
  have sm3 := sm.trans (same_new hp (.tup [.int i, .ref ap]))
  have hpp : upd H2 p (.tup [.int i, .ref ap]) p = some (.tup [.int i, .ref ap]) := upd_same
  generalize upd H2 p (.tup [.int i, .ref ap]) = H3 at sm3 hpp ⊢
  have hlt : i < ats.length := (List.getElem?_eq_some_iff.mp ht).1
  refine ⟨p, _, rfl, SqT.of hpp, rfl, _, _, rfl, _, _, rfl, rfl, ?_⟩
  refine ⟨_, rfl, ap, _, rfl, SqT.of (sm3 _ _ hap), rfl, _, _, rfl, _, _, rfl, rfl, ?_⟩
  have bad : okA xs ta = false → errTo E H cV "place" (.int (i : Int)) := fun h => by
   rw [place_first hb ht h] at k
   exact k
  have fine : okA xs ta = true → ∀ j b, j < i + 1 → ats[j]? = some b → okA xs b = true := fun h j b hj e => by
   rcases Nat.lt_succ_iff_lt_or_eq.mp hj with hj | rfl
   ·exact hb j b hj e
   ·rw [ht] at e
    cases e
    exact h
  cases ev : viewOf xs ta.1 with
  | none =>
   have eo : okA xs ta = false := by unfold okA; rw [ev]
   refine ⟨_, rfl, _, rfl, kd, none, rfl, by rw [← hK.none ev]; exact DGet.k (k := Sum.inr ta.1) (sm3 _ _ hkd), _, rfl, iteT ?_⟩
   exact ⟨_, rfl, raise_end (bad eo) sm3 (.inr ⟨_, rfl, small_int i (by omega)⟩) DE.q_NoView⟩
  | some x =>
   obtain ⟨qv, h1, h2⟩ := hK.some ev
   obtain ⟨⟨q2, hd2, aa2, avs2, e2, hq2, hhd2, haa2, hats2⟩, _⟩ := h2.q
   subst e2
   have dg : DGet H3 kd (kV (Sum.inr ta.1)) (some (.ref q2)) := by rw [← h1]; exact DGet.k (k := Sum.inr ta.1) (sm3 _ _ hkd)
   refine ⟨_, rfl, _, rfl, kd, _, rfl, dg, _, rfl, iteF ?_⟩
   refine ⟨_, rfl, _, rfl, kd, _, rfl, dg, _, _, _, _, rfl, rfl, SqT.of (sm3 _ _ hq2), rfl, _, _, rfl, .inr ⟨_, SqT.of (sm3 _ _ hhd2), rfl⟩, _, rfl, _, _, rfl, .inr ⟨_, SqT.of (sm3 _ _ htt), rfl⟩, rfl, _, rfl, ?_⟩
   refine ite2 (fun c => ?_) (fun c => ?_)
   ·have c : x.2.1.length ≠ ta.2.length := fun e => by
     have c : (!decide (V.int (((x.2.1.map V.str).length : Nat) : Int) = V.int (((ta.2.map V.str).length : Nat) : Int))) = true := c
     rw [List.length_map, List.length_map, e, decide_eq_true rfl] at c
     cases c
    have eo : okA xs ta = false := by unfold okA; rw [ev]; exact decide_eq_false c
    exact ⟨_, rfl, raise_end (bad eo) sm3 (.inr ⟨_, rfl, small_int i (by omega)⟩) DE.q_NoView⟩
   ·have c : x.2.1.length = ta.2.length := by
     have c : ¬ (!decide (V.int (((x.2.1.map V.str).length : Nat) : Int) = V.int (((ta.2.map V.str).length : Nat) : Int))) = true := c
     rw [List.length_map, List.length_map] at c
     have c2 : decide (V.int ((x.2.1.length : Nat) : Int) = V.int ((ta.2.length : Nat) : Int)) = true := by
      cases h : decide (V.int ((x.2.1.length : Nat) : Int) = V.int ((ta.2.length : Nat) : Int)) with
      | true => rfl
      | false => rw [h] at c; exact absurd rfl c
     have := of_decide_eq_true c2
     injection this with this
     omega
    have eo : okA xs ta = true := by unfold okA; rw [ev]; exact decide_eq_true c
    exact ⟨_, _, _, _, rfl, sm3, fine eo⟩
 ·rintro σ H2 ⟨x2, x3, x4, x5, rfl, sm, hb⟩
  rw [la] at hb
  rw [place_none fun i b e => hb i b (List.getElem?_eq_some_iff.mp e).1 e] at k
  exact k H2 sm
end
theorem lk_none {z : Str} : ∀ {ks ts : List Str}, z ∉ ks → lkS (ks.zip ts) z = none
 | [], _, _ => rfl
 | _ :: _, [], _ => rfl
 | k :: ks, t :: ts, h => by
  unfold lkS
  rw [List.zip_cons_cons, List.find?_cons, decide_eq_false (fun e => h (by rw [show k = z from e]; exact List.mem_cons_self))]
  exact lk_none fun e => h (List.mem_cons_of_mem _ e)
theorem lk_some {z t : Str} : ∀ {ks ts : List Str} {i : Nat}, ks.Nodup → ks[i]? = some z → ts[i]? = some t → lkS (ks.zip ts) z = some t
 | [], _, _, _, h, _ => by simp at h
 | _ :: _, [], _, _, _, h => by simp at h
 | k :: ks, u :: ts, 0, _, h1, h2 => by
  simp at h1 h2
  unfold lkS
  rw [List.zip_cons_cons, List.find?_cons, decide_eq_true (show k = z from h1), h2]
  rfl
 | k :: ks, u :: ts, i + 1, nd, h1, h2 => by
  rw [List.nodup_cons] at nd
  simp at h1 h2
  unfold lkS
  rw [List.zip_cons_cons, List.find?_cons, decide_eq_false (fun e => nd.1 (by rw [show k = z from e]; exact List.mem_of_getElem? h1))]
  exact lk_some nd.2 h1 h2
theorem zip_gD : ∀ (ks ts : List Str), (ks.map fun z => (Sum.inr z : Key)).zip (ts.map V.str) = gD (ks.zip ts)
 | [], _ => rfl
 | _ :: _, [] => rfl
 | k :: ks, t :: ts => by
  rw [List.map_cons, List.map_cons, List.zip_cons_cons, zip_gD ks ts]
  rfl
theorem keys_gD {ks ts : List Str} (h : ks.length = ts.length) : ((gD (ks.zip ts)).map (·.1)) = ks.map fun z => (Sum.inr z : Key) := by
 unfold gD
 rw [List.map_map]
 have : ((fun (x : Key × V) => x.1) ∘ fun (p : Str × Str) => ((Sum.inr p.1 : Key), V.str p.2)) = (fun z => (Sum.inr z : Key)) ∘ fun (p : Str × Str) => p.1 := rfl
 rw [this, ← List.map_map]
 congr 1
 exact List.map_fst_zip (by omega)
theorem merge_gDz {ks ts : List Str} (nd : ks.Nodup) (h : ks.length = ts.length) : mergeK [] (gD (ks.zip ts)) = gD (ks.zip ts) := merge_nd _ [] (by rw [List.nil_append, keys_gD h]; exact nd_keys nd)
theorem fits_of {x : View} {ts fs used : List Str} {n : Nat} (nd : x.2.1.Nodup) (hu : ∀ z ∈ x.2.1, isUnk z = true) (ndi : (innerL x.2.1 x.2.2).Nodup) (hl : x.2.1.length = ts.length) (hn : n = (innerL x.2.1 x.2.2).length) (hf : n ≤ fs.length) (ndf : fs.Nodup)
  (hfs : ∀ z ∈ fs, isUnk z = true ∧ TermOk z ∧ z ∉ used) : Fits x ts used (ledS ((x.2.1 ++ innerL x.2.1 x.2.2).zip (ts ++ fs.take n))) ∧ ∀ z ∈ innerL x.2.1 x.2.2, ledS ((x.2.1 ++ innerL x.2.1 x.2.2).zip (ts ++ fs.take n)) z ∈ fs.take n := by
 have ndk : (x.2.1 ++ innerL x.2.1 x.2.2).Nodup := by
  rw [List.nodup_append]
  refine ⟨nd, ndi, fun a ha b hb e => ?_⟩
  rw [mem_inner] at hb
  exact hb.2.2 (e ▸ ha)
 have inn : ∀ (j : Nat) (z : Str), (innerL x.2.1 x.2.2)[j]? = some z → ∃ t, (fs.take n)[j]? = some t ∧ ledS ((x.2.1 ++ innerL x.2.1 x.2.2).zip (ts ++ fs.take n)) z = t := fun j z hz => by
  have hj : j < (innerL x.2.1 x.2.2).length := (List.getElem?_eq_some_iff.mp hz).1
  have hj2 : j < (fs.take n).length := by rw [List.length_take]; omega
  refine ⟨_, List.getElem?_eq_getElem hj2, ?_⟩
  have h1 : (x.2.1 ++ innerL x.2.1 x.2.2)[x.2.1.length + j]? = some z := by
   rw [List.getElem?_append_right (by omega), Nat.add_sub_cancel_left]
   exact hz
  have h2 : (ts ++ fs.take n)[x.2.1.length + j]? = some (fs.take n)[j] := by
   rw [hl, List.getElem?_append_right (by omega), Nat.add_sub_cancel_left]
   exact List.getElem?_eq_getElem hj2
  unfold ledS
  rw [lk_some ndk h1 h2]
  rfl
 refine ⟨⟨fun i z hz => ?_, fun z hz => ?_, fun z hz => ?_, fun y z hy hz e => ?_⟩, fun z hz => ?_⟩
 ·have hi : i < x.2.1.length := (List.getElem?_eq_some_iff.mp hz).1
  have h1 : (x.2.1 ++ innerL x.2.1 x.2.2)[i]? = some z := by
   rw [List.getElem?_append_left hi]
   exact hz
  obtain ⟨t, ht⟩ : ∃ t, ts[i]? = some t := ⟨_, List.getElem?_eq_getElem (by omega)⟩
  have h2 : (ts ++ fs.take n)[i]? = some t := by
   rw [List.getElem?_append_left (by omega)]
   exact ht
  unfold ledS
  rw [lk_some ndk h1 h2]
  exact ht
 ·unfold ledS
  rw [lk_none fun h => ?_]
  ·rfl
  ·rcases List.mem_append.mp h with h | h
   ·rw [hu z h] at hz
    cases hz
   ·rw [(mem_inner.mp h).2.1] at hz
    cases hz
 ·obtain ⟨j, hj⟩ := List.mem_iff_getElem?.mp hz
  obtain ⟨t, h1, h2⟩ := inn j z hj
  rw [h2]
  have := hfs t (List.mem_of_mem_take (List.mem_of_getElem? h1))
  exact ⟨this.2.1, this.1, this.2.2⟩
 ·obtain ⟨i, hi⟩ := List.mem_iff_getElem?.mp hy
  obtain ⟨j, hj⟩ := List.mem_iff_getElem?.mp hz
  obtain ⟨t, h1, h2⟩ := inn i y hi
  obtain ⟨t', h3, h4⟩ := inn j z hj
  rw [h2, h4] at e
  subst e
  have ndt : (fs.take n).Nodup := ndf.sublist (List.take_sublist _ _)
  have hij : i = j := by
   obtain ⟨a1, a2⟩ := List.getElem?_eq_some_iff.mp h1
   obtain ⟨b1, b2⟩ := List.getElem?_eq_some_iff.mp h3
   exact (List.getElem_inj ndt).mp (a2.trans b2.symm)
  subst hij
  rw [hi] at hj
  exact Option.some.inj hj
 ·obtain ⟨j, hj⟩ := List.mem_iff_getElem?.mp hz
  obtain ⟨t, h1, h2⟩ := inn j z hj
  rw [h2]
  exact List.mem_of_getElem? h1
def PartsAt (H : Hp) : List V → List (List (Str × List Str)) → Prop := Paired fun v us => ∃ (l : Addr) (avs : List V), v = .ref l ∧ H l = some (.lst avs) ∧ AtomsAt H avs us
def PartsX (pl : Addr) (H : Hp) : List V → List (List (Str × List Str)) → Prop := Paired fun v us => ∃ (l : Addr) (avs : List V), v = .ref l ∧ l ≠ pl ∧ H l = some (.lst avs) ∧ AtomsAt H avs us
theorem PartsX.keep {pl : Addr} {H H' : Hp} (s : Same H H') {vs : List V} {us : List (List (Str × List Str))} (h : PartsX pl H vs us) : PartsX pl H' vs us := Paired.imp' (fun _ _ ⟨l, avs, e, n, h1, h2⟩ => ⟨l, avs, e, n, s _ _ h1, AtomsAt.keep (Tups.of s) h2⟩) h
theorem PartsX.lst {pl : Addr} {H : Hp} {xs ys : List V} (hp : H pl = some (.lst xs)) {vs : List V} {us : List (List (Str × List Str))} (h : PartsX pl H vs us) : PartsX pl (upd H pl (.lst ys)) vs us := Paired.imp' (fun _ _ ⟨l, avs, e, n, h1, h2⟩ => ⟨l, avs, e, n, by rw [upd_ne n]; exact h1, AtomsAt.keep ((Tups.refl H).lst hp _) h2⟩) h
theorem PartsX.parts {pl : Addr} {H : Hp} {vs : List V} {us : List (List (Str × List Str))} (h : PartsX pl H vs us) : PartsAt H vs us := Paired.imp' (fun _ _ ⟨l, avs, e, n, h1, h2⟩ => ⟨l, avs, e, h1, h2⟩) h
def spJoined : Sp := fun vs H Q _ => ∃ (pl : Addr) (pvs : List V) (uss : List (List (Str × List Str))), vs = [.ref pl] ∧ H pl = some (.lst pvs) ∧ PartsAt H pvs uss ∧ uss.flatten.length ≤ 200 ∧ pvs.length ≤ 200 ∧
 ∀ (r : Addr) (avs : List V) (H' : Hp), Same H H' → H' r = some (.tup avs) → AtomsAt H' avs uss.flatten → Q (.ref r) H'
def spParts (cV : Addr) : Sp := fun vs H Q E => ∃ (xs : List View) (vl : Addr) (vws : List V) (v : V) (hz : List Str) (ats : List (Str × List Str)), vs = [.ref vl, v] ∧ H vl = some (.lst vws) ∧ VWs H vws xs ∧ (xs.map (·.1)).Nodup ∧ QW H v hz ats ∧ ats.length ≤ 6 ∧ (match placeV xs ats with
 | some n => errTo E H cV "place" (.int (n : Int))
 | none => ∀ (r : Addr) (pvs : List V) (uss : List (List (Str × List Str))) (H' : Hp), Same H H' → H' r = some (.lst pvs) → PartsAt H' pvs uss → Unf xs (flatA ats) ats uss.flatten → uss.length = ats.length → (∀ us ∈ uss, 1 ≤ us.length ∧ us.length ≤ 8 ∧ GoodT us) → Q (.ref r) H')
theorem flat_le {uss : List (List (Str × List Str))} (h : ∀ us ∈ uss, us.length ≤ 8) : uss.flatten.length ≤ 8 * uss.length := by
 induction uss with
 | nil => exact Nat.le_refl _
 | cons u r ih =>
  have h1 := h u List.mem_cons_self
  have h2 := ih fun v hv => h v (List.mem_cons_of_mem _ hv)
  rw [List.flatten_cons, List.length_append, List.length_cons]
  omega
theorem AtomsAt.app {H : Hp} : ∀ {vs ws : List V} {as bs : List (Str × List Str)}, AtomsAt H vs as → AtomsAt H ws bs → AtomsAt H (vs ++ ws) (as ++ bs)
 | _, _, _, _, .nil, h => h
 | _, _, _, _, .cons r t, h => .cons r (AtomsAt.app t h)
section
variable {P : Program} {w : World} {K : PySem.W.Frag} {mg : Str → Option Value} {base : Heap} {cV : Addr}
theorem sc_joined : FnScope ["parts", "atoms", "part"] ["parts"] (defScope s_joined) := ⟨rfl, rfl, rfl, by decide +kernel, rfl, by decide +kernel, by decide +kernel⟩
theorem ok_joined {f : Addr} {fd : FuncData} (F : Fun K "joined" "joined" s_joined f fd) (T : Txt K mg) : FnOk P w K mg base CX0 1 f fd ["parts"] spJoined := by
 refine F.ok sc_joined (fun vs H Q E h => ?_) (fun cdv A outer s H vs Q E hr h => ?_)
 ·obtain ⟨a, b, c, rfl, _⟩ := h
  rfl
 obtain ⟨pl, pvs, uss, rfl, hpl, hP, l200, lp, k⟩ := h
 refine ⟨_, (pss_cons (ps_set (i := 1) sc_joined.nd rfl (Or.inl rfl) (pe_lst pa_nil))
   (pss_cons (ps_for PassesOwn.never rfl (pi_list (pv 0)) (pg_name (i := 2) sc_joined.nd rfl (Or.inl rfl))
   (pss_one (ps_expr (pe_bm PySem.F.plainAttrs_list PySem.F.slot_list_extend PySem.F.type_list_extend mt_extend (pv 1) (pa_cons (pv 2) pa_nil)))))
   (pss_one (ps_ret (pe_callTy call_tuple_of rfl T.n_tuple (by decide +kernel) (pa_cons (pv 1) pa_nil)))))), ?_⟩
 have lu : pvs.length = uss.length := Paired.length hP
 have lf : ∀ i, ((uss.take i).flatten).length ≤ uss.flatten.length := fun i => by
  have e : uss.flatten = (uss.take i).flatten ++ (uss.drop i).flatten := by rw [← List.flatten_append, List.take_append_drop]
  rw [e, List.length_append]
  omega
 refine ⟨(by show 0 ≤ sizeLine; decide), fun al hal => ?_⟩
 have sm1 : Same H (upd H al (.lst [])) := same_new hal _
 refine ⟨_, rfl, pl, rfl, ⟨_, SqL.of (sm1 _ _ hpl)⟩, for_list (K := K) (a := pl) (xs := pvs)
  (fun i σ H2 => ∃ (x2 : Option V) (avs : List V), σ = [some (.ref pl), some (.ref al), x2] ∧ Same H H2 ∧ H2 al = some (.lst avs) ∧ AtomsAt H2 avs (uss.take i).flatten) ⟨none, [], rfl, sm1, upd_same, .nil⟩ (fun i σ H2 _ ⟨_, _, _, sm, _⟩ => SqL.of (sm _ _ hpl)) ?_ ?_⟩
 ·rintro i x σ H2 hx ⟨x2, avs, rfl, sm, hal2, hA⟩
  obtain ⟨us, hu, l, bvs, rfl, hl, hB⟩ := Paired.at hP hx
  have et : (uss.take (i + 1)).flatten = (uss.take i).flatten ++ us := by
   rw [List.take_add_one, hu, List.flatten_append]
   simp
  have l1 := lf (i + 1)
  have lA : avs.length = (uss.take i).flatten.length := Paired.length hA
  have lB : bvs.length = us.length := Paired.length hB
  rw [et, List.length_append] at l1
  refine ⟨_, rfl, .inl ⟨rfl, _, SqL.of hal2⟩, _, rfl, al, l, _, _, rfl, rfl, hal2, sm _ _ hl, Nat.le_of_lt (small1000 (by omega)), ?_⟩
  have tu : Tups H2 (upd H2 al (.lst (avs ++ bvs))) := (Tups.refl H2).lst hal2 _
  refine ⟨_, avs ++ bvs, rfl, fun b u e => ?_, upd_same, ?_⟩
  ·rw [upd_ne (ne_of_none e hal)]
   exact sm _ _ e
  ·rw [et]
   exact AtomsAt.app (AtomsAt.keep tu hA) (AtomsAt.keep ((Tups.of sm).trans tu) hB)
 ·rintro σ H2 ⟨x2, avs, rfl, sm, hal2, hA⟩
  rw [lu, List.take_length] at hA
  refine ⟨_, rfl, al, _, rfl, .inl ⟨SqL.of hal2, fun r hr' => ?_⟩⟩
  exact k r avs _ (sm.trans (same_new hr' _)) upd_same (AtomsAt.keep ((Tups.refl H2).new hr' _) hA)
structure Dpt (P : Program) (w : World) (K : PySem.W.Frag) (mg : Str → Option Value) (base : Heap) (cV : Addr) : Prop where
 check_views : DefOkE P w K mg base 4 "check_views" ["kept", "question"] (spCheck cV)
 new_unknowns : DefOk P w K mg base 5 "new_unknowns" ["kept", "question"] spNewU
 inner_unknowns : DefOk P w K mg base 4 "inner_unknowns" ["view"] spInner
 image : DefOk P w K mg base 1 "image" ["terms", "given"] spLed
theorem sc_unfolded_parts : FnScope ["views", "question", "kept", "fresh", "parts", "name", "terms", "head", "atoms", "inner", "given"] ["views", "question"] (defScope s_unfolded_parts) := ⟨rfl, rfl, rfl, by decide +kernel, rfl, by decide +kernel, by decide +kernel⟩
theorem ok_parts {f : Addr} {fd : FuncData} (F : Fun K "unfolded_parts" "unfolded_parts" s_unfolded_parts f fd) (T : Txt K mg) (D : Dpt P w K mg base cV) : FnOk P w K mg base (CXE P w) 6 f fd ["views", "question"] (spParts cV) := by
 refine F.okE sc_unfolded_parts (fun vs H Q E h => ?_) (fun cdv A outer s H vs Q E hr h => ?_)
 ·obtain ⟨y, a, b, c, d, e, rfl, _⟩ := h
  rfl
 obtain ⟨xs, vl, vws, v, hz, ats, rfl, hvl, hV, ndx, hQ, la6, k⟩ := h
 have hQ0 := hQ
 obtain ⟨⟨q, hd, aa, avs, rfl, hq, hhd, haa, hats⟩, l1, l8, good, h4, hh⟩ := hQ
 have hu := hu_of hr
 have la : avs.length = ats.length := Paired.length hats
 obtain ⟨kvs, hkp, hK, hm⟩ := views_kept hV ndx
 refine ⟨_, (pss_cons (ps_set (i := 2) sc_unfolded_parts.nd rfl (Or.inl rfl) (pe_callTy (call_dict_pairs hr.hd) rfl T.n_dict (by decide +kernel) (pa_cons (pv 0) pa_nil)))
   (pss_cons (ps_expr (clE D.check_views hr lets_cx (pa_cons (pv 2) (pa_cons (pv 1) pa_nil))))
   (pss_cons (ps_set (i := 3) sc_unfolded_parts.nd rfl (Or.inl rfl) (cl D.new_unknowns hr (pa_cons (pv 2) (pa_cons (pv 1) pa_nil))))
   (pss_cons (ps_set (i := 4) sc_unfolded_parts.nd rfl (Or.inl rfl) (pe_lst pa_nil))
   (pss_cons (ps_for PassesOwn.leaving rfl (pi_tup (pe_ix ix_tup (pv 1) pe_int (fun _ _ => rfl))) (pg_tup rfl (pgs_cons (pg_name (i := 5) sc_unfolded_parts.nd rfl (Or.inl rfl)) (pgs_cons (pg_name (i := 6) sc_unfolded_parts.nd rfl (Or.inl rfl)) pgs_nil)))
   (pss_cons (ps_asg (pe_dget hu (pv 2) (pv 5) (fun _ _ => rfl)) (pg_tup rfl (pgs_cons (pg_name (i := 7) sc_unfolded_parts.nd rfl (Or.inl rfl)) (pgs_cons (pg_name (i := 8) sc_unfolded_parts.nd rfl (Or.inl rfl)) pgs_nil))))
   (pss_cons (ps_set (i := 9) sc_unfolded_parts.nd rfl (Or.inl rfl) (cl D.inner_unknowns hr (pa_cons (pe_dget hu (pv 2) (pv 5) (fun _ _ => rfl)) pa_nil)))
   (pss_cons (ps_set (i := 10) sc_unfolded_parts.nd rfl (Or.inr rfl) (pe_dzip rfl T.n_dict rfl T.n_zip hr.hd (pa_cons (pe_op op_cat (pe_callTy call_list_of rfl T.n_list (by decide +kernel) (pa_cons (pv 7) pa_nil)) (pv 9)) (pa_cons (pe_op op_cat (pe_callTy call_list_of rfl T.n_list (by decide +kernel) (pa_cons (pv 6) pa_nil)) (pe_slice sl_list (pv 3) po_none (po_some (pe_callB call_len rfl T.n_len PySem.boot_len (pa_cons (pv 9) pa_nil))))) pa_nil))))
   (pss_cons (ps_set (i := 3) sc_unfolded_parts.nd rfl (Or.inl rfl) (pe_slice sl_list (pv 3) (po_some (pe_callB call_len rfl T.n_len PySem.boot_len (pa_cons (pv 9) pa_nil))) po_none))
   (pss_one (ps_expr (pe_bm PySem.F.plainAttrs_list PySem.F.slot_list_append PySem.F.type_list_append mt_append (pv 4) (pa_cons (pe_compT rfl (compScT_mk (more := ["held"]) (fs := ["given"]) (fr := [10])) (pi_tup (pv 8)) (fun _ _ _ _ => (pg_tupK (K := K) (n := 2) rfl (pgs_cons (pg_nameC (i := 0)) (pgs_cons (pg_nameC (i := 1)) pgs_nil)))) (fun _ _ _ _ => (pe_tup (pa_cons (pv 0) (pa_cons (cl D.image hr (pa_cons (pv 1) (pa_cons (pv 2) pa_nil))) pa_nil))))) pa_nil)))))))))
   (pss_one (ps_ret (pv 4)))))))), ?_⟩
 -- kept = dict(views)
 refine ⟨_, rfl, vl, _, kvs, rfl, SqL.of hvl, hkp, fun kd hkd0 => ?_⟩
 rw [hm]
 have sm1 : Same H (upd H kd (.dK kvs)) := same_new hkd0 _
 have hkd : upd H kd (.dK kvs) kd = some (.dK kvs) := upd_same
 generalize upd H kd (.dK kvs) = H1 at sm1 hkd ⊢
 have hK1 := hK.keep (Tups.of sm1)
 have hQ1 := hQ0.keep (Tups.of sm1)
 -- check_views
 refine ⟨_, rfl, _, rfl, xs, kd, kvs, .ref q, hz, ats, rfl, hkd, hK1, hQ1, by omega, ?_⟩
 cases ep : placeV xs ats with
 | some n =>
  rw [ep] at k
  exact fun d H' sm hd => k d H' (sm1.trans sm) hd
 | none =>
 rw [ep] at k
 intro H2 sm2
 have hok := place_no ep
 -- fresh
 refine ⟨_, rfl, _, rfl, xs, kd, kvs, .ref q, hz, ats, rfl, sm2 _ _ hkd, hK1.keep (Tups.of sm2), hQ1.keep (Tups.of sm2), la6, hok, fun f0 ws H3 sm3 nf0 hf0 lws ndw hws => ?_⟩
 -- parts = []
 refine ⟨(by show 0 ≤ sizeLine; decide), fun pl hpl0 => ?_⟩
 have nfp : f0 ≠ pl := ne_of_none hf0 hpl0
 have sm4 : Same H3 (upd H3 pl (.lst [])) := same_new hpl0 _
 have hpl4 : upd H3 pl (.lst []) pl = some (.lst []) := upd_same
 generalize upd H3 pl (.lst []) = H4 at sm4 hpl4 ⊢
 have smA : Same H H4 := sm1.trans (sm2.trans (sm3.trans sm4))
 have nH : ∀ b o, H3 b = some o → b ≠ pl := fun b o e => ne_of_none e hpl0
 have sm14 : Same H1 H4 := sm2.trans (sm3.trans sm4)
 have tuA := Tups.of smA
 have hin : ∀ a ∈ ats, ∃ x qv, viewOf xs a.1 = some x ∧ x.2.1.length = a.2.length ∧ valV kvs (Sum.inr a.1 : Key) = some qv ∧ VQ H1 qv x.2.1 x.2.2 ∧ inn xs a.1 = innerL x.2.1 x.2.2 := fun a ha => by
  obtain ⟨x, hx, hl⟩ := okA_view (hok a ha)
  obtain ⟨qv, h1, h2⟩ := hK1.some hx
  exact ⟨x, qv, hx, hl, h1, h2, by unfold inn; rw [hx]⟩
 have hq4 := smA _ _ hq
 have haa4 := smA _ _ haa
 have hkd3 : H3 kd = some (.dK kvs) := sm3 _ _ (sm2 _ _ hkd)
 have hq3 : H3 q = some (.tup [.ref hd, .ref aa]) := sm3 _ _ (sm2 _ _ (sm1 _ _ hq))
 have haa3 : H3 aa = some (.tup avs) := sm3 _ _ (sm2 _ _ (sm1 _ _ haa))
 refine ⟨_, rfl, _, _, _, _, rfl, rfl, SqT.of hq4, rfl, aa, rfl, ⟨avs, SqT.of haa4⟩, for_tup (K := K) (a := aa) (xs := avs)
  (fun i σ H5 => ∃ (x5 x6 x7 x8 x9 x10 : Option V) (fl : Addr) (fs dn : List Str) (pvs : List V) (uss : List (List (Str × List Str))), σ = [some (.ref vl), some (.ref q), some (.ref kd), some (.ref fl), some (.ref pl), x5, x6, x7, x8, x9, x10] ∧ Ext pl H3 H5 ∧ fl ≠ pl ∧ H5 fl = some (.lst (fs.map V.str)) ∧ ws = dn ++ fs ∧ fs.length = tot xs (ats.drop i) ∧ H5 pl = some (.lst pvs) ∧ PartsX pl H5 pvs uss ∧ uss.length = i ∧ (∀ us ∈ uss, 1 ≤ us.length ∧ us.length ≤ 8 ∧ GoodT us) ∧ ∀ rest, Unf xs (flatA ats ++ dn) (ats.drop i) rest → Unf xs (flatA ats) ats (uss.flatten ++ rest))
  ⟨none, none, none, none, none, none, f0, ws, [], [], [], rfl, Ext.of sm4, nfp, sm4 _ _ hf0, rfl, lws, hpl4, .nil, rfl, (fun us h => by cases h), fun rest h => by rw [List.append_nil] at h; exact h⟩ (fun i σ H5 _ ⟨_, _, _, _, _, _, _, _, _, _, _, _, ex, _⟩ => SqT.of (ex _ _ (nH _ _ haa3) haa3)) ?_ ?_⟩
 ·rintro i x σ H5 hx ⟨x5, x6, x7, x8, x9, x10, fl, fs, dn, pvs, uss, rfl, ex5, nfl, hfl, ews, lfs, hpl5, hP, lus, hus, hU⟩
  obtain ⟨a, ha, ap, tp, rfl, hap, htp⟩ := Paired.at hats hx
  have hi : i < ats.length := (List.getElem?_eq_some_iff.mp ha).1
  have ham := List.mem_of_getElem? ha
  obtain ⟨x, qv, hx1, hxl, hv, hVQ, ei⟩ := hin a ham
  have tu35 : Tups H3 H5 := fun b o e => ex5 b _ (nH _ _ e) e
  have tu15 : Tups H1 H5 := (Tups.of (sm2.trans sm3)).trans tu35
  have tu05 : Tups H H5 := (Tups.of sm1).trans tu15
  have hVQ5 := hVQ.keep tu15
  obtain ⟨⟨q2, hd2, aa2, avs2, e2, hq2, hhd2, haa2, hats2⟩, _, _, good2, h42, hh2⟩ := hVQ5.q
  subst e2
  have l82 := hVQ5.l8
  have l12 := hVQ5.q.l1
  have hkd5 : H5 kd = some (.dK kvs) := ex5 _ _ (nH _ _ hkd3) hkd3
  have dg : ∀ {H' : Hp}, H' kd = some (.dK kvs) → DGet H' kd (kV (Sum.inr a.1)) (some (.ref q2)) := fun h => by rw [← hv]; exact DGet.k (k := Sum.inr a.1) h
  have ed : ats.drop i = a :: ats.drop (i + 1) := by
   rw [List.drop_eq_getElem_cons hi, (List.getElem?_eq_some_iff.mp ha).2]
  have li32 : (innerL x.2.1 x.2.2).length ≤ 32 := hVQ5.inner
  rw [ed, tot_cons, ei] at lfs
  have ltot : tot xs (ats.drop (i + 1)) ≤ 32 * 6 := by
   have h1 := tot_le (xs := xs) (ats := ats.drop (i + 1)) fun b hb => by
    obtain ⟨y, _, _, _, _, h2, e⟩ := hin b (List.mem_of_mem_drop hb)
    rw [e]
    exact h2.inner
   rw [List.length_drop] at h1
   omega
  refine ⟨ap, _, rfl, SqT.of (tu05 _ _ hap), rfl, _, _, rfl, _, _, rfl, rfl, ?_⟩
  -- head, atoms = kept[name]
  refine ⟨_, rfl, _, rfl, kd, _, rfl, dg hkd5, q2, _, rfl, SqT.of hq2, rfl, _, _, rfl, _, _, rfl, rfl, ?_⟩
  -- inner
  refine ⟨_, rfl, _, rfl, kd, _, rfl, dg hkd5, .ref q2, x.2.1, x.2.2, rfl, hVQ5, fun il H6 sm6 nil6 hil => ?_⟩
  have lil : ((innerL x.2.1 x.2.2).map V.str).length = (innerL x.2.1 x.2.2).length := List.length_map _
  have lhs : (x.2.1.map V.str).length = x.2.1.length := List.length_map _
  -- given
  refine ⟨_, rfl, hd2, _, rfl, .inr (SqT.of (sm6 _ _ hhd2)), fun c1 hc1 => ?_⟩
  have sm7 : Same H6 (upd H6 c1 (.lst (x.2.1.map V.str))) := same_new hc1 _
  have hc1' : upd H6 c1 (.lst (x.2.1.map V.str)) c1 = some (.lst (x.2.1.map V.str)) := upd_same
  generalize upd H6 c1 (.lst (x.2.1.map V.str)) = H7 at sm7 hc1' ⊢
  refine ⟨_, rfl, c1, il, _, _, rfl, rfl, hc1', sm7 _ _ hil, by rw [lhs, lil]; exact Nat.le_of_lt (small1000 (by omega)), fun c2 hc2 => ?_⟩
  have sm8 : Same H7 (upd H7 c2 (.lst (x.2.1.map V.str ++ (innerL x.2.1 x.2.2).map V.str))) := same_new hc2 _
  have hc2' : upd H7 c2 (.lst (x.2.1.map V.str ++ (innerL x.2.1 x.2.2).map V.str)) c2 = some (.lst (x.2.1.map V.str ++ (innerL x.2.1 x.2.2).map V.str)) := upd_same
  generalize upd H7 c2 (.lst (x.2.1.map V.str ++ (innerL x.2.1 x.2.2).map V.str)) = H8 at sm8 hc2' ⊢
  have sm68 := sm6.trans (sm7.trans sm8)
  refine ⟨_, rfl, tp, _, rfl, .inr (SqT.of (sm68 _ _ (tu05 _ _ htp))), fun c3 hc3 => ?_⟩
  have sm9 : Same H8 (upd H8 c3 (.lst (a.2.map V.str))) := same_new hc3 _
  have hc3' : upd H8 c3 (.lst (a.2.map V.str)) c3 = some (.lst (a.2.map V.str)) := upd_same
  generalize upd H8 c3 (.lst (a.2.map V.str)) = H9 at sm9 hc3' ⊢
  have sm69 := sm68.trans sm9
  refine ⟨_, rfl, noPart ⟨_, rfl, _, _, rfl, .inl ⟨_, SqL.of ((sm7.trans (sm8.trans sm9)) _ _ hil), rfl⟩, _, rfl, fl, _, rfl, SqL.of (sm69 _ _ hfl), fun c4 hc4 => ?_⟩⟩
  rw [cut_to, ← List.map_take, lil]
  have sm10 : Same H9 (upd H9 c4 (.lst ((fs.take (innerL x.2.1 x.2.2).length).map V.str))) := same_new hc4 _
  have hc4' : upd H9 c4 (.lst ((fs.take (innerL x.2.1 x.2.2).length).map V.str)) c4 = some (.lst ((fs.take (innerL x.2.1 x.2.2).length).map V.str)) := upd_same
  generalize upd H9 c4 (.lst ((fs.take (innerL x.2.1 x.2.2).length).map V.str)) = H10 at sm10 hc4' ⊢
  have lft : (fs.take (innerL x.2.1 x.2.2).length).length = (innerL x.2.1 x.2.2).length := by rw [List.length_take]; omega
  have lta : (a.2.map V.str).length = a.2.length := List.length_map _
  have g4 := (good a ham).2.2.1
  refine ⟨c3, c4, _, _, rfl, rfl, sm10 _ _ hc3', hc4', by rw [lta, List.length_map, lft]; exact Nat.le_of_lt (small1000 (by omega)), fun c5 hc5 => ?_⟩
  rw [← List.map_append]
  have sm11 : Same H10 (upd H10 c5 (.lst ((a.2 ++ fs.take (innerL x.2.1 x.2.2).length).map V.str))) := same_new hc5 _
  have hc5' : upd H10 c5 (.lst ((a.2 ++ fs.take (innerL x.2.1 x.2.2).length).map V.str)) c5 = some (.lst ((a.2 ++ fs.take (innerL x.2.1 x.2.2).length).map V.str)) := upd_same
  generalize upd H10 c5 (.lst ((a.2 ++ fs.take (innerL x.2.1 x.2.2).length).map V.str)) = H11 at sm11 hc5' ⊢
  have sm611 := sm69.trans (sm10.trans sm11)
  have hc2'' := (sm9.trans (sm10.trans sm11)) _ _ hc2'
  have ndi : (innerL x.2.1 x.2.2).Nodup := inner_nd _ _
  have ndk : (x.2.1 ++ innerL x.2.1 x.2.2).Nodup := by
   rw [List.nodup_append]
   refine ⟨hVQ5.nd, ndi, fun y hy z hz e => ?_⟩
   rw [mem_inner] at hz
   exact hz.2.2 (e ▸ hy)
  have lkz : (x.2.1 ++ innerL x.2.1 x.2.2).length = (a.2 ++ fs.take (innerL x.2.1 x.2.2).length).length := by
   rw [List.length_append, List.length_append, lft, hxl]
  refine ⟨c2, c5, (x.2.1 ++ innerL x.2.1 x.2.2).map fun z => (Sum.inr z : Key), _, rfl, ?_, SqL.of hc5', ?_, ?_, fun gd hgd0 => ?_⟩
  ·rw [List.map_map]
   rw [← List.map_append] at hc2''
   exact SqL.of hc2''
  ·rw [List.length_map, List.length_append]
   have := hVQ5.l1
   omega
  ·rw [List.length_map, List.length_map, lkz]
  rw [zip_gD, merge_gDz ndk lkz]
  have ndf : fs.Nodup := by
   rw [ews] at ndw
   exact (List.nodup_append.mp ndw).2.1
  obtain ⟨hfit, hgin⟩ := fits_of (x := x) (ts := a.2) (fs := fs) (used := flatA ats ++ dn) (n := (innerL x.2.1 x.2.2).length) hVQ5.nd (fun z hz => (hVQ5.hu z hz).2) ndi hxl rfl (by omega) ndf fun z hz => by
   have h1 := hws z (by rw [ews]; exact List.mem_append_right _ hz)
   refine ⟨h1.1, h1.2.1, fun h => ?_⟩
   rcases List.mem_append.mp h with h | h
   ·exact h1.2.2 (List.mem_append_right _ h)
   ·rw [ews] at ndw
    exact (List.nodup_append.mp ndw).2.2 z h z hz rfl
  generalize hgm : (x.2.1 ++ innerL x.2.1 x.2.2).zip (a.2 ++ fs.take (innerL x.2.1 x.2.2).length) = gm at hfit hgin ⊢
  have sm12 : Same H11 (upd H11 gd (.dK (gD gm))) := same_new hgd0 _
  have hgd : upd H11 gd (.dK (gD gm)) gd = some (.dK (gD gm)) := upd_same
  generalize upd H11 gd (.dK (gD gm)) = H12 at sm12 hgd ⊢
  have sm612 := sm611.trans sm12
  have sm512 : Same H5 H12 := sm6.trans ((sm7.trans (sm8.trans (sm9.trans (sm10.trans sm11)))).trans sm12)
  -- fresh = fresh[len(inner):]
  refine ⟨_, rfl, _, rfl, _, _, rfl, .inl ⟨_, SqL.of ((sm7.trans (sm8.trans (sm9.trans (sm10.trans (sm11.trans sm12))))) _ _ hil), rfl⟩, _, rfl, noPart ⟨fl, _, rfl, SqL.of (sm512 _ _ hfl), fun c6 hc6 => ?_⟩⟩
  rw [cut_from, ← List.map_drop, lil]
  have sm13 : Same H12 (upd H12 c6 (.lst ((fs.drop (innerL x.2.1 x.2.2).length).map V.str))) := same_new hc6 _
  have hc6' : upd H12 c6 (.lst ((fs.drop (innerL x.2.1 x.2.2).length).map V.str)) c6 = some (.lst ((fs.drop (innerL x.2.1 x.2.2).length).map V.str)) := upd_same
  have nc6 : c6 ≠ pl := (ne_of_none (sm512 _ _ hpl5) hc6).symm
  generalize upd H12 c6 (.lst ((fs.drop (innerL x.2.1 x.2.2).length).map V.str)) = H13 at sm13 hc6' ⊢
  have sm513 := sm512.trans sm13
  -- parts.append([..])
  have haa213 := sm513 _ _ haa2
  have la2 : avs2.length = x.2.2.length := Paired.length hats2
  refine ⟨_, rfl, .inl ⟨rfl, _, SqL.of (sm513 _ _ hpl5)⟩, _, rfl, aa2, rfl, ⟨avs2, SqT.of haa213⟩, comp2_tup (K := K) (a := aa2) (xs := avs2) (fun j ys H14 => Same H13 H14 ∧ j ≤ x.2.2.length ∧ AtomsAt H14 ys ((x.2.2.take j).map (img (ledS gm)))) (small1000 (by omega)) ⟨Same.refl _, Nat.zero_le _, .nil⟩ ?_ ?_ ?_⟩
  ·rintro j ys H14 hj ⟨sm14', hj', hA⟩
   refine ⟨SqT.of (sm14' _ _ haa213), ?_⟩
   have := Paired.length hA
   rw [List.length_map, List.length_take] at this
   omega
  ·rintro j y ys H14 N hc ⟨sm14', hj', hA⟩ hN
   obtain ⟨b, hb, bp, bt, rfl, hbp, hbt⟩ := Paired.at hats2 hc
   have hlt : j < x.2.2.length := (List.getElem?_eq_some_iff.mp hb).1
   have sm514 := sm513.trans sm14'
   refine ⟨bp, _, _, rfl, SqT.of (sm514 _ _ hbp), rd_true ?_⟩
   have gb := good2 b (List.mem_of_getElem? hb)
   refine ⟨_, rfl, _, rfl, _, rfl, bt, gd, b.2, gm, rfl, sm514 _ _ hbt, sm14' _ _ (sm13 _ _ hgd), by have := gb.2.2.1; omega, fun r H15 sm15 hr15 => ?_⟩
   refine ⟨(by show 2 ≤ sizeLine; decide), fun ap2 hap2 => ?_⟩
   have sm16 : Same H15 (upd H15 ap2 (.tup [.str b.1, .ref r])) := same_new hap2 _
   refine hN _ _ ⟨(sm14'.trans sm15).trans sm16, hlt, ?_⟩
   rw [List.take_add_one, hb, List.map_append]
   exact AtomsAt.app (AtomsAt.keep (Tups.of (sm15.trans sm16)) hA) (.cons ⟨ap2, r, rfl, upd_same, sm16 _ _ hr15⟩ .nil)
  ·rintro ys H14 ⟨sm14', _, hA⟩ l hl
   rw [la2, List.take_length] at hA
   have sm15 : Same H14 (upd H14 l (.lst ys)) := same_new hl _
   have hl15 : upd H14 l (.lst ys) l = some (.lst ys) := upd_same
   have sm514 := sm513.trans sm14'
   have nlp : l ≠ pl := (ne_of_none (sm514 _ _ hpl5) hl).symm
   generalize upd H14 l (.lst ys) = H15 at sm15 hl15 ⊢
   have sm515 := sm514.trans sm15
   have hpl15 := sm515 _ _ hpl5
   have lpv : pvs.length = uss.length := Paired.length hP
   refine ⟨_, _, _, rfl, rfl, hpl15, small1000 (by omega), ?_⟩
   have hA15 := AtomsAt.keep (Tups.of sm15) hA
   have tul : Tups H15 (upd H15 pl (.lst (pvs ++ [.ref l]))) := (Tups.refl H15).lst hpl15 _
   refine ⟨_, _, _, _, _, _, c6, fs.drop (innerL x.2.1 x.2.2).length, dn ++ fs.take (innerL x.2.1 x.2.2).length, pvs ++ [.ref l], uss ++ [x.2.2.map (img (ledS gm))], rfl, fun b o n e => ?_, nc6, ?_, ?_, ?_, upd_same, ?_, ?_, fun us hu' => ?_, fun rest hr' => ?_⟩
   ·rw [upd_ne n]
    exact sm515 _ _ (ex5 b o n e)
   ·rw [upd_ne nc6]
    exact sm15 _ _ (sm14' _ _ hc6')
   ·rw [List.append_assoc, List.take_append_drop]
    exact ews
   ·rw [List.length_drop]
    omega
   ·refine Paired.snoc' (PartsX.lst hpl15 (PartsX.keep sm515 hP)) ⟨l, ys, rfl, nlp, by rw [upd_ne nlp]; exact hl15, AtomsAt.keep tul hA15⟩
   ·rw [List.length_append, lus]
    rfl
   ·rcases List.mem_append.mp hu' with hu' | hu'
    ·exact hus us hu'
    ·rw [List.mem_singleton.mp hu']
     refine ⟨by rw [List.length_map]; exact l12, by rw [List.length_map]; exact l82, fun b hb => ?_⟩
     obtain ⟨b0, hb0, rfl⟩ := List.mem_map.mp hb
     have gb := good2 b0 hb0
     refine ⟨gb.1, by show 1 ≤ (b0.2.map _).length; rw [List.length_map]; exact gb.2.1, by show (b0.2.map _).length ≤ 4; rw [List.length_map]; exact gb.2.2.1, fun z hz => ?_⟩
     obtain ⟨z0, hz0, rfl⟩ := List.mem_map.mp hz
     have hzf : z0 ∈ flatA x.2.2 := flatA_mem.mpr ⟨b0, hb0, hz0⟩
     cases eu : isUnk z0 with
     | false =>
      rw [hfit.vals z0 eu]
      exact gb.2.2.2 z0 hz0
     | true =>
      by_cases hm : z0 ∈ x.2.1
      ·obtain ⟨m, hm⟩ := List.mem_iff_getElem?.mp hm
       exact (good a ham).2.2.2 _ (List.mem_of_getElem? (hfit.head m z0 hm))
      ·exact (hfit.new z0 (mem_inner.mpr ⟨hzf, eu, hm⟩)).1
   ·rw [List.flatten_append, List.append_assoc]
    show Unf xs (flatA ats) ats (uss.flatten ++ ([x.2.2.map (img (ledS gm))].flatten ++ rest))
    rw [List.flatten_singleton]
    refine hU _ ?_
    rw [ed]
    refine Unf.cons hx1 hxl hfit (fun u hu' => ?_) hr'
    rcases hu' with hu' | ⟨z, hz', rfl⟩
    ·rw [← List.append_assoc]
     exact List.mem_append_left _ hu'
    ·rw [← List.append_assoc]
     exact List.mem_append_right _ (hgin z hz')
 ·rintro σ H5 ⟨x5, x6, x7, x8, x9, x10, fl, fs, dn, pvs, uss, rfl, ex5, nfl, hfl, ews, lfs, hpl5, hP, lus, hus, hU⟩
  have hU0 := hU [] (by rw [la, List.drop_length]; exact .nil _)
  rw [List.append_nil] at hU0
  refine ⟨_, rfl, k pl pvs uss H5 (fun b o e => ?_) hpl5 hP.parts hU0 (by omega) hus⟩
  have e3 := sm3 _ _ (sm2 _ _ (sm1 _ _ e))
  exact ex5 _ _ (nH _ _ e3) e3
structure Duf (P : Program) (w : World) (K : PySem.W.Frag) (mg : Str → Option Value) (base : Heap) (cV : Addr) : Prop where
 unfolded_parts : DefOkE P w K mg base 6 "unfolded_parts" ["views", "question"] (spParts cV)
 joined : DefOk P w K mg base 1 "joined" ["parts"] spJoined
def spUnf (cV : Addr) : Sp := fun vs H Q E => ∃ (xs : List View) (vl : Addr) (vws : List V) (v : V) (hz : List Str) (ats : List (Str × List Str)), vs = [.ref vl, v] ∧ H vl = some (.lst vws) ∧ VWs H vws xs ∧ (xs.map (·.1)).Nodup ∧ QW H v hz ats ∧ ats.length ≤ 6 ∧ (match placeV xs ats with
 | some n => errTo E H cV "place" (.int (n : Int))
 | none => ∀ (r : Addr) (us : List (Str × List Str)) (H' : Hp), Same H H' → QW H' (.ref r) hz us → Unf xs (flatA ats) ats us → Q (.ref r) H')
theorem sc_unfolded : FnScope ["views", "question"] ["views", "question"] (defScope s_unfolded) := ⟨rfl, rfl, rfl, by decide +kernel, rfl, by decide +kernel, by decide +kernel⟩
theorem ok_unfolded {f : Addr} {fd : FuncData} (F : Fun K "unfolded" "unfolded" s_unfolded f fd) (T : Txt K mg) (D : Duf P w K mg base cV) : FnOk P w K mg base (CXE P w) 7 f fd ["views", "question"] (spUnf cV) := by
 refine F.okE sc_unfolded (fun vs H Q E h => ?_) (fun cdv A outer s H vs Q E hr h => ?_)
 ·obtain ⟨y, a, b, c, d, e, rfl, _⟩ := h
  rfl
 obtain ⟨xs, vl, vws, v, hz, ats, rfl, hvl, hV, ndx, hQ, la6, k⟩ := h
 have hQ0 := hQ
 obtain ⟨⟨q, hd, aa, avs, rfl, hq, hhd, haa, hats⟩, l1, l8, good, h4, hh⟩ := hQ
 refine ⟨_, (pss_one (ps_ret (pe_tup (pa_cons (pe_ix ix_tup (pv 1) pe_int (fun _ _ => rfl)) (pa_cons (cl D.joined hr (pa_cons (clE D.unfolded_parts hr lets_cx (pa_cons (pv 0) (pa_cons (pv 1) pa_nil))) pa_nil)) pa_nil))))), ?_⟩
 refine ⟨_, rfl, _, _, _, _, rfl, rfl, SqT.of hq, rfl, _, rfl, _, rfl, xs, vl, vws, .ref q, hz, ats, rfl, hvl, hV, ndx, hQ0, la6, ?_⟩
 cases ep : placeV xs ats with
 | some n =>
  rw [ep] at k
  exact k
 | none =>
 rw [ep] at k
 intro r pvs uss H1 sm1 hr1 hP hU lus hus
 have lpv : pvs.length = uss.length := Paired.length hP
 have lfl := flat_le fun us h => (hus us h).2.1
 refine ⟨r, pvs, uss, rfl, hr1, hP, by omega, by omega, fun t tvs H2 sm2 ht hA => ?_⟩
 refine ⟨(by show 2 ≤ sizeLine; decide), fun p hp => ?_⟩
 have sm3 : Same H2 (upd H2 p (.tup [.ref hd, .ref t])) := same_new hp _
 have sm := sm1.trans (sm2.trans sm3)
 refine k p uss.flatten _ sm ⟨⟨p, hd, t, tvs, rfl, upd_same, sm _ _ hhd, sm3 _ _ ht, AtomsAt.keep (Tups.of sm3) hA⟩, ?_, by omega, fun a ha => ?_, h4, hh⟩ hU
 ·cases uss with
  | nil =>
   have : ats.length = 0 := lus.symm
   omega
  | cons u r =>
   have := (hus u List.mem_cons_self).1
   rw [List.flatten_cons, List.length_append]
   omega
 ·obtain ⟨us, h1, h2⟩ := List.mem_flatten.mp ha
  exact (hus us h1).2.2 a h2
end
theorem shaped_strsT (zs : List Str) (h : ∀ z ∈ zs, PyData.strOk z = true) : SeqAt.shaped (.tuple (zs.map PyData.str)) = true := by
 simp [SeqAt.shaped, PyData.canLay0, PyData.depth, lay_strs zs h, depth_strs]
theorem first_q (z : Str) : decide (V.str (Txt.slice z none (some 1)) = V.str "?") = Txt.startswith z "?" := by
 have lz : z.cps.toList.length = z.length := by simp [Str.length]
 cases e : z.cps.toList with
 | nil =>
  rw [starts_none (by rw [e]; rfl)]
  refine decide_eq_false fun h => ?_
  injection h with h
  have h1 := Txt.slice_le z none (some 1)
  rw [h] at h1
  have h2 : ("?" : Str).length = 1 := by decide +kernel
  rw [e, List.length_nil] at lz
  omega
 | cons c r =>
  have e0 : z.cps.toList[0]? = some c := by rw [e]; rfl
  rw [e, List.length_cons] at lz
  have h1 := eq_of_beq (slice_closes_toL (x := z) (j := 1) (by decide) (by omega))
  have h2 : ((z.cps.toList.drop (0 : Int).toNat).take ((1 : Int) - 0).toNat).toArray = #[c] := by
   rw [e]
   rfl
  rw [h1, h2, starts_q e0, Bool.eq_iff_iff, decide_eq_true_iff, decide_eq_true_iff]
  exact ⟨fun h => by injection h, fun h => by rw [h]⟩
def gmap (g : Str → Str) (ks : List Str) : List (Str × Str) := ks.map fun z => (z, g z)
theorem gm_val (g : Str → Str) (z : Str) : ∀ ks : List Str, lkS (gmap g ks) z = if z ∈ ks then some (g z) else none
 | [] => rfl
 | k :: ks => by
  have ih := gm_val g z ks
  unfold lkS gmap at *
  rw [List.map_cons, List.find?_cons]
  by_cases h : k = z
  ·subst h
   rw [decide_eq_true rfl, if_pos List.mem_cons_self]
   rfl
  ·rw [decide_eq_false h]
   by_cases hm : z ∈ ks
   ·rw [if_pos (List.mem_cons_of_mem _ hm)]
    rw [if_pos hm] at ih
    exact ih
   ·rw [if_neg (fun e => hm ((List.mem_cons.mp e).resolve_left (fun e => h e.symm)))]
    rw [if_neg hm] at ih
    exact ih
theorem gm_get (g : Str → Str) (z : Str) (ks : List Str) : valV (gD (gmap g ks)) (Sum.inr z : Key) = if z ∈ ks then some (.str (g z)) else none := by
 rw [valV_gD, gm_val]
 split <;> rfl
theorem gm_len (g : Str → Str) (ks : List Str) : (gD (gmap g ks)).length = ks.length := by
 unfold gD gmap
 rw [List.length_map, List.length_map]
theorem gm_put (g : Str → Str) {z : Str} {ks : List Str} (h : z ∉ ks) : putK (gD (gmap g ks)) (Sum.inr z : Key) (.str (g z)) = gD (gmap g (ks ++ [z])) := by
 rw [put_new]
 ·unfold gD gmap
  rw [List.map_append, List.map_append]
  rfl
 ·intro e
  unfold gD gmap at e
  rw [List.map_map, List.map_map] at e
  obtain ⟨y, hy, e⟩ := List.mem_map.mp e
  exact h (Sum.inr.inj e ▸ hy)
theorem gm_at (g : Str → Str) {ks : List Str} {i : Nat} {kv : Key × V} (h : (gD (gmap g ks))[i]? = some kv) : ∃ z, ks[i]? = some z ∧ kv = (Sum.inr z, .str (g z)) := by
 unfold gD gmap at h
 rw [List.getElem?_map, List.getElem?_map] at h
 cases e : ks[i]? with
 | none => rw [e] at h; cases h
 | some z => rw [e] at h; exact ⟨z, rfl, (Option.some.inj h).symm⟩
theorem thaw_back {H : Hp} {d l : Addr} {o : Obj} {kvs : List (Key × V)} {u : HO} (hd : H d = some (.dK kvs)) (hl : upd H d (.frz o (.dK kvs)) l = none) : upd (upd (upd H d (.frz o (.dK kvs))) l u) d (.dK kvs) = upd H l u ∧ H l = none ∧ d ≠ l := by
 have n : d ≠ l := fun e => by
  rw [e, upd_same] at hl
  cases hl
 have hl' : H l = none := by
  rw [upd_ne (Ne.symm n)] at hl
  exact hl
 refine ⟨?_, hl', n⟩
 funext b
 by_cases hb : b = d
 ·subst hb
  rw [upd_same, upd_ne n, hd]
 ·rw [upd_ne hb]
  by_cases hb2 : b = l
  ·subst hb2
   rw [upd_same, upd_same]
  ·rw [upd_ne hb2, upd_ne hb, upd_ne hb2]
def spIsU : Sp := fun vs H Q _ => ∃ z : Str, vs = [.str z] ∧ isUnk z = true ∧ z.length ≤ 100 ∧ ∀ H', Same H H' → Q (.bl true) H'
def spLaid : Sp := fun vs H Q _ => ∃ (x : View) (ts used : List Str) (g : Str → Str) (fv av : V) (gd ul hd : Addr) (a : Str × List Str) (seen us : List Str), vs = [fv, av, .ref gd, .ref ul, .ref hd] ∧ AtomAt H fv (img g a) ∧ AtomAt H av a ∧ a ∈ x.2.2 ∧ H gd = some (.dK (gD (gmap g (x.2.1 ++ seen)))) ∧ H ul = some (.lst (us.map V.str)) ∧ H hd = some (.tup (x.2.1.map V.str)) ∧
 Fits x ts used g ∧ (∀ z ∈ us, z ∈ used) ∧ us.length ≤ 900 ∧ a.2.length ≤ 4 ∧ (∀ z ∈ a.2, TermOk z) ∧ (∀ z ∈ a.2, TermOk (g z)) ∧ (∀ z ∈ x.2.1, isUnk z = true) ∧ x.2.1.length ≤ 4 ∧ (innerL x.2.1 x.2.2).length ≤ 100 ∧ (x.2.1 ++ seen).Nodup ∧ (∀ z ∈ seen, z ∈ innerL x.2.1 x.2.2) ∧
 ∀ (seen' : List Str) (H' : Hp), Ext gd H H' → H' gd = some (.dK (gD (gmap g (x.2.1 ++ seen')))) → (x.2.1 ++ seen').Nodup → (∀ z ∈ seen', z ∈ innerL x.2.1 x.2.2) → Q (.bl true) H'
theorem seen_len {x : View} {seen : List Str} (nd : (x.2.1 ++ seen).Nodup) (h : ∀ z ∈ seen, z ∈ innerL x.2.1 x.2.2) : seen.length ≤ (innerL x.2.1 x.2.2).length := nd_len (List.nodup_append.mp nd).2.1 h
section
variable {P : Program} {w : World} {K : PySem.W.Frag} {mg : Str → Option Value} {base : Heap}
theorem sc_l_is_unknown : FnScope ["_law_thing"] ["_law_thing"] (defScope s_l_is_unknown) := ⟨rfl, rfl, rfl, by decide +kernel, rfl, by decide +kernel, by decide +kernel⟩
theorem ok_isU {f : Addr} {fd : FuncData} (F : Fun K "_law_is_unknown" "_law_is_unknown" s_l_is_unknown f fd) (T : Txt K mg) : FnOk P w K mg base CX0 1 f fd ["_law_thing"] spIsU := by
 refine F.ok sc_l_is_unknown (fun vs H Q E h => ?_) (fun cdv A outer s H vs Q E hr h => ?_)
 ·obtain ⟨a, rfl, _⟩ := h
  rfl
 obtain ⟨z, rfl, hz, hl, k⟩ := h
 have hz' : z.length ≤ sizeLine := Nat.le_of_lt (small1000 (by omega))
 obtain ⟨r, er, l1, l9, hr1⟩ := unk_at hz
 have hv : isVal (Txt.slice z (some 1) none) = true := by
  unfold isUnk at hz
  rw [Bool.and_eq_true] at hz
  exact hz.2
 have hst : Txt.startswith z "?" = true := by
  unfold isUnk at hz
  rw [Bool.and_eq_true] at hz
  exact hz.1
 have hs := val_sgn hv
 have lv := val_len hv
 have lz2 : z.length = (Txt.slice z (some 1) none).length + 1 := by
  have h1 := slice1 (z := z) l1
  have h2 : (Txt.slice z (some 1) none).cps.toList.length = (Txt.slice z (some 1) none).length := by simp [Str.length]
  have h3 : z.cps.toList.length = z.length := by simp [Str.length]
  rw [h1, List.length_drop] at h2
  omega
 refine ⟨_, (pss_cons (ps_if (PW.pt (pw_or (pt_not (pt_val (pe_callB call_isinst rfl T.n_isinstance (by decide +kernel) (pa_cons (pv 0) (pa_cons (pe_ty (n := "str") rfl T.n_str (by decide +kernel)) pa_nil))))) (pw_or (pt_cmpR op_ne (pe_slice sl_str (pv 0) po_none (po_some pe_int)) pe_str (nomark _)) (pw_or1 (pt_not (pt_chain op_lt op_lt pe_int (pe_callB call_len rfl T.n_len PySem.boot_len (pa_cons (pv 0) pa_nil)) pe_int)))))) (pss_one (ps_ret pe_bl)) pss_nil)
   (pss_one (ps_ret (pe_cmpR (op_eqN hr.units0) (pe_compIf rfl (compSc_mk (fs := []) (fr := [])) (pi_str (pe_slice sl_str (pv 0) (po_some pe_int) po_none)) (fun _ _ _ _ => (pt_cmpR op_notIn_str (pv 0) pe_str (by with_unfolding_all rfl))) (fun _ _ _ _ => (pv 0))) (pe_lst pa_nil) (nomark _))))), ?_⟩
 refine ⟨_, rfl, _, _, _, true, rfl, TyOf.str z, kit_same _, _, rfl, iteF ?_⟩
 refine ⟨_, rfl, noPart ⟨_, rfl, _, rfl, hz', rfl, _, rfl, ?_⟩⟩
 rw [first_q, hst]
 refine iteF ?_
 refine ⟨_, rfl, _, _, rfl, ⟨hz', rfl⟩, _, _, rfl, rfl, _, rfl, ?_⟩
 rw [decide_eq_true (show (1 : Int) < (z.length : Int) by omega)]
 refine iteT ?_
 refine ⟨_, _, rfl, rfl, _, rfl, ?_⟩
 rw [decide_eq_true (show (z.length : Int) < 10 by omega)]
 refine iteF ?_
 generalize hy : Txt.slice z (some 1) none = y at hs lv
 refine ⟨_, rfl, _, rfl, _, rfl, hz', ?_⟩
 rw [hy]
 refine ⟨_, rfl, comp_str (fun i ys H2 => H2 = H ∧ i ≤ y.cps.size ∧ ys = []) (small1000 (show y.length ≤ 1000 by omega)) ⟨rfl, Nat.zero_le _, rfl⟩ ?_ ?_ ?_⟩
 ·rintro i ys H2 hi ⟨rfl, _, rfl⟩
  exact Nat.zero_le _
 ·rintro i c ys H2 N hc ⟨rfl, hi, rfl⟩ hN
  have hlt : i < y.cps.size := (Array.getElem?_eq_some_iff.mp hc).1
  have hc' : y.cps.toList[i]? = some c := by simpa using hc
  refine ⟨_, rfl, _, _, rfl, rfl, _, rfl, ?_⟩
  have hsg : sgn c = true := hs.2 c (List.mem_of_getElem? hc')
  refine ite2 (fun c3 => ?_) (fun c3 => ?_)
  ·have c3 : (!sgn c) = true := c3
   rw [hsg] at c3
   cases c3
  ·exact hN _ _ ⟨rfl, hlt, rfl⟩
 ·rintro ys H2 ⟨rfl, _, rfl⟩ l hl'
  refine ⟨(by show 0 ≤ sizeLine; decide), fun l2 hl2 => ?_⟩
  refine ⟨_, _, _, rfl, rfl, SqL.of (by rw [upd_ne (ne_of_none upd_same hl2)]; exact upd_same), SqL.of upd_same, ?_⟩
  exact k _ ((same_new hl' _).trans (same_new hl2 (.lst [])))
structure Dla (P : Program) (w : World) (K : PySem.W.Frag) (mg : Str → Option Value) (base : Heap) : Prop where
 l_is_unknown : DefOk P w K mg base 1 "_law_is_unknown" ["_law_thing"] spIsU
theorem sc_l_laid : FnScope ["_law_found", "_law_atom_here", "_law_given", "_law_used", "_law_head_here", "_law_term", "_law_new", "_law_own"] ["_law_found", "_law_atom_here", "_law_given", "_law_used", "_law_head_here"] (defScope s_l_laid) := ⟨rfl, rfl, rfl, by decide +kernel, rfl, by decide +kernel, by decide +kernel⟩
theorem ok_laid {f : Addr} {fd : FuncData} (F : Fun K "_law_laid" "_law_laid" s_l_laid f fd) (T : Txt K mg) (D : Dla P w K mg base) : FnOk P w K mg base CX0 2 f fd ["_law_found", "_law_atom_here", "_law_given", "_law_used", "_law_head_here"] spLaid := by
 refine F.ok sc_l_laid (fun vs H Q E h => ?_) (fun cdv A outer s H vs Q E hr h => ?_)
 ·obtain ⟨y1, y2, y3, y4, a, b, c, d, e, f1, g1, h1, rfl, _⟩ := h
  rfl
 obtain ⟨x, ts, used, g, fv, av, gd, ul, hd, a, seen, us, rfl, ⟨fp, ft, rfl, hfp, hft⟩, ⟨ap, at_, rfl, hap, hat⟩, hax, hgd, hul, hhd, hF, hus, lus, l4, hT, hTg, hhu, lh4, li, nd, hseen, k⟩ := h
 have hu := hu_of hr
 have lg : ((img g a).2).length = a.2.length := List.length_map _
 refine ⟨_, (pss_cons (ps_if (PW.pt (pw_or (pt_not (pt_val (pe_callB call_isinst rfl T.n_isinstance (by decide +kernel) (pa_cons (pv 0) (pa_cons (pe_ty (n := "tuple") rfl T.n_tuple (by decide +kernel)) pa_nil))))) (pw_or (pt_cmpR op_ne (pe_callB call_len rfl T.n_len PySem.boot_len (pa_cons (pv 0) pa_nil)) pe_int (nomark _)) (pw_or (pt_cmpR op_ne (pe_ix ix_tup (pv 0) pe_int (fun _ _ => rfl)) (pe_ix ix_tup (pv 1) pe_int (fun _ _ => rfl)) (nomark _)) (pw_or1 (pt_not (pt_val (pe_callB call_isinst rfl T.n_isinstance (by decide +kernel) (pa_cons (pe_ix ix_tup (pv 0) pe_int (fun _ _ => rfl)) (pa_cons (pe_ty (n := "tuple") rfl T.n_tuple (by decide +kernel)) pa_nil)))))))))) (pss_one (ps_ret pe_bl)) pss_nil)
   (pss_cons (ps_if (pt_cmpR op_ne (pe_callB call_len rfl T.n_len PySem.boot_len (pa_cons (pe_ix ix_tup (pv 0) pe_int (fun _ _ => rfl)) pa_nil)) (pe_callB call_len rfl T.n_len PySem.boot_len (pa_cons (pe_ix ix_tup (pv 1) pe_int (fun _ _ => rfl)) pa_nil)) (nomark _)) (pss_one (ps_ret pe_bl)) pss_nil)
   (pss_cons (ps_for PassesOwn.never rfl (pi_zipT rfl T.n_zip (pa_cons (pe_ix ix_tup (pv 1) pe_int (fun _ _ => rfl)) (pa_cons (pe_ix ix_tup (pv 0) pe_int (fun _ _ => rfl)) pa_nil))) (pg_tup rfl (pgs_cons (pg_name (i := 5) sc_l_laid.nd rfl (Or.inl rfl)) (pgs_cons (pg_name (i := 6) sc_l_laid.nd rfl (Or.inl rfl)) pgs_nil)))
   (pss_one (ps_if (PW.pt (pw_or (pt_cmpR op_ne (pe_ix ix_str (pv 5) pe_int (fun _ _ => rfl)) pe_str (nomark _)) (pw_or1 (pt_cmp (pc_din hu (pv 5) (pv 2)))))) (pss_one (ps_if (pt_cmpR op_ne (pv 6) (pe_dget2 hu (pv 2) (pv 5) (pv 5) m2_nn) (nomark _)) (pss_one (ps_ret pe_bl)) pss_nil)) (pss_cons (ps_thaw (ps_setCompIf (j := 7) sc_l_laid.nd rfl rfl rfl (compSc_mk (fs := ["_law_given", "_law_head_here"]) (fr := [2, 4])) (pi_dict (pv 2)) (fun _ _ _ _ => (pt_cmpR (op_notIn_seqK (K := K)) (pv 0) (pv 2) (by with_unfolding_all rfl))) (fun _ _ _ _ => (pe_dget hu (pv 1) (pv 0) (fun _ _ => rfl)))))
   (pss_cons (ps_if (PW.pt (pw_or (pt_not (pt_val (cl D.l_is_unknown hr (pa_cons (pv 6) pa_nil)))) (pw_or (pt_cmpR op_in_seq (pv 6) (pv 3) (by with_unfolding_all rfl)) (pw_or1 (pt_cmpR op_in_seq (pv 6) (pv 7) (by with_unfolding_all rfl)))))) (pss_one (ps_ret pe_bl)) pss_nil)
   (pss_one (ps_dput hu (pv 2) (pv 5) (pv 6) rfl)))))))
   (pss_one (ps_ret pe_bl))))), ?_⟩
 -- the shape
 refine ⟨_, rfl, _, _, _, true, rfl, TyOf.tup hfp, kit_same _, _, rfl, iteF ?_⟩
 refine ⟨_, rfl, _, _, rfl, .inr ⟨_, SqT.of hfp, rfl⟩, rfl, _, rfl, iteF ?_⟩
 refine ⟨_, rfl, _, _, _, _, rfl, rfl, SqT.of hfp, rfl, _, rfl, _, _, _, _, rfl, rfl, SqT.of hap, rfl, rfl, _, rfl, ?_⟩
 refine ite2 (fun c => ?_) (fun c => ?_)
 ·have c : (!decide (V.str a.1 = V.str a.1)) = true := c
  rw [decide_eq_true rfl] at c
  cases c
 refine ⟨_, rfl, _, _, _, _, rfl, rfl, SqT.of hfp, rfl, _, _, _, true, rfl, TyOf.tup hft, kit_same _, _, rfl, iteF ?_⟩
 -- the lengths
 refine ⟨_, rfl, _, _, _, _, rfl, rfl, SqT.of hfp, rfl, _, _, rfl, .inr ⟨_, SqT.of hft, rfl⟩, _, rfl, _, _, _, _, rfl, rfl, SqT.of hap, rfl, _, _, rfl, .inr ⟨_, SqT.of hat, rfl⟩, rfl, _, rfl, ?_⟩
 have elen : (((img g a).2.map V.str).length : Int) = ((a.2.map V.str).length : Int) := by
  rw [List.length_map, List.length_map, lg]
 rw [elen]
 refine ite2 (fun c => ?_) (fun c => ?_)
 ·rw [decide_eq_true rfl] at c
  cases c
 -- the walk
 refine ⟨_, rfl, _, _, _, _, rfl, rfl, SqT.of hap, rfl, _, rfl, _, _, _, _, rfl, rfl, SqT.of hfp, rfl, at_, ft, rfl, ⟨_, SqT.of hat⟩, ⟨_, SqT.of hft⟩, for_zipT (K := K) (a := at_) (b := ft) (xs := a.2.map V.str) (ys := (img g a).2.map V.str)
  (fun i σ H2 => ∃ (x5 x6 x7 : Option V) (seen' : List Str), σ = [some (.ref fp), some (.ref ap), some (.ref gd), some (.ref ul), some (.ref hd), x5, x6, x7] ∧ Ext gd H H2 ∧ H2 gd = some (.dK (gD (gmap g (x.2.1 ++ seen')))) ∧ (x.2.1 ++ seen').Nodup ∧ ∀ z ∈ seen', z ∈ innerL x.2.1 x.2.2)
  (by rw [List.length_map, List.length_map, lg]) ⟨none, none, none, seen, rfl, Ext.refl gd H, hgd, nd, hseen⟩ (fun i σ H2 _ ⟨_, _, _, _, _, ex, _⟩ => ?_) ?_ ?_⟩
 ·exact ⟨SqT.of (ex _ _ (fun e => by rw [e, hgd] at hat; cases hat) hat), SqT.of (ex _ _ (fun e => by rw [e, hgd] at hft; cases hft) hft)⟩
 ·rintro i y1 y2 p σ H2 hy1 hy2 ⟨x5, x6, x7, seen', rfl, ex, hgd2, nd', hseen'⟩ hp
  obtain ⟨z, hz, rfl⟩ := at_strs hy1
  obtain ⟨z', hz', rfl⟩ := at_strs hy2
  have ez : z' = g z := by
   have : (a.2.map g)[i]? = some z' := hz'
   rw [List.getElem?_map, hz] at this
   exact (Option.some.inj this).symm
  subst ez
  have hzm := List.mem_of_getElem? hz
  have hzT := hT z hzm
  have hzG := hTg z hzm
  have hz100 := hzT.2.1
  obtain ⟨c, hcz⟩ := term_fst hzT.1
  have ei : atI z.cps.toList 0 = some c := atI_nat (j := 0) hcz
  have ex3 : Ext gd H (upd H2 p (.tup [.str z, .str (g z)])) := ex.new hp _
  have hpp : upd H2 p (.tup [.str z, .str (g z)]) p = some (.tup [.str z, .str (g z)]) := upd_same
  have hgd3 : upd H2 p (.tup [.str z, .str (g z)]) gd = some (.dK (gD (gmap g (x.2.1 ++ seen')))) := by
   rw [upd_ne (ne_of_none hgd2 hp)]
   exact hgd2
  generalize upd H2 p (.tup [.str z, .str (g z)]) = H3 at ex3 hpp hgd3 ⊢
  refine ⟨p, _, rfl, SqT.of hpp, rfl, _, _, rfl, _, _, rfl, rfl, ?_⟩
  have same : z ∈ x.2.1 ++ seen' ∨ isUnk z = false → (valV (gD (gmap g (x.2.1 ++ seen'))) (Sum.inr z : Key)).getD (.str z) = .str (g z) := fun h => by
   rw [gm_get]
   by_cases hm : z ∈ x.2.1 ++ seen'
   ·rw [if_pos hm]
    rfl
   ·rw [if_neg hm]
    have := h.resolve_left hm
    rw [hF.vals z this]
    rfl
  have hg100 := hzG.2.1
  refine ⟨_, rfl, _, _, _, rfl, rfl, Nat.le_of_lt (small1000 (by omega)), ei, rfl, _, rfl, ?_⟩
  rw [term_ask hzT.1 hcz]
  refine ite2 (fun c1 => ?_) (fun c1 => ?_)
  ·have c1 : isUnk z = false := by simpa using c1
   refine iteT ?_
   refine ⟨_, rfl, _, rfl, gd, rfl, .inl ⟨_, .inl hgd3⟩, _, rfl, _, rfl, _, DGet.k (k := Sum.inr z) hgd3, ?_⟩
   rw [same (.inr c1)]
   refine ⟨rfl, _, rfl, ?_⟩
   rw [decide_eq_true rfl]
   exact iteF ⟨_, _, x7, seen', rfl, ex3, hgd3, nd', hseen'⟩
  ·have c1 : isUnk z = true := by simpa using c1
   refine ⟨_, rfl, _, rfl, gd, _, rfl, DGet.k (k := Sum.inr z) hgd3, _, rfl, ?_⟩
   rw [gm_get]
   by_cases hm : z ∈ x.2.1 ++ seen'
   ·rw [if_pos hm]
    refine iteT ?_
    refine ⟨_, rfl, _, rfl, gd, rfl, .inl ⟨_, .inl hgd3⟩, _, rfl, _, rfl, _, DGet.k (k := Sum.inr z) hgd3, ?_⟩
    rw [same (.inl hm)]
    refine ⟨rfl, _, rfl, ?_⟩
    rw [decide_eq_true rfl]
    exact iteF ⟨_, _, x7, seen', rfl, ex3, hgd3, nd', hseen'⟩
   ·rw [if_neg hm]
    refine iteF ?_
    have hzi : z ∈ innerL x.2.1 x.2.2 := mem_inner.mpr ⟨flatA_mem.mpr ⟨a, hax, hzm⟩, c1, fun h => hm (List.mem_append_left _ h)⟩
    have hnw := hF.new z hzi
    have hhd3 : H3 hd = some (.tup (x.2.1.map V.str)) := ex3 _ _ (fun e => by rw [e, hgd] at hhd; cases hhd) hhd
    have ls := seen_len nd' hseen'
    -- own
    refine ⟨gd, (fun u v => by rw [hgd3]; exact fun e => by cases e), ?_⟩
    refine ⟨_, rfl, gd, _, rfl, hgd3, fun o => ?_⟩
    have hfz : upd H3 gd (.frz o (.dK (gD (gmap g (x.2.1 ++ seen'))))) gd = some (.frz o (.dK (gD (gmap g (x.2.1 ++ seen'))))) := upd_same
    have hhdz : upd H3 gd (.frz o (.dK (gD (gmap g (x.2.1 ++ seen'))))) hd = some (.tup (x.2.1.map V.str)) := by
     rw [upd_ne (fun e => by rw [e, hgd3] at hhd3; cases hhd3)]
     exact hhd3
    refine comp_dict (d := gd) (o := o) (kvs := gD (gmap g (x.2.1 ++ seen'))) (fun i ys H4 => H4 = upd H3 gd (.frz o (.dK (gD (gmap g (x.2.1 ++ seen'))))) ∧ ∃ zs : List Str, ys = zs.map V.str ∧ zs.length ≤ i ∧ ∀ y ∈ zs, ∃ v ∈ seen', y = g v) ?_ ⟨rfl, [], rfl, Nat.le_refl _, fun y h => by cases h⟩ ?_ ?_ ?_
    ·rw [gm_len, List.length_append]
     exact small1000 (by omega)
    ·rintro i ys H4 hi ⟨rfl, zs, rfl, lz, _⟩
     exact ⟨hfz, by rw [List.length_map]; exact lz⟩
    ·rintro i kv ys H4 N hkv ⟨rfl, zs, rfl, lz, hzs⟩ hN
     obtain ⟨v, hv, rfl⟩ := gm_at g hkv
     refine ⟨_, rfl, _, rfl, hd, _, rfl, .inr (SqT.of hhdz), rfl, flat_V _, _, rfl, ?_⟩
     show if (!inV (.str v) (x.2.1.map V.str)) = true then _ else _
     rw [inV_str]
     refine ite2 (fun c2 => ?_) (fun c2 => ?_)
     ·have c2 : v ∉ x.2.1 := by simpa using c2
      have hvs : v ∈ seen' := (List.mem_append.mp (List.mem_of_getElem? hv)).resolve_left c2
      refine ⟨_, rfl, _, rfl, gd, .str (g v), rfl, .inl ⟨_, Sum.inr v, .inr ⟨_, hfz⟩, rfl, by rw [gm_get, if_pos (List.mem_append_right _ hvs)]⟩, hN _ _ ⟨rfl, zs ++ [g v], by rw [List.map_append]; rfl, by rw [List.length_append]; exact Nat.succ_le_succ lz, fun y hy => ?_⟩⟩
      rcases List.mem_append.mp hy with hy | hy
      ·exact hzs y hy
      ·exact ⟨v, hvs, List.mem_singleton.mp hy⟩
     ·exact hN _ _ ⟨rfl, zs, rfl, Nat.le_succ_of_le lz, hzs⟩
    ·rintro ys H4 ⟨rfl, zs, rfl, lz, hzs⟩ l hl
     obtain ⟨eb, hl3, ndl⟩ := thaw_back (u := .lst (zs.map V.str)) hgd3 hl
     refine ⟨o, gD (gmap g (x.2.1 ++ seen')), by rw [upd_ne ndl]; exact hfz, ?_⟩
     rw [eb]
     have ex5 : Ext gd H (upd H3 l (.lst (zs.map V.str))) := ex3.new hl3 _
     have hl5 : upd H3 l (.lst (zs.map V.str)) l = some (.lst (zs.map V.str)) := upd_same
     have hgd5 : upd H3 l (.lst (zs.map V.str)) gd = some (.dK (gD (gmap g (x.2.1 ++ seen')))) := by
      rw [upd_ne ndl]
      exact hgd3
     generalize upd H3 l (.lst (zs.map V.str)) = H5 at ex5 hl5 hgd5 ⊢
     -- if not is_unknown(new) or new in used or new in own
     refine ⟨_, rfl, g z, rfl, hnw.2.1, hg100, fun H6 sm6 => ⟨_, rfl, iteF ?_⟩⟩
     have hul6 := sm6 _ _ (ex5 _ _ (fun e => by rw [e, hgd] at hul; cases hul) hul)
     refine ⟨_, rfl, _, rfl, ul, _, rfl, .inl (SqL.of hul6), rfl, flat_V _, _, rfl, ?_⟩
     show if (inV (.str (g z)) (us.map V.str)) = true then _ else _
     rw [inV_str, decide_eq_false (fun h => hnw.2.2 (hus _ h))]
     refine iteF ?_
     refine ⟨_, rfl, _, rfl, l, _, rfl, .inl (SqL.of (sm6 _ _ hl5)), rfl, flat_V _, _, rfl, ?_⟩
     show if (inV (.str (g z)) (zs.map V.str)) = true then _ else _
     rw [inV_str, decide_eq_false (fun h => by
      obtain ⟨v, hv, e⟩ := hzs _ h
      have := hF.inj z v hzi (hseen' v hv) e
      exact hm (List.mem_append_right _ (this ▸ hv)))]
     refine iteF ?_
     have hgd6 := sm6 _ _ hgd5
     refine ⟨_, rfl, _, rfl, _, rfl, gd, _, rfl, DPut.k (k := Sum.inr z) hgd6 ?_, ?_⟩
     ·rw [gm_len, List.length_append]
      exact small1000 (by omega)
     rw [gm_put g hm, List.append_assoc]
     refine ⟨_, _, _, seen' ++ [z], rfl, fun b o n e => ?_, upd_same, ?_, fun y hy => ?_⟩
     ·rw [upd_ne n]
      exact sm6 _ _ (ex5 _ _ n e)
     ·rw [← List.append_assoc]
      exact nd_snoc.mpr ⟨nd', hm⟩
     ·rcases List.mem_append.mp hy with hy | hy
      ·exact hseen' y hy
      ·rw [List.mem_singleton.mp hy]
       exact hzi
 ·rintro σ H2 ⟨x5, x6, x7, seen', rfl, ex, hgd2, nd', hseen'⟩
  exact k seen' H2 ex hgd2 nd' hseen'
end
abbrev PrAt (H : Hp) : List V → List (Str × Str) → Prop := Paired fun (v : V) (p : Str × Str) => ∃ a, v = .ref a ∧ H a = some (.tup [.str p.1, .str p.2])
theorem PrAt.keep {H H' : Hp} (t : Tups H H') {vs : List V} {prs : List (Str × Str)} (h : PrAt H vs prs) : PrAt H' vs prs := Paired.imp' (fun _ _ ⟨a, e, q⟩ => ⟨a, e, t _ _ q⟩) h
theorem pairs_gD {H : Hp} : ∀ {vs : List V} {prs : List (Str × Str)}, PrAt H vs prs → Paired (fun (y : V) (kv : Key × V) => ∃ t, y = .ref t ∧ H t = some (.tup [kV kv.1, kv.2])) vs (gD prs)
 | _, _, .nil => .nil
 | _, _, .cons ⟨a, e, h⟩ t => .cons ⟨a, e, h⟩ (pairs_gD t)
theorem merge_gm {g : Str → Str} {ks : List Str} (nd : ks.Nodup) : mergeK [] (gD (gmap g ks)) = gD (gmap g ks) := merge_nd _ [] (by
 rw [List.nil_append]
 unfold gD gmap
 rw [List.map_map, List.map_map]
 exact nd_keys nd)
theorem thaw_back2 {H : Hp} {d l p : Addr} {o : Obj} {kvs : List (Key × V)} {u v : HO} (hd : H d = some (.dK kvs)) (hl : upd H d (.frz o (.dK kvs)) l = none) (hp : upd (upd H d (.frz o (.dK kvs))) l u p = none) : upd (upd (upd (upd H d (.frz o (.dK kvs))) l u) p v) d (.dK kvs) = upd (upd H l u) p v ∧ H l = none ∧ upd H l u p = none ∧ d ≠ l ∧ d ≠ p := by
 obtain ⟨e1, h1, n1⟩ := thaw_back (u := u) hd hl
 have n2 : d ≠ p := fun e => by
  rw [← e, upd_ne n1, upd_same] at hp
  cases hp
 have hp' : upd H l u p = none := by
  by_cases hpl : p = l
  ·rw [hpl, upd_same] at hp
   cases hp
  ·rw [upd_ne hpl] at hp ⊢
   rw [upd_ne (Ne.symm n2)] at hp
   exact hp
 refine ⟨?_, h1, hp', n1, n2⟩
 rw [← e1]
 funext b
 by_cases hb : b = d
 ·subst hb
  rw [upd_same, upd_ne n2, upd_same]
 ·rw [upd_ne hb]
  by_cases hb2 : b = p
  ·subst hb2
   rw [upd_same, upd_same]
  ·rw [upd_ne hb2, upd_ne hb2, upd_ne hb]
theorem AtomsAt.split {H : Hp} : ∀ {as bs : List (Str × List Str)} {vs : List V}, AtomsAt H vs (as ++ bs) → AtomsAt H (vs.take as.length) as ∧ AtomsAt H (vs.drop as.length) bs
 | [], _, _, h => ⟨.nil, h⟩
 | a :: as, bs, _, .cons r t => by
  obtain ⟨h1, h2⟩ := AtomsAt.split (as := as) (bs := bs) t
  exact ⟨.cons r h1, h2⟩
def Ext2 (f e : Addr) (H H' : Hp) : Prop := ∀ b o, b ≠ f → b ≠ e → H b = some o → H' b = some o
def spRight : Sp := fun vs H Q _ => ∃ (xs : List View) (fp vl : Addr) (v : V) (vws : List V) (hz : List Str) (ats us : List (Str × List Str)), vs = [.ref fp, .ref vl, v] ∧ QW H (.ref fp) hz us ∧ H vl = some (.lst vws) ∧ VWs H vws xs ∧ (xs.map (·.1)).Nodup ∧ QW H v hz ats ∧ ats.length ≤ 6 ∧ Unf xs (flatA ats) ats us ∧
 ∀ H', Same H H' → Q (.bl true) H'
section
variable {P : Program} {w : World} {K : PySem.W.Frag} {mg : Str → Option Value} {base : Heap}
structure Dri (P : Program) (w : World) (K : PySem.W.Frag) (mg : Str → Option Value) (base : Heap) : Prop where
 l_unknowns : DefOk P w K mg base 1 "_law_unknowns" ["_law_question_here"] spUnksQ
 l_laid : DefOk P w K mg base 2 "_law_laid" ["_law_found", "_law_atom_here", "_law_given", "_law_used", "_law_head_here"] spLaid
theorem sc_l_unfolded_right : FnScope ["_law_found", "_law_views_here", "_law_question_here", "_law_kept", "_law_used", "_law_left", "_law_name", "_law_terms", "_law_head_here", "_law_atoms", "_law_given", "_law_atom_here"] ["_law_found", "_law_views_here", "_law_question_here"] (defScope s_l_unfolded_right) := ⟨rfl, rfl, rfl, by decide +kernel, rfl, by decide +kernel, by decide +kernel⟩
theorem ok_right {f : Addr} {fd : FuncData} (F : Fun K "_law_unfolded_right" "_law_unfolded_right" s_l_unfolded_right f fd) (T : Txt K mg) (D : Dri P w K mg base) : FnOk P w K mg base CX0 3 f fd ["_law_found", "_law_views_here", "_law_question_here"] spRight := by
 refine F.ok sc_l_unfolded_right (fun vs H Q E h => ?_) (fun cdv A outer s H vs Q E hr h => ?_)
 ·obtain ⟨a, b, c, d, e, f1, g1, h1, rfl, _⟩ := h
  rfl
 obtain ⟨xs, fp, vl, v, vws, hz, ats, us, rfl, hFQ, hvl, hV, ndx, hQ, la6, hU, k⟩ := h
 have hu := hu_of hr
 have hQ0 := hQ
 obtain ⟨⟨q, hd, aa, avs, rfl, hq, hhd, haa, hats⟩, l1, l8, good, h4, hh⟩ := hQ
 obtain ⟨⟨fp', fh, fa, fvs, e, hfp, hfh, hfa, hfats⟩, fl1, fl8, fgood, _, _⟩ := hFQ
 cases e
 have la : avs.length = ats.length := Paired.length hats
 have lfa : fvs.length = us.length := Paired.length hfats
 obtain ⟨kvs, hkp, hK, hm⟩ := views_kept hV ndx
 refine ⟨_, (pss_cons (ps_if (PW.pt (pw_or (pt_not (pt_val (pe_callB call_isinst rfl T.n_isinstance (by decide +kernel) (pa_cons (pv 0) (pa_cons (pe_ty (n := "tuple") rfl T.n_tuple (by decide +kernel)) pa_nil))))) (pw_or (pt_cmpR op_ne (pe_callB call_len rfl T.n_len PySem.boot_len (pa_cons (pv 0) pa_nil)) pe_int (nomark _)) (pw_or (pt_cmpR (op_neD hr.units) (pe_ix ix_tup (pv 0) pe_int (fun _ _ => rfl)) (pe_ix ix_tup (pv 2) pe_int (fun _ _ => rfl)) (nomark _)) (pw_or1 (pt_not (pt_val (pe_callB call_isinst rfl T.n_isinstance (by decide +kernel) (pa_cons (pe_ix ix_tup (pv 0) pe_int (fun _ _ => rfl)) (pa_cons (pe_ty (n := "tuple") rfl T.n_tuple (by decide +kernel)) pa_nil)))))))))) (pss_one (ps_ret pe_bl)) pss_nil)
   (pss_cons (ps_set (i := 3) sc_l_unfolded_right.nd rfl (Or.inl rfl) (pe_callTy (call_dict_pairs hr.hd) rfl T.n_dict (by decide +kernel) (pa_cons (pv 1) pa_nil)))
   (pss_cons (ps_set (i := 4) sc_l_unfolded_right.nd rfl (Or.inl rfl) (cl D.l_unknowns hr (pa_cons (pv 2) pa_nil)))
   (pss_cons (ps_set (i := 5) sc_l_unfolded_right.nd rfl (Or.inl rfl) (pe_callTy call_list_of rfl T.n_list (by decide +kernel) (pa_cons (pe_ix ix_tup (pv 0) pe_int (fun _ _ => rfl)) pa_nil)))
   (pss_cons (ps_for PassesOwn.never rfl (pi_tup (pe_ix ix_tup (pv 2) pe_int (fun _ _ => rfl))) (pg_tup rfl (pgs_cons (pg_name (i := 6) sc_l_unfolded_right.nd rfl (Or.inl rfl)) (pgs_cons (pg_name (i := 7) sc_l_unfolded_right.nd rfl (Or.inr rfl)) pgs_nil)))
   (pss_cons (ps_asg (pe_dget hu (pv 3) (pv 6) (fun _ _ => rfl)) (pg_tup rfl (pgs_cons (pg_name (i := 8) sc_l_unfolded_right.nd rfl (Or.inr rfl)) (pgs_cons (pg_name (i := 9) sc_l_unfolded_right.nd rfl (Or.inl rfl)) pgs_nil))))
   (pss_cons (ps_set (i := 10) sc_l_unfolded_right.nd rfl (Or.inr rfl) (pe_callTy (call_dict_pairs hr.hd) rfl T.n_dict (by decide +kernel) (pa_cons (pe_comp rfl (compSc_mk (fs := ["_law_head_here", "_law_terms"]) (fr := [8, 7])) (pi_range1 rfl T.n_range (pa_cons (pe_callB call_len rfl T.n_len PySem.boot_len (pa_cons (pv 8) pa_nil)) pa_nil)) (fun _ _ _ _ => (pe_tup (pa_cons (pe_ix (ix_tupK (K := K)) (pv 1) (pv 0) (fun _ _ => rfl)) (pa_cons (pe_ix (ix_tupK (K := K)) (pv 2) (pv 0) (fun _ _ => rfl)) pa_nil))))) pa_nil)))
   (pss_cons (ps_for PassesOwn.never rfl (pi_tup (pv 9)) (pg_name (i := 11) sc_l_unfolded_right.nd rfl (Or.inl rfl))
   (pss_one (ps_if (PW.pt (pw_or (pt_cmpR (op_eqN hr.units0) (pv 5) (pe_lst pa_nil) (nomark _)) (pw_or1 (pt_not (pt_val (cl D.l_laid hr (pa_cons (pe_bm PySem.F.plainAttrs_list PySem.F.slot_list_pop PySem.F.type_list_pop mt_popAt (pv 5) (pa_cons pe_int pa_nil)) (pa_cons (pv 11) (pa_cons (pv 10) (pa_cons (pv 4) (pa_cons (pv 8) pa_nil))))))))))) (pss_one (ps_ret pe_bl)) pss_nil)))
   (pss_one (ps_thaw (ps_set (i := 4) sc_l_unfolded_right.nd rfl (Or.inl rfl) (pe_op op_cat (pv 4) (pe_compIf rfl (compSc_mk (fs := ["_law_given", "_law_head_here"]) (fr := [10, 8])) (pi_dict (pv 10)) (fun _ _ _ _ => (pt_cmpR (op_notIn_seqK (K := K)) (pv 0) (pv 2) (by with_unfolding_all rfl))) (fun _ _ _ _ => (pe_dget hu (pv 1) (pv 0) (fun _ _ => rfl))))))))))))
   (pss_one (ps_ret (pe_cmpR (op_eqN hr.units0) (pv 5) (pe_lst pa_nil) (nomark _))))))))), ?_⟩
 -- the shape
 refine ⟨_, rfl, _, _, _, true, rfl, TyOf.tup hfp, kit_same _, _, rfl, iteF ?_⟩
 refine ⟨_, rfl, _, _, rfl, .inr ⟨_, SqT.of hfp, rfl⟩, rfl, _, rfl, iteF ?_⟩
 refine ⟨_, rfl, _, _, _, _, rfl, rfl, SqT.of hfp, rfl, _, rfl, _, _, _, _, rfl, rfl, SqT.of hq, rfl, .tuple (hz.map PyData.str), .tuple (hz.map PyData.str), ?_, ?_, shaped_strsT _ fun z h => (hh z h).2.2, shaped_strsT _ fun z h => (hh z h).2.2, _, rfl, ?_⟩
 ·rw [Dt]
  exact ⟨fh, _, rfl, SqT.of hfh, dtAll_strs _⟩
 ·rw [Dt]
  exact ⟨hd, _, rfl, SqT.of hhd, dtAll_strs _⟩
 have ee : PyData.eqv (.tuple (hz.map PyData.str)) (.tuple (hz.map PyData.str)) = true := by
  rw [PyData.eqv, eqvAll_strs]
  exact decide_eq_true rfl
 show if (!PyData.eqv (.tuple (hz.map PyData.str)) (.tuple (hz.map PyData.str))) = true then _ else _
 rw [ee]
 refine iteF ?_
 refine ⟨_, rfl, _, _, _, _, rfl, rfl, SqT.of hfp, rfl, _, _, _, true, rfl, TyOf.tup hfa, kit_same _, _, rfl, iteF ?_⟩
 -- kept
 refine ⟨_, rfl, vl, _, kvs, rfl, SqL.of hvl, hkp, fun kd hkd0 => ?_⟩
 rw [hm]
 have sm1 : Same H (upd H kd (.dK kvs)) := same_new hkd0 _
 have hkd : upd H kd (.dK kvs) kd = some (.dK kvs) := upd_same
 generalize upd H kd (.dK kvs) = H1 at sm1 hkd ⊢
 -- used
 refine ⟨_, rfl, .ref q, hz, ats, rfl, hQ0.keep (Tups.of sm1), fun u0 H2 sm2 nu0 hu0 => ?_⟩
 -- left
 refine ⟨_, rfl, _, _, _, _, rfl, rfl, SqT.of (sm2 _ _ (sm1 _ _ hfp)), rfl, fa, _, rfl, .inr (SqT.of (sm2 _ _ (sm1 _ _ hfa))), fun lf hlf0 => ?_⟩
 have nH : ∀ b o, H2 b = some o → b ≠ lf := fun b o e => ne_of_none e hlf0
 have sm3 : Same H2 (upd H2 lf (.lst fvs)) := same_new hlf0 _
 have hlf : upd H2 lf (.lst fvs) lf = some (.lst fvs) := upd_same
 generalize upd H2 lf (.lst fvs) = H3 at sm3 hlf ⊢
 have sm03 : Same H H3 := sm1.trans (sm2.trans sm3)
 have sm02 : Same H H2 := sm1.trans sm2
 have lun := len_unk (flatA ats)
 have lfl : (flatA ats).length ≤ 24 := by
  have := good.len ats.length
  rw [List.take_length] at this
  omega
 have hkd2 : H2 kd = some (.dK kvs) := sm2 _ _ hkd
 have hin : ∀ nm x, viewOf xs nm = some x → ∃ qv, valV kvs (Sum.inr nm : Key) = some qv ∧ VQ H2 qv x.2.1 x.2.2 := fun nm x hx => (hK.keep (Tups.of sm02)).some hx
 refine ⟨_, rfl, _, _, _, _, rfl, rfl, SqT.of (sm03 _ _ hq), rfl, aa, rfl, ⟨avs, SqT.of (sm03 _ _ haa)⟩, for_tup (K := K) (a := aa) (xs := avs)
  (fun i σ H4 => ∃ (x6 x7 x8 x9 x10 x11 : Option V) (ul : Addr) (L usd : List Str) (lvs : List V) (usR : List (Str × List Str)), σ = [some (.ref fp), some (.ref vl), some (.ref q), some (.ref kd), some (.ref ul), some (.ref lf), x6, x7, x8, x9, x10, x11] ∧ Ext lf H2 H4 ∧ ul ≠ lf ∧ H4 ul = some (.lst (L.map V.str)) ∧ (∀ z ∈ L, z ∈ usd) ∧ L.length ≤ 24 + 100 * i ∧ H4 lf = some (.lst lvs) ∧ AtomsAt H4 lvs usR ∧ GoodT usR ∧ usR.length ≤ 200 ∧ Unf xs usd (ats.drop i) usR)
  ⟨none, none, none, none, none, none, u0, unkL (flatA ats), flatA ats, fvs, us, rfl, Ext.of sm3, nH _ _ hu0, sm3 _ _ hu0, fun z h => (mem_unkL.mp h).1, by omega, hlf, AtomsAt.keep (Tups.of sm03) hfats, fgood, fl8, hU⟩ (fun i σ H4 _ ⟨_, _, _, _, _, _, _, _, _, _, _, _, ex, _⟩ => SqT.of (ex _ _ (nH _ _ (sm02 _ _ haa)) (sm02 _ _ haa))) ?_ ?_⟩
 ·rintro i xv σ H4 hx ⟨x6, x7, x8, x9, x10, x11, ul, L, usd, lvs, usR, rfl, ex4, nul, hul, hLu, lL, hlf4, hA, gR, lR, hUi⟩
  obtain ⟨a, ha, ap, tp, rfl, hap, htp⟩ := Paired.at hats hx
  have hi : i < ats.length := (List.getElem?_eq_some_iff.mp ha).1
  have ham := List.mem_of_getElem? ha
  have ed : ats.drop i = a :: ats.drop (i + 1) := by
   rw [List.drop_eq_getElem_cons hi, (List.getElem?_eq_some_iff.mp ha).2]
  rw [ed] at hUi
  have tu24 : Tups H2 H4 := fun b o e => ex4 b _ (nH _ _ e) e
  have tu04 : Tups H H4 := (Tups.of sm02).trans tu24
  have hap4 := tu04 _ _ hap
  have htp4 := tu04 _ _ htp
  cases hUi with
  | @cons _ used' _ _ rest x g hv hl hf hus hr' =>
  obtain ⟨qv, hval, hVQ2⟩ := hin a.1 x hv
  have hVQ := hVQ2.keep tu24
  obtain ⟨⟨q2, hd2, aa2, avs2, e2, hq2, hhd2, haa2, hats2⟩, _, _, good2, h42, hh2⟩ := hVQ.q
  subst e2
  have l82 := hVQ.l8
  have li := hVQ.inner
  have la2 : avs2.length = x.2.2.length := Paired.length hats2
  have g4 := (good a ham).2.2.1
  have hkd4 : H4 kd = some (.dK kvs) := ex4 _ _ (nH _ _ hkd2) hkd2
  refine ⟨ap, _, rfl, SqT.of hap4, rfl, _, _, rfl, _, _, rfl, rfl, ?_⟩
  -- head, atoms
  refine ⟨_, rfl, _, rfl, kd, _, rfl, by rw [← hval]; exact DGet.k (k := Sum.inr a.1) hkd4, q2, _, rfl, SqT.of hq2, rfl, _, _, rfl, _, _, rfl, rfl, ?_⟩
  -- given
  have lhs : (x.2.1.map V.str).length = x.2.1.length := List.length_map _
  refine ⟨_, rfl, _, _, rfl, .inr ⟨_, SqT.of hhd2, rfl⟩, _, rfl, by omega, by omega, fun n m ys H5 => n ≤ x.2.1.length ∧ m = x.2.1.length - n ∧ Same H4 H5 ∧ PrAt H5 ys (gmap g (x.2.1.take n)), ⟨_, Nat.zero_le _, rfl, Same.refl _, .nil⟩, ?_⟩
  rintro n m ys H5 ⟨hn, rfl, sm5, hPr⟩
  have lys : ys.length = (gmap g (x.2.1.take n)).length := Paired.length hPr
  have lgm : (gmap g (x.2.1.take n)).length ≤ n := by
   unfold gmap
   rw [List.length_map, List.length_take]
   omega
  by_cases hlt : n < x.2.1.length
  ·refine .inr ⟨by show n < ((x.2.1.map V.str).length : Int).toNat; omega, small1000 (by omega), ?_⟩
   rintro v H6 ⟨rfl, rfl⟩
   obtain ⟨z, hz'⟩ : ∃ z, x.2.1[n]? = some z := ⟨_, List.getElem?_eq_getElem hlt⟩
   have e1 : atI (x.2.1.map V.str) (0 + (n : Int)) = some (.str z) := by
    rw [Int.zero_add]
    exact atI_nat (by rw [List.getElem?_map, hz']; rfl)
   have e2 : atI (a.2.map V.str) (0 + (n : Int)) = some (.str (g z)) := by
    rw [Int.zero_add]
    exact atI_nat (by rw [List.getElem?_map, hf.head n z hz']; rfl)
   refine rd_true ?_
   refine ⟨_, rfl, _, rfl, _, _, _, _, rfl, rfl, SqT.of (sm5 _ _ hhd2), e1, _, rfl, _, rfl, _, _, _, _, rfl, rfl, SqT.of (sm5 _ _ htp4), e2, (by show 2 ≤ sizeLine; decide), fun p hp => ?_⟩
   refine ⟨_, by omega, hlt, rfl, sm5.trans (same_new hp _), ?_⟩
   rw [List.take_add_one, hz']
   unfold gmap
   rw [List.map_append]
   exact Paired.snoc' (PrAt.keep (Tups.of (same_new hp _)) hPr) ⟨p, rfl, upd_same⟩
  have en : n = x.2.1.length := by omega
  subst en
  rw [List.take_length] at hPr
  refine .inl ⟨by show ((x.2.1.map V.str).length : Int).toNat ≤ x.2.1.length; omega, Nat.le_of_lt (small1000 (by omega)), fun pl hpl => ?_⟩
  have sm6 : Same H5 (upd H5 pl (.lst ys)) := same_new hpl _
  refine ⟨pl, ys, gD (gmap g x.2.1), rfl, SqL.of upd_same, pairs_gD (PrAt.keep (Tups.of sm6) hPr), fun gd hgd0 => ?_⟩
  rw [merge_gm hVQ.nd]
  have sm7 : Same (upd H5 pl (.lst ys)) (upd (upd H5 pl (.lst ys)) gd (.dK (gD (gmap g x.2.1)))) := same_new hgd0 _
  have sm47 := sm5.trans (sm6.trans sm7)
  have hgd : upd (upd H5 pl (.lst ys)) gd (.dK (gD (gmap g x.2.1))) gd = some (.dK (gD (gmap g x.2.1))) := upd_same
  have hn4 : H4 gd = none := by
   cases e : H4 gd with
   | none => rfl
   | some o => rw [(sm5.trans sm6) _ _ e] at hgd0; cases hgd0
  generalize upd (upd H5 pl (.lst ys)) gd (.dK (gD (gmap g x.2.1))) = H7 at sm47 hgd ⊢
  have n4 : ∀ b o, H4 b = some o → b ≠ gd := fun b o e => ne_of_none e hn4
  obtain ⟨hA1, hA2⟩ := AtomsAt.split hA
  rw [List.length_map] at hA1 hA2
  have gR1 : ∀ b ∈ x.2.2, TermOk b.1 → True := fun _ _ _ => trivial
  have ulgd := n4 _ _ hul
  have lfgd := n4 _ _ hlf4
  -- for atom in atoms
  refine ⟨_, rfl, aa2, rfl, ⟨avs2, SqT.of (sm47 _ _ haa2)⟩, for_tup (K := K) (a := aa2) (xs := avs2)
   (fun j σ H8 => ∃ (y11 : Option V) (seen : List Str), σ = [some (.ref fp), some (.ref vl), some (.ref q), some (.ref kd), some (.ref ul), some (.ref lf), some (.str a.1), some (.ref tp), some (.ref hd2), some (.ref aa2), some (.ref gd), y11] ∧ Ext2 lf gd H4 H8 ∧ H8 lf = some (.lst (lvs.drop j)) ∧ H8 gd = some (.dK (gD (gmap g (x.2.1 ++ seen)))) ∧ (x.2.1 ++ seen).Nodup ∧ ∀ z ∈ seen, z ∈ innerL x.2.1 x.2.2)
   ⟨x11, [], rfl, fun b o _ _ e => sm47 _ _ e, sm47 _ _ hlf4, by rw [List.append_nil]; exact hgd, by rw [List.append_nil]; exact hVQ.nd, fun z h => by cases h⟩ (fun j σ H8 _ ⟨_, _, _, ex, _⟩ => SqT.of (ex _ _ (fun e => by rw [e, hlf4] at haa2; cases haa2) (n4 _ _ haa2) haa2)) ?_ ?_⟩
  ·rintro j bv σ H8 hb ⟨y11, seen, rfl, ex8, hlf8, hgd8, nd8, hs8⟩
   obtain ⟨b, hbm, bp, bt, rfl, hbp, hbt⟩ := Paired.at hats2 hb
   have hj : j < x.2.2.length := (List.getElem?_eq_some_iff.mp hbm).1
   have tu8 : Tups H4 H8 := fun c o e => ex8 c _ (fun z => by rw [z, hlf4] at e; cases e) (n4 _ _ e) e
   have lA1 : (lvs.take x.2.2.length).length = x.2.2.length := by
    have := Paired.length hA1
    rw [List.length_map] at this
    exact this
   have hlv : ∃ fv, lvs[j]? = some fv ∧ AtomAt H4 fv (img g b) := by
    have hb1 : (x.2.2.map (img g))[j]? = some (img g b) := by rw [List.getElem?_map, hbm]; rfl
    have hj1 : j < (lvs.take x.2.2.length).length := by omega
    obtain ⟨fv, hfv⟩ : ∃ fv, (lvs.take x.2.2.length)[j]? = some fv := ⟨_, List.getElem?_eq_getElem hj1⟩
    obtain ⟨b', hb', hat'⟩ := Paired.at hA1 hfv
    rw [hb1] at hb'
    cases hb'
    rw [List.getElem?_take_of_lt hj] at hfv
    exact ⟨fv, hfv, hat'⟩
   obtain ⟨fv, hfv, hfat⟩ := hlv
   have edl : lvs.drop j = fv :: lvs.drop (j + 1) := by
    have hjl : j < lvs.length := (List.getElem?_eq_some_iff.mp hfv).1
    rw [List.drop_eq_getElem_cons hjl, (List.getElem?_eq_some_iff.mp hfv).2]
   -- left == []
   refine ⟨_, rfl, (by show 0 ≤ sizeLine; decide), fun e0 he0 => ?_⟩
   have sm9 : Same H8 (upd H8 e0 (.lst [])) := same_new he0 _
   have he0' : upd H8 e0 (.lst []) e0 = some (.lst []) := upd_same
   generalize upd H8 e0 (.lst []) = H9 at sm9 he0' ⊢
   have hlf9 := sm9 _ _ hlf8
   refine ⟨lf, e0, _, rfl, rfl, SqL.of hlf9, SqL.of he0', _, rfl, ?_⟩
   rw [edl]
   refine iteF ?_
   rw [edl] at hlf9
   -- left.pop(0)
   refine ⟨_, rfl, .inl ⟨rfl, _, SqL.of hlf9⟩, lf, _, 0, 0, fv, rfl, rfl, hlf9, by decide, by decide, by simp [seqIndex?], rfl, ?_⟩
   have ex10 : Ext2 lf gd H4 (upd H9 lf (.lst ((fv :: lvs.drop (j + 1)).eraseIdx 0))) := fun c o n1 n2 e => by
    rw [upd_ne n1]
    exact sm9 _ _ (ex8 c o n1 n2 e)
   have hlf10 : upd H9 lf (.lst ((fv :: lvs.drop (j + 1)).eraseIdx 0)) lf = some (.lst (lvs.drop (j + 1))) := upd_same
   have hgd10 : upd H9 lf (.lst ((fv :: lvs.drop (j + 1)).eraseIdx 0)) gd = some (.dK (gD (gmap g (x.2.1 ++ seen)))) := by
    rw [upd_ne (Ne.symm lfgd)]
    exact sm9 _ _ hgd8
   generalize upd H9 lf (.lst ((fv :: lvs.drop (j + 1)).eraseIdx 0)) = H10 at ex10 hlf10 hgd10 ⊢
   have tu10 : Tups H4 H10 := fun c o e => ex10 c _ (fun z => by rw [z, hlf4] at e; cases e) (n4 _ _ e) e
   have gb := good2 b (List.mem_of_getElem? hbm)
   have gfb : ∀ z ∈ b.2, TermOk (g z) := fun z hz' => (gR (img g b) (List.mem_append_left _ (List.mem_map.mpr ⟨b, List.mem_of_getElem? hbm, rfl⟩))).2.2.2 _ (List.mem_map.mpr ⟨z, hz', rfl⟩)
   refine ⟨_, rfl, _, rfl, _, rfl, _, rfl, x, a.2, usd, g, fv, .ref bp, gd, ul, hd2, b, seen, L, rfl, hfat.keep tu10, ⟨bp, bt, rfl, tu10 _ _ hbp, tu10 _ _ hbt⟩, List.mem_of_getElem? hbm, hgd10, ex10 _ _ nul ulgd hul, tu10 _ _ hhd2, hf, hLu, by omega, gb.2.2.1, gb.2.2.2, gfb, fun z hz' => (hVQ.hu z hz').2, h42, by omega, nd8, hs8, fun seen' H11 ex11 hgd11 nd11 hs11 => ⟨_, rfl, iteF ?_⟩⟩
   refine ⟨_, seen', rfl, fun c o n1 n2 e => ex11 c o n2 (ex10 c o n1 n2 e), ex11 _ _ lfgd hlf10, hgd11, nd11, hs11⟩
  ·rintro σ H8 ⟨y11, seen, rfl, ex8, hlf8, hgd8, nd8, hs8⟩
   rw [la2] at hlf8
   have ls := seen_len nd8 hs8
   have hul8 := ex8 _ _ nul ulgd hul
   have hhd8 : H8 hd2 = some (.tup (x.2.1.map V.str)) := ex8 _ _ (fun e => by rw [e, hlf4] at hhd2; cases hhd2) (n4 _ _ hhd2) hhd2
   -- used = used + [..]
   refine ⟨gd, (fun u v => by rw [hgd8]; exact fun e => by cases e), ?_⟩
   refine ⟨_, rfl, _, rfl, gd, _, rfl, hgd8, fun o => ?_⟩
   have hfz : upd H8 gd (.frz o (.dK (gD (gmap g (x.2.1 ++ seen))))) gd = some (.frz o (.dK (gD (gmap g (x.2.1 ++ seen))))) := upd_same
   have hhdz : upd H8 gd (.frz o (.dK (gD (gmap g (x.2.1 ++ seen))))) hd2 = some (.tup (x.2.1.map V.str)) := by
    rw [upd_ne (fun e => by rw [e, hgd8] at hhd8; cases hhd8)]
    exact hhd8
   refine comp_dict (d := gd) (o := o) (kvs := gD (gmap g (x.2.1 ++ seen))) (fun i ys H9 => H9 = upd H8 gd (.frz o (.dK (gD (gmap g (x.2.1 ++ seen))))) ∧ ∃ zs : List Str, ys = zs.map V.str ∧ zs.length ≤ i ∧ ∀ y ∈ zs, ∃ v ∈ seen, y = g v) ?_ ⟨rfl, [], rfl, Nat.le_refl _, fun y h => by cases h⟩ ?_ ?_ ?_
   ·rw [gm_len, List.length_append]
    exact small1000 (by omega)
   ·rintro i ys H9 hi ⟨rfl, zs, rfl, lz, _⟩
    exact ⟨hfz, by rw [List.length_map]; exact lz⟩
   ·rintro i kv ys H9 N hkv ⟨rfl, zs, rfl, lz, hzs⟩ hN
    obtain ⟨v, hv', rfl⟩ := gm_at g hkv
    refine ⟨_, rfl, _, rfl, hd2, _, rfl, .inr (SqT.of hhdz), rfl, flat_V _, _, rfl, ?_⟩
    show if (!inV (.str v) (x.2.1.map V.str)) = true then _ else _
    rw [inV_str]
    refine ite2 (fun c2 => ?_) (fun c2 => ?_)
    ·have c2 : v ∉ x.2.1 := by simpa using c2
     have hvs : v ∈ seen := (List.mem_append.mp (List.mem_of_getElem? hv')).resolve_left c2
     refine ⟨_, rfl, _, rfl, gd, .str (g v), rfl, .inl ⟨_, Sum.inr v, .inr ⟨_, hfz⟩, rfl, by rw [gm_get, if_pos (List.mem_append_right _ hvs)]⟩, hN _ _ ⟨rfl, zs ++ [g v], by rw [List.map_append]; rfl, by rw [List.length_append]; exact Nat.succ_le_succ lz, fun y hy => ?_⟩⟩
     rcases List.mem_append.mp hy with hy | hy
     ·exact hzs y hy
     ·exact ⟨v, hvs, List.mem_singleton.mp hy⟩
    ·exact hN _ _ ⟨rfl, zs, rfl, Nat.le_succ_of_le lz, hzs⟩
   ·rintro ys H9 ⟨rfl, zs, rfl, lz, hzs⟩ l hl
    rw [gm_len, List.length_append] at lz
    have ulz : upd H8 gd (.frz o (.dK (gD (gmap g (x.2.1 ++ seen))))) ul = some (.lst (L.map V.str)) := by
     rw [upd_ne ulgd]
     exact hul8
    refine ⟨ul, l, _, _, rfl, rfl, by rw [upd_ne (ne_of_none ulz hl)]; exact ulz, upd_same, by rw [List.length_map, List.length_map]; exact Nat.le_of_lt (small1000 (by omega)), fun p hp => ?_⟩
    obtain ⟨eb, hl3, hp3, n1, n2⟩ := thaw_back2 (v := .lst (L.map V.str ++ zs.map V.str)) hgd8 hl hp
    refine ⟨o, gD (gmap g (x.2.1 ++ seen)), by rw [upd_ne n2, upd_ne n1]; exact hfz, ?_⟩
    rw [eb]
    have sm10 : Same H8 (upd (upd H8 l (.lst (zs.map V.str))) p (.lst (L.map V.str ++ zs.map V.str))) := (same_new hl3 _).trans (same_new hp3 _)
    have hp10 : upd (upd H8 l (.lst (zs.map V.str))) p (.lst (L.map V.str ++ zs.map V.str)) p = some (.lst ((L ++ zs).map V.str)) := by rw [upd_same, List.map_append]
    have npl : p ≠ lf := (ne_of_none ((same_new hl3 _) _ _ hlf8) hp3).symm
    generalize upd (upd H8 l (.lst (zs.map V.str))) p (.lst (L.map V.str ++ zs.map V.str)) = H10 at sm10 hp10 ⊢
    have tu8 : Tups H4 H8 := fun c o e => ex8 c _ (fun z => by rw [z, hlf4] at e; cases e) (n4 _ _ e) e
    refine ⟨_, _, _, _, _, _, p, L ++ zs, used', lvs.drop x.2.2.length, rest, rfl, fun b o n e => ?_, npl, hp10, fun z hz' => ?_, by rw [List.length_append]; omega, sm10 _ _ hlf8, AtomsAt.keep (tu8.trans (Tups.of sm10)) hA2, fun b hb => gR b (List.mem_append_right _ hb), ?_, hr'⟩
    ·have e4 := ex4 b o n e
     exact sm10 _ _ (ex8 b o n (n4 _ _ e4) e4)
    ·rcases List.mem_append.mp hz' with hz' | hz'
     ·exact hus z (.inl (hLu z hz'))
     ·obtain ⟨v, hv', rfl⟩ := hzs z hz'
      exact hus _ (.inr ⟨v, hs8 v hv', rfl⟩)
    ·rw [List.length_append] at lR
     omega
 ·rintro σ H4 ⟨x6, x7, x8, x9, x10, x11, ul, L, usd, lvs, usR, rfl, ex4, nul, hul, hLu, lL, hlf4, hA, gR, lR, hUi⟩
  rw [la, List.drop_length] at hUi
  cases hUi
  cases hA
  refine ⟨_, rfl, (by show 0 ≤ sizeLine; decide), fun e0 he0 => ?_⟩
  have sm5 : Same H4 (upd H4 e0 (.lst [])) := same_new he0 _
  refine ⟨lf, e0, _, rfl, rfl, SqL.of (sm5 _ _ hlf4), SqL.of upd_same, ?_⟩
  refine k _ fun b o e => sm5 _ _ ?_
  have e2 := sm02 _ _ e
  exact ex4 _ _ (nH _ _ e2) e2
end
def placeR (xs : List View) (ats : List (Str × List Str)) : V := match placeV xs ats with
 | some n => .int (n : Int)
 | none => .str "told"
def spRefused : Sp := fun vs H Q _ => ∃ (xs : List View) (vl : Addr) (vws : List V) (v : V) (hz : List Str) (ats : List (Str × List Str)), vs = [.ref vl, v] ∧ H vl = some (.lst vws) ∧ VWs H vws xs ∧ (xs.map (·.1)).Nodup ∧ QW H v hz ats ∧ ats.length ≤ 6 ∧ ∀ H', Same H H' → Q (placeR xs ats) H'
def EHv (cV : Addr) (H : Hp) (res : Option Nat) : XK := fun cls dd H' => Same H H' ∧ ∃ d n, dd = some d ∧ res = some n ∧ cls = .ref cV ∧ H' d = some (.xd [("place", .int ((n : Nat) : Int))])
theorem kit_self {K : PySem.W.Frag} (t : Value) : PySem.W.kitOne K t t = some true := by
 unfold PySem.W.kitOne
 rw [if_pos (beq_self_eq_true t)]
theorem _root_.L2.ErrG.keep {H H' : Hp} {a C : Addr} {fs : List (Str × V)} (h : ErrG H a C fs) (s : Same H H') : ErrG H' a C fs := by
 obtain ⟨d, h1, h2⟩ := h
 exact ⟨d, s _ _ h1, s _ _ h2⟩
section
variable {P : Program} {w : World} {K : PySem.W.Frag} {mg : Str → Option Value} {base : Heap} {A0 c0 c1 c2 c3 c4 c5 c6 c7 : Addr}
structure Lr (P : Program) (w : World) (K : PySem.W.Frag) (mg : Str → Option Value) (base : Heap) (A0 c0 c1 c2 c3 c4 c5 c6 c7 : Addr) : Prop where
 unfolded : DefOkE P w K mg base 7 "unfolded" ["views", "question"] (spUnf c5)
 m_AskError : mg "AskError" = some (.ref A0)
 q_AskError : excInI K A0 bmV "ValueError.__new__" = true
 m_Loose : mg "Loose" = some (.ref c0)
 m_NoAsk : mg "NoAsk" = some (.ref c1)
 m_NoHeld : mg "NoHeld" = some (.ref c2)
 m_NoRow : mg "NoRow" = some (.ref c3)
 m_NoText : mg "NoText" = some (.ref c4)
 m_NoView : mg "NoView" = some (.ref c5)
 m_TooMany : mg "TooMany" = some (.ref c6)
 m_Twice : mg "Twice" = some (.ref c7)
 e5 : ExcK K c5
 r5 : PySem.W.mroIn K c5 (.ref A0) = some true
 g5 : PySem.W.findIn K (.ref c5) "place" = some none
 v5 : PySem.W.kitOne K (.ref c5) (.type "ValueError") = some true
 a5 : PySem.W.kitAny K (.ref c5) [.ref c0, .ref c1, .ref c2, .ref c3, .ref c4, .ref c6, .ref c7] = some false
theorem sc_l_refused : FnScope ["_law_views_here", "_law_question_here", "_law_place_here", "e"] ["_law_views_here", "_law_question_here"] (defScope s_l_refused) := ⟨rfl, rfl, rfl, by decide +kernel, rfl, by decide +kernel, by decide +kernel⟩
theorem ok_refused {f : Addr} {fd : FuncData} (F : Fun K "_law_refused" "_law_refused" s_l_refused f fd) (T : Txt K mg) (D : Lr P w K mg base A0 c0 c1 c2 c3 c4 c5 c6 c7) : FnOk P w K mg base CX0 8 f fd ["_law_views_here", "_law_question_here"] spRefused := by
 refine F.ok sc_l_refused (fun vs H Q E h => ?_) (fun cdv A outer s H vs Q E hr h => ?_)
 ·obtain ⟨y, a, b, c, d, e, rfl, _⟩ := h
  rfl
 obtain ⟨xs, vl, vws, v, hz, ats, rfl, hvl, hV, ndx, hQ, la6, k⟩ := h
 have isR : ∀ {c : Addr} (u' : Value), RelV (.ref c) u' → u' = Value.ref c := fun _ h => h
 have isT : ∀ (u' : Value), RelV (.ty "ValueError") u' → u' = Value.type "ValueError" := fun _ h => h
 obtain ⟨EH, hEH⟩ : ∃ EH : XK, EH = EHv c5 H (placeV xs ats) := ⟨_, rfl⟩
 refine ⟨_, (pss_cons (ps_set (i := 2) sc_l_refused.nd rfl (Or.inl rfl) pe_str)
   (pss_cons (ps_try (i := 3) (EH := EH) sc_l_refused.nd rfl rfl rfl D.m_AskError D.q_AskError rfl rfl (fun _ _ L => (pss_one (ps_expr (clE D.unfolded hr L (pa_cons (pv 0) (pa_cons (pv 1) pa_nil))))))
   (fun _ => (pss_cons (ps_set (i := 2) sc_l_refused.nd rfl (Or.inl rfl) pe_str)
   (pss_cons (ps_if (PW.pt (pw_and (pt_val (pe_callB (call_isinstGK (K := K)) rfl T.n_isinstance (by decide +kernel) (pa_cons (pv 3) (pa_cons (pe_globR rfl D.m_NoView) pa_nil)))) (pw_and1 (pt_val (pe_callB (call_isinstGK (K := K)) rfl T.n_isinstance (by decide +kernel) (pa_cons (pv 3) (pa_cons (pe_ty (n := "ValueError") rfl T.n_ValueError (by decide +kernel)) pa_nil))))))) (pss_one (ps_set (i := 2) sc_l_refused.nd rfl (Or.inl rfl) ((pe_exgetGK (K := K)) (pv 3)))) pss_nil)
   (pss_one (ps_if (pt_val (pe_callB (call_isinstTK (K := K)) rfl T.n_isinstance (by decide +kernel) (pa_cons (pv 3) (pa_cons (pe_tup (pa_cons (pe_globR rfl D.m_Loose) (pa_cons (pe_globR rfl D.m_NoAsk) (pa_cons (pe_globR rfl D.m_NoHeld) (pa_cons (pe_globR rfl D.m_NoRow) (pa_cons (pe_globR rfl D.m_NoText) (pa_cons (pe_globR rfl D.m_TooMany) (pa_cons (pe_globR rfl D.m_Twice) pa_nil)))))))) pa_nil)))) (pss_one (ps_set (i := 2) sc_l_refused.nd rfl (Or.inl rfl) pe_str)) pss_nil))))))
   (pss_one (ps_ret (pv 2))))), ?_⟩
 refine ⟨?_, ?_⟩
 ·refine ⟨_, rfl, _, rfl, xs, vl, vws, v, hz, ats, rfl, hvl, hV, ndx, hQ, la6, ?_⟩
  cases ep : placeV xs ats with
  | some n =>
   intro d H' sm hd
   rw [hEH, ep]
   exact ⟨sm, d, n, rfl, rfl, rfl, hd⟩
  | none =>
   intro r us H2 sm2 _ _
   have q := k H2 sm2
   unfold placeR at q
   rw [ep] at q
   exact ⟨_, rfl, q⟩
 ·intro e C dd H2 he hE
  rw [hEH] at hE
  obtain ⟨sm2, d, n, rfl, ep, hC, hd⟩ := hE
  cases hC
  have eG : ErrG H2 e c5 [("place", .int (n : Int))] := ⟨d, he, hd⟩
  refine ⟨D.r5, ?_⟩
  refine ⟨_, rfl, e, c5, _, _, _, _, rfl, eG, D.e5, isR, kit_self _, _, rfl, iteT ?_⟩
  refine ⟨_, rfl, e, c5, _, _, _, _, rfl, eG, D.e5, isT, D.v5, _, rfl, iteT ?_⟩
  refine ⟨_, rfl, e, c5, _, _, rfl, eG, D.e5, D.g5, rfl, ?_⟩
  refine ⟨_, rfl, (by show 7 ≤ sizeLine; decide), fun p1 hp1 => ?_⟩
  have smA : Same H2 (upd H2 p1 (.tup [.ref c0, .ref c1, .ref c2, .ref c3, .ref c4, .ref c6, .ref c7])) := same_new hp1 _
  have hp2 : upd H2 p1 (.tup [.ref c0, .ref c1, .ref c2, .ref c3, .ref c4, .ref c6, .ref c7]) p1 = some (.tup [.ref c0, .ref c1, .ref c2, .ref c3, .ref c4, .ref c6, .ref c7]) := upd_same
  generalize upd H2 p1 (.tup [.ref c0, .ref c1, .ref c2, .ref c3, .ref c4, .ref c6, .ref c7]) = H3 at smA hp2 ⊢
  refine ⟨e, c5, p1, _, [c0, c1, c2, c3, c4, c6, c7], false, rfl, eG.keep smA, D.e5, hp2, D.a5, _, rfl, iteF ?_⟩
  have q := k H3 (sm2.trans smA)
  unfold placeR at q
  rw [ep] at q
  exact ⟨_, rfl, q⟩
end
def spPlace : Sp := fun vs H Q _ => ∃ (xs : List View) (vl : Addr) (vws : List V) (v : V) (hz : List Str) (ats : List (Str × List Str)), vs = [.ref vl, v] ∧ H vl = some (.lst vws) ∧ VWs H vws xs ∧ (xs.map (·.1)).Nodup ∧ xs.length ≤ 100 ∧ QW H v hz ats ∧ ats.length ≤ 6 ∧ ∀ H', Same H H' → Q (placeR xs ats) H'
def lenK (xs : List View) : List (Key × V) := xs.map fun x => (Sum.inr x.1, .int ((x.2.1.length : Nat) : Int))
theorem lenK_val (nm : Str) : ∀ xs : List View, valV (lenK xs) (Sum.inr nm : Key) = (viewOf xs nm).map fun x => .int ((x.2.1.length : Nat) : Int)
 | [] => rfl
 | x :: r => by
  have ih := lenK_val nm r
  unfold lenK viewOf at *
  rw [List.map_cons, List.find?_cons]
  by_cases c : x.1 = nm
  ·rw [valV_pos (by show (Sum.inr x.1 : Key) = Sum.inr nm; rw [c]), decide_eq_true c]
   rfl
  ·rw [valV_neg (fun e => c (Sum.inr.inj e)), decide_eq_false c]
   exact ih
theorem lenK_keys (xs : List View) : (lenK xs).map (·.1) = xs.map fun x => (Sum.inr x.1 : Key) := by
 unfold lenK
 rw [List.map_map]
 rfl
section
variable {P : Program} {w : World} {K : PySem.W.Frag} {mg : Str → Option Value} {base : Heap}
theorem sc_l_place : FnScope ["_law_views_here", "_law_question_here", "_law_kept", "_law_k", "_law_name", "_law_terms"] ["_law_views_here", "_law_question_here"] (defScope s_l_place) := ⟨rfl, rfl, rfl, by decide +kernel, rfl, by decide +kernel, by decide +kernel⟩
theorem ok_place {f : Addr} {fd : FuncData} (F : Fun K "_law_place" "_law_place" s_l_place f fd) (T : Txt K mg) : FnOk P w K mg base CX0 1 f fd ["_law_views_here", "_law_question_here"] spPlace := by
 refine F.ok sc_l_place (fun vs H Q E h => ?_) (fun cdv A outer s H vs Q E hr h => ?_)
 ·obtain ⟨y, a, b, c, d, e, rfl, _⟩ := h
  rfl
 obtain ⟨xs, vl, vws, v, hz, ats, rfl, hvl, hV, ndx, lx, hQ, la6, k⟩ := h
 have hu := hu_of hr
 obtain ⟨⟨q, hd, aa, avs, rfl, hq, hhd, haa, hats⟩, l1, l8, good, h4, hh⟩ := hQ
 have la : avs.length = ats.length := Paired.length hats
 have lvx : vws.length = xs.length := Paired.length hV
 refine ⟨_, (pss_cons (ps_set (i := 2) sc_l_place.nd rfl (Or.inl rfl) (pe_callTy (call_dict_pairs hr.hd) rfl T.n_dict (by decide +kernel) (pa_cons (pe_compT rfl (compScT_mk (more := ["_law_made"]) (fs := []) (fr := [])) (pi_list (pv 0)) (fun _ _ _ _ => (pg_tupK (K := K) (n := 2) rfl (pgs_cons (pg_nameC (i := 0)) (pgs_cons (pg_nameC (i := 1)) pgs_nil)))) (fun _ _ _ _ => (pe_tup (pa_cons (pv 0) (pa_cons (pe_callB (call_lenK (K := K)) rfl T.n_len PySem.boot_len (pa_cons (pe_ix (ix_tupK (K := K)) (pv 1) pe_int (fun _ _ => rfl)) pa_nil)) pa_nil))))) pa_nil)))
   (pss_cons (ps_for PassesOwn.never rfl (pi_enumT rfl T.n_enumerate (pa_cons (pe_ix ix_tup (pv 1) pe_int (fun _ _ => rfl)) pa_nil)) (pg_tup rfl (pgs_cons (pg_name (i := 3) sc_l_place.nd rfl (Or.inl rfl)) (pgs_cons (pg_tup rfl (pgs_cons (pg_name (i := 4) sc_l_place.nd rfl (Or.inl rfl)) (pgs_cons (pg_name (i := 5) sc_l_place.nd rfl (Or.inl rfl)) pgs_nil))) pgs_nil)))
   (pss_one (ps_if (pt_cmpR op_ne (pe_dget1 hu (pv 2) (pv 4) m1_n) (pe_callB call_len rfl T.n_len PySem.boot_len (pa_cons (pv 5) pa_nil)) (nomark _)) (pss_one (ps_ret (pv 3))) pss_nil)))
   (pss_one (ps_ret pe_str)))), ?_⟩
 -- kept
 refine ⟨_, rfl, vl, rfl, ⟨_, SqL.of hvl⟩, comp2_list (K := K) (a := vl) (xs := vws) (fun i ys H2 => Same H H2 ∧ i ≤ xs.length ∧ Paired (fun (y : V) (kv : Key × V) => ∃ t, y = .ref t ∧ H2 t = some (.tup [kV kv.1, kv.2])) ys (lenK (xs.take i))) (small1000 (by omega)) ⟨Same.refl _, Nat.zero_le _, .nil⟩ ?_ ?_ ?_⟩
 ·rintro i ys H2 hi ⟨sm, hi', hP⟩
  refine ⟨SqL.of (sm _ _ hvl), ?_⟩
  have := Paired.length hP
  unfold lenK at this
  rw [List.length_map, List.length_take] at this
  omega
 ·rintro i xv ys H2 N hc ⟨sm, hi, hP⟩ hN
  obtain ⟨x, hx, vp, qv, rfl, hvp, hVQ, hnm⟩ := Paired.at hV hc
  have hlt : i < xs.length := (List.getElem?_eq_some_iff.mp hx).1
  obtain ⟨⟨q2, hd2, aa2, avs2, e2, hq2, hhd2, haa2, hats2⟩, _⟩ := hVQ.q
  subst e2
  refine ⟨vp, _, _, rfl, SqT.of (sm _ _ hvp), rd_true ?_⟩
  refine ⟨_, rfl, _, rfl, _, _, _, _, rfl, rfl, SqT.of (sm _ _ hq2), rfl, _, _, rfl, .inr ⟨_, SqT.of (sm _ _ hhd2), rfl⟩, (by show 2 ≤ sizeLine; decide), fun p hp => hN _ _ ⟨sm.trans (same_new hp _), hlt, ?_⟩⟩
  rw [List.take_add_one, hx]
  unfold lenK
  rw [List.map_append]
  refine Paired.snoc' (Paired.imp' (fun _ _ ⟨t, e, h⟩ => ⟨t, e, same_new hp _ _ _ h⟩) hP) ⟨p, rfl, ?_⟩
  rw [upd_same, List.length_map]
  rfl
 ·rintro ys H2 ⟨sm, _, hP⟩ l hl
  rw [lvx, List.take_length] at hP
  have sm3 : Same H2 (upd H2 l (.lst ys)) := same_new hl _
  refine ⟨l, ys, lenK xs, rfl, SqL.of upd_same, Paired.imp' (fun _ _ ⟨t, e, h⟩ => ⟨t, e, sm3 _ _ h⟩) hP, fun kd hkd0 => ?_⟩
  have em : mergeK [] (lenK xs) = lenK xs := merge_nd (lenK xs) [] (by rw [List.nil_append, lenK_keys]; exact nd_inr ndx)
  rw [em]
  have sm4 : Same H (upd (upd H2 l (.lst ys)) kd (.dK (lenK xs))) := sm.trans (sm3.trans (same_new hkd0 _))
  have hkd : upd (upd H2 l (.lst ys)) kd (.dK (lenK xs)) kd = some (.dK (lenK xs)) := upd_same
  generalize upd (upd H2 l (.lst ys)) kd (.dK (lenK xs)) = H4 at sm4 hkd ⊢
  refine ⟨_, rfl, _, _, _, _, rfl, rfl, SqT.of (sm4 _ _ hq), rfl, aa, rfl, ⟨avs, SqT.of (sm4 _ _ haa)⟩, for_enumT (K := K) (a := aa) (xs := avs)
   (fun i σ H5 => ∃ (x3 x4 x5 : Option V), σ = [some (.ref vl), some (.ref q), some (.ref kd), x3, x4, x5] ∧ Same H4 H5 ∧ ∀ j b, j < i → ats[j]? = some b → okA xs b = true) ⟨none, none, none, rfl, Same.refl H4, fun j b h => absurd h (Nat.not_lt_zero _)⟩ (fun i σ H5 _ ⟨_, _, _, _, sm, _⟩ => SqT.of (sm _ _ (sm4 _ _ haa))) ?_ ?_⟩
  ·rintro i x p σ H5 hx ⟨x3, x4, x5, rfl, sm5, hb⟩ hp
   obtain ⟨ta, ht, ap, t, rfl, hap, htt⟩ := Paired.at hats hx
   have sm6 : Same H4 (upd H5 p (.tup [.int i, .ref ap])) := sm5.trans (same_new hp _)
   have hpp : upd H5 p (.tup [.int i, .ref ap]) p = some (.tup [.int i, .ref ap]) := upd_same
   generalize upd H5 p (.tup [.int i, .ref ap]) = H6 at sm6 hpp ⊢
   have sm06 := sm4.trans sm6
   have hlt : i < ats.length := (List.getElem?_eq_some_iff.mp ht).1
   refine ⟨p, _, rfl, SqT.of hpp, rfl, _, _, rfl, _, _, rfl, ⟨ap, _, rfl, SqT.of (sm06 _ _ hap), rfl, _, _, rfl, _, _, rfl, rfl, rfl, ?_⟩⟩
   refine ⟨_, rfl, kd, rfl, .inl ⟨_, .inl (sm6 _ _ hkd)⟩, _, rfl, _, DGet.k (k := Sum.inr ta.1) (sm6 _ _ hkd), _, rfl, _, _, rfl, .inr ⟨_, SqT.of (sm06 _ _ htt), rfl⟩, ?_⟩
   rw [lenK_val]
   have bad : okA xs ta = false → Q (.int (i : Int)) H6 := fun h => by
    have q := k H6 sm06
    unfold placeR at q
    rw [place_first hb ht h] at q
    exact q
   cases ev : viewOf xs ta.1 with
   | none =>
    have eo : okA xs ta = false := by unfold okA; rw [ev]
    refine ⟨rfl, _, rfl, ?_⟩
    refine ite2 (fun c => ?_) (fun c => ?_)
    ·exact ⟨_, rfl, bad eo⟩
    ·exact absurd rfl c
   | some x =>
    refine ⟨rfl, _, rfl, ?_⟩
    refine ite2 (fun c => ?_) (fun c => ?_)
    ·have c : x.2.1.length ≠ ta.2.length := fun e => by
      have c : (!decide (V.int ((x.2.1.length : Nat) : Int) = V.int (((ta.2.map V.str).length : Nat) : Int))) = true := c
      rw [List.length_map, e, decide_eq_true rfl] at c
      cases c
     have eo : okA xs ta = false := by unfold okA; rw [ev]; exact decide_eq_false c
     exact ⟨_, rfl, bad eo⟩
    ·have c : x.2.1.length = ta.2.length := by
      have c : ¬ (!decide (V.int ((x.2.1.length : Nat) : Int) = V.int (((ta.2.map V.str).length : Nat) : Int))) = true := c
      rw [List.length_map] at c
      have c2 : decide (V.int ((x.2.1.length : Nat) : Int) = V.int ((ta.2.length : Nat) : Int)) = true := by
       cases h : decide (V.int ((x.2.1.length : Nat) : Int) = V.int ((ta.2.length : Nat) : Int)) with
       | true => rfl
       | false => rw [h] at c; exact absurd rfl c
      have := of_decide_eq_true c2
      injection this with this
      omega
     have eo : okA xs ta = true := by unfold okA; rw [ev]; exact decide_eq_true c
     refine ⟨_, _, _, rfl, sm6, fun j b hj e => ?_⟩
     rcases Nat.lt_succ_iff_lt_or_eq.mp hj with hj | rfl
     ·exact hb j b hj e
     ·rw [ht] at e
      cases e
      exact eo
  ·rintro σ H5 ⟨x3, x4, x5, rfl, sm5, hb⟩
   rw [la] at hb
   have q := k H5 (sm4.trans sm5)
   unfold placeR at q
   rw [place_none fun i b e => hb i b (List.getElem?_eq_some_iff.mp e).1 e] at q
   exact q
end
def renS (old new z : Str) : Str := if z = old then new else z
def renA (old new : Str) (ats : List (Str × List Str)) : List (Str × List Str) := ats.map fun a => (a.1, a.2.map (renS old new))
theorem ren_at {old new z : Str} : atI [V.str z, V.str new] (if decide (V.str z = V.str old) = true then 1 else 0) = some (.str (renS old new z)) := by
 unfold renS
 by_cases h : z = old
 ·rw [if_pos h, if_pos (decide_eq_true (congrArg V.str h))]
  rfl
 ·rw [if_neg h, if_neg (fun e => h (by have := of_decide_eq_true e; injection this))]
  rfl
def spCalled : Sp := fun vs H Q _ => ∃ (sa : Addr) (avs : List V) (ats : List (Str × List Str)) (old new : Str), vs = [.ref sa, .str old, .str new] ∧ H sa = some (.tup avs) ∧ AtomsAt H avs ats ∧ ats.length ≤ 200 ∧ (∀ a ∈ ats, a.2.length ≤ 4) ∧
 ∀ (r : Addr) (bvs : List V) (H' : Hp), Same H H' → H' r = some (.tup bvs) → AtomsAt H' bvs (renA old new ats) → Q (.ref r) H'
section
variable {P : Program} {w : World} {K : PySem.W.Frag} {mg : Str → Option Value} {base : Heap}
theorem pi_tupK {X : Cx} {tg l : Expr} {tl : TE} (hl : PE X l tl) (h : X.K = K := by rfl) : PI X tg l (iTup K tl) := h ▸ pi_tup hl
theorem sc_l_called_so : FnScope ["_law_some", "_law_old", "_law_new"] ["_law_some", "_law_old", "_law_new"] (defScope s_l_called_so) := ⟨rfl, rfl, rfl, by decide +kernel, rfl, by decide +kernel, by decide +kernel⟩
theorem ok_called {f : Addr} {fd : FuncData} (F : Fun K "_law_called_so" "_law_called_so" s_l_called_so f fd) (T : Txt K mg) : FnOk P w K mg base CX0 1 f fd ["_law_some", "_law_old", "_law_new"] spCalled := by
 refine F.ok sc_l_called_so (fun vs H Q E h => ?_) (fun cdv A outer s H vs Q E hr h => ?_)
 ·obtain ⟨a, b, c, d, e, rfl, _⟩ := h
  rfl
 obtain ⟨sa, avs, ats, old, new, rfl, hsa, hats, l200, h4, k⟩ := h
 have la : avs.length = ats.length := Paired.length hats
 refine ⟨_, (pss_one (ps_ret (pe_callTy call_tuple_of rfl T.n_tuple (by decide +kernel) (pa_cons (pe_compT rfl (compScT_mk (more := ["_law_terms"]) (fs := ["_law_new", "_law_old"]) (fr := [2, 1])) (pi_tup (pv 0)) (fun _ _ _ _ => (pg_tupK (K := K) (n := 2) rfl (pgs_cons (pg_nameC (i := 0)) (pgs_cons (pg_nameC (i := 1)) pgs_nil)))) (fun _ _ _ _ => (pe_tup (pa_cons (pv 0) (pa_cons (pe_callTy (call_tuple_ofK (K := K)) rfl T.n_tuple (by decide +kernel) (pa_cons (pe_comp rfl (compSc_mk (fs := ["_law_new", "_law_old"]) (fr := [2, 3])) (pi_tupK (K := K) (pv 1)) (fun _ _ _ _ => (pe_ix (ix_listK (K := K)) (pe_lst (pa_cons (pv 0) (pa_cons (pv 1) pa_nil))) (pe_callTy call_int1 rfl T.n_int (by decide +kernel) (pa_cons (pe_cmpR op_eq (pv 0) (pv 2) (nomark _)) pa_nil)) (fun _ _ => rfl)))) pa_nil)) pa_nil))))) pa_nil)))), ?_⟩
 refine ⟨_, rfl, sa, rfl, ⟨avs, SqT.of hsa⟩, comp2_tup (K := K) (a := sa) (xs := avs) (fun i ys H2 => Same H H2 ∧ i ≤ ats.length ∧ AtomsAt H2 ys (renA old new (ats.take i))) (small1000 (by omega)) ⟨Same.refl _, Nat.zero_le _, .nil⟩ ?_ ?_ ?_⟩
 ·rintro i ys H2 hi ⟨sm, hi', hA⟩
  refine ⟨SqT.of (sm _ _ hsa), ?_⟩
  have := Paired.length hA
  unfold renA at this
  rw [List.length_map, List.length_take] at this
  omega
 ·rintro i x ys H2 N hc ⟨sm, hi, hA⟩ hN
  obtain ⟨a, ha, ap, tp, rfl, hap, htp⟩ := Paired.at hats hc
  have hlt : i < ats.length := (List.getElem?_eq_some_iff.mp ha).1
  have a4 := h4 a (List.mem_of_getElem? ha)
  refine ⟨ap, _, _, rfl, SqT.of (sm _ _ hap), rd_true ?_⟩
  refine ⟨_, rfl, _, rfl, tp, rfl, ⟨_, SqT.of (sm _ _ htp)⟩, comp_tup (K := K) (a := tp) (xs := a.2.map V.str) (fun j zs H3 => Same H2 H3 ∧ j ≤ a.2.length ∧ zs = ((a.2.take j).map (renS old new)).map V.str) (by rw [List.length_map]; exact small1000 (by omega)) ⟨Same.refl _, Nat.zero_le _, rfl⟩ ?_ ?_ ?_⟩
  ·rintro j zs H3 hj ⟨sm3, _, rfl⟩
   refine ⟨SqT.of (sm3 _ _ (sm _ _ htp)), ?_⟩
   rw [List.length_map, List.length_map, List.length_take]
   omega
  ·rintro j y zs H3 N2 hc2 ⟨sm3, hj, rfl⟩ hN2
   obtain ⟨z, hz, rfl⟩ := at_strs hc2
   have hjl : j < a.2.length := (List.getElem?_eq_some_iff.mp hz).1
   refine rd_true ?_
   refine ⟨_, rfl, _, rfl, (by show 2 ≤ sizeLine; decide), fun l hl => ?_⟩
   refine ⟨_, rfl, _, rfl, rfl, .inr ⟨_, rfl, ?_⟩⟩
   refine ⟨_, _, _, _, rfl, rfl, SqL.of upd_same, ren_at, hN2 _ _ ⟨sm3.trans (same_new hl _), hjl, ?_⟩⟩
   rw [List.take_add_one, hz, List.map_append, List.map_append]
   rfl
  ·rintro zs H3 ⟨sm3, _, rfl⟩ l hl
   rw [List.length_map, List.take_length]
   have sm4 : Same H3 (upd H3 l (.lst ((a.2.map (renS old new)).map V.str))) := same_new hl _
   refine ⟨l, _, rfl, .inl ⟨SqL.of upd_same, fun t ht => ?_⟩⟩
   have sm5 := sm4.trans (same_new ht (.tup ((a.2.map (renS old new)).map V.str)))
   have ht5 : upd (upd H3 l (.lst ((a.2.map (renS old new)).map V.str))) t (.tup ((a.2.map (renS old new)).map V.str)) t = some (.tup ((a.2.map (renS old new)).map V.str)) := upd_same
   generalize upd (upd H3 l (.lst ((a.2.map (renS old new)).map V.str))) t (.tup ((a.2.map (renS old new)).map V.str)) = H5 at sm5 ht5 ⊢
   refine ⟨(by show 2 ≤ sizeLine; decide), fun p hp => ?_⟩
   have sm6 : Same H5 (upd H5 p (.tup [.str a.1, .ref t])) := same_new hp _
   have sm26 := sm3.trans (sm5.trans sm6)
   refine hN _ _ ⟨sm.trans sm26, hlt, ?_⟩
   rw [List.take_add_one, ha]
   unfold renA
   rw [List.map_append]
   exact AtomsAt.app (AtomsAt.keep (Tups.of sm26) hA) (.cons ⟨p, t, rfl, upd_same, sm6 _ _ ht5⟩ .nil)
 ·rintro ys H2 ⟨sm, _, hA⟩ l hl
  rw [la, List.take_length] at hA
  refine ⟨l, _, rfl, .inl ⟨SqL.of upd_same, fun r hr' => ?_⟩⟩
  have sm3 := (same_new hl (.lst ys)).trans (same_new hr' (.tup ys))
  exact k r ys _ (sm.trans sm3) upd_same (AtomsAt.keep (Tups.of sm3) hA)
end
theorem ren_len (old new : Str) (ats : List (Str × List Str)) : (renA old new ats).length = ats.length := List.length_map _
theorem ren_T {old new z : Str} (hn : TermOk new) (hz : TermOk z) : TermOk (renS old new z) := by
 unfold renS
 split
 ·exact hn
 ·exact hz
theorem ren_good {old new : Str} {ats : List (Str × List Str)} (hn : TermOk new) (g : GoodT ats) : GoodT (renA old new ats) := fun b hb => by
 obtain ⟨a, ha, rfl⟩ := List.mem_map.mp hb
 obtain ⟨g1, g2, g3, g4⟩ := g a ha
 refine ⟨g1, by show 1 ≤ (a.2.map _).length; rw [List.length_map]; exact g2, by show (a.2.map _).length ≤ 4; rw [List.length_map]; exact g3, fun z hz => ?_⟩
 obtain ⟨y, hy, rfl⟩ := List.mem_map.mp hz
 exact ren_T hn (g4 y hy)
theorem ren_mem {old new z : Str} {ats : List (Str × List Str)} (h : z ∈ flatA ats) (n : z ≠ old) : z ∈ flatA (renA old new ats) := by
 obtain ⟨a, ha, hz⟩ := flatA_mem.mp h
 exact flatA_mem.mpr ⟨_, List.mem_map.mpr ⟨a, ha, rfl⟩, List.mem_map.mpr ⟨z, hz, if_neg n⟩⟩
def Alike : List View → List View → Prop := Paired fun x y => x.1 = y.1 ∧ x.2.1.length = y.2.1.length
theorem Alike.refl : ∀ xs : List View, Alike xs xs
 | [] => .nil
 | _ :: r => .cons ⟨rfl, rfl⟩ (Alike.refl r)
theorem Alike.of {nm : Str} : ∀ {xs ys : List View}, Alike xs ys → (viewOf xs nm).map (fun x => x.2.1.length) = (viewOf ys nm).map fun x => x.2.1.length
 | _, _, .nil => rfl
 | _, _, .cons (a := x) (b := y) r t => by
  have ih := Alike.of (nm := nm) t
  unfold viewOf at *
  rw [List.find?_cons, List.find?_cons, ← r.1]
  by_cases c : x.1 = nm
  ·rw [decide_eq_true c]
   exact congrArg some r.2
  ·rw [decide_eq_false c]
   exact ih
theorem okA_len {xs : List View} {a : Str × List Str} : okA xs a = ((viewOf xs a.1).map (fun x => x.2.1.length) == some a.2.length) := by
 unfold okA
 cases viewOf xs a.1 with
 | none => rfl
 | some x =>
  show decide (x.2.1.length = a.2.length) = (some x.2.1.length == some a.2.length)
  by_cases h : x.2.1.length = a.2.length
  ·rw [decide_eq_true h, h]
   simp
  ·rw [decide_eq_false h]
   simp [h]
theorem okA_alike {xs ys : List View} (h : Alike xs ys) {a b : Str × List Str} (e1 : a.1 = b.1) (e2 : a.2.length = b.2.length) (ha : okA xs a = true) : okA ys b = true := by
 rw [okA_len] at ha ⊢
 rw [← h.of, ← e1, ← e2]
 exact ha
theorem over_place {xs : List View} {ats : List (Str × List Str)} (nd : (xs.map (·.1)).Nodup) (h : OverV xs ats) : ∀ a ∈ ats, okA xs a = true := fun a ha => by
 obtain ⟨x, hx, e1, e2⟩ := h a ha
 have hv : viewOf xs a.1 = some x := by
  unfold viewOf
  clear h
  induction xs with
  | nil => cases hx
  | cons y r ih =>
   rw [List.map_cons, List.nodup_cons] at nd
   rw [List.find?_cons]
   rcases List.mem_cons.mp hx with rfl | hx
   ·rw [decide_eq_true e1.symm]
   ·rw [decide_eq_false (fun e => nd.1 (List.mem_map.mpr ⟨x, hx, by rw [← e1, ← e]⟩))]
    exact ih nd.2 hx
 unfold okA
 rw [hv]
 exact decide_eq_true e2.symm
theorem Alike.names {xs ys : List View} (h : Alike xs ys) : ys.map (·.1) = xs.map (·.1) := by
 induction h with
 | nil => rfl
 | cons r _ ih => rw [List.map_cons, List.map_cons, ih, r.1]
theorem none_place {xs : List View} {ats : List (Str × List Str)} (h : ∀ a ∈ ats, okA xs a = true) : placeV xs ats = none := place_none fun i b e => h b (List.mem_of_getElem? e)
theorem ixN_nat {n j : Nat} (h : j < n) : ixN n (j : Int) = some j := by
 unfold ixN
 simp
 omega
theorem Paired.set {α β : Type} {F : α → β → Prop} : ∀ {as : List α} {bs : List β} (i : Nat) {a : α} {b : β}, Paired F as bs → F a b → Paired F (as.set i a) (bs.set i b)
 | _, _, _, _, _, .nil, _ => .nil
 | _, _, 0, _, _, .cons _ t, h => .cons h t
 | _, _, i + 1, _, _, .cons r t, h => .cons r (Paired.set i t h)
theorem Paired.ins {α β : Type} {F : α → β → Prop} : ∀ {as : List α} {bs : List β} (i : Nat) {a : α} {b : β}, Paired F as bs → F a b → Paired F (as.take i ++ a :: as.drop i) (bs.take i ++ b :: bs.drop i)
 | _, _, 0, _, _, t, h => .cons h t
 | _, _, _ + 1, _, _, .nil, h => .cons h .nil
 | _, _, i + 1, _, _, .cons r t, h => .cons r (Paired.ins i t h)
theorem set_good {ats : List (Str × List Str)} {i : Nat} {a : Str × List Str} (g : GoodT ats) (h : NameOk a.1 ∧ 1 ≤ a.2.length ∧ a.2.length ≤ 4 ∧ ∀ z ∈ a.2, TermOk z) : GoodT (ats.set i a) := fun b hb => by
 rcases List.mem_or_eq_of_mem_set hb with hb | rfl
 ·exact g b hb
 ·exact h
theorem ins_good {ats : List (Str × List Str)} {i : Nat} {a : Str × List Str} (g : GoodT ats) (h : NameOk a.1 ∧ 1 ≤ a.2.length ∧ a.2.length ≤ 4 ∧ ∀ z ∈ a.2, TermOk z) : GoodT (ats.take i ++ a :: ats.drop i) := fun b hb => by
 rcases List.mem_append.mp hb with hb | hb
 ·exact g b (List.mem_of_mem_take hb)
 ·rcases List.mem_cons.mp hb with rfl | hb
  ·exact h
  ·exact g b (List.mem_of_mem_drop hb)
theorem zz_ok : NameOk "zz" ∧ NameOk "z1" := by
 have h : (isVal "zz" && decide (("zz" : Str).length ≤ 100) && PyData.strOk "zz" && (isVal "z1" && decide (("z1" : Str).length ≤ 100) && PyData.strOk "z1")) = true := by decide +kernel
 rw [Bool.and_eq_true, Bool.and_eq_true, Bool.and_eq_true, Bool.and_eq_true, Bool.and_eq_true] at h
 exact ⟨⟨h.1.1.1, of_decide_eq_true h.1.1.2, h.1.2⟩, h.2.1.1, of_decide_eq_true h.2.1.2, h.2.2⟩
def spBent (K : PySem.W.Frag) : Sp := fun vs H Q _ => ∃ (f vl : Addr) (v : V) (vws : List V) (xs : List View) (hz : List Str) (ats : List (Str × List Str)), vs = [.ref f, .ref vl, v] ∧ Feed K f H ∧ vl ≠ f ∧ H vl = some (.lst vws) ∧ VWs H vws xs ∧ 1 ≤ xs.length ∧ xs.length ≤ 12 ∧ QW H v hz ats ∧ ats.length ≤ 3 ∧
 ∀ (r : Addr) (hz' : List Str) (ats' : List (Str × List Str)) (H' : Hp), Feed K f H' → Ext f H H' → QW H' (.ref r) hz' ats' → ats'.length ≤ 6 → Q (.ref r) H'
section
variable {P : Program} {w : World} {K : PySem.W.Frag} {mg : Str → Option Value} {base : Heap}
theorem sc_l_bent_over : FnScope ["_law_feed_here", "_law_views_here", "_law_question_here", "_law_atoms", "_law_k", "_law_at", "_law_name", "_law_terms", "_law_way", "_law_some"] ["_law_feed_here", "_law_views_here", "_law_question_here"] (defScope s_l_bent_over) := ⟨rfl, rfl, rfl, by decide +kernel, rfl, by decide +kernel, by decide +kernel⟩
theorem ok_bent {f : Addr} {fd : FuncData} (F : Fun K "_law_bent_over" "_law_bent_over" s_l_bent_over f fd) (T : Txt K mg) (D : Dr P w K mg base) : FnOk P w K mg base CX0 2 f fd ["_law_feed_here", "_law_views_here", "_law_question_here"] (spBent K) := by
 refine F.ok sc_l_bent_over (fun vs H Q E h => ?_) (fun cdv A outer s H vs Q E hr h => ?_)
 ·obtain ⟨a, b, c, d, e, f1, g1, rfl, _⟩ := h
  rfl
 obtain ⟨fe, vl, v, vws, xs, hz, ats, rfl, hF, nvl, hvl, hV, hx1, hx2, hQ, la3, k⟩ := h
 obtain ⟨⟨q, hd, aa, avs, rfl, hq, hhd, haa, hats⟩, l1, l8, good, h4, hh⟩ := hQ
 have la : avs.length = ats.length := Paired.length hats
 have lvx : vws.length = xs.length := Paired.length hV
 have nq : q ≠ fe := fun e => by
  obtain ⟨_, _, _, h⟩ := hF
  rw [← e, hq] at h
  cases h
 have nhd : hd ≠ fe := fun e => by
  obtain ⟨_, _, _, h⟩ := hF
  rw [← e, hhd] at h
  cases h
 refine ⟨_, (pss_cons (ps_set (i := 3) sc_l_bent_over.nd rfl (Or.inl rfl) (pe_callTy call_list_of rfl T.n_list (by decide +kernel) (pa_cons (pe_ix ix_tup (pv 2) pe_int (fun _ _ => rfl)) pa_nil)))
   (pss_cons (ps_for PassesOwn.never rfl (pi_range1 rfl T.n_range (pa_cons (pe_op op_add pe_int (cl D.l_draw hr (pa_cons (pv 0) (pa_cons pe_int pa_nil)))) pa_nil)) (pg_name (i := 4) sc_l_bent_over.nd rfl (Or.inl rfl))
   (pss_cons (ps_set (i := 5) sc_l_bent_over.nd rfl (Or.inl rfl) (cl D.l_draw hr (pa_cons (pv 0) (pa_cons (pe_callB call_len rfl T.n_len PySem.boot_len (pa_cons (pv 3) pa_nil)) pa_nil))))
   (pss_cons (ps_asg (pe_ix ix_list (pv 3) (pv 5) (fun _ _ => rfl)) (pg_tup rfl (pgs_cons (pg_name (i := 6) sc_l_bent_over.nd rfl (Or.inl rfl)) (pgs_cons (pg_name (i := 7) sc_l_bent_over.nd rfl (Or.inl rfl)) pgs_nil))))
   (pss_cons (ps_set (i := 8) sc_l_bent_over.nd rfl (Or.inl rfl) (cl D.l_draw hr (pa_cons (pv 0) (pa_cons pe_int pa_nil))))
   (pss_one (ps_if (pt_cmpR op_eq (pv 8) pe_int (nomark _)) (pss_one (ps_asg (pe_tup (pa_cons (pe_ix ix_list (pe_lst (pa_cons pe_str (pa_cons pe_str pa_nil))) (cl D.l_draw hr (pa_cons (pv 0) (pa_cons pe_int pa_nil))) (fun _ _ => rfl)) (pa_cons (pv 7) pa_nil))) (pg_sub (pv 3) (pv 5) set_list))) (pss_one (ps_if (PW.pt (pw_and (pt_cmpR op_eq (pv 8) pe_int (nomark _)) (pw_and1 (pt_cmpR op_lt (pe_callB call_len rfl T.n_len PySem.boot_len (pa_cons (pv 7) pa_nil)) pe_int (nomark _))))) (pss_one (ps_asg (pe_tup (pa_cons (pv 6) (pa_cons (pe_op op_catA (pv 7) (pe_slice sl_tupA (pv 7) po_none (po_some pe_int))) pa_nil))) (pg_sub (pv 3) (pv 5) set_list))) (pss_one (ps_if (pt_cmpR op_eq (pv 8) pe_int (nomark _)) (pss_one (ps_asg (pe_tup (pa_cons (pe_ix ix_tup (pe_ix ix_list (pv 1) (cl D.l_draw hr (pa_cons (pv 0) (pa_cons (pe_callB call_len rfl T.n_len PySem.boot_len (pa_cons (pv 1) pa_nil)) pa_nil))) (fun _ _ => rfl)) pe_int (fun _ _ => rfl)) (pa_cons (pv 7) pa_nil))) (pg_sub (pv 3) (pv 5) set_list))) (pss_one (ps_expr (pe_bm PySem.F.plainAttrs_list PySem.F.slot_list_insert PySem.F.type_list_insert mt_insert (pv 3) (pa_cons (pv 5) (pa_cons (pe_tup (pa_cons pe_str (pa_cons (pv 7) pa_nil))) pa_nil)))))))))))))))
   (pss_cons (ps_set (i := 9) sc_l_bent_over.nd rfl (Or.inr rfl) (pe_lst pa_nil))
   (pss_cons (ps_for PassesOwn.never rfl (pi_list (pv 3)) (pg_tup rfl (pgs_cons (pg_name (i := 6) sc_l_bent_over.nd rfl (Or.inl rfl)) (pgs_cons (pg_name (i := 7) sc_l_bent_over.nd rfl (Or.inl rfl)) pgs_nil)))
   (pss_one (ps_expr (pe_bm PySem.F.plainAttrs_list PySem.F.slot_list_extend PySem.F.type_list_extend mt_extendT (pv 9) (pa_cons (pv 7) pa_nil)))))
   (pss_one (ps_ret (pe_tup (pa_cons (pe_callTy call_tuple_of rfl T.n_tuple (by decide +kernel) (pa_cons (pe_compIf rfl (compSc_mk (fs := ["_law_some"]) (fr := [9])) (pi_tup (pe_ix ix_tup (pv 2) pe_int (fun _ _ => rfl))) (fun _ _ _ _ => (pt_cmpR (op_in_seqK (K := K)) (pv 0) (pv 1) (by with_unfolding_all rfl))) (fun _ _ _ _ => (pv 0))) pa_nil)) (pa_cons (pe_callTy call_tuple_of rfl T.n_tuple (by decide +kernel) (pa_cons (pv 3) pa_nil)) pa_nil))))))))), ?_⟩
 -- atoms = list(question[1])
 refine ⟨_, rfl, _, _, _, _, rfl, rfl, SqT.of hq, rfl, aa, _, rfl, .inr (SqT.of haa), fun al hal => ?_⟩
 have nal := hF.nef hal
 have hF1 := hF.new hal (.lst avs)
 have ex1 : Ext fe H (upd H al (.lst avs)) := (Ext.refl fe H).new hal _
 have hal1 : upd H al (.lst avs) al = some (.lst avs) := upd_same
 generalize upd H al (.lst avs) = H1 at hF1 ex1 hal1 ⊢
 refine ⟨_, rfl, fe, 2, rfl, hF1, by decide, by decide, fun i2 H2 a0 a1 hF2 ex2 => ⟨_, _, rfl, rfl, ?_⟩⟩
 refine ⟨_, rfl, by omega, by omega, for_range (lo := 0) (n := (1 + i2).toNat)
  (fun j σ H4 => ∃ (x4 x5 x6 x7 x8 : Option V) (bvs : List V) (bts : List (Str × List Str)), σ = [some (.ref fe), some (.ref vl), some (.ref q), some (.ref al), x4, x5, x6, x7, x8, none] ∧ Feed K fe H4 ∧ Ext fe H H4 ∧ H4 al = some (.lst bvs) ∧ AtomsAt H4 bvs bts ∧ GoodT bts ∧ 1 ≤ bts.length ∧ bts.length ≤ 3 + j)
  ⟨none, none, none, none, none, avs, ats, rfl, hF2, ex1.trans ex2, ex2 _ _ nal hal1, AtomsAt.keep (hF.tups (ex1.trans ex2)) hats, good, l1, by omega⟩ ?_ ?_⟩
 ·rintro j σ H4 hj ⟨x4, x5, x6, x7, x8, bvs, bts, rfl, hF4, ex4, hal4, hA, hg, hb1, hb2⟩
  have lb : bvs.length = bts.length := Paired.length hA
  -- at
  refine ⟨_, rfl, _, rfl, _, _, rfl, .inl ⟨_, SqL.of hal4, rfl⟩, fe, _, rfl, hF4, by omega, by omega, fun i5 H5 b0 b1 hF5 ex5 => ?_⟩
  obtain ⟨m, y, em, hm, ey⟩ := pick_v (vs := bvs) b0 b1
  subst em
  have ex05 := ex4.trans ex5
  have hal5 := ex5 _ _ nal hal4
  have hA5 := AtomsAt.keep (hF4.tups ex5) hA
  obtain ⟨b, hb, bp, bt, rfl, hbp, hbt⟩ := Paired.at hA5 hm
  have hml : m < bvs.length := (List.getElem?_eq_some_iff.mp hm).1
  have gb := hg b (List.mem_of_getElem? hb)
  refine ⟨_, rfl, _, rfl, _, _, _, _, rfl, rfl, SqL.of hal5, ey, bp, _, rfl, SqT.of hbp, rfl, _, _, rfl, _, _, rfl, rfl, ?_⟩
  -- way
  refine ⟨_, rfl, fe, 4, rfl, hF5, by decide, by decide, fun wy H6 w0 w1 hF6 ex6 => ?_⟩
  have ex06 := ex05.trans ex6
  have hal6 := ex6 _ _ nal hal5
  have hA6 := AtomsAt.keep (hF5.tups ex6) hA5
  have hbt6 := (hF5.tups ex6) _ _ hbt
  have lbt : (b.2.map V.str).length = b.2.length := List.length_map _
  -- an atom set
  have setA : ∀ {H7 : Hp} {p : Addr} {a : Str × List Str} {t : Addr}, Feed K fe H7 → Ext fe H6 H7 → H7 p = some (.tup [.str a.1, .ref t]) → H7 t = some (.tup (a.2.map V.str)) → (NameOk a.1 ∧ 1 ≤ a.2.length ∧ a.2.length ≤ 4 ∧ ∀ z ∈ a.2, TermOk z) → ∀ (nm : Option V) (tm : Option V) (wv : Option V),
    ∃ (x4 x5 x6 x7 x8 : Option V) (bvs' : List V) (bts' : List (Str × List Str)), [some (V.ref fe), some (.ref vl), some (.ref q), some (.ref al), some (.int (0 + (j : Int))), some (.int ((m : Nat) : Int)), nm, tm, wv, none] = [some (.ref fe), some (.ref vl), some (.ref q), some (.ref al), x4, x5, x6, x7, x8, none] ∧ Feed K fe (upd H7 al (.lst (bvs.set m (.ref p)))) ∧ Ext fe H (upd H7 al (.lst (bvs.set m (.ref p)))) ∧ upd H7 al (.lst (bvs.set m (.ref p))) al = some (.lst bvs') ∧ AtomsAt (upd H7 al (.lst (bvs.set m (.ref p)))) bvs' bts' ∧ GoodT bts' ∧ 1 ≤ bts'.length ∧ bts'.length ≤ 3 + (j + 1) := fun {H7 p a t} hF7 ex7 hp ht ga nm tm wv => by
   have hal7 := ex7 _ _ nal hal6
   have tul : Tups H7 (upd H7 al (.lst (bvs.set m (.ref p)))) := (Tups.refl H7).lst hal7 _
   refine ⟨_, _, _, _, _, _, bts.set m a, rfl, hF7.lst hal7 nal _, (ex06.trans ex7).own hal _, upd_same, ?_, set_good hg ga, by rw [List.length_set]; exact hb1, by rw [List.length_set]; omega⟩
   exact Paired.set m (AtomsAt.keep ((hF6.tups ex7).trans tul) hA6) ⟨p, t, rfl, tul _ _ hp, tul _ _ ht⟩
  refine ⟨_, rfl, rfl, _, rfl, ?_⟩
  refine ite2 (fun c1 => ?_) (fun c1 => ?_)
  ·-- another name
   refine ⟨(by show 2 ≤ sizeLine; decide), fun nl hnl => ?_⟩
   have nnl := hF6.nef hnl
   have hF7 := hF6.new hnl (.lst [.str "zz", .str "z1"])
   have ex7 : Ext fe H6 (upd H6 nl (.lst [.str "zz", .str "z1"])) := (Ext.refl fe H6).new hnl _
   have hnl7 : upd H6 nl (.lst [.str "zz", .str "z1"]) nl = some (.lst (([("zz" : Str), "z1"]).map V.str)) := upd_same
   generalize upd H6 nl (.lst [.str "zz", .str "z1"]) = H7 at hF7 ex7 hnl7 ⊢
   refine ⟨_, rfl, fe, 2, rfl, hF7, by decide, by decide, fun i8 H8 d0 d1 hF8 ex8 => ?_⟩
   obtain ⟨nm, hnm, en⟩ := pick_str (zs := [("zz" : Str), "z1"]) d0 (by show i8 < 2; exact d1)
   refine ⟨_, _, _, _, rfl, rfl, SqL.of (ex8 _ _ nnl hnl7), en, _, rfl, (by show 2 ≤ sizeLine; decide), fun p hp => ?_⟩
   have ex9 := (ex7.trans ex8).new hp (.tup [.str nm, .ref bt])
   refine ⟨_, rfl, _, rfl, al, _, _, m, rfl, rfl, ?_, ixN_nat hml, ?_⟩
   ·exact ex9 _ _ nal hal6
   ·refine setA (a := (nm, b.2)) (hF8.new hp _) ex9 upd_same ((hF6.tups ex9) _ _ hbt6) ⟨?_, gb.2⟩ _ _ _
    rcases List.mem_cons.mp hnm with rfl | hnm
    ·exact zz_ok.1
    ·rw [List.mem_singleton.mp hnm]
     exact zz_ok.2
  ·refine ⟨_, rfl, rfl, _, rfl, ?_⟩
   -- a term more
   refine ite2 (fun c2 => ?_) (fun c2 => ?_)
   ·refine ⟨_, rfl, _, _, rfl, .inr ⟨_, SqT.of hbt6, rfl⟩, _, _, rfl, rfl, _, rfl, ?_⟩
    refine ite2 (fun c3 => ?_) (fun c3 => ?_)
    ·have c3 : ((b.2.map V.str).length : Int) < 4 := of_decide_eq_true c3
     rw [lbt] at c3
     refine ⟨_, rfl, _, rfl, _, rfl, noPart ⟨_, rfl, rd_cutS hbt6 fun p5 H7 sm7 hp5 => ?_⟩⟩
     rw [show (1 : Int) = ((1 : Nat) : Int) from rfl, cut_to, ← List.map_take] at hp5
     have l1t : (b.2.take 1).length ≤ 1 := by rw [List.length_take]; omega
     refine rd_catS (sm7 _ _ hbt6) hp5 (by rw [List.length_map, List.length_map]; omega) fun p6 H8 sm8 hp6 => ?_
     rw [← List.map_append] at hp6
     refine ⟨(by show 2 ≤ sizeLine; decide), fun p hp => ?_⟩
     have ex9 : Ext fe H6 (upd H8 p (.tup [.str b.1, .ref p6])) := (Ext.of (sm7.trans sm8)).new hp _
     have hF9 := (hF6.same (sm7.trans sm8)).new hp (.tup [.str b.1, .ref p6])
     have np6 : p6 ≠ p := ne_of_none hp6 hp
     refine ⟨_, rfl, _, rfl, al, _, _, m, rfl, rfl, ex9 _ _ nal hal6, ixN_nat hml, ?_⟩
     refine setA (a := (b.1, b.2 ++ b.2.take 1)) hF9 ex9 upd_same (by rw [upd_ne np6]; exact hp6) ⟨gb.1, by rw [List.length_append]; have := gb.2.1; omega, by rw [List.length_append]; omega, fun z hz' => ?_⟩ _ _ _
     rcases List.mem_append.mp hz' with hz' | hz'
     ·exact gb.2.2.2 z hz'
     ·exact gb.2.2.2 z (List.mem_of_mem_take hz')
    ·show _
     refine ⟨_, rfl, rfl, _, rfl, ?_⟩
     refine ite2 (fun c4 => ?_) (fun c4 => ?_)
     ·-- another view's name
      have hvl6 := ex06 _ _ nvl hvl
      refine ⟨_, rfl, _, rfl, _, rfl, _, _, rfl, .inl ⟨_, SqL.of hvl6, rfl⟩, fe, _, rfl, hF6, by omega, by omega, fun i7 H7 d0 d1 hF7 ex7 => ?_⟩
      obtain ⟨jv, y, ej, hjv, ev⟩ := pick_v (vs := vws) d0 d1
      obtain ⟨x, hx, vp, qv, rfl, hvp, hVQ, hnm⟩ := Paired.at hV hjv
      have ex07 := ex06.trans ex7
      have hvp7 := (hF.tups ex07) _ _ hvp
      refine ⟨_, _, _, _, rfl, rfl, SqL.of (ex7 _ _ nvl hvl6), ev, _, _, _, _, rfl, rfl, SqT.of hvp7, rfl, _, rfl, (by show 2 ≤ sizeLine; decide), fun p hp => ?_⟩
      have ex9 : Ext fe H6 (upd H7 p (.tup [.str x.1, .ref bt])) := ex7.new hp _
      refine ⟨_, rfl, _, rfl, al, _, _, m, rfl, rfl, ex9 _ _ nal hal6, ixN_nat hml, ?_⟩
      exact setA (a := (x.1, b.2)) (hF7.new hp _) ex9 upd_same ((hF6.tups ex9) _ _ hbt6) ⟨hnm, gb.2⟩ _ _ _
     ·-- an atom more
      refine ⟨_, rfl, .inl ⟨rfl, _, SqL.of hal6⟩, _, rfl, _, rfl, (by show 2 ≤ sizeLine; decide), fun p hp => ?_⟩
      have ex9 : Ext fe H6 (upd H6 p (.tup [.str "zz", .ref bt])) := (Ext.refl fe H6).new hp _
      have hp9 : upd H6 p (.tup [.str "zz", .ref bt]) p = some (.tup [.str "zz", .ref bt]) := upd_same
      have hF9 := hF6.new hp (.tup [.str "zz", .ref bt])
      generalize upd H6 p (.tup [.str "zz", .ref bt]) = H9 at ex9 hp9 hF9 ⊢
      have hal9 := ex9 _ _ nal hal6
      refine ⟨al, _, _, _, rfl, rfl, hal9, by omega, by omega, by omega, ?_⟩
      have tul : Tups H9 (upd H9 al (.lst (bvs.take ((m : Nat) : Int).toNat ++ .ref p :: bvs.drop ((m : Nat) : Int).toNat))) := (Tups.refl H9).lst hal9 _
      refine ⟨_, _, _, _, _, _, bts.take ((m : Nat) : Int).toNat ++ ((("zz" : Str), b.2) : Str × List Str) :: bts.drop ((m : Nat) : Int).toNat, rfl, hF9.lst hal9 nal _, (ex06.trans ex9).own hal _, upd_same, ?_, ins_good (a := ((("zz" : Str), b.2) : Str × List Str)) hg ⟨zz_ok.1, gb.2⟩, ?_, ?_⟩
      ·exact Paired.ins _ (AtomsAt.keep ((hF6.tups ex9).trans tul) hA6) ⟨p, bt, rfl, tul _ _ hp9, tul _ _ ((hF6.tups ex9) _ _ hbt6)⟩
      ·rw [List.length_append, List.length_cons]
       omega
      ·rw [List.length_append, List.length_cons, List.length_take, List.length_drop]
       omega
   ·refine iteF ?_
    refine ⟨_, rfl, rfl, _, rfl, ?_⟩
    refine ite2 (fun c4 => ?_) (fun c4 => ?_)
    ·-- another view's name
     have hvl6 := ex06 _ _ nvl hvl
     refine ⟨_, rfl, _, rfl, _, rfl, _, _, rfl, .inl ⟨_, SqL.of hvl6, rfl⟩, fe, _, rfl, hF6, by omega, by omega, fun i7 H7 d0 d1 hF7 ex7 => ?_⟩
     obtain ⟨jv, y, ej, hjv, ev⟩ := pick_v (vs := vws) d0 d1
     obtain ⟨x, hx, vp, qv, rfl, hvp, hVQ, hnm⟩ := Paired.at hV hjv
     have ex07 := ex06.trans ex7
     have hvp7 := (hF.tups ex07) _ _ hvp
     refine ⟨_, _, _, _, rfl, rfl, SqL.of (ex7 _ _ nvl hvl6), ev, _, _, _, _, rfl, rfl, SqT.of hvp7, rfl, _, rfl, (by show 2 ≤ sizeLine; decide), fun p hp => ?_⟩
     have ex9 : Ext fe H6 (upd H7 p (.tup [.str x.1, .ref bt])) := ex7.new hp _
     refine ⟨_, rfl, _, rfl, al, _, _, m, rfl, rfl, ex9 _ _ nal hal6, ixN_nat hml, ?_⟩
     exact setA (a := (x.1, b.2)) (hF7.new hp _) ex9 upd_same ((hF6.tups ex9) _ _ hbt6) ⟨hnm, gb.2⟩ _ _ _
    ·-- an atom more
     refine ⟨_, rfl, .inl ⟨rfl, _, SqL.of hal6⟩, _, rfl, _, rfl, (by show 2 ≤ sizeLine; decide), fun p hp => ?_⟩
     have ex9 : Ext fe H6 (upd H6 p (.tup [.str "zz", .ref bt])) := (Ext.refl fe H6).new hp _
     have hp9 : upd H6 p (.tup [.str "zz", .ref bt]) p = some (.tup [.str "zz", .ref bt]) := upd_same
     have hF9 := hF6.new hp (.tup [.str "zz", .ref bt])
     generalize upd H6 p (.tup [.str "zz", .ref bt]) = H9 at ex9 hp9 hF9 ⊢
     have hal9 := ex9 _ _ nal hal6
     refine ⟨al, _, _, _, rfl, rfl, hal9, by omega, by omega, by omega, ?_⟩
     have tul : Tups H9 (upd H9 al (.lst (bvs.take ((m : Nat) : Int).toNat ++ .ref p :: bvs.drop ((m : Nat) : Int).toNat))) := (Tups.refl H9).lst hal9 _
     refine ⟨_, _, _, _, _, _, bts.take ((m : Nat) : Int).toNat ++ ((("zz" : Str), b.2) : Str × List Str) :: bts.drop ((m : Nat) : Int).toNat, rfl, hF9.lst hal9 nal _, (ex06.trans ex9).own hal _, upd_same, ?_, ins_good (a := ((("zz" : Str), b.2) : Str × List Str)) hg ⟨zz_ok.1, gb.2⟩, ?_, ?_⟩
     ·exact Paired.ins _ (AtomsAt.keep ((hF6.tups ex9).trans tul) hA6) ⟨p, bt, rfl, tul _ _ hp9, tul _ _ ((hF6.tups ex9) _ _ hbt6)⟩
     ·rw [List.length_append, List.length_cons]
      omega
     ·rw [List.length_append, List.length_cons, List.length_take, List.length_drop]
      omega
 ·rintro σ H4 ⟨x4, x5, x6, x7, x8, bvs, bts, rfl, hF4, ex4, hal4, hA, hg, hb1, hb2⟩
  have lb : bvs.length = bts.length := Paired.length hA
  have lb6 : bts.length ≤ 5 := by omega
  -- some = []
  refine ⟨(by show 0 ≤ sizeLine; decide), fun sl hsl => ?_⟩
  have nsl := hF4.nef hsl
  have nas : al ≠ sl := ne_of_none hal4 hsl
  have sm5 : Same H4 (upd H4 sl (.lst [])) := same_new hsl _
  refine ⟨_, rfl, al, rfl, ⟨_, SqL.of (sm5 _ _ hal4)⟩, for_list (K := K) (a := al) (xs := bvs)
   (fun i σ H6 => ∃ (y6 y7 : Option V), σ = [some (.ref fe), some (.ref vl), some (.ref q), some (.ref al), x4, x5, y6, y7, x8, some (.ref sl)] ∧ Same H4 H6 ∧ H6 sl = some (.lst ((flatA (bts.take i)).map V.str))) ⟨x6, x7, rfl, sm5, upd_same⟩ (fun i σ H6 _ ⟨_, _, _, sm, _⟩ => SqL.of (sm _ _ hal4)) ?_ ?_⟩
  ·rintro i x σ H6 hx ⟨y6, y7, rfl, sm6, hsl6⟩
   obtain ⟨b, hb, bp, bt, rfl, hbp, hbt⟩ := Paired.at hA hx
   have gb := hg b (List.mem_of_getElem? hb)
   have lf := hg.len i
   refine ⟨bp, _, rfl, SqT.of (sm6 _ _ hbp), rfl, _, _, rfl, _, _, rfl, rfl, ?_⟩
   refine ⟨_, rfl, .inl ⟨rfl, _, SqL.of hsl6⟩, _, rfl, sl, bt, _, _, rfl, rfl, hsl6, SqT.of (sm6 _ _ hbt), ?_, ?_⟩
   ·rw [List.length_map, List.length_map]
    have := gb.2.2.1
    exact Nat.le_of_lt (small1000 (by omega))
   ·refine ⟨_, _, rfl, fun c u e => ?_, ?_⟩
    ·rw [upd_ne (ne_of_none e hsl)]
     exact sm6 _ _ e
    ·rw [upd_same, flatA_take hb, List.map_append]
  ·rintro σ H6 ⟨y6, y7, rfl, sm6, hsl6⟩
   rw [lb, List.take_length] at hsl6
   have hq6 := sm6 _ _ (ex4 _ _ nq hq)
   have hhd6 := sm6 _ _ (ex4 _ _ nhd hhd)
   refine ⟨_, rfl, _, _, _, _, rfl, rfl, SqT.of hq6, rfl, hd, rfl, ⟨_, SqT.of hhd6⟩, comp_tup (K := K) (a := hd) (xs := hz.map V.str) (fun j ys H7 => H7 = H6 ∧ j ≤ hz.length ∧ ys = ((hz.take j).filter fun z => decide (z ∈ flatA bts)).map V.str) (by rw [List.length_map]; exact small1000 (by omega)) ⟨rfl, Nat.zero_le _, rfl⟩ ?_ ?_ ?_⟩
   ·rintro j ys H7 hj ⟨rfl, _, rfl⟩
    refine ⟨SqT.of hhd6, ?_⟩
    rw [List.length_map]
    refine Nat.le_trans (List.length_filter_le _ _) ?_
    rw [List.length_take]
    omega
   ·rintro j y ys H7 N hc ⟨rfl, hj, rfl⟩ hN
    obtain ⟨z, hz', rfl⟩ := at_strs hc
    have hjl : j < hz.length := (List.getElem?_eq_some_iff.mp hz').1
    refine ⟨_, rfl, _, rfl, sl, _, rfl, .inl (SqL.of hsl6), rfl, flat_V _, _, rfl, ?_⟩
    show if (inV (.str z) ((flatA bts).map V.str)) = true then _ else _
    rw [inV_str]
    refine ite2 (fun c1 => ?_) (fun c1 => ?_)
    ·refine ⟨_, rfl, hN _ _ ⟨rfl, hjl, ?_⟩⟩
     rw [filter_take hz', if_pos c1, List.map_append]
     rfl
    ·refine hN _ _ ⟨rfl, hjl, ?_⟩
     rw [filter_take hz', if_neg c1, List.append_nil]
   ·rintro ys H7 ⟨rfl, _, rfl⟩ l hl
    rw [List.length_map, List.take_length]
    generalize hzs : (hz.filter fun z => decide (z ∈ flatA bts)) = zs
    have sm7 : Same H7 (upd H7 l (.lst (zs.map V.str))) := same_new hl _
    refine ⟨l, _, rfl, .inl ⟨SqL.of upd_same, fun tp htp => ?_⟩⟩
    have sm8 := sm7.trans (same_new htp (.tup (zs.map V.str)))
    have htp8 : upd (upd H7 l (.lst (zs.map V.str))) tp (.tup (zs.map V.str)) tp = some (.tup (zs.map V.str)) := upd_same
    generalize upd (upd H7 l (.lst (zs.map V.str))) tp (.tup (zs.map V.str)) = H8 at sm8 htp8 ⊢
    have sm48 := sm6.trans sm8
    refine ⟨_, rfl, al, _, rfl, .inl ⟨SqL.of (sm48 _ _ hal4), fun ta hta => ?_⟩⟩
    have sm9 : Same H8 (upd H8 ta (.tup bvs)) := same_new hta _
    have hta9 : upd H8 ta (.tup bvs) ta = some (.tup bvs) := upd_same
    generalize upd H8 ta (.tup bvs) = H9 at sm9 hta9 ⊢
    refine ⟨(by show 2 ≤ sizeLine; decide), fun r hr' => ?_⟩
    have sm10 : Same H9 (upd H9 r (.tup [.ref tp, .ref ta])) := same_new hr' _
    have sm410 := sm48.trans (sm9.trans sm10)
    refine k r zs bts _ (hF4.same sm410) (ex4.trans (Ext.of sm410)) ⟨⟨r, tp, ta, bvs, rfl, upd_same, sm10 _ _ (sm9 _ _ htp8), sm10 _ _ hta9, AtomsAt.keep (Tups.of sm410) hA⟩, hb1, by omega, hg, ?_, fun z hz' => ?_⟩ (by omega)
    ·rw [← hzs]
     exact Nat.le_trans (List.length_filter_le _ _) h4
    ·rw [← hzs] at hz'
     exact hh z (List.mem_filter.mp hz').1
end
def spAgain (K : PySem.W.Frag) : Sp := fun vs H Q _ => ∃ (f fp vl : Addr) (v : V) (vws : List V) (xs : List View) (hzf hz : List Str) (us ats : List (Str × List Str)), vs = [.ref f, .ref fp, .ref vl, v] ∧ Feed K f H ∧ vl ≠ f ∧ H vl = some (.lst vws) ∧ VWs H vws xs ∧ (xs.map (·.1)).Nodup ∧ xs.length ≤ 12 ∧ QW H (.ref fp) hzf us ∧ QW H v hz ats ∧ ats.length ≤ 3 ∧ (∀ a ∈ ats, okA xs a = true) ∧
 ∀ H', Feed K f H' → Ext f H H' → Q (.bl true) H'
section
variable {P : Program} {w : World} {K : PySem.W.Frag} {mg : Str → Option Value} {base : Heap} {cV : Addr}
structure Dag (P : Program) (w : World) (K : PySem.W.Frag) (mg : Str → Option Value) (base : Heap) (cV : Addr) : Prop where
 l_draw : DefOk P w K mg base 1 "_law_draw" ["_law_feed_here", "_law_many"] (spDraw K)
 l_unknowns : DefOk P w K mg base 1 "_law_unknowns" ["_law_question_here"] spUnksQ
 l_called_so : DefOk P w K mg base 1 "_law_called_so" ["_law_some", "_law_old", "_law_new"] spCalled
 l_unfolded_right : DefOk P w K mg base 3 "_law_unfolded_right" ["_law_found", "_law_views_here", "_law_question_here"] spRight
 unfolded : DefOkE P w K mg base 7 "unfolded" ["views", "question"] (spUnf cV)
theorem sc_l_again : FnScope ["_law_feed_here", "_law_found", "_law_views_here", "_law_question_here", "_law_mine", "_law_some", "_law_new", "_law_old", "_law_head_here", "_law_other", "_law_turned", "_law_name", "_law_made", "_law_inner", "_law_given", "_law_asked"] ["_law_feed_here", "_law_found", "_law_views_here", "_law_question_here"] (defScope s_l_again) := ⟨rfl, rfl, rfl, by decide +kernel, rfl, by decide +kernel, by decide +kernel⟩
theorem ok_again {f : Addr} {fd : FuncData} (F : Fun K "_law_again" "_law_again" s_l_again f fd) (T : Txt K mg) (D : Dag P w K mg base cV) : FnOk P w K mg base CX0 8 f fd ["_law_feed_here", "_law_found", "_law_views_here", "_law_question_here"] (spAgain K) := by
 refine F.ok sc_l_again (fun vs H Q E h => ?_) (fun cdv A outer s H vs Q E hr h => ?_)
 ·obtain ⟨a, b, c, d, e, f1, g1, h1, i1, j1, rfl, _⟩ := h
  rfl
 obtain ⟨fe, fp, vl, v, vws, xs, hzf, hz, us, ats, rfl, hF, nvl, hvl, hV, ndx, hx12, hFQ, hQ, la3, hok, k⟩ := h
 have lvx : vws.length = xs.length := Paired.length hV
 refine ⟨_, (pss_cons (ps_set (i := 4) sc_l_again.nd rfl (Or.inr rfl) (cl D.l_unknowns hr (pa_cons (pv 3) pa_nil)))
   (pss_cons (ps_setCompIf (j := 5) sc_l_again.nd rfl rfl rfl (compSc_mk (fs := ["_law_mine"]) (fr := [4])) (pi_list (cl D.l_unknowns hr (pa_cons (pv 1) pa_nil))) (fun _ _ _ _ => (pt_cmpR (op_notIn_seqK (K := K)) (pv 0) (pv 1) (by with_unfolding_all rfl))) (fun _ _ _ _ => (pv 0)))
   (pss_cons (ps_if (PW.pt (pw_or (pt_cmpR (op_eqN hr.units0) (pv 5) (pe_lst pa_nil) (nomark _)) (pw_or1 (pt_cmpR (op_eqN hr.units0) (pv 4) (pe_lst pa_nil) (nomark _))))) (pss_one (ps_ret pe_bl)) pss_nil)
   (pss_cons (ps_set (i := 6) sc_l_again.nd rfl (Or.inr rfl) (pe_ix ix_list (pv 5) (cl D.l_draw hr (pa_cons (pv 0) (pa_cons (pe_callB call_len rfl T.n_len PySem.boot_len (pa_cons (pv 5) pa_nil)) pa_nil))) (fun _ _ => rfl)))
   (pss_cons (ps_set (i := 7) sc_l_again.nd rfl (Or.inr rfl) (pe_ix ix_list (pv 4) (cl D.l_draw hr (pa_cons (pv 0) (pa_cons (pe_callB call_len rfl T.n_len PySem.boot_len (pa_cons (pv 4) pa_nil)) pa_nil))) (fun _ _ => rfl)))
   (pss_cons (ps_set (i := 8) sc_l_again.nd rfl (Or.inl rfl) (pe_callTy call_tuple_of rfl T.n_tuple (by decide +kernel) (pa_cons (pe_comp rfl (compSc_mk (fs := ["_law_new", "_law_old"]) (fr := [6, 7])) (pi_tup (pe_ix ix_tup (pv 3) pe_int (fun _ _ => rfl))) (fun _ _ _ _ => (pe_ix (ix_listK (K := K)) (pe_lst (pa_cons (pv 0) (pa_cons (pv 1) pa_nil))) (pe_callTy call_int1 rfl T.n_int (by decide +kernel) (pa_cons (pe_cmpR op_eq (pv 0) (pv 2) (nomark _)) pa_nil)) (fun _ _ => rfl)))) pa_nil)))
   (pss_cons (ps_set (i := 9) sc_l_again.nd rfl (Or.inl rfl) (pe_tup (pa_cons (pv 8) (pa_cons (cl D.l_called_so hr (pa_cons (pe_ix ix_tup (pv 3) pe_int (fun _ _ => rfl)) (pa_cons (pv 7) (pa_cons (pv 6) pa_nil)))) pa_nil))))
   (pss_cons (ps_set (i := 10) sc_l_again.nd rfl (Or.inl rfl) (pe_lst pa_nil))
   (pss_cons (ps_for PassesOwn.never rfl (pi_list (pv 2)) (pg_tup rfl (pgs_cons (pg_name (i := 11) sc_l_again.nd rfl (Or.inl rfl)) (pgs_cons (pg_name (i := 12) sc_l_again.nd rfl (Or.inr rfl)) pgs_nil)))
   (pss_cons (ps_setCompIf (j := 13) sc_l_again.nd rfl rfl rfl (compSc_mk (fs := ["_law_made"]) (fr := [12])) (pi_list (cl D.l_unknowns hr (pa_cons (pv 12) pa_nil))) (fun _ _ _ _ => (pt_cmpR (op_notIn_seqK (K := K)) (pv 0) (pe_ix (ix_tupK (K := K)) (pv 1) pe_int (fun _ _ => rfl)) (by with_unfolding_all rfl))) (fun _ _ _ _ => (pv 0)))
   (pss_cons (ps_if (PW.pt (pw_and (pt_cmpR (op_neN hr.units0) (pv 13) (pe_lst pa_nil) (nomark _)) (pw_and1 (pt_cmpR op_notIn_seq (pv 6) (cl D.l_unknowns hr (pa_cons (pv 12) pa_nil)) (by with_unfolding_all rfl))))) (pss_one (ps_set (i := 12) sc_l_again.nd rfl (Or.inr rfl) (pe_tup (pa_cons (pe_ix ix_tup (pv 12) pe_int (fun _ _ => rfl)) (pa_cons (cl D.l_called_so hr (pa_cons (pe_ix ix_tup (pv 12) pe_int (fun _ _ => rfl)) (pa_cons (pe_ix ix_list (pv 13) (cl D.l_draw hr (pa_cons (pv 0) (pa_cons (pe_callB call_len rfl T.n_len PySem.boot_len (pa_cons (pv 13) pa_nil)) pa_nil))) (fun _ _ => rfl)) (pa_cons (pv 6) pa_nil)))) pa_nil))))) pss_nil)
   (pss_one (ps_expr (pe_bm PySem.F.plainAttrs_list PySem.F.slot_list_append PySem.F.type_list_append mt_append (pv 10) (pa_cons (pe_tup (pa_cons (pv 11) (pa_cons (pv 12) pa_nil))) pa_nil)))))))
   (pss_cons (ps_for PassesOwn.never rfl (pi_list (pe_lst (pa_cons (pv 2) (pa_cons (pv 10) pa_nil)))) (pg_name (i := 14) sc_l_again.nd rfl (Or.inl rfl))
   (pss_one (ps_for PassesOwn.never rfl (pi_list (pe_lst (pa_cons (pv 3) (pa_cons (pv 9) pa_nil)))) (pg_name (i := 15) sc_l_again.nd rfl (Or.inl rfl))
   (pss_one (ps_if (pt_not (pt_val (cl D.l_unfolded_right hr (pa_cons (clE D.unfolded hr lets_no (pa_cons (pe_callTy call_list_of rfl T.n_list (by decide +kernel) (pa_cons (pv 14) pa_nil)) (pa_cons (pv 15) pa_nil))) (pa_cons (pv 14) (pa_cons (pv 15) pa_nil)))))) (pss_one (ps_ret pe_bl)) pss_nil)))))
   (pss_one (ps_ret pe_bl)))))))))))), ?_⟩
 -- mine
 refine ⟨_, rfl, v, hz, ats, rfl, hQ, fun ml H1 sm1 nml0 hml => ?_⟩
 have nml : ml ≠ fe := hF.nef nml0
 have hF1 := hF.same sm1
 -- some
 refine ⟨_, rfl, .ref fp, hzf, us, rfl, hFQ.keep (Tups.of sm1), fun ul H2 sm2 nul0 hul => ?_⟩
 have sm12 := sm1.trans sm2
 have lun := len_unk (flatA us)
 have lus : (flatA us).length ≤ 800 := by
  have h1 := hFQ.good.len us.length
  rw [List.take_length] at h1
  have := hFQ.l8
  omega
 refine ⟨ul, rfl, ⟨_, SqL.of hul⟩, comp_list (K := K) (a := ul) (xs := (unkL (flatA us)).map V.str) (fun i ys H3 => H3 = H2 ∧ i ≤ (unkL (flatA us)).length ∧ ys = (((unkL (flatA us)).take i).filter fun z => !decide (z ∈ unkL (flatA ats))).map V.str) (by rw [List.length_map]; exact small1000 (by omega)) ⟨rfl, Nat.zero_le _, rfl⟩ ?_ ?_ ?_⟩
 ·rintro i ys H3 hi ⟨rfl, _, rfl⟩
  refine ⟨SqL.of hul, ?_⟩
  rw [List.length_map]
  refine Nat.le_trans (List.length_filter_le _ _) ?_
  rw [List.length_take]
  omega
 ·rintro i y ys H3 N hc ⟨rfl, hi, rfl⟩ hN
  obtain ⟨z, hz', rfl⟩ := at_strs hc
  have hlt : i < (unkL (flatA us)).length := (List.getElem?_eq_some_iff.mp hz').1
  refine ⟨_, rfl, _, rfl, ml, _, rfl, .inl (SqL.of (sm2 _ _ hml)), rfl, flat_V _, _, rfl, ?_⟩
  show if (!inV (.str z) ((unkL (flatA ats)).map V.str)) = true then _ else _
  rw [inV_str]
  refine ite2 (fun c1 => ?_) (fun c1 => ?_)
  ·refine ⟨_, rfl, hN _ _ ⟨rfl, hlt, ?_⟩⟩
   rw [filter_take hz', if_pos c1, List.map_append]
   rfl
  ·refine hN _ _ ⟨rfl, hlt, ?_⟩
   rw [filter_take hz', if_neg c1, List.append_nil]
 ·rintro ys H3 ⟨rfl, _, rfl⟩ sl hsl0
  rw [List.length_map, List.take_length]
  have hso : ∀ z ∈ ((unkL (flatA us)).filter fun z => !decide (z ∈ unkL (flatA ats))), isUnk z = true ∧ TermOk z := fun z hz' => by
   have := mem_unkL.mp (List.mem_filter.mp hz').1
   exact ⟨this.2, hFQ.good.flat this.1⟩
  have lso : ((unkL (flatA us)).filter fun z => !decide (z ∈ unkL (flatA ats))).length ≤ 800 := Nat.le_trans (List.length_filter_le _ _) (by omega)
  generalize ((unkL (flatA us)).filter fun z => !decide (z ∈ unkL (flatA ats))) = so at hso lso ⊢
  have sm3 : Same H3 (upd H3 sl (.lst (so.map V.str))) := same_new hsl0 _
  have hsl : upd H3 sl (.lst (so.map V.str)) sl = some (.lst (so.map V.str)) := upd_same
  have nsl : sl ≠ fe := (hF.same sm12).nef hsl0
  generalize upd H3 sl (.lst (so.map V.str)) = H4 at sm3 hsl ⊢
  have sm4 := sm12.trans sm3
  have hml4 := sm3 _ _ (sm2 _ _ hml)
  generalize hmi : unkL (flatA ats) = mi at hml4
  have hmiT : ∀ z ∈ mi, TermOk z := fun z h => by
   rw [← hmi] at h
   exact hQ.good.flat (mem_unkL.mp h).1
  have lmi : mi.length ≤ 800 := by
   rw [← hmi]
   have h1 := len_unk (flatA ats)
   have h2 := hQ.good.len ats.length
   rw [List.take_length] at h2
   omega
  have lsm : (so.map V.str).length = so.length := List.length_map _
  have lmm : (mi.map V.str).length = mi.length := List.length_map _
  -- if some == [] or mine == []
  refine ⟨_, rfl, (by show 0 ≤ sizeLine; decide), fun e0 he0 => ?_⟩
  have sm5 : Same H4 (upd H4 e0 (.lst [])) := same_new he0 _
  have he0' : upd H4 e0 (.lst []) e0 = some (.lst []) := upd_same
  generalize upd H4 e0 (.lst []) = H5 at sm5 he0' ⊢
  have sm05 := sm4.trans sm5
  refine ⟨sl, e0, _, rfl, rfl, SqL.of (sm5 _ _ hsl), SqL.of he0', _, rfl, ?_⟩
  refine ite2 (fun c1 => ?_) (fun c1 => ?_)
  ·exact iteT (k H5 (hF.same sm05) (Ext.of sm05))
  refine ⟨_, rfl, (by show 0 ≤ sizeLine; decide), fun e1 he1 => ?_⟩
  have sm6 : Same H5 (upd H5 e1 (.lst [])) := same_new he1 _
  have he1' : upd H5 e1 (.lst []) e1 = some (.lst []) := upd_same
  generalize upd H5 e1 (.lst []) = H6 at sm6 he1' ⊢
  have sm06 := sm05.trans sm6
  refine ⟨ml, e1, _, rfl, rfl, SqL.of (sm6 _ _ (sm5 _ _ hml4)), SqL.of he1', _, rfl, ?_⟩
  refine ite2 (fun c2 => ?_) (fun c2 => ?_)
  ·exact k H6 (hF.same sm06) (Ext.of sm06)
  have ls1 : 1 ≤ so.length := by
   cases so with
   | nil => exact absurd rfl c1
   | cons _ _ => exact Nat.succ_le_succ (Nat.zero_le _)
  have lm1 : 1 ≤ mi.length := by
   cases mi with
   | nil => exact absurd rfl c2
   | cons _ _ => exact Nat.succ_le_succ (Nat.zero_le _)
  have hF6 := hF.same sm06
  have hsl6 := sm6 _ _ (sm5 _ _ hsl)
  have hml6 := sm6 _ _ (sm5 _ _ hml4)
  -- new
  refine ⟨_, rfl, _, rfl, _, rfl, _, _, rfl, .inl ⟨_, SqL.of hsl6, rfl⟩, fe, _, rfl, hF6, by omega, by omega, fun i7 H7 a0 a1 hF7 ex7 => ?_⟩
  obtain ⟨new, hnew, enew⟩ := pick_str (zs := so) a0 (by omega)
  obtain ⟨hnU, hnT⟩ := hso new hnew
  refine ⟨_, _, _, _, rfl, rfl, SqL.of (ex7 _ _ nsl hsl6), enew, ?_⟩
  have hml7 := ex7 _ _ nml hml6
  -- old
  refine ⟨_, rfl, _, rfl, _, rfl, _, _, rfl, .inl ⟨_, SqL.of hml7, rfl⟩, fe, _, rfl, hF7, by omega, by omega, fun i8 H8 b0 b1 hF8 ex8 => ?_⟩
  obtain ⟨old, hold, eold⟩ := pick_str (zs := mi) b0 (by omega)
  refine ⟨_, _, _, _, rfl, rfl, SqL.of (ex8 _ _ nml hml7), eold, ?_⟩
  have ex08 : Ext fe H H8 := ((Ext.of sm06).trans ex7).trans ex8
  have tu8 := hF.tups ex08
  have hQ8 := hQ.keep tu8
  obtain ⟨⟨q, hd, aa, avs, e, hq, hhd, haa, hats⟩, l1, l8, good, h4, hh⟩ := hQ8
  subst e
  have la : avs.length = ats.length := Paired.length hats
  -- head
  refine ⟨_, rfl, _, _, _, _, rfl, rfl, SqT.of hq, rfl, hd, rfl, ⟨_, SqT.of hhd⟩, comp_tup (K := K) (a := hd) (xs := hz.map V.str) (fun j zs H9 => Same H8 H9 ∧ j ≤ hz.length ∧ zs = ((hz.take j).map (renS old new)).map V.str) (by rw [List.length_map]; exact small1000 (by omega)) ⟨Same.refl _, Nat.zero_le _, rfl⟩ ?_ ?_ ?_⟩
  ·rintro j zs H9 hj ⟨sm9, _, rfl⟩
   refine ⟨SqT.of (sm9 _ _ hhd), ?_⟩
   rw [List.length_map, List.length_map, List.length_take]
   omega
  ·rintro j y zs H9 N2 hc2 ⟨sm9, hj, rfl⟩ hN2
   obtain ⟨z, hz', rfl⟩ := at_strs hc2
   have hjl : j < hz.length := (List.getElem?_eq_some_iff.mp hz').1
   refine rd_true ?_
   refine ⟨_, rfl, _, rfl, (by show 2 ≤ sizeLine; decide), fun l hl => ?_⟩
   refine ⟨_, rfl, _, rfl, rfl, .inr ⟨_, rfl, ?_⟩⟩
   refine ⟨_, _, _, _, rfl, rfl, SqL.of upd_same, ren_at, hN2 _ _ ⟨sm9.trans (same_new hl _), hjl, ?_⟩⟩
   rw [List.take_add_one, hz', List.map_append, List.map_append]
   rfl
  ·rintro zs H9 ⟨sm9, _, rfl⟩ l hl
   rw [List.length_map, List.take_length]
   have sm10 : Same H9 (upd H9 l (.lst ((hz.map (renS old new)).map V.str))) := same_new hl _
   refine ⟨l, _, rfl, .inl ⟨SqL.of upd_same, fun ht hht => ?_⟩⟩
   have sm11 := (sm9.trans sm10).trans (same_new hht (.tup ((hz.map (renS old new)).map V.str)))
   have hht11 : upd (upd H9 l (.lst ((hz.map (renS old new)).map V.str))) ht (.tup ((hz.map (renS old new)).map V.str)) ht = some (.tup ((hz.map (renS old new)).map V.str)) := upd_same
   generalize upd (upd H9 l (.lst ((hz.map (renS old new)).map V.str))) ht (.tup ((hz.map (renS old new)).map V.str)) = H11 at sm11 hht11 ⊢
   -- other
   refine ⟨_, rfl, _, rfl, _, _, _, _, rfl, rfl, SqT.of (sm11 _ _ hq), rfl, _, rfl, _, rfl, aa, avs, ats, old, new, rfl, sm11 _ _ haa, AtomsAt.keep (Tups.of sm11) hats, by omega, fun a ha => (good a ha).2.2.1, fun ra rvs H12 sm12' hra hrats => ?_⟩
   refine ⟨(by show 2 ≤ sizeLine; decide), fun oq hoq => ?_⟩
   have sm13 : Same H12 (upd H12 oq (.tup [.ref ht, .ref ra])) := same_new hoq _
   have hoq13 : upd H12 oq (.tup [.ref ht, .ref ra]) oq = some (.tup [.ref ht, .ref ra]) := upd_same
   generalize upd H12 oq (.tup [.ref ht, .ref ra]) = H13 at sm13 hoq13 ⊢
   have sm813 := sm11.trans (sm12'.trans sm13)
   have hO : QW H13 (.ref oq) (hz.map (renS old new)) (renA old new ats) := ⟨⟨oq, ht, ra, rvs, rfl, hoq13, sm13 _ _ (sm12' _ _ hht11), sm13 _ _ hra, AtomsAt.keep (Tups.of sm13) hrats⟩, by rw [ren_len]; exact l1, by rw [ren_len]; exact l8, ren_good hnT good, by rw [List.length_map]; exact h4, fun z hz' => by
    obtain ⟨y, hy, rfl⟩ := List.mem_map.mp hz'
    exact ren_T hnT (hh y hy)⟩
   have hQ13 := hQ.keep (tu8.trans (Tups.of sm813))
   have ex013 := ex08.trans (Ext.of sm813)
   have hF13 := hF8.same sm813
   -- turned = []
   refine ⟨(by show 0 ≤ sizeLine; decide), fun tl htl0 => ?_⟩
   have ntl := hF13.nef htl0
   have hF14 := hF13.new htl0 (.lst [])
   have ex14 : Ext fe H13 (upd H13 tl (.lst [])) := (Ext.refl fe H13).new htl0 _
   have htl14 : upd H13 tl (.lst []) tl = some (.lst []) := upd_same
   have hvl13 := ex013 _ _ nvl hvl
   have nvt : vl ≠ tl := ne_of_none hvl13 htl0
   generalize upd H13 tl (.lst []) = H14 at hF14 ex14 htl14 ⊢
   refine ⟨_, rfl, vl, rfl, ⟨_, SqL.of (ex14 _ _ nvl hvl13)⟩, for_list (K := K) (a := vl) (xs := vws)
    (fun i σ H15 => ∃ (y11 y12 y13 y14 y15 : Option V) (tvs : List V) (ys : List View), σ = [some (.ref fe), some (.ref fp), some (.ref vl), some (.ref q), some (.ref ml), some (.ref sl), some (.str new), some (.str old), some (.ref ht), some (.ref oq), some (.ref tl), y11, y12, y13, y14, y15] ∧ Feed K fe H15 ∧ Ext fe H13 H15 ∧ H15 tl = some (.lst tvs) ∧ VWs H15 tvs ys ∧ Alike (xs.take i) ys)
    ⟨none, none, none, none, none, [], [], rfl, hF14, ex14, htl14, .nil, .nil⟩ (fun i σ H15 _ ⟨_, _, _, _, _, _, _, _, _, ex, _⟩ => SqL.of (ex _ _ nvl hvl13)) ?_ ?_⟩
   ·rintro i xv σ H15 hx ⟨y11, y12, y13, y14, y15, tvs, ys', rfl, hF15, ex15, htl15, hVt, hal⟩
    obtain ⟨x, hxx, vp, qv, rfl, hvp, hVQ, hnm⟩ := Paired.at hV hx
    have hi : i < xs.length := (List.getElem?_eq_some_iff.mp hxx).1
    have ex015 := ex013.trans ex15
    have tu15 := hF.tups ex015
    have hvp15 := tu15 _ _ hvp
    have hVQ15 := hVQ.keep tu15
    have hq0 := hVQ15.q
    obtain ⟨⟨q2, hd2, aa2, avs2, e2, hq2, hhd2, haa2, hats2⟩, l12, l82, good2, h42, hh2⟩ := hVQ15.q
    subst e2
    refine ⟨vp, _, rfl, SqT.of hvp15, rfl, _, _, rfl, _, _, rfl, rfl, ?_⟩
    -- inner
    refine ⟨_, rfl, .ref q2, x.2.1, x.2.2, rfl, hq0, fun u2 H16 sm16 nu2 hu2 => ?_⟩
    have lu2 := len_unk (flatA x.2.2)
    have lf2 : (flatA x.2.2).length ≤ 32 := by
     have h1 := good2.len x.2.2.length
     rw [List.take_length] at h1
     have := hVQ15.l8
     omega
    refine ⟨u2, rfl, ⟨_, SqL.of hu2⟩, comp_list (K := K) (a := u2) (xs := (unkL (flatA x.2.2)).map V.str) (fun i ys H17 => H17 = H16 ∧ i ≤ (unkL (flatA x.2.2)).length ∧ ys = (((unkL (flatA x.2.2)).take i).filter fun z => !decide (z ∈ x.2.1)).map V.str) (by rw [List.length_map]; exact small1000 (by omega)) ⟨rfl, Nat.zero_le _, rfl⟩ ?_ ?_ ?_⟩
    ·rintro i ys H17 hi ⟨rfl, _, rfl⟩
     refine ⟨SqL.of hu2, ?_⟩
     rw [List.length_map]
     refine Nat.le_trans (List.length_filter_le _ _) ?_
     rw [List.length_take]
     omega
    ·rintro i y ys H17 N hc ⟨rfl, hi, rfl⟩ hN
     obtain ⟨z, hz', rfl⟩ := at_strs hc
     have hlt : i < (unkL (flatA x.2.2)).length := (List.getElem?_eq_some_iff.mp hz').1
     refine ⟨_, rfl, _, rfl, _, _, _, _, rfl, rfl, SqT.of (sm16 _ _ hq2), rfl, hd2, _, rfl, .inr (SqT.of (sm16 _ _ hhd2)), rfl, flat_V _, _, rfl, ?_⟩
     show if (!inV (.str z) (x.2.1.map V.str)) = true then _ else _
     rw [inV_str]
     refine ite2 (fun c1 => ?_) (fun c1 => ?_)
     ·refine ⟨_, rfl, hN _ _ ⟨rfl, hlt, ?_⟩⟩
      rw [filter_take hz', if_pos c1, List.map_append]
      rfl
     ·refine hN _ _ ⟨rfl, hlt, ?_⟩
      rw [filter_take hz', if_neg c1, List.append_nil]
    ·rintro ys H17 ⟨rfl, _, rfl⟩ il hil0
     rw [List.length_map, List.take_length]
     show _
     have hin : ∀ z ∈ innerL x.2.1 x.2.2, z ∉ x.2.1 := fun z h => (mem_inner.mp h).2.2
     have li : (innerL x.2.1 x.2.2).length ≤ 32 := hVQ15.inner
     have sm17 : Same H17 (upd H17 il (.lst ((innerL x.2.1 x.2.2).map V.str))) := same_new hil0 _
     have hil : upd H17 il (.lst ((innerL x.2.1 x.2.2).map V.str)) il = some (.lst ((innerL x.2.1 x.2.2).map V.str)) := upd_same
     have nil : il ≠ fe := (hF15.same sm16).nef hil0
     unfold innerL at sm17 hil
     generalize upd H17 il (.lst (((unkL (flatA x.2.2)).filter fun z => !decide (z ∈ x.2.1)).map V.str)) = H18 at sm17 hil ⊢
     have hil : H18 il = some (.lst ((innerL x.2.1 x.2.2).map V.str)) := hil
     have sm1518 := sm16.trans sm17
     have hF18 := hF15.same sm1518
     have htl18 := sm1518 _ _ htl15
     have lim : ((innerL x.2.1 x.2.2).map V.str).length = (innerL x.2.1 x.2.2).length := List.length_map _
     -- what is appended
     have app : ∀ {H19 : Hp} {mv : V} {hs' : List Str} {ats' : List (Str × List Str)} (z13 : Option V), Feed K fe H19 → Ext fe H18 H19 → VQ H19 mv hs' ats' → hs'.length = x.2.1.length → ∀ p, H19 p = none → ∃ (w11 w12 w13 w14 w15 : Option V) (tvs' : List V) (ys'' : List View), [some (V.ref fe), some (.ref fp), some (.ref vl), some (.ref q), some (.ref ml), some (.ref sl), some (.str new), some (.str old), some (.ref ht), some (.ref oq), some (.ref tl), some (.str x.1), some mv, z13, y14, y15] = [some (.ref fe), some (.ref fp), some (.ref vl), some (.ref q), some (.ref ml), some (.ref sl), some (.str new), some (.str old), some (.ref ht), some (.ref oq), some (.ref tl), w11, w12, w13, w14, w15] ∧ Feed K fe (upd (upd H19 p (.tup [.str x.1, mv])) tl (.lst (tvs ++ [.ref p]))) ∧ Ext fe H13 (upd (upd H19 p (.tup [.str x.1, mv])) tl (.lst (tvs ++ [.ref p]))) ∧ upd (upd H19 p (.tup [.str x.1, mv])) tl (.lst (tvs ++ [.ref p])) tl = some (.lst tvs') ∧ VWs (upd (upd H19 p (.tup [.str x.1, mv])) tl (.lst (tvs ++ [.ref p]))) tvs' ys'' ∧ Alike (xs.take (i + 1)) ys'' := fun {H19 mv hs' ats'} z13 hF19 ex19 hVQ19 hl19 p hp => by
      have ex20 : Ext fe H19 (upd H19 p (.tup [.str x.1, mv])) := (Ext.refl fe H19).new hp _
      have hF20 := hF19.new hp (.tup [.str x.1, mv])
      have hp20 : upd H19 p (.tup [.str x.1, mv]) p = some (.tup [.str x.1, mv]) := upd_same
      generalize upd H19 p (.tup [.str x.1, mv]) = H20 at ex20 hF20 hp20 ⊢
      have htl20 := ex20 _ _ ntl (ex19 _ _ ntl htl18)
      have tul : Tups H20 (upd H20 tl (.lst (tvs ++ [.ref p]))) := (Tups.refl H20).lst htl20 _
      have ex1520 : Ext fe H15 H20 := ((Ext.of sm1518).trans ex19).trans ex20
      refine ⟨_, _, _, _, _, tvs ++ [.ref p], ys' ++ [(x.1, hs', ats')], rfl, hF20.lst htl20 ntl _, ?_, upd_same, ?_, ?_⟩
      ·exact (ex15.trans ex1520).own htl0 _
      ·exact Paired.snoc' (VWs.keep ((hF15.tups ex1520).trans tul) hVt) ⟨p, mv, rfl, tul _ _ hp20, hVQ19.keep ((hF19.tups ex20).trans tul), hnm⟩
      ·rw [List.take_add_one, hxx]
       exact Paired.snoc' hal ⟨rfl, hl19.symm⟩
     -- if inner != [] and new not in unknowns(made)
     refine ⟨_, rfl, (by show 0 ≤ sizeLine; decide), fun e2 he2 => ?_⟩
     have sm19 : Same H18 (upd H18 e2 (.lst [])) := same_new he2 _
     have he2' : upd H18 e2 (.lst []) e2 = some (.lst []) := upd_same
     generalize upd H18 e2 (.lst []) = H19 at sm19 he2' ⊢
     have hil19 := sm19 _ _ hil
     refine ⟨il, e2, _, rfl, rfl, SqL.of hil19, SqL.of he2', _, rfl, ?_⟩
     have sm1519 := sm1518.trans sm19
     refine ite2 (fun c3 => ?_) (fun c3 => ?_)
     ·refine ⟨_, rfl, _, rfl, .ref q2, x.2.1, x.2.2, rfl, hq0.keep (Tups.of sm1519), fun u3 H20 sm20 nu3 hu3 => ?_⟩
      refine ⟨u3, _, rfl, .inl (SqL.of hu3), rfl, flat_V _, _, rfl, ?_⟩
      show if (!inV (.str new) ((unkL (flatA x.2.2)).map V.str)) = true then _ else _
      rw [inV_str]
      have sm1820 := sm19.trans sm20
      have sm1520 := sm1518.trans sm1820
      have hF20 := hF18.same sm1820
      refine ite2 (fun c4 => ?_) (fun c4 => ?_)
      ·have c4 : new ∉ unkL (flatA x.2.2) := by simpa using c4
       have li1 : 1 ≤ (innerL x.2.1 x.2.2).length := by
        cases e : innerL x.2.1 x.2.2 with
        | nil =>
         rw [e] at c3
         exact absurd c3 (by decide)
        | cons _ _ => exact Nat.succ_le_succ (Nat.zero_le _)
       have hil20 := sm1820 _ _ hil
       -- made = (made[0], called_so(made[1], inner[draw], new))
       refine ⟨_, rfl, _, _, _, _, rfl, rfl, SqT.of (sm1520 _ _ hq2), rfl, _, rfl, _, _, _, _, rfl, rfl, SqT.of (sm1520 _ _ hq2), rfl, _, rfl, _, rfl, _, rfl, _, _, rfl, .inl ⟨_, SqL.of hil20, rfl⟩, fe, _, rfl, hF20, by omega, by omega, fun i21 H21 d0 d1 hF21 ex21 => ?_⟩
       obtain ⟨iu, hiu, eiu⟩ := pick_str (zs := innerL x.2.1 x.2.2) d0 (by omega)
       refine ⟨_, _, _, _, rfl, rfl, SqL.of (ex21 _ _ nil hil20), eiu, ?_⟩
       have tu1521 : Tups H15 H21 := (Tups.of sm1520).trans (hF20.tups ex21)
       refine ⟨_, rfl, aa2, avs2, x.2.2, iu, new, rfl, tu1521 _ _ haa2, AtomsAt.keep tu1521 hats2, by omega, fun a ha => (good2 a ha).2.2.1, fun ra2 rvs2 H22 sm22 hra2 hrats2 => ?_⟩
       refine ⟨(by show 2 ≤ sizeLine; decide), fun mp hmp => ?_⟩
       have sm23 : Same H22 (upd H22 mp (.tup [.ref hd2, .ref ra2])) := same_new hmp _
       have hmp23 : upd H22 mp (.tup [.ref hd2, .ref ra2]) mp = some (.tup [.ref hd2, .ref ra2]) := upd_same
       generalize upd H22 mp (.tup [.ref hd2, .ref ra2]) = H23 at sm23 hmp23 ⊢
       have tu1523 := tu1521.trans (Tups.of (sm22.trans sm23))
       have ex1823 : Ext fe H18 H23 := ((Ext.of sm1820).trans ex21).trans (Ext.of (sm22.trans sm23))
       have hF23 := hF21.same (sm22.trans sm23)
       have niu := hin iu hiu
       have hVQ23 : VQ H23 (.ref mp) x.2.1 (renA iu new x.2.2) := ⟨⟨⟨mp, hd2, ra2, rvs2, rfl, hmp23, tu1523 _ _ hhd2, sm23 _ _ hra2, AtomsAt.keep (Tups.of sm23) hrats2⟩, by rw [ren_len]; exact l12, by rw [ren_len]; exact l82, ren_good hnT good2, h42, hh2⟩, by rw [ren_len]; exact hVQ15.l8, hVQ15.nd, hVQ15.l1, fun z hz' => ⟨ren_mem (hVQ15.hu z hz').1 (fun e => niu (e ▸ hz')), (hVQ15.hu z hz').2⟩⟩
       have htl23 := ex1823 _ _ ntl htl18
       refine ⟨_, rfl, .inl ⟨rfl, _, SqL.of htl23⟩, _, rfl, _, rfl, (by show 2 ≤ sizeLine; decide), fun p hp => ?_⟩
       have htl24 : upd H23 p (.tup [.str x.1, .ref mp]) tl = some (.lst tvs) := by rw [upd_ne (ne_of_none htl23 hp)]; exact htl23
       have ltv : tvs.length ≤ 100 := by
        have h1 : tvs.length = ys'.length := Paired.length hVt
        have h2 : (xs.take i).length = ys'.length := Paired.length hal
        rw [List.length_take] at h2
        omega
       exact ⟨_, _, _, rfl, rfl, htl24, small1000 (by omega), app _ hF23 ex1823 hVQ23 rfl p hp⟩
      ·have htl20 := sm1820 _ _ htl18
       refine ⟨_, rfl, .inl ⟨rfl, _, SqL.of htl20⟩, _, rfl, _, rfl, (by show 2 ≤ sizeLine; decide), fun p hp => ?_⟩
       have htl24 : upd H20 p (.tup [.str x.1, .ref q2]) tl = some (.lst tvs) := by rw [upd_ne (ne_of_none htl20 hp)]; exact htl20
       have ltv : tvs.length ≤ 100 := by
        have h1 : tvs.length = ys'.length := Paired.length hVt
        have h2 : (xs.take i).length = ys'.length := Paired.length hal
        rw [List.length_take] at h2
        omega
       exact ⟨_, _, _, rfl, rfl, htl24, small1000 (by omega), app _ hF20 (Ext.of sm1820) (hVQ15.keep (Tups.of sm1520)) rfl p hp⟩
     ·refine iteF ?_
      have htl19 := sm19 _ _ htl18
      refine ⟨_, rfl, .inl ⟨rfl, _, SqL.of htl19⟩, _, rfl, _, rfl, (by show 2 ≤ sizeLine; decide), fun p hp => ?_⟩
      have htl24 : upd H19 p (.tup [.str x.1, .ref q2]) tl = some (.lst tvs) := by rw [upd_ne (ne_of_none htl19 hp)]; exact htl19
      have ltv : tvs.length ≤ 100 := by
       have h1 : tvs.length = ys'.length := Paired.length hVt
       have h2 : (xs.take i).length = ys'.length := Paired.length hal
       rw [List.length_take] at h2
       omega
      exact ⟨_, _, _, rfl, rfl, htl24, small1000 (by omega), app _ (hF18.same sm19) (Ext.of sm19) (hVQ15.keep (Tups.of sm1519)) rfl p hp⟩
   ·rintro σ H15 ⟨y11, y12, y13, y14, y15, tvs, ys', rfl, hF15, ex15, htl15, hVt, hal⟩
    rw [lvx, List.take_length] at hal
    have ex015 := ex013.trans ex15
    have tu15 := hF.tups ex015
    have hvl15 := ex15 _ _ nvl hvl13
    have hV15 := VWs.keep tu15 hV
    have hQ15 := hQ.keep tu15
    have hO15 := hO.keep (hF13.tups ex15)
    refine ⟨_, rfl, _, rfl, (by show 2 ≤ sizeLine; decide), fun gl hgl => ?_⟩
    have sm16 : Same H15 (upd H15 gl (.lst [.ref vl, .ref tl])) := same_new hgl _
    have hgl16 : upd H15 gl (.lst [.ref vl, .ref tl]) gl = some (.lst [.ref vl, .ref tl]) := upd_same
    generalize upd H15 gl (.lst [.ref vl, .ref tl]) = H16 at sm16 hgl16 ⊢
    refine ⟨gl, rfl, ⟨_, SqL.of hgl16⟩, for_list (K := K) (a := gl) (xs := [.ref vl, .ref tl])
     (fun i σ H17 => ∃ (w11 w12 w13 w14 w15 : Option V), σ = [some (.ref fe), some (.ref fp), some (.ref vl), some (.ref q), some (.ref ml), some (.ref sl), some (.str new), some (.str old), some (.ref ht), some (.ref oq), some (.ref tl), w11, w12, w13, w14, w15] ∧ Same H16 H17) ⟨_, _, _, _, _, rfl, Same.refl _⟩ (fun i σ H17 _ ⟨_, _, _, _, _, _, sm⟩ => SqL.of (sm _ _ hgl16)) ?_ ?_⟩
    ·rintro i gv σ H17 hgv ⟨w11, w12, w13, w14, w15, rfl, sm17⟩
     have sm1517 := sm16.trans sm17
     have hg : ∃ (ga : Addr) (gvs : List V) (ys : List View), gv = .ref ga ∧ H17 ga = some (.lst gvs) ∧ VWs H17 gvs ys ∧ Alike xs ys := by
      have him := List.mem_of_getElem? hgv
      rcases List.mem_cons.mp him with rfl | him
      ·exact ⟨vl, vws, xs, rfl, sm1517 _ _ hvl15, VWs.keep (Tups.of sm1517) hV15, Alike.refl xs⟩
      ·rw [List.mem_singleton.mp him]
       exact ⟨tl, tvs, ys', rfl, sm1517 _ _ htl15, VWs.keep (Tups.of sm1517) hVt, hal⟩
     obtain ⟨ga, gvs, ys, rfl, hga, hVg, hag⟩ := hg
     have ndy : (ys.map (·.1)).Nodup := by
      rw [hag.names]
      exact ndx
     refine ⟨_, rfl, _, rfl, (by show 2 ≤ sizeLine; decide), fun al hal0 => ?_⟩
     have sm18 : Same H17 (upd H17 al (.lst [.ref q, .ref oq])) := same_new hal0 _
     have hal18 : upd H17 al (.lst [.ref q, .ref oq]) al = some (.lst [.ref q, .ref oq]) := upd_same
     generalize upd H17 al (.lst [.ref q, .ref oq]) = H18 at sm18 hal18 ⊢
     refine ⟨al, rfl, ⟨_, SqL.of hal18⟩, for_list (K := K) (a := al) (xs := [.ref q, .ref oq])
      (fun j σ H19 => ∃ (w15 : Option V), σ = [some (.ref fe), some (.ref fp), some (.ref vl), some (.ref q), some (.ref ml), some (.ref sl), some (.str new), some (.str old), some (.ref ht), some (.ref oq), some (.ref tl), w11, w12, w13, some (.ref ga), w15] ∧ Same H18 H19) ⟨_, rfl, Same.refl _⟩ (fun j σ H19 _ ⟨_, _, sm⟩ => SqL.of (sm _ _ hal18)) ?_ ?_⟩
     ·rintro j av σ H19 hav ⟨v15, rfl, sm19⟩
      have sm1719 := sm18.trans sm19
      have sm1519 := sm1517.trans sm1719
      have ha : ∃ (hz' : List Str) (ats' : List (Str × List Str)), QW H19 av hz' ats' ∧ ats'.length ≤ 6 ∧ ∀ a ∈ ats', okA ys a = true := by
       have him := List.mem_of_getElem? hav
       rcases List.mem_cons.mp him with rfl | him
       ·exact ⟨hz, ats, hQ15.keep (Tups.of sm1519), by omega, fun a ha => okA_alike hag rfl rfl (hok a ha)⟩
       ·rw [List.mem_singleton.mp him]
        refine ⟨_, _, hO15.keep (Tups.of sm1519), by rw [ren_len]; omega, fun b hb => ?_⟩
        obtain ⟨a, ha, rfl⟩ := List.mem_map.mp hb
        exact okA_alike (a := a) (b := (a.1, a.2.map (renS old new))) hag rfl (List.length_map _).symm (hok a ha)
      obtain ⟨hz', ats', hQa, l6, hoka⟩ := ha
      have hga19 := sm1719 _ _ hga
      have hV19 := VWs.keep (Tups.of sm1719) hVg
      refine ⟨_, rfl, ga, _, rfl, .inl (SqL.of hga19), fun cl hcl => ?_⟩
      have sm20 : Same H19 (upd H19 cl (.lst gvs)) := same_new hcl _
      have hcl20 : upd H19 cl (.lst gvs) cl = some (.lst gvs) := upd_same
      generalize upd H19 cl (.lst gvs) = H20 at sm20 hcl20 ⊢
      refine ⟨_, rfl, ys, cl, gvs, av, hz', ats', rfl, hcl20, VWs.keep (Tups.of sm20) hV19, ndy, hQa.keep (Tups.of sm20), l6, ?_⟩
      rw [none_place hoka]
      intro r us' H21 sm21 hQr hUr
      have sm1921 := sm20.trans sm21
      refine ⟨_, rfl, _, rfl, ys, r, ga, av, gvs, hz', ats', us', rfl, hQr, sm1921 _ _ hga19, VWs.keep (Tups.of sm1921) hV19, ndy, hQa.keep (Tups.of sm1921), l6, hUr, fun H22 sm22 => ⟨_, rfl, iteF ?_⟩⟩
      exact ⟨_, rfl, sm19.trans (sm1921.trans sm22)⟩
     ·rintro σ H19 ⟨v15, rfl, sm19⟩
      exact ⟨_, _, _, _, _, rfl, sm17.trans (sm18.trans sm19)⟩
    ·rintro σ H17 ⟨w11, w12, w13, w14, w15, rfl, sm17⟩
     exact k H17 (hF15.same (sm16.trans sm17)) (ex015.trans (Ext.of (sm16.trans sm17)))
end
def dA (a : Str × List Str) : PyData := .tuple [.str a.1, .tuple (a.2.map PyData.str)]
def dV (x : View) : PyData := .tuple [.str x.1, .tuple [.tuple (x.2.1.map PyData.str), .tuple (x.2.2.map dA)]]
theorem lay_dA {a : Str × List Str} (h1 : PyData.strOk a.1 = true) (h2 : ∀ z ∈ a.2, PyData.strOk z = true) : (dA a).canLay0 = true := by
 unfold dA
 simp [PyData.canLay0, PyData.canLayAll0, h1, lay_strs a.2 h2]
theorem lay_dAs : ∀ {ats : List (Str × List Str)}, (∀ a ∈ ats, PyData.strOk a.1 = true ∧ ∀ z ∈ a.2, PyData.strOk z = true) → PyData.canLayAll0 (ats.map dA) = true
 | [], _ => rfl
 | a :: r, h => by
  have h1 := lay_dA (h a List.mem_cons_self).1 (h a List.mem_cons_self).2
  have h2 := lay_dAs (ats := r) fun b hb => h b (List.mem_cons_of_mem _ hb)
  simp [PyData.canLayAll0, h1, h2]
theorem depth_dA (a : Str × List Str) : (dA a).depth ≤ 10 := by
 unfold dA
 simp [PyData.depth, PyData.depthAll, depth_strs]
theorem depth_dAs : ∀ ats : List (Str × List Str), PyData.depthAll (ats.map dA) ≤ 10
 | [] => by simp [PyData.depthAll]
 | a :: r => by
  have h1 := depth_dA a
  have h2 := depth_dAs r
  rw [List.map_cons, PyData.depthAll]
  omega
theorem depth_dV (x : View) : (dV x).depth ≤ 20 := by
 have h := depth_dAs x.2.2
 unfold dV
 simp [PyData.depth, PyData.depthAll, depth_strs]
 omega
theorem depth_dVs : ∀ xs : List View, PyData.depthAll (xs.map dV) ≤ 20
 | [] => by simp [PyData.depthAll]
 | a :: r => by
  have h1 := depth_dV a
  have h2 := depth_dVs r
  rw [List.map_cons, PyData.depthAll]
  omega
theorem dt_atom {K : PySem.W.Frag} {H : Hp} {v : V} {a : Str × List Str} (h : AtomAt H v a) : Dt K H (dA a) v := by
 obtain ⟨p, t, rfl, hp, ht⟩ := h
 unfold dA
 rw [Dt]
 refine ⟨p, _, rfl, SqT.of hp, ?_⟩
 rw [DtAll]
 refine ⟨_, _, rfl, by rw [Dt], ?_⟩
 rw [DtAll]
 refine ⟨_, _, rfl, ?_, by rw [DtAll]⟩
 rw [Dt]
 exact ⟨t, _, rfl, SqT.of ht, dtAll_strs _⟩
theorem dt_atoms {K : PySem.W.Frag} {H : Hp} : ∀ {vs : List V} {ats : List (Str × List Str)}, AtomsAt H vs ats → DtAll K H (ats.map dA) vs
 | _, _, .nil => by rw [List.map_nil, DtAll]
 | _, _, .cons r t => by
  rw [List.map_cons, DtAll]
  exact ⟨_, _, rfl, dt_atom r, dt_atoms t⟩
theorem dt_view {K : PySem.W.Frag} {H : Hp} {v : V} {x : View} (h : VW H v x) : Dt K H (dV x) v := by
 obtain ⟨p, q, rfl, hp, hq, _⟩ := h
 obtain ⟨q2, hd, aa, avs, rfl, hq2, hhd, haa, hats⟩ := hq.q.at'
 unfold dV
 rw [Dt]
 refine ⟨p, _, rfl, SqT.of hp, ?_⟩
 rw [DtAll]
 refine ⟨_, _, rfl, by rw [Dt], ?_⟩
 rw [DtAll]
 refine ⟨_, _, rfl, ?_, by rw [DtAll]⟩
 rw [Dt]
 refine ⟨q2, _, rfl, SqT.of hq2, ?_⟩
 rw [DtAll]
 refine ⟨_, _, rfl, ?_, ?_⟩
 ·rw [Dt]
  exact ⟨hd, _, rfl, SqT.of hhd, dtAll_strs _⟩
 rw [DtAll]
 refine ⟨_, _, rfl, ?_, by rw [DtAll]⟩
 rw [Dt]
 exact ⟨aa, _, rfl, SqT.of haa, dt_atoms hats⟩
theorem dt_views {K : PySem.W.Frag} {H : Hp} : ∀ {vs : List V} {xs : List View}, VWs H vs xs → DtAll K H (xs.map dV) vs
 | _, _, .nil => by rw [List.map_nil, DtAll]
 | _, _, .cons r t => by
  rw [List.map_cons, DtAll]
  exact ⟨_, _, rfl, dt_view r, dt_views t⟩
theorem lay_view {H : Hp} {v : V} {x : View} (h : VW H v x) : (dV x).canLay0 = true := by
 obtain ⟨p, q, _, _, hq, hn⟩ := h
 have h1 := lay_strs x.2.1 fun z hz => (hq.q.hh z hz).2.2
 have h2 := lay_dAs (ats := x.2.2) fun a ha => ⟨(hq.q.good a ha).1.2.2, fun z hz => ((hq.q.good a ha).2.2.2 z hz).2.2⟩
 unfold dV
 simp [PyData.canLay0, PyData.canLayAll0, hn.2.2, h1, h2]
theorem lay_views {H : Hp} : ∀ {vs : List V} {xs : List View}, VWs H vs xs → PyData.canLayAll0 (xs.map dV) = true
 | _, _, .nil => rfl
 | _, _, .cons r t => by
  rw [List.map_cons]
  simp [PyData.canLayAll0, lay_view r, lay_views t]
theorem shaped_views {H : Hp} {vs : List V} {xs : List View} (h : VWs H vs xs) : SeqAt.shaped (.list (xs.map dV)) = true := by
 have h1 := lay_views h
 have h2 := depth_dVs xs
 simp [SeqAt.shaped, PyData.canLay0, PyData.depth, h1]
 omega
theorem eqvAll_strT (zs : List Str) : PyData.eqvAll (zs.map PyData.str) (zs.map PyData.str) = true := by rw [eqvAll_strs]; exact decide_eq_true rfl
theorem eqv_dA (a : Str × List Str) : PyData.eqv (dA a) (dA a) = true := by
 unfold dA
 simp [PyData.eqv, PyData.eqvAll, eqvAll_strT]
theorem eqv_dAs : ∀ ats : List (Str × List Str), PyData.eqvAll (ats.map dA) (ats.map dA) = true
 | [] => by simp [PyData.eqvAll]
 | a :: r => by
  rw [List.map_cons, PyData.eqvAll, eqv_dA, eqv_dAs r]
  rfl
theorem eqv_dV (x : View) : PyData.eqv (dV x) (dV x) = true := by
 unfold dV
 simp [PyData.eqv, PyData.eqvAll, eqvAll_strT, eqv_dAs]
theorem eqv_dVs : ∀ xs : List View, PyData.eqvAll (xs.map dV) (xs.map dV) = true
 | [] => by simp [PyData.eqvAll]
 | a :: r => by
  rw [List.map_cons, PyData.eqvAll, eqv_dV, eqv_dVs r]
  rfl
theorem same_ext {f : Addr} {H H1 H2 : Hp} (s : Same H H1) (hf : H f = none) (e : Ext f H1 H2) : Same H H2 := fun b o h => e b o (ne_of_none h hf) (s b o h)
theorem Scr.same {K : PySem.W.Frag} {H H' : Hp} {a : Addr} {xs : List V} (h : Scr K H a xs) (s : Same H H') : Scr K H' a xs := by
 rcases h with ⟨o, h⟩ | h
 ·exact .inl ⟨o, s _ _ h⟩
 ·exact .inr h
def spLaw (K : PySem.W.Frag) : Sp := fun vs H Q _ => ∃ (a : Addr) (ns : List Int), vs = [.ref a] ∧ Scr K H a (ns.map V.int) ∧ ns.length ≤ 63 ∧ ∀ H', Q (.bl true) H'
section
variable {P : Program} {w : World} {K : PySem.W.Frag} {mg : Str → Option Value} {base : Heap} {cV : Addr}
structure Dlw (P : Program) (w : World) (K : PySem.W.Frag) (mg : Str → Option Value) (base : Heap) (cV : Addr) : Prop where
 l_feed : DefOk P w K mg base 1 "_law_feed" ["_law_script", "_law_k"] (spFeed K)
 l_draw : DefOk P w K mg base 1 "_law_draw" ["_law_feed_here", "_law_many"] (spDraw K)
 l_words : DefOk P w K mg base 2 "_law_words" ["_law_feed_here", "_law_many"] (spWords K)
 l_views : DefOk P w K mg base 5 "_law_views" ["_law_feed_here", "_law_names", "_law_many"] (spViewsD K)
 l_over : DefOk P w K mg base 3 "_law_over" ["_law_feed_here", "_law_views_here"] (spOver K)
 l_unfolded_right : DefOk P w K mg base 3 "_law_unfolded_right" ["_law_found", "_law_views_here", "_law_question_here"] spRight
 l_again : DefOk P w K mg base 8 "_law_again" ["_law_feed_here", "_law_found", "_law_views_here", "_law_question_here"] (spAgain K)
 l_bent_over : DefOk P w K mg base 2 "_law_bent_over" ["_law_feed_here", "_law_views_here", "_law_question_here"] (spBent K)
 l_refused : DefOk P w K mg base 8 "_law_refused" ["_law_views_here", "_law_question_here"] spRefused
 l_place : DefOk P w K mg base 1 "_law_place" ["_law_views_here", "_law_question_here"] spPlace
 unfolded : DefOkE P w K mg base 7 "unfolded" ["views", "question"] (spUnf cV)
theorem sc_law : FnScope ["_law_script", "_law_j", "_law_feed_here", "_law_names", "_law_views_here", "_law_question_here", "_law_handed", "_law_turn", "_law_found", "_law_k", "_law_some"] ["_law_script"] (defScope s_law) := ⟨rfl, rfl, rfl, by decide +kernel, rfl, by decide +kernel, by decide +kernel⟩
theorem ok_law {f : Addr} {fd : FuncData} (F : Fun K "law" "law" s_law f fd) (T : Txt K mg) (D : Dlw P w K mg base cV) : FnOk P w K mg base CX0 9 f fd ["_law_script"] (spLaw K) := by
 refine F.ok sc_law (fun vs H Q E h => ?_) (fun cdv A outer s H vs Q E hr h => ?_)
 ·obtain ⟨a, b, rfl, _⟩ := h
  rfl
 obtain ⟨a, ns, rfl, hS, hn, k⟩ := h
 refine ⟨_, (pss_cons (ps_for PassesOwn.never rfl (pi_range1 rfl T.n_range (pa_cons pe_int pa_nil)) (pg_name (i := 1) sc_law.nd rfl (Or.inl rfl))
   (pss_cons (ps_set (i := 2) sc_law.nd rfl (Or.inl rfl) (cl D.l_feed hr (pa_cons (pv 0) (pa_cons (pe_op op_mul pe_int (pv 1)) pa_nil))))
   (pss_cons (ps_set (i := 3) sc_law.nd rfl (Or.inl rfl) (cl D.l_words hr (pa_cons (pv 2) (pa_cons (pe_op op_add pe_int (cl D.l_draw hr (pa_cons (pv 2) (pa_cons pe_int pa_nil)))) pa_nil))))
   (pss_cons (ps_set (i := 4) sc_law.nd rfl (Or.inl rfl) (cl D.l_views hr (pa_cons (pv 2) (pa_cons (pv 3) (pa_cons (pe_op op_add pe_int (cl D.l_draw hr (pa_cons (pv 2) (pa_cons pe_int pa_nil)))) pa_nil)))))
   (pss_cons (ps_set (i := 5) sc_law.nd rfl (Or.inl rfl) (cl D.l_over hr (pa_cons (pv 2) (pa_cons (pv 4) pa_nil))))
   (pss_cons (ps_set (i := 6) sc_law.nd rfl (Or.inl rfl) (pe_callTy call_list_of rfl T.n_list (by decide +kernel) (pa_cons (pv 4) pa_nil)))
   (pss_cons (ps_for PassesOwn.never rfl (pi_range1 rfl T.n_range (pa_cons pe_int pa_nil)) (pg_name (i := 7) sc_law.nd rfl (Or.inl rfl))
   (pss_cons (ps_set (i := 8) sc_law.nd rfl (Or.inl rfl) (clE D.unfolded hr lets_no (pa_cons (pv 6) (pa_cons (pv 5) pa_nil))))
   (pss_one (ps_if (PW.pt (pw_or (pt_not (pt_val (cl D.l_unfolded_right hr (pa_cons (pv 8) (pa_cons (pv 4) (pa_cons (pv 5) pa_nil)))))) (pw_or1 (pt_cmpR (op_neD hr.units) (pv 6) (pv 4) (nomark _))))) (pss_one (ps_ret pe_bl)) pss_nil))))
   (pss_cons (ps_if (pt_not (pt_val (cl D.l_again hr (pa_cons (pv 2) (pa_cons (pv 8) (pa_cons (pv 4) (pa_cons (pv 5) pa_nil))))))) (pss_one (ps_ret pe_bl)) pss_nil)
   (pss_cons (ps_for PassesOwn.never rfl (pi_range1 rfl T.n_range (pa_cons pe_int pa_nil)) (pg_name (i := 9) sc_law.nd rfl (Or.inl rfl))
   (pss_cons (ps_set (i := 10) sc_law.nd rfl (Or.inl rfl) (cl D.l_bent_over hr (pa_cons (pv 2) (pa_cons (pv 4) (pa_cons (pv 5) pa_nil)))))
   (pss_cons (ps_set (i := 8) sc_law.nd rfl (Or.inl rfl) (cl D.l_refused hr (pa_cons (pe_callTy call_list_of rfl T.n_list (by decide +kernel) (pa_cons (pv 4) pa_nil)) (pa_cons (pv 10) pa_nil))))
   (pss_one (ps_if (PW.pt (pw_or (pt_val (pe_callB call_isinst rfl T.n_isinstance (by decide +kernel) (pa_cons (pv 8) (pa_cons (pe_ty (n := "bool") rfl T.n_bool (by decide +kernel)) pa_nil)))) (pw_or1 (pt_cmpR op_ne (pv 8) (cl D.l_place hr (pa_cons (pv 4) (pa_cons (pv 10) pa_nil))) (nomark _))))) (pss_one (ps_ret pe_bl)) pss_nil)))))
   (pss_one (ps_if (pt_cmpR op_ne (cl D.l_refused hr (pa_cons (pe_lst pa_nil) (pa_cons (pv 5) pa_nil))) pe_int (nomark _)) (pss_one (ps_ret pe_bl)) pss_nil)))))))))))
   (pss_one (ps_ret pe_bl))), ?_⟩
 refine ⟨4, rfl, by decide, by decide, for_range (lo := 0) (n := 4)
  (fun j σ H1 => ∃ x1 x2 x3 x4 x5 x6 x7 x8 x9 x10 : Option V, σ = [some (.ref a), x1, x2, x3, x4, x5, x6, x7, x8, x9, x10] ∧ Same H H1) ⟨none, none, none, none, none, none, none, none, none, none, rfl, Same.refl H⟩ ?_ ?_⟩
 ·rintro j σ H1 hj ⟨x1, x2, x3, x4, x5, x6, x7, x8, x9, x10, rfl, sm1⟩
  -- feed
  refine ⟨_, rfl, _, rfl, _, _, rfl, rfl, .inl ⟨by decide, by decide⟩, a, ns, _, rfl, hS.same sm1, hn, by omega, fun fe H2 hF2 sm2 hfe => ?_⟩
  have hfe0 : H fe = none := sm1.free hfe
  have s2 := sm1.trans sm2
  -- names
  refine ⟨_, rfl, _, rfl, fe, 3, rfl, hF2, by decide, by decide, fun i3 H3 a0 a1 hF3 ex3 => ⟨_, _, rfl, rfl, fe, _, rfl, hF3, by omega, by omega, fun nl nms H4 hF4 ex4 nnl nl0 hnl hln ndn hnw => ?_⟩⟩
  have s4 := same_ext s2 hfe0 (ex3.trans ex4)
  -- views
  refine ⟨_, rfl, _, rfl, _, rfl, fe, 6, rfl, hF4, by decide, by decide, fun i5 H5 b0 b1 hF5 ex5 => ⟨_, _, rfl, rfl, fe, nl, _, nms, rfl, hF5, nnl, ⟨ex5 _ _ nnl hnl, by omega, by omega⟩, hnw, by omega, by omega, fun vl vws xs H6 hF6 ex6 nvl nvl0 hvl hV lxs ndx => ?_⟩⟩
  have s6 := same_ext s4 hfe0 (ex5.trans ex6)
  have lvx : vws.length = xs.length := Paired.length hV
  -- question
  refine ⟨_, rfl, _, rfl, fe, vl, vws, xs, rfl, hF6, nvl, hvl, hV, by omega, by omega, fun qa hz ats H7 hF7 ex7 hQ la3 hov hzz => ?_⟩
  have s7 := same_ext s6 hfe0 ex7
  have hvl7 := ex7 _ _ nvl hvl
  have hV7 := VWs.keep (hF6.tups ex7) hV
  have hok := over_place ndx hov
  -- handed
  refine ⟨_, rfl, vl, _, rfl, .inl (SqL.of hvl7), fun hl hhl0 => ?_⟩
  have sm8 : Same H7 (upd H7 hl (.lst vws)) := same_new hhl0 _
  have hhl : upd H7 hl (.lst vws) hl = some (.lst vws) := upd_same
  have nhl := hF7.nef hhl0
  generalize upd H7 hl (.lst vws) = H8 at sm8 hhl ⊢
  have hF8 := hF7.same sm8
  have s8 := s7.trans sm8
  have hV8 := VWs.keep (Tups.of sm8) hV7
  have hQ8 := hQ.keep (Tups.of sm8)
  have hvl8 := sm8 _ _ hvl7
  -- twice
  refine ⟨2, rfl, by decide, by decide, for_range (lo := 0) (n := 2)
   (fun i σ H9 => ∃ (x7 x8 : Option V), σ = [some (.ref a), some (.int (0 + (j : Int))), some (.ref fe), some (.ref nl), some (.ref vl), some (.ref qa), some (.ref hl), x7, x8, x9, x10] ∧ Same H8 H9 ∧ (1 ≤ i → ∃ r us, x8 = some (.ref r) ∧ QW H9 (.ref r) hz us)) ⟨x7, x8, rfl, Same.refl _, fun h => absurd h (by decide)⟩ ?_ ?_⟩
  ·rintro i σ H9 hi ⟨x7, x8, rfl, sm9, _⟩
   have hV9 := VWs.keep (Tups.of sm9) hV8
   have hQ9 := hQ8.keep (Tups.of sm9)
   refine ⟨_, rfl, _, rfl, xs, hl, vws, .ref qa, hz, ats, rfl, sm9 _ _ hhl, hV9, ndx, hQ9, by omega, ?_⟩
   rw [none_place hok]
   intro r us H10 sm10 hQr hUr
   have sm810 := sm9.trans sm10
   have hV10 := VWs.keep (Tups.of sm10) hV9
   refine ⟨_, rfl, _, rfl, _, rfl, xs, r, vl, .ref qa, vws, hz, ats, us, rfl, hQr, sm810 _ _ hvl8, hV10, ndx, hQ9.keep (Tups.of sm10), by omega, hUr, fun H11 sm11 => ⟨_, rfl, iteF ?_⟩⟩
   have sm811 := sm810.trans sm11
   have hV11 := VWs.keep (Tups.of sm11) hV10
   refine ⟨_, rfl, _, rfl, .list (xs.map dV), .list (xs.map dV), ?_, ?_, shaped_views hV11, shaped_views hV11, _, rfl, ?_⟩
   ·rw [Dt]
    exact ⟨hl, _, rfl, SqL.of (sm811 _ _ hhl), dt_views hV11⟩
   ·rw [Dt]
    exact ⟨vl, _, rfl, SqL.of (sm811 _ _ hvl8), dt_views hV11⟩
   have ee : PyData.eqv (.list (xs.map dV)) (.list (xs.map dV)) = true := by
    rw [PyData.eqv]
    exact eqv_dVs xs
   show if (!PyData.eqv (.list (xs.map dV)) (.list (xs.map dV))) = true then _ else _
   rw [ee]
   refine iteF ?_
   exact ⟨_, _, rfl, sm811, fun _ => ⟨r, us, rfl, hQr.keep (Tups.of sm11)⟩⟩
  ·rintro σ H9 ⟨x7, x8, rfl, sm9, hr9⟩
   obtain ⟨r, us, rfl, hQr⟩ := hr9 (by decide)
   have hF9 := hF8.same sm9
   have hV9 := VWs.keep (Tups.of sm9) hV8
   have hQ9 := hQ8.keep (Tups.of sm9)
   have s9 := s8.trans sm9
   have hvl9 := sm9 _ _ hvl8
   -- again
   refine ⟨_, rfl, _, rfl, _, rfl, _, rfl, fe, r, vl, .ref qa, vws, xs, hz, hz, us, ats, rfl, hF9, nvl, hvl9, hV9, ndx, by omega, hQr, hQ9, la3, hok, fun H10 hF10 ex10 => ⟨_, rfl, iteF ?_⟩⟩
   have s10 := same_ext s9 hfe0 ex10
   have tu10 := hF9.tups ex10
   have hV10 := VWs.keep tu10 hV9
   have hQ10 := hQ9.keep tu10
   have hvl10 := ex10 _ _ nvl hvl9
   -- three bent ones
   refine ⟨3, rfl, by decide, by decide, for_range (lo := 0) (n := 3)
    (fun i σ H11 => ∃ (x8 x9 x10 : Option V), σ = [some (.ref a), some (.int (0 + (j : Int))), some (.ref fe), some (.ref nl), some (.ref vl), some (.ref qa), some (.ref hl), x7, x8, x9, x10] ∧ Feed K fe H11 ∧ Ext fe H10 H11) ⟨_, _, _, rfl, hF10, Ext.refl fe H10⟩ ?_ ?_⟩
   ·rintro i σ H11 hi ⟨x8, x9, x10, rfl, hF11, ex11⟩
    have tu11 := hF10.tups ex11
    have hV11 := VWs.keep tu11 hV10
    have hvl11 := ex11 _ _ nvl hvl10
    refine ⟨_, rfl, _, rfl, _, rfl, fe, vl, .ref qa, vws, xs, hz, ats, rfl, hF11, nvl, hvl11, hV11, by omega, by omega, hQ10.keep tu11, la3, fun bq bz bts H12 hF12 ex12 hB lb6 => ?_⟩
    have hV12 := VWs.keep (hF11.tups ex12) hV11
    have hvl12 := ex12 _ _ nvl hvl11
    refine ⟨_, rfl, vl, _, rfl, .inl (SqL.of hvl12), fun cl hcl => ?_⟩
    have sm13 : Same H12 (upd H12 cl (.lst vws)) := same_new hcl _
    have hcl13 : upd H12 cl (.lst vws) cl = some (.lst vws) := upd_same
    generalize upd H12 cl (.lst vws) = H13 at sm13 hcl13 ⊢
    refine ⟨_, rfl, xs, cl, vws, .ref bq, bz, bts, rfl, hcl13, VWs.keep (Tups.of sm13) hV12, ndx, hB.keep (Tups.of sm13), lb6, fun H14 sm14 => ?_⟩
    have sm1214 := sm13.trans sm14
    have hno : ∃ t, TyOf K H14 (placeR xs bts) t ∧ PySem.W.kitOne K t (.type "bool") = some false := by
     unfold placeR
     cases placeV xs bts with
     | none => exact ⟨_, TyOf.str _, rfl⟩
     | some n => exact ⟨_, TyOf.int _, rfl⟩
    obtain ⟨t, ht1, ht2⟩ := hno
    refine ⟨_, rfl, _, _, t, false, rfl, ht1, ht2, _, rfl, iteF ?_⟩
    refine ⟨_, rfl, _, rfl, _, rfl, xs, vl, vws, .ref bq, bz, bts, rfl, sm1214 _ _ hvl12, VWs.keep (Tups.of sm1214) hV12, ndx, by omega, hB.keep (Tups.of sm1214), lb6, fun H15 sm15 => ?_⟩
    have hsc : scal (placeR xs bts) (placeR xs bts) = true := by
     unfold placeR
     cases placeV xs bts <;> rfl
    refine ⟨hsc, _, rfl, ?_⟩
    rw [decide_eq_true rfl]
    refine iteF ?_
    have sm1215 := sm1214.trans sm15
    exact ⟨_, _, _, rfl, hF12.same sm1215, (ex11.trans ex12).trans (Ext.of sm1215)⟩
   ·rintro σ H11 ⟨x8, x9, x10, rfl, hF11, ex11⟩
    have tu11 := hF10.tups ex11
    -- refused([], question) != 0
    refine ⟨(by show 0 ≤ sizeLine; decide), fun el hel => ?_⟩
    have sm12 : Same H11 (upd H11 el (.lst [])) := same_new hel _
    have hel12 : upd H11 el (.lst []) el = some (.lst []) := upd_same
    generalize upd H11 el (.lst []) = H12 at sm12 hel12 ⊢
    have hQ12 := hQ10.keep (tu11.trans (Tups.of sm12))
    refine ⟨_, rfl, [], el, [], .ref qa, hz, ats, rfl, hel12, .nil, .nil, hQ12, by omega, fun H13 sm13 => ?_⟩
    have ep : placeR [] ats = .int 0 := by
     unfold placeR placeV
     cases ats with
     | nil => exact absurd hQ12.l1 (by decide)
     | cons a r => rfl
    rw [ep]
    refine ⟨rfl, _, rfl, ?_⟩
    rw [decide_eq_true rfl]
    refine iteF ?_
    exact ⟨_, _, _, _, _, _, _, _, _, _, rfl, (same_ext s10 hfe0 ex11).trans (sm12.trans sm13)⟩
 ·rintro σ H1 ⟨x1, x2, x3, x4, x5, x6, x7, x8, x9, x10, rfl, sm1⟩
  exact k H1
end
end K42
namespace Hd
open PySem PySem.W PyProof.Rows PySem.W.Fast
abbrev pos0 : Pos := ⟨0, 0, 0, 0⟩
noncomputable abbrev tb := tw14364793385576792824
abbrev an0 : Option Value := some (.ref 6)
def env0 (p : Program) : Env := { scope := p.main.scope, locals := mainNs, globals := mainNs, cells := [], code := .ref 13, frame := some 14 }
def cd0 (p : Program) : Code := .body (behindTheImports p) (env0 p)
abbrev B0 : List Frame := [topFrame pos0]
noncomputable def S0 (w : World) (os : OsState) : Shared := ⟨boot_heap w.params, Array.mk [], boot_drawn, boot_toks, os⟩
def mkT (l : List Obj) : Nat → Nat → Nat → BT
 | 0, _, _ => .nil
 | f + 1, a, b => match l[b]? with
  | some o => .node o (mkT l f (2 * a) (a + b)) (mkT l f (2 * a) (2 * a + b))
  | none => .nil
def toT (s : Shared) : SharedT := ⟨mkT s.heap.objs.toList 6 1 0, s.heap.objs.size, s.heap.life, s.gens, s.drawn, s.toks, s.os⟩
noncomputable def pre (p : Program) (w : World) (os : OsState) : SharedT := match tw15667345088766844465 tb p w 11 an0 12 (S0 w os) (topStub p) with
 | some r => toT r.1
 | none => toT (S0 w os)
noncomputable def body (p : Program) (n : Nat) (w : World) (os : OsState) : Option (Flow × SharedT × Code × Pos) :=
 tw10110043849684766642 tb p w 11 an0 1 n (pre p w os) (piecesOf (behindTheImports p) (env0 p) (cd0 p) pos0 B0)
noncomputable def aft (p : Program) (n : Nat) (w : World) (os : OsState) : SharedT := match body p n w os with
 | some r => r.2.1
 | none => toT (S0 w os)
noncomputable def posL (p : Program) (n : Nat) (w : World) (os : OsState) : Pos := match body p n w os with
 | some r => r.2.2.2
 | none => pos0
noncomputable def fin (p : Program) (n : Nat) (w : World) (os : OsState) : Shared := match tw14082659384304107361 tb p w 11 an0 2 (aft p n w os).abs ⟨doneF .next, cd0 p, posL p n w os, B0⟩ with
 | some s => s
 | none => S0 w os
structure Ok (p : Program) (n : Nat) : Prop where
 pre : ∀ w os, tw15667345088766844465 tb p w 11 an0 12 (S0 w os) (topStub p) = some ((Hd.pre p w os).abs, ⟨tw11892475500146522536 tb (cd0 p), cd0 p, pos0, B0⟩)
 block : ∀ w os, tw14374325043358763698 tb p w 11 an0 1 1 (Hd.pre p w os).abs (blockOf (behindTheImports p) (env0 p) (cd0 p) pos0 B0) = some (.next, (Hd.pre p w os).abs, cd0 p, pos0)
 body : ∀ w os, Hd.body p n w os = some (.next, aft p n w os, cd0 p, posL p n w os)
 fin : ∀ w os, tw14082659384304107361 tb p w 11 an0 2 (aft p n w os).abs ⟨doneF .next, cd0 p, posL p n w os, B0⟩ = some (Hd.fin p n w os)
theorem run {p : Program} {n : Nat} (o : Ok p n) (w : World) (os : OsState) : topRun treeTable p w 11 an0 (12 + (1 + (n + 2))) (S0 w os) (topStub p) = some (fin p n w os) := by
 have h1 := o.pre w os
 have h2 := o.block w os
 have h3 := o.body w os
 have h4 := o.fin w os
 unfold Hd.body at h3
 unfold tb at h1 h2 h3 h4
 rw [← te15667345088766844465, ← te14364793385576792824, ← te11892475500146522536] at h1
 rw [← te14374325043358763698, ← te14364793385576792824] at h2
 rw [← te10110043849684766642, ← te14364793385576792824] at h3
 rw [← te14082659384304107361, ← te14364793385576792824] at h4
 have k : topRun treeTable p w 11 an0 (n + 2) (Hd.pre p w os).abs (restOf (behindTheImports p ++ []) (env0 p) (cd0 p) pos0 B0) = some (fin p n w os) := piece_app (segRun_of h3) (piece_nil h4)
 rw [List.append_nil] at k
 exact go_top h1 (piece_block h2 k)
theorem left {p q : Program} {loose : List Str} {Xt : Shared → Bool} {α : Type} {Yf : Shared → α} {Ya : World → α} {N n : Nat} {g0 : Bool} (o : Ok p n) (hN : Nat.ble (12 + (1 + (n + 2))) N = true) (he : opening p = plainProg p.main.scope.names) (h6 : Nat.ble 600 N = true) (hf : ∀ s, fenceModules? p s = some s)
  (l1 : ∀ w os, (staticsOk (importedModules p.main.body) (boot_heap w.params) (fin p n w os).heap && namesBound p (fin p n w os).heap && gensDone (fin p n w os) && laidKept (boot_heap w.params) (fin p n w os).heap) = true)
  (l2 : ∀ w os, openSeen q loose (importedModules p.main.body) Xt g0 (fin p n w os) = openGood q loose) (l3 : ∀ w os, Yf (fin p n w os) = Ya w) : LeftO p q loose Xt Yf Ya N g0 := fun w => by
 obtain ⟨s, e, e'⟩ := Option.map_eq_some_iff.mp (boot_open he h6 hf w)
 obtain ⟨os, rfl⟩ : ∃ os, s = S0 w os := by
  obtain ⟨h, g, d, t, os⟩ := s
  simp only [Prod.mk.injEq] at e'
  obtain ⟨rfl, rfl, rfl, rfl⟩ := e'
  exact ⟨os, rfl⟩
 have r := topRun_mono (N - (12 + (1 + (n + 2)))) _ _ _ _ (run o w os)
 rw [show 12 + (1 + (n + 2)) + (N - (12 + (1 + (n + 2)))) = N by have := Nat.le_of_ble_eq_true hN; omega] at r
 have z1 : ((S0 w os).heap.isNs mainGlobals && (S0 w os).gens.size == 0) = true := by kernel_rfl
 have z2 : (S0 w os).heap.objs.size = 11 := by kernel_rfl
 have z3 : (S0 w os).heap.nsMap mainGlobals "__annotations__" = an0 := by kernel_rfl
 have t : topFrom treeTable p w N (S0 w os) = some (fin p n w os) := by
  unfold topFrom
  rw [z1, z2, z3, r]
  have q := l1 w os
  show (match _ with | true => _ | false => _) = _
  rw [show (staticsOk (importedModules p.main.body) (S0 w os).heap (fin p n w os).heap && namesBound p (fin p n w os).heap && gensDone (fin p n w os) && laidKept (S0 w os).heap (fin p n w os).heap) = true from q]
 unfold openEnds
 rw [e]
 show (topFrom treeTable p w N _).map _ = _
 rw [t]
 exact congrArg some (Prod.ext (l2 w os) (l3 w os))
end Hd
namespace K42
open PySem PySem.Spec PyProof.Rows L2
abbrev tO (vs : List Value) : Obj := ⟨.type "tuple", none, .seq vs.toArray 0, #[]⟩
abbrev cO (vs : List Value) : Obj := ⟨.type "code", none, .fields vs.toArray, #[]⟩
abbrev kO (P : Params) (x : Str) (t : Tok) (v : Value) : DictEntry := ⟨PyData.keyHash P x, .str x t, v⟩
abbrev fO (s : Stmt) (n q : Str) (pm cd : Value) : Obj := ⟨.type "function", none, .func (PySem.W.fnOf n q (defArgs s) (defBody s) (defScope s) .none .none .none pm none cd .none), #[]⟩
def KF (P : Params) : PySem.W.Frag :=
 (nat_lit 2, ⟨.none, none, .dict #[] 0, #[]⟩) ::
 (nat_lit 3, ⟨(.type "dict"), none, .dict #[kO P "__name__" 165 (.str "law_askviews_k42_unfolded_or_no_view" 470), kO P "__doc__" 166 .none, kO P "__package__" 167 .none, kO P "__loader__" 168 (.builtin "__main__.__loader__#opaque"), kO P "__spec__" 169 .none, kO P "__annotations__" 170 (.ref 6), kO P "__builtins__" 171 (.ref 4), kO P "__file__" 173 (.str "/claim/cut.py" 172), kO P "__cached__" 174 .none, kO P "AskError" 206 (.ref 24), kO P "NoText" 231 (.ref 44), kO P "Loose" 256 (.ref 63), kO P "NoView" 281 (.ref 82), kO P "TooMany" 297 (.ref 94), kO P "Twice" 313 (.ref 106), kO P "NoHeld" 329 (.ref 118), kO P "NoAsk" 345 (.ref 130), kO P "NoRow" 361 (.ref 142), kO P "SIGNS" 365 (.str "abcdefghijklmnopqrstuvwxyz0123456789" 364), kO P "MOST_SIGNS" 367 (.int 8 366), kO P "is_value" 373 (.ref 149), kO P "is_unknown" 380 (.ref 156), kO P "new_values" 391 (.ref 163), kO P "image" 399 (.ref 168), kO P "unknowns_of" 411 (.ref 175), kO P "terms_of" 420 (.ref 182), kO P "unfolded" 430 (.ref 189), kO P "unfolded_parts" 436 (.ref 194), kO P "joined" 445 (.ref 201), kO P "check_views" 457 (.ref 208), kO P "new_unknowns" 463 (.ref 213), kO P "inner_unknowns" 469 (.ref 218), kO P "_law_feed" 479 (.ref 225), kO P "_law_draw" 489 (.ref 232), kO P "_law_words" 495 (.ref 237), kO P "_law_atom" 510 (.ref 244), kO P "_law_head" 516 (.ref 249), kO P "_law_question" 522 (.ref 254), kO P "_law_unknowns" 528 (.ref 259), kO P "_law_view_question" 544 (.ref 266), kO P "_law_views" 550 (.ref 271), kO P "_law_over" 556 (.ref 276), kO P "_law_unfolded_right" 562 (.ref 281), kO P "_law_laid" 568 (.ref 286), kO P "_law_is_unknown" 574 (.ref 291), kO P "_law_refused" 584 (.ref 298), kO P "_law_bent_over" 590 (.ref 303), kO P "_law_place" 596 (.ref 308), kO P "_law_called_so" 602 (.ref 313), kO P "_law_again" 608 (.ref 318), kO P "law" 625 (.ref 325)] 51, #[]⟩) ::
 (nat_lit 15, tO [(.type "ValueError")]) ::
 (nat_lit 22, tO []) ::
 (nat_lit 23, ⟨(.type "dict"), none, .dict #[kO P "__module__" 196 (.str "askviews.errors" 187), kO P "__firstlineno__" 200 (.int 2 199), kO P "__static_attributes__" 201 (.ref 22), kO P "__weakref__" 203 (.ref 25), kO P "__doc__" 204 .none] 3, #[]⟩) ::
 (nat_lit 24, ⟨(.type "type"), none, .cls ⟨"AskError", [(.type "ValueError")], [(.ref 24), (.type "ValueError"), (.type "Exception"), (.type "BaseException"), (.type "object")], 23, "AskError", true, [], [(.ref 44), (.ref 63), (.ref 82), (.ref 94), (.ref 106), (.ref 118), (.ref 130), (.ref 142)], false, none, false⟩, #[some (.ref 15), none, some (.str "AskError" 189), some (.str "AskError" 197), some (.builtin "ValueError.__new__"), some (.bool true)]⟩) ::
 (nat_lit 25, ⟨(.type "getset_descriptor"), none, .fields #[(.str "__weakref__" 202), (.ref 24), (.builtin "ExceptionGroup.__weakref__"), .none], #[]⟩) ::
 (nat_lit 28, tO [(.ref 24)]) ::
 (nat_lit 35, tO []) ::
 (nat_lit 37, tO [(.str "self" 222), (.str "at" 223)]) ::
 (nat_lit 38, tO []) ::
 (nat_lit 40, cO [(.str "__init__" 219), (.str "NoText.__init__" 220), (.str "/claim/cut.py" 221), (.int 6 0), (.int 2 0), (.int 0 0), (.int 0 0), (.int 3 0), (.ref 35), (.bool true), (.int 181 0), (.ref 36), .none, (.ref 37), (.ref 38), (.ref 39), (.int 224 0), (.int 6 0), (.str "/claim/cut.py" 225)]) ::
 (nat_lit 41, fO (inClass (top 2) 0) "__init__" "NoText.__init__" (.str "askviews.errors" 187) (.ref 40)) ::
 (nat_lit 42, tO [(.str "at" 227)]) ::
 (nat_lit 43, ⟨(.type "dict"), none, .dict #[kO P "__module__" 214 (.str "askviews.errors" 187), kO P "__firstlineno__" 218 (.int 4 217), kO P "__init__" 226 (.ref 41), kO P "__static_attributes__" 228 (.ref 42), kO P "__doc__" 229 .none] 2, #[]⟩) ::
 (nat_lit 44, ⟨(.type "type"), none, .cls ⟨"NoText", [(.ref 24)], [(.ref 44), (.ref 24), (.type "ValueError"), (.type "Exception"), (.type "BaseException"), (.type "object")], 43, "NoText", true, [], [], false, none, false⟩, #[some (.ref 28), none, some (.str "NoText" 207), some (.str "NoText" 215), some (.builtin "ValueError.__new__"), some (.bool true)]⟩) ::
 (nat_lit 47, tO [(.ref 24)]) ::
 (nat_lit 54, tO []) ::
 (nat_lit 56, tO [(.str "self" 247), (.str "unknown" 248)]) ::
 (nat_lit 57, tO []) ::
 (nat_lit 59, cO [(.str "__init__" 244), (.str "Loose.__init__" 245), (.str "/claim/cut.py" 246), (.int 11 0), (.int 2 0), (.int 0 0), (.int 0 0), (.int 3 0), (.ref 54), (.bool true), (.int 181 0), (.ref 55), .none, (.ref 56), (.ref 57), (.ref 58), (.int 249 0), (.int 11 0), (.str "/claim/cut.py" 250)]) ::
 (nat_lit 60, fO (inClass (top 3) 0) "__init__" "Loose.__init__" (.str "askviews.errors" 187) (.ref 59)) ::
 (nat_lit 61, tO [(.str "unknown" 252)]) ::
 (nat_lit 62, ⟨(.type "dict"), none, .dict #[kO P "__module__" 239 (.str "askviews.errors" 187), kO P "__firstlineno__" 243 (.int 9 242), kO P "__init__" 251 (.ref 60), kO P "__static_attributes__" 253 (.ref 61), kO P "__doc__" 254 .none] 2, #[]⟩) ::
 (nat_lit 63, ⟨(.type "type"), none, .cls ⟨"Loose", [(.ref 24)], [(.ref 63), (.ref 24), (.type "ValueError"), (.type "Exception"), (.type "BaseException"), (.type "object")], 62, "Loose", true, [], [], false, none, false⟩, #[some (.ref 47), none, some (.str "Loose" 232), some (.str "Loose" 240), some (.builtin "ValueError.__new__"), some (.bool true)]⟩) ::
 (nat_lit 66, tO [(.ref 24)]) ::
 (nat_lit 73, tO []) ::
 (nat_lit 75, tO [(.str "self" 272), (.str "place" 273)]) ::
 (nat_lit 76, tO []) ::
 (nat_lit 78, cO [(.str "__init__" 269), (.str "NoView.__init__" 270), (.str "/claim/cut.py" 271), (.int 16 0), (.int 2 0), (.int 0 0), (.int 0 0), (.int 3 0), (.ref 73), (.bool true), (.int 181 0), (.ref 74), .none, (.ref 75), (.ref 76), (.ref 77), (.int 274 0), (.int 16 0), (.str "/claim/cut.py" 275)]) ::
 (nat_lit 79, fO (inClass (top 4) 0) "__init__" "NoView.__init__" (.str "askviews.errors" 187) (.ref 78)) ::
 (nat_lit 80, tO [(.str "place" 277)]) ::
 (nat_lit 81, ⟨(.type "dict"), none, .dict #[kO P "__module__" 264 (.str "askviews.errors" 187), kO P "__firstlineno__" 268 (.int 14 267), kO P "__init__" 276 (.ref 79), kO P "__static_attributes__" 278 (.ref 80), kO P "__doc__" 279 .none] 2, #[]⟩) ::
 (nat_lit 82, ⟨(.type "type"), none, .cls ⟨"NoView", [(.ref 24)], [(.ref 82), (.ref 24), (.type "ValueError"), (.type "Exception"), (.type "BaseException"), (.type "object")], 81, "NoView", true, [], [], false, none, false⟩, #[some (.ref 66), none, some (.str "NoView" 257), some (.str "NoView" 265), some (.builtin "ValueError.__new__"), some (.bool true)]⟩) ::
 (nat_lit 85, tO [(.ref 24)]) ::
 (nat_lit 92, tO []) ::
 (nat_lit 93, ⟨(.type "dict"), none, .dict #[kO P "__module__" 289 (.str "askviews.errors" 187), kO P "__firstlineno__" 293 (.int 19 292), kO P "__static_attributes__" 294 (.ref 92), kO P "__doc__" 295 .none] 2, #[]⟩) ::
 (nat_lit 94, ⟨(.type "type"), none, .cls ⟨"TooMany", [(.ref 24)], [(.ref 94), (.ref 24), (.type "ValueError"), (.type "Exception"), (.type "BaseException"), (.type "object")], 93, "TooMany", true, [], [], false, none, false⟩, #[some (.ref 85), none, some (.str "TooMany" 282), some (.str "TooMany" 290), some (.builtin "ValueError.__new__"), some (.bool true)]⟩) ::
 (nat_lit 97, tO [(.ref 24)]) ::
 (nat_lit 104, tO []) ::
 (nat_lit 105, ⟨(.type "dict"), none, .dict #[kO P "__module__" 305 (.str "askviews.errors" 187), kO P "__firstlineno__" 309 (.int 21 308), kO P "__static_attributes__" 310 (.ref 104), kO P "__doc__" 311 .none] 2, #[]⟩) ::
 (nat_lit 106, ⟨(.type "type"), none, .cls ⟨"Twice", [(.ref 24)], [(.ref 106), (.ref 24), (.type "ValueError"), (.type "Exception"), (.type "BaseException"), (.type "object")], 105, "Twice", true, [], [], false, none, false⟩, #[some (.ref 97), none, some (.str "Twice" 298), some (.str "Twice" 306), some (.builtin "ValueError.__new__"), some (.bool true)]⟩) ::
 (nat_lit 109, tO [(.ref 24)]) ::
 (nat_lit 116, tO []) ::
 (nat_lit 117, ⟨(.type "dict"), none, .dict #[kO P "__module__" 321 (.str "askviews.errors" 187), kO P "__firstlineno__" 325 (.int 23 324), kO P "__static_attributes__" 326 (.ref 116), kO P "__doc__" 327 .none] 2, #[]⟩) ::
 (nat_lit 118, ⟨(.type "type"), none, .cls ⟨"NoHeld", [(.ref 24)], [(.ref 118), (.ref 24), (.type "ValueError"), (.type "Exception"), (.type "BaseException"), (.type "object")], 117, "NoHeld", true, [], [], false, none, false⟩, #[some (.ref 109), none, some (.str "NoHeld" 314), some (.str "NoHeld" 322), some (.builtin "ValueError.__new__"), some (.bool true)]⟩) ::
 (nat_lit 121, tO [(.ref 24)]) ::
 (nat_lit 128, tO []) ::
 (nat_lit 129, ⟨(.type "dict"), none, .dict #[kO P "__module__" 337 (.str "askviews.errors" 187), kO P "__firstlineno__" 341 (.int 25 340), kO P "__static_attributes__" 342 (.ref 128), kO P "__doc__" 343 .none] 2, #[]⟩) ::
 (nat_lit 130, ⟨(.type "type"), none, .cls ⟨"NoAsk", [(.ref 24)], [(.ref 130), (.ref 24), (.type "ValueError"), (.type "Exception"), (.type "BaseException"), (.type "object")], 129, "NoAsk", true, [], [], false, none, false⟩, #[some (.ref 121), none, some (.str "NoAsk" 330), some (.str "NoAsk" 338), some (.builtin "ValueError.__new__"), some (.bool true)]⟩) ::
 (nat_lit 133, tO [(.ref 24)]) ::
 (nat_lit 140, tO []) ::
 (nat_lit 141, ⟨(.type "dict"), none, .dict #[kO P "__module__" 353 (.str "askviews.errors" 187), kO P "__firstlineno__" 357 (.int 27 356), kO P "__static_attributes__" 358 (.ref 140), kO P "__doc__" 359 .none] 2, #[]⟩) ::
 (nat_lit 142, ⟨(.type "type"), none, .cls ⟨"NoRow", [(.ref 24)], [(.ref 142), (.ref 24), (.type "ValueError"), (.type "Exception"), (.type "BaseException"), (.type "object")], 141, "NoRow", true, [], [], false, none, false⟩, #[some (.ref 133), none, some (.str "NoRow" 346), some (.str "NoRow" 354), some (.builtin "ValueError.__new__"), some (.bool true)]⟩) ::
 (nat_lit 145, tO []) ::
 (nat_lit 148, cO [(.str "is_value" 368), (.str "is_value" 369), (.str "/claim/cut.py" 370), (.int 32 0), (.int 1 0), (.int 0 0), (.int 0 0), (.int 3 0), (.ref 145), (.bool true), (.int 181 0), (.ref 146), .none, .none, .none, (.ref 147), (.int 371 0), (.int 32 0), (.str "/claim/cut.py" 372)]) ::
 (nat_lit 149, fO (top 13) "is_value" "is_value" (.str "askviews.terms" 362) (.ref 148)) ::
 (nat_lit 150, tO []) ::
 (nat_lit 152, tO [(.str "thing" 377)]) ::
 (nat_lit 153, tO []) ::
 (nat_lit 155, cO [(.str "is_unknown" 374), (.str "is_unknown" 375), (.str "/claim/cut.py" 376), (.int 36 0), (.int 1 0), (.int 0 0), (.int 0 0), (.int 3 0), (.ref 150), (.bool true), (.int 181 0), (.ref 151), .none, (.ref 152), (.ref 153), (.ref 154), (.int 378 0), (.int 36 0), (.str "/claim/cut.py" 379)]) ::
 (nat_lit 156, fO (top 14) "is_unknown" "is_unknown" (.str "askviews.terms" 362) (.ref 155)) ::
 (nat_lit 157, tO []) ::
 (nat_lit 159, tO [(.str "count" 384), (.str "taken" 385), (.str "found" 386), (.str "number" 387), (.str "value" 388)]) ::
 (nat_lit 160, tO []) ::
 (nat_lit 162, cO [(.str "new_values" 381), (.str "new_values" 382), (.str "/claim/cut.py" 383), (.int 38 0), (.int 2 0), (.int 0 0), (.int 0 0), (.int 3 0), (.ref 157), (.bool true), (.int 181 0), (.ref 158), .none, (.ref 159), (.ref 160), (.ref 161), (.int 389 0), (.int 38 0), (.str "/claim/cut.py" 390)]) ::
 (nat_lit 163, fO (top 15) "new_values" "new_values" (.str "askviews.terms" 362) (.ref 162)) ::
 (nat_lit 164, tO []) ::
 (nat_lit 167, cO [(.str "image" 394), (.str "image" 395), (.str "/claim/cut.py" 396), (.int 48 0), (.int 2 0), (.int 0 0), (.int 0 0), (.int 3 0), (.ref 164), (.bool true), (.int 181 0), (.ref 165), .none, .none, .none, (.ref 166), (.int 397 0), (.int 48 0), (.str "/claim/cut.py" 398)]) ::
 (nat_lit 168, fO (top 17) "image" "image" (.str "askviews.maps" 392) (.ref 167)) ::
 (nat_lit 169, tO []) ::
 (nat_lit 171, tO [(.str "question" 405), (.str "found" 406), (.str "atom" 407), (.str "term" 408)]) ::
 (nat_lit 172, tO []) ::
 (nat_lit 174, cO [(.str "unknowns_of" 402), (.str "unknowns_of" 403), (.str "/claim/cut.py" 404), (.int 51 0), (.int 1 0), (.int 0 0), (.int 0 0), (.int 3 0), (.ref 169), (.bool true), (.int 181 0), (.ref 170), .none, (.ref 171), (.ref 172), (.ref 173), (.int 409 0), (.int 51 0), (.str "/claim/cut.py" 410)]) ::
 (nat_lit 175, fO (top 19) "unknowns_of" "unknowns_of" (.str "askviews.questions" 400) (.ref 174)) ::
 (nat_lit 176, tO []) ::
 (nat_lit 178, tO [(.str "question" 415), (.str "found" 416), (.str "atom" 417)]) ::
 (nat_lit 179, tO []) ::
 (nat_lit 181, cO [(.str "terms_of" 412), (.str "terms_of" 413), (.str "/claim/cut.py" 414), (.int 58 0), (.int 1 0), (.int 0 0), (.int 0 0), (.int 3 0), (.ref 176), (.bool true), (.int 181 0), (.ref 177), .none, (.ref 178), (.ref 179), (.ref 180), (.int 418 0), (.int 58 0), (.str "/claim/cut.py" 419)]) ::
 (nat_lit 182, fO (top 20) "terms_of" "terms_of" (.str "askviews.questions" 400) (.ref 181)) ::
 (nat_lit 183, tO []) ::
 (nat_lit 185, tO [(.str "views" 426), (.str "question" 427)]) ::
 (nat_lit 186, tO []) ::
 (nat_lit 188, cO [(.str "unfolded" 423), (.str "unfolded" 424), (.str "/claim/cut.py" 425), (.int 64 0), (.int 2 0), (.int 0 0), (.int 0 0), (.int 3 0), (.ref 183), (.bool true), (.int 181 0), (.ref 184), .none, (.ref 185), (.ref 186), (.ref 187), (.int 428 0), (.int 64 0), (.str "/claim/cut.py" 429)]) ::
 (nat_lit 189, fO (top 22) "unfolded" "unfolded" (.str "askviews.unfolding" 421) (.ref 188)) ::
 (nat_lit 190, tO []) ::
 (nat_lit 193, cO [(.str "unfolded_parts" 431), (.str "unfolded_parts" 432), (.str "/claim/cut.py" 433), (.int 66 0), (.int 2 0), (.int 0 0), (.int 0 0), (.int 3 0), (.ref 190), (.bool true), (.int 181 0), (.ref 191), .none, .none, .none, (.ref 192), (.int 434 0), (.int 66 0), (.str "/claim/cut.py" 435)]) ::
 (nat_lit 194, fO (top 23) "unfolded_parts" "unfolded_parts" (.str "askviews.unfolding" 421) (.ref 193)) ::
 (nat_lit 195, tO []) ::
 (nat_lit 197, tO [(.str "parts" 440), (.str "atoms" 441), (.str "part" 442)]) ::
 (nat_lit 198, tO []) ::
 (nat_lit 200, cO [(.str "joined" 437), (.str "joined" 438), (.str "/claim/cut.py" 439), (.int 78 0), (.int 1 0), (.int 0 0), (.int 0 0), (.int 3 0), (.ref 195), (.bool true), (.int 181 0), (.ref 196), .none, (.ref 197), (.ref 198), (.ref 199), (.int 443 0), (.int 78 0), (.str "/claim/cut.py" 444)]) ::
 (nat_lit 201, fO (top 24) "joined" "joined" (.str "askviews.unfolding" 421) (.ref 200)) ::
 (nat_lit 202, tO []) ::
 (nat_lit 204, tO [(.str "kept" 449), (.str "question" 450), (.str "place" 451), (.str "atom" 452), (.str "name" 453), (.str "terms" 454)]) ::
 (nat_lit 205, tO []) ::
 (nat_lit 207, cO [(.str "check_views" 446), (.str "check_views" 447), (.str "/claim/cut.py" 448), (.int 83 0), (.int 2 0), (.int 0 0), (.int 0 0), (.int 3 0), (.ref 202), (.bool true), (.int 181 0), (.ref 203), .none, (.ref 204), (.ref 205), (.ref 206), (.int 455 0), (.int 83 0), (.str "/claim/cut.py" 456)]) ::
 (nat_lit 208, fO (top 25) "check_views" "check_views" (.str "askviews.unfolding" 421) (.ref 207)) ::
 (nat_lit 209, tO []) ::
 (nat_lit 212, cO [(.str "new_unknowns" 458), (.str "new_unknowns" 459), (.str "/claim/cut.py" 460), (.int 88 0), (.int 2 0), (.int 0 0), (.int 0 0), (.int 3 0), (.ref 209), (.bool true), (.int 181 0), (.ref 210), .none, .none, .none, (.ref 211), (.int 461 0), (.int 88 0), (.str "/claim/cut.py" 462)]) ::
 (nat_lit 213, fO (top 26) "new_unknowns" "new_unknowns" (.str "askviews.unfolding" 421) (.ref 212)) ::
 (nat_lit 214, tO []) ::
 (nat_lit 217, cO [(.str "inner_unknowns" 464), (.str "inner_unknowns" 465), (.str "/claim/cut.py" 466), (.int 92 0), (.int 1 0), (.int 0 0), (.int 0 0), (.int 3 0), (.ref 214), (.bool true), (.int 181 0), (.ref 215), .none, .none, .none, (.ref 216), (.int 467 0), (.int 92 0), (.str "/claim/cut.py" 468)]) ::
 (nat_lit 218, fO (top 27) "inner_unknowns" "inner_unknowns" (.str "askviews.unfolding" 421) (.ref 217)) ::
 (nat_lit 219, tO []) ::
 (nat_lit 221, tO [(.str "_law_script" 475), (.str "_law_k" 476)]) ::
 (nat_lit 222, tO []) ::
 (nat_lit 224, cO [(.str "_law_feed" 472), (.str "_law_feed" 473), (.str "/claim/cut.py" 474), (.int 95 0), (.int 2 0), (.int 0 0), (.int 0 0), (.int 3 0), (.ref 219), (.bool true), (.int 181 0), (.ref 220), .none, (.ref 221), (.ref 222), (.ref 223), (.int 477 0), (.int 95 0), (.str "/claim/cut.py" 478)]) ::
 (nat_lit 225, fO (top 29) "_law_feed" "_law_feed" (.str "law_askviews_k42_unfolded_or_no_view" 470) (.ref 224)) ::
 (nat_lit 226, tO []) ::
 (nat_lit 228, tO [(.str "_law_feed_here" 483), (.str "_law_many" 484), (.str "_law_digit" 485), (.str "_law_seed" 486)]) ::
 (nat_lit 229, tO []) ::
 (nat_lit 231, cO [(.str "_law_draw" 480), (.str "_law_draw" 481), (.str "/claim/cut.py" 482), (.int 99 0), (.int 2 0), (.int 0 0), (.int 0 0), (.int 3 0), (.ref 226), (.bool true), (.int 181 0), (.ref 227), .none, (.ref 228), (.ref 229), (.ref 230), (.int 487 0), (.int 99 0), (.str "/claim/cut.py" 488)]) ::
 (nat_lit 232, fO (top 30) "_law_draw" "_law_draw" (.str "law_askviews_k42_unfolded_or_no_view" 470) (.ref 231)) ::
 (nat_lit 233, tO []) ::
 (nat_lit 236, cO [(.str "_law_words" 490), (.str "_law_words" 491), (.str "/claim/cut.py" 492), (.int 108 0), (.int 2 0), (.int 0 0), (.int 0 0), (.int 3 0), (.ref 233), (.bool true), (.int 181 0), (.ref 234), .none, .none, .none, (.ref 235), (.int 493 0), (.int 108 0), (.str "/claim/cut.py" 494)]) ::
 (nat_lit 237, fO (top 31) "_law_words" "_law_words" (.str "law_askviews_k42_unfolded_or_no_view" 470) (.ref 236)) ::
 (nat_lit 238, tO []) ::
 (nat_lit 240, tO [(.str "_law_feed_here" 499), (.str "_law_names" 500), (.str "_law_unknowns_here" 501), (.str "_law_values" 502), (.str "_law_at" 503), (.str "_law_long" 504), (.str "_law_terms" 505), (.str "_law_k" 506), (.str "_law_term" 507)]) ::
 (nat_lit 241, tO []) ::
 (nat_lit 243, cO [(.str "_law_atom" 496), (.str "_law_atom" 497), (.str "/claim/cut.py" 498), (.int 113 0), (.int 4 0), (.int 0 0), (.int 0 0), (.int 3 0), (.ref 238), (.bool true), (.int 181 0), (.ref 239), .none, (.ref 240), (.ref 241), (.ref 242), (.int 508 0), (.int 113 0), (.str "/claim/cut.py" 509)]) ::
 (nat_lit 244, fO (top 32) "_law_atom" "_law_atom" (.str "law_askviews_k42_unfolded_or_no_view" 470) (.ref 243)) ::
 (nat_lit 245, tO []) ::
 (nat_lit 248, cO [(.str "_law_head" 511), (.str "_law_head" 512), (.str "/claim/cut.py" 513), (.int 125 0), (.int 2 0), (.int 0 0), (.int 0 0), (.int 3 0), (.ref 245), (.bool true), (.int 181 0), (.ref 246), .none, .none, .none, (.ref 247), (.int 514 0), (.int 125 0), (.str "/claim/cut.py" 515)]) ::
 (nat_lit 249, fO (top 33) "_law_head" "_law_head" (.str "law_askviews_k42_unfolded_or_no_view" 470) (.ref 248)) ::
 (nat_lit 250, tO []) ::
 (nat_lit 253, cO [(.str "_law_question" 517), (.str "_law_question" 518), (.str "/claim/cut.py" 519), (.int 130 0), (.int 3 0), (.int 0 0), (.int 0 0), (.int 3 0), (.ref 250), (.bool true), (.int 181 0), (.ref 251), .none, .none, .none, (.ref 252), (.int 520 0), (.int 130 0), (.str "/claim/cut.py" 521)]) ::
 (nat_lit 254, fO (top 34) "_law_question" "_law_question" (.str "law_askviews_k42_unfolded_or_no_view" 470) (.ref 253)) ::
 (nat_lit 255, tO []) ::
 (nat_lit 258, cO [(.str "_law_unknowns" 523), (.str "_law_unknowns" 524), (.str "/claim/cut.py" 525), (.int 138 0), (.int 1 0), (.int 0 0), (.int 0 0), (.int 3 0), (.ref 255), (.bool true), (.int 181 0), (.ref 256), .none, .none, .none, (.ref 257), (.int 526 0), (.int 138 0), (.str "/claim/cut.py" 527)]) ::
 (nat_lit 259, fO (top 35) "_law_unknowns" "_law_unknowns" (.str "law_askviews_k42_unfolded_or_no_view" 470) (.ref 258)) ::
 (nat_lit 260, tO []) ::
 (nat_lit 262, tO [(.str "_law_feed_here" 532), (.str "_law_names" 533), (.str "_law_most" 534), (.str "_law_made" 535), (.str "_law_some" 536), (.str "_law_name" 537), (.str "_law_terms" 538), (.str "_law_head_here" 539), (.str "_law_k" 540), (.str "_law_unknown" 541)]) ::
 (nat_lit 263, tO []) ::
 (nat_lit 265, cO [(.str "_law_view_question" 529), (.str "_law_view_question" 530), (.str "/claim/cut.py" 531), (.int 143 0), (.int 3 0), (.int 0 0), (.int 0 0), (.int 3 0), (.ref 260), (.bool true), (.int 181 0), (.ref 261), .none, (.ref 262), (.ref 263), (.ref 264), (.int 542 0), (.int 143 0), (.str "/claim/cut.py" 543)]) ::
 (nat_lit 266, fO (top 36) "_law_view_question" "_law_view_question" (.str "law_askviews_k42_unfolded_or_no_view" 470) (.ref 265)) ::
 (nat_lit 267, tO []) ::
 (nat_lit 270, cO [(.str "_law_views" 545), (.str "_law_views" 546), (.str "/claim/cut.py" 547), (.int 156 0), (.int 3 0), (.int 0 0), (.int 0 0), (.int 3 0), (.ref 267), (.bool true), (.int 181 0), (.ref 268), .none, .none, .none, (.ref 269), (.int 548 0), (.int 156 0), (.str "/claim/cut.py" 549)]) ::
 (nat_lit 271, fO (top 37) "_law_views" "_law_views" (.str "law_askviews_k42_unfolded_or_no_view" 470) (.ref 270)) ::
 (nat_lit 272, tO []) ::
 (nat_lit 275, cO [(.str "_law_over" 551), (.str "_law_over" 552), (.str "/claim/cut.py" 553), (.int 158 0), (.int 2 0), (.int 0 0), (.int 0 0), (.int 3 0), (.ref 272), (.bool true), (.int 181 0), (.ref 273), .none, .none, .none, (.ref 274), (.int 554 0), (.int 158 0), (.str "/claim/cut.py" 555)]) ::
 (nat_lit 276, fO (top 38) "_law_over" "_law_over" (.str "law_askviews_k42_unfolded_or_no_view" 470) (.ref 275)) ::
 (nat_lit 277, tO []) ::
 (nat_lit 280, cO [(.str "_law_unfolded_right" 557), (.str "_law_unfolded_right" 558), (.str "/claim/cut.py" 559), (.int 168 0), (.int 3 0), (.int 0 0), (.int 0 0), (.int 3 0), (.ref 277), (.bool true), (.int 181 0), (.ref 278), .none, .none, .none, (.ref 279), (.int 560 0), (.int 168 0), (.str "/claim/cut.py" 561)]) ::
 (nat_lit 281, fO (top 39) "_law_unfolded_right" "_law_unfolded_right" (.str "law_askviews_k42_unfolded_or_no_view" 470) (.ref 280)) ::
 (nat_lit 282, tO []) ::
 (nat_lit 285, cO [(.str "_law_laid" 563), (.str "_law_laid" 564), (.str "/claim/cut.py" 565), (.int 182 0), (.int 5 0), (.int 0 0), (.int 0 0), (.int 3 0), (.ref 282), (.bool true), (.int 181 0), (.ref 283), .none, .none, .none, (.ref 284), (.int 566 0), (.int 182 0), (.str "/claim/cut.py" 567)]) ::
 (nat_lit 286, fO (top 40) "_law_laid" "_law_laid" (.str "law_askviews_k42_unfolded_or_no_view" 470) (.ref 285)) ::
 (nat_lit 287, tO []) ::
 (nat_lit 290, cO [(.str "_law_is_unknown" 569), (.str "_law_is_unknown" 570), (.str "/claim/cut.py" 571), (.int 197 0), (.int 1 0), (.int 0 0), (.int 0 0), (.int 3 0), (.ref 287), (.bool true), (.int 181 0), (.ref 288), .none, .none, .none, (.ref 289), (.int 572 0), (.int 197 0), (.str "/claim/cut.py" 573)]) ::
 (nat_lit 291, fO (top 41) "_law_is_unknown" "_law_is_unknown" (.str "law_askviews_k42_unfolded_or_no_view" 470) (.ref 290)) ::
 (nat_lit 292, tO []) ::
 (nat_lit 294, tO [(.str "_law_views_here" 578), (.str "_law_question_here" 579), (.str "_law_place_here" 580), (.str "e" 581)]) ::
 (nat_lit 295, tO []) ::
 (nat_lit 297, cO [(.str "_law_refused" 575), (.str "_law_refused" 576), (.str "/claim/cut.py" 577), (.int 201 0), (.int 2 0), (.int 0 0), (.int 0 0), (.int 3 0), (.ref 292), (.bool true), (.int 181 0), (.ref 293), .none, (.ref 294), (.ref 295), (.ref 296), (.int 582 0), (.int 201 0), (.str "/claim/cut.py" 583)]) ::
 (nat_lit 298, fO (top 42) "_law_refused" "_law_refused" (.str "law_askviews_k42_unfolded_or_no_view" 470) (.ref 297)) ::
 (nat_lit 299, tO []) ::
 (nat_lit 302, cO [(.str "_law_bent_over" 585), (.str "_law_bent_over" 586), (.str "/claim/cut.py" 587), (.int 212 0), (.int 3 0), (.int 0 0), (.int 0 0), (.int 3 0), (.ref 299), (.bool true), (.int 181 0), (.ref 300), .none, .none, .none, (.ref 301), (.int 588 0), (.int 212 0), (.str "/claim/cut.py" 589)]) ::
 (nat_lit 303, fO (top 43) "_law_bent_over" "_law_bent_over" (.str "law_askviews_k42_unfolded_or_no_view" 470) (.ref 302)) ::
 (nat_lit 304, tO []) ::
 (nat_lit 307, cO [(.str "_law_place" 591), (.str "_law_place" 592), (.str "/claim/cut.py" 593), (.int 230 0), (.int 2 0), (.int 0 0), (.int 0 0), (.int 3 0), (.ref 304), (.bool true), (.int 181 0), (.ref 305), .none, .none, .none, (.ref 306), (.int 594 0), (.int 230 0), (.str "/claim/cut.py" 595)]) ::
 (nat_lit 308, fO (top 44) "_law_place" "_law_place" (.str "law_askviews_k42_unfolded_or_no_view" 470) (.ref 307)) ::
 (nat_lit 309, tO []) ::
 (nat_lit 312, cO [(.str "_law_called_so" 597), (.str "_law_called_so" 598), (.str "/claim/cut.py" 599), (.int 236 0), (.int 3 0), (.int 0 0), (.int 0 0), (.int 3 0), (.ref 309), (.bool true), (.int 181 0), (.ref 310), .none, .none, .none, (.ref 311), (.int 600 0), (.int 236 0), (.str "/claim/cut.py" 601)]) ::
 (nat_lit 313, fO (top 45) "_law_called_so" "_law_called_so" (.str "law_askviews_k42_unfolded_or_no_view" 470) (.ref 312)) ::
 (nat_lit 314, tO []) ::
 (nat_lit 317, cO [(.str "_law_again" 603), (.str "_law_again" 604), (.str "/claim/cut.py" 605), (.int 238 0), (.int 4 0), (.int 0 0), (.int 0 0), (.int 3 0), (.ref 314), (.bool true), (.int 181 0), (.ref 315), .none, .none, .none, (.ref 316), (.int 606 0), (.int 238 0), (.str "/claim/cut.py" 607)]) ::
 (nat_lit 318, fO (top 46) "_law_again" "_law_again" (.str "law_askviews_k42_unfolded_or_no_view" 470) (.ref 317)) ::
 (nat_lit 319, tO []) ::
 (nat_lit 321, tO [(.str "_law_script" 612), (.str "_law_j" 613), (.str "_law_feed_here" 614), (.str "_law_names" 615), (.str "_law_views_here" 616), (.str "_law_question_here" 617), (.str "_law_handed" 618), (.str "_law_turn" 619), (.str "_law_found" 620), (.str "_law_k" 621), (.str "_law_some" 622)]) ::
 (nat_lit 322, tO []) ::
 (nat_lit 324, cO [(.str "law" 609), (.str "law" 610), (.str "/claim/cut.py" 611), (.int 258 0), (.int 1 0), (.int 0 0), (.int 0 0), (.int 3 0), (.ref 319), (.bool true), (.int 181 0), (.ref 320), .none, (.ref 321), (.ref 322), (.ref 323), (.int 623 0), (.int 258 0), (.str "/claim/cut.py" 624)]) ::
 (nat_lit 325, fO (top 47) "law" "law" (.str "law_askviews_k42_unfolded_or_no_view" 470) (.ref 324)) :: []
def asF : List Addr := [2, 3, 15, 22, 23, 24, 25, 28, 35, 37, 38, 40, 41, 42, 43, 44, 47, 54, 56, 57, 59, 60, 61, 62, 63, 66, 73, 75, 76, 78, 79, 80, 81, 82, 85, 92, 93, 94, 97, 104, 105, 106, 109, 116, 117, 118, 121, 128, 129, 130, 133, 140, 141, 142, 145, 148, 149, 150, 152, 153, 155, 156, 157, 159, 160, 162, 163, 164, 167, 168, 169, 171, 172, 174, 175, 176, 178, 179, 181, 182, 183, 185, 186, 188, 189, 190, 193, 194, 195, 197, 198, 200, 201, 202, 204, 205, 207, 208, 209, 212, 213, 214, 217, 218, 219, 221, 222, 224, 225, 226, 228, 229, 231, 232, 233, 236, 237, 238, 240, 241, 243, 244, 245, 248, 249, 250, 253, 254, 255, 258, 259, 260, 262, 263, 265, 266, 267, 270, 271, 272, 275, 276, 277, 280, 281, 282, 285, 286, 287, 290, 291, 292, 294, 295, 297, 298, 299, 302, 303, 304, 307, 308, 309, 312, 313, 314, 317, 318, 319, 321, 322, 324, 325]
def HF : PySem.W.Hook := PySem.W.kHook KF asF fun _ => by kernel_rfl
def qf (p : Program) : Program := { p with main := { p.main with body := [1, 2, 3, 4, 5, 6, 7, 8, 9, 11, 12, 13, 14, 15, 17, 19, 20, 22, 23, 24, 25, 26, 27, 29, 30, 31, 32, 33, 34, 35, 36, 37, 38, 39, 40, 41, 42, 43, 44, 45, 46, 47].filterMap fun i => p.main.body[i]? } }
abbrev XF (p : Program) (s : Shared) : Bool := PySem.W.xlAt (qf p) [] s && PySem.W.recOk [] s
abbrev LF (p : Program) : Prop := PySem.W.LeftO p (qf p) [] (XF p) (PySem.W.Hook.obs HF) (PySem.W.Hook.val HF) 6034
lay_quick PySem.Challenge.pw_askviews_k42_unfolded_or_no_view
noncomputable abbrev pL : Program := PySem.W.Fast.tw10977194251259056839
theorem okL : Hd.Ok pL 2955 := ⟨fun w os => by kernel_rfl, fun w os => by kernel_rfl, fun w os => by kernel_rfl, fun w os => by kernel_rfl⟩
theorem l1L (w : World) (os : OsState) : (PySem.W.staticsOk (importedModules pL.main.body) (PySem.W.boot_heap w.params) (Hd.fin pL 2955 w os).heap && PySem.W.namesBound pL (Hd.fin pL 2955 w os).heap && PySem.W.gensDone (Hd.fin pL 2955 w os) && PySem.W.laidKept (PySem.W.boot_heap w.params) (Hd.fin pL 2955 w os).heap) = true := by kernel_rfl
theorem l2L (w : World) (os : OsState) : PySem.W.Fast.tw4187177175401517315 (qf pL) [] (importedModules pL.main.body) (XF pL) true (Hd.fin pL 2955 w os) = PySem.W.openGood (qf pL) [] := by kernel_rfl
theorem l3L (w : World) (os : OsState) : asF.map (Hd.fin pL 2955 w os).heap.get? = (KF w.params).map fun p => some p.2 := by kernel_rfl
theorem headL : LF pL := Hd.left (n := 2955) okL (by kernel_rfl) (by kernel_rfl) (by kernel_rfl) (fun s => by kernel_rfl) l1L (fun w os => by rw [PySem.W.Fast.te4187177175401517315]; exact l2L w os) l3L
theorem head : LF PySem.Challenge.pw_askviews_k42_unfolded_or_no_view := PySem.W.Fast.te10977194251259056839 ▸ headL
theorem scr_of {K : PySem.W.Frag} {H : Hp} {a : Addr} {xs : List V} (hO : Only H) (h : SqL K H a xs) : Scr K H a xs := by
 rcases h with (h | h) | h
 ·rcases hO a with e | ⟨o, ys, e⟩
  ·rw [e] at h; cases h
  ·rw [e] at h; cases h
 ·exact .inl h
 ·exact .inr h
theorem all_mk {l : PySem.W.OpenLaw} {w : World} {K : PySem.W.Frag} {h : Heap} {mg : Str → Option Value} {fa A0 c0 c1 c2 c3 c4 c5 c6 c7 f5 g1 g2 g3 g4 g5 g6 g7 g8 g9 g10 g11 g12 g13 g14 g15 g16 g17 g18 g19 g20 g21 g22 g23 g24 g25 g26 g27 g28 g29 g30 g31 : Addr} (X : K.In h) (G : h.Ns mainGlobals mg) (hfa : mg "law" = some (.ref fa))
  {od1 od2 od3 od4 od5 od6 od7 od8 od9 od10 od11 od12 od13 od14 od15 od16 od17 od18 od19 od20 od21 od22 od23 od24 od25 od26 od27 od28 od29 od30 od31 an1 an2 an3 an4 an5 an6 an7 an8 an9 an10 an11 an12 an13 an14 an15 an16 an17 an18 an19 an20 an21 an22 an23 an24 an25 an26 an27 an28 an29 an30 an31 iod5 ian5 : Option Addr} {sl1 sl2 sl3 sl4 sl5 sl6 sl7 sl8 sl9 sl10 sl11 sl12 sl13 sl14 sl15 sl16 sl17 sl18 sl19 sl20 sl21 sl22 sl23 sl24 sl25 sl26 sl27 sl28 sl29 sl30 sl31 isl5 : Array (Option Value)} {oc1 oc2 oc3 oc4 oc5 oc6 oc7 oc8 oc9 oc10 oc11 oc12 oc13 oc14 oc15 oc16 oc17 oc18 oc19 oc20 oc21 oc22 oc23 oc24 oc25 oc26 oc27 oc28 oc29 oc30 oc31 kV1 kV2 kV3 kV4 kV5 kV6 kV7 kV8 kV9 kV10 kV11 kV12 kV13 kV14 kV15 kV16 kV17 kV18 kV19 kV20 kV21 kV22 kV23 kV24 kV25 kV26 kV27 kV28 kV29 kV30 kV31 dc1 dc2 dc3 dc4 dc5 dc6 dc7 dc8 dc9 dc10 dc11 dc12 dc13 dc14 dc15 dc16 dc17 dc18 dc19 dc20 dc21 dc22 dc23 dc24 dc25 dc26 dc27 dc28 dc29 dc30 dc31 pm1 pm2 pm3 pm4 pm5 pm6 pm7 pm8 pm9 pm10 pm11 pm12 pm13 pm14 pm15 pm16 pm17 pm18 pm19 pm20 pm21 pm22 pm23 pm24 pm25 pm26 pm27 pm28 pm29 pm30 pm31 cd1 cd2 cd3 cd4 cd5 cd6 cd7 cd8 cd9 cd10 cd11 cd12 cd13 cd14 cd15 cd16 cd17 cd18 cd19 cd20 cd21 cd22 cd23 cd24 cd25 cd26 cd27 cd28 cd29 cd30 cd31 ct1 ct2 ct3 ct4 ct5 ct6 ct7 ct8 ct9 ct10 ct11 ct12 ct13 ct14 ct15 ct16 ct17 ct18 ct19 ct20 ct21 ct22 ct23 ct24 ct25 ct26 ct27 ct28 ct29 ct30 ct31 : Value} {ioc5 ikV5 idc5 ipm5 icd5 ict5 : Value} {t0 t1 : Tok}
  (a1 : PySem.W.nsIn K mainGlobals "is_value" = some (some (.ref g1)))
  (l1 : K.lookup g1 = some ⟨oc1, od1, .func (PySem.W.fnOf "is_value" "is_value" (defArgs s_is_value) (defBody s_is_value) (defScope s_is_value) .none kV1 dc1 pm1 an1 cd1 ct1), sl1⟩)
  (k1 : PySem.W.codeIn K cd1 "is_value" = true)
  (p1 : PySem.W.keepIn K (.ref g1) = true)
  (a2 : PySem.W.nsIn K mainGlobals "is_unknown" = some (some (.ref g2)))
  (l2 : K.lookup g2 = some ⟨oc2, od2, .func (PySem.W.fnOf "is_unknown" "is_unknown" (defArgs s_is_unknown) (defBody s_is_unknown) (defScope s_is_unknown) .none kV2 dc2 pm2 an2 cd2 ct2), sl2⟩)
  (k2 : PySem.W.codeIn K cd2 "is_unknown" = true)
  (p2 : PySem.W.keepIn K (.ref g2) = true)
  (a3 : PySem.W.nsIn K mainGlobals "new_values" = some (some (.ref g3)))
  (l3 : K.lookup g3 = some ⟨oc3, od3, .func (PySem.W.fnOf "new_values" "new_values" (defArgs s_new_values) (defBody s_new_values) (defScope s_new_values) .none kV3 dc3 pm3 an3 cd3 ct3), sl3⟩)
  (k3 : PySem.W.codeIn K cd3 "new_values" = true)
  (p3 : PySem.W.keepIn K (.ref g3) = true)
  (a4 : PySem.W.nsIn K mainGlobals "image" = some (some (.ref g4)))
  (l4 : K.lookup g4 = some ⟨oc4, od4, .func (PySem.W.fnOf "image" "image" (defArgs s_image) (defBody s_image) (defScope s_image) .none kV4 dc4 pm4 an4 cd4 ct4), sl4⟩)
  (k4 : PySem.W.codeIn K cd4 "image" = true)
  (p4 : PySem.W.keepIn K (.ref g4) = true)
  (a5 : PySem.W.nsIn K mainGlobals "unknowns_of" = some (some (.ref g5)))
  (l5 : K.lookup g5 = some ⟨oc5, od5, .func (PySem.W.fnOf "unknowns_of" "unknowns_of" (defArgs s_unknowns_of) (defBody s_unknowns_of) (defScope s_unknowns_of) .none kV5 dc5 pm5 an5 cd5 ct5), sl5⟩)
  (k5 : PySem.W.codeIn K cd5 "unknowns_of" = true)
  (p5 : PySem.W.keepIn K (.ref g5) = true)
  (a6 : PySem.W.nsIn K mainGlobals "terms_of" = some (some (.ref g6)))
  (l6 : K.lookup g6 = some ⟨oc6, od6, .func (PySem.W.fnOf "terms_of" "terms_of" (defArgs s_terms_of) (defBody s_terms_of) (defScope s_terms_of) .none kV6 dc6 pm6 an6 cd6 ct6), sl6⟩)
  (k6 : PySem.W.codeIn K cd6 "terms_of" = true)
  (p6 : PySem.W.keepIn K (.ref g6) = true)
  (a7 : PySem.W.nsIn K mainGlobals "unfolded" = some (some (.ref g7)))
  (l7 : K.lookup g7 = some ⟨oc7, od7, .func (PySem.W.fnOf "unfolded" "unfolded" (defArgs s_unfolded) (defBody s_unfolded) (defScope s_unfolded) .none kV7 dc7 pm7 an7 cd7 ct7), sl7⟩)
  (k7 : PySem.W.codeIn K cd7 "unfolded" = true)
  (p7 : PySem.W.keepIn K (.ref g7) = true)
  (a8 : PySem.W.nsIn K mainGlobals "unfolded_parts" = some (some (.ref g8)))
  (l8 : K.lookup g8 = some ⟨oc8, od8, .func (PySem.W.fnOf "unfolded_parts" "unfolded_parts" (defArgs s_unfolded_parts) (defBody s_unfolded_parts) (defScope s_unfolded_parts) .none kV8 dc8 pm8 an8 cd8 ct8), sl8⟩)
  (k8 : PySem.W.codeIn K cd8 "unfolded_parts" = true)
  (p8 : PySem.W.keepIn K (.ref g8) = true)
  (a9 : PySem.W.nsIn K mainGlobals "joined" = some (some (.ref g9)))
  (l9 : K.lookup g9 = some ⟨oc9, od9, .func (PySem.W.fnOf "joined" "joined" (defArgs s_joined) (defBody s_joined) (defScope s_joined) .none kV9 dc9 pm9 an9 cd9 ct9), sl9⟩)
  (k9 : PySem.W.codeIn K cd9 "joined" = true)
  (p9 : PySem.W.keepIn K (.ref g9) = true)
  (a10 : PySem.W.nsIn K mainGlobals "check_views" = some (some (.ref g10)))
  (l10 : K.lookup g10 = some ⟨oc10, od10, .func (PySem.W.fnOf "check_views" "check_views" (defArgs s_check_views) (defBody s_check_views) (defScope s_check_views) .none kV10 dc10 pm10 an10 cd10 ct10), sl10⟩)
  (k10 : PySem.W.codeIn K cd10 "check_views" = true)
  (p10 : PySem.W.keepIn K (.ref g10) = true)
  (a11 : PySem.W.nsIn K mainGlobals "new_unknowns" = some (some (.ref g11)))
  (l11 : K.lookup g11 = some ⟨oc11, od11, .func (PySem.W.fnOf "new_unknowns" "new_unknowns" (defArgs s_new_unknowns) (defBody s_new_unknowns) (defScope s_new_unknowns) .none kV11 dc11 pm11 an11 cd11 ct11), sl11⟩)
  (k11 : PySem.W.codeIn K cd11 "new_unknowns" = true)
  (p11 : PySem.W.keepIn K (.ref g11) = true)
  (a12 : PySem.W.nsIn K mainGlobals "inner_unknowns" = some (some (.ref g12)))
  (l12 : K.lookup g12 = some ⟨oc12, od12, .func (PySem.W.fnOf "inner_unknowns" "inner_unknowns" (defArgs s_inner_unknowns) (defBody s_inner_unknowns) (defScope s_inner_unknowns) .none kV12 dc12 pm12 an12 cd12 ct12), sl12⟩)
  (k12 : PySem.W.codeIn K cd12 "inner_unknowns" = true)
  (p12 : PySem.W.keepIn K (.ref g12) = true)
  (a13 : PySem.W.nsIn K mainGlobals "_law_feed" = some (some (.ref g13)))
  (l13 : K.lookup g13 = some ⟨oc13, od13, .func (PySem.W.fnOf "_law_feed" "_law_feed" (defArgs s_l_feed) (defBody s_l_feed) (defScope s_l_feed) .none kV13 dc13 pm13 an13 cd13 ct13), sl13⟩)
  (k13 : PySem.W.codeIn K cd13 "_law_feed" = true)
  (p13 : PySem.W.keepIn K (.ref g13) = true)
  (a14 : PySem.W.nsIn K mainGlobals "_law_draw" = some (some (.ref g14)))
  (l14 : K.lookup g14 = some ⟨oc14, od14, .func (PySem.W.fnOf "_law_draw" "_law_draw" (defArgs s_l_draw) (defBody s_l_draw) (defScope s_l_draw) .none kV14 dc14 pm14 an14 cd14 ct14), sl14⟩)
  (k14 : PySem.W.codeIn K cd14 "_law_draw" = true)
  (p14 : PySem.W.keepIn K (.ref g14) = true)
  (a15 : PySem.W.nsIn K mainGlobals "_law_words" = some (some (.ref g15)))
  (l15 : K.lookup g15 = some ⟨oc15, od15, .func (PySem.W.fnOf "_law_words" "_law_words" (defArgs s_l_words) (defBody s_l_words) (defScope s_l_words) .none kV15 dc15 pm15 an15 cd15 ct15), sl15⟩)
  (k15 : PySem.W.codeIn K cd15 "_law_words" = true)
  (p15 : PySem.W.keepIn K (.ref g15) = true)
  (a16 : PySem.W.nsIn K mainGlobals "_law_atom" = some (some (.ref g16)))
  (l16 : K.lookup g16 = some ⟨oc16, od16, .func (PySem.W.fnOf "_law_atom" "_law_atom" (defArgs s_l_atom) (defBody s_l_atom) (defScope s_l_atom) .none kV16 dc16 pm16 an16 cd16 ct16), sl16⟩)
  (k16 : PySem.W.codeIn K cd16 "_law_atom" = true)
  (p16 : PySem.W.keepIn K (.ref g16) = true)
  (a17 : PySem.W.nsIn K mainGlobals "_law_head" = some (some (.ref g17)))
  (l17 : K.lookup g17 = some ⟨oc17, od17, .func (PySem.W.fnOf "_law_head" "_law_head" (defArgs s_l_head) (defBody s_l_head) (defScope s_l_head) .none kV17 dc17 pm17 an17 cd17 ct17), sl17⟩)
  (k17 : PySem.W.codeIn K cd17 "_law_head" = true)
  (p17 : PySem.W.keepIn K (.ref g17) = true)
  (a18 : PySem.W.nsIn K mainGlobals "_law_question" = some (some (.ref g18)))
  (l18 : K.lookup g18 = some ⟨oc18, od18, .func (PySem.W.fnOf "_law_question" "_law_question" (defArgs s_l_question) (defBody s_l_question) (defScope s_l_question) .none kV18 dc18 pm18 an18 cd18 ct18), sl18⟩)
  (k18 : PySem.W.codeIn K cd18 "_law_question" = true)
  (p18 : PySem.W.keepIn K (.ref g18) = true)
  (a19 : PySem.W.nsIn K mainGlobals "_law_unknowns" = some (some (.ref g19)))
  (l19 : K.lookup g19 = some ⟨oc19, od19, .func (PySem.W.fnOf "_law_unknowns" "_law_unknowns" (defArgs s_l_unknowns) (defBody s_l_unknowns) (defScope s_l_unknowns) .none kV19 dc19 pm19 an19 cd19 ct19), sl19⟩)
  (k19 : PySem.W.codeIn K cd19 "_law_unknowns" = true)
  (p19 : PySem.W.keepIn K (.ref g19) = true)
  (a20 : PySem.W.nsIn K mainGlobals "_law_view_question" = some (some (.ref g20)))
  (l20 : K.lookup g20 = some ⟨oc20, od20, .func (PySem.W.fnOf "_law_view_question" "_law_view_question" (defArgs s_l_view_question) (defBody s_l_view_question) (defScope s_l_view_question) .none kV20 dc20 pm20 an20 cd20 ct20), sl20⟩)
  (k20 : PySem.W.codeIn K cd20 "_law_view_question" = true)
  (p20 : PySem.W.keepIn K (.ref g20) = true)
  (a21 : PySem.W.nsIn K mainGlobals "_law_views" = some (some (.ref g21)))
  (l21 : K.lookup g21 = some ⟨oc21, od21, .func (PySem.W.fnOf "_law_views" "_law_views" (defArgs s_l_views) (defBody s_l_views) (defScope s_l_views) .none kV21 dc21 pm21 an21 cd21 ct21), sl21⟩)
  (k21 : PySem.W.codeIn K cd21 "_law_views" = true)
  (p21 : PySem.W.keepIn K (.ref g21) = true)
  (a22 : PySem.W.nsIn K mainGlobals "_law_over" = some (some (.ref g22)))
  (l22 : K.lookup g22 = some ⟨oc22, od22, .func (PySem.W.fnOf "_law_over" "_law_over" (defArgs s_l_over) (defBody s_l_over) (defScope s_l_over) .none kV22 dc22 pm22 an22 cd22 ct22), sl22⟩)
  (k22 : PySem.W.codeIn K cd22 "_law_over" = true)
  (p22 : PySem.W.keepIn K (.ref g22) = true)
  (a23 : PySem.W.nsIn K mainGlobals "_law_unfolded_right" = some (some (.ref g23)))
  (l23 : K.lookup g23 = some ⟨oc23, od23, .func (PySem.W.fnOf "_law_unfolded_right" "_law_unfolded_right" (defArgs s_l_unfolded_right) (defBody s_l_unfolded_right) (defScope s_l_unfolded_right) .none kV23 dc23 pm23 an23 cd23 ct23), sl23⟩)
  (k23 : PySem.W.codeIn K cd23 "_law_unfolded_right" = true)
  (p23 : PySem.W.keepIn K (.ref g23) = true)
  (a24 : PySem.W.nsIn K mainGlobals "_law_laid" = some (some (.ref g24)))
  (l24 : K.lookup g24 = some ⟨oc24, od24, .func (PySem.W.fnOf "_law_laid" "_law_laid" (defArgs s_l_laid) (defBody s_l_laid) (defScope s_l_laid) .none kV24 dc24 pm24 an24 cd24 ct24), sl24⟩)
  (k24 : PySem.W.codeIn K cd24 "_law_laid" = true)
  (p24 : PySem.W.keepIn K (.ref g24) = true)
  (a25 : PySem.W.nsIn K mainGlobals "_law_is_unknown" = some (some (.ref g25)))
  (l25 : K.lookup g25 = some ⟨oc25, od25, .func (PySem.W.fnOf "_law_is_unknown" "_law_is_unknown" (defArgs s_l_is_unknown) (defBody s_l_is_unknown) (defScope s_l_is_unknown) .none kV25 dc25 pm25 an25 cd25 ct25), sl25⟩)
  (k25 : PySem.W.codeIn K cd25 "_law_is_unknown" = true)
  (p25 : PySem.W.keepIn K (.ref g25) = true)
  (a26 : PySem.W.nsIn K mainGlobals "_law_refused" = some (some (.ref g26)))
  (l26 : K.lookup g26 = some ⟨oc26, od26, .func (PySem.W.fnOf "_law_refused" "_law_refused" (defArgs s_l_refused) (defBody s_l_refused) (defScope s_l_refused) .none kV26 dc26 pm26 an26 cd26 ct26), sl26⟩)
  (k26 : PySem.W.codeIn K cd26 "_law_refused" = true)
  (p26 : PySem.W.keepIn K (.ref g26) = true)
  (a27 : PySem.W.nsIn K mainGlobals "_law_bent_over" = some (some (.ref g27)))
  (l27 : K.lookup g27 = some ⟨oc27, od27, .func (PySem.W.fnOf "_law_bent_over" "_law_bent_over" (defArgs s_l_bent_over) (defBody s_l_bent_over) (defScope s_l_bent_over) .none kV27 dc27 pm27 an27 cd27 ct27), sl27⟩)
  (k27 : PySem.W.codeIn K cd27 "_law_bent_over" = true)
  (p27 : PySem.W.keepIn K (.ref g27) = true)
  (a28 : PySem.W.nsIn K mainGlobals "_law_place" = some (some (.ref g28)))
  (l28 : K.lookup g28 = some ⟨oc28, od28, .func (PySem.W.fnOf "_law_place" "_law_place" (defArgs s_l_place) (defBody s_l_place) (defScope s_l_place) .none kV28 dc28 pm28 an28 cd28 ct28), sl28⟩)
  (k28 : PySem.W.codeIn K cd28 "_law_place" = true)
  (p28 : PySem.W.keepIn K (.ref g28) = true)
  (a29 : PySem.W.nsIn K mainGlobals "_law_called_so" = some (some (.ref g29)))
  (l29 : K.lookup g29 = some ⟨oc29, od29, .func (PySem.W.fnOf "_law_called_so" "_law_called_so" (defArgs s_l_called_so) (defBody s_l_called_so) (defScope s_l_called_so) .none kV29 dc29 pm29 an29 cd29 ct29), sl29⟩)
  (k29 : PySem.W.codeIn K cd29 "_law_called_so" = true)
  (p29 : PySem.W.keepIn K (.ref g29) = true)
  (a30 : PySem.W.nsIn K mainGlobals "_law_again" = some (some (.ref g30)))
  (l30 : K.lookup g30 = some ⟨oc30, od30, .func (PySem.W.fnOf "_law_again" "_law_again" (defArgs s_l_again) (defBody s_l_again) (defScope s_l_again) .none kV30 dc30 pm30 an30 cd30 ct30), sl30⟩)
  (k30 : PySem.W.codeIn K cd30 "_law_again" = true)
  (p30 : PySem.W.keepIn K (.ref g30) = true)
  (a31 : PySem.W.nsIn K mainGlobals "law" = some (some (.ref g31)))
  (l31 : K.lookup g31 = some ⟨oc31, od31, .func (PySem.W.fnOf "law" "law" (defArgs s_law) (defBody s_law) (defScope s_law) .none kV31 dc31 pm31 an31 cd31 ct31), sl31⟩)
  (k31 : PySem.W.codeIn K cd31 "law" = true)
  (p31 : PySem.W.keepIn K (.ref g31) = true)
  (z0 : PySem.W.nsIn K mainGlobals "len" = some none)
  (z1 : PySem.W.nsIn K mainGlobals "range" = some none)
  (z2 : PySem.W.nsIn K mainGlobals "tuple" = some none)
  (z3 : PySem.W.nsIn K mainGlobals "list" = some none)
  (z4 : PySem.W.nsIn K mainGlobals "isinstance" = some none)
  (z5 : PySem.W.nsIn K mainGlobals "all" = some none)
  (z6 : PySem.W.nsIn K mainGlobals "str" = some none)
  (z7 : PySem.W.nsIn K mainGlobals "bool" = some none)
  (z8 : PySem.W.nsIn K mainGlobals "int" = some none)
  (z9 : PySem.W.nsIn K mainGlobals "dict" = some none)
  (z10 : PySem.W.nsIn K mainGlobals "enumerate" = some none)
  (z11 : PySem.W.nsIn K mainGlobals "zip" = some none)
  (z12 : PySem.W.nsIn K mainGlobals "sum" = some none)
  (z13 : PySem.W.nsIn K mainGlobals "ValueError" = some none)
  (mc0 : PySem.W.nsIn K mainGlobals "SIGNS" = some (some (.str "abcdefghijklmnopqrstuvwxyz0123456789" t0)))
  (mc1 : PySem.W.nsIn K mainGlobals "MOST_SIGNS" = some (some (.int 8 t1)))
  (aA : PySem.W.nsIn K mainGlobals "AskError" = some (some (.ref A0)))
  (bs : PySem.W.specialIn K (.ref A0) "__getattribute__" = some (some (.builtin "type.__getattribute__")))
  (br : PySem.W.readsIn K A0 (.type "type") = true)
  (bf : PySem.W.findCls K (.ref A0) (.type "type") "__init__" = some (.val (.builtin "ValueError.__init__")))
  (qA : excInI K A0 bmV "ValueError.__new__" = true)
  (xg : PySem.W.specialIn K (.builtin "object.__class__") "__get__" = some (some (.builtin "getset_descriptor.__get__")))
  (xt : PySem.W.takesIn K (.builtin "object.__class__") = some true)
  (m0 : PySem.W.nsIn K mainGlobals "Loose" = some (some (.ref c0)))
  (m1 : PySem.W.nsIn K mainGlobals "NoAsk" = some (some (.ref c1)))
  (m2 : PySem.W.nsIn K mainGlobals "NoHeld" = some (some (.ref c2)))
  (m3 : PySem.W.nsIn K mainGlobals "NoRow" = some (some (.ref c3)))
  (m4 : PySem.W.nsIn K mainGlobals "NoText" = some (some (.ref c4)))
  (m5 : PySem.W.nsIn K mainGlobals "NoView" = some (some (.ref c5)))
  (m6 : PySem.W.nsIn K mainGlobals "TooMany" = some (some (.ref c6)))
  (m7 : PySem.W.nsIn K mainGlobals "Twice" = some (some (.ref c7)))
  (kp5 : PySem.W.keepIn K (.ref c5) = true)
  (xa5 : PySem.W.findIn K (.ref c5) "__getattribute__" = some (some (.builtin "BaseException.__getattribute__")))
  (xb5 : PySem.W.findIn K (.ref c5) "__getattr__" = some none)
  (xc5 : PySem.W.findIn K (.ref c5) "__setattr__" = some (some (.builtin "object.__setattr__")))
  (xd5 : PySem.W.mroIn K c5 (.type "BaseException") = some true)
  (xe5 : PySem.W.mroIn K c5 (.type "object") = some true)
  (xf5 : PySem.W.hasDictIn K c5 = true)
  (xh5 : (PySem.W.clsIn K c5).any (fun cd => exTail cd.mro) = true)
  (xi5 : PySem.W.findIn K (.ref c5) "__class__" = some (some (.builtin "object.__class__")))
  (q5 : excInI K c5 bmV "ValueError.__new__" = true)
  (ii5 : PySem.W.findIn K (.ref c5) "__init__" = some (some (.ref f5)))
  (if5 : PySem.W.isFn K (.ref f5) = true)
  (il5 : K.lookup f5 = some ⟨ioc5, iod5, .func (PySem.W.fnOf "__init__" "NoView.__init__" (defArgs i_NoView) (defBody i_NoView) (defScope i_NoView) .none ikV5 idc5 ipm5 ian5 icd5 ict5), isl5⟩)
  (ic5 : PySem.W.codeIn K icd5 "NoView.__init__" = true)
  (ik5 : PySem.W.keepIn K (.ref f5) = true)
  (ig5 : PySem.W.findIn K (.ref c5) "place" = some none)
  (mr5 : PySem.W.mroIn K c5 (.ref A0) = some true)
  (tv5 : PySem.W.kitOne K (.ref c5) (.type "ValueError") = some true)
  (t50 : PySem.W.kitOne K (.ref c5) (.ref c0) = some false)
  (t51 : PySem.W.kitOne K (.ref c5) (.ref c1) = some false)
  (t52 : PySem.W.kitOne K (.ref c5) (.ref c2) = some false)
  (t53 : PySem.W.kitOne K (.ref c5) (.ref c3) = some false)
  (t54 : PySem.W.kitOne K (.ref c5) (.ref c4) = some false)
  (t56 : PySem.W.kitOne K (.ref c5) (.ref c6) = some false)
  (t57 : PySem.W.kitOne K (.ref c5) (.ref c7) = some false)
  : ∃ fd : FuncData, (∀ (s : Shared) (v : Value), BindsTo s fd ⟨[v], []⟩ [("_law_script", v)]) ∧ ∀ base : Heap, K.In base → base.Ns mainGlobals mg → FnOk l.prog w K mg base CX0 9 fa fd ["_law_script"] (spLaw K) := by
 have e := hfa.symm.trans (PySem.W.mg_of X G a31)
 cases e
 have T : Txt K mg := ⟨PySem.W.mg_none_of X G z0, PySem.W.mg_none_of X G z1, PySem.W.mg_none_of X G z2, PySem.W.mg_none_of X G z3, PySem.W.mg_none_of X G z4, PySem.W.mg_none_of X G z5, PySem.W.mg_none_of X G z6, PySem.W.mg_none_of X G z7, PySem.W.mg_none_of X G z8, PySem.W.mg_none_of X G z9, PySem.W.mg_none_of X G z10, PySem.W.mg_none_of X G z11, PySem.W.mg_none_of X G z12, PySem.W.mg_none_of X G z13, ⟨_, PySem.W.mg_of X G mc0⟩, ⟨_, PySem.W.mg_of X G mc1⟩⟩
 have B : Ba K mg A0 := ⟨PySem.W.mg_of X G aA, bs, br, bf⟩
 have F_is_value := fun_mk (st := s_is_value) l1 k1 p1
 have b_is_value := F_is_value.binds (ps := ["thing"]) fun _ _ _ _ _ _ us hl => match us, hl with | [_], _ => rfl
 have F_is_unknown := fun_mk (st := s_is_unknown) l2 k2 p2
 have b_is_unknown := F_is_unknown.binds (ps := ["thing"]) fun _ _ _ _ _ _ us hl => match us, hl with | [_], _ => rfl
 have F_new_values := fun_mk (st := s_new_values) l3 k3 p3
 have b_new_values := F_new_values.binds (ps := ["count", "taken"]) fun _ _ _ _ _ _ us hl => match us, hl with | [_, _], _ => rfl
 have F_image := fun_mk (st := s_image) l4 k4 p4
 have b_image := F_image.binds (ps := ["terms", "given"]) fun _ _ _ _ _ _ us hl => match us, hl with | [_, _], _ => rfl
 have F_unknowns_of := fun_mk (st := s_unknowns_of) l5 k5 p5
 have b_unknowns_of := F_unknowns_of.binds (ps := ["question"]) fun _ _ _ _ _ _ us hl => match us, hl with | [_], _ => rfl
 have F_terms_of := fun_mk (st := s_terms_of) l6 k6 p6
 have b_terms_of := F_terms_of.binds (ps := ["question"]) fun _ _ _ _ _ _ us hl => match us, hl with | [_], _ => rfl
 have F_unfolded := fun_mk (st := s_unfolded) l7 k7 p7
 have b_unfolded := F_unfolded.binds (ps := ["views", "question"]) fun _ _ _ _ _ _ us hl => match us, hl with | [_, _], _ => rfl
 have F_unfolded_parts := fun_mk (st := s_unfolded_parts) l8 k8 p8
 have b_unfolded_parts := F_unfolded_parts.binds (ps := ["views", "question"]) fun _ _ _ _ _ _ us hl => match us, hl with | [_, _], _ => rfl
 have F_joined := fun_mk (st := s_joined) l9 k9 p9
 have b_joined := F_joined.binds (ps := ["parts"]) fun _ _ _ _ _ _ us hl => match us, hl with | [_], _ => rfl
 have F_check_views := fun_mk (st := s_check_views) l10 k10 p10
 have b_check_views := F_check_views.binds (ps := ["kept", "question"]) fun _ _ _ _ _ _ us hl => match us, hl with | [_, _], _ => rfl
 have F_new_unknowns := fun_mk (st := s_new_unknowns) l11 k11 p11
 have b_new_unknowns := F_new_unknowns.binds (ps := ["kept", "question"]) fun _ _ _ _ _ _ us hl => match us, hl with | [_, _], _ => rfl
 have F_inner_unknowns := fun_mk (st := s_inner_unknowns) l12 k12 p12
 have b_inner_unknowns := F_inner_unknowns.binds (ps := ["view"]) fun _ _ _ _ _ _ us hl => match us, hl with | [_], _ => rfl
 have F_l_feed := fun_mk (st := s_l_feed) l13 k13 p13
 have b_l_feed := F_l_feed.binds (ps := ["_law_script", "_law_k"]) fun _ _ _ _ _ _ us hl => match us, hl with | [_, _], _ => rfl
 have F_l_draw := fun_mk (st := s_l_draw) l14 k14 p14
 have b_l_draw := F_l_draw.binds (ps := ["_law_feed_here", "_law_many"]) fun _ _ _ _ _ _ us hl => match us, hl with | [_, _], _ => rfl
 have F_l_words := fun_mk (st := s_l_words) l15 k15 p15
 have b_l_words := F_l_words.binds (ps := ["_law_feed_here", "_law_many"]) fun _ _ _ _ _ _ us hl => match us, hl with | [_, _], _ => rfl
 have F_l_atom := fun_mk (st := s_l_atom) l16 k16 p16
 have b_l_atom := F_l_atom.binds (ps := ["_law_feed_here", "_law_names", "_law_unknowns_here", "_law_values"]) fun _ _ _ _ _ _ us hl => match us, hl with | [_, _, _, _], _ => rfl
 have F_l_head := fun_mk (st := s_l_head) l17 k17 p17
 have b_l_head := F_l_head.binds (ps := ["_law_feed_here", "_law_atoms"]) fun _ _ _ _ _ _ us hl => match us, hl with | [_, _], _ => rfl
 have F_l_question := fun_mk (st := s_l_question) l18 k18 p18
 have b_l_question := F_l_question.binds (ps := ["_law_feed_here", "_law_names", "_law_most"]) fun _ _ _ _ _ _ us hl => match us, hl with | [_, _, _], _ => rfl
 have F_l_unknowns := fun_mk (st := s_l_unknowns) l19 k19 p19
 have b_l_unknowns := F_l_unknowns.binds (ps := ["_law_question_here"]) fun _ _ _ _ _ _ us hl => match us, hl with | [_], _ => rfl
 have F_l_view_question := fun_mk (st := s_l_view_question) l20 k20 p20
 have b_l_view_question := F_l_view_question.binds (ps := ["_law_feed_here", "_law_names", "_law_most"]) fun _ _ _ _ _ _ us hl => match us, hl with | [_, _, _], _ => rfl
 have F_l_views := fun_mk (st := s_l_views) l21 k21 p21
 have b_l_views := F_l_views.binds (ps := ["_law_feed_here", "_law_names", "_law_many"]) fun _ _ _ _ _ _ us hl => match us, hl with | [_, _, _], _ => rfl
 have F_l_over := fun_mk (st := s_l_over) l22 k22 p22
 have b_l_over := F_l_over.binds (ps := ["_law_feed_here", "_law_views_here"]) fun _ _ _ _ _ _ us hl => match us, hl with | [_, _], _ => rfl
 have F_l_unfolded_right := fun_mk (st := s_l_unfolded_right) l23 k23 p23
 have b_l_unfolded_right := F_l_unfolded_right.binds (ps := ["_law_found", "_law_views_here", "_law_question_here"]) fun _ _ _ _ _ _ us hl => match us, hl with | [_, _, _], _ => rfl
 have F_l_laid := fun_mk (st := s_l_laid) l24 k24 p24
 have b_l_laid := F_l_laid.binds (ps := ["_law_found", "_law_atom_here", "_law_given", "_law_used", "_law_head_here"]) fun _ _ _ _ _ _ us hl => match us, hl with | [_, _, _, _, _], _ => rfl
 have F_l_is_unknown := fun_mk (st := s_l_is_unknown) l25 k25 p25
 have b_l_is_unknown := F_l_is_unknown.binds (ps := ["_law_thing"]) fun _ _ _ _ _ _ us hl => match us, hl with | [_], _ => rfl
 have F_l_refused := fun_mk (st := s_l_refused) l26 k26 p26
 have b_l_refused := F_l_refused.binds (ps := ["_law_views_here", "_law_question_here"]) fun _ _ _ _ _ _ us hl => match us, hl with | [_, _], _ => rfl
 have F_l_bent_over := fun_mk (st := s_l_bent_over) l27 k27 p27
 have b_l_bent_over := F_l_bent_over.binds (ps := ["_law_feed_here", "_law_views_here", "_law_question_here"]) fun _ _ _ _ _ _ us hl => match us, hl with | [_, _, _], _ => rfl
 have F_l_place := fun_mk (st := s_l_place) l28 k28 p28
 have b_l_place := F_l_place.binds (ps := ["_law_views_here", "_law_question_here"]) fun _ _ _ _ _ _ us hl => match us, hl with | [_, _], _ => rfl
 have F_l_called_so := fun_mk (st := s_l_called_so) l29 k29 p29
 have b_l_called_so := F_l_called_so.binds (ps := ["_law_some", "_law_old", "_law_new"]) fun _ _ _ _ _ _ us hl => match us, hl with | [_, _, _], _ => rfl
 have F_l_again := fun_mk (st := s_l_again) l30 k30 p30
 have b_l_again := F_l_again.binds (ps := ["_law_feed_here", "_law_found", "_law_views_here", "_law_question_here"]) fun _ _ _ _ _ _ us hl => match us, hl with | [_, _, _, _], _ => rfl
 have F_law := fun_mk (st := s_law) l31 k31 p31
 have E5 : ExcK K c5 := ⟨xa5, xb5, xc5, xd5, xe5, xf5, xh5, xi5, xg, xt⟩
 have FI5 := fun_mk (st := i_NoView) il5 ic5 ik5
 have BI5 := FI5.binds (ps := ["self", "place"]) fun _ _ _ _ _ _ us hl => match us, hl with | [_, _], _ => rfl
 have AN5 : PySem.W.kitAny K (.ref c5) [.ref c0, .ref c1, .ref c2, .ref c3, .ref c4, .ref c6, .ref c7] = some false := by simp [PySem.W.kitAny, t50, t51, t52, t53, t54, t56, t57]
 refine ⟨PySem.W.fnOf "law" "law" (defArgs s_law) (defBody s_law) (defScope s_law) .none kV31 dc31 pm31 an31 cd31 ct31, fun s v => .of_eq rfl, fun base _ _ => ?_⟩
 have OI5 : FnOk l.prog w K mg base CX0 1 f5 _ ["self", "place"] (spInit c5 "place") := ok_i_NoView FI5 B q5 E5 ig5
 have d_is_value : DefOk l.prog w K mg base 1 "is_value" ["thing"] spVal := ⟨_, _, ok_is_value F_is_value T, PySem.W.mg_of X G a1, p1, b_is_value⟩
 have d_is_unknown : DefOk l.prog w K mg base 2 "is_unknown" ["thing"] spUnk := ⟨_, _, ok_is_unknown F_is_unknown T ⟨d_is_value⟩, PySem.W.mg_of X G a2, p2, b_is_unknown⟩
 have d_image : DefOk l.prog w K mg base 1 "image" ["terms", "given"] spLed := ⟨_, _, ok_image F_image T, PySem.W.mg_of X G a4, p4, b_image⟩
 have d_unknowns_of : DefOk l.prog w K mg base 3 "unknowns_of" ["question"] spUnksQ := ⟨_, _, ok_unknowns_of F_unknowns_of T ⟨⟨d_is_value⟩, d_is_unknown⟩, PySem.W.mg_of X G a5, p5, b_unknowns_of⟩
 have d_new_values : DefOk l.prog w K mg base 1 "new_values" ["count", "taken"] spNewV := ⟨_, _, ok_new_values F_new_values T, PySem.W.mg_of X G a3, p3, b_new_values⟩
 have d_terms_of : DefOk l.prog w K mg base 1 "terms_of" ["question"] spTermsQ := ⟨_, _, ok_terms_of F_terms_of T, PySem.W.mg_of X G a6, p6, b_terms_of⟩
 have d_inner_unknowns : DefOk l.prog w K mg base 4 "inner_unknowns" ["view"] spInner := ⟨_, _, ok_inner F_inner_unknowns T ⟨d_unknowns_of⟩, PySem.W.mg_of X G a12, p12, b_inner_unknowns⟩
 have d_new_unknowns : DefOk l.prog w K mg base 5 "new_unknowns" ["kept", "question"] spNewU := ⟨_, _, ok_new_unknowns F_new_unknowns T ⟨d_is_unknown, d_inner_unknowns, d_terms_of, d_new_values⟩, PySem.W.mg_of X G a11, p11, b_new_unknowns⟩
 have DE : Dnv l.prog w K mg base c5 := ⟨PySem.W.mg_of X G m5, kp5, q5, ⟨_, _, ii5, if5, OI5, BI5⟩⟩
 have d_check_views : DefOkE l.prog w K mg base 4 "check_views" ["kept", "question"] (spCheck c5) := ⟨_, _, ok_check_views F_check_views T DE, PySem.W.mg_of X G a10, p10, b_check_views⟩
 have d_joined : DefOk l.prog w K mg base 1 "joined" ["parts"] spJoined := ⟨_, _, ok_joined F_joined T, PySem.W.mg_of X G a9, p9, b_joined⟩
 have d_unfolded_parts : DefOkE l.prog w K mg base 6 "unfolded_parts" ["views", "question"] (spParts c5) := ⟨_, _, ok_parts F_unfolded_parts T ⟨d_check_views, d_new_unknowns, d_inner_unknowns, d_image⟩, PySem.W.mg_of X G a8, p8, b_unfolded_parts⟩
 have d_unfolded : DefOkE l.prog w K mg base 7 "unfolded" ["views", "question"] (spUnf c5) := ⟨_, _, ok_unfolded F_unfolded T ⟨d_unfolded_parts, d_joined⟩, PySem.W.mg_of X G a7, p7, b_unfolded⟩
 have d_l_feed : DefOk l.prog w K mg base 1 "_law_feed" ["_law_script", "_law_k"] (spFeed K) := ⟨_, _, ok_feed F_l_feed T, PySem.W.mg_of X G a13, p13, b_l_feed⟩
 have d_l_draw : DefOk l.prog w K mg base 1 "_law_draw" ["_law_feed_here", "_law_many"] (spDraw K) := ⟨_, _, ok_draw F_l_draw T, PySem.W.mg_of X G a14, p14, b_l_draw⟩
 have d_l_words : DefOk l.prog w K mg base 2 "_law_words" ["_law_feed_here", "_law_many"] (spWords K) := ⟨_, _, ok_words F_l_words T ⟨d_l_draw⟩, PySem.W.mg_of X G a15, p15, b_l_words⟩
 have d_l_atom : DefOk l.prog w K mg base 2 "_law_atom" ["_law_feed_here", "_law_names", "_law_unknowns_here", "_law_values"] (spAtomD K) := ⟨_, _, ok_atomD F_l_atom T ⟨d_l_draw⟩, PySem.W.mg_of X G a16, p16, b_l_atom⟩
 have d_l_head : DefOk l.prog w K mg base 2 "_law_head" ["_law_feed_here", "_law_atoms"] (spHeadD K) := ⟨_, _, ok_headD F_l_head T ⟨d_l_draw⟩, PySem.W.mg_of X G a17, p17, b_l_head⟩
 have d_l_question : DefOk l.prog w K mg base 3 "_law_question" ["_law_feed_here", "_law_names", "_law_most"] (spQuestionD K) := ⟨_, _, ok_questionD F_l_question T ⟨⟨d_l_draw⟩, d_l_words, d_l_atom, d_l_head⟩, PySem.W.mg_of X G a18, p18, b_l_question⟩
 have d_l_unknowns : DefOk l.prog w K mg base 1 "_law_unknowns" ["_law_question_here"] spUnksQ := ⟨_, _, ok_unknownsQ F_l_unknowns T, PySem.W.mg_of X G a19, p19, b_l_unknowns⟩
 have d_l_view_question : DefOk l.prog w K mg base 4 "_law_view_question" ["_law_feed_here", "_law_names", "_law_most"] (spViewQ K) := ⟨_, _, ok_viewQ F_l_view_question T ⟨d_l_draw, d_l_question, d_l_unknowns⟩, PySem.W.mg_of X G a20, p20, b_l_view_question⟩
 have d_l_views : DefOk l.prog w K mg base 5 "_law_views" ["_law_feed_here", "_law_names", "_law_many"] (spViewsD K) := ⟨_, _, ok_viewsD F_l_views T ⟨d_l_words, d_l_view_question⟩, PySem.W.mg_of X G a21, p21, b_l_views⟩
 have d_l_over : DefOk l.prog w K mg base 3 "_law_over" ["_law_feed_here", "_law_views_here"] (spOver K) := ⟨_, _, ok_over F_l_over T ⟨d_l_draw, d_l_words, d_l_head⟩, PySem.W.mg_of X G a22, p22, b_l_over⟩
 have d_l_is_unknown : DefOk l.prog w K mg base 1 "_law_is_unknown" ["_law_thing"] spIsU := ⟨_, _, ok_isU F_l_is_unknown T, PySem.W.mg_of X G a25, p25, b_l_is_unknown⟩
 have d_l_laid : DefOk l.prog w K mg base 2 "_law_laid" ["_law_found", "_law_atom_here", "_law_given", "_law_used", "_law_head_here"] spLaid := ⟨_, _, ok_laid F_l_laid T ⟨d_l_is_unknown⟩, PySem.W.mg_of X G a24, p24, b_l_laid⟩
 have d_l_unfolded_right : DefOk l.prog w K mg base 3 "_law_unfolded_right" ["_law_found", "_law_views_here", "_law_question_here"] spRight := ⟨_, _, ok_right F_l_unfolded_right T ⟨d_l_unknowns, d_l_laid⟩, PySem.W.mg_of X G a23, p23, b_l_unfolded_right⟩
 have LR : Lr l.prog w K mg base A0 c0 c1 c2 c3 c4 c5 c6 c7 := ⟨d_unfolded, PySem.W.mg_of X G aA, qA, PySem.W.mg_of X G m0, PySem.W.mg_of X G m1, PySem.W.mg_of X G m2, PySem.W.mg_of X G m3, PySem.W.mg_of X G m4, PySem.W.mg_of X G m5, PySem.W.mg_of X G m6, PySem.W.mg_of X G m7, E5, mr5, ig5, tv5, AN5⟩
 have d_l_refused : DefOk l.prog w K mg base 8 "_law_refused" ["_law_views_here", "_law_question_here"] spRefused := ⟨_, _, ok_refused F_l_refused T LR, PySem.W.mg_of X G a26, p26, b_l_refused⟩
 have d_l_bent_over : DefOk l.prog w K mg base 2 "_law_bent_over" ["_law_feed_here", "_law_views_here", "_law_question_here"] (spBent K) := ⟨_, _, ok_bent F_l_bent_over T ⟨d_l_draw⟩, PySem.W.mg_of X G a27, p27, b_l_bent_over⟩
 have d_l_place : DefOk l.prog w K mg base 1 "_law_place" ["_law_views_here", "_law_question_here"] spPlace := ⟨_, _, ok_place F_l_place T, PySem.W.mg_of X G a28, p28, b_l_place⟩
 have d_l_called_so : DefOk l.prog w K mg base 1 "_law_called_so" ["_law_some", "_law_old", "_law_new"] spCalled := ⟨_, _, ok_called F_l_called_so T, PySem.W.mg_of X G a29, p29, b_l_called_so⟩
 have d_l_again : DefOk l.prog w K mg base 8 "_law_again" ["_law_feed_here", "_law_found", "_law_views_here", "_law_question_here"] (spAgain K) := ⟨_, _, ok_again F_l_again T ⟨d_l_draw, d_l_unknowns, d_l_called_so, d_l_unfolded_right, d_unfolded⟩, PySem.W.mg_of X G a30, p30, b_l_again⟩
 exact ok_law (cV := c5) F_law T ⟨d_l_feed, d_l_draw, d_l_words, d_l_views, d_l_over, d_l_unfolded_right, d_l_again, d_l_bent_over, d_l_refused, d_l_place, d_unfolded⟩
theorem walk {l : PySem.W.OpenLaw} {q : Program} {loose : List Str} {XP : (Str → Option Value) → Heap → Prop} {YP : World → Heap → Prop} {d : DefRec} {K : Params → PySem.W.Frag} (hn : l.most = some 63) (hdf : d.params.defaults = [])
  (hY : ∀ (w : World) (h : Heap), YP w h → (K w.params).In h)
  (F : ∀ (w : World) (mg : Str → Option Value) (fa : Addr) (h : Heap), (K w.params).In h → h.Ns mainGlobals mg → mg d.name = some (.ref fa) →
   ∃ fd : FuncData, (∀ (s : Shared) (u : Value), BindsTo s fd ⟨[u], []⟩ [("_law_script", u)]) ∧ ∀ base : Heap, (K w.params).In base → base.Ns mainGlobals mg → FnOk l.prog w (K w.params) mg base CX0 9 fa fd ["_law_script"] (spLaw (K w.params))) :
  PySem.W.WalkO q loose XP YP l.row.toRowW d [] (fun f vs => PySem.call f vs) :=
 L2.walk_of (n := 63) (k := 9) (x := "_law_script") (CX := fun _ => CX0) (sp := fun w => spLaw (K w.params)) hn (by decide) hdf ⟨rfl, by decide, by decide⟩ hY F (fun _ H a ns hl hO hS => ⟨a, ns, rfl, scr_of hO hS, hl, fun _ => rfl⟩) fun _ _ _ _ _ z => z
end K42
open PySem PySem.W PyProof.Rows
set_option maxRecDepth 100000 in
set_option maxHeartbeats 0 in
theorem PySem.Challenge.cw_askviews_k42_unfolded_or_no_view_holds : PySem.Challenge.rw_askviews_k42_unfolded_or_no_view.Holds := by
 w_on; o_law
 refine holds_open (q := K42.qf PySem.Challenge.pw_askviews_k42_unfolded_or_no_view) (loose := []) (Xt := K42.XF PySem.Challenge.pw_askviews_k42_unfolded_or_no_view) (XP := XL (K42.qf PySem.Challenge.pw_askviews_k42_unfolded_or_no_view) []) (Yf := Hook.obs K42.HF) (Ya := Hook.val K42.HF) (YP := Hook.says K42.HF) (N := 6034) K42.head (Hook.of K42.HF) (Hook.keeps K42.HF) (fun s e => xl_of s (Bool.and_eq_true_iff.mp e).1) XL.keeps (by rfl) (by rfl) (by rfl) (fun s e => recFacts_of (Bool.and_eq_true_iff.mp e).2) (by rfl) (by first | assumption | decide +kernel) (by decide +kernel) ⟨rfl, rfl, rfl, rfl, rfl, by decide +kernel⟩ ?hw ?hc
 case hw => w_witness2
 case hc =>
 unfold K42.HF
 k_fill
 refine K42.walk (l := PySem.Challenge.rw_askviews_k42_unfolded_or_no_view) rfl rfl (fun w h Y => PySem.W.kIn_of Y) ?F
 case F =>
  intro w mg fa h KX G hmg
  refine' K42.all_mk KX G hmg ?a1 ?l1 ?k1 ?p1 ?a2 ?l2 ?k2 ?p2 ?a3 ?l3 ?k3 ?p3 ?a4 ?l4 ?k4 ?p4 ?a5 ?l5 ?k5 ?p5 ?a6 ?l6 ?k6 ?p6 ?a7 ?l7 ?k7 ?p7 ?a8 ?l8 ?k8 ?p8 ?a9 ?l9 ?k9 ?p9 ?a10 ?l10 ?k10 ?p10 ?a11 ?l11 ?k11 ?p11 ?a12 ?l12 ?k12 ?p12 ?a13 ?l13 ?k13 ?p13 ?a14 ?l14 ?k14 ?p14 ?a15 ?l15 ?k15 ?p15 ?a16 ?l16 ?k16 ?p16 ?a17 ?l17 ?k17 ?p17 ?a18 ?l18 ?k18 ?p18 ?a19 ?l19 ?k19 ?p19 ?a20 ?l20 ?k20 ?p20 ?a21 ?l21 ?k21 ?p21 ?a22 ?l22 ?k22 ?p22 ?a23 ?l23 ?k23 ?p23 ?a24 ?l24 ?k24 ?p24 ?a25 ?l25 ?k25 ?p25 ?a26 ?l26 ?k26 ?p26 ?a27 ?l27 ?k27 ?p27 ?a28 ?l28 ?k28 ?p28 ?a29 ?l29 ?k29 ?p29 ?a30 ?l30 ?k30 ?p30 ?a31 ?l31 ?k31 ?p31 ?z0 ?z1 ?z2 ?z3 ?z4 ?z5 ?z6 ?z7 ?z8 ?z9 ?z10 ?z11 ?z12 ?z13 ?mc0 ?mc1 ?aA ?bs ?br ?bf ?qA ?xg ?xt ?m0 ?m1 ?m2 ?m3 ?m4 ?m5 ?m6 ?m7 ?kp5 ?xa5 ?xb5 ?xc5 ?xd5 ?xe5 ?xf5 ?xh5 ?xi5 ?q5 ?ii5 ?if5 ?il5 ?ic5 ?ik5 ?ig5 ?mr5 ?tv5 ?t50 ?t51 ?t52 ?t53 ?t54 ?t56 ?t57
  (case a1 => k_is)
  (case l1 => k_is)
  (case k1 => k_is)
  (case p1 => k_is)
  (case a2 => k_is)
  (case l2 => k_is)
  (case k2 => k_is)
  (case p2 => k_is)
  (case a3 => k_is)
  (case l3 => k_is)
  (case k3 => k_is)
  (case p3 => k_is)
  (case a4 => k_is)
  (case l4 => k_is)
  (case k4 => k_is)
  (case p4 => k_is)
  (case a5 => k_is)
  (case l5 => k_is)
  (case k5 => k_is)
  (case p5 => k_is)
  (case a6 => k_is)
  (case l6 => k_is)
  (case k6 => k_is)
  (case p6 => k_is)
  (case a7 => k_is)
  (case l7 => k_is)
  (case k7 => k_is)
  (case p7 => k_is)
  (case a8 => k_is)
  (case l8 => k_is)
  (case k8 => k_is)
  (case p8 => k_is)
  (case a9 => k_is)
  (case l9 => k_is)
  (case k9 => k_is)
  (case p9 => k_is)
  (case a10 => k_is)
  (case l10 => k_is)
  (case k10 => k_is)
  (case p10 => k_is)
  (case a11 => k_is)
  (case l11 => k_is)
  (case k11 => k_is)
  (case p11 => k_is)
  (case a12 => k_is)
  (case l12 => k_is)
  (case k12 => k_is)
  (case p12 => k_is)
  (case a13 => k_is)
  (case l13 => k_is)
  (case k13 => k_is)
  (case p13 => k_is)
  (case a14 => k_is)
  (case l14 => k_is)
  (case k14 => k_is)
  (case p14 => k_is)
  (case a15 => k_is)
  (case l15 => k_is)
  (case k15 => k_is)
  (case p15 => k_is)
  (case a16 => k_is)
  (case l16 => k_is)
  (case k16 => k_is)
  (case p16 => k_is)
  (case a17 => k_is)
  (case l17 => k_is)
  (case k17 => k_is)
  (case p17 => k_is)
  (case a18 => k_is)
  (case l18 => k_is)
  (case k18 => k_is)
  (case p18 => k_is)
  (case a19 => k_is)
  (case l19 => k_is)
  (case k19 => k_is)
  (case p19 => k_is)
  (case a20 => k_is)
  (case l20 => k_is)
  (case k20 => k_is)
  (case p20 => k_is)
  (case a21 => k_is)
  (case l21 => k_is)
  (case k21 => k_is)
  (case p21 => k_is)
  (case a22 => k_is)
  (case l22 => k_is)
  (case k22 => k_is)
  (case p22 => k_is)
  (case a23 => k_is)
  (case l23 => k_is)
  (case k23 => k_is)
  (case p23 => k_is)
  (case a24 => k_is)
  (case l24 => k_is)
  (case k24 => k_is)
  (case p24 => k_is)
  (case a25 => k_is)
  (case l25 => k_is)
  (case k25 => k_is)
  (case p25 => k_is)
  (case a26 => k_is)
  (case l26 => k_is)
  (case k26 => k_is)
  (case p26 => k_is)
  (case a27 => k_is)
  (case l27 => k_is)
  (case k27 => k_is)
  (case p27 => k_is)
  (case a28 => k_is)
  (case l28 => k_is)
  (case k28 => k_is)
  (case p28 => k_is)
  (case a29 => k_is)
  (case l29 => k_is)
  (case k29 => k_is)
  (case p29 => k_is)
  (case a30 => k_is)
  (case l30 => k_is)
  (case k30 => k_is)
  (case p30 => k_is)
  (case a31 => k_is)
  (case l31 => k_is)
  (case k31 => k_is)
  (case p31 => k_is)
  (case z0 => k_is)
  (case z1 => k_is)
  (case z2 => k_is)
  (case z3 => k_is)
  (case z4 => k_is)
  (case z5 => k_is)
  (case z6 => k_is)
  (case z7 => k_is)
  (case z8 => k_is)
  (case z9 => k_is)
  (case z10 => k_is)
  (case z11 => k_is)
  (case z12 => k_is)
  (case z13 => k_is)
  (case mc0 => k_is)
  (case mc1 => k_is)
  (case aA => k_is)
  (case bs => k_is)
  (case br => k_is)
  (case bf => k_is)
  (case qA => kernel_rfl)
  (case xg => k_is)
  (case xt => k_is)
  (case m0 => k_is)
  (case m1 => k_is)
  (case m2 => k_is)
  (case m3 => k_is)
  (case m4 => k_is)
  (case m5 => k_is)
  (case m6 => k_is)
  (case m7 => k_is)
  (case kp5 => k_is)
  (case xa5 => k_is)
  (case xb5 => k_is)
  (case xc5 => k_is)
  (case xd5 => k_is)
  (case xe5 => k_is)
  (case xf5 => k_is)
  (case xh5 => kernel_rfl)
  (case xi5 => k_is)
  (case q5 => kernel_rfl)
  (case ii5 => k_is)
  (case if5 => k_is)
  (case il5 => k_is)
  (case ic5 => k_is)
  (case ik5 => k_is)
  (case ig5 => k_is)
  (case mr5 => k_is)
  (case tv5 => kit_is)
  (case t50 => kit_is)
  (case t51 => kit_is)
  (case t52 => kit_is)
  (case t53 => kit_is)
  (case t54 => kit_is)
  (case t56 => kit_is)
  (case t57 => kit_is)
