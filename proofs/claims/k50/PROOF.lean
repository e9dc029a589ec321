import PyProof.Rows.All
import Wide.All
import OpenK.AllK
import Wide.FinOn
import Lean
import PyProof.EqAt
import PyProof.EqKinds
import PyProof.TupleCall
import PyProof.NeKinds
import KE.KRevIter
import KE.KDictSum
import PySem.Challenge.RW_turngrid_k50_whole_none_left_out
set_option Elab.async false
set_option linter.all false
set_option maxRecDepth 100000
set_option Elab.async false
set_option linter.all false
set_option maxRecDepth 100000
namespace L2
open PySem PySem.Spec PyProof.Rows

noncomputable abbrev Key := Sum Int Str
noncomputable def keyIs : Key → Value → Bool
  | .inl k, v => Value.isInt k v
  | .inr x, v => Value.isStrOf x v
noncomputable def keyH (w : World) : Key → Int
  | .inl k => hashInt k
  | .inr x => hashStr w x
theorem keyIs_shape : ∀ {k : Key} {v : Value}, keyIs k v = true → (∃ i t, k = Sum.inl i ∧ v = Value.int i t) ∨ (∃ x t, k = Sum.inr x ∧ v = Value.str x t)
  | .inl i, v, h => by
    obtain ⟨t, e⟩ := Value.isInt_shape (k := i) (v := v) h
    exact .inl ⟨i, t, rfl, e⟩
  | .inr x, v, h => by
    obtain ⟨t, e⟩ := Value.isStrOf_shape (x := x) (v := v) h
    exact .inr ⟨x, t, rfl, e⟩
theorem keyIs_int (i : Int) (t : Tok) : keyIs (.inl i) (.int i t) = true := by simp [keyIs, Value.isInt]
theorem keyIs_str (x : Str) (t : Tok) : keyIs (.inr x) (.str x t) = true := by simp [keyIs, Value.isStrOf]
theorem key_ll (a b : Int) : decide ((Sum.inl a : Key) = Sum.inl b) = (a == b) := by
  by_cases e : a = b
  · subst e; simp
  · have h : ¬ (Sum.inl a : Key) = Sum.inl b := fun q => e (Sum.inl.inj q)
    rw [decide_eq_false h]
    exact (beq_eq_false_iff_ne.mpr e).symm
theorem key_rr (a b : Str) : decide ((Sum.inr a : Key) = Sum.inr b) = decide (a = b) := by
  by_cases e : a = b
  · subst e; simp
  · have h : ¬ (Sum.inr a : Key) = Sum.inr b := fun q => e (Sum.inr.inj q)
    rw [decide_eq_false h, decide_eq_false e]
theorem key_lr (a : Int) (b : Str) : decide ((Sum.inl a : Key) = Sum.inr b) = false := decide_eq_false (fun q => by cases q)
theorem key_rl (a : Str) (b : Int) : decide ((Sum.inr a : Key) = Sum.inl b) = false := decide_eq_false (fun q => by cases q)

noncomputable def mixKind (prog : Program) (w : World) : PySem.KeyKind prog w Key where
  is := keyIs
  hash := keyH w
  inj := fun v a b ha hb => by
    rcases keyIs_shape ha with ⟨i, t, rfl, rfl⟩ | ⟨x, t, rfl, rfl⟩
    · rcases keyIs_shape hb with ⟨j, u, rfl, e⟩ | ⟨y, u, rfl, e⟩
      · injection e with e1 _; rw [e1]
      · exact by cases e
    · rcases keyIs_shape hb with ⟨j, u, rfl, e⟩ | ⟨y, u, rfl, e⟩
      · exact by cases e
      · injection e with e1 _; rw [e1]
  byValue := fun k v h => by
    rcases keyIs_shape h with ⟨i, t, rfl, rfl⟩ | ⟨x, t, rfl, rfl⟩ <;> rfl
  pyHash := fun hv h => by
    rcases keyIs_shape hv with ⟨i, t, rfl, rfl⟩ | ⟨x, t, rfl, rfl⟩
    · exact wpAny_pyHash_int h
    · exact wpAny_pyHash_str h
  eqBool := fun hu hv h => by
    rcases keyIs_shape hu with ⟨i, t, rfl, rfl⟩ | ⟨x, t, rfl, rfl⟩
    · rcases keyIs_shape hv with ⟨j, u, rfl, rfl⟩ | ⟨y, u, rfl, rfl⟩
      · rw [key_ll] at h; exact wpAny_eqBool_int h
      · rw [key_lr] at h; exact SeqAt.EqAt.int_str i t y u _ _ _ _ h
    · rcases keyIs_shape hv with ⟨j, u, rfl, rfl⟩ | ⟨y, u, rfl, rfl⟩
      · rw [key_rl] at h; exact SeqAt.EqAt.str_int x t j u _ _ _ _ h
      · rw [key_rr] at h; exact wpAny_eqBool_str h
  «strs» := fun k x t v h => by
    rcases keyIs_shape h with ⟨i, u, rfl, e⟩ | ⟨y, u, rfl, e⟩
    · exact by cases e
    · injection e with e1 _
      subst e1
      cases v <;> rfl

theorem mixKind_int (prog : Program) (w : World) (i : Int) (t : Tok) : (mixKind prog w).is (.inl i) (.int i t) = true := keyIs_int i t
theorem mixKind_str (prog : Program) (w : World) (x : Str) (t : Tok) : (mixKind prog w).is (.inr x) (.str x t) = true := keyIs_str x t
end L2

namespace L2
open PySem PySem.Spec PyProof.Rows

inductive V where
  | non | bl (b : Bool) | int (i : Int) | str (x : Str) | byt (b : Array UInt8) | flt (b : UInt64) | ref (a : Addr) | ty (n : String)
  deriving DecidableEq

noncomputable def RelV : V → Value → Prop
  | .non, u => u = Value.none
  | .bl b, u => u = Value.bool b
  | .int i, u => ∃ t, u = Value.int i t
  | .str x, u => ∃ t, u = Value.str x t
  | .byt b, u => ∃ t, u = Value.bytes b t
  | .flt b, u => ∃ t, u = Value.float b t
  | .ref a, u => u = Value.ref a
  | .ty n, u => u = Value.type n

noncomputable abbrev Vals : List V → List Value → Prop := Paired RelV
theorem Vals.length {xs : List V} {us : List Value} (r : Vals xs us) : xs.length = us.length := Paired.length r
theorem Vals.get : ∀ {xs : List V} {us : List Value} {i : Nat} {x : V}, Vals xs us → xs[i]? = some x → ∃ u, us[i]? = some u ∧ RelV x u
  | _, _, _, _, .nil, e => by simp at e
  | _, _, 0, _, .cons r _, e => by simp at e; subst e; exact ⟨_, rfl, r⟩
  | _, _, i + 1, x, .cons _ t, e => by
    obtain ⟨u, h1, h2⟩ := Vals.get (i := i) (x := x) t (by simpa using e)
    exact ⟨u, by simpa using h1, h2⟩
theorem Vals.set {x : V} {u : Value} (r : RelV x u) : ∀ {xs : List V} {us : List Value} (i : Nat), Vals xs us → Vals (xs.set i x) (us.set i u)
  | _, _, _, .nil => .nil
  | _, _, 0, .cons _ t => .cons r t
  | _, _, i + 1, .cons q t => .cons q (Vals.set r i t)
theorem Vals.append : ∀ {xs ys : List V} {us ws : List Value}, Vals xs us → Vals ys ws → Vals (xs ++ ys) (us ++ ws)
  | _, _, _, _, .nil, s => s
  | _, _, _, _, .cons r t, s => .cons r (Vals.append t s)
theorem Vals.take : ∀ {xs : List V} {us : List Value} (n : Nat), Vals xs us → Vals (xs.take n) (us.take n)
  | _, _, 0, _ => .nil
  | _, _, _ + 1, .nil => .nil
  | _, _, n + 1, .cons r t => .cons r (Vals.take n t)
theorem Vals.drop : ∀ {xs : List V} {us : List Value} (n : Nat), Vals xs us → Vals (xs.drop n) (us.drop n)
  | _, _, 0, r => r
  | _, _, _ + 1, .nil => .nil
  | _, _, n + 1, .cons _ t => Vals.drop n t
theorem Vals.none_of : ∀ {xs : List V} {us : List Value} {i : Nat}, Vals xs us → xs[i]? = none → us[i]? = none := fun {xs us i} r e => by
  have h1 := r.length
  have h2 : xs.length ≤ i := List.getElem?_eq_none_iff.mp e
  exact List.getElem?_eq_none_iff.mpr (by omega)

noncomputable def RelO : Option V → Option Value → Prop
  | some v, some u => RelV v u
  | none, none => True
  | _, _ => False
noncomputable def KV {κ : Type} : List (κ × V) → List (κ × Value) → Prop := Paired fun (p : κ × V) (q : κ × Value) => p.1 = q.1 ∧ RelV p.2 q.2

noncomputable def kV : Key → V
  | .inl i => .int i
  | .inr x => .str x

inductive HO where
  /-- a list -/
  | lst (xs : List V)
  /-- a tuple (never changes) -/
  | tup (xs : List V)
  /-- a dict whose keys are ints and texts; one whose keys are tuples of ints and texts (the empty one is both) -/
  | dK (kvs : List (Key × V)) | dT (kvs : List (List Key × V))
  /-- a set of ints: its members, its size -/
  | set (S : Int → Bool) (n : Nat)
  /-- an instance of the class at C, its dict at dx, its attributes -/
  | ins (C dx : Addr) (fs : List (Str × V))
  /-- the dict of the instance at x -/
  | own (x : Addr)
  /-- the dict of an exception -/
  | xd (fs : List (Str × V))
  /-- a bound method, f of x -/
  | met (f x : Addr)
  /-- a range object lo, lo + 1, .. below hi -/
  | rng (lo hi : Int)
  /-- a thing that is known to the object (the script; a dict while a loop walks it): read, never written while it is so -/
  | frz (o : Obj) (u : HO)
  /-- a code object's table -/
  | tbl (ps : Array Value)
  /-- any other thing, by what is true of its one object (a def of one's own: SetO a S n := HO.ext fun h => ..) -/
  | ext (φ : Heap → Prop)

noncomputable abbrev Hp := Addr → Option HO
noncomputable def upd (H : Hp) (a : Addr) (o : HO) : Hp := fun b => if b = a then some o else H b
theorem upd_same {H : Hp} {a : Addr} {o : HO} : upd H a o a = some o := by unfold upd; rw [if_pos rfl]
theorem upd_ne {H : Hp} {a b : Addr} {o : HO} (h : b ≠ a) : upd H a o b = H b := by unfold upd; rw [if_neg h]
theorem ne_of {H : Hp} {a b : Addr} {o u : HO} (h : H a = some o) (h' : H b = some u) (d : o ≠ u) : a ≠ b := by
  intro e; subst e; rw [h] at h'; exact d (Option.some.inj h')
theorem ne_of_none {H : Hp} {a b : Addr} {o : HO} (h : H a = some o) (h' : H b = none) : a ≠ b := by
  intro e; subst e; rw [h] at h'; cases h'

section
variable (P : Program) (w : World)
noncomputable def ObjOk (H : Hp) (h : Heap) (a : Addr) : HO → Prop
  | .lst xs => xs.length ≤ sizeLine ∧ ∃ (its : List Value) (n : Nat), Vals xs its ∧ h.get? a = some { cls := .type "list", data := .seq its.toArray n }
  | .tup xs => xs.length ≤ sizeLine ∧ ∃ its : List Value, Vals xs its ∧ IsTup h a its.toArray
  | .dK kvs => kvs.length ≤ sizeLine ∧ (a == sysModules) = false ∧ ∃ vs, KV kvs vs ∧ h.DictOf (mixKind P w) a vs
  | .dT kvs => kvs.length ≤ sizeLine ∧ (a == sysModules) = false ∧ ∃ xs : List (List Key × Addr × Value),
      Paired (fun (p : List Key × V) (q : List Key × Addr × Value) => p.1 = q.1 ∧ H q.2.1 = some (.tup (p.1.map kV)) ∧ RelV p.2 q.2.2) kvs xs ∧
      ∃ o es ep, h.get? a = some o ∧ o.ExactDict ∧ o.data = .dict es ep ∧ es.toList = xs.map (entryOfKey (tupleKind (mixKind P w))) ∧ (xs.map (·.1)).Nodup
  | .set S n => h.SetOf (intKind P w) a S n
  | .ins C dx fs => H dx = some (.own a) ∧ fs.length ≤ 1000 ∧ dx ≠ a ∧ h.get? a = some (PySem.W.instObj C dx) ∧
      ∃ mA, h.Ns1 dx mA ∧ (∀ f, RelO (fs.lookup f) (mA f)) ∧ PySem.Within mA (fs.map (·.1))
  | .own _ => ∃ o, h.get? a = some o
  | .xd fs => ∃ mA, h.Ns1 a mA ∧ ∀ f, RelO (fs.lookup f) (mA f)
  | .rng lo hi => ∃ t u v, h.get? a = some { cls := .type "range", data := .fields #[.int lo t, .int hi u, .int 1 v] }
  | .frz o u => h.get? a = some o ∧ ObjOk H h a u
  | .tbl ps => h.get? a = some { cls := .none, data := .fields ps }
  | .met f x => h.get? a = some (PySem.W.methodObj (.ref f) (.ref x))
  | .ext φ => φ h ∧ (∃ o, h.get? a = some o) ∧ ∀ h1 h2 : Heap, φ h1 → (∀ o, h1.get? a = some o → h2.get? a = some o) → φ h2
noncomputable def HOk (H : Hp) (h : Heap) : Prop := ∀ a o, H a = some o → ObjOk P w H h a o
end

section
variable {P : Program} {w : World} {H H' : Hp} {h h' : Heap} {a : Addr} {o : HO}
theorem ObjOk.lt (x : ObjOk P w H h a o) : a < h.objs.size := by
  cases o with
  | lst xs => obtain ⟨_, _, _, _, e⟩ := x; exact Heap.lt_size e
  | tup xs => obtain ⟨_, _, _, p⟩ := x; exact p.lt
  | dK kvs => obtain ⟨_, _, _, _, o, _, _, e, _⟩ := x; exact Heap.lt_size e
  | dT kvs => obtain ⟨_, _, _, _, o, _, _, e, _⟩ := x; exact Heap.lt_size e
  | set S n => obtain ⟨o, _, _, _, e, _⟩ := x; exact Heap.lt_size e
  | ins C dx fs => obtain ⟨_, _, _, e, _⟩ := x; exact Heap.lt_size e
  | own y => obtain ⟨_, e⟩ := x; exact Heap.lt_size e
  | xd fs => obtain ⟨_, ⟨_, _, _, e, _⟩, _⟩ := x; exact Heap.lt_size e
  | rng lo hi => obtain ⟨_, _, _, e⟩ := x; exact Heap.lt_size e
  | frz ob u => obtain ⟨e, _⟩ := x; exact Heap.lt_size e
  | tbl ps => exact Heap.lt_size (show h.get? a = some _ from x)
  | met f y => exact Heap.lt_size (show h.get? a = some _ from x)
  | ext φ => obtain ⟨_, ⟨_, e⟩, _⟩ := x; exact Heap.lt_size e
theorem Paired.mapP {α β : Type} {F G : α → β → Prop} : ∀ {l₁ : List α} {l₂ : List β}, Paired F l₁ l₂ → (∀ a b, F a b → G a b) → Paired G l₁ l₂
  | _, _, .nil, _ => .nil
  | _, _, .cons r t, f => .cons (f _ _ r) (Paired.mapP t f)
theorem ObjOk.stay (x : ObjOk P w H h a o) (k : ∀ b u, (b = a ∨ H b = some (.own a)) → h.get? b = some u → h'.get? b = some u)
    (ho : ∀ b, H b = some (.own a) → H' b = some (.own a)) (ht : ∀ b xs, H b = some (.tup xs) → H' b = some (.tup xs)) : ObjOk P w H' h' a o := by
  induction o with
  | lst xs => obtain ⟨z, its, n, r, e⟩ := x; exact ⟨z, its, n, r, k _ _ (.inl rfl) e⟩
  | tup xs => obtain ⟨z, its, r, ob, e, c⟩ := x; exact ⟨z, its, r, ob, k _ _ (.inl rfl) e, c⟩
  | dK kvs => obtain ⟨z, y, vs, r, ob, es, ep, e, c⟩ := x; exact ⟨z, y, vs, r, ob, es, ep, k _ _ (.inl rfl) e, c⟩
  | dT kvs =>
    obtain ⟨z, y, xs, r, ob, es, ep, e, c⟩ := x
    exact ⟨z, y, xs, Paired.mapP r fun p q z => ⟨z.1, ht _ _ z.2.1, z.2.2⟩, ob, es, ep, k _ _ (.inl rfl) e, c⟩
  | set S n => obtain ⟨ob, es, ep, t, e, c⟩ := x; exact ⟨ob, es, ep, t, k _ _ (.inl rfl) e, c⟩
  | ins C dx fs =>
    obtain ⟨d, z, ne, e, mA, ⟨od, es, ep, e2, c⟩, r⟩ := x
    exact ⟨ho _ d, z, ne, k _ _ (.inl rfl) e, mA, ⟨od, es, ep, k _ _ (.inr d) e2, c⟩, r⟩
  | own y => obtain ⟨ob, e⟩ := x; exact ⟨ob, k _ _ (.inl rfl) e⟩
  | xd fs => obtain ⟨mA, ⟨od, es, ep, e, c⟩, r⟩ := x; exact ⟨mA, ⟨od, es, ep, k _ _ (.inl rfl) e, c⟩, r⟩
  | rng lo hi => obtain ⟨t, u, v, e⟩ := x; exact ⟨t, u, v, k _ _ (.inl rfl) e⟩
  | frz ob u ih => obtain ⟨e, q⟩ := x; exact ⟨k _ _ (.inl rfl) e, ih q⟩
  | tbl ps =>
    have e : h.get? a = some { cls := .none, data := .fields ps } := x
    show h'.get? a = some { cls := .none, data := .fields ps }
    exact k a _ (.inl rfl) e
  | met f y =>
    have e : h.get? a = some (PySem.W.methodObj (.ref f) (.ref y)) := x
    show h'.get? a = some (PySem.W.methodObj (.ref f) (.ref y))
    exact k a _ (.inl rfl) e
  | ext φ => obtain ⟨p, ⟨o, e⟩, st⟩ := x; exact ⟨st _ _ p fun o q => k _ _ (.inl rfl) q, ⟨o, k _ _ (.inl rfl) e⟩, st⟩
theorem HOk.lt (x : HOk P w H h) (e : H a = some o) : a < h.objs.size := (x a o e).lt
theorem HOk.fresh (x : HOk P w H h) (e : h.objs.size ≤ a) : H a = none := by
  cases q : H a with
  | none => rfl
  | some u => exact absurd (Nat.lt_of_lt_of_le (x.lt q) e) (Nat.lt_irrefl _)
theorem HOk.kept (x : HOk P w H h) (k : ∀ b u, h.get? b = some u → h'.get? b = some u) : HOk P w H h' := fun a o e =>
  (x a o e).stay (fun b u _ q => k b u q) (fun _ q => q) fun _ _ q => q
theorem HOk.laid (x : HOk P w H h) (k : ∀ b u, h.get? b = some u → h'.get? b = some u) (hp : h.objs.size ≤ a) (new : ObjOk P w (upd H a o) h' a o) : HOk P w (upd H a o) h' := fun b u e => by
  have hn := x.fresh hp
  by_cases hb : b = a
  · subst hb; rw [upd_same] at e; cases e; exact new
  · rw [upd_ne hb] at e
    exact (x b u e).stay (fun c v _ q => k c v q) (fun c q => by rw [upd_ne (ne_of_none q hn)]; exact q) fun c xs q => by rw [upd_ne (ne_of_none q hn)]; exact q
end

noncomputable def Rd (H : Hp) (a : Addr) (u : HO) : Prop := H a = some u ∨ ∃ o, H a = some (.frz o u)
theorem Rd.of {H : Hp} {a : Addr} {u : HO} (h : H a = some u) : Rd H a u := .inl h
theorem Rd.ok {P : Program} {w : World} {H : Hp} {h : Heap} {a : Addr} {u : HO} (r : Rd H a u) (x : HOk P w H h) : ObjOk P w H h a u := by
  rcases r with r | ⟨o, r⟩
  · exact x a u r
  · obtain ⟨_, q⟩ := x a _ r
    exact q
noncomputable def Mut : Option HO → Prop
  | some (.lst _) => True
  | some (.dK _) => True
  | some (.dT _) => True
  | some (.set _ _) => True
  | some (.ins _ _ _) => True
  | some (.ext _) => True
  | _ => False
section
variable {P : Program} {w : World} {H : Hp} {h h' : Heap} {x e : Addr} {o' : HO}
theorem HOk.write (ok : HOk P w H h) (mu : Mut (H x)) (he : e = x ∨ H e = some (.own x)) (k : ∀ b u, b ≠ e → h.get? b = some u → h'.get? b = some u) (heo : ∃ u, h'.get? e = some u)
    (new : ObjOk P w (upd H x o') h' x o') : HOk P w (upd H x o') h' := fun b u q => by
  have nown : ∀ c y, H c = some (.own y) → c ≠ x := fun c y r z => by subst z; rw [r] at mu; exact mu
  have ntup : ∀ c xs, H c = some (.tup xs) → c ≠ x := fun c xs r z => by subst z; rw [r] at mu; exact mu
  by_cases hb : b = x
  · subst hb; rw [upd_same] at q; cases q; exact new
  · rw [upd_ne hb] at q
    by_cases hbe : b = e
    · have q' : H b = some (.own x) := by
        rcases he with z | z
        · exact absurd (hbe.trans z) hb
        · rw [hbe]; exact z
      rw [q] at q'; cases q'
      obtain ⟨v, hv⟩ := heo
      exact ⟨v, by rw [hbe]; exact hv⟩
    · refine (ok b u q).stay (fun c v hc r => k c v ?_ r) (fun c r => by rw [upd_ne (nown c b r)]; exact r) fun c xs r => by rw [upd_ne (ntup c xs r)]; exact r
      rcases hc with rfl | hc
      · exact hbe
      · rintro rfl
        rcases he with z | z
        · exact nown c b hc z
        · rw [hc] at z; cases z; exact hb rfl
end

structure Un (fs ex : List Addr) (H H' : Hp) (h h' : Heap) : Prop where
  keep : ∀ b o, h.get? b = some o → H b = none → b ∉ fs → b ∉ ex → h'.get? b = some o
  slot : ∀ b o, h.get? b = some o → H b = none → b ∈ fs → b ∉ ex → ∃ sl, h'.get? b = some { o with slots := sl }
  free : ∀ b o, h.get? b = some o → H b = none → b ∉ ex → H' b = none
  there : ∀ b o, h.get? b = some o → b ∉ ex → ∃ o', h'.get? b = some o'
  tups : ∀ b xs, H b = some (.tup xs) → H' b = some (.tup xs)
  frzs : ∀ b o u, H b = some (.frz o u) → H' b = some (.frz o u)
  tbls : ∀ b ps, H b = some (.tbl ps) → ∃ more, H' b = some (.tbl (ps ++ more))
section
variable {fs fs' ex ex' : List Addr} {H H1 H2 : Hp} {h h1 h2 h' : Heap} {a x e : Addr} {o : HO}
theorem Un.any (u : Un fs ex H H1 h h1) {b : Addr} {ob : Obj} (q : h.get? b = some ob) (n : H b = none) (hx : b ∉ ex) : ∃ sl, h1.get? b = some { ob with slots := sl } := by
  by_cases hb : b ∈ fs
  · exact u.slot b ob q n hb hx
  · exact ⟨ob.slots, u.keep b ob q n hb hx⟩
theorem Un.trans (a : Un fs ex H H1 h h1) (b : Un fs ex H1 H2 h1 h2) : Un fs ex H H2 h h2 where
  keep := fun c ob q n hc hx => b.keep c ob (a.keep c ob q n hc hx) (a.free c ob q n hx) hc hx
  slot := fun c ob q n hc hx => by
    obtain ⟨sl, e1⟩ := a.slot c ob q n hc hx
    obtain ⟨sl', e2⟩ := b.slot c _ e1 (a.free c ob q n hx) hc hx
    exact ⟨sl', e2⟩
  free := fun c ob q n hx => by
    obtain ⟨o', e1⟩ := a.there c ob q hx
    exact b.free c o' e1 (a.free c ob q n hx) hx
  there := fun c ob q hx => by
    obtain ⟨o', e1⟩ := a.there c ob q hx
    exact b.there c o' e1 hx
  tups := fun c xs q => b.tups c xs (a.tups c xs q)
  frzs := fun c ob xs q => b.frzs c ob xs (a.frzs c ob xs q)
  tbls := fun c ps q => by
    obtain ⟨m1, e1⟩ := a.tbls c ps q
    obtain ⟨m2, e2⟩ := b.tbls c _ e1
    exact ⟨m1 ++ m2, by rw [e2, Array.append_assoc]⟩
theorem Un.kept (k : ∀ b u, h.get? b = some u → h'.get? b = some u) : Un fs ex H H h h' :=
  ⟨fun b ob q _ _ _ => k b ob q, fun b ob q _ _ _ => ⟨ob.slots, k b ob q⟩, fun _ _ _ n _ => n, fun b ob q _ => ⟨ob, k b ob q⟩, fun _ _ q => q, fun _ _ _ q => q, fun _ ps q => ⟨#[], by rw [q]; simp⟩⟩
theorem Un.refl : Un fs ex H H h h := Un.kept fun _ _ q => q
theorem Un.laid (k : ∀ b u, h.get? b = some u → h'.get? b = some u) (hp : h.objs.size ≤ a) (hn : H a = none) : Un fs ex H (upd H a o) h h' where
  keep := fun b u q _ _ _ => k b u q
  slot := fun b u q _ _ _ => ⟨u.slots, k b u q⟩
  free := fun b u q n _ => by rw [upd_ne (Nat.ne_of_lt (Nat.lt_of_lt_of_le (Heap.lt_size q) hp))]; exact n
  there := fun b u q _ => ⟨u, k b u q⟩
  tups := fun b xs q => by rw [upd_ne (ne_of_none q hn)]; exact q
  frzs := fun b u xs q => by rw [upd_ne (ne_of_none q hn)]; exact q
  tbls := fun b ps q => ⟨#[], by rw [upd_ne (ne_of_none q hn), q]; simp⟩
theorem Un.write (mu : Mut (H x)) (he : e = x ∨ H e = some (.own x)) (k : ∀ b u, b ≠ e → h.get? b = some u → h'.get? b = some u) (heo : ∃ u, h'.get? e = some u) : Un fs ex H (upd H x o) h h' := by
  have hx : ∀ b, H b = none → b ≠ x := fun b n z => by subst z; rw [n] at mu; exact mu
  have hb : ∀ b, H b = none → b ≠ e := fun b n z => by
    subst z
    rcases he with r | r
    · exact hx b n r
    · rw [n] at r; cases r
  have hm : ∀ b u, H b = some u → ¬ Mut (some u) → b ≠ x := fun b u q nm z => by subst z; rw [q] at mu; exact nm mu
  refine ⟨fun b u q n _ _ => k b u (hb b n) q, fun b u q n _ _ => ⟨u.slots, k b u (hb b n) q⟩, fun b u q n _ => by rw [upd_ne (hx b n)]; exact n, fun b u q _ => ?_,
    fun b xs q => by rw [upd_ne (hm b _ q fun z => z)]; exact q, fun b u xs q => by rw [upd_ne (hm b _ q fun z => z)]; exact q, fun b ps q => ⟨#[], by rw [upd_ne (hm b _ q fun z => z), q]; simp⟩⟩
  by_cases hbe : b = e
  · subst hbe; exact heo
  · exact ⟨u, k b u hbe q⟩
theorem Un.mono (u : Un fs ex H H1 h h1) (hs : ∀ b ∈ fs, b ∈ fs') (hx : ∀ b ∈ ex, b ∈ ex') : Un fs' ex' H H1 h h1 :=
  ⟨fun b ob q n hb he => u.keep b ob q n (fun z => hb (hs b z)) fun z => he (hx b z), fun _ _ q n _ he => u.any q n fun z => he (hx _ z), fun b ob q n he => u.free b ob q n fun z => he (hx b z), fun b ob q he => u.there b ob q fun z => he (hx b z), u.tups, u.frzs, u.tbls⟩
end

noncomputable def trk (h : Heap) (H : Hp) : List Addr := (List.range h.objs.size).filter fun a => (H a).isSome
noncomputable def hidT (h : Heap) (H : Hp) : Heap := PySem.W.hideAll h (trk h H)
theorem hidT_size (h : Heap) (H : Hp) : (hidT h H).objs.size = h.objs.size := PySem.W.hideAll_size _ _
theorem hidT_get {h : Heap} {H : Hp} {b : Addr} {o : Obj} (e : h.get? b = some o) (n : H b = none) : (hidT h H).get? b = some o :=
  PySem.W.hideAll_get _ e fun hm => by
    have q : (H b).isSome = true := (List.mem_filter.mp hm).2
    rw [n] at q; simp at q
theorem of_hidT {h : Heap} {H : Hp} {b : Addr} {o : Obj} (e : (hidT h H).get? b = some o) : h.get? b = some o ∧ H b = none := by
  have e' : h.get? b = some o := PySem.W.of_hideAll (trk h H) e
  refine ⟨e', ?_⟩
  cases q : H b with
  | none => rfl
  | some x =>
    have hm : b ∈ trk h H := List.mem_filter.mpr ⟨List.mem_range.mpr (Heap.lt_size e'), by simp [q]⟩
    have z : (hidT h H).get? b = none := PySem.W.hideAll_none (trk h H) hm
    rw [z] at e; cases e

noncomputable def allNews (g h : Heap) (L : Addr) : List (Addr × Obj) := (List.range h.objs.size).filterMap fun a => if a = L ∨ (g.get? a).isSome = true then none else (h.get? a).map fun o => (a, o)
noncomputable def rest (g h : Heap) (L d : Addr) : List (Addr × Obj) := (allNews g h L).filter fun p => decide (p.1 ≠ d)
end L2

namespace L2
open PySem PySem.Spec PyProof.Rows

structure Mod (K : PySem.W.Frag) (mg : Str → Option Value) (base : Heap) : Prop where
  kin : K.In base
  glob : base.Ns mainGlobals mg
  blt : ∃ mb, base.Ns builtinsNs mb ∧ ∀ x : Str, x ≠ "__name__" → mb x = bootBuiltins x
  nolimit : base.NoLimit

structure Cx where
  prog : Program
  w : World
  K : PySem.W.Frag
  mg : Str → Option Value
  base : Heap
  A : Around
  N : List Str
  s₀ : Shared
  H₀ : Hp
  env : Env
  outer : List Env
  stack : List Env
  ex : List Addr
  fn : Str → Bool
  calm : Bool
  pn : List (Addr × Obj)
  xe : Value → Shared → Prop
noncomputable def frs (l : List Env) : List Addr := l.filterMap (·.frame)
noncomputable abbrev Cx.fs (X : Cx) : List Addr := frs X.outer

noncomputable def Vis (sc : Scope) (x : Str) : Prop := sc.names.lookup x = some .local ∨ sc.names.lookup x = some .cell ∨ sc.names.lookup x = some .free
noncomputable def Loc (sc : Scope) (x : Str) : Prop := sc.names.lookup x = some .local ∨ sc.names.lookup x = some .cell
noncomputable def Look (env : Env) (h : Heap) (m : Str → Option Value) (x : Str) (u : Value) : Prop :=
  (env.kindOf x = some .local ∧ m x = some u) ∨ ((env.kindOf x = some .cell ∨ env.kindOf x = some .free) ∧ ∃ c, env.cells.lookup x = some c ∧ h.IsCell c (some u))

structure Cx.Ok (X : Cx) : Prop where
  mod : Mod X.K X.mg X.base
  kind : X.env.scope.kind = .function
  glob : X.env.globals = mainGlobals
  blt : X.env.builtins = builtinsNs
  above : X.s₀.heap.objs.size ≤ X.env.locals
  inj : ∀ x y c, X.env.cells.lookup x = some c → X.env.cells.lookup y = some c → x = y
  has : ∀ x, (X.env.kindOf x = some .cell ∨ X.env.kindOf x = some .free) → ∃ c, X.env.cells.lookup x = some c
  cab : ∀ x c, X.fn x = true → X.env.cells.lookup x = some c → X.s₀.heap.objs.size ≤ c
  hd : X.calm = true → X.A.handled = none
  frames : X.A.frames = some X.stack
  stk : X.stack = X.outer ∨ (X.stack = X.env :: X.outer ∧ X.env.frame = some X.env.locals)
  exf : ∀ b ∈ X.ex, b ≠ X.env.locals ∧ ∀ x c, X.env.cells.lookup x = some c → c ≠ b
  bs : ∀ b o, X.base.get? b = some o → X.s₀.heap.get? b = some o ∧ X.H₀ b = none
  bsz : X.base.objs.size ≤ X.s₀.heap.objs.size
  noex : ∀ b o, X.base.get? b = some o → b ∉ X.ex
  exfs : ∀ b ∈ X.ex, b ∉ X.fs
  funs : X.s₀.heap.FunFrames X.base X.outer
  frf : ∀ b ∈ X.fs, X.H₀ b = none

structure Inv (X : Cx) (pins : List (Addr × Obj)) (σ : List (Option V)) (H : Hp) (s : Shared) : Prop where
  ok : X.Ok
  os : s.os = X.s₀.os
  bare : AllBare s.gens
  base : Un X.fs X.ex X.H₀ H X.s₀.heap s.heap
  loc : ∃ m, s.heap.Ns X.env.locals m ∧ ∀ (i : Nat) (x : Str) (v : V), X.N[i]? = some x → σ[i]? = some (some v) → Vis X.env.scope x → ∃ u, RelV v u ∧ Look X.env s.heap m x u
  cell : ∀ x c, X.env.cells.lookup x = some c → ∃ v, s.heap.IsCell c v
  free : H X.env.locals = none
  freeC : ∀ x c, X.env.cells.lookup x = some c → H c = none
  pin : ∀ p ∈ X.pn ++ pins, s.heap.get? p.1 = some p.2 ∧ H p.1 = none ∧ p.1 ≠ X.env.locals ∧ p.1 ∉ X.fs ∧ ∀ v, p.2.data ≠ .cell v
  hok : HOk X.prog X.w H s.heap
  len : σ.length = X.N.length

section
variable {X : Cx} {pins : List (Addr × Obj)} {σ : List (Option V)} {H H' : Hp} {s : Shared} {h' : Heap}

theorem Cx.Ok.nofr (ok : X.Ok) {b : Addr} {o : Obj} (e : X.base.get? b = some o) : b ∉ X.fs := fun hb => by
  have := (ok.funs.mem hb).1
  rw [e] at this; cases this
theorem Inv.bs (I : Inv X pins σ H s) : ∀ b o, X.base.get? b = some o → s.heap.get? b = some o ∧ H b = none := fun b o e =>
  ⟨I.base.keep b o (I.ok.bs b o e).1 (I.ok.bs b o e).2 (I.ok.nofr e) (I.ok.noex b o e), I.base.free b o (I.ok.bs b o e).1 (I.ok.bs b o e).2 (I.ok.noex b o e)⟩
theorem Inv.bk (I : Inv X pins σ H s) : ∀ b o, X.base.get? b = some o → s.heap.get? b = some o := fun b o e => (I.bs b o e).1
theorem Inv.mod (I : Inv X pins σ H s) : Mod X.K X.mg X.base := I.ok.mod
theorem Inv.kIn (I : Inv X pins σ H s) : X.K.In s.heap := I.ok.mod.kin.keeps I.bk
theorem Inv.nolimit (I : Inv X pins σ H s) : s.heap.NoLimit := I.ok.mod.nolimit.keeps I.bk
theorem Inv.lt (I : Inv X pins σ H s) : X.env.locals < s.heap.objs.size := let ⟨_, hn, _⟩ := I.loc; hn.lt
theorem Inv.sz (I : Inv X pins σ H s) : X.s₀.heap.objs.size ≤ s.heap.objs.size := Nat.le_trans I.ok.above (Nat.le_of_lt I.lt)
theorem Inv.nofs (I : Inv X pins σ H s) {a : Addr} (h : s.heap.objs.size ≤ a) : a ∉ X.fs := fun hb => by
  obtain ⟨_, o, ho, _⟩ := I.ok.funs.mem hb
  exact absurd (Nat.lt_of_lt_of_le (Heap.lt_size ho) (Nat.le_trans I.sz h)) (Nat.lt_irrefl _)
theorem Inv.cne (I : Inv X pins σ H s) : ∀ x c, X.env.cells.lookup x = some c → c ≠ X.env.locals := fun x c e z => by
  obtain ⟨v, o, ho, hd⟩ := I.cell x c e
  obtain ⟨m, ⟨o', es, ep, ho', hd', _⟩, _⟩ := I.loc
  rw [z, ho'] at ho; cases ho; rw [hd'] at hd; cases hd
theorem Inv.funs (I : Inv X pins σ H s) : s.heap.FunFrames X.base X.outer := by
  have all : ∀ (l : List Env), (∀ b ∈ frs l, b ∈ X.fs) → X.s₀.heap.FunFrames X.base l → s.heap.FunFrames X.base l := by
    intro l
    induction l with
    | nil => intro _ _; trivial
    | cons env r ih =>
      intro hs hl
      obtain ⟨hk, ⟨L, o, hf, hn, ho, hd⟩, hr⟩ := hl
      have hL : L ∈ X.fs := hs L (by unfold frs; rw [List.filterMap_cons, hf]; exact List.mem_cons_self)
      obtain ⟨sl, e⟩ := I.base.slot L o ho (I.ok.frf L hL) hL fun z => I.ok.exfs L z hL
      exact ⟨hk, ⟨L, _, hf, hn, e, hd⟩, ih (fun b hb => hs b (by unfold frs; rw [List.filterMap_cons, hf]; exact List.mem_cons_of_mem _ hb)) hr⟩
  exact all X.outer (fun _ hb => hb) I.ok.funs

theorem Inv.stack (I : Inv X pins σ H s) : s.heap.FunFrames X.base X.stack := by
  rcases I.ok.stk with e | ⟨e, hf⟩
  · rw [e]; exact I.funs
  · rw [e]
    obtain ⟨m, hn, _⟩ := I.loc
    refine .cons (by rw [I.ok.kind]; decide) hf hn ?_ I.funs
    exact Heap.get?_none_of_le (Nat.le_trans I.ok.bsz I.ok.above)
theorem Inv.stkSub (I : Inv X pins σ H s) : ∀ b ∈ frs X.stack, b ∈ X.env.locals :: X.fs := fun b hb => by
  rcases I.ok.stk with e | ⟨e, hf⟩
  · rw [e] at hb; exact List.mem_cons_of_mem _ hb
  · rw [e] at hb
    unfold frs at hb
    rw [List.filterMap_cons, hf] at hb
    exact hb
theorem Inv.stkFree (I : Inv X pins σ H s) : ∀ b ∈ frs X.stack, H b = none := fun b hb => by
  rcases List.mem_cons.mp (I.stkSub b hb) with e | hb
  · rw [e]; exact I.free
  · obtain ⟨_, o, ho, _⟩ := I.ok.funs.mem hb
    exact I.base.free b o ho (I.ok.frf b hb) fun z => I.ok.exfs b z hb

theorem Inv.step {g' : Array GenState} {t' : Nat} {d' : Drawn} {ch : List Addr} (I : Inv X pins σ H s)
    (hch : ∀ b ∈ ch, (b ∈ X.ex ∨ X.s₀.heap.objs.size ≤ b) ∧ b ≠ X.env.locals ∧ (∀ x c, X.env.cells.lookup x = some c → c ≠ b) ∧ ∀ p ∈ X.pn ++ pins, p.1 ≠ b)
    (keep : ∀ b o, b ≠ X.env.locals → b ∉ X.fs → b ∉ ch → s.heap.get? b = some o → H b = none → h'.get? b = some o)
    (slot : ∀ b o, b ≠ X.env.locals → b ∈ X.fs → b ∉ ch → s.heap.get? b = some o → H b = none → ∃ sl, h'.get? b = some { o with slots := sl }) (free : ∀ b o, b ∉ ch → s.heap.get? b = some o → H b = none → H' b = none)
    (there : ∀ b o, b ∉ ch → s.heap.get? b = some o → ∃ o', h'.get? b = some o')
    (tups : ∀ b xs, H b = some (.tup xs) → H' b = some (.tup xs)) (frzs : ∀ b o u, H b = some (.frz o u) → H' b = some (.frz o u)) (tbls : ∀ b ps, H b = some (.tbl ps) → ∃ more, H' b = some (.tbl (ps ++ more)))
    (ns : ∀ m, s.heap.Ns X.env.locals m → h'.Ns X.env.locals m) (hok : HOk X.prog X.w H' h') (hg : AllBare g') :
    Inv X pins σ H' { s with heap := h', gens := g', drawn := d', toks := t' } := by
  have neL : ∀ b o, X.s₀.heap.get? b = some o → b ≠ X.env.locals := fun b o e => Nat.ne_of_lt (Nat.lt_of_lt_of_le (Heap.lt_size e) I.ok.above)
  have neC : ∀ b o, X.s₀.heap.get? b = some o → b ∉ X.ex → b ∉ ch := fun b o e hx hb => by
    rcases (hch b hb).1 with z | z
    · exact hx z
    · exact absurd (Nat.lt_of_lt_of_le (Heap.lt_size e) z) (Nat.lt_irrefl _)
  have cellK : ∀ x c, X.env.cells.lookup x = some c → ∀ v, s.heap.IsCell c v → h'.IsCell c v := fun x c e v ⟨o, ho, hd⟩ => by
    have nch : c ∉ ch := fun z => (hch c z).2.2.1 x c e rfl
    by_cases hc : c ∈ X.fs
    · obtain ⟨sl, q⟩ := slot c o (I.cne x c e) hc nch ho (I.freeC x c e)
      exact ⟨_, q, hd⟩
    · exact ⟨o, keep c o (I.cne x c e) hc nch ho (I.freeC x c e), hd⟩
  refine ⟨I.ok, I.os, hg, ⟨fun b o e n hb hx => ?_, fun b o e n hb hx => ?_, fun b o e n hx => ?_, fun b o e hx => ?_, fun b xs e => tups b xs (I.base.tups b xs e), fun b o xs e => frzs b o xs (I.base.frzs b o xs e), fun b ps e => ?_⟩, ?_, fun x c e => ?_, ?_, fun x c e => ?_, fun p hp => ?_, hok, I.len⟩
  · exact keep b o (neL b o e) hb (neC b o e hx) (I.base.keep b o e n hb hx) (I.base.free b o e n hx)
  · obtain ⟨sl, e1⟩ := I.base.slot b o e n hb hx
    obtain ⟨sl', e2⟩ := slot b _ (neL b o e) hb (neC b o e hx) e1 (I.base.free b o e n hx)
    exact ⟨sl', e2⟩
  · obtain ⟨o', e1⟩ := I.base.there b o e hx
    exact free b o' (neC b o e hx) e1 (I.base.free b o e n hx)
  · obtain ⟨o', e1⟩ := I.base.there b o e hx
    exact there b o' (neC b o e hx) e1
  · obtain ⟨m1, e1⟩ := I.base.tbls b ps e
    obtain ⟨m2, e2⟩ := tbls b _ e1
    exact ⟨m1 ++ m2, by rw [e2, Array.append_assoc]⟩
  · obtain ⟨m, hn, hl⟩ := I.loc
    refine ⟨m, ns m hn, fun i x v e1 e2 e3 => ?_⟩
    obtain ⟨u, r, l⟩ := hl i x v e1 e2 e3
    refine ⟨u, r, ?_⟩
    rcases l with l | ⟨k, c, e, z⟩
    · exact .inl l
    · exact .inr ⟨k, c, e, cellK x c e _ z⟩
  · obtain ⟨v, z⟩ := I.cell x c e
    exact ⟨v, cellK x c e v z⟩
  · obtain ⟨m, ⟨o, _, _, ho, _⟩, _⟩ := I.loc
    exact free _ o (fun z => (hch _ z).2.1 rfl) ho I.free
  · obtain ⟨v, o, ho, hd⟩ := I.cell x c e
    exact free c o (fun z => (hch c z).2.2.1 x c e rfl) ho (I.freeC x c e)
  · obtain ⟨e, n, ne, nf, d⟩ := I.pin p hp
    have nch : p.1 ∉ ch := fun z => (hch p.1 z).2.2.2 p hp rfl
    exact ⟨keep p.1 p.2 ne nf nch e n, free p.1 p.2 nch e n, ne, nf, d⟩
theorem Inv.un {t' : Nat} (I : Inv X pins σ H s) (u : Un X.fs [] H H' s.heap h') (hok : HOk X.prog X.w H' h') : Inv X pins σ H' { s with heap := h', toks := t' } := by
  obtain ⟨m, ⟨o, es, ep, ho, r⟩, _⟩ := id I.loc
  obtain ⟨sl, hL⟩ := u.any ho I.free (by simp)
  exact I.step (g' := s.gens) (d' := s.drawn) (ch := []) (fun _ z => by cases z) (fun b o _ hb _ e n => u.keep b o e n hb (by simp)) (fun b o _ hb _ e n => u.slot b o e n hb (by simp)) (fun b o _ e n => u.free b o e n (by simp)) (fun b o _ e => u.there b o e (by simp)) u.tups u.frzs u.tbls (fun m' hm => by
    obtain ⟨o', es', ep', ho', r'⟩ := hm
    rw [ho] at ho'; cases ho'
    exact ⟨_, es', ep', hL, r'⟩) hok I.bare
theorem Inv.call {g' : Array GenState} {t' : Nat} {d' : Drawn} {ch : List Addr} (I : Inv X pins σ H s) (u : Un (frs X.stack) ch H H' s.heap h') (hok : HOk X.prog X.w H' h') (hg : AllBare g')
    (hch : ∀ b ∈ ch, (b ∈ X.ex ∨ X.s₀.heap.objs.size ≤ b) ∧ b ≠ X.env.locals ∧ (∀ x c, X.env.cells.lookup x = some c → c ≠ b) ∧ ∀ p ∈ X.pn ++ pins, p.1 ≠ b) :
    Inv X pins σ H' { s with heap := h', gens := g', drawn := d', toks := t' } := by
  obtain ⟨m, ⟨o, es, ep, ho, r⟩, _⟩ := id I.loc
  obtain ⟨sl, hL⟩ := u.any ho I.free fun z => (hch _ z).2.1 rfl
  exact I.step (ch := ch) hch (fun b o hL hb hc e n => u.keep b o e n (fun z => (List.mem_cons.mp (I.stkSub b z)).elim hL hb) hc) (fun b o _ _ hc e n => u.any e n hc) (fun b o hc e n => u.free b o e n hc) (fun b o hc e => u.there b o e hc) u.tups u.frzs u.tbls (fun m' hm => by
    obtain ⟨o', es', ep', ho', r'⟩ := hm
    rw [ho] at ho'; cases ho'
    exact ⟨_, es', ep', hL, r'⟩) hok hg
theorem Inv.turned {t' : Nat} {it : Addr} (I : Inv X pins σ H s) (k : ∀ b o, b ≠ it → s.heap.get? b = some o → h'.get? b = some o) (hn : H it = none) (hL : it ≠ X.env.locals)
    (h1 : it ∈ X.ex ∨ X.s₀.heap.objs.size ≤ it) (h2 : ∀ x c, X.env.cells.lookup x = some c → c ≠ it) (h3 : ∀ p ∈ X.pn ++ pins, p.1 ≠ it) : Inv X pins σ H { s with heap := h', toks := t' } := by
  have nit : ∀ b u, H b = some u → b ≠ it := fun b u e z => by rw [z, hn] at e; cases e
  refine I.step (g' := s.gens) (d' := s.drawn) (ch := [it]) (fun b hb => ?_) (fun b o _ _ hc e _ => k b o (fun z => hc (by simp [z])) e) (fun b o _ _ hc e _ => ⟨o.slots, k b o (fun z => hc (by simp [z])) e⟩) (fun _ _ _ _ n => n)
    (fun b o hc e => ⟨o, k b o (fun z => hc (by simp [z])) e⟩) (fun _ _ e => e) (fun _ _ _ e => e) (fun b ps e => ⟨#[], by rw [e]; simp⟩) (fun m hm => ?_) (fun b u e => ?_) I.bare
  · have e : b = it := by simpa using hb
    subst e
    exact ⟨h1, hL, h2, h3⟩
  · obtain ⟨o, es, ep, ho, r⟩ := hm
    exact ⟨o, es, ep, k _ o (Ne.symm hL) ho, r⟩
  · refine (I.hok b u e).stay (fun c v hc q => k c v ?_ q) (fun _ q => q) fun _ _ q => q
    rcases hc with z | z
    · rw [z]; exact nit b u e
    · exact nit c _ z
theorem Inv.tok (I : Inv X pins σ H s) (t : Nat) : Inv X pins σ H { s with toks := t } := I.un (h' := s.heap) (t' := t) Un.refl I.hok
theorem Inv.kept {t' : Nat} (I : Inv X pins σ H s) (k : ∀ b u, s.heap.get? b = some u → h'.get? b = some u) : Inv X pins σ H { s with heap := h', toks := t' } := I.un (Un.kept k) (I.hok.kept k)
theorem Inv.laid {a : Addr} {o : HO} {t' : Nat} (I : Inv X pins σ H s) (k : ∀ b u, s.heap.get? b = some u → h'.get? b = some u) (hp : s.heap.objs.size ≤ a) (new : ObjOk X.prog X.w (upd H a o) h' a o) :
    Inv X pins σ (upd H a o) { s with heap := h', toks := t' } := I.un (Un.laid k hp (I.hok.fresh hp)) (I.hok.laid k hp new)
theorem Inv.write {x e : Addr} {o : HO} {t' : Nat} (I : Inv X pins σ H s) (mu : Mut (H x)) (he : e = x ∨ H e = some (.own x)) (k : ∀ b u, b ≠ e → s.heap.get? b = some u → h'.get? b = some u) (heo : ∃ u, h'.get? e = some u)
    (new : ObjOk X.prog X.w (upd H x o) h' x o) : Inv X pins σ (upd H x o) { s with heap := h', toks := t' } := I.un (Un.write mu he k heo) (I.hok.write mu he k heo new)
theorem Inv.weak {σ' : List (Option V)} (I : Inv X pins σ H s) (hl : σ'.length = σ.length) (w : ∀ (i : Nat) v, σ'[i]? = some (some v) → σ[i]? = some (some v)) : Inv X pins σ' H s :=
  ⟨I.ok, I.os, I.bare, I.base, let ⟨m, hn, hl'⟩ := I.loc; ⟨m, hn, fun i x v e1 e2 e3 => hl' i x v e1 (w i v e2) e3⟩, I.cell, I.free, I.freeC, I.pin, I.hok, hl.trans I.len⟩
theorem Inv.pins_of {pins' : List (Addr × Obj)} (I : Inv X pins σ H s) (h : ∀ p ∈ pins', s.heap.get? p.1 = some p.2 ∧ H p.1 = none ∧ p.1 ≠ X.env.locals ∧ p.1 ∉ X.fs ∧ ∀ v, p.2.data ≠ .cell v) : Inv X pins' σ H s :=
  ⟨I.ok, I.os, I.bare, I.base, I.loc, I.cell, I.free, I.freeC, fun p hp => (List.mem_append.mp hp).elim (fun z => I.pin p (List.mem_append_left _ z)) (h p), I.hok, I.len⟩

theorem nodup_ix {N : List Str} (hN : N.Nodup) {i j : Nat} {x : Str} (a : N[i]? = some x) (b : N[j]? = some x) : i = j := by
  obtain ⟨h1, e1⟩ := List.getElem?_eq_some_iff.mp a
  obtain ⟨h2, e2⟩ := List.getElem?_eq_some_iff.mp b
  exact (List.getElem_inj hN).mp (e1.trans e2.symm)

theorem store_ok2 {M : Model} {A : Around} {E : Value → Shared → Prop} {i : Nat} {x : Str} {v : V} {u : Value} {Q : Unit → Shared → Prop} (I : Inv X pins σ H s) (hN : X.N.Nodup) (hi : X.N[i]? = some x) (hx : Loc X.env.scope x) (r : RelV v u)
    (h : ∀ s', Inv X pins (σ.set i (some v)) H s' → (∃ a, Heap.SameBut a s.heap s'.heap ∧ (a = X.env.locals ∨ X.env.cells.lookup x = some a)) → Q () s') (hf : X.fn x = true ∨ X.env.scope.names.lookup x = some .local := by first | exact .inl rfl | exact .inr rfl | assumption) : wpAny M A (storeName X.env x u) Q E s := by
  obtain ⟨m, hn, hl⟩ := id I.loc
  have hcls : (X.env.scope.kind == .class || (X.env.scope.kind == .module && X.env.locals != X.env.globals)) = false := by rw [I.ok.kind]; rfl
  have hiσ : i < σ.length := by rw [I.len]; exact (List.getElem?_eq_some_iff.mp hi).1
  have cne := I.cne
  have tracked : ∀ {a : Addr} {h' : Heap}, (∃ o, s.heap.get? a = some o ∧ H a = none) → Heap.SameBut a s.heap h' → HOk X.prog X.w H h' := fun {a h'} ha hs b ob e => by
    obtain ⟨_, _, hfree⟩ := ha
    refine (I.hok b ob e).stay (fun c w' hc q => (hs.2 c ?_).trans q) (fun _ q => q) fun _ _ q => q
    rintro rfl
    rcases hc with rfl | hc
    · rw [hfree] at e; cases e
    · rw [hfree] at hc; cases hc
  rcases hx with hk | hk
  · refine wpAny_storeName_local hk hn (fun h' hn' hs => ?_) hcls
    obtain ⟨oL, _, _, hoL, _⟩ := id hn
    refine h _ ⟨I.ok, I.os, I.bare, ⟨fun b o e n hb hx => ?_, fun b o e n hb hx => ?_, I.base.free, fun b o e hx => ?_, I.base.tups, I.base.frzs, I.base.tbls⟩, ⟨_, hn', fun j y v' e1 e2 e3 => ?_⟩, fun y c e => ?_, I.free, I.freeC, fun p hp => ?_, tracked ⟨oL, hoL, I.free⟩ hs, by simpa using I.len⟩ ⟨_, hs, .inl rfl⟩
    · exact (hs.2 b (Nat.ne_of_lt (Nat.lt_of_lt_of_le (Heap.lt_size e) I.ok.above))).trans (I.base.keep b o e n hb hx)
    · obtain ⟨sl, e1⟩ := I.base.slot b o e n hb hx
      exact ⟨sl, (hs.2 b (Nat.ne_of_lt (Nat.lt_of_lt_of_le (Heap.lt_size e) I.ok.above))).trans e1⟩
    · obtain ⟨o', e1⟩ := I.base.there b o e hx
      exact ⟨o', (hs.2 b (Nat.ne_of_lt (Nat.lt_of_lt_of_le (Heap.lt_size e) I.ok.above))).trans e1⟩
    · by_cases hj : j = i
      · subst hj
        rw [hi] at e1; cases e1
        rw [List.getElem?_set_self hiσ] at e2
        cases e2
        exact ⟨u, r, .inl ⟨hk, by simp⟩⟩
      · rw [List.getElem?_set_ne (Ne.symm hj)] at e2
        obtain ⟨u', r', q⟩ := hl j y v' e1 e2 e3
        refine ⟨u', r', ?_⟩
        rcases q with ⟨k, e⟩ | ⟨k, c, e, z⟩
        · refine .inl ⟨k, ?_⟩
          have : y ≠ x := fun e => hj (nodup_ix hN e1 (e ▸ hi))
          simp [this, e]
        · exact .inr ⟨k, c, e, z.sameBut hs (cne y c e)⟩
    · obtain ⟨w', z⟩ := I.cell y c e
      exact ⟨w', z.sameBut hs (cne y c e)⟩
    · obtain ⟨e, n, ne, nf, d⟩ := I.pin p hp
      exact ⟨(hs.2 p.1 ne).trans e, n, ne, nf, d⟩
  · have hfn : X.fn x = true := by
      rcases hf with z | z
      · exact z
      · rw [z] at hk; cases hk
    obtain ⟨c, hc⟩ := I.ok.has x (.inl hk)
    obtain ⟨w', z⟩ := I.cell x c hc
    refine wpAny_storeName_cell I.ok.kind hk hc z (fun h' hc' hs => ?_)
    obtain ⟨oc, hoc, hocd⟩ := id z
    refine h { s with heap := h' } ⟨I.ok, I.os, I.bare, ⟨fun b o e n hb hx => ?_, fun b o e n hb hx => ?_, I.base.free, fun b o e hx => ?_, I.base.tups, I.base.frzs, I.base.tbls⟩, ⟨m, hn.sameBut hs (Ne.symm (cne x c hc)), fun j y v' e1 e2 e3 => ?_⟩, fun y c' e => ?_, I.free, I.freeC, fun p hp => ?_, tracked ⟨oc, hoc, I.freeC x c hc⟩ hs, by simpa using I.len⟩ ⟨c, hs, .inr hc⟩
    · exact (hs.2 b (Nat.ne_of_lt (Nat.lt_of_lt_of_le (Heap.lt_size e) (I.ok.cab x c hfn hc)))).trans (I.base.keep b o e n hb hx)
    · obtain ⟨sl, e1⟩ := I.base.slot b o e n hb hx
      exact ⟨sl, (hs.2 b (Nat.ne_of_lt (Nat.lt_of_lt_of_le (Heap.lt_size e) (I.ok.cab x c hfn hc)))).trans e1⟩
    · obtain ⟨o', e1⟩ := I.base.there b o e hx
      exact ⟨o', (hs.2 b (Nat.ne_of_lt (Nat.lt_of_lt_of_le (Heap.lt_size e) (I.ok.cab x c hfn hc)))).trans e1⟩
    · by_cases hj : j = i
      · subst hj
        rw [hi] at e1; cases e1
        rw [List.getElem?_set_self hiσ] at e2
        cases e2
        exact ⟨u, r, .inr ⟨.inl hk, c, hc, hc'⟩⟩
      · rw [List.getElem?_set_ne (Ne.symm hj)] at e2
        obtain ⟨u', r', q⟩ := hl j y v' e1 e2 e3
        refine ⟨u', r', ?_⟩
        rcases q with q | ⟨k, c', e, z'⟩
        · exact .inl q
        · refine .inr ⟨k, c', e, z'.sameBut hs ?_⟩
          rintro rfl
          exact hj (nodup_ix hN e1 (I.ok.inj _ _ _ e hc ▸ hi))
    · by_cases hcc : c' = c
      · subst hcc; exact ⟨_, hc'⟩
      · obtain ⟨w2, z2⟩ := I.cell y c' e
        exact ⟨w2, z2.sameBut hs hcc⟩
    · obtain ⟨e, n, ne, nf, d⟩ := I.pin p hp
      refine ⟨(hs.2 p.1 ?_).trans e, n, ne, nf, d⟩
      intro q
      rw [q, hoc] at e
      have q' : oc = p.2 := Option.some.inj e
      exact d w' (by rw [← q']; exact hocd)
theorem store_ok {M : Model} {A : Around} {E : Value → Shared → Prop} {i : Nat} {x : Str} {v : V} {u : Value} {Q : Unit → Shared → Prop} (I : Inv X pins σ H s) (hN : X.N.Nodup) (hi : X.N[i]? = some x) (hx : Loc X.env.scope x) (r : RelV v u)
    (h : ∀ s', Inv X pins (σ.set i (some v)) H s' → Q () s') (hf : X.fn x = true ∨ X.env.scope.names.lookup x = some .local := by first | exact .inl rfl | exact .inr rfl | assumption) : wpAny M A (storeName X.env x u) Q E s :=
  store_ok2 I hN hi hx r (fun s' I' _ => h s' I') hf
theorem Inv.call' {s' : Shared} {ch : List Addr} (I : Inv X pins σ H s) (ho : s'.os = s.os) (u : Un (frs X.stack) ch H H' s.heap s'.heap) (hok : HOk X.prog X.w H' s'.heap) (hg : AllBare s'.gens)
    (hch : ∀ b ∈ ch, (b ∈ X.ex ∨ X.s₀.heap.objs.size ≤ b) ∧ b ≠ X.env.locals ∧ (∀ x c, X.env.cells.lookup x = some c → c ≠ b) ∧ ∀ p ∈ X.pn ++ pins, p.1 ≠ b) : Inv X pins σ H' s' := by
  obtain ⟨h', g', d', t', o'⟩ := s'
  have e : o' = s.os := ho
  subst e
  exact I.call (g' := g') (t' := t') (d' := d') u hok hg hch
end

noncomputable abbrev XK := Value → Option Addr → Hp → Prop
noncomputable abbrev St := List (Option V)
noncomputable abbrev VK := V → Hp → Prop
noncomputable abbrev TE := St → Hp → VK → Prop
noncomputable abbrev TT := St → Hp → (Bool → Hp → Prop) → Prop
noncomputable abbrev TA := St → Hp → (List V → Hp → Prop) → Prop
structure Ends where
  nx : St → Hp → Prop
  rt : VK
  bk : St → Hp → Prop := fun _ _ => False
  ct : St → Hp → Prop := fun _ _ => False
noncomputable abbrev TS := Ends → St → Hp → Prop

noncomputable def EP (X : Cx) (pins : List (Addr × Obj)) (σ : St) (Q : VK) (u : Value) (s' : Shared) : Prop := ∃ v H', Inv X pins σ H' s' ∧ RelV v u ∧ Q v H'
noncomputable def TP (X : Cx) (pins : List (Addr × Obj)) (σ : St) (Q : Bool → Hp → Prop) (b : Bool) (s' : Shared) : Prop := ∃ H', Inv X pins σ H' s' ∧ Q b H'
noncomputable def AP (X : Cx) (pins : List (Addr × Obj)) (σ : St) (Q : List V → Hp → Prop) (us : List Value) (s' : Shared) : Prop := ∃ vs H', Inv X pins σ H' s' ∧ Vals vs us ∧ Q vs H'
noncomputable def SP (X : Cx) (pins : List (Addr × Obj)) (D : Ends) (f : Flow) (s' : Shared) : Prop :=
  match f with
  | .next => ∃ σ' H', Inv X pins σ' H' s' ∧ D.nx σ' H'
  | .brk => ∃ σ' H', Inv X pins σ' H' s' ∧ D.bk σ' H'
  | .cont => ∃ σ' H', Inv X pins σ' H' s' ∧ D.ct σ' H'
  | .ret u => ∃ v σ' H', Inv X pins σ' H' s' ∧ RelV v u ∧ D.rt v H'

noncomputable def PE (X : Cx) (e : Expr) (t : TE) : Prop :=
  ∀ (pins : List (Addr × Obj)) (s : Shared) (σ : St) (H : Hp) (Q : VK), Inv X pins σ H s → t σ H Q → wpAny (model X.prog X.w) X.A (eval e X.env) (EP X pins σ Q) X.xe s
noncomputable def PT (X : Cx) (e : Expr) (t : TT) : Prop :=
  ∀ (pins : List (Addr × Obj)) (s : Shared) (σ : St) (H : Hp) (Q : Bool → Hp → Prop), Inv X pins σ H s → t σ H Q → wpAny (model X.prog X.w) X.A (isTrue e X.env (eval e X.env)) (TP X pins σ Q) X.xe s
noncomputable def PW (X : Cx) (e : Expr) (t : TT) : Prop :=
  ∀ (whole : Sem Value) (pins : List (Addr × Obj)) (s : Shared) (σ : St) (H : Hp) (Q : Bool → Hp → Prop), Inv X pins σ H s → t σ H Q → wpAny (model X.prog X.w) X.A (isTrue e X.env whole) (TP X pins σ Q) X.xe s
theorem PW.pt {X : Cx} {e : Expr} {t : TT} (h : PW X e t) : PT X e t := h _
noncomputable def PA (X : Cx) (es : List Expr) (t : TA) : Prop :=
  ∀ (pos : Pos) (pins : List (Addr × Obj)) (s : Shared) (σ : St) (H : Hp) (Q : List V → Hp → Prop), Inv X pins σ H s → t σ H Q → wpAny (model X.prog X.w) X.A (spliced (backTo pos (starEach es X.env))) (AP X pins σ Q) X.xe s
noncomputable def PS (X : Cx) (st : Stmt) (t : TS) : Prop :=
  ∀ (pins : List (Addr × Obj)) (s : Shared) (σ : St) (H : Hp) (D : Ends), Inv X pins σ H s → t D σ H → wpAny (model X.prog X.w) X.A (exec st X.env) (SP X pins D) X.xe s
noncomputable def PSs (X : Cx) (st : List Stmt) (t : TS) : Prop :=
  ∀ (pins : List (Addr × Obj)) (s : Shared) (σ : St) (H : Hp) (D : Ends), Inv X pins σ H s → t D σ H → wpAny (model X.prog X.w) X.A (execs st X.env) (SP X pins D) X.xe s
theorem thn {α : Type} {t : Sem α} {Q Q' : α → Shared → Prop} {M : Model} {A : Around} {E : Value → Shared → Prop} {s : Shared} (h : wpAny M A t Q E s) (hQ : ∀ a s, Q a s → Q' a s) : wpAny M A t Q' E s := wpAny_mono h hQ fun _ _ x => x
end L2

namespace L2
open PySem PySem.Spec PyProof.Rows
section
variable {X : Cx}

noncomputable def tVar (i : Nat) : TE := fun σ H Q => ∃ v, σ[i]? = some (some v) ∧ Q v H
noncomputable def tC (v : V) : TE := fun _ H Q => Q v H
theorem pe_var {i : Nat} {x : Str} {pos : Pos} (hN : X.N[i]? = some x) (hv : Vis X.env.scope x) (hd : (x == ("__debug__" : Str)) = false := by decide) (hcd : (x == ("__classdict__" : Str)) = false := by decide) : PE X (.Name x pos) (tVar i) := by
  intro pins s σ H Q I h
  obtain ⟨v, e, h⟩ := h
  obtain ⟨m, hn, hl⟩ := I.loc
  obtain ⟨u, r, l⟩ := hl i x v hN e hv
  have fin : EP X pins σ Q u s := ⟨v, H, I, r, h⟩
  rcases l with ⟨hk, hm⟩ | ⟨hk, c, hc, hcell⟩
  · exact wpAny_Name (wpAny_loadName_local I.ok.kind hk hn hm fin) hd
  · rcases hk with hk | hk
    · exact wpAny_Name (wpAny_loadName_cell I.ok.kind hk hc hcell fin) hd
    · exact wpAny_Name (wpAny_loadName_free I.ok.kind hk hc hcell fin hcd) hd
theorem pe_int {i j pos} : PE X (.Constant (.int i) j pos) (tC (.int i)) := fun _ _ _ H _ I h => wpAny_Constant_int ⟨.int i, H, I.tok _, ⟨_, rfl⟩, h⟩
theorem pe_bl {b j pos} : PE X (.Constant (.bool b) j pos) (tC (.bl b)) := fun _ _ _ H _ I h => Constant_bool ⟨.bl b, H, I, rfl, h⟩
noncomputable def Gl (X : Cx) (x : Str) : Prop := X.env.kindOf x = some .globalImplicit
theorem ld_glob {E : Value → Shared → Prop} {pins : List (Addr × Obj)} {s : Shared} {σ : St} {H : Hp} {x : Str} {u : Value} {pos : Pos} {Q : Value → Shared → Prop} (I : Inv X pins σ H s) (hg : Gl X x) (hm : X.mg x = some u) (h : Q u s)
    (hd : (x == ("__debug__" : Str)) = false := by decide) : wpAny (model X.prog X.w) X.A (eval (.Name x pos) X.env) Q E s :=
  Calls.Name_function_global I.ok.kind hg (Calls.loadGlobal_global (by rw [I.ok.glob]; exact I.mod.glob.keeps I.bk) hm h) hd
theorem ld_blt {E : Value → Shared → Prop} {pins : List (Addr × Obj)} {s : Shared} {σ : St} {H : Hp} {x : Str} {u : Value} {pos : Pos} {Q : Value → Shared → Prop} (I : Inv X pins σ H s) (hg : Gl X x) (hm : X.mg x = none) (hv : bootBuiltins x = some u) (h : Q u s)
    (hn : x ≠ "__name__" := by decide) (hd : (x == ("__debug__" : Str)) = false := by decide) : wpAny (model X.prog X.w) X.A (eval (.Name x pos) X.env) Q E s := by
  obtain ⟨mb, h1, h2⟩ := I.mod.blt
  exact Calls.Name_function_global I.ok.kind hg (Calls.loadGlobal_builtin (by rw [I.ok.glob]; exact I.mod.glob.keeps I.bk) hm (by rw [I.ok.blt]; exact h1.keeps I.bk) ((h2 x hn).trans hv) h) hd
theorem pe_glob {x : Str} {v : V} {u : Value} {pos : Pos} (hg : Gl X x) (hm : X.mg x = some u) (r : RelV v u) (hd : (x == ("__debug__" : Str)) = false := by decide) : PE X (.Name x pos) (tC v) :=
  fun _ _ _ H _ I h => ld_glob I hg hm ⟨v, H, I, r, h⟩ hd
variable {a b : Expr} {ta tb : TE} {pos : Pos}
noncomputable def tB (t : TE) : TT := fun σ H Q => t σ H fun x H1 => ∃ c, x = .bl c ∧ Q c H1
theorem pt_val {e : Expr} {t : TE} (h : PE X e t) (he : ∀ whole, isTrue e X.env whole = (do let v ← whole; standAt e.pos; holding [v] (truthy v)) := by intro _; rfl) : PT X e (tB t) := by
  intro pins s σ H Q I hw
  refine isTrue_plain (thn (h pins s σ H _ I hw) fun v s1 qZ => ?_) (he _)
  obtain ⟨x, H1, I1, r1, q1⟩ := qZ
  obtain ⟨d, rfl, q⟩ := q1
  cases r1
  exact wpAny_truthy_bool ⟨H1, I1, q⟩

variable {tA tB' : TT} {rest : List Expr}
noncomputable def tAnd (t u : TT) : TT := fun σ H Q => t σ H fun c H1 => if c = true then u σ H1 Q else Q false H1
noncomputable def tNot (t : TT) : TT := fun σ H Q => t σ H fun c H1 => Q (!c) H1
theorem pw_and1 (ha : PT X a tA) : PW X (.BoolOp .And [a] pos) tA := by
  intro wh pins s σ H Q I h
  refine isTrue_and (thn (ha pins s σ H Q I h) fun c s1 e => ?_)
  cases c with
  | true => exact isTrue_and_nil e
  | false => exact e
theorem pw_and (ha : PT X a tA) (hb : PW X (.BoolOp .And (b :: rest) pos) tB') : PW X (.BoolOp .And (a :: b :: rest) pos) (tAnd tA tB') := by
  intro wh pins s σ H Q I h
  refine isTrue_and (thn (ha pins s σ H _ I h) fun c s1 qZ => ?_)
  obtain ⟨H1, I1, q1⟩ := qZ
  cases c with
  | true => exact hb wh pins s1 σ H1 Q I1 q1
  | false => exact ⟨H1, I1, q1⟩
theorem pt_not (ha : PT X a tA) : PT X (.UnaryOp .Not a pos) (tNot tA) := by
  intro pins s σ H Q I h
  exact isTrue_not (ha pins s σ H (fun c H1 => Q (!c) H1) I h)
noncomputable def tAndV (ta tb : TE) : TE := fun σ H Q => ta σ H fun x H1 => ∃ c, x = .bl c ∧ if c = true then tb σ H1 Q else Q (.bl false) H1
theorem pe_one {op} {t : TE} (h : PE X a t) : PE X (.BoolOp op [a] pos) t := fun pins s σ H Q I hw => BoolOp_one (h pins s σ H Q I hw)
theorem pe_and (ha : PE X a ta) (hb : PE X (.BoolOp .And (b :: rest) pos) tb) : PE X (.BoolOp .And (a :: b :: rest) pos) (tAndV ta tb) := by
  intro pins s σ H Q I h
  refine BoolOp_and (thn (ha pins s σ H _ I h) fun v s1 qZ => ?_)
  obtain ⟨x, H1, I1, r1, q1⟩ := qZ
  obtain ⟨c, rfl, q1⟩ := q1
  cases r1
  refine wpAny_truthy_bool ?_
  cases c with
  | true => exact hb pins s1 σ H1 Q I1 q1
  | false => exact ⟨.bl false, H1, I1, rfl, q1⟩
end
end L2

namespace L2
open PySem PySem.Spec PyProof.Rows

noncomputable def SqL (K : PySem.W.Frag) (H : Hp) (a : Addr) (xs : List V) : Prop :=
  Rd H a (.lst xs) ∨
    ∃ (o : Obj) (its : Array Value) (n : Nat), K.lookup a = some o ∧ o.cls = .type "list" ∧ o.dict = none ∧ o.data = .seq its n ∧ its.size ≤ sizeLine ∧ Vals xs its.toList
noncomputable def SqT (K : PySem.W.Frag) (H : Hp) (a : Addr) (xs : List V) : Prop :=
  Rd H a (.tup xs) ∨
    ∃ (o : Obj) (its : Array Value) (n : Nat), K.lookup a = some o ∧ o.cls = .type "tuple" ∧ o.data = .seq its n ∧ its.size ≤ sizeLine ∧ Vals xs its.toList
noncomputable def absV : Value → Option V
  | .none => some .non
  | .bool b => some (.bl b)
  | .int i _ => some (.int i)
  | .str x _ => some (.str x)
  | .bytes b _ => some (.byt b)
  | .float b _ => some (.flt b)
  | .ref a => some (.ref a)
  | .type n => some (.ty n)
  | _ => none
theorem RelV.abs {x : V} {u : Value} (r : RelV x u) : absV u = some x := by
  cases x with
  | non => cases r; rfl
  | bl _ => cases r; rfl
  | int _ => obtain ⟨t, rfl⟩ := r; rfl
  | str _ => obtain ⟨t, rfl⟩ := r; rfl
  | byt _ => obtain ⟨t, rfl⟩ := r; rfl
  | flt _ => obtain ⟨t, rfl⟩ := r; rfl
  | ref _ => cases r; rfl
  | ty _ => cases r; rfl
theorem RelV.inj {x y : V} {u : Value} (r : RelV x u) (q : RelV y u) : x = y := Option.some.inj (r.abs.symm.trans q.abs)
theorem Vals.inj : ∀ {xs ys : List V} {us : List Value}, Vals xs us → Vals ys us → xs = ys
  | _, _, _, .nil, .nil => rfl
  | _, _, _, .cons r t, .cons r' t' => by rw [r.inj r', Vals.inj t t']
section
variable {X : Cx} {pins : List (Addr × Obj)} {σ : St} {H : Hp} {s : Shared} {a : Addr} {xs ys : List V}
theorem SqL.of {K : PySem.W.Frag} (h : H a = some (.lst xs)) : SqL K H a xs := .inl (.inl h)
theorem SqT.of {K : PySem.W.Frag} (h : H a = some (.tup xs)) : SqT K H a xs := .inl (.inl h)
theorem Inv.list (I : Inv X pins σ H s) (h : SqL X.K H a xs) : ∃ its : List Value, Vals xs its ∧ PlainL s.heap a its.toArray ∧ xs.length ≤ sizeLine := by
  rcases h with h | ⟨o, its, n, hk, hc, hd, hs, hz, r⟩
  · obtain ⟨z, its, n, r, e⟩ := h.ok I.hok
    exact ⟨its, r, ⟨_, n, e, rfl, rfl, rfl⟩, z⟩
  · refine ⟨its.toList, r, ⟨o, n, I.kIn a o hk, hc, hd, by simpa using hs⟩, ?_⟩
    have e := r.length
    simp only [Array.length_toList] at e
    omega
theorem Inv.tuple (I : Inv X pins σ H s) (h : SqT X.K H a xs) : ∃ its : List Value, Vals xs its ∧ IsTup s.heap a its.toArray ∧ xs.length ≤ sizeLine := by
  rcases h with h | ⟨o, its, n, hk, hc, hs, hz, r⟩
  · obtain ⟨z, its, r, p⟩ := h.ok I.hok
    exact ⟨its, r, p, z⟩
  · refine ⟨its.toList, r, ⟨o, I.kIn a o hk, hc, n, by simpa using hs⟩, ?_⟩
    have e := r.length
    simp only [Array.length_toList] at e
    omega
theorem Inv.list_inj (I : Inv X pins σ H s) (h : SqL X.K H a xs) (h' : SqL X.K H a ys) : xs = ys := by
  obtain ⟨its, r, ⟨o, n, e, _, _, d⟩, _⟩ := I.list h
  obtain ⟨its', r', ⟨o', n', e', _, _, d'⟩, _⟩ := I.list h'
  rw [e] at e'; cases e'
  rw [d] at d'
  injection d' with d1 _
  have : its = its' := by simpa using congrArg Array.toList d1
  subst this
  exact r.inj r'
theorem Inv.tuple_inj (I : Inv X pins σ H s) (h : SqT X.K H a xs) (h' : SqT X.K H a ys) : xs = ys := by
  obtain ⟨its, r, ⟨o, e, _, n, d⟩, _⟩ := I.tuple h
  obtain ⟨its', r', ⟨o', e', _, n', d'⟩, _⟩ := I.tuple h'
  rw [e] at e'; cases e'
  rw [d] at d'
  injection d' with d1 _
  have : its = its' := by simpa using congrArg Array.toList d1
  subst this
  exact r.inj r'
end

noncomputable abbrev Cx.wish (X : Cx) (E : Value → Shared → Prop) : Cx := { X with xe := E }
noncomputable abbrev Cx.nox (X : Cx) : Cx := X.wish fun _ _ => False
theorem Cx.Ok.wish {X : Cx} (ok : X.Ok) (E : Value → Shared → Prop) : (X.wish E).Ok :=
  ⟨ok.mod, ok.kind, ok.glob, ok.blt, ok.above, ok.inj, ok.has, ok.cab, ok.hd, ok.frames, ok.stk, ok.exf, ok.bs, ok.bsz, ok.noex, ok.exfs, ok.funs, ok.frf⟩
theorem Cx.Ok.unwish {X : Cx} {E : Value → Shared → Prop} (ok : (X.wish E).Ok) : X.Ok :=
  ⟨ok.mod, ok.kind, ok.glob, ok.blt, ok.above, ok.inj, ok.has, ok.cab, ok.hd, ok.frames, ok.stk, ok.exf, ok.bs, ok.bsz, ok.noex, ok.exfs, ok.funs, ok.frf⟩
section
variable {X : Cx} {pins : List (Addr × Obj)} {σ : St} {H : Hp} {s : Shared} {E : Value → Shared → Prop}
theorem Inv.wish (I : Inv X pins σ H s) (E : Value → Shared → Prop) : Inv (X.wish E) pins σ H s := ⟨I.ok.wish E, I.os, I.bare, I.base, I.loc, I.cell, I.free, I.freeC, I.pin, I.hok, I.len⟩
theorem Inv.unwish (I : Inv (X.wish E) pins σ H s) : Inv X pins σ H s := ⟨I.ok.unwish, I.os, I.bare, I.base, I.loc, I.cell, I.free, I.freeC, I.pin, I.hok, I.len⟩
theorem SP.unwish {D : Ends} {f : Flow} {s' : Shared} (h : SP (X.wish E) pins D f s') : SP X pins D f s' := by
  cases f with
  | next => obtain ⟨σ', H', I, q⟩ := h; exact ⟨σ', H', I.unwish, q⟩
  | brk => obtain ⟨σ', H', I, q⟩ := h; exact ⟨σ', H', I.unwish, q⟩
  | cont => obtain ⟨σ', H', I, q⟩ := h; exact ⟨σ', H', I.unwish, q⟩
  | ret u => obtain ⟨v, σ', H', I, r, q⟩ := h; exact ⟨v, σ', H', I.unwish, r, q⟩
theorem PE.nox {e : Expr} {t : TE} (h : PE X.nox e t) : PE X e t := fun pins s σ H Q I hw =>
  wpAny_mono (h pins s σ H Q (I.wish _) hw) (fun _ _ ⟨v, H', I', r, q⟩ => ⟨v, H', I'.unwish, r, q⟩) fun _ _ z => False.elim z
theorem PT.nox {e : Expr} {t : TT} (h : PT X.nox e t) : PT X e t := fun pins s σ H Q I hw =>
  wpAny_mono (h pins s σ H Q (I.wish _) hw) (fun _ _ ⟨H', I', q⟩ => ⟨H', I'.unwish, q⟩) fun _ _ z => False.elim z
theorem PSs.nox {st : List Stmt} {t : TS} (h : PSs X.nox st t) : PSs X st t := fun pins s σ H D I hw =>
  wpAny_mono (h pins s σ H D (I.wish _) hw) (fun _ _ q => q.unwish) fun _ _ z => False.elim z
end

section
variable {X : Cx} {st : Stmt} {rest : List Stmt} {t u : TS} {e : Expr} {te : TE} {pos : Pos}
noncomputable def tNext : TS := fun D σ H => D.nx σ H
noncomputable def tSeq (t u : TS) : TS := fun D σ H => t { D with nx := u D } σ H
theorem pss_nil : PSs X [] tNext := fun _ _ σ H _ I h => wpAny_execs_nil ⟨σ, H, I, h⟩
theorem pss_cons (h1 : PS X st t) (h2 : PSs X rest u) : PSs X (st :: rest) (tSeq t u) := by
  intro pins s σ H D I h
  refine wpAny_execs_cons (thn (h1 pins s σ H { D with nx := u D } I h) fun f s1 q => ?_)
  cases f with
  | next =>
    obtain ⟨σ', H', I', q⟩ := q
    exact h2 pins s1 σ' H' D I' q
  | ret v => exact q
  | brk => exact q
  | cont => exact q
theorem pss_one (h1 : PS X st t) : PSs X [st] t := by
  intro pins s σ H D I h
  refine wpAny_execs_cons (thn (h1 pins s σ H D I h) fun f s1 q => ?_)
  cases f with
  | next => exact wpAny_execs_nil q
  | ret v => exact q
  | brk => exact q
  | cont => exact q
theorem Inv.quiet {pins : List (Addr × Obj)} {σ : St} {H : Hp} {s : Shared} (I : Inv X pins σ H s) : interactive X.env = false := by simp [interactive, I.ok.kind]
noncomputable def tDrop (te : TE) : TS := fun D σ H => te σ H fun _ H1 => D.nx σ H1
theorem ps_expr (he : PE X e te) (hs : swapsWith e none pos.line X.env = pure false := by rfl) : PS X (.Expr e pos) (tDrop te) := by
  intro pins s σ H D I h
  exact wpAny_Expr_any (thn (he pins s σ H _ I h) fun v s1 ⟨x, H1, I1, r1, q1⟩ => ⟨σ, H1, I1, q1⟩) I.quiet hs
noncomputable def tRet (te : TE) : TS := fun D σ H => te σ H D.rt
theorem ps_ret (he : PE X e te) : PS X (.Return (some e) pos) (tRet te) := by
  intro pins s σ H D I h
  exact wpAny_Return_some (thn (he pins s σ H _ I h) fun v s1 ⟨x, H1, I1, r1, q1⟩ => ⟨x, σ, H1, I1, r1, q1⟩)
noncomputable def tIfS (c : TT) (t u : TS) : TS := fun D σ H => c σ H fun b H1 => if b = true then t D σ H1 else u D σ H1
theorem ps_if {c : Expr} {a b : List Stmt} {tc : TT} (hc : PT X c tc) (ha : PSs X a t) (hb : PSs X b u) : PS X (.If c a b pos) (tIfS tc t u) := by
  intro pins s σ H D I h
  refine wpAny_If (thn (hc pins s σ H _ I h) fun d s1 qZ => ?_)
  obtain ⟨H1, I1, q1⟩ := qZ
  cases d with
  | true => exact ha pins s1 σ H1 D I1 q1
  | false => exact hb pins s1 σ H1 D I1 q1
noncomputable def tNever : TS := fun _ _ _ => False
theorem ps_never : PS X st tNever := fun _ _ _ _ _ _ h => h.elim
end

noncomputable abbrev TG := V → St → Hp → (St → Hp → Prop) → Prop
noncomputable abbrev TGs := List V → St → Hp → (St → Hp → Prop) → Prop
noncomputable def PG (X : Cx) (target : Expr) (t : TG) : Prop :=
  ∀ (pins : List (Addr × Obj)) (s : Shared) (σ : St) (H : Hp) (v : V) (u : Value) (Q : St → Hp → Prop), Inv X pins σ H s → RelV v u → t v σ H Q →
    wpAny (model X.prog X.w) X.A (assign target X.env u) (fun _ s' => ∃ σ' H', Inv X pins σ' H' s' ∧ Q σ' H') X.xe s
noncomputable def PGs (X : Cx) (ts : List Expr) (t : TGs) : Prop :=
  ∀ (pins : List (Addr × Obj)) (s : Shared) (σ : St) (H : Hp) (vs : List V) (us : List Value) (Q : St → Hp → Prop), Inv X pins σ H s → Vals vs us → t vs σ H Q →
    wpAny (model X.prog X.w) X.A (assignInOrder ((assignEach ts X.env).map (·.2)) us) (fun _ s' => ∃ σ' H', Inv X pins σ' H' s' ∧ Q σ' H') X.xe s
noncomputable abbrev TSet := V → V → V → Hp → (Hp → Prop) → Prop
noncomputable def PSet (X : Cx) (t : TSet) : Prop :=
  ∀ (pins : List (Addr × Obj)) (s : Shared) (σ : St) (H : Hp) (o i v : V) (ov iv u : Value) (Q : Hp → Prop), Inv X pins σ H s → RelV o ov → RelV i iv → RelV v u → t o i v H Q →
    wpAny (model X.prog X.w) X.A (setItem ov iv u) (fun _ s' => ∃ H', Inv X pins σ H' s' ∧ Q H') X.xe s
section
variable {X : Cx} {pos : Pos}
noncomputable def gName (i : Nat) : TG := fun v σ H Q => Q (σ.set i (some v)) H
theorem pg_name {i : Nat} {x : Str} (hN : X.N.Nodup) (hi : X.N[i]? = some x) (hx : Loc X.env.scope x) (hf : X.fn x = true ∨ X.env.scope.names.lookup x = some .local := by first | exact .inl rfl | exact .inr rfl | assumption) : PG X (.Name x pos) (gName i) := by
  intro pins s σ H v u Q I r h
  exact wpAny_assign_Name (store_ok I hN hi hx r (fun s' I' => ⟨_, H, I', h⟩) hf)
noncomputable def gNil : TGs := fun vs σ H Q => vs = [] ∧ Q σ H
noncomputable def gCons (t : TG) (u : TGs) : TGs := fun vs σ H Q => ∃ v r, vs = v :: r ∧ t v σ H fun σ' H' => u r σ' H' Q
theorem pgs_nil : PGs X [] gNil := by
  intro pins s σ H vs us Q I r h
  obtain ⟨e, h⟩ := h
  subst e
  cases r
  exact assignInOrder_nil ⟨σ, H, I, h⟩
theorem pgs_cons {e : Expr} {es : List Expr} {t : TG} {u : TGs} (h1 : PG X e t) (h2 : PGs X es u)
    (hs : (assignEach (e :: es) X.env).map (·.2) = assign e X.env :: (assignEach es X.env).map (·.2) := by rfl) : PGs X (e :: es) (gCons t u) := by
  intro pins s σ H vs us Q I r h
  obtain ⟨v, vr, e1, h⟩ := h
  subst e1
  cases r with
  | cons r rr =>
    rw [hs]
    refine assignInOrder_cons (thn (h1 pins s σ H _ _ _ I r h) fun _ s1 qZ => ?_)
    obtain ⟨σ1, H1, I1, q1⟩ := qZ
    exact h2 pins s1 σ1 H1 _ _ Q I1 rr q1
noncomputable def gSub (to ti : TE) (t : TSet) : TG := fun v σ H Q => to σ H fun o H1 => ti σ H1 fun i H2 => t o i v H2 fun H3 => Q σ H3
theorem pg_sub {o i : Expr} {to ti : TE} {t : TSet} (ho : PE X o to) (hi : PE X i ti) (hs : PSet X t)
    (ha : ∀ v, assign (.Subscript o i pos) X.env v = (do
      let ov ← holding [v] (eval o X.env)
      let iv ← holding [v, ov] (eval i X.env)
      standAt pos
      holding [v, ov, iv] (setItem ov iv v)
      release [v, ov, iv] []) := by intro _; rfl) : PG X (.Subscript o i pos) (gSub to ti t) := by
  intro pins s σ H v u Q I r h
  rw [ha]
  refine wpAny_bind (wpAny_holding (thn (ho pins s σ H _ I h) fun ov s1 qZ => ?_))
  obtain ⟨x, H1, I1, r1, q1⟩ := qZ
  refine wpAny_bind (wpAny_holding (thn (hi pins s1 σ H1 _ I1 q1) fun iv s2 qZ => ?_))
  obtain ⟨y, H2, I2, r2, q2⟩ := qZ
  refine wpAny_bind (wpAny_standAt (wpAny_bind (wpAny_holding (thn (hs pins s2 σ H2 x y v ov iv u _ I2 r1 r2 r q2) fun _ s3 qZ => ?_))))
  obtain ⟨H3, I3, q3⟩ := qZ
  exact wpAny_release ⟨σ, H3, I3, q3⟩
noncomputable def tAsg (te : TE) (g : TG) : TS := fun D σ H => te σ H fun x H1 => g x σ H1 D.nx
theorem ps_asg {tg e : Expr} {te : TE} {g : TG} (he : PE X e te) (hg : PG X tg g) (hs : swapsWithSole [tg] e pos.line X.env = pure false := by rfl) (hw : swappedStores [tg] e X.env = pure none := by rfl)
    (h1 : (assignEach [tg] X.env).map (·.2) = [assign tg X.env] := by rfl) : PS X (.Assign [tg] e pos) (tAsg te g) := by
  intro pins s σ H D I h
  refine wpAny_Assign_stores (thn (he pins s σ H _ I h) fun v s1 qZ => ?_) hs hw
  obtain ⟨x, H1, I1, r1, q1⟩ := qZ
  rw [h1]
  exact thn (hg pins s1 σ H1 x v _ I1 r1 q1) fun _ s2 q => q
theorem ps_set {i : Nat} {x : Str} {e : Expr} {te : TE} {pos' : Pos} (hN : X.N.Nodup) (hi : X.N[i]? = some x) (hx : Loc X.env.scope x) (he : PE X e te) (hs : swapsWith e (some (.Name x pos')) pos.line X.env = pure false := by rfl) (hf : X.fn x = true ∨ X.env.scope.names.lookup x = some .local := by first | exact .inl rfl | exact .inr rfl | assumption) :
    PS X (.Assign [.Name x pos'] e pos) (tAsg te (gName i)) := by
  intro pins s σ H D I h
  refine wpAny_Assign_Name (thn (he pins s σ H _ I h) fun v s1 qZ => ?_) hs
  obtain ⟨y, H1, I1, r1, q1⟩ := qZ
  exact store_ok I1 hN hi hx r1 (fun s2 I2 => ⟨_, H1, I2, q1⟩) hf
noncomputable def tPar (i j : Nat) (ta : TA) : TS := fun D σ H => ta σ H fun vs H1 => ∃ v w, vs = [v, w] ∧ D.nx ((σ.set i (some v)).set j (some w)) H1
theorem ps_par {i j : Nat} {x y : Str} {a b : Expr} {ta : TA} {px py pt : Pos} {kt k2 pt2} (hc : X.calm = true) (hN : X.N.Nodup) (hi : X.N[i]? = some x) (hj : X.N[j]? = some y) (hij : i ≠ j)
    (hx : X.env.scope.names.lookup x = some .local) (hy : X.env.scope.names.lookup y = some .local) (ha : PA X [a, b] ta)
    (hw : swappedStores [.Tuple [.Name x px, .Name y py] kt pt] (.Tuple [a, b] k2 pt2) X.env = pure (some [x, y]))
    (hs : swapsWithSole [.Tuple [.Name x px, .Name y py] kt pt] (.Tuple [a, b] k2 pt2) pos.line X.env = pure false := by rfl) :
    PS X (.Assign [.Tuple [.Name x px, .Name y py] kt pt] (.Tuple [a, b] k2 pt2) pos) (tPar i j ta) := by
  intro pins s σ H D I h
  rw [exec_Assign_arm]
  refine wpAny_bind (wpAny_standAt ?_)
  rw [hs]
  refine wpAny_bind (wpAny_pure ?_)
  rw [if_neg (by decide)]
  refine wpAny_bind (Tuple_ (thn (ha _ pins s σ H _ I h) fun us s1 qZ => ?_))
  obtain ⟨vs, H1, I1, r1, q1⟩ := qZ
  obtain ⟨v, w, e1, q1⟩ := q1
  subst e1
  obtain ⟨u1, u2, rfl, rv, rw'⟩ : ∃ u1 u2, us = [u1, u2] ∧ RelV v u1 ∧ RelV w u2 := by
    cases r1 with
    | cons p q =>
      cases q with
      | cons p' q' =>
        cases q'
        exact ⟨_, _, rfl, p, p'⟩
  refine wpAny_newObj_type ?_ (by show 2 ≤ sizeLine; decide)
  have I2 : Inv X pins σ H1 { s1 with heap := s1.heap.push { cls := .type "tuple", data := .seq [u1, u2].toArray } } := I1.kept (t' := s1.toks) fun b o e => Heap.get?_push_of_some _ e
  rw [hw]
  refine wpAny_bind (wpAny_pure ?_)
  show wpAny (model X.prog X.w) X.A (do rule "assign.swapped-stores"; let items ← unpackItems (.ref s1.heap.objs.size) 2 none; assignInOrder [fun v => bindName X.env y v, fun v => bindName X.env x v] items.reverse; pure Flow.next) _ _ _
  refine wpAny_bind (wpAny_rule (wpAny_bind (unpackItems_tuple (items := #[u1, u2]) (I.ok.hd hc) (IsTup.new s1.heap _) fun h' hx' => ?_)))
  have I3 := I2.kept (h' := h') (t' := s1.toks) fun b o e => hx' b o (Nat.ne_of_lt (Heap.lt_size e)) e
  show wpAny _ _ (assignInOrder [fun v => bindName X.env y v, fun v => bindName X.env x v] [u2, u1] >>= fun _ => pure Flow.next) _ _ _
  refine wpAny_bind (assignInOrder_cons (wpAny_bindName (store_ok I3 hN hj (.inl hy) rw' (fun s2 I4 => ?_) (.inr hy))))
  refine assignInOrder_cons (wpAny_bindName (store_ok I4 hN hi (.inl hx) rv (fun s3 I5 => assignInOrder_nil (wpAny_pure ?_)) (.inr hx)))
  rw [List.set_comm _ _ (Ne.symm hij)] at I5
  exact ⟨_, H1, I5, q1⟩
end

section
variable {X : Cx} {pos : Pos}
noncomputable def tWhile (c : TT) (tb : TS) : TS := fun D σ H => ∃ W : Nat → St → Hp → Prop, (∃ m, W m σ H) ∧ ∀ m σ H, W m σ H →
  c σ H fun b H1 => if b = true then ∃ N : St → Hp → Prop, (∀ σ' H', N σ' H' → ∃ m', m' < m ∧ W m' σ' H') ∧ tb { D with nx := N, ct := N, bk := D.nx } σ H1 else D.nx σ H1
theorem ps_while {c : Expr} {body : List Stmt} {tc : TT} {tb : TS} (hp : PassesOwn (model X.prog X.w) X.A X.env X.xe) (hc : PT X c tc) (hb : PSs X body tb) : PS X (.While c body [] pos) (tWhile tc tb) := by
  intro pins s σ H D I h
  obtain ⟨W, ⟨m0, w0⟩, turn⟩ := h
  refine wpAny_While (codeAny_whileLoop (fun n s' => ∃ σ' H', Inv X pins σ' H' s' ∧ W n σ' H') ?_ m0 ⟨σ, H, I, w0⟩)
  rintro n s1 ⟨σ1, H1, I1, w1⟩
  refine wpAny_passesOwn hp (thn (hc pins s1 σ1 H1 _ I1 (turn n σ1 H1 w1)) fun b s2 qZ => ?_)
  obtain ⟨H2, I2, q2⟩ := qZ
  cases b with
  | true =>
    obtain ⟨N, hN, q2⟩ := q2
    rw [if_pos rfl]
    refine wpAny_passesOwn hp (thn (hb pins s2 σ1 H2 _ I2 q2) fun f s3 q3 => ?_)
    cases f with
    | next =>
      obtain ⟨σ3, H3, I3, n3⟩ := q3
      obtain ⟨m', hm, w3⟩ := hN σ3 H3 n3
      exact ⟨m', hm, σ3, H3, I3, w3⟩
    | cont =>
      obtain ⟨σ3, H3, I3, n3⟩ := q3
      obtain ⟨m', hm, w3⟩ := hN σ3 H3 n3
      exact ⟨m', hm, σ3, H3, I3, w3⟩
    | brk => exact q3
    | ret v => exact q3
  | false =>
    rw [if_neg Bool.false_ne_true]
    exact wpAny_execs_nil ⟨σ1, H2, I2, q2⟩
end

structure It where
  go : Nat → Hp → Prop
  yld : Nat → Hp → V → Hp → Prop
  stop : Nat → Hp → Prop
noncomputable def FpOk (X : Cx) (pins : List (Addr × Obj)) (H : Hp) (b : Addr) : Prop :=
  H b = none ∧ b ≠ X.env.locals ∧ b ∉ X.fs ∧ (b ∈ X.ex ∨ X.s₀.heap.objs.size ≤ b) ∧ (∀ x c, X.env.cells.lookup x = some c → c ≠ b) ∧ ∀ p ∈ X.pn ++ pins, p.1 ≠ b
theorem Inv.fpOk {X : Cx} {pins : List (Addr × Obj)} {σ : St} {H H' : Hp} {s : Shared} {b : Addr} (I : Inv X pins σ H s) (hb : s.heap.objs.size ≤ b) (hn : H' b = none) : FpOk X pins H' b := by
  refine ⟨hn, Nat.ne_of_gt (Nat.lt_of_lt_of_le I.lt hb), I.nofs hb, .inr (Nat.le_trans I.sz hb), fun x c e z => ?_, fun p hp z => ?_⟩
  · obtain ⟨v, q⟩ := I.cell x c e
    exact absurd (Nat.lt_of_lt_of_le q.lt (by rw [z]; exact hb)) (Nat.lt_irrefl _)
  · exact absurd (Nat.lt_of_lt_of_le (Heap.lt_size (I.pin p hp).1) (by rw [z]; exact hb)) (Nat.lt_irrefl _)
structure Turn (P : Program) (w : World) (K : PySem.W.Frag) (tg : Expr) (J : It) (fp : List Addr) (it : Addr) (tn : Nat → Heap → Prop) : Prop where
  mem : it ∈ fp
  obj : ∀ i h, tn i h → ∀ b ∈ fp, ∃ o, h.get? b = some o ∧ ∀ v, o.data ≠ .cell v
  keep : ∀ i h h', tn i h → (∀ b ∈ fp, ∀ o, h.get? b = some o → h'.get? b = some o) → tn i h'
  item : ∀ (X : Cx), X.prog = P → X.w = w → X.K = K → X.calm = true → ∀ (i : Nat) (pins : List (Addr × Obj)) (s : Shared) (σ : St) (H : Hp) (E : Value → Shared → Prop), Inv X pins σ H s → (∀ b ∈ fp, FpOk X pins H b) → tn i s.heap → J.go i H →
    wpAny (model P w) X.A (pyNext (.ref it)) (fun r s1 => ∃ u, r = some u ∧
      wpAny (model P w) X.A (letOwnedTupleGo tg (.ref it) u) (fun _ s2 => ∃ x H', Inv X pins σ H' s2 ∧ RelV x u ∧ J.yld i H x H' ∧ tn (i + 1) s2.heap ∧ ∀ b ∈ fp, H' b = none) E s1) E s
  done : ∀ (X : Cx), X.prog = P → X.w = w → X.K = K → X.calm = true → ∀ (i : Nat) (pins : List (Addr × Obj)) (s : Shared) (σ : St) (H : Hp) (E : Value → Shared → Prop), Inv X pins σ H s → (∀ b ∈ fp, FpOk X pins H b) → tn i s.heap → J.stop i H →
    wpAny (model P w) X.A (pyNext (.ref it)) (fun r s1 => r = none ∧ Inv X pins σ H s1) E s
  self : ∀ (A : Around) (i : Nat) (s : Shared) (Q : Value → Shared → Prop) (E : Value → Shared → Prop), tn i s.heap → Q (.ref it) s → wpAny (model P w) A (pyIter (.ref it)) Q E s
noncomputable abbrev TI := St → Hp → (It → Hp → Prop) → Prop
noncomputable def PIE (X : Cx) (pins : List (Addr × Obj)) (σ : St) (tg : Expr) (R : It → Hp → Prop) (itv : Value) (s2 : Shared) : Prop :=
  ∃ (it : Addr) (fp : List Addr) (tn : Nat → Heap → Prop) (J : It) (H' : Hp), itv = .ref it ∧ Inv X pins σ H' s2 ∧ Turn X.prog X.w X.K tg J fp it tn ∧ tn 0 s2.heap ∧ (∀ b ∈ fp, FpOk X pins H' b) ∧ R J H'
noncomputable def PI (X : Cx) (tg iter : Expr) (wi : TI) : Prop :=
  ∀ (pins : List (Addr × Obj)) (s : Shared) (σ : St) (H : Hp) (R : It → Hp → Prop), Inv X pins σ H s → wi σ H R →
    wpAny (model X.prog X.w) X.A (eval iter X.env) (fun v s1 => wpAny (model X.prog X.w) X.A (pyIter v) (PIE X pins σ tg R) X.xe s1) X.xe s

theorem go_of {M : Model} {A : Around} {E : Value → Shared → Prop} {s : Shared} {tg : Expr} {it : Addr} {u : Value} {o : Obj} {n : String} {vs : Array Value} {Q : Unit → Shared → Prop} (ho : s.heap.get? it = some o) (hc : o.cls = .type n) (hd : o.data = .fields vs)
    (hn : ["enumerate", "zip", "dict_itemiterator", "dict_reverseitemiterator", "odict_iterator", "itertools.zip_longest", "itertools.pairwise"].contains n = false) (hQ : Q () s) : wpAny M A (letOwnedTupleGo tg (.ref it) u) Q E s := by
  unfold letOwnedTupleGo
  cases tg <;> first
    | exact wpAny_pure hQ
    | (cases u <;> first
        | exact wpAny_pure hQ
        | (refine wpAny_bind (wpAny_load ho ?_)
           rw [hc, hd]
           show wpAny M A (if (["enumerate", "zip", "dict_itemiterator", "dict_reverseitemiterator", "odict_iterator", "itertools.zip_longest", "itertools.pairwise"].contains n && vs[0]? == some (rawInt _)) = true then _ else _) Q E s
           rw [if_neg (by intro h; rw [hn, Bool.false_and] at h; cases h)]
           exact wpAny_pure hQ))

noncomputable def Itl (K : PySem.W.Frag) (a : Addr) : It :=
  ⟨fun i H => ∃ xs x, SqL K H a xs ∧ xs[i]? = some x, fun i H x H' => H' = H ∧ ∀ xs, SqL K H a xs → xs[i]? = some x, fun i H => ∃ xs, SqL K H a xs ∧ xs.length ≤ i⟩
noncomputable def Itt (K : PySem.W.Frag) (a : Addr) : It :=
  ⟨fun i H => ∃ xs x, SqT K H a xs ∧ xs[i]? = some x, fun i H x H' => H' = H ∧ ∀ xs, SqT K H a xs → xs[i]? = some x, fun i H => ∃ xs, SqT K H a xs ∧ xs.length ≤ i⟩
noncomputable def Itr (lo : Int) (n : Nat) : It := ⟨fun i _ => i < n, fun i H x H' => H' = H ∧ x = .int (lo + i), fun i _ => n ≤ i⟩
theorem turn_list {P : Program} {w : World} {K : PySem.W.Frag} {tg : Expr} (a it : Addr) : Turn P w K tg (Itl K a) [it] it (fun i h => h.IsListIter it a i) where
  mem := by simp
  obj := fun i h st b hb => by
    have e : b = it := by simpa using hb
    subst e
    obtain ⟨o, e, c, d⟩ := st
    exact ⟨o, e, fun v z => by rw [d] at z; cases z⟩
  keep := fun i h h' st k => st.at fun o e => k it (by simp) o e
  item := by
    intro X hP hw hK hc i pins s σ H E I hf st hg
    subst hP hw hK
    obtain ⟨xs, x, hq, hx⟩ := hg
    obtain ⟨its, rv, p, hz⟩ := I.list hq
    obtain ⟨u, hu, ru⟩ := rv.get hx
    obtain ⟨f0, f1, f2, f3, f4, f5⟩ := hf it (by simp)
    refine wpAny_pyNext_list_item st p.isList (x := u) (by simpa using hu) fun h' st' sb => ?_
    have I1 : Inv X pins σ H { s with heap := h' } := I.turned (t' := s.toks) (fun b o hb e => (sb.2 b hb).trans e) f0 f1 f3 f4 f5
    obtain ⟨o, e, c, d⟩ := id st'
    exact ⟨u, rfl, go_of (s := { s with heap := h' }) e c d (by decide) ⟨x, H, I1, ru, ⟨rfl, fun ys hy => by rw [I.list_inj hy hq]; exact hx⟩, st', fun b hb => (hf b hb).1⟩⟩
  done := by
    intro X hP hw hK hc i pins s σ H E I hf st hg
    subst hP hw hK
    obtain ⟨xs, hq, hx⟩ := hg
    obtain ⟨its, rv, p, hz⟩ := I.list hq
    obtain ⟨f0, f1, f2, f3, f4, f5⟩ := hf it (by simp)
    have hl := rv.length
    exact wpAny_pyNext_list_end (I.ok.hd hc) st p.isList (by simp; omega) fun h' eb => ⟨rfl, I.turned (t' := s.toks) (fun b o hb e => eb b o hb e) f0 f1 f3 f4 f5⟩
  self := fun _ _ _ _ _ st h => wpAny_pyIter_listiter st h
theorem turn_tuple {P : Program} {w : World} {K : PySem.W.Frag} {tg : Expr} (a it : Addr) : Turn P w K tg (Itt K a) [it] it (fun i h => h.IsTupleIter it a i) where
  mem := by simp
  obj := fun i h st b hb => by
    have e : b = it := by simpa using hb
    subst e
    obtain ⟨o, e, c, d⟩ := st
    exact ⟨o, e, fun v z => by rw [d] at z; cases z⟩
  keep := fun i h h' st k => st.at fun o e => k it (by simp) o e
  item := by
    intro X hP hw hK hc i pins s σ H E I hf st hg
    subst hP hw hK
    obtain ⟨xs, x, hq, hx⟩ := hg
    obtain ⟨its, rv, p, hz⟩ := I.tuple hq
    obtain ⟨u, hu, ru⟩ := rv.get hx
    obtain ⟨f0, f1, f2, f3, f4, f5⟩ := hf it (by simp)
    refine wpAny_pyNext_tuple_item st (show s.heap.IsTuple a its.toArray from p) (x := u) (by simpa using hu) fun h' st' sb => ?_
    have I1 : Inv X pins σ H { s with heap := h' } := I.turned (t' := s.toks) (fun b o hb e => (sb.2 b hb).trans e) f0 f1 f3 f4 f5
    obtain ⟨o, e, c, d⟩ := id st'
    exact ⟨u, rfl, go_of (s := { s with heap := h' }) e c d (by decide) ⟨x, H, I1, ru, ⟨rfl, fun ys hy => by rw [I.tuple_inj hy hq]; exact hx⟩, st', fun b hb => (hf b hb).1⟩⟩
  done := by
    intro X hP hw hK hc i pins s σ H E I hf st hg
    subst hP hw hK
    obtain ⟨xs, hq, hx⟩ := hg
    obtain ⟨its, rv, p, hz⟩ := I.tuple hq
    obtain ⟨f0, f1, f2, f3, f4, f5⟩ := hf it (by simp)
    have hl := rv.length
    exact wpAny_pyNext_tuple_end (I.ok.hd hc) st (show s.heap.IsTuple a its.toArray from p) (by simp; omega) fun h' eb => ⟨rfl, I.turned (t' := s.toks) (fun b o hb e => eb b o hb e) f0 f1 f3 f4 f5⟩
  self := fun _ _ _ _ _ st h => wpAny_pyIter_tupleiter st h
theorem turn_range {P : Program} {w : World} {K : PySem.W.Frag} {tg : Expr} (it : Addr) (lo : Int) (n : Nat) : Turn P w K tg (Itr lo n) [it] it (fun i h => IsRangeIter h it (lo + (i : Nat) * 1) ((n : Int) - (i : Nat)) 1) where
  mem := by simp
  obj := fun i h st b hb => by
    have e : b = it := by simpa using hb
    subst e
    exact ⟨_, st, fun v z => by
      have z' : Data.fields _ = Data.cell v := z
      cases z'⟩
  keep := fun i h h' st k => k it (by simp) _ st
  item := by
    intro X hP hw hK hc i pins s σ H E I hf st hg
    subst hP hw hK
    obtain ⟨f0, f1, f2, f3, f4, f5⟩ := hf it (by simp)
    have W := Walks.range (prog := X.prog) (w := X.w) (I.ok.hd hc) it lo 1 n
    refine W.item i s _ _ hg st fun v h' tk hv st' kk => ?_
    obtain ⟨t, rfl⟩ := hv
    have I1 : Inv X pins σ H { s with heap := h', toks := tk } := I.turned (fun b o hb e => kk b o (by simpa using hb) e) f0 f1 f3 f4 f5
    refine ⟨_, rfl, go_of (s := { s with heap := h', toks := tk }) (n := "range_iterator") st' rfl rfl (by decide) ⟨.int (lo + i), H, I1, ⟨t, ?_⟩, ⟨rfl, rfl⟩, st', fun b hb => (hf b hb).1⟩⟩
    rw [Int.mul_one]
  done := by
    intro X hP hw hK hc i pins s σ H E I hf st hg
    subst hP hw hK
    obtain ⟨f0, f1, f2, f3, f4, f5⟩ := hf it (by simp)
    exact wpAny_pyNext_range_end (I.ok.hd hc) st (by have : n ≤ i := hg; omega) fun h' eb => ⟨rfl, I.turned (t' := s.toks) (fun b o hb e => eb b o hb e) f0 f1 f3 f4 f5⟩
  self := fun _ _ _ _ _ st h => wpAny_pyIter_rangeiter st h
end L2

namespace L2
open PySem PySem.Spec PyProof.Rows
section
variable {X : Cx} {tg : Expr}
noncomputable def iTup (K : PySem.W.Frag) (tl : TE) : TI := fun σ H R => tl σ H fun x H1 => ∃ a, x = .ref a ∧ (∃ xs, SqT K H1 a xs) ∧ R (Itt K a) H1
theorem pi_tup {l : Expr} {tl : TE} (hl : PE X l tl) : PI X tg l (iTup X.K tl) := by
  intro pins s σ H R I h
  refine thn (hl pins s σ H _ I h) fun v s1 qZ => ?_
  obtain ⟨x, H1, I1, r1, q1⟩ := qZ
  obtain ⟨a, e, ⟨xs, hq⟩, q⟩ := q1
  subst e
  cases r1
  obtain ⟨its, rv, p, hz⟩ := I1.tuple hq
  refine wpAny_pyIter_tuple (show s1.heap.IsTuple a its.toArray from p) ?_
  refine ⟨s1.heap.objs.size, [s1.heap.objs.size], _, _, H1, rfl, I1.kept (t' := s1.toks) fun b o e => Heap.get?_push_of_some _ e, turn_tuple a _, ⟨_, Heap.get?_push_size _ rfl, rfl, rfl⟩, fun b hb => ?_, q⟩
  have e : b = s1.heap.objs.size := by simpa using hb
  subst e
  exact I1.fpOk (Nat.le_refl _) (I1.hok.fresh (Nat.le_refl _))
theorem range_it {pins : List (Addr × Obj)} {σ : St} {H : Hp} {s : Shared} {R : It → Hp → Prop} {E : Value → Shared → Prop} {lo hi : Int} {t u v : Tok} {tk : Nat} (I : Inv X pins σ H s) (h1 : -(2 ^ 62) ≤ lo) (h2 : lo < 2 ^ 62) (h3 : -(2 ^ 62) ≤ hi) (h4 : hi < 2 ^ 62)
    (q : R (Itr lo (hi - lo).toNat) H) : wpAny (model X.prog X.w) X.A (pyIter (.ref s.heap.objs.size)) (PIE X pins σ tg R) E { s with heap := s.heap.push { cls := .type "range", data := .fields #[.int lo t, .int hi u, .int 1 v] }, toks := tk } := by
  refine wpAny_pyIter_range (IsRange.new ..) (small_one h1 h2 h3 h4) ?_
  have I1 : Inv X pins σ H { s with heap := s.heap.push { cls := .type "range", data := .fields #[.int lo t, .int hi u, .int 1 v] }, toks := tk } := I.kept fun b o e => Heap.get?_push_of_some _ e
  refine ⟨(s.heap.push { cls := .type "range", data := .fields #[.int lo t, .int hi u, .int 1 v] }).objs.size, [(s.heap.push { cls := .type "range", data := .fields #[.int lo t, .int hi u, .int 1 v] }).objs.size], _, _, H, rfl,
    I1.kept (t' := tk) fun b o e => Heap.get?_push_of_some _ e, turn_range _ lo (hi - lo).toNat, ?_, fun b hb => ?_, q⟩
  · have e1 : lo + ((0 : Nat) : Int) * 1 = lo := by simp
    have e2 : (((hi - lo).toNat : Nat) : Int) - ((0 : Nat) : Int) = Builtin.Range.rangeSize lo hi 1 := by rw [rangeSize_one]; split <;> omega
    show IsRangeIter _ _ (lo + ((0 : Nat) : Int) * 1) ((((hi - lo).toNat : Nat) : Int) - ((0 : Nat) : Int)) 1
    rw [e1, e2]
    exact Heap.get?_push_size _ rfl
  · have e : b = (s.heap.push { cls := .type "range", data := .fields #[.int lo t, .int hi u, .int 1 v] }).objs.size := by simpa using hb
    subst e
    exact I1.fpOk (Nat.le_refl _) (I1.hok.fresh (Nat.le_refl _))
noncomputable def iRng1 (ta : TA) : TI := fun σ H R => ta σ H fun vs H1 => ∃ j : Int, vs = [.int j] ∧ -(2 ^ 62) ≤ j ∧ j < 2 ^ 62 ∧ R (Itr 0 j.toNat) H1
noncomputable def iRng2 (ta : TA) : TI := fun σ H R => ta σ H fun vs H1 => ∃ i j : Int, vs = [.int i, .int j] ∧ (-(2 ^ 62) ≤ i ∧ i < 2 ^ 62 ∧ -(2 ^ 62) ≤ j ∧ j < 2 ^ 62) ∧ R (Itr i (j - i).toNat) H1
theorem pi_range1 {a : Expr} {ta : TA} {p pos : Pos} (hg : Gl X "range") (hm : X.mg "range" = none) (ha : PA X [a] ta) (hs : starEach [a] X.env = [(false, eval a X.env)] := by rfl) : PI X tg (.Call (.Name "range" p) [a] [] pos) (iRng1 ta) := by
  intro pins s σ H R I h
  refine Call_ (ld_blt I hg hm boot_range (PyProof.Rows.callWith_type1 (thn (ha pos pins s σ H _ I h) fun us s1 qZ => ?_) hs rfl))
  obtain ⟨vs, H1, I1, r1, q1⟩ := qZ
  obtain ⟨j, e, q1, q2, q⟩ := q1
  subst e
  cases r1 with
  | cons r rr =>
    cases rr
    obtain ⟨t, rfl⟩ := r
    exact call_range_1 (range_it I1 (by omega) (by omega) q1 q2 (by simpa using q))
theorem pi_range2 {a b : Expr} {ta : TA} {p pos : Pos} (hg : Gl X "range") (hm : X.mg "range" = none) (ha : PA X [a, b] ta) (hs : starEach [a, b] X.env = [(false, eval a X.env), (false, eval b X.env)] := by rfl) (hs2 : starEach [b] X.env = [(false, eval b X.env)] := by rfl) :
    PI X tg (.Call (.Name "range" p) [a, b] [] pos) (iRng2 ta) := by
  intro pins s σ H R I h
  refine Call_ (ld_blt I hg hm boot_range (PyProof.Rows.callWith_type1 (thn (ha pos pins s σ H _ I h) fun us s1 qZ => ?_) (by rw [hs, hs2]) (by rw [hs2]; rfl)))
  obtain ⟨vs, H1, I1, r1, q1⟩ := qZ
  obtain ⟨i, j, e, ⟨q1, q2, q3, q4⟩, q⟩ := q1
  subst e
  cases r1 with
  | cons r rr =>
    cases rr with
    | cons r' rr =>
      cases rr
      obtain ⟨t, rfl⟩ := r
      obtain ⟨t', rfl⟩ := r'
      exact call_range_2 (range_it I1 q1 q2 q3 q4 q)

noncomputable def tFor (wi : TI) (g : TG) (tb : TS) : TS := fun D σ H => wi σ H fun J H1 => ∃ W : Nat → Nat → St → Hp → Prop, (∃ m, W 0 m σ H1) ∧ ∀ i m σ H, W i m σ H →
  (J.stop i H ∧ D.nx σ H) ∨ (J.go i H ∧ ∃ N : St → Hp → Prop, (∀ σ' H', N σ' H' → ∃ m', m' < m ∧ W (i + 1) m' σ' H') ∧ ∀ x H', J.yld i H x H' → g x σ H' fun σ2 H2 => tb { D with nx := N, ct := N, bk := D.nx } σ2 H2)
noncomputable def pinsAt (fp : List Addr) (h : Heap) : List (Addr × Obj) := fp.filterMap fun b => (h.get? b).map fun o => (b, o)
theorem mem_pinsAt {fp : List Addr} {h : Heap} {b : Addr} {o : Obj} (hb : b ∈ fp) (e : h.get? b = some o) : (b, o) ∈ pinsAt fp h := List.mem_filterMap.mpr ⟨b, hb, by rw [e]; rfl⟩
theorem of_pinsAt {fp : List Addr} {h : Heap} {p : Addr × Obj} (hp : p ∈ pinsAt fp h) : p.1 ∈ fp ∧ h.get? p.1 = some p.2 := by
  obtain ⟨b, hb, e⟩ := List.mem_filterMap.mp hp
  cases q : h.get? b with
  | none => rw [q] at e; cases e
  | some o =>
    rw [q] at e
    have e' : (b, o) = p := Option.some.inj e
    subst e'
    exact ⟨hb, q⟩
theorem Inv.pinned {pins : List (Addr × Obj)} {σ : St} {H : Hp} {s : Shared} {fp : List Addr} (I : Inv X pins σ H s) (hf : ∀ b ∈ fp, FpOk X pins H b) (ho : ∀ b ∈ fp, ∃ o, s.heap.get? b = some o ∧ ∀ v, o.data ≠ .cell v) : Inv X (pins ++ pinsAt fp s.heap) σ H s :=
  I.pins_of fun p hp => (List.mem_append.mp hp).elim (fun z => I.pin p (List.mem_append_right _ z)) fun z => by
    obtain ⟨hb, e⟩ := of_pinsAt z
    obtain ⟨f0, f1, f2, _⟩ := hf p.1 hb
    obtain ⟨o, e', d⟩ := ho p.1 hb
    rw [e] at e'; cases e'
    exact ⟨e, f0, f1, f2, d⟩
theorem Inv.unpinned {pins pl : List (Addr × Obj)} {σ : St} {H : Hp} {s : Shared} (I : Inv X (pins ++ pl) σ H s) : Inv X pins σ H s := I.pins_of fun p hp => I.pin p (List.mem_append_right _ (List.mem_append_left _ hp))
theorem ps_for {iter : Expr} {body : List Stmt} {wi : TI} {g : TG} {tb : TS} {pos : Pos} (hp : PassesOwn (model X.prog X.w) X.A X.env X.xe) (hc : X.calm = true) (hi : PI X tg iter wi) (hg : PG X tg g) (hb : PSs X body tb)
    (hs : ∀ x, foldedSetIterable iter X.env x = pure x := by intro _; rfl) : PS X (.For tg iter body [] pos) (tFor wi g tb) := by
  intro pins s σ H D I h
  refine wpAny_For (thn (hi pins s σ H _ I h) fun v s1 h1 => thn h1 fun itv s2 h2 => ?_) hs
  obtain ⟨it, fp, tn, J, H2, e, I2, T, st2, f2, W, ⟨m0, w0⟩, turn⟩ := h2
  subst e
  -- what stays true of the iterator's objects through the loop
  have stat : ∀ {H' : Hp}, (∀ b ∈ fp, H' b = none) → ∀ b ∈ fp, FpOk X pins H' b := fun hn b hb => ⟨hn b hb, (f2 b hb).2⟩
  refine codeAny_forLoop_any (fun n s' => ∃ i σ' H', Inv X pins σ' H' s' ∧ tn i s'.heap ∧ (∀ b ∈ fp, H' b = none) ∧ W i n σ' H') ?_ m0 ⟨0, σ, H2, I2, st2, fun b hb => (f2 b hb).1, w0⟩
  rintro n s3 ⟨i, σ3, H3, I3, st3, fr3, w3⟩
  rcases turn i n σ3 H3 w3 with ⟨stop, qn⟩ | ⟨go, N, hN, step⟩
  · refine wpAny_passesOwn hp (thn (T.done X rfl rfl rfl hc i pins s3 σ3 H3 X.xe I3 (stat fr3) st3 stop) fun r s4 qZ => ?_)
    obtain ⟨hr, I4⟩ := qZ
    subst hr
    exact wpAny_execs_nil ⟨σ3, H3, I4, qn⟩
  · refine wpAny_passesOwn hp (thn (T.item X rfl rfl rfl hc i pins s3 σ3 H3 X.xe I3 (stat fr3) st3 go) fun r s4 qZ => ?_)
    obtain ⟨u, hr, h4⟩ := qZ
    subst hr
    refine wpAny_passesOwn hp (thn h4 fun _ s5 qZ => ?_)
    obtain ⟨x, H5, I5, r5, y5, st5, fr5⟩ := qZ
    have I5' := I5.pinned (stat fr5) (T.obj _ _ st5)
    refine wpAny_passesOwn hp (thn (hg _ s5 σ3 H5 x u _ I5' r5 (step x H5 y5)) fun _ s6 qZ => ?_)
    obtain ⟨σ6, H6, I6, q6⟩ := qZ
    refine wpAny_passesOwn hp (thn (hb _ s6 σ6 H6 _ I6 q6) fun f s7 q7 => ?_)
    have again : ∀ {σ7 : St} {H7 : Hp}, Inv X (pins ++ pinsAt fp s5.heap) σ7 H7 s7 → N σ7 H7 → ∃ m, m < n ∧ ∃ i σ' H', Inv X pins σ' H' s7 ∧ tn i s7.heap ∧ (∀ b ∈ fp, H' b = none) ∧ W i m σ' H' := fun {σ7 H7} I7 n7 => by
      obtain ⟨m', hm, w7⟩ := hN σ7 H7 n7
      refine ⟨m', hm, i + 1, σ7, H7, I7.unpinned, T.keep _ _ _ st5 fun b hb o e => (I7.pin (b, o) (List.mem_append_right _ (List.mem_append_right _ (mem_pinsAt hb e)))).1, fun b hb => ?_, w7⟩
      obtain ⟨o, e, d⟩ := T.obj _ _ st5 b hb
      exact (I7.pin (b, o) (List.mem_append_right _ (List.mem_append_right _ (mem_pinsAt hb e)))).2.1
    cases f with
    | next => obtain ⟨σ7, H7, I7, n7⟩ := q7; exact again I7 n7
    | cont => obtain ⟨σ7, H7, I7, n7⟩ := q7; exact again I7 n7
    | brk => obtain ⟨σ7, H7, I7, q7⟩ := q7; exact ⟨σ7, H7, I7.unpinned, q7⟩
    | ret v => obtain ⟨x7, σ7, H7, I7, r7, q7⟩ := q7; exact ⟨x7, σ7, H7, I7.unpinned, r7, q7⟩
end

end L2

namespace L2
open PySem PySem.Spec PyProof.Rows

noncomputable abbrev R2 := V → V → Hp → VK → Prop
noncomputable def OpR (X : Cx) (f : Value → Value → Sem Value) (r : R2) : Prop :=
  ∀ (pins : List (Addr × Obj)) (s : Shared) (σ : St) (H : Hp) (x y : V) (v u : Value) (Q : VK), Inv X pins σ H s → RelV x v → RelV y u → r x y H Q →
    wpAny (model X.prog X.w) X.A (f v u) (EP X pins σ Q) X.xe s
noncomputable def UnR (X : Cx) (f : Value → Sem Value) (r : V → Hp → VK → Prop) : Prop :=
  ∀ (pins : List (Addr × Obj)) (s : Shared) (σ : St) (H : Hp) (x : V) (v : Value) (Q : VK), Inv X pins σ H s → RelV x v → r x H Q →
    wpAny (model X.prog X.w) X.A (f v) (EP X pins σ Q) X.xe s
noncomputable def CallR (X : Cx) (f : Value) (r : List V → Hp → VK → Prop) : Prop :=
  ∀ (pins : List (Addr × Obj)) (s : Shared) (σ : St) (H : Hp) (xs : List V) (us : List Value) (Q : VK), Inv X pins σ H s → Vals xs us → r xs H Q →
    wpAny (model X.prog X.w) X.A (call f us) (EP X pins σ Q) X.xe s
noncomputable def tOp (r : R2) (ta tb : TE) : TE := fun σ H Q => ta σ H fun x H1 => tb σ H1 fun y H2 => r x y H2 Q
noncomputable def tUn (r : V → Hp → VK → Prop) (ta : TE) : TE := fun σ H Q => ta σ H fun x H1 => r x H1 Q
noncomputable def rI (C : Int → Int → Prop) (g : Int → Int → V) : R2 := fun x y H Q => ∃ i j, x = .int i ∧ y = .int j ∧ C i j ∧ Q (g i j) H
noncomputable def rI0 (g : Int → Int → V) : R2 := fun x y H Q => ∃ i j, x = .int i ∧ y = .int j ∧ Q (g i j) H
noncomputable def rU (g : Int → V) : V → Hp → VK → Prop := fun x H Q => ∃ i, x = .int i ∧ Q (g i) H

section
variable {X : Cx} {a b c : Expr} {ta tb tc : TE} {pos : Pos}

theorem binT (ha : PE X a ta) (hb : PE X b tb) {pins : List (Addr × Obj)} {s : Shared} {σ : St} {H : Hp} {R : V → V → Hp → Prop} (I : Inv X pins σ H s)
    (h : ta σ H fun x H1 => tb σ H1 fun y H2 => R x y H2) {Q : Value → Shared → Prop} {f : Value → Value → Sem Value}
    (hf : ∀ v u s2 x y H2, Inv X pins σ H2 s2 → RelV x v → RelV y u → R x y H2 → wpAny (model X.prog X.w) X.A (f v u) Q X.xe s2) :
    wpAny (model X.prog X.w) X.A (eval a X.env) (fun v s₁ => wpAny (model X.prog X.w) X.A (eval b X.env) (fun u s₂ => wpAny (model X.prog X.w) X.A (f v u) Q X.xe s₂) X.xe s₁) X.xe s := by
  refine thn (ha pins s σ H _ I h) fun v s1 qZ => ?_
  obtain ⟨x, H1, I1, r1, q1⟩ := qZ
  refine thn (hb pins s1 σ H1 _ I1 q1) fun u s2 qZ => ?_
  obtain ⟨y, H2, I2, r2, q2⟩ := qZ
  exact hf v u s2 x y H2 I2 r1 r2 q2

theorem pe_op {op : Operator} {r : R2} (ho : OpR X (binaryOp op) r) (ha : PE X a ta) (hb : PE X b tb) : PE X (.BinOp a op b pos) (tOp r ta tb) := by
  intro pins s σ H Q I h
  exact wpAny_BinOp (binT ha hb I h fun v u s2 x y H2 I2 rx ry q => ho pins s2 σ H2 x y v u Q I2 rx ry q)
theorem pe_un {op : UnaryOp} {r : V → Hp → VK → Prop} (ho : UnR X (unaryOp op) r) (ha : PE X a ta) : PE X (.UnaryOp op a pos) (tUn r ta) := by
  intro pins s σ H Q I h
  exact UnaryOp_ (thn (ha pins s σ H _ I h) fun v s1 ⟨x, H1, I1, r1, q1⟩ => ho pins s1 σ H1 x v Q I1 r1 q1)
theorem opI {f : Value → Value → Sem Value} {C : Int → Int → Prop} {g : Int → Int → Int}
    (rule : ∀ (i j : Int) (t u : Tok) (s : Shared) (Q : Value → Shared → Prop) (E : Value → Shared → Prop), C i j → Q (.int (g i j) s.toks) { s with toks := s.toks + 1 } → wpAny (model X.prog X.w) X.A (f (.int i t) (.int j u)) Q E s) :
    OpR X f (rI C fun i j => .int (g i j)) := by
  intro pins s σ H x y v u Q I rx ry h
  obtain ⟨i, j, rfl, rfl, hc, q⟩ := h
  obtain ⟨t, rfl⟩ := rx
  obtain ⟨t', rfl⟩ := ry
  exact rule i j t t' s _ _ hc ⟨.int (g i j), H, I.tok _, ⟨_, rfl⟩, q⟩
theorem opI0 {f : Value → Value → Sem Value} {g : Int → Int → Int}
    (rule : ∀ (i j : Int) (t u : Tok) (s : Shared) (Q : Value → Shared → Prop) (E : Value → Shared → Prop), Q (.int (g i j) s.toks) { s with toks := s.toks + 1 } → wpAny (model X.prog X.w) X.A (f (.int i t) (.int j u)) Q E s) :
    OpR X f (rI0 fun i j => .int (g i j)) := by
  intro pins s σ H x y v u Q I rx ry h
  obtain ⟨i, j, rfl, rfl, q⟩ := h
  obtain ⟨t, rfl⟩ := rx
  obtain ⟨t', rfl⟩ := ry
  exact rule i j t t' s _ _ ⟨.int (g i j), H, I.tok _, ⟨_, rfl⟩, q⟩
theorem opB0 {f : Value → Value → Sem Value} {g : Int → Int → Bool}
    (rule : ∀ (i j : Int) (t u : Tok) (s : Shared) (Q : Value → Shared → Prop) (E : Value → Shared → Prop), Q (.bool (g i j)) s → wpAny (model X.prog X.w) X.A (f (.int i t) (.int j u)) Q E s) :
    OpR X f (rI0 fun i j => .bl (g i j)) := by
  intro pins s σ H x y v u Q I rx ry h
  obtain ⟨i, j, rfl, rfl, q⟩ := h
  obtain ⟨t, rfl⟩ := rx
  obtain ⟨t', rfl⟩ := ry
  exact rule i j t t' s _ _ ⟨.bl (g i j), H, I, rfl, q⟩

noncomputable def CMul (i j : Int) : Prop := (-(2 ^ 64) < i ∧ i < 2 ^ 64) ∨ (-(2 ^ 64) < j ∧ j < 2 ^ 64)
theorem CMul.ok {i j : Int} (h : CMul i j) : IntMulOk i j := by
  rcases h with ⟨h1, h2⟩ | ⟨h1, h2⟩
  · exact .of_left (intBits_le_64 h1 h2)
  · exact .of_right (intBits_le_64 h1 h2)
theorem op_add : OpR X (binaryOp .Add) (rI0 fun i j => .int (i + j)) := opI0 fun _ _ _ _ _ _ _ q => add_int q
theorem op_sub : OpR X (binaryOp .Sub) (rI0 fun i j => .int (i - j)) := opI0 fun _ _ _ _ _ _ _ q => sub_int q
theorem op_modN : OpR X (binaryOp .Mod) (rI (fun _ j => j ≠ 0) fun i j => .int (i.fmod j)) := opI fun _ _ _ _ _ _ _ hc q => mod_int' hc q
theorem unI {f : Value → Sem Value} {g : Int → Int}
    (rule : ∀ (i : Int) (t : Tok) (s : Shared) (Q : Value → Shared → Prop) (E : Value → Shared → Prop), Q (.int (g i) s.toks) { s with toks := s.toks + 1 } → wpAny (model X.prog X.w) X.A (f (.int i t)) Q E s) :
    UnR X f (rU fun i => .int (g i)) := by
  intro pins s σ H x v Q I rx h
  obtain ⟨i, rfl, q⟩ := h
  obtain ⟨t, rfl⟩ := rx
  exact rule i t s _ _ ⟨.int (g i), H, I.tok _, ⟨_, rfl⟩, q⟩
theorem un_neg : UnR X (unaryOp .USub) (rU fun i => .int (-i)) := unI fun _ _ _ _ _ q => neg_int q
end

noncomputable def scal : V → V → Bool
  | .non, .non => true | .non, .int _ => true | .int _, .non => true | .non, .bl _ => true | .bl _, .non => true | .non, .str _ => true | .str _, .non => true
  | .int _, .int _ => true | .bl _, .bl _ => true | .str _, .str _ => true | .byt _, .byt _ => true
  | .int _, .str _ => true | .str _, .int _ => true | .bl _, .str _ => true | .str _, .bl _ => true
  | _, _ => false
noncomputable def rEq : R2 := fun x y H Q => scal x y = true ∧ Q (.bl (decide (x = y))) H
noncomputable def rNe : R2 := fun x y H Q => scal x y = true ∧ Q (.bl (!decide (x = y))) H

theorem dec_int {i j : Int} : decide (V.int i = V.int j) = (i == j) := by
  rw [Bool.eq_iff_iff]
  simp
theorem dec_bl {i j : Bool} : decide (V.bl i = V.bl j) = (i == j) := by
  rw [Bool.eq_iff_iff]
  simp
theorem dec_str {i j : Str} : decide (V.str i = V.str j) = (i == j) := by
  rw [Bool.eq_iff_iff]
  simp
theorem dec_byt {i j : Array UInt8} : decide (V.byt i = V.byt j) = (i.toList == j.toList) := by
  rw [Bool.eq_iff_iff]
  cases i
  cases j
  simp

section
variable {X : Cx} {a b c : Expr} {ta tb tc : TE} {pos : Pos}
theorem fin_bl {pins : List (Addr × Obj)} {σ : St} {H : Hp} {s : Shared} {Q : VK} {k k' : Bool} (I : Inv X pins σ H s) (q : Q (.bl k) H) (e : k = k') : EP X pins σ Q (.bool k') s := by
  subst e
  exact ⟨.bl k, H, I, rfl, q⟩
theorem op_eq : OpR X (compareOp .Eq) rEq := by
  intro pins s σ H x y v u Q I rx ry h
  obtain ⟨hs, q⟩ := h
  cases x with
  | non =>
    cases rx
    cases y with
    | non => cases ry; exact PySem.EqNone.eq_none_none (fin_bl I q (by simp))
    | bl j => cases ry; exact PySem.EqNone.eq_none_bool (fin_bl I q (by simp))
    | int j => obtain ⟨t', rfl⟩ := ry; exact PySem.EqNone.eq_none_int (fin_bl I q (by simp))
    | str j => obtain ⟨t', rfl⟩ := ry; exact PySem.EqNone.eq_none_str (fin_bl I q (by simp))
    | _ => exact absurd (show false = true from hs) Bool.false_ne_true
  | bl i =>
    cases rx
    cases y with
    | non => cases ry; exact PySem.EqNone.eq_bool_none (fin_bl I q (by simp))
    | bl j => cases ry; exact eq_bool (fin_bl I q dec_bl)
    | str j => obtain ⟨t', rfl⟩ := ry; exact PySem.EqMixed.eq_bool_str (fin_bl I q (by simp))
    | _ => exact absurd (show false = true from hs) Bool.false_ne_true
  | int i =>
    obtain ⟨t, rfl⟩ := rx
    cases y with
    | non => cases ry; exact PySem.EqNone.eq_int_none (fin_bl I q (by simp))
    | int j => obtain ⟨t', rfl⟩ := ry; exact eq_int (fin_bl I q dec_int)
    | str j => obtain ⟨t', rfl⟩ := ry; exact PySem.EqMixed.eq_int_str (fin_bl I q (by simp))
    | _ => exact absurd (show false = true from hs) Bool.false_ne_true
  | str i =>
    obtain ⟨t, rfl⟩ := rx
    cases y with
    | non => cases ry; exact PySem.EqNone.eq_str_none (fin_bl I q (by simp))
    | bl j => cases ry; exact PySem.EqMixed.eq_str_bool (fin_bl I q (by simp))
    | int j => obtain ⟨t', rfl⟩ := ry; exact PySem.EqMixed.eq_str_int (fin_bl I q (by simp))
    | str j => obtain ⟨t', rfl⟩ := ry; exact eq_str (fin_bl I q dec_str)
    | _ => exact absurd (show false = true from hs) Bool.false_ne_true
  | byt i =>
    obtain ⟨t, rfl⟩ := rx
    cases y with
    | byt j => obtain ⟨t', rfl⟩ := ry; exact PySem.W.eq_bytes (fin_bl I q dec_byt)
    | _ => exact absurd (show false = true from hs) Bool.false_ne_true
  | _ => cases y <;> exact absurd (show false = true from hs) Bool.false_ne_true
theorem op_ne : OpR X (compareOp .NotEq) rNe := by
  intro pins s σ H x y v u Q I rx ry h
  obtain ⟨hs, q⟩ := h
  cases x with
  | non =>
    cases rx
    cases y with
    | non => cases ry; exact PySem.EqNone.ne_none_none (fin_bl I q (by simp))
    | bl j => cases ry; exact PySem.EqNone.ne_none_bool (fin_bl I q (by simp))
    | int j => obtain ⟨t', rfl⟩ := ry; exact PySem.EqNone.ne_none_int (fin_bl I q (by simp))
    | str j => obtain ⟨t', rfl⟩ := ry; exact PySem.EqNone.ne_none_str (fin_bl I q (by simp))
    | _ => exact absurd (show false = true from hs) Bool.false_ne_true
  | bl i =>
    cases rx
    cases y with
    | non => cases ry; exact PySem.EqNone.ne_bool_none (fin_bl I q (by simp))
    | bl j => cases ry; exact ne_bool (fin_bl I q (congrArg not dec_bl))
    | str j => obtain ⟨t', rfl⟩ := ry; exact PySem.EqMixed.ne_bool_str (fin_bl I q (by simp))
    | _ => exact absurd (show false = true from hs) Bool.false_ne_true
  | int i =>
    obtain ⟨t, rfl⟩ := rx
    cases y with
    | non => cases ry; exact PySem.EqNone.ne_int_none (fin_bl I q (by simp))
    | int j => obtain ⟨t', rfl⟩ := ry; exact ne_int (fin_bl I q (congrArg not dec_int))
    | str j => obtain ⟨t', rfl⟩ := ry; exact PySem.EqMixed.ne_int_str (fin_bl I q (by simp))
    | _ => exact absurd (show false = true from hs) Bool.false_ne_true
  | str i =>
    obtain ⟨t, rfl⟩ := rx
    cases y with
    | non => cases ry; exact PySem.EqNone.ne_str_none (fin_bl I q (by simp))
    | bl j => cases ry; exact PySem.EqMixed.ne_str_bool (fin_bl I q (by simp))
    | int j => obtain ⟨t', rfl⟩ := ry; exact PySem.EqMixed.ne_str_int (fin_bl I q (by simp))
    | str j => obtain ⟨t', rfl⟩ := ry; exact ne_str (fin_bl I q (congrArg not dec_str))
    | _ => exact absurd (show false = true from hs) Bool.false_ne_true
  | byt i =>
    obtain ⟨t, rfl⟩ := rx
    cases y with
    | byt j => obtain ⟨t', rfl⟩ := ry; exact PySem.W.ne_bytes (fin_bl I q (congrArg not dec_byt))
    | _ => exact absurd (show false = true from hs) Bool.false_ne_true
  | _ => cases y <;> exact absurd (show false = true from hs) Bool.false_ne_true

theorem op_lt : OpR X (compareOp .Lt) (rI0 fun i j => .bl (decide (i < j))) := opB0 fun _ _ _ _ _ _ _ q => lt_int q
theorem op_le : OpR X (compareOp .LtE) (rI0 fun i j => .bl (decide (i ≤ j))) := opB0 fun _ _ _ _ _ _ _ q => le_int q
theorem op_gt : OpR X (compareOp .Gt) (rI0 fun i j => .bl (decide (j < i))) := opB0 fun _ _ _ _ _ _ _ q => gt_int q
theorem OpR.or {f : Value → Value → Sem Value} {r r' : R2} (h : OpR X f r) (h' : OpR X f r') : OpR X f (fun x y H Q => r x y H Q ∨ r' x y H Q) := by
  intro pins s σ H x y v u Q I rx ry q
  rcases q with q | q
  · exact h pins s σ H x y v u Q I rx ry q
  · exact h' pins s σ H x y v u Q I rx ry q

theorem nomark (b : Expr) {op : CmpOp} (h : op ≠ .In := by decide) (h2 : op ≠ .NotIn := by decide) : behindInMarks op b = false := by
  have e1 : (op == CmpOp.In) = false := by cases op <;> first | rfl | exact absurd rfl h
  have e2 : (op == CmpOp.NotIn) = false := by cases op <;> first | rfl | exact absurd rfl h2
  cases b <;> simp [behindInMarks, e1, e2]
theorem pe_cmpR {op : CmpOp} {r : R2} (ho : OpR X (compareOp op) r) (ha : PE X a ta) (hb : PE X b tb) (hm : behindInMarks op b = false) : PE X (.Compare a [op] [b] pos) (tOp r ta tb) := by
  intro pins s σ H Q I h
  exact wpAny_Compare1 (binT ha hb I h fun v u s2 x y H2 I2 rx ry q => ho pins s2 σ H2 x y v u Q I2 rx ry q) hm
noncomputable def tTest (t : TE) : TT := fun σ H Q => t σ H fun x H' => ∃ k, x = .bl k ∧ Q k H'
theorem pt_cmpR {op : CmpOp} {r : R2} (ho : OpR X (compareOp op) r) (ha : PE X a ta) (hb : PE X b tb) (hm : behindInMarks op b = false) : PT X (.Compare a [op] [b] pos) (tTest (tOp r ta tb)) := by
  intro pins s σ H Q I h
  refine wpAny_isTrue_Compare1 (thn (ha pins s σ H _ I h) fun v s1 ⟨x, H1, I1, r1, q1⟩ => thn (hb pins s1 σ H1 _ I1 q1) fun u s2 ⟨y, H2, I2, r2, q2⟩ =>
    thn (ho pins s2 σ H2 x y v u _ I2 r1 r2 q2) fun c s3 ⟨z, H3, I3, r3, k, e, q3⟩ => ?_) hm
  subst e
  cases r3
  exact wpAny_truthy_bool ⟨H3, I3, q3⟩
theorem line63 : (sizeLine : Nat) < 2 ^ 63 := by rw [sizeLine_eq]; decide
theorem vals1 {x : V} {us : List Value} (r : Vals [x] us) : ∃ u, us = [u] ∧ RelV x u := by
  cases r with
  | cons r1 r2 => cases r2; exact ⟨_, rfl, r1⟩
theorem vals2 {x y : V} {us : List Value} (r : Vals [x, y] us) : ∃ u w', us = [u, w'] ∧ RelV x u ∧ RelV y w' := by
  cases r with
  | cons r1 r2 =>
    cases r2 with
    | cons r3 r4 => cases r4; exact ⟨_, _, rfl, r1, r3⟩
theorem call_abs : CallR X (.builtin "abs") (fun xs H Q => ∃ i, xs = [.int i] ∧ Q (.int (if i < 0 then -i else i)) H) := by
  intro pins s σ H xs us Q I r h
  obtain ⟨i, rfl, q⟩ := h
  obtain ⟨u, rfl, t, rfl⟩ := vals1 r
  exact call_abs_int fun u tk => ⟨.int (if i < 0 then -i else i), H, I.tok _, ⟨_, rfl⟩, q⟩
theorem call_max2 (hc : X.calm = true) : CallR X (.builtin "max") (fun xs H Q => ∃ i j, xs = [.int i, .int j] ∧ Q (.int (if j > i then j else i)) H) := by
  intro pins s σ H xs us Q I r h
  obtain ⟨i, j, rfl, q⟩ := h
  obtain ⟨u, w', rfl, ⟨t, rfl⟩, ⟨t', rfl⟩⟩ := vals2 r
  refine max_two_ints (I.ok.hd hc) fun h' tk k => ⟨_, H, I.kept k, ?_, q⟩
  by_cases hj : j > i
  · rw [if_pos hj, if_pos hj]; exact ⟨_, rfl⟩
  · rw [if_neg hj, if_neg hj]; exact ⟨_, rfl⟩
theorem call_min2 (hc : X.calm = true) : CallR X (.builtin "min") (fun xs H Q => ∃ i j, xs = [.int i, .int j] ∧ Q (.int (if j < i then j else i)) H) := by
  intro pins s σ H xs us Q I r h
  obtain ⟨i, j, rfl, q⟩ := h
  obtain ⟨u, w', rfl, ⟨t, rfl⟩, ⟨t', rfl⟩⟩ := vals2 r
  refine min_two_ints (I.ok.hd hc) fun h' tk k => ⟨_, H, I.kept k, ?_, q⟩
  by_cases hj : j < i
  · rw [if_pos hj, if_pos hj]; exact ⟨_, rfl⟩
  · rw [if_neg hj, if_neg hj]; exact ⟨_, rfl⟩
end
end L2

namespace L2
open PySem PySem.Spec PyProof.Rows

section
variable {prog : Program} {w : World} {A : Around} {E : Value → Shared → Prop} {s : Shared} {K : PySem.W.Frag} {x dx C f : Addr} {mA : Str → Option Value} {name : Str} {v : Value}

end

theorem RelO.none_of {o : Option Value} (r : RelO none o) : o = none := by
  cases o with
  | none => rfl
  | some u => exact (show False from r).elim
section
variable {P : Program} {w : World} {H H' : Hp} {h h' : Heap} {a C dx : Addr} {fs fs' : List (Str × V)}
end

structure Cls (K : PySem.W.Frag) (C : Addr) : Prop where
  pg : PySem.W.plainGet K C Str.empty = true
  hd : PySem.W.hasDictIn K C = true
  po : PySem.W.plainOver K C = true
  sa : PySem.W.findIn K (.ref C) "__setattr__" = some (some (.builtin "object.__setattr__"))
theorem Cls.get {K : PySem.W.Frag} {C : Addr} (c : Cls K C) (f : Str) : PySem.W.plainGet K C f = true := c.pg
structure Con (K : PySem.W.Frag) (C : Addr) (f : Str) (v : V) (u : Value) : Prop where
  at_ : PySem.W.findIn K (.ref C) f = some (some u)
  rel : RelV v u
  get : PySem.W.specialIn K u "__get__" = some none
  cp : PySem.W.copiedNames.contains f = false
section
variable {X : Cx} {pins : List (Addr × Obj)} {σ : St} {H : Hp} {s : Shared} {a C dx : Addr} {fs : List (Str × V)} {f : Str} {v : V} {A : Around} {E : Value → Shared → Prop}

end

section
variable {X : Cx} {o e value : Expr} {f : Str} {pos pos' tpos : Pos} {ta tv : TE}
end

section
variable {X : Cx} {pins : List (Addr × Obj)} {σ : St} {H : Hp} {s : Shared} {A : Around} {E : Value → Shared → Prop} {Q : Value → Shared → Prop} {c : Value} {b : Bool}
end
end L2

namespace L2
open PySem PySem.Spec PyProof.Rows

structure Room (k : Nat) (A : Around) : Prop where
  hd : A.handled = none
  dp : A.depth + 3 * k + 5 < recursionLimit
  un : A.units + 16 * k + 200 < cLine
theorem Room.mono {j k : Nat} {A : Around} (r : Room k A) (h : j ≤ k) : Room j A := ⟨r.hd, by have := r.dp; omega, by have := r.un; omega⟩
theorem Room.deeper {k : Nat} {A : Around} (r : Room (k + 1) A) (env : Env) : Room k (A.deeper env) :=
  ⟨r.hd, by have := r.dp; show A.depth + 1 + 3 * k + 5 < _; omega, by have := r.un; show A.units + 3 + 16 * k + 200 < _; omega⟩
theorem Room.in1 {k : Nat} {A : Around} (r : Room (k + 1) A) : Room k A.in1 :=
  ⟨r.hd, by have := r.dp; show A.depth + 3 * k + 5 < _; omega, by have := r.un; show A.units + 1 + 16 * k + 200 < _; omega⟩
theorem Room.depth {k : Nat} {A : Around} (r : Room k A) : A.depth < recursionLimit := by have := r.dp; omega
theorem Room.units {k : Nat} {A : Around} (r : Room k A) : A.units + 64 < cLine := by have := r.un; omega
noncomputable def tNil : TA := fun _ H Q => Q [] H
noncomputable def tCons (ta : TE) (tr : TA) : TA := fun σ H Q => ta σ H fun x H1 => tr σ H1 fun xs H2 => Q (x :: xs) H2
section
variable {X : Cx} {e : Expr} {es : List Expr} {te : TE} {t : TA} {pos : Pos}
theorem pa_nil : PA X [] tNil := fun _ _ _ _ H Q I h => Calls.spliced_nil ⟨[], H, I, .nil, h⟩
theorem pa_cons (ha : PE X e te) (hr : PA X es t) (hs : starEach (e :: es) X.env = (false, eval e X.env) :: starEach es X.env := by rfl) : PA X (e :: es) (tCons te t) := by
  intro pos pins s σ H Q I h
  rw [hs]
  show wpAny _ _ (spliced ((false, eval e X.env) :: backTo pos (starEach es X.env))) _ _ s
  refine Calls.spliced_cons (thn (ha pins s σ H _ I h) fun u s1 qZ => ?_)
  obtain ⟨x, H1, I1, r1, q1⟩ := qZ
  exact thn (hr pos pins s1 σ H1 _ I1 q1) fun us s2 ⟨xs, H2, I2, r2, q2⟩ => ⟨x :: xs, H2, I2, .cons r1 r2, q2⟩

noncomputable def tTup (t : TA) : TE := fun σ H Q => t σ H fun xs H1 => xs.length ≤ sizeLine ∧ ∀ p, H1 p = none → Q (.ref p) (upd H1 p (.tup xs))
noncomputable def tLst (t : TA) : TE := fun σ H Q => t σ H fun xs H1 => xs.length ≤ sizeLine ∧ ∀ p, H1 p = none → Q (.ref p) (upd H1 p (.lst xs))
theorem pe_tup {x1} (h : PA X es t) : PE X (.Tuple es x1 pos) (tTup t) := by
  intro pins s σ H Q I hq
  refine wpAny_Tuple_spliced (thn (h pos pins s σ H _ I hq) fun us s1 ⟨xs, H1, I1, r, z, q⟩ => ⟨by rw [← r.length]; exact z, ?_⟩)
  have hf : H1 s1.heap.objs.size = none := I1.hok.fresh (Nat.le_refl _)
  refine ⟨.ref s1.heap.objs.size, upd H1 s1.heap.objs.size (.tup xs), I1.laid (t' := s1.toks) (fun b u e => Heap.get?_push_of_some _ e) (Nat.le_refl _) ?_, rfl, q _ hf⟩
  exact ⟨z, us, r, ⟨_, Heap.get?_push_size _ rfl, rfl, _, rfl⟩⟩
theorem pe_lst (h : PA X es t) : PE X (.List es pos) (tLst t) := by
  intro pins s σ H Q I hq
  refine wpAny_List_spliced (thn (h pos pins s σ H _ I hq) fun us s1 ⟨xs, H1, I1, r, z, q⟩ => ⟨by rw [← r.length]; exact z, ?_⟩)
  have hf : H1 s1.heap.objs.size = none := I1.hok.fresh (Nat.le_refl _)
  refine ⟨.ref s1.heap.objs.size, upd H1 s1.heap.objs.size (.lst xs), I1.laid (t' := s1.toks) (fun b u e => Heap.get?_push_of_some _ e) (Nat.le_refl _) ?_, rfl, q _ hf⟩
  exact ⟨z, us, 0, r, Heap.get?_push_size _ rfl⟩
end

noncomputable abbrev Sp := List V → Hp → VK → XK → Prop
noncomputable abbrev CXT := List Env → Hp → Shared → XK → Value → Shared → Prop

structure Env0 (P : Program) (w : World) (K : PySem.W.Frag) (mg : Str → Option Value) (base : Heap) (A : Around) (outer : List Env) (s : Shared) (H : Hp) : Prop where
  frames : A.frames = some outer
  mod : Mod K mg base
  bs : ∀ b o, base.get? b = some o → s.heap.get? b = some o ∧ H b = none
  bsz : base.objs.size ≤ s.heap.objs.size
  funs : s.heap.FunFrames base outer
  frf : ∀ b ∈ frs outer, H b = none
  hok : HOk P w H s.heap
  bare : AllBare s.gens
noncomputable def CE (outer : List Env) (P : Program) (w : World) (H : Hp) (s : Shared) (Q : VK) (u : Value) (s' : Shared) : Prop :=
  ∃ v H', s'.os = s.os ∧ AllBare s'.gens ∧ Un (frs outer) [] H H' s.heap s'.heap ∧ HOk P w H' s'.heap ∧ RelV v u ∧ Q v H'
noncomputable def CR (CX : CXT) (outer : List Env) (P : Program) (w : World) (H : Hp) (s : Shared) (Q : VK) (E : XK) (r : Result) (s' : Shared) : Prop :=
  match r with
  | .ok (.ret u) => CE outer P w H s Q u s'
  | .ok _ => False
  | .error e => CX outer H s E e s'
structure FnOk (P : Program) (w : World) (K : PySem.W.Frag) (mg : Str → Option Value) (base : Heap) (CX : CXT) (k : Nat) (f : Addr) (fd : FuncData) (ps : List Str) (sp : Sp) : Prop where
  len : ∀ vs H Q E, sp vs H Q E → vs.length = ps.length
  run : ∀ (A : Around) (outer : List Env) (s : Shared) (H : Hp) (args : Args) (us : List Value) (vs : List V) (Q : VK) (E : XK), Room k A → Env0 P w K mg base A outer s H → BindsTo s fd args (ps.zip us) → Vals vs us → sp vs H Q E →
    codeAny (model P w) A (.call (.ref f) args) (CR CX outer P w H s Q E) s
theorem FnOk.mono {P : Program} {w : World} {K : PySem.W.Frag} {mg : Str → Option Value} {base : Heap} {CX : CXT} {j k : Nat} {f : Addr} {fd : FuncData} {ps : List Str} {sp : Sp} (F : FnOk P w K mg base CX j f fd ps sp) (h : j ≤ k) :
    FnOk P w K mg base CX k f fd ps sp := ⟨F.len, fun A outer s H args us vs Q E hr => F.run A outer s H args us vs Q E (hr.mono h)⟩
theorem FnOk.imp {P : Program} {w : World} {K : PySem.W.Frag} {mg : Str → Option Value} {base : Heap} {CX : CXT} {k : Nat} {f : Addr} {fd : FuncData} {ps : List Str} {sp sp' : Sp} (F : FnOk P w K mg base CX k f fd ps sp)
    (h : ∀ vs H Q E, sp' vs H Q E → sp vs H Q E) : FnOk P w K mg base CX k f fd ps sp' :=
  ⟨fun vs H Q E q => F.len vs H Q E (h _ _ _ _ q), fun A outer s H args us vs Q E hr he hb hv hs => F.run A outer s H args us vs Q E hr he hb hv (h _ _ _ _ hs)⟩

theorem Env0.in1 {P : Program} {w : World} {K : PySem.W.Frag} {mg : Str → Option Value} {base : Heap} {A : Around} {outer : List Env} {s : Shared} {H : Hp} (e : Env0 P w K mg base A outer s H) :
    Env0 P w K mg base A.in1 outer s H := ⟨e.frames, e.mod, e.bs, e.bsz, e.funs, e.frf, e.hok, e.bare⟩

section
variable {X : Cx} {pins : List (Addr × Obj)} {σ : St} {H : Hp} {s s' : Shared}
theorem Inv.env0 (I : Inv X pins σ H s) : Env0 X.prog X.w X.K X.mg X.base X.A X.stack s H :=
  ⟨I.ok.frames, I.ok.mod, I.bs, Nat.le_trans I.ok.bsz I.sz, I.stack, I.stkFree, I.hok, I.bare⟩
theorem Inv.after {Q : VK} {u : Value} (I : Inv X pins σ H s) (h : CE X.stack X.prog X.w H s Q u s') : EP X pins σ Q u s' := by
  obtain ⟨v, H', os, bare, un, hok, r, q⟩ := h
  obtain ⟨hh, g, d, t, os'⟩ := s'
  obtain rfl : os' = s.os := os
  exact ⟨v, H', I.call (h' := hh) (g' := g) (d' := d) (t' := t) (ch := []) un hok bare (fun b z => absurd z (by simp)), r, q⟩
end

noncomputable def tCall (sp : Sp) (dvs : List V) (E : XK) (t : TA) : TE := fun σ H Q => t σ H fun vs H1 => sp (vs ++ dvs) H1 Q E
noncomputable def Binds (K : PySem.W.Frag) (fd : FuncData) (ps : List Str) (ds : List Value) : Prop :=
  ∀ (s : Shared) (us : List Value), K.In s.heap → (us ++ ds).length = ps.length → BindsTo s fd ⟨us, []⟩ (ps.zip (us ++ ds))
theorem Binds.all {K : PySem.W.Frag} {fd : FuncData} {ps : List Str} (h : ∀ us : List Value, us.length = ps.length → bindArgs fd ⟨us, []⟩ = pure (ps.zip us)) : Binds K fd ps [] := fun s us _ hl => by
  rw [List.append_nil] at hl ⊢
  exact .of_eq (h us hl)

noncomputable def Passes (CX : CXT) (X : Cx) (E : XK) : Prop := ∀ (pins : List (Addr × Obj)) (σ : St) (H : Hp) (s : Shared) (e : Value) (s' : Shared), Inv X pins σ H s → CX X.stack H s E e s' → X.xe e s'

section
variable {X : Cx} {CX : CXT} {k : Nat} {f C : Addr} {fd : FuncData} {ps : List Str} {sp : Sp} {dvs : List V} {ds : List Value} {E : XK} {x m : Str} {p pos apos : Pos} {e o : Expr} {es : List Expr} {ta : TE} {t : TA}

theorem run_fn {pins : List (Addr × Obj)} {σ : St} {H : Hp} {s : Shared} {Q : VK} {us : List Value} {vs : List V} (F : FnOk X.prog X.w X.K X.mg X.base CX k f fd ps sp) (hr : Room k X.A) (hb : Binds X.K fd ps ds) (hd : Vals dvs ds) (hx : Passes CX X E)
    (I : Inv X pins σ H s) (r : Vals vs us) (h : sp (vs ++ dvs) H Q E) : wpAny (model X.prog X.w) X.A (call (.ref f) us) (EP X pins σ Q) X.xe s := by
  have r2 : Vals (vs ++ dvs) (us ++ ds) := r.append hd
  have hl : (us ++ ds).length = ps.length := by rw [← r2.length]; exact F.len _ _ _ _ h
  refine wpAny_call (codeAny_mono (F.run X.A X.stack s H ⟨us, []⟩ (us ++ ds) (vs ++ dvs) Q E hr I.env0 (hb s us I.kIn hl) r2 h) fun r s' hq => ?_)
  cases r with
  | error e => exact hx pins σ H s e s' I hq
  | ok fl =>
    cases fl with
    | ret u => exact I.after hq
    | next => exact False.elim hq
    | brk => exact False.elim hq
    | cont => exact False.elim hq

theorem pe_call (F : FnOk X.prog X.w X.K X.mg X.base CX k f fd ps sp) (hr : Room k X.A) (hg : Gl X x) (hm : X.mg x = some (.ref f)) (hk : PySem.W.keepIn X.K (.ref f) = true) (hb : Binds X.K fd ps ds) (hd : Vals dvs ds) (hx : Passes CX X E)
    (ha : PA X (e :: es) t) (hdb : (x == ("__debug__" : Str)) = false := by decide) (he : starEach (e :: es) X.env = (false, eval e X.env) :: starEach es X.env := by rfl) (hpl : (backTo pos (starEach es X.env)).any (·.1) = false := by rfl) :
    PE X (.Call (.Name x p) (e :: es) [] pos) (tCall sp dvs E t) := by
  intro pins s σ H Q I h
  refine wpAny_Call_Name_kw (ld_glob I hg hm ?_ hdb)
  refine PySem.W.callWith_K (h₀ := X.base) I.ok.mod.kin hk (thn (ha pos pins s σ H _ I h) fun us s1 ⟨vs, H1, I1, r, q⟩ => ⟨I1.kIn, ?_⟩) he hpl
  exact run_fn F hr hb hd hx I1 r q
end

section
variable {X : Cx} {CX : CXT} {k : Nat} {f C : Addr} {fd : FuncData} {ps ks : List Str} {sp : Sp} {E : XK} {x m : Str} {p pos apos kpos : Pos} {e o : Expr} {es : List Expr} {kws : List Keyword} {te ta : TE} {t tk : TA} {nm : Option Str}
variable {g : List Value → List Value → List Value} {gV : List V → List V → List V}
end

structure FnScope (N P : List Str) (sc : Scope) : Prop where
  kind : sc.kind = .function
  co : sc.isCoroutine = false
  gen : sc.isGenerator = false
  nd : N.Nodup
  pre : N.take P.length = P
  par : ∀ x ∈ P, sc.names.lookup x = some .local ∨ sc.names.lookup x = some .cell
  nofree : ∀ y ∈ sc.names, y.2 ≠ .free

theorem bindL_out {kindOf : Str → Option NameKind} {x : Str} : ∀ {binds : List (Str × Value)} {m : Str → Option Value}, (∀ v, (x, v) ∉ binds) → bindL kindOf binds m x = m x
  | [], _, _ => rfl
  | (n, v) :: r, m, h => by
    unfold bindL
    rw [bindL_out fun w hw => h w (List.mem_cons_of_mem _ hw)]
    split
    · have : x ≠ n := by rintro rfl; exact h v List.mem_cons_self
      simp [this]
    · rfl
theorem bindC_out {kindOf : Str → Option NameKind} {x : Str} : ∀ {binds : List (Str × Value)} {m : Str → Option Value}, (∀ v, (x, v) ∉ binds) → bindC kindOf binds m x = m x
  | [], _, _ => rfl
  | (n, v) :: r, m, h => by
    unfold bindC
    rw [bindC_out fun w hw => h w (List.mem_cons_of_mem _ hw)]
    split
    · rfl
    · have : x ≠ n := by rintro rfl; exact h v List.mem_cons_self
      simp [this]
theorem bindL_get {kindOf : Str → Option NameKind} {x : Str} {v : Value} : ∀ {P : List Str} {vs : List Value} {i : Nat} {m : Str → Option Value}, P.Nodup → P[i]? = some x → vs[i]? = some v → kindOf x = some .local →
    bindL kindOf (P.zip vs) m x = some v
  | [], _, _, _, _, h, _, _ => by simp at h
  | _ :: _, [], _, _, _, _, h, _ => by simp at h
  | p :: P, w :: vs, 0, m, nd, h1, h2, hk => by
    simp at h1 h2; subst h1; subst h2
    show bindL kindOf ((p, w) :: P.zip vs) m p = _
    unfold bindL
    rw [bindL_out fun v hv => (List.nodup_cons.mp nd).1 (List.of_mem_zip hv).1, if_pos hk]
    simp
  | p :: P, w :: vs, i + 1, m, nd, h1, h2, hk => by
    show bindL kindOf ((p, w) :: P.zip vs) m x = _
    unfold bindL
    exact bindL_get (i := i) (List.nodup_cons.mp nd).2 (by simpa using h1) (by simpa using h2) hk
theorem bindC_get {kindOf : Str → Option NameKind} {x : Str} {v : Value} : ∀ {P : List Str} {vs : List Value} {i : Nat} {m : Str → Option Value}, P.Nodup → P[i]? = some x → vs[i]? = some v → kindOf x ≠ some .local →
    bindC kindOf (P.zip vs) m x = some v
  | [], _, _, _, _, h, _, _ => by simp at h
  | _ :: _, [], _, _, _, _, h, _ => by simp at h
  | p :: P, w :: vs, 0, m, nd, h1, h2, hk => by
    simp at h1 h2; subst h1; subst h2
    show bindC kindOf ((p, w) :: P.zip vs) m p = _
    unfold bindC
    rw [bindC_out fun v hv => (List.nodup_cons.mp nd).1 (List.of_mem_zip hv).1, if_neg hk]
    simp
  | p :: P, w :: vs, i + 1, m, nd, h1, h2, hk => by
    show bindC kindOf ((p, w) :: P.zip vs) m x = _
    unfold bindC
    exact bindC_get (i := i) (List.nodup_cons.mp nd).2 (by simpa using h1) (by simpa using h2) hk

noncomputable def start (N : List Str) (vs : List V) : St := vs.map some ++ List.replicate (N.length - vs.length) none

noncomputable def cxOf (CX : CXT) (P : Program) (w : World) (K : PySem.W.Frag) (mg : Str → Option Value) (base : Heap) (N : List Str) (qual : Str) (scope : Scope) (f : Addr) (cd : Value) (A : Around) (outer : List Env) (s : Shared) (H : Hp) (E : XK) : Cx where
  prog := P
  w := w
  K := K
  mg := mg
  base := base
  A := A.deeper (envOfC qual scope s.heap.objs.size f cd)
  N := N
  s₀ := s
  H₀ := H
  env := envOfC qual scope s.heap.objs.size f cd
  outer := outer
  stack := envOfC qual scope s.heap.objs.size f cd :: outer
  ex := []
  calm := true
  fn := fun _ => true
  pn := []
  xe := fun e s' => wpAny (model P w) (A.deeper (envOfC qual scope s.heap.objs.size f cd)) (leaving (envOfC qual scope s.heap.objs.size f cd) e) (fun _ s'' => CX outer H s E e s'') (fun e' s'' => CX outer H s E e' s'') s'

theorem cell_has {sc : Scope} {n : Nat} {x : Str} (h : sc.names.lookup x = some .cell) : ∃ c, (cellsFrom n sc.names []).lookup x = some c := by
  have q := PySem.W.cellsFrom_some sc.names n [] (.inl h)
  exact Option.isSome_iff_exists.mp q

theorem inv_start {CX : CXT} {P : Program} {w : World} {K : PySem.W.Frag} {mg : Str → Option Value} {base : Heap} {N ps : List Str} {qual : Str} {scope : Scope} {f : Addr} {cd : Value} {A : Around} {outer : List Env} {s s1 : Shared} {H : Hp} {E : XK} {us : List Value} {vs : List V}
    (S : FnScope N ps scope) (hd : A.handled = none) (e0 : Env0 P w K mg base A outer s H) (hl : vs.length = ps.length) (r : Vals vs us)
    (x : InCallC s s.heap.objs.size (bindL (envOfC qual scope s.heap.objs.size f cd).kindOf (ps.zip us) fun _ => none) (cellsFrom (s.heap.objs.size + 1) scope.names []) (bindC (envOfC qual scope s.heap.objs.size f cd).kindOf (ps.zip us) fun _ => none) s1) :
    Inv (cxOf CX P w K mg base N qual scope f cd A outer s H E) [] (start N vs) H s1 := by
  have hpl : ps.length ≤ N.length := by have := congrArg List.length S.pre; rw [List.length_take] at this; omega
  obtain ⟨h1, tk, rfl, hk⟩ := x.done
  have noA : ∀ b : Addr, b ∉ (cxOf CX P w K mg base N qual scope f cd A outer s H E).ex := fun b z => absurd (show b ∈ ([] : List Addr) from z) (by simp)
  refine ⟨⟨e0.mod, S.kind, rfl, rfl, Nat.le_refl _, fun y z c h1 h2 => ?_, fun y hy => ?_, fun y c _ h => ?_, fun _ => hd, Around.frames_deeper e0.frames, .inr ⟨rfl, rfl⟩, fun b z => absurd z (noA b), e0.bs, e0.bsz, fun b _ _ => noA b, fun b z => absurd z (noA b), e0.funs, e0.frf⟩,
    rfl, e0.bare, Un.kept hk, ⟨_, x.toInCall.ns, fun i y v h1 h2 h3 => ?_⟩, fun y c h => ⟨_, x.cell y c h⟩, e0.hok.fresh (Nat.le_refl _), fun y c h => ?_, fun p hp => absurd (show p ∈ ([] : List (Addr × Obj)) from hp) (by simp), e0.hok.kept hk, ?_⟩
  · exact name_of_addr x.apart (PySem.mem_of_lookup h1) (PySem.mem_of_lookup h2)
  · have hy : scope.names.lookup y = some .cell ∨ scope.names.lookup y = some .free := hy
    rcases hy with hy | hy
    · exact cell_has hy
    · exact absurd rfl (S.nofree _ (PySem.mem_of_lookup hy))
  · exact Nat.le_of_lt (x.above y c (PySem.mem_of_lookup h))
  · have hi : i < vs.length := by
      unfold start at h2
      by_cases hi : i < vs.length
      · exact hi
      · rw [List.getElem?_append_right (by simpa using hi)] at h2
        rw [List.getElem?_replicate] at h2
        split at h2 <;> cases h2
    have ha : vs[i]? = some v := by
      unfold start at h2
      rw [List.getElem?_append_left (by simpa using hi), List.getElem?_map] at h2
      cases e : vs[i]? with
      | none => rw [e] at h2; cases h2
      | some a => rw [e] at h2; cases h2; rfl
    obtain ⟨u, hu, rv⟩ := r.get ha
    have hp : ps[i]? = some y := by
      rw [← S.pre, List.getElem?_take_of_lt (by omega)]; exact h1
    have ndP : ps.Nodup := by rw [← S.pre]; exact S.nd.sublist (List.take_sublist _ _)
    refine ⟨u, rv, ?_⟩
    rcases S.par y (List.mem_of_getElem? hp) with k | k
    · exact .inl ⟨k, bindL_get ndP hp hu k⟩
    · obtain ⟨c, e⟩ := cell_has (n := s.heap.objs.size + 1) k
      refine .inr ⟨.inl k, c, e, ?_⟩
      have q := x.cell y c e
      rw [bindC_get ndP hp hu (by show scope.names.lookup y ≠ _; rw [k]; decide)] at q
      exact q
  · exact e0.hok.fresh (Nat.le_of_lt (x.above y c (PySem.mem_of_lookup h)))
  · unfold start
    show _ = N.length
    rw [List.length_append, List.length_map, List.length_replicate]
    omega

theorem fn_of {CX : CXT} {P : Program} {w : World} {K : PySem.W.Frag} {mg : Str → Option Value} {base : Heap} {k : Nat} {f : Addr} {name qual : Str} {params : Arguments} {body : List Stmt} {scope : Scope} {dV kV doc pm cdv ct oc : Value} {an od : Option Addr}
    {osl : Array (Option Value)} {N ps : List Str} {sp : Sp} (lk : K.lookup f = some ⟨oc, od, .func (PySem.W.fnOf name qual params body scope dV kV doc pm an cdv ct), osl⟩) (hcd : PySem.W.codeIn K cdv qual = true) (S : FnScope N ps scope)
    (len : ∀ vs H Q E, sp vs H Q E → vs.length = ps.length)
    (hbody : ∀ (A : Around) (outer : List Env) (s : Shared) (H : Hp) (vs : List V) (Q : VK) (E : XK), Room k (A.deeper (envOfC qual scope s.heap.objs.size f cdv)) → sp vs H Q E →
      ∃ t, PSs (cxOf CX P w K mg base N qual scope f cdv A outer s H E) body t ∧ t { nx := fun _ H' => Q .non H', rt := Q } (start N vs) H) :
    FnOk P w K mg base CX (k + 1) f (PySem.W.fnOf name qual params body scope dV kV doc pm an cdv ct) ps sp := by
  refine ⟨len, fun A outer s H args us vs Q E hr e0 hb r hsp => ?_⟩
  have hl := len _ _ _ _ hsp
  have KX : K.In s.heap := e0.mod.kin.keeps fun b o e => (e0.bs b o e).1
  have lim : s.heap.NoLimit := e0.mod.nolimit.keeps fun b o e => (e0.bs b o e).1
  have hkind : ∀ y ∈ ps.zip us, scope.names.lookup y.1 = some .local ∨ (scope.names.lookup y.1 = some .cell ∧ ((cellsFrom (s.heap.objs.size + 1) scope.names []).lookup y.1).isSome = true) := fun ⟨n, v⟩ hy => by
    rcases S.par n (List.of_mem_zip hy).1 with q | q
    · exact .inl q
    · exact .inr ⟨q, PySem.W.cellsFrom_some _ _ _ (.inl q)⟩
  refine codeAny_call_function hr.depth (KX _ _ lk) rfl S.co S.gen rfl (PySem.W.codeRec_of KX hcd) (hb _ _ _ _ ?_)
  refine wpAny_newFunctionEnv_cells S.kind hkind fun env he s1 x => ?_
  subst he
  refine ⟨lim.keeps x.toInCall.keep, codeAny_func ?_⟩
  obtain ⟨t, ht, hq⟩ := hbody A outer s H vs Q E (hr.deeper _) hsp
  have I : Inv (cxOf CX P w K mg base N qual scope f cdv A outer s H E) [] (start N vs) H s1 := inv_start S hr.hd e0 hl r x
  refine wpAny_mono (ht [] s1 (start N vs) H _ I hq) (fun fl s' hs => ?_) fun e s' hs => hs
  have fin : ∀ {σ' : St} {H' : Hp} {v : V} {u : Value}, Inv (cxOf CX P w K mg base N qual scope f cdv A outer s H E) [] σ' H' s' → RelV v u → Q v H' → CE outer P w H s Q u s' :=
    fun {σ' H' v u} J rv q => ⟨v, H', J.os, J.bare, J.base, J.hok, rv, q⟩
  cases fl with
  | ret u =>
    obtain ⟨v, σ', H', J, rv, q⟩ := hs
    exact fin J rv q
  | next =>
    obtain ⟨σ', H', J, q⟩ := hs
    exact fin (v := V.non) (u := Value.none) J rfl q
  | brk =>
    obtain ⟨_, _, _, q⟩ := hs
    exact False.elim q
  | cont =>
    obtain ⟨_, _, _, q⟩ := hs
    exact False.elim q
end L2

namespace L2
open PySem PySem.Spec PyProof.Rows
section
variable {X : Cx} {x : Str} {p pos : Pos} {e : Expr} {es : List Expr} {t : TA} {id T : String} {r : List V → Hp → VK → Prop}

noncomputable def tCB (r : List V → Hp → VK → Prop) (t : TA) : TE := fun σ H Q => t σ H fun vs H1 => r vs H1 Q
theorem pe_callB (hc : CallR X (.builtin id) r) (hg : Gl X x) (hm : X.mg x = none) (hv : bootBuiltins x = some (.builtin id)) (ha : PA X (e :: es) t) (hn : x ≠ "__name__" := by decide) (hdb : (x == ("__debug__" : Str)) = false := by decide)
    (he : starEach (e :: es) X.env = (false, eval e X.env) :: starEach es X.env := by rfl) (hpl : (backTo pos (starEach es X.env)).any (·.1) = false := by rfl) : PE X (.Call (.Name x p) (e :: es) [] pos) (tCB r t) := by
  intro pins s σ H Q I h
  refine wpAny_Call_Name_kw (ld_blt I hg hm hv ?_ hn hdb)
  exact PyProof.Rows.callWith_builtin1 (thn (ha pos pins s σ H _ I h) fun us s1 ⟨vs, H1, I1, r1, q1⟩ => hc pins s1 σ H1 vs us Q I1 r1 q1) he hpl
theorem pe_callTy (hc : CallR X (.type T) r) (hg : Gl X x) (hm : X.mg x = none) (hv : bootBuiltins x = some (.type T)) (ha : PA X (e :: es) t) (hn : x ≠ "__name__" := by decide) (hdb : (x == ("__debug__" : Str)) = false := by decide)
    (he : starEach (e :: es) X.env = (false, eval e X.env) :: starEach es X.env := by rfl) (hpl : (backTo pos (starEach es X.env)).any (·.1) = false := by rfl) : PE X (.Call (.Name x p) (e :: es) [] pos) (tCB r t) := by
  intro pins s σ H Q I h
  refine wpAny_Call_Name_kw (ld_blt I hg hm hv ?_ hn hdb)
  exact PyProof.Rows.callWith_type1 (thn (ha pos pins s σ H _ I h) fun us s1 ⟨vs, H1, I1, r1, q1⟩ => hc pins s1 σ H1 vs us Q I1 r1 q1) he hpl
end
end L2

namespace HT
open PySem PyProof.Rows

noncomputable def lexLt : List Int → List Int → Bool
  | [], [] => false
  | [], _ :: _ => true
  | _ :: _, [] => false
  | x :: xs, y :: ys => if x = y then lexLt xs ys else decide (x < y)
theorem rcLt_int (A : Around) (s : Shared) (a : Int) (t : Tok) (c : Int) (u : Tok) (prog : Program) (w : World) (E : Value → Shared → Prop) (Q : Value → Shared → Prop) (h : Q (.bool (decide (a < c))) s) :
    wpAny (model prog w) A (richCompare .Lt (.int a t) (.int c u)) Q E s :=
  (PyProof.Rows.lt_int h : wpAny (model prog w) A (compareOp .Lt (.int a t) (.int c u)) Q E s)

section
open PySem.SeqAt
open PySem.AutoSeq1 (wpAny_loadPart')
open PySem.MeetsSeq PySem.MeetsSeq2 PySem.MeetsSeq3

end

section
variable {prog : Program} {w : World} {A : Around} {E : Value → Shared → Prop} {s : Shared}

theorem cat_tup {t b : Addr} {vs ws : List Value} {Q : Value → Shared → Prop} (ht : IsTup s.heap t vs.toArray) (hb : IsTup s.heap b ws.toArray) (hv : vs ≠ [])
    (h1 : ws = [] → Q (.ref t) s) (h2 : ws ≠ [] → Q (.ref s.heap.objs.size) { s with heap := s.heap.push { cls := .type "tuple", data := .seq (vs ++ ws).toArray } })
    (hsz : vs.length + ws.length ≤ sizeLine) : wpAny (model prog w) A (binaryOp .Add (.ref t) (.ref b)) Q E s := by
  obtain ⟨⟨cls, dd, data, sl⟩, ho, hc, n, hd⟩ := id ht
  obtain ⟨⟨cls2, dd2, data2, sl2⟩, ho2, hc2, n2, hd2⟩ := id hb
  simp only at hc hd hc2 hd2
  subst hc hd hc2 hd2
  have e : vs.toArray ++ ws.toArray = (vs ++ ws).toArray := by simp
  by_cases hw : ws = []
  · exact concat_meets ⟨_, ho, rfl⟩ ⟨_, ho2, rfl⟩ noFill_tuple_add seq_tuple_add PySem.F.slot_tuple_add PySem.F.entry_tuple_add (PySem.F.args_tuple_add_2 _ _)
      (tuple_addW1 t b vs.toArray ws.toArray n n2 dd dd2 sl sl2 (by simpa using hv) (by simp [hw])) ⟨ho, ho2, h1 hw⟩
  · refine concat_meets ⟨_, ho, rfl⟩ ⟨_, ho2, rfl⟩ noFill_tuple_add seq_tuple_add PySem.F.slot_tuple_add PySem.F.entry_tuple_add (PySem.F.args_tuple_add_2 _ _)
      (tuple_addW2 t b vs.toArray ws.toArray n n2 dd dd2 sl sl2 (by simpa using hv) (by simpa using hw) (by rw [List.size_toArray, List.size_toArray]; exact hsz)) ⟨ho, ho2, ?_⟩
    rw [e]
    exact h2 hw

noncomputable def sIx (n d : Nat) : Option Int → Nat
  | none => d
  | some v => if v < 0 then (v + (n : Int)).toNat else min v.toNat n
end
end HT

namespace L2
open PySem PySem.Spec PyProof.Rows

noncomputable abbrev TO := St → Hp → (Option Int → Hp → Prop) → Prop
noncomputable def PO (X : Cx) (e : Option Expr) (t : TO) : Prop :=
  ∀ (pins : List (Addr × Obj)) (s : Shared) (σ : St) (H : Hp) (Q : Option Int → Hp → Prop), Inv X pins σ H s → t σ H Q →
    wpAny (model X.prog X.w) X.A (evalPart e X.env) (fun u s' => ∃ o H', Inv X pins σ H' s' ∧ IsPart u o ∧ Q o H') X.xe s
noncomputable def tPart (t : TE) : TO := fun σ H Q => t σ H fun x H1 => ∃ i, x = .int i ∧ Q (some i) H1

theorem intsAre_of {ns : List Int} : ∀ {us : List Value}, Vals (ns.map V.int) us → IntsAre us ns := by
  induction ns with
  | nil => intro us r; rw [List.map_nil] at r; cases r; exact .nil
  | cons n ns ih =>
    intro us r
    rw [List.map_cons] at r
    cases r with
    | cons r1 r2 =>
      obtain ⟨t, e⟩ := r1
      subst e
      exact .cons n t (ih r2)

section
variable {X : Cx} {e : Expr} {te : TE} {lo hi : Option Expr} {tl th : TO} {pos p2 : Pos}

theorem po_some (h : PE X e te) : PO X (some e) (tPart te) := by
  intro pins s σ H Q I hw
  rw [evalPart_some]
  refine thn (h pins s σ H _ I hw) fun u s1 qZ => ?_
  obtain ⟨x, H1, I1, r1, q1⟩ := qZ
  obtain ⟨i, rfl, q⟩ := q1
  obtain ⟨t, rfl⟩ := r1
  exact ⟨some i, H1, I1, .int i t, q⟩

noncomputable def SlR (X : Cx) (r : V → Option Int → Option Int → Hp → VK → Prop) : Prop :=
  ∀ (pins : List (Addr × Obj)) (s : Shared) (σ : St) (H : Hp) (x : V) (v vl vu : Value) (lo hi : Option Int) (sl : Addr) (Q : VK), Inv X pins σ H s → RelV x v → s.heap.IsSliceOf sl vl vu .none → IsPart vl lo → IsPart vu hi → r x lo hi H Q →
    ∃ T id, typeLookup (.type T) "__getitem__" = pure (some (.builtin id)) ∧ s.TypeIs v T ∧ wpAny (model X.prog X.w) X.A (getItem v (.ref sl)) (EP X pins σ Q) X.xe s
theorem SlR.or {r r' : V → Option Int → Option Int → Hp → VK → Prop} (h : SlR X r) (h' : SlR X r') : SlR X (fun x lo hi H Q => r x lo hi H Q ∨ r' x lo hi H Q) := by
  intro pins s σ H x v vl vu lo hi sl Q I rx hs pl pu q
  rcases q with q | q
  · exact h pins s σ H x v vl vu lo hi sl Q I rx hs pl pu q
  · exact h' pins s σ H x v vl vu lo hi sl Q I rx hs pl pu q
noncomputable def tSl (r : V → Option Int → Option Int → Hp → VK → Prop) (te : TE) (tl th : TO) : TE := fun σ H Q => te σ H fun x H1 => tl σ H1 fun l H2 => th σ H2 fun u H3 => r x l u H3 Q
theorem pe_slice {r : V → Option Int → Option Int → Hp → VK → Prop} (hr : SlR X r) (he : PE X e te) (hl : PO X lo tl) (hu : PO X hi th) : PE X (.Subscript e (.Slice lo hi none p2) pos) (tSl r te tl th) := by
  intro pins s σ H Q I h
  refine Subscript_ (thn (he pins s σ H _ I h) fun v s1 qZ => ?_)
  obtain ⟨x, H1, I1, r1, q1⟩ := qZ
  refine wpAny_Slice (thn (hl pins s1 σ H1 _ I1 q1) fun vl s2 ⟨l, H2, I2, pl, q2⟩ => thn (hu pins s2 σ H2 _ I2 q2) fun vu s3 qZ => ?_)
  obtain ⟨u, H3, I3, pu, q3⟩ := qZ
  rw [evalPart_none]
  refine wpAny_pure ?_
  have I4 : Inv X pins σ H3 { s3 with heap := s3.heap.push { cls := .type "slice", data := .fields #[vl, vu, .none] } } := I3.kept (t' := s3.toks) fun b ob q => Heap.get?_push_of_some _ q
  obtain ⟨T, id, hT, ht, hg⟩ := hr pins { s3 with heap := s3.heap.push { cls := .type "slice", data := .fields #[vl, vu, .none] } } σ H3 x v vl vu l u s3.heap.objs.size Q I4 r1 (Heap.IsSliceOf.new ..) pl pu q3
  show wpAny (model X.prog X.w) X.A (subscriptTail e (.Slice lo hi none p2) v (.ref s3.heap.objs.size)) (EP X pins σ Q) X.xe { s3 with heap := s3.heap.push { cls := .type "slice", data := .fields #[vl, vu, .none] } }
  exact tail_any (ops := [.ref s3.heap.objs.size, v]) ht hT hg (by with_unfolding_all rfl)

noncomputable def cutV (xs : List V) (lo hi : Option Int) : List V := (xs.drop (HT.sIx xs.length 0 lo)).take (HT.sIx xs.length xs.length hi - HT.sIx xs.length 0 lo)
theorem cutV_length (xs : List V) (lo hi : Option Int) : (cutV xs lo hi).length ≤ xs.length := by
  unfold cutV
  rw [List.length_take, List.length_drop]
  omega
noncomputable def rCatT (K : PySem.W.Frag) : R2 := fun x y H Q => ∃ a b xs ys, x = .ref a ∧ y = .ref b ∧ SqT K H a xs ∧ SqT K H b ys ∧ xs ≠ [] ∧ xs.length + ys.length ≤ sizeLine ∧
  (ys = [] → Q (.ref a) H) ∧ (ys ≠ [] → ∀ p, H p = none → Q (.ref p) (upd H p (.tup (xs ++ ys))))
theorem Vals.nil_iff {xs : List V} {us : List Value} (r : Vals xs us) : us = [] ↔ xs = [] := by
  cases r with
  | nil => simp
  | cons _ _ => simp
theorem op_catT : OpR X (binaryOp .Add) (rCatT X.K) := by
  intro pins s σ H x y v u Q I rx ry h
  obtain ⟨a, b, xs, ys, rfl, rfl, ha, hb, hx, hz, q1, q2⟩ := h
  cases rx
  cases ry
  obtain ⟨its, r1, p1, _⟩ := I.tuple ha
  obtain ⟨its2, r2, p2, _⟩ := I.tuple hb
  refine HT.cat_tup p1 p2 (fun z => hx (r1.nil_iff.mp z)) (fun z => ⟨.ref a, H, I, rfl, q1 (r2.nil_iff.mp z)⟩) (fun z => ?_) (by rw [← r1.length, ← r2.length]; exact hz)
  refine ⟨.ref s.heap.objs.size, _, I.laid (t' := s.toks) (o := .tup (xs ++ ys)) (fun b ob q => Heap.get?_push_of_some _ q) (Nat.le_refl _) ?_, rfl, q2 (fun w => z (r2.nil_iff.mpr w)) _ (I.hok.fresh (Nat.le_refl _))⟩
  exact ⟨by rw [List.length_append]; exact hz, _, r1.append r2, IsTup.new _ _⟩
end
end L2

namespace L2
open PySem PySem.Spec PyProof.Rows

noncomputable def ixN (n : Nat) (i : Int) : Option Nat := if 0 ≤ i then (if i < n then some i.toNat else none) else if -(n : Int) ≤ i then some (i + n).toNat else none
noncomputable def atI {α : Type} (xs : List α) (i : Int) : Option α := (ixN xs.length i).bind fun j => xs[j]?
theorem ixN_seq {n : Nat} {i : Int} {j : Nat} (h : ixN n i = some j) : seqIndex? i n = some j ∧ j < n ∧ -(n : Int) ≤ i ∧ i < n := by
  unfold ixN at h
  by_cases h0 : 0 ≤ i
  · rw [if_pos h0] at h
    by_cases h1 : i < n
    · rw [if_pos h1] at h
      have e : i.toNat = j := Option.some.inj h
      exact ⟨by rw [seqIndex_of h0 h1, e], by omega, by omega, h1⟩
    · rw [if_neg h1] at h; cases h
  · rw [if_neg h0] at h
    by_cases h1 : -(n : Int) ≤ i
    · rw [if_pos h1] at h
      have e : (i + n).toNat = j := Option.some.inj h
      exact ⟨by rw [seqIndex_neg (by omega) h1, e], by omega, h1, by omega⟩
    · rw [if_neg h1] at h; cases h
theorem atI_get {α : Type} {xs : List α} {i : Int} {v : α} (h : atI xs i = some v) : ∃ j, seqIndex? i xs.length = some j ∧ xs[j]? = some v ∧ j < xs.length ∧ -(xs.length : Int) ≤ i ∧ i < xs.length := by
  unfold atI at h
  cases e : ixN xs.length i with
  | none => rw [e] at h; cases h
  | some j =>
    rw [e] at h
    obtain ⟨h1, h2, h3, h4⟩ := ixN_seq e
    exact ⟨j, h1, h, h2, h3, h4⟩
theorem atI_nat {α : Type} {xs : List α} {j : Nat} {v : α} (h : xs[j]? = some v) : atI xs (j : Int) = some v := by
  have hj : j < xs.length := (List.getElem?_eq_some_iff.mp h).1
  have e : ixN xs.length (j : Int) = some j := by
    unfold ixN
    rw [if_pos (by omega), if_pos (by omega)]; simp
  unfold atI; rw [e]; exact h
noncomputable def PlainIx (b : Expr) : Prop := ∀ o i, subscripted b false o i = operate [o, i] (getItem o i)
noncomputable def IxR (X : Cx) (r : R2) : Prop :=
  ∀ (value slice : Expr) (pins : List (Addr × Obj)) (s : Shared) (σ : St) (H : Hp) (x y : V) (v u : Value) (Q : VK), Inv X pins σ H s → RelV x v → RelV y u → r x y H Q →
    subscripted slice false v u = operate [v, u] (getItem v u) → wpAny (model X.prog X.w) X.A (subscriptTail value slice v u) (EP X pins σ Q) X.xe s
noncomputable def MtR (X : Cx) (id : String) (r : V → List V → Hp → VK → Prop) : Prop :=
  ∀ (pins : List (Addr × Obj)) (s : Shared) (σ : St) (H : Hp) (x : V) (xs : List V) (v : Value) (us : List Value) (Q : VK), Inv X pins σ H s → RelV x v → Vals xs us → r x xs H Q →
    wpAny (model X.prog X.w) X.A (call (.builtin id) (v :: us)) (EP X pins σ Q) X.xe s
section
variable {X : Cx} {a b : Expr} {ta tb : TE} {pos : Pos}
theorem IxR.or {r r' : R2} (h : IxR X r) (h' : IxR X r') : IxR X (fun x y H Q => r x y H Q ∨ r' x y H Q) := by
  intro value slice pins s σ H x y v u Q I rx ry q hs
  rcases q with q | q
  · exact h value slice pins s σ H x y v u Q I rx ry q hs
  · exact h' value slice pins s σ H x y v u Q I rx ry q hs
theorem MtR.or {id : String} {r r' : V → List V → Hp → VK → Prop} (h : MtR X id r) (h' : MtR X id r') : MtR X id (fun x xs H Q => r x xs H Q ∨ r' x xs H Q) := by
  intro pins s σ H x xs v us Q I rx rs q
  rcases q with q | q
  · exact h pins s σ H x xs v us Q I rx rs q
  · exact h' pins s σ H x xs v us Q I rx rs q
theorem pe_ix {r : R2} (hr : IxR X r) (ha : PE X a ta) (hb : PE X b tb) (hs : PlainIx b) : PE X (.Subscript a b pos) (tOp r ta tb) := by
  intro pins s σ H Q I h
  exact Subscript_ (binT ha hb I h fun v u s2 x y H2 I2 rx ry q => hr a b pins s2 σ H2 x y v u Q I2 rx ry q (hs _ _))

noncomputable def rIxL (K : PySem.W.Frag) : R2 := fun x y H Q => ∃ p xs i v, x = .ref p ∧ y = .int i ∧ SqL K H p xs ∧ atI xs i = some v ∧ Q v H
noncomputable def rIxT (K : PySem.W.Frag) : R2 := fun x y H Q => ∃ p xs i v, x = .ref p ∧ y = .int i ∧ SqT K H p xs ∧ atI xs i = some v ∧ Q v H
theorem ix_list : IxR X (rIxL X.K) := by
  intro value slice pins s σ H x y v u Q I rx ry h hs
  obtain ⟨p, xs, i, z, rfl, rfl, hq, he, q⟩ := h
  cases rx
  obtain ⟨t, rfl⟩ := ry
  obtain ⟨its, r, pl, hz⟩ := I.list hq
  obtain ⟨j, h1, h2, h3, h4, h5⟩ := atI_get he
  obtain ⟨w, ew, rw'⟩ := r.get h2
  have hl := r.length
  have hn := line63
  have fin : EP X pins σ Q w s := ⟨z, H, I, rw', q⟩
  by_cases h0 : 0 ≤ i
  · have hj : i.toNat = j := by
      rw [seqIndex_of h0 h5] at h1
      exact Option.some.inj h1
    exact item_listR pl.isList h0 (by omega) (by rw [hj]; simpa using ew) fin hs
  · have hj : (i + (its.toArray.size : Int)).toNat = j := by
      rw [seqIndex_neg (by omega) h4] at h1
      rw [List.size_toArray, ← hl]
      exact Option.some.inj h1
    exact subscriptTail_builtinR (x := w) pl.isList.typeIs slot_list_getitem.lookup
      (wpAny_getItem_list_neg (Q := fun r s' => r = w ∧ EP X pins σ Q r s') pl.isList (by omega) (by rw [List.size_toArray] <;> omega) (by omega) (by rw [hj]; simpa using ew) ⟨rfl, fin⟩) hs
theorem ix_tup : IxR X (rIxT X.K) := by
  intro value slice pins s σ H x y v u Q I rx ry h hs
  obtain ⟨p, xs, i, z, rfl, rfl, hq, he, q⟩ := h
  cases rx
  obtain ⟨t, rfl⟩ := ry
  obtain ⟨its, r, pl, hz⟩ := I.tuple hq
  obtain ⟨j, h1, h2, h3, h4, h5⟩ := atI_get he
  obtain ⟨w, ew, rw'⟩ := r.get h2
  have hl := r.length
  have hn := line63
  have fin : EP X pins σ Q w s := ⟨z, H, I, rw', q⟩
  exact subscriptTail_builtinR (x := w) pl.typeIs slot_tuple_getitem.lookup
    (getItem_tuple (j := j) (Q := fun r s' => r = w ∧ EP X pins σ Q r s') pl (by omega) (by omega) (by rw [List.size_toArray, ← hl]; exact h1) (by simpa using ew) ⟨rfl, fin⟩) hs
theorem mapSeq_set (its : List Value) (n j : Nat) (u : Value) : Obj.mapSeq (·.setIfInBounds j u) { cls := .type "list", data := .seq its.toArray n } = { cls := .type "list", data := .seq (its.set j u).toArray n } := by
  simp [Obj.mapSeq]
theorem Inv.lst {pins : List (Addr × Obj)} {σ : St} {H : Hp} {s : Shared} {p : Addr} {xs : List V} (I : Inv X pins σ H s) (h : H p = some (.lst xs)) :
    ∃ (its : List Value) (n : Nat), Vals xs its ∧ s.heap.get? p = some { cls := .type "list", data := .seq its.toArray n } ∧ xs.length ≤ sizeLine := by
  obtain ⟨z, its, n, r, e⟩ := I.hok p _ h
  exact ⟨its, n, r, e, z⟩
theorem Inv.lstUpd {pins : List (Addr × Obj)} {σ : St} {H : Hp} {s : Shared} {p : Addr} {xs ys : List V} {its its' : List Value} {n n' : Nat} {f : Obj → Obj} (I : Inv X pins σ H s) (h : H p = some (.lst xs))
    (ho : s.heap.get? p = some { cls := .type "list", data := .seq its.toArray n }) (hf : f { cls := .type "list", data := .seq its.toArray n } = { cls := .type "list", data := .seq its'.toArray n' }) (r : Vals ys its') (hz : ys.length ≤ sizeLine) (t : Nat) :
    Inv X pins σ (upd H p (.lst ys)) { s with heap := s.heap.update p f, toks := t } := by
  have e : (s.heap.update p f).get? p = some { cls := .type "list", data := .seq its'.toArray n' } := by
    rw [Heap.get?_update_self f ho (by rw [hf] <;> rfl), hf]
  refine I.write (x := p) (e := p) (by rw [h]; trivial) (.inl rfl) (fun b u hb q => (Heap.get?_update_other _ _ (Ne.symm hb)).trans q) ⟨_, e⟩ ?_
  exact ⟨hz, its', n', r, e⟩
noncomputable def rSetL : V → V → V → Hp → (Hp → Prop) → Prop := fun o i v H Q => ∃ p xs k j, o = .ref p ∧ i = .int k ∧ H p = some (.lst xs) ∧ ixN xs.length k = some j ∧ Q (upd H p (.lst (xs.set j v)))
theorem set_list : PSet X rSetL := by
  intro pins s σ H o i v ov iv u Q I ro ri rv h
  obtain ⟨p, xs, k, j, rfl, rfl, hp, hj, q⟩ := h
  cases ro
  obtain ⟨t, rfl⟩ := ri
  obtain ⟨its, n, r, ho, hz⟩ := I.lst hp
  obtain ⟨h1, h2, h3, h4⟩ := ixN_seq hj
  have hl := r.length
  have hn := line63
  have I' : Inv X pins σ (upd H p (.lst (xs.set j v))) { s with heap := s.heap.update p (Obj.mapSeq (·.setIfInBounds j u)) } :=
    I.lstUpd hp ho (mapSeq_set its n j u) (r.set rv j) (by rw [List.length_set]; exact hz) s.toks
  by_cases h0 : 0 ≤ k
  · have hk : k.toNat = j := by
      rw [seqIndex_of h0 h4] at h1
      exact Option.some.inj h1
    exact PySem.W.ki_setAt ho h0 (by omega) (by rw [List.size_toArray, ← hl]; exact h4) (by rw [hk]; exact ⟨_, I', q⟩)
  · have hk : (k + (its.toArray.size : Int)).toNat = j := by
      rw [seqIndex_neg (by omega) h3] at h1
      rw [List.size_toArray, ← hl]
      exact Option.some.inj h1
    exact PySem.W.ki_setBack ho (by omega) (by rw [List.size_toArray, ← hl]; exact h3) (by omega) (by rw [hk]; exact ⟨_, I', q⟩)

theorem slice_bounds (lo hi : Option Int) (n : Nat) : (sliceBounds lo hi none n).1 = ((HT.sIx n 0 lo : Nat) : Int) ∧ (sliceBounds lo hi none n).2.1 = ((HT.sIx n n hi : Nat) : Int) ∧ (sliceBounds lo hi none n).2.2 = 1 := by
  refine ⟨?_, ?_, rfl⟩
  · cases lo with
    | none => simp [sliceBounds, HT.sIx]
    | some i =>
      simp only [sliceBounds, HT.sIx, Option.getD_none, show (1 : Int) > 0 by decide, if_true]
      by_cases h : i < 0
      · simp only [h, if_true] <;> omega
      · simp only [h, if_false] <;> omega
  · cases hi with
    | none => simp [sliceBounds, HT.sIx]
    | some i =>
      simp only [sliceBounds, HT.sIx, Option.getD_none, show (1 : Int) > 0 by decide, if_true]
      by_cases h : i < 0
      · simp only [h, if_true] <;> omega
      · simp only [h, if_false] <;> omega
theorem slicePick_cut (its : List Value) (lo hi : Option Int) : slicePick its.toArray lo hi none = ((its.drop (HT.sIx its.length 0 lo)).take (HT.sIx its.length its.length hi - HT.sIx its.length 0 lo)).toArray := by
  obtain ⟨h1, h2, h3⟩ := slice_bounds lo hi its.toArray.size
  unfold slicePick
  rw [h1, h2, h3]
  simp only [sliceRange_one, pick_run, List.size_toArray] <;> rfl
noncomputable def rSlL (K : PySem.W.Frag) : V → Option Int → Option Int → Hp → VK → Prop := fun x lo hi H Q => ∃ a xs, x = .ref a ∧ SqL K H a xs ∧ ∀ p, H p = none → Q (.ref p) (upd H p (.lst (cutV xs lo hi)))
theorem sl_list : SlR X (rSlL X.K) := by
  intro pins s σ H x v vl vu lo hi sl Q I rx hs pl pu h
  obtain ⟨a, xs, rfl, hx, q⟩ := h
  cases rx
  obtain ⟨its, r, ht, hz⟩ := I.list hx
  have hlen := r.length
  refine ⟨"list", _, slot_list_getitem.lookup, ht.isList.typeIs, ?_⟩
  refine wpAny_getItem_list_slice ht.isList hs pl pu .none (by simp) ?_ (by rw [List.size_toArray] <;> omega)
  rw [slicePick_cut, ← hlen]
  refine ⟨.ref s.heap.objs.size, _, I.laid (t' := s.toks) (o := .lst (cutV xs lo hi)) (fun b ob q => Heap.get?_push_of_some _ q) (Nat.le_refl _) ?_, rfl, q _ (I.hok.fresh (Nat.le_refl _))⟩
  exact ⟨Nat.le_trans (cutV_length xs lo hi) hz, _, 0, (r.drop (HT.sIx xs.length 0 lo)).take (HT.sIx xs.length xs.length hi - HT.sIx xs.length 0 lo), Heap.get?_push_size _ rfl⟩

theorem call_len_seq : CallR X (.builtin "len") (fun xs H Q => ∃ p ys, xs = [.ref p] ∧ (SqL X.K H p ys ∨ SqT X.K H p ys) ∧ Q (.int ys.length) H) := by
  intro pins s σ H xs us Q I r h
  obtain ⟨p, ys, rfl, hq, q⟩ := h
  obtain ⟨u, rfl, rx⟩ := vals1 r
  cases rx
  have hn := line63
  rcases hq with hq | hq
  · obtain ⟨its, r', pl, hz⟩ := I.list hq
    have hlen := r'.length
    exact Calls.call_len_list pl.isList (by simp only [List.size_toArray] <;> omega) ⟨.int ys.length, H, I.tok _, ⟨s.toks + 1, by rw [List.size_toArray, hlen]⟩, q⟩
  · obtain ⟨its, r', pl, hz⟩ := I.tuple hq
    have hlen := r'.length
    exact len_tuple pl (by simp only [List.size_toArray] <;> omega) ⟨.int ys.length, H, I.tok _, ⟨s.toks + 1, by rw [List.size_toArray, hlen]⟩, q⟩
theorem CallR.or {f : Value} {r r' : List V → Hp → VK → Prop} (h : CallR X f r) (h' : CallR X f r') : CallR X f (fun xs H Q => r xs H Q ∨ r' xs H Q) := by
  intro pins s σ H xs us Q I rs q
  rcases q with q | q
  · exact h pins s σ H xs us Q I rs q
  · exact h' pins s σ H xs us Q I rs q
theorem call_list_of : CallR X (.type "list") (fun xs H Q => ∃ p ys, xs = [.ref p] ∧ (SqL X.K H p ys ∨ SqT X.K H p ys) ∧ ∀ l, H l = none → Q (.ref l) (upd H l (.lst ys))) := by
  intro pins s σ H xs us Q I r h
  obtain ⟨p, ys, rfl, hq, q⟩ := h
  obtain ⟨u, rfl, rx⟩ := vals1 r
  cases rx
  have fin : ∀ (its : List Value), Vals ys its → ys.length ≤ sizeLine → ∀ (h' : Heap) (c' : Nat), (∀ b o', s.heap.get? b = some o' → h'.get? b = some o') →
      h'.get? s.heap.objs.size = some { cls := .type "list", dict := none, data := .seq its.toArray c', slots := #[] } → EP X pins σ Q (.ref s.heap.objs.size) { s with heap := h' } := fun its r' hz h' c' kp e =>
    ⟨.ref s.heap.objs.size, _, I.laid (t' := s.toks) kp (Nat.le_refl _) (show ObjOk X.prog X.w _ h' _ (.lst ys) from ⟨hz, its, c', r', e⟩), rfl, q _ (I.hok.fresh (Nat.le_refl _))⟩
  rcases hq with hq | hq
  · obtain ⟨its, r', pl, hz⟩ := I.list hq
    have hlen := r'.length
    obtain ⟨o, ho, hc, n, hd⟩ := pl.isList
    exact call_list_seq p (.inl rfl) ho hc hd (fun h' c' kp e => fin its r' hz h' c' kp e) (by simp only [List.size_toArray] <;> omega)
  · obtain ⟨its, r', pl, hz⟩ := I.tuple hq
    have hlen := r'.length
    obtain ⟨o, ho, hc, n, hd⟩ := pl
    exact call_list_seq p (.inr rfl) ho hc hd (fun h' c' kp e => fin its r' hz h' c' kp e) (by simp only [List.size_toArray] <;> omega)
theorem call_tuple_of : CallR X (.type "tuple") (fun xs H Q => ∃ p ys, xs = [.ref p] ∧ ((SqL X.K H p ys ∧ ∀ l, H l = none → Q (.ref l) (upd H l (.tup ys))) ∨ (SqT X.K H p ys ∧ Q (.ref p) H))) := by
  intro pins s σ H xs us Q I r h
  obtain ⟨p, ys, rfl, h⟩ := h
  obtain ⟨u, rfl, rx⟩ := vals1 r
  cases rx
  rcases h with ⟨hq, q⟩ | ⟨hq, q⟩
  · obtain ⟨its, r', pl, hz⟩ := I.list hq
    have hlen := r'.length
    refine call_tuple_list pl.isList (fun h' kp => ?_) (by simp only [List.size_toArray] <;> omega)
    have I1 : Inv X pins σ H { s with heap := h' } := I.kept (t' := s.toks) kp
    have I2 : Inv X pins σ (upd H h'.objs.size (.tup ys)) { s with heap := h'.push { cls := .type "tuple", data := .seq its.toArray } } :=
      I1.laid (t' := s.toks) (fun b o e => Heap.get?_push_of_some _ e) (Nat.le_refl _) (show ObjOk X.prog X.w _ _ _ (.tup ys) from ⟨hz, its, r', IsTup.new _ _⟩)
    exact ⟨.ref h'.objs.size, _, I2, rfl, q _ (I1.hok.fresh (Nat.le_refl _))⟩
  · obtain ⟨its, r', pl, hz⟩ := I.tuple hq
    exact call_tuple_same pl ⟨.ref p, H, I, rfl, q⟩

noncomputable def tyV (K : PySem.W.Frag) (T : String) (x : V) (H : Hp) : Prop := match x with
  | .str _ => T = "str"
  | .int _ => T = "int"
  | .ref p => (T = "list" ∧ ∃ xs, SqL K H p xs) ∨ (T = "tuple" ∧ ∃ o, K.lookup p = some o ∧ o.cls = .type "tuple" ∧ o.dict = none) ∨
      (T = "dict" ∧ ((∃ kvs, H p = some (.dK kvs)) ∨ ∃ kvs, H p = some (.dT kvs))) ∨ (T = "set" ∧ ∃ S n, H p = some (.set S n))
  | _ => False
theorem tyV_is {pins : List (Addr × Obj)} {σ : St} {H : Hp} {s : Shared} {T : String} {x : V} {v : Value} (I : Inv X pins σ H s) (r : RelV x v) (ty : tyV X.K T x H) :
    s.TypeIs v T ∧ ∀ a, v = .ref a → ∃ ob, s.heap.get? a = some ob ∧ ob.dict = none := by
  cases x with
  | str z =>
    obtain ⟨t, rfl⟩ := r
    cases (show T = "str" from ty)
    exact ⟨typeIs_str s z t, fun _ e => by cases e⟩
  | int i =>
    obtain ⟨t, rfl⟩ := r
    cases (show T = "int" from ty)
    exact ⟨typeIs_int s i t, fun _ e => by cases e⟩
  | ref p =>
    cases r
    rcases ty with ⟨rfl, xs, hq⟩ | ⟨rfl, o, hk, hc, hd⟩ | ⟨rfl, hk⟩ | ⟨rfl, S, n, hk⟩
    · obtain ⟨its, _, pl, _⟩ := I.list hq
      refine ⟨pl.isList.typeIs, fun a e => ?_⟩
      cases e
      obtain ⟨o, n, e, c, hd, _⟩ := pl
      exact ⟨o, e, hd⟩
    · refine ⟨⟨o, I.kIn p o hk, hc⟩, fun a e => ?_⟩
      cases e
      exact ⟨o, I.kIn _ o hk, hd⟩
    · have z : ∃ o, s.heap.get? p = some o ∧ o.ExactDict := by
        rcases hk with ⟨kvs, hk⟩ | ⟨kvs, hk⟩
        · obtain ⟨_, _, _, _, o, _, _, e, ex, _⟩ := I.hok p _ hk
          exact ⟨o, e, ex⟩
        · obtain ⟨_, _, _, _, o, _, _, e, ex, _⟩ := I.hok p _ hk
          exact ⟨o, e, ex⟩
      obtain ⟨o, e, ex⟩ := z
      refine ⟨⟨o, e, ex.1⟩, fun a e2 => ?_⟩
      cases e2
      exact ⟨o, e, ex.2.1⟩
    · obtain ⟨o, _, _, _, e, ex, _⟩ := I.hok p _ hk
      refine ⟨⟨o, e, ex.1⟩, fun a e2 => ?_⟩
      cases e2
      exact ⟨o, e, ex.2.1⟩
  | _ => exact False.elim ty
noncomputable def tBM (K : PySem.W.Frag) (T : String) (r : V → List V → Hp → VK → Prop) (to : TE) (t : TA) : TE := fun σ H Q => to σ H fun x H1 => tyV K T x H1 ∧ t σ H1 fun xs H2 => r x xs H2 Q
variable {o e : Expr} {es : List Expr} {to : TE} {t : TA} {name : Str} {apos cpos : Pos} {T id : String} {r : V → List V → Hp → VK → Prop}
theorem pe_bm (pa : PlainAttrs T) (slot : Slot T name id) (hty : typeOf (.builtin id) = pure (.type "method_descriptor")) (hm : MtR X id r) (ho : PE X o to) (ha : PA X (e :: es) t)
    (hbase : attributeBase o name X.env (eval o X.env) = eval o X.env := by rfl)
    (hfew : ((backTo cpos (starEach (e :: es) X.env)).all (fun x => !x.1) && (backToKw cpos (keywordEach [] X.env)).all (fun x => x.1.isSome)
      && decide ((e :: es).length + ([] : List Keyword).length + (if ([] : List Keyword).isEmpty then 0 else 1) < 30)) = true := by rfl)
    (hline : (apos.endLine == cpos.line) = true := by rfl) (hs : starEach (e :: es) X.env = (false, eval e X.env) :: starEach es X.env := by rfl) (hplain : (backTo cpos (starEach es X.env)).any (·.1) = false := by rfl) :
    PE X (.Call (.Attribute o name apos) (e :: es) [] cpos) (tBM X.K T r to t) := by
  intro pins s σ H Q I h
  refine wpAny_Call_method_late hbase hfew hline rfl (thn (ho pins s σ H _ I h) fun v s1 qZ => ?_)
  obtain ⟨x, H1, I1, r1, ty, q1⟩ := qZ
  obtain ⟨h1, h2⟩ := tyV_is I1 r1 ty
  refine ⟨T, id, pa, slot, hty, h1, h2, ?_⟩
  have hA := ha cpos pins s1 σ H1 _ I1 q1
  rw [hs] at hA ⊢
  refine Calls.callWith_builtin (by show (false || (backTo cpos (starEach es X.env)).any (·.1)) = false; rw [hplain] <;> rfl) (Calls.evalArgs_plain ?_)
  exact thn hA fun us s2 ⟨vs, H2, I2, r2, q2⟩ => hm pins s2 σ H2 x vs v us Q I2 r1 r2 q2
/- xs.append(e), list.index on a module's tuple .. are MtR facts of 06m -/
end
end L2

namespace L2
open PySem PySem.Spec PyProof.Rows

noncomputable def MtM (X : Cx) (id : String) (r : V → List V → Hp → VK → Prop) : Prop :=
  ∀ (pins : List (Addr × Obj)) (s : Shared) (σ : St) (H : Hp) (x : V) (xs : List V) (v : Value) (us : List Value) (Q : VK), Inv X pins σ H s → RelV x v → Vals xs us → r x xs H Q →
    wpAny (model X.prog X.w) X.A (call (.builtin id) (v :: us)) (EP X pins σ Q) X.xe s

theorem Vals.one : ∀ {x : V} {us : List Value}, Vals [x] us → ∃ u, us = [u] ∧ RelV x u
  | _, _, .cons r .nil => ⟨_, rfl, r⟩
theorem Vals.zero : ∀ {us : List Value}, Vals [] us → us = []
  | _, .nil => rfl
theorem Vals.reverse {xs : List V} {us : List Value} (h : Vals xs us) : Vals xs.reverse us.reverse := by
  induction h with
  | nil => exact .nil
  | cons r t ih => rw [List.reverse_cons, List.reverse_cons]; exact Vals.append ih (.cons r .nil)
section
variable {X : Cx} {pins : List (Addr × Obj)} {σ : St} {H : Hp} {s : Shared} {l b : Addr} {xs ys zs : List V}

theorem Inv.lset {its its' : List Value} {n : Nat} {f : Array Value → Array Value} {t' : Nat} (I : Inv X pins σ H s) (hH : H l = some (.lst xs))
    (e : s.heap.get? l = some { cls := .type "list", data := .seq its.toArray n }) (hf : f its.toArray = its'.toArray) (hv : Vals ys its') (hz : ys.length ≤ sizeLine) :
    Inv X pins σ (upd H l (.lst ys)) { s with heap := s.heap.update l (Obj.mapSeq f), toks := t' } := by
  have q := PySem.IsL.update e f
  rw [hf] at q
  refine I.write (x := l) (e := l) (by rw [hH]; exact trivial) (.inl rfl) (fun b' u hb hu => (Heap.get?_update_other s.heap (Obj.mapSeq f) (Ne.symm hb)).trans hu) ⟨_, q⟩ ?_
  exact ⟨hz, its', _, hv, q⟩
theorem Inv.lnew {its : List Value} {t' : Nat} (I : Inv X pins σ H s) (hv : Vals ys its) (hz : ys.length ≤ sizeLine) :
    Inv X pins σ (upd H s.heap.objs.size (.lst ys)) { s with heap := s.heap.push { cls := .type "list", data := .seq its.toArray }, toks := t' } :=
  I.laid (fun _ _ q => Heap.get?_push_of_some _ q) (Nat.le_refl _) ⟨hz, its, 0, hv, Heap.get?_push_size _ rfl⟩
theorem Inv.fresh (I : Inv X pins σ H s) : H s.heap.objs.size = none := I.hok.fresh (Nat.le_refl _)
theorem Inv.lstM (I : Inv X pins σ H s) (hH : H l = some (.lst xs)) : xs.length ≤ sizeLine ∧ ∃ (its : List Value) (n : Nat), Vals xs its ∧ xs.length = its.length ∧ s.heap.get? l = some { cls := .type "list", data := .seq its.toArray n } := by
  obtain ⟨z, its, n, r, e⟩ := I.hok l _ hH
  exact ⟨z, its, n, r, r.length, e⟩

theorem notLongL {n : Nat} (h : n ≤ sizeLine) : Builtin.List.listTooLong n = false := by
  unfold Builtin.List.listTooLong
  exact decide_eq_false (by omega)
end

section
variable {X : Cx}

noncomputable def rAppend : V → List V → Hp → VK → Prop := fun x vs H Q => ∃ l xs y, x = .ref l ∧ vs = [y] ∧ H l = some (.lst xs) ∧ xs.length < sizeLine ∧ Q .non (upd H l (.lst (xs ++ [y])))
theorem mt_append : MtM X "list.append" rAppend := by
  intro pins s σ H x vs v us Q I rx rv h
  obtain ⟨l, xs, y, rfl, rfl, hH, hz, q⟩ := h
  cases rx
  obtain ⟨u, rfl, ru⟩ := rv.one
  obtain ⟨z, its, n, r, hl, e⟩ := I.lstM hH
  refine call_meets F.slot_list_append ⟨_, e, rfl⟩ F.entry_list_append (F.args_list_append_2 _ _) (PySem.list_append l its.toArray n u (by rw [List.size_toArray]; omega)) ⟨e, ?_⟩
  refine ⟨.non, _, I.lset (its' := its ++ [u]) hH e (by simp) (r.append (.cons ru .nil)) ?_, rfl, q⟩
  rw [List.length_append, List.length_singleton]
  omega

noncomputable def rExtend : V → List V → Hp → VK → Prop := fun x vs H Q => ∃ l b xs zs, x = .ref l ∧ vs = [.ref b] ∧ H l = some (.lst xs) ∧ H b = some (.lst zs) ∧ xs.length + zs.length ≤ sizeLine ∧ Q .non (upd H l (.lst (xs ++ zs)))
theorem mt_extend : MtM X "list.extend" rExtend := by
  intro pins s σ H x vs v us Q I rx rv h
  obtain ⟨l, b, xs, zs, rfl, rfl, hH, hB, hz, q⟩ := h
  cases rx
  obtain ⟨u, rfl, ru⟩ := rv.one
  cases ru
  obtain ⟨z, its, n, r, hl, e⟩ := I.lstM hH
  obtain ⟨z2, its2, n2, r2, hl2, e2⟩ := I.lstM hB
  have hsz : its.toArray.size + its2.toArray.size ≤ sizeLine := by rw [List.size_toArray, List.size_toArray]; omega
  have hlong : ¬ (!its.toArray.isEmpty && Builtin.List.listTooLong (its.toArray.size + its2.toArray.size)) = true := by
    rw [notLongL hsz, Bool.and_false]
    exact Bool.false_ne_true
  refine call_meets F.slot_list_extend ⟨_, e, rfl⟩ F.entry_list_extend (F.args_list_extend_2 _ _)
    (AutoSeq1.list_extend_list_list_0 l its.toArray n b its2.toArray n2 hlong (by rw [List.size_toArray]; omega) (by omega)) ⟨e, e2, ?_⟩
  refine ⟨.non, _, I.lset (its' := its ++ its2) hH e (by simp) (r.append r2) ?_, rfl, q⟩
  rw [List.length_append]
  omega

end

section
variable {prog : Program} {w : World} {A : Around} {E : Value → Shared → Prop} {s : Shared}
set_option maxRecDepth 100000 in
end

section
variable {X : Cx}
end
end L2

namespace Att
open PySem PySem.W PySem.Calls PyProof.Rows

theorem ints_of_wellAll {P : Params} {h : Heap} : ∀ (ns : List Int) (vs : List Value), WellAll P h vs (ns.map WData.int) → IntsAre vs ns := by
  intro ns
  induction ns with
  | nil =>
    intro vs w
    rw [List.map_nil] at w
    cases w
    exact .nil
  | cons n ns ih =>
    intro vs w
    rw [List.map_cons] at w
    cases w with
    | cons a b =>
      cases a
      exact .cons _ _ (ih _ b)

theorem script_of {l : OpenLaw} {n : Nat} (hn : l.most = some n) {P : Params} {h : Heap} {args : List WData} {vals : List Value}
    (hpre : l.row.toRowW.claim.pre args = true) (hwl : WellAll P h vals args) :
    ∃ a vs ns, vals = [Value.ref a] ∧ args = [WData.list (ns.map WData.int)] ∧ h.get? a = some { cls := .type "list", data := .seq vs.toArray } ∧ IntsAre vs ns ∧ ns.length ≤ n := by
  have hsh : WShape.hasAll [] args [.list .int] = true := (pre_splitW hpre).1
  have hc : l.pre.holds [] { args := args } = true := (pre_splitW hpre).2
  obtain ⟨d, r, rfl, h1, h2⟩ := hasAllW_cons hsh
  obtain rfl := hasAllW_nil h2
  obtain ⟨xs, rfl, h3⟩ := hasW_list h1
  obtain ⟨ns, rfl⟩ := items_int h3
  have hlen : ns.length ≤ n := by
    unfold OpenLaw.pre at hc
    have h4 : (WTm.not (.lt (.lit (.int (n : Int))) (.len (.arg 0)))).holds [] { args := [.list (ns.map .int)] } = true := by
      have h4 := (holds_andW hc).1
      rw [hn] at h4
      exact h4
    have h5 := condW_of h4 (w_not (w_lt w_lit (w_len_list (w_arg rfl))))
    rw [List.length_map] at h5
    refine Nat.le_of_not_lt fun q => ?_
    have q' : (n : Int) < ((ns.length : Nat) : Int) := by omega
    first
      | (rw [decide_eq_true q'] at h5; exact absurd h5 (by decide))
      | (simp at h5; omega)
  cases hwl with
  | cons w1 w2 =>
    cases w2
    cases w1 with
    | list ho hall => exact ⟨_, _, ns, rfl, rfl, ho, ints_of_wellAll ns _ hall, hlen⟩

theorem post_true (l : OpenLaw) (args : List WData) : l.row.toRowW.claim.post args (.bool true) args = true :=
  postW_of (r := l.row.toRowW) (X := (true == true))
    (show WShape.has [] (.bool true) .bool = true by first | rfl | decide | simp [WShape.has, WShape.arms, WShape.armsAll])
    (show (WTm.eq .res (.lit (.bool true))).value [] { args := args, res := some (.bool true), after := args } = some (.bool (true == true)) from w_eq_bool (w_res rfl) w_lit) rfl

theorem attach_call {l : OpenLaw} {n : Nat} {q : Program} {loose : List Str} {XP : (Str → Option Value) → Heap → Prop} {YP : World → Heap → Prop} {d : DefRec}
    (hn : l.most = some n) (hdf : d.params.defaults = [])
    (call : ∀ (w : World) (s₀ s₁ : Shared) (mg mb : Str → Option Value) (fa : Addr) (o : Obj) (pm cd doc : Value) (a : Addr) (vs : List Value) (ns : List Int),
      Ground q loose [] XP w s₀ mg mb s₁.heap → YP w s₁.heap →
      s₁.heap.get? fa = some o → o.data = .func (docDef d.name d.params d.body d.scope pm cd doc) → s₁.heap.CodeRec cd d.name → mg d.name = some (.ref fa) →
      s₁.heap.get? a = some { cls := .type "list", data := .seq vs.toArray } → IntsAre vs ns → ns.length ≤ n → s₁.gens = #[] →
      codeAny (model l.prog w) callerA (.call (.ref fa) ⟨[.ref a], []⟩) (fun r s' => r = .ok (.ret (.bool true)) ∧ OldK s₁.heap s'.heap ∧ s'.os = s₁.os ∧ AllBare s'.gens) s₁) :
    WalkO q loose XP YP l.row.toRowW d [] (fun f vs => PySem.call f vs) := by
  intro w s₀ s₁ mg mb G Y fa o pm cd doc dV kV ho hd hcd hD hmg hg args vals as hpre hlay hrd hwl hlo
  obtain rfl : dV = .none := Dflts.none hD hdf
  obtain rfl : kV = .none := Dflts.noKw hD
  obtain ⟨a, vs, ns, rfl, rfl, hobj, hints, hlen⟩ := script_of hn hpre hwl
  refine enter_call (codeAny_mono (call w s₀ s₁ mg mb fa o pm cd doc a vs ns G Y ho (fd_plain hd) hcd hmg hobj hints hlen hg) fun r s' hq => ?_)
  obtain ⟨rfl, h2, h3, h4⟩ := hq
  exact ⟨.inl ⟨.bool true, .bool true, [], rfl, fun _ => rfl, .bool true, post_true l _, fun _ => ⟨List.Pairwise.nil, fun _ hm => (by cases hm)⟩⟩, h2, h3, h4⟩

section
variable {prog : Program} {w : World} {A : Around} {E : Value → Shared → Prop} {s : Shared} {K : Frag}

end
end Att

namespace L2
open PySem PySem.Spec PyProof.Rows

theorem vals_ints : ∀ {vs : List Value} {ns : List Int}, IntsAre vs ns → Vals (ns.map V.int) vs
  | _, _, .nil => .nil
  | _, _, .cons n t h => .cons ⟨t, rfl⟩ (vals_ints h)

noncomputable def Only (H : Hp) : Prop := ∀ b, H b = none ∨ ∃ o xs, H b = some (.frz o (.lst xs))

theorem law_call {P : Program} {w : World} {K : PySem.W.Frag} {mg mb : Str → Option Value} {CX : CXT} {k : Nat} {fa a : Addr} {fd : FuncData} {x : Str} {sp : Sp} {s₁ : Shared} {vs : List Value} {ns : List Int}
    (KX : K.In s₁.heap) (hns : s₁.heap.Ns mainGlobals mg) (hb : s₁.heap.Ns builtinsNs mb) (hbb : ∀ x : Str, x ≠ "__name__" → mb x = bootBuiltins x) (hlim : s₁.heap.NoLimit) (hg : s₁.gens = #[])
    (ha : s₁.heap.get? a = some { cls := .type "list", data := .seq vs.toArray }) (hi : IntsAre vs ns) (hl : ns.length ≤ sizeLine) (hr : Room k callerA)
    (F : ∀ base : Heap, K.In base → base.Ns mainGlobals mg → FnOk P w K mg base CX k fa fd [x] sp) (hbind : ∀ (s : Shared) (u : Value), BindsTo s fd ⟨[u], []⟩ [(x, u)])
    (hsp : ∀ H : Hp, Only H → SqL K H a (ns.map V.int) → sp [.ref a] H (fun v _ => v = .bl true) fun _ _ _ => False)
    (hCX : ∀ H e s', CX [] H s₁ (fun _ _ _ => False) e s' → False) :
    codeAny (model P w) callerA (.call (.ref fa) ⟨[.ref a], []⟩) (fun r s' => r = .ok (.ret (.bool true)) ∧ OldK s₁.heap s'.heap ∧ s'.os = s₁.os ∧ AllBare s'.gens) s₁ := by
  have rv := vals_ints hi
  have lenV := hi.length
  -- from an abstract heap in which nothing but the script may be tracked
  have core : ∀ H : Hp, Only H → SqL K H a (ns.map V.int) → HOk P w H s₁.heap → (∀ b, H b ≠ none → b = a) → (H a ≠ none → K.lookup a = none) →
      codeAny (model P w) callerA (.call (.ref fa) ⟨[.ref a], []⟩) (fun r s' => r = .ok (.ret (.bool true)) ∧ OldK s₁.heap s'.heap ∧ s'.os = s₁.os ∧ AllBare s'.gens) s₁ := by
    intro H hO hS hok hA hK
    have base_of : ∀ {b : Addr} {o : Obj}, s₁.heap.get? b = some o → H b = none → (hidT s₁.heap H).get? b = some o := fun e n => hidT_get e n
    have noA : ∀ {b : Addr} {o : Obj} {es : Array DictEntry} {ep : Nat}, s₁.heap.get? b = some o → o.data = .dict es ep → H b = none := fun {b o es ep} e d => by
      cases q : H b with
      | none => rfl
      | some u =>
        have e' : b = a := hA b (by rw [q]; simp)
        subst e'
        rw [ha] at e; cases e
        have d' : Data.seq vs.toArray _ = Data.dict es ep := d
        cases d'
    have nsK : ∀ {b : Addr} {m : Str → Option Value}, s₁.heap.Ns b m → (hidT s₁.heap H).Ns b m := fun {b m} ⟨o, es, ep, e, d, r⟩ => ⟨o, es, ep, base_of e (noA e d), d, r⟩
    have hKb : K.In (hidT s₁.heap H) := fun b o e => base_of (KX b o e) (by
      cases q : H b with
      | none => rfl
      | some u =>
        have e' : b = a := hA b (by rw [q]; simp)
        subst e'
        rw [hK (by rw [q]; simp)] at e; cases e)
    have hM : Mod K mg (hidT s₁.heap H) := ⟨hKb, nsK hns, ⟨mb, nsK hb, hbb⟩, let ⟨mc, h1, h2⟩ := hlim; ⟨mc, nsK h1, h2⟩⟩
    have e0 : Env0 P w K mg (hidT s₁.heap H) callerA [] s₁ H := ⟨rfl, hM, fun b o e => of_hidT e, Nat.le_of_eq (hidT_size _ _), trivial, fun b hb => absurd (show b ∈ ([] : List Addr) from hb) (by simp), hok, .of_eq hg⟩
    refine codeAny_mono ((F _ hKb (nsK hns)).run callerA [] s₁ H ⟨[.ref a], []⟩ [.ref a] [.ref a] _ _ hr e0 (hbind s₁ (.ref a)) (.cons rfl .nil) (hsp H hO hS)) fun r s' h => ?_
    cases r with
    | error e => exact (hCX H e s' h).elim
    | ok fl =>
      cases fl with
      | next => exact False.elim h
      | brk => exact False.elim h
      | cont => exact False.elim h
      | ret u =>
        obtain ⟨v, H', os, bare, un, hok', r', q⟩ := h
        have q' : v = .bl true := q
        subst q'
        obtain rfl : u = Value.bool true := r'
        refine ⟨rfl, OldK.of_keep fun b o e => ?_, os, bare⟩
        cases q : H b with
        | none => exact un.keep b o e q (by intro z; exact absurd (show b ∈ ([] : List Addr) from z) (by simp)) (by simp)
        | some u =>
          rcases hO b with z | ⟨ob, xs, z⟩
          · rw [q] at z; cases z
          · have z2 := un.frzs b ob _ z
            obtain ⟨e1, _⟩ := hok b _ z
            obtain ⟨e2, _⟩ := hok' b _ z2
            rw [e] at e1; cases e1
            exact e2
  cases hk : K.lookup a with
  | some o =>
    -- the script is one of the module's own objects
    have e := KX a o hk
    rw [ha] at e
    cases e
    refine core (fun _ => none) (fun _ => .inl rfl) (.inr ⟨_, vs.toArray, _, hk, rfl, rfl, rfl, by rw [List.size_toArray, lenV]; exact hl, by simpa using rv⟩) (fun b u z => by have z' : (none : Option HO) = some u := z; cases z') (fun b z => absurd rfl z) fun z => absurd rfl z
  | none =>
    refine core (fun b => if b = a then some (.frz { cls := .type "list", data := .seq vs.toArray } (.lst (ns.map V.int))) else none) (fun b => ?_) (.inl (.inr ⟨{ cls := .type "list", data := .seq vs.toArray }, if_pos rfl⟩)) (fun b u z => ?_) (fun b z => ?_) fun _ => hk
    · by_cases hb : b = a
      · exact .inr ⟨_, _, if_pos hb⟩
      · exact .inl (if_neg hb)
    · by_cases hb : b = a
      · have z' := (if_pos hb).symm.trans z
        cases z'
        subst hb
        exact ⟨ha, by rw [List.length_map]; exact hl, vs, _, rv, ha⟩
      · have z' := (if_neg hb).symm.trans z
        cases z'
    · by_cases hb : b = a
      · exact hb
      · exact absurd (if_neg hb) z
end L2

namespace L2
open PySem PySem.Spec PyProof.Rows

theorem walk_of {l : PySem.W.OpenLaw} {n k : Nat} {q : Program} {loose : List Str} {XP : (Str → Option Value) → Heap → Prop} {YP : World → Heap → Prop} {d : DefRec} {K : Params → PySem.W.Frag} {CX : World → CXT} {sp : World → Sp} {x : Str}
    (hn : l.most = some n) (hn2 : n ≤ sizeLine) (hdf : d.params.defaults = []) (hr : Room k callerA)
    (hY : ∀ (w : World) (h : Heap), YP w h → (K w.params).In h)
    (F : ∀ (w : World) (mg : Str → Option Value) (fa : Addr) (h : Heap), (K w.params).In h → h.Ns mainGlobals mg → mg d.name = some (.ref fa) →
      ∃ fd : FuncData, (∀ (s : Shared) (u : Value), BindsTo s fd ⟨[u], []⟩ [(x, u)]) ∧
        ∀ base : Heap, (K w.params).In base → base.Ns mainGlobals mg → FnOk l.prog w (K w.params) mg base (CX w) k fa fd [x] (sp w))
    (hsp : ∀ (w : World) (H : Hp) (a : Addr) (ns : List Int), ns.length ≤ n → Only H → SqL (K w.params) H a (ns.map V.int) → sp w [.ref a] H (fun v _ => v = .bl true) fun _ _ _ => False)
    (hCX : ∀ (w : World) (H : Hp) (s : Shared) (e : Value) (s' : Shared), CX w [] H s (fun _ _ _ => False) e s' → False) :
    PySem.W.WalkO q loose XP YP l.row.toRowW d [] (fun f vs => PySem.call f vs) := by
  refine Att.attach_call hn hdf fun w s₀ s₁ mg mb fa o pm cd doc a vs ns G Y ho hd hcd hmg hobj hints hlen hg => ?_
  have KX := hY w _ Y
  obtain ⟨fd, hb, hF⟩ := F w mg fa _ KX G.T.g hmg
  exact law_call KX G.T.g G.T.b G.T.builtins G.T.nolimit hg hobj hints (Nat.le_trans hlen hn2) hr hF hb (fun H hO hS => hsp w H a ns hlen hO hS) fun H e s' => hCX w H s₁ e s'
end L2



namespace L2
open PySem PySem.Spec PyProof.Rows

noncomputable def defArgs (s : Stmt) : Arguments := match s with
  | .FunctionDef _ a _ _ _ _ _ _ _ _ => a
  | _ => { posonlyargs := [], args := [], vararg := none, kwonlyargs := [], kw_defaults := [], kwarg := none, defaults := [] }
noncomputable def defBody (s : Stmt) : List Stmt := match s with
  | .FunctionDef _ _ b _ _ _ _ _ _ _ => b
  | _ => []
noncomputable def defScope (s : Stmt) : Scope := match s with
  | .FunctionDef _ _ _ _ _ _ sc _ _ _ => sc
  | _ => { kind := .function, names := [], isGenerator := false, isCoroutine := false }

noncomputable abbrev CX0 : CXT := fun _ _ _ _ _ _ => False
noncomputable abbrev E0 : XK := fun _ _ _ => False
theorem pass0 {X : Cx} : Passes CX0 X E0 := fun _ _ _ _ _ _ _ h => h.elim

structure Fun (K : PySem.W.Frag) (x qual : Str) (st : Stmt) (f : Addr) (fd : FuncData) : Prop where
  ex : ∃ (oc : Value) (od : Option Addr) (kV doc pm : Value) (an : Option Addr) (cdv ct : Value) (osl : Array (Option Value)),
    fd = PySem.W.fnOf x qual (defArgs st) (defBody st) (defScope st) .none kV doc pm an cdv ct ∧ K.lookup f = some ⟨oc, od, .func fd, osl⟩ ∧ PySem.W.codeIn K cdv qual = true
  kp : PySem.W.keepIn K (.ref f) = true
section
variable {P : Program} {w : World} {K : PySem.W.Frag} {mg : Str → Option Value} {base : Heap}
theorem Fun.ok {x qual : Str} {st : Stmt} {f : Addr} {fd : FuncData} {N ps : List Str} {k : Nat} {sp : Sp} (F : Fun K x qual st f fd) (S : FnScope N ps (defScope st)) (len : ∀ vs H Q E, sp vs H Q E → vs.length = ps.length)
    (hbody : ∀ (cdv : Value) (A : Around) (outer : List Env) (s : Shared) (H : Hp) (vs : List V) (Q : VK) (E : XK), Room k (A.deeper (envOfC qual (defScope st) s.heap.objs.size f cdv)) → sp vs H Q E →
      ∃ t, PSs (cxOf CX0 P w K mg base N qual (defScope st) f cdv A outer s H E).nox (defBody st) t ∧ t { nx := fun _ H' => Q .non H', rt := Q } (start N vs) H) : FnOk P w K mg base CX0 (k + 1) f fd ps sp := by
  obtain ⟨oc, od, kV, doc, pm, an, cdv, ct, osl, rfl, lk, hcd⟩ := F.ex
  refine fn_of lk hcd S len fun A outer s H vs Q E hr hsp => ?_
  obtain ⟨t, h, q⟩ := hbody cdv A outer s H vs Q E hr hsp
  exact ⟨t, h.nox, q⟩
theorem Fun.binds {x qual : Str} {st : Stmt} {f : Addr} {fd : FuncData} {ps : List Str} (F : Fun K x qual st f fd)
    (h : ∀ (kV doc pm : Value) (an : Option Addr) (cdv ct : Value) (us : List Value), us.length = ps.length → bindArgs (PySem.W.fnOf x qual (defArgs st) (defBody st) (defScope st) .none kV doc pm an cdv ct) ⟨us, []⟩ = pure (ps.zip us)) : Binds K fd ps [] := by
  obtain ⟨oc, od, kV, doc, pm, an, cdv, ct, osl, rfl, lk, hcd⟩ := F.ex
  exact .all (h kV doc pm an cdv ct)
theorem fun_mk {x qual : Str} {st : Stmt} {f : Addr} {oc : Value} {od an : Option Addr} {osl : Array (Option Value)} {kV doc pm cdv ct : Value} (l : K.lookup f = some ⟨oc, od, .func (PySem.W.fnOf x qual (defArgs st) (defBody st) (defScope st) .none kV doc pm an cdv ct), osl⟩)
    (c : PySem.W.codeIn K cdv qual = true) (k : PySem.W.keepIn K (.ref f) = true) : Fun K x qual st f (PySem.W.fnOf x qual (defArgs st) (defBody st) (defScope st) .none kV doc pm an cdv ct) := ⟨⟨oc, od, kV, doc, pm, an, cdv, ct, osl, rfl, l, c⟩, k⟩
end
theorem small1000 {n : Nat} (h : n ≤ 1000) : n < sizeLine := Nat.lt_of_le_of_lt h (by decide)

section
variable {X : Cx}
theorem pv (i : Nat) {x : Str} {pos : Pos} (hN : X.N[i]? = some x := by rfl) (hv : Vis X.env.scope x := by first | exact Or.inl rfl | exact Or.inr (Or.inl rfl) | exact Or.inr (Or.inr rfl)) (hd : (x == ("__debug__" : Str)) = false := by decide)
    (hcd : (x == ("__classdict__" : Str)) = false := by decide) : PE X (.Name x pos) (tVar i) := pe_var hN hv hd hcd
end

noncomputable def Same (H H' : Hp) : Prop := ∀ b o, H b = some o → H' b = some o
theorem Same.refl (H : Hp) : Same H H := fun _ _ h => h
theorem Same.trans {H H1 H2 : Hp} (a : Same H H1) (b : Same H1 H2) : Same H H2 := fun c o h => b c o (a c o h)
theorem Same.free {H H' : Hp} (e : Same H H') {l : Addr} (h : H' l = Option.none) : H l = Option.none := by
  cases q : H l with
  | none => rfl
  | some o =>
    rw [e l o q] at h
    cases h
theorem Same.seq {K : PySem.W.Frag} {H H' : Hp} {a : Addr} {xs : List V} (e : Same H H') (h : SqL K H a xs) : SqL K H' a xs := by
  rcases h with (h | ⟨o, h⟩) | h
  · exact .inl (.inl (e _ _ h))
  · exact .inl (.inr ⟨o, e _ _ h⟩)
  · exact .inr h

end L2

namespace L2
open PySem PySem.Spec PyProof.Rows
section
variable {κ : Type} [DecidableEq κ]
noncomputable def valV (kvs : List (κ × V)) (k : κ) : Option V := (kvs.find? fun kv => decide (kv.1 = k)).map (·.2)
noncomputable def putK (kvs : List (κ × V)) (k : κ) (v : V) : List (κ × V) :=
  if (kvs.any fun kv => decide (kv.1 = k)) = true then kvs.map (fun kv => if kv.1 = k then (kv.1, v) else kv) else kvs ++ [(k, v)]
noncomputable def dropK (kvs : List (κ × V)) (k : κ) : List (κ × V) := kvs.filter fun kv => decide (kv.1 ≠ k)

theorem valV_pos {p : κ × V} {r : List (κ × V)} {k : κ} (e : p.1 = k) : valV (p :: r) k = some p.2 := by simp [valV, List.find?_cons, e]
theorem valV_neg {p : κ × V} {r : List (κ × V)} {k : κ} (e : ¬ p.1 = k) : valV (p :: r) k = valV r k := by simp [valV, List.find?_cons, e]
theorem valV_any (k : κ) : ∀ kvs : List (κ × V), (kvs.any fun kv => decide (kv.1 = k)) = (valV kvs k).isSome
  | [] => rfl
  | p :: r => by
    rw [List.any_cons]
    by_cases e : p.1 = k
    · simp only [valV_pos e, decide_eq_true e, Bool.true_or, Option.isSome_some]
    · rw [valV_neg e, decide_eq_false e, Bool.false_or]; exact valV_any k r
theorem length_putK (kvs : List (κ × V)) (k : κ) (v : V) : (putK kvs k v).length ≤ kvs.length + 1 := by
  unfold putK
  split
  · rw [List.length_map]; omega
  · rw [List.length_append, List.length_cons, List.length_nil]; omega
theorem RelO.isSome_eq {o : Option V} {u : Option Value} (r : RelO o u) : o.isSome = u.isSome := by
  cases o with
  | none => cases u with
    | none => rfl
    | some _ => exact (show False from r).elim
  | some _ => cases u with
    | none => exact (show False from r).elim
    | some _ => rfl
theorem RelO.getD {o : Option V} {u : Option Value} {d : V} {d' : Value} (r : RelO o u) (rd : RelV d d') : RelV (o.getD d) (u.getD d') := by
  cases o with
  | none => cases u with
    | none => exact rd
    | some _ => exact (show False from r).elim
  | some _ => cases u with
    | none => exact (show False from r).elim
    | some _ => exact r

theorem KV.val {kvs : List (κ × V)} {vs : List (κ × Value)} (r : KV kvs vs) (k : κ) : RelO (valV kvs k) (valueAt vs k) := by
  unfold KV at r
  induction r with
  | nil => exact True.intro
  | @cons p q ps qs h t ih =>
    obtain ⟨h1, h2⟩ := h
    by_cases e : p.1 = k
    · have e' : q.1 = k := h1.symm.trans e
      have b : valueAt (q :: qs) k = some q.2 := by simp [valueAt, List.find?_cons, e']
      rw [valV_pos e, b]; exact h2
    · have e' : ¬ q.1 = k := fun z => e (h1.trans z)
      have b : valueAt (q :: qs) k = valueAt qs k := by simp [valueAt, List.find?_cons, e']
      rw [valV_neg e, b]; exact ih
theorem KV.any {kvs : List (κ × V)} {vs : List (κ × Value)} (r : KV kvs vs) (k : κ) : (kvs.any fun kv => decide (kv.1 = k)) = vs.any fun kv => decide (kv.1 = k) := by
  unfold KV at r
  induction r with
  | nil => rfl
  | cons h t ih => rw [List.any_cons, List.any_cons, ih, h.1]
theorem KV.repl {kvs : List (κ × V)} {vs : List (κ × Value)} (r : KV kvs vs) (k : κ) {y : V} {u : Value} (ry : RelV y u) :
    KV (kvs.map fun kv => if kv.1 = k then (kv.1, y) else kv) (vs.map fun kv => if kv.1 = k then (kv.1, u) else kv) := by
  unfold KV at r ⊢
  induction r with
  | nil => exact .nil
  | @cons p q ps qs h t ih =>
    rw [List.map_cons, List.map_cons]
    refine .cons ?_ ih
    obtain ⟨h1, h2⟩ := h
    by_cases e : p.1 = k
    · rw [if_pos e, if_pos (h1.symm.trans e)]; exact ⟨h1, ry⟩
    · rw [if_neg e, if_neg (fun z => e (h1.trans z))]; exact ⟨h1, h2⟩
theorem KV.put {kvs : List (κ × V)} {vs : List (κ × Value)} (r : KV kvs vs) (k : κ) {y : V} {u : Value} (ry : RelV y u) : KV (putK kvs k y) (stored vs k u) := by
  unfold putK stored
  rw [r.any k]
  by_cases e : (vs.any fun kv => decide (kv.1 = k)) = true
  · rw [if_pos e, if_pos e]; exact r.repl k ry
  · rw [if_neg e, if_neg e]; exact Paired.snoc r ⟨rfl, ry⟩
theorem KV.drop {kvs : List (κ × V)} {vs : List (κ × Value)} (r : KV kvs vs) (k : κ) : KV (dropK kvs k) (without vs k) := by
  unfold KV at r ⊢
  unfold dropK without
  induction r with
  | nil => exact .nil
  | @cons p q ps qs h t ih =>
    obtain ⟨h1, h2⟩ := h
    rw [List.filter_cons, List.filter_cons]
    by_cases e : p.1 = k
    · have a : ¬ decide (p.1 ≠ k) = true := by simp [e]
      have b : ¬ decide (q.1 ≠ k) = true := by simp [h1.symm.trans e]
      rw [if_neg a, if_neg b]; exact ih
    · have e' : ¬ q.1 = k := fun z => e (h1.trans z)
      have a : decide (p.1 ≠ k) = true := by simp [e]
      have b : decide (q.1 ≠ k) = true := by simp [e']
      rw [if_pos a, if_pos b]; exact .cons ⟨h1, h2⟩ ih
theorem KV.keys {kvs : List (κ × V)} {vs : List (κ × Value)} (r : KV kvs vs) : kvs.map (·.1) = vs.map (·.1) := by
  unfold KV at r
  induction r with
  | nil => rfl
  | cons h t ih => rw [List.map_cons, List.map_cons, ih, h.1]
theorem KV.length {kvs : List (κ × V)} {vs : List (κ × Value)} (r : KV kvs vs) : kvs.length = vs.length := Paired.length r
end


theorem kV_is {P : Program} {w : World} {k : Key} {u : Value} (r : RelV (kV k) u) : (mixKind P w).is k u = true := by
  cases k with
  | inl i => obtain ⟨t, e⟩ := (show ∃ t, u = Value.int i t from r); subst e; exact mixKind_int P w i t
  | inr x => obtain ⟨t, e⟩ := (show ∃ t, u = Value.str x t from r); subst e; exact mixKind_str P w x t
theorem items_are {P : Program} {w : World} : ∀ {ks : List Key} {us : List Value}, Vals (ks.map kV) us → ItemsAre (mixKind P w) ks us
  | [], _, r => by rw [List.map_nil] at r; cases r; exact .nil
  | k :: ks, _, r => by
    rw [List.map_cons] at r
    cases r with
    | cons h t => exact .cons (kV_is h) (items_are t)

noncomputable abbrev KT (H : Hp) : List (List Key × V) → List (List Key × Addr × Value) → Prop := Paired fun p q => p.1 = q.1 ∧ H q.2.1 = some (.tup (p.1.map kV)) ∧ RelV p.2 q.2.2
theorem KT.val {H : Hp} {kvs : List (List Key × V)} {xs : List (List Key × Addr × Value)} (r : KT H kvs xs) (k : List Key) : RelO (valV kvs k) ((atKey xs k).map (·.2)) := by
  induction r with
  | nil => exact True.intro
  | @cons p q ps qs h t ih =>
    obtain ⟨h1, _, h2⟩ := h
    by_cases e : p.1 = k
    · have e' : q.1 = k := h1.symm.trans e
      have b : atKey (q :: qs) k = some q.2 := by simp [atKey, List.find?_cons, e']
      rw [valV_pos e, b]; exact h2
    · have e' : ¬ q.1 = k := fun z => e (h1.trans z)
      have b : atKey (q :: qs) k = atKey qs k := by simp [atKey, List.find?_cons, e']
      rw [valV_neg e, b]; exact ih
theorem KT.repl {H : Hp} {kvs : List (List Key × V)} {xs : List (List Key × Addr × Value)} (r : KT H kvs xs) (k : List Key) {y : V} {u : Value} (ry : RelV y u) :
    KT H (kvs.map fun kv => if kv.1 = k then (kv.1, y) else kv) (xs.map (putAt k u)) := by
  induction r with
  | nil => exact .nil
  | @cons p q ps qs h t ih =>
    rw [List.map_cons, List.map_cons]
    refine .cons ?_ ih
    obtain ⟨h1, h2, h3⟩ := h
    unfold putAt
    by_cases e : p.1 = k
    · rw [if_pos e, if_pos (h1.symm.trans e)]; exact ⟨h1, h2, ry⟩
    · rw [if_neg e, if_neg (fun z => e (h1.trans z))]; exact ⟨h1, h2, h3⟩
theorem KT.put {H : Hp} {kvs : List (List Key × V)} {xs : List (List Key × Addr × Value)} (r : KT H kvs xs) (k : List Key) {b : Addr} {y : V} {u : Value} (hb : H b = some (.tup (k.map kV))) (ry : RelV y u) :
    KT H (putK kvs k y) (storedH xs k b u) := by
  have e : (kvs.any fun kv => decide (kv.1 = k)) = (atKey xs k).isSome := by
    rw [valV_any, (r.val k).isSome_eq, Option.isSome_map]
  unfold putK storedH
  rw [e]
  by_cases q : (atKey xs k).isSome = true
  · rw [if_pos q, if_pos q]; exact r.repl k ry
  · rw [if_neg q, if_neg q]; exact Paired.snoc r ⟨rfl, hb, ry⟩
theorem KT.keeps {H H' : Hp} {kvs : List (List Key × V)} {xs : List (List Key × Addr × Value)} (r : KT H kvs xs) (ht : ∀ b ys, H b = some (.tup ys) → H' b = some (.tup ys)) : KT H' kvs xs :=
  Paired.mapP r fun _ _ z => ⟨z.1, ht _ _ z.2.1, z.2.2⟩

section
variable {P : Program} {w : World} {H : Hp} {h : Heap} {a : Addr}
theorem rd_of {u : HO} (ok : HOk P w H h) (e : Rd H a u) : ObjOk P w H h a u := e.ok ok
theorem dk_rd {kvs : List (Key × V)} (ok : HOk P w H h) (e : Rd H a (.dK kvs)) : kvs.length ≤ sizeLine ∧ (a == sysModules) = false ∧ ∃ vs, KV kvs vs ∧ h.DictOf (mixKind P w) a vs :=
  show ObjOk P w H h a (.dK kvs) from rd_of ok e
theorem dk_of {kvs : List (Key × V)} (ok : HOk P w H h) (e : H a = some (.dK kvs)) : kvs.length ≤ sizeLine ∧ (a == sysModules) = false ∧ ∃ vs, KV kvs vs ∧ h.DictOf (mixKind P w) a vs := dk_rd ok (.inl e)
theorem key_of {ks : List Key} (ok : HOk P w H h) (e : H a = some (.tup (ks.map kV))) : (tupleKind (mixKind P w)).is h ks a := by
  obtain ⟨_, its, r, o, h1, h2, n, h3⟩ := (show ObjOk P w H h a (.tup (ks.map kV)) from ok a _ e)
  exact ⟨o, its.toArray, n, h1, h2, h3, by simpa using items_are r⟩
theorem dt_rd {kvs : List (List Key × V)} (ok : HOk P w H h) (e : Rd H a (.dT kvs)) : kvs.length ≤ sizeLine ∧ (a == sysModules) = false ∧
    ∃ xs, KT H kvs xs ∧ h.DictOfH (tupleKind (mixKind P w)) a xs := by
  obtain ⟨z, y, xs, r, o, es, ep, h1, h2, h3, h4, h5⟩ := (show ObjOk P w H h a (.dT kvs) from rd_of ok e)
  refine ⟨z, y, xs, r, o, es, ep, h1, h2, h3, h4, fun x hx => ?_, h5⟩
  have all : ∀ {l : List (List Key × V)} {m : List (List Key × Addr × Value)}, KT H l m → ∀ x ∈ m, (tupleKind (mixKind P w)).is h x.1 x.2.1 := by
    intro l m q
    induction q with
    | nil => intro x hx; exact by cases hx
    | @cons p q ps qs hq t ih =>
      intro x hx
      rcases List.mem_cons.mp hx with e | hx
      · subst e
        exact key_of ok (by rw [← hq.1]; exact hq.2.1)
      · exact ih x hx
  exact all r x hx
theorem dt_of {kvs : List (List Key × V)} (ok : HOk P w H h) (e : H a = some (.dT kvs)) : kvs.length ≤ sizeLine ∧ (a == sysModules) = false ∧
    ∃ xs, KT H kvs xs ∧ h.DictOfH (tupleKind (mixKind P w)) a xs := dt_rd ok (.inl e)
end

noncomputable def DGet (H : Hp) (a : Addr) (y : V) (r : Option V) : Prop :=
  (∃ kvs k, Rd H a (.dK kvs) ∧ y = kV k ∧ r = valV kvs k) ∨ ∃ kvs k b, Rd H a (.dT kvs) ∧ y = .ref b ∧ H b = some (.tup (k.map kV)) ∧ r = valV kvs k
noncomputable def DPut (H : Hp) (a : Addr) (y v : V) (H' : Hp) : Prop :=
  (∃ kvs k, H a = some (.dK kvs) ∧ y = kV k ∧ kvs.length < sizeLine ∧ H' = upd H a (.dK (putK kvs k v))) ∨
  ∃ kvs k b, H a = some (.dT kvs) ∧ y = .ref b ∧ H b = some (.tup (k.map kV)) ∧ kvs.length < sizeLine ∧ H' = upd H a (.dT (putK kvs k v))
theorem DGet.k {H : Hp} {a : Addr} {kvs : List (Key × V)} {k : Key} (e : H a = some (.dK kvs)) : DGet H a (kV k) (valV kvs k) := .inl ⟨kvs, k, .inl e, rfl, rfl⟩
theorem DGet.t {H : Hp} {a b : Addr} {kvs : List (List Key × V)} {k : List Key} (e : H a = some (.dT kvs)) (eb : H b = some (.tup (k.map kV))) : DGet H a (.ref b) (valV kvs k) := .inr ⟨kvs, k, b, .inl e, rfl, eb, rfl⟩
theorem DPut.k {H : Hp} {a : Addr} {kvs : List (Key × V)} {k : Key} {v : V} (e : H a = some (.dK kvs)) (hl : kvs.length < sizeLine) : DPut H a (kV k) v (upd H a (.dK (putK kvs k v))) := .inl ⟨kvs, k, e, rfl, hl, rfl⟩
theorem DPut.t {H : Hp} {a b : Addr} {kvs : List (List Key × V)} {k : List Key} {v : V} (e : H a = some (.dT kvs)) (eb : H b = some (.tup (k.map kV))) (hl : kvs.length < sizeLine) :
    DPut H a (.ref b) v (upd H a (.dT (putK kvs k v))) := .inr ⟨kvs, k, b, e, rfl, eb, hl, rfl⟩


section
variable {X : Cx} {pins : List (Addr × Obj)} {σ : St} {H : Hp} {s : Shared} {a : Addr} {y v : V} {u r : Value} {o : Option V} {A : Around} {E : Value → Shared → Prop}

theorem Inv.big (I : Inv X pins σ H s) : sysModules < s.heap.objs.size := by
  have h : mainGlobals < s.heap.objs.size := (I.mod.glob.keeps I.bk).lt
  exact Nat.lt_trans (by decide) h

theorem d_write {h' : Heap} {t' : Nat} {ob : HO} (I : Inv X pins σ H s) (mu : Mut (H a)) (hs : Heap.SameBut a s.heap h') (he : ∃ q, h'.get? a = some q) (new : ObjOk X.prog X.w (upd H a ob) h' a ob) :
    Inv X pins σ (upd H a ob) { s with heap := h', toks := t' } :=
  I.write (x := a) (e := a) mu (.inl rfl) (fun b q hb z => (hs.2 b hb).trans z) he new
theorem dk_new {P : Program} {w : World} {H' : Hp} {h' : Heap} {kvs : List (Key × V)} {vs : List (Key × Value)} (z : kvs.length ≤ sizeLine) (hd : (a == sysModules) = false) (rel : KV kvs vs) (dd : h'.DictOf (mixKind P w) a vs) :
    ObjOk P w H' h' a (.dK kvs) := ⟨z, hd, vs, rel, dd⟩
theorem d_setItem {H' : Hp} {Q : Unit → Shared → Prop} (hu : A.units + 1 < cLine) (I : Inv X pins σ H s) (g : DPut H a y v H') (ry : RelV y u) (rv : RelV v r) (h : ∀ s', Inv X pins σ H' s' → Q () s') :
    wpAny (model X.prog X.w) A (setItem (.ref a) u r) Q E s := by
  rcases g with ⟨kvs, k, e, ey, l, eH⟩ | ⟨kvs, k, b, e, ey, eb, l, eH⟩
  · subst ey eH
    obtain ⟨z, hd, vs, rel, dd⟩ := dk_of I.hok e
    have hz : vs.length ≤ sizeLine := by rw [← rel.length]; exact z
    have hl : (putK kvs k v).length ≤ sizeLine := by have := length_putK kvs k v; omega
    refine wpAny_setItem_pairs (hsz := hz) (kV_is ry) dd fun h' dd' hs => h _ ?_
    have he : ∃ q, h'.get? a = some q := let ⟨q, _, _, hq, _⟩ := dd'; ⟨q, hq⟩
    exact d_write I (by rw [e]; exact True.intro) hs he (dk_new hl hd (rel.put k rv) dd')
  · subst ey eH
    cases (show u = Value.ref b from ry)
    obtain ⟨z, hd, xs, rel, dd⟩ := dt_of I.hok e
    have hz : xs.length ≤ sizeLine := by rw [← Paired.length rel]; exact z
    have hl : (putK kvs k v).length ≤ sizeLine := by have := length_putK kvs k v; omega
    refine wpAny_setItem_heap (hsz := hz) (tupleKind_room_in1 hu) (key_of I.hok eb) dd fun h' dd' hs => h _ ?_
    obtain ⟨q, es, ep, hq, h2, h3, h4, _, h5⟩ := dd'
    refine d_write I (by rw [e]; exact True.intro) hs ⟨q, hq⟩ ⟨hl, hd, _, (rel.put k eb rv).keeps fun c ys ec => ?_, q, es, ep, hq, h2, h3, h4, h5⟩
    rw [upd_ne (ne_of ec e (fun z => by cases z))]
    exact ec
end

section
variable {X : Cx} {pins : List (Addr × Obj)} {σ : St} {H : Hp} {s : Shared} {a : Addr} {kvs : List (Key × V)} {k : Key} {u : Value} {A : Around} {E : Value → Shared → Prop}
end


noncomputable def NoSl (i : Expr) : Prop := ∀ ov iv, subscripted i false ov iv = operate [ov, iv] (getItem ov iv)
theorem subD_of {prog : Program} {w : World} {A : Around} {E : Value → Shared → Prop} {s : Shared} {env : Env} {value slice : Expr} {pos : Pos} {T id : String} {Q : Value → Shared → Prop}
    (hl : typeLookup (.type T) "__getitem__" = pure (some (.builtin id))) (hs : NoSl slice)
    (h : wpAny (model prog w) A (eval value env) (fun o s₁ => wpAny (model prog w) A (eval slice env) (fun i s₂ => s₂.TypeIs o T ∧ wpAny (model prog w) A (getItem o i) Q E s₂) E s₁) E s) :
    wpAny (model prog w) A (eval (.Subscript value slice pos) env) Q E s := by
  refine Subscript_ (wpAny_mono h (fun o s₁ h₁ => wpAny_mono h₁ (fun i s₂ h₂ => ?_) fun _ _ x => x) fun _ _ x => x)
  obtain ⟨hT, h₂⟩ := h₂
  unfold subscriptTail
  refine wpAny_bind ?_
  rw [getitemInPython_of_ne hT.not_modules]
  refine wpAny_bind (wpAny_specialOf hT hl ?_)
  have fin : wpAny (model prog w) A (subscripted slice false o i) (fun r s₃ => wpAny (model prog w) A (letTemporaryGo value o r >>= fun _ => pure r) Q E s₃) E s₂ := by
    rw [hs o i]
    exact wpAny_operating (wpAny_mono h₂ (fun r s₃ h₃ => wpAny_bind (wpAny_letTemporaryGo (wpAny_pure h₃))) fun _ _ x => x)
  first
    | exact wpAny_pure (wpAny_bind fin)
    | exact wpAny_bind (wpAny_pure (wpAny_bind fin))
    | exact wpAny_bind fin

noncomputable def sDPut (td ty tv : TE) : TS := fun D σ H => tv σ H fun v H1 => td σ H1 fun x H2 => ty σ H2 fun y H3 => ∃ a H4, x = .ref a ∧ DPut H3 a y v H4 ∧ D.nx σ H4
section
variable {X : Cx} {o i e value : Expr} {pos pos' tpos : Pos} {td ty tv : TE}
theorem ps_dput (hu : X.A.units + 1 < cLine) (ho : PE X o td) (hi : PE X i ty) (hv : PE X value tv) (hs : swapsWith value (some (.Subscript o i pos')) pos.line X.env = pure false) :
    PS X (.Assign [.Subscript o i pos'] value pos) (sDPut td ty tv) := by
  intro pins s σ H D I h
  refine wpAny_Assign_Subscript (thn (hv pins s σ H _ I h) fun r s1 ⟨v, H1, I1, rv, q1⟩ => thn (ho pins s1 σ H1 _ I1 q1) fun u s2 ⟨x, H2, I2, rx, q2⟩ => thn (hi pins s2 σ H2 _ I2 q2) fun iv s3 qZ => ?_) hs
  obtain ⟨y, H3, I3, ry, a, H4, ex, g, q3⟩ := qZ
  subst ex
  obtain rfl : u = Value.ref a := rx
  exact d_setItem hu I3 g ry rv fun s4 I4 => ⟨σ, H4, I4, q3⟩
end


theorem dk_empty {P : Program} {w : World} {H : Hp} (h : Heap) (hb : sysModules < h.objs.size) : ObjOk P w H (h.push { cls := .type "dict", data := .dict #[] }) h.objs.size (.dK []) :=
  ⟨Nat.zero_le _, beq_eq_false_iff_ne.mpr (Ne.symm (Nat.ne_of_lt hb)), [], .nil, Heap.DictOf.new h⟩
noncomputable def tDNewK : TE := fun _ H Q => ∀ p, H p = none → Q (.ref p) (upd H p (.dK []))
section
variable {X : Cx} {pos : Pos}
theorem pe_dnewK : PE X (.Dict [] [] pos) tDNewK := fun pins s σ H Q I h =>
  wpAny_Dict_empty ⟨.ref s.heap.objs.size, _, I.laid (a := s.heap.objs.size) (o := .dK []) (t' := s.toks) (fun _ _ q => Heap.get?_push_of_some _ q) (Nat.le_refl _) (dk_empty s.heap I.big), rfl, h _ (I.hok.fresh (Nat.le_refl _))⟩
end

structure M2 (X : Cx) (o : Expr) (m : Str) (apos : Pos) (e f : Expr) (cpos : Pos) : Prop where
  base : attributeBase o m X.env (eval o X.env) = eval o X.env
  few : ((backTo cpos (starEach [e, f] X.env)).all (fun x => !x.1) && (backToKw cpos (keywordEach [] X.env)).all (fun x => x.1.isSome)
    && decide (([e, f] : List Expr).length + ([] : List Keyword).length + (if ([] : List Keyword).isEmpty then 0 else 1) < 30)) = true
  line : (apos.endLine == cpos.line) = true
  trees : backTo cpos (starEach [e, f] X.env) = [(false, eval e X.env), (false, eval f X.env)]

noncomputable def IsD (H : Hp) (a : Addr) : Prop := (∃ kvs, Rd H a (.dK kvs)) ∨ ∃ kvs, Rd H a (.dT kvs)
theorem isD_at {X : Cx} {pins : List (Addr × Obj)} {σ : St} {H : Hp} {s : Shared} {a : Addr} (I : Inv X pins σ H s) (d : IsD H a) :
    s.TypeIs (.ref a) "dict" ∧ (∀ b, Value.ref a = .ref b → ∃ ob, s.heap.get? b = some ob ∧ ob.dict = none) ∧ (a == sysModules) = false := by
  rcases d with ⟨kvs, e⟩ | ⟨kvs, e⟩
  · obtain ⟨_, hd, vs, _, dd⟩ := dk_rd I.hok e
    refine ⟨dd.typeIs, fun b q => ?_, hd⟩
    cases q
    obtain ⟨ob, _, _, h1, h2, _⟩ := dd
    exact ⟨ob, h1, h2.2.1⟩
  · obtain ⟨_, hd, xs, _, dd⟩ := dt_rd I.hok e
    refine ⟨dd.typeIs, fun b q => ?_, hd⟩
    cases q
    obtain ⟨ob, _, _, h1, h2, _⟩ := dd
    exact ⟨ob, h1, h2.2.1⟩

section
variable {X : Cx} {pins : List (Addr × Obj)} {σ : St} {H : Hp} {s : Shared} {a : Addr} {y d : V} {u r : Value} {o : Option V} {A : Around} {E : Value → Shared → Prop}
theorem d_get2 {Q : Value → Shared → Prop} (hu : A.units + 1 < cLine) (I : Inv X pins σ H s) (g : DGet H a y o) (ry : RelV y u) (rd : RelV d r) (h : ∀ w' s', Inv X pins σ H s' → RelV (o.getD d) w' → Q w' s') :
    wpAny (model X.prog X.w) A (call (.builtin "dict.get") [.ref a, u, r]) Q E s := by
  rcases g with ⟨kvs, k, e, ey, l⟩ | ⟨kvs, k, b, e, ey, eb, l⟩
  · subst ey
    obtain ⟨z, hd, vs, rel, dd⟩ := dk_rd I.hok e
    refine call_meetsIn PySem.F.slot_dict_get dd.typeIs PySem.F.entry_dict_get (PySem.F.args_dict_get_3 _ _ _) (meets_dict_get_default (mixKind X.prog X.w) a (kV_is ry) hd r) ⟨_, dd.mapOf, h _ _ (I.tok _) ?_⟩
    rw [l]
    exact (rel.val k).getD rd
  · subst ey
    cases (show u = Value.ref b from ry)
    obtain ⟨z, hd, xs, rel, dd⟩ := dt_rd I.hok e
    refine call_meetsIn PySem.F.slot_dict_get dd.typeIs PySem.F.entry_dict_get (PySem.F.args_dict_get_3 _ _ _) (meetsH_dict_get_default (tupleKind (mixKind X.prog X.w)) a b hd r) ⟨tupleKind_room_in1 hu, k, xs, key_of I.hok eb, dd, h _ _ (I.tok _) ?_⟩
    rw [l]
    exact (rel.val k).getD rd
end

noncomputable def tDGet2 (td ty tx : TE) : TE := fun σ H Q => td σ H fun x H1 => ∃ a, x = .ref a ∧ IsD H1 a ∧ ty σ H1 fun y H2 => tx σ H2 fun z H3 => ∃ o, DGet H3 a y o ∧ Q (o.getD z) H3
section
variable {X : Cx} {o e f : Expr} {apos cpos : Pos} {td ty tx : TE}
theorem pe_dget2 (hu : X.A.units + 1 < cLine) (ho : PE X o td) (he : PE X e ty) (hf : PE X f tx) (m : M2 X o "get" apos e f cpos) : PE X (.Call (.Attribute o "get" apos) [e, f] [] cpos) (tDGet2 td ty tx) := by
  intro pins s σ H Q I h
  refine wpAny_Call_method m.base m.few m.line PySem.F.plainAttrs_dict PySem.F.slot_dict_get PySem.F.type_dict_get (thn (ho pins s σ H _ I h) fun u s1 qZ => ?_)
  obtain ⟨x, H1, I1, rx, a, ex, d, q1⟩ := qZ
  subst ex
  obtain rfl : u = Value.ref a := rx
  obtain ⟨t1, t2, _⟩ := isD_at I1 d
  refine ⟨t1, t2, ?_⟩
  rw [m.trees]
  refine Calls.callWith_builtin rfl (Calls.evalArgs_plain (Calls.spliced_cons (thn (he pins s1 σ H1 _ I1 q1) fun iv s2 ⟨y, H2, I2, ry, q2⟩ =>
    Calls.spliced_cons (thn (hf pins s2 σ H2 _ I2 q2) fun fv s3 ⟨z, H3, I3, rz, ov, g, q3⟩ => Calls.spliced_nil ?_))))
  exact d_get2 hu I3 g ry rz fun w' s4 I4 rw' => ⟨_, H3, I4, rw', q3⟩
end

section
variable {X : Cx} {pins : List (Addr × Obj)} {σ : St} {H : Hp} {s : Shared} {a : Addr} {kvs : List (Key × V)} {A : Around} {E : Value → Shared → Prop}
end


section
variable {X : Cx} {pins : List (Addr × Obj)} {σ : St} {H : Hp} {s : Shared} {a : Addr} {y : V} {u : Value} {A : Around} {E : Value → Shared → Prop}
end
end L2


set_option Elab.async false
set_option linter.all false
set_option maxRecDepth 100000
set_option maxHeartbeats 4000000
namespace D3
open PySem PySem.Spec PyProof.Rows L2

inductive D where
  | non | bl (b : Bool) | int (i : Int) | str (x : Str) | tup (ds : List D) | lst (ds : List D)

noncomputable def KL (K : PySem.W.Frag) (a : Addr) (xs : List V) : Prop :=
  ∃ (o : Obj) (its : Array Value) (n : Nat), K.lookup a = some o ∧ o.cls = .type "list" ∧ o.dict = none ∧ o.data = .seq its n ∧ its.size ≤ sizeLine ∧ Vals xs its.toList
noncomputable def LR (K : PySem.W.Frag) (S : Addr → Prop) (H : Hp) (a : Addr) (xs : List V) : Prop := (¬ S a ∧ Rd H a (.lst xs)) ∨ KL K a xs
theorem LR.sq {K : PySem.W.Frag} {S : Addr → Prop} {H : Hp} {a : Addr} {xs : List V} (h : LR K S H a xs) : SqL K H a xs := h.elim (fun x => .inl x.2) .inr

mutual
noncomputable def Rep (K : PySem.W.Frag) (S : Addr → Prop) (H : Hp) : D → V → Prop
  | .non, v => v = .non
  | .bl b, v => v = .bl b
  | .int i, v => v = .int i
  | .str x, v => v = .str x
  | .tup ds, v => ∃ a xs, v = .ref a ∧ SqT K H a xs ∧ Reps K S H ds xs
  | .lst ds, v => ∃ a xs, v = .ref a ∧ LR K S H a xs ∧ Reps K S H ds xs
noncomputable def Reps (K : PySem.W.Frag) (S : Addr → Prop) (H : Hp) : List D → List V → Prop
  | [], xs => xs = []
  | d :: ds, xs => ∃ x r, xs = x :: r ∧ Rep K S H d x ∧ Reps K S H ds r
end

section
variable {K : PySem.W.Frag} {S S' : Addr → Prop} {H H' : Hp}
mutual
theorem Rep.map (hT : ∀ b xs, SqT K H b xs → SqT K H' b xs) (hL : ∀ b xs, LR K S H b xs → LR K S' H' b xs) : ∀ (d : D) (v : V), Rep K S H d v → Rep K S' H' d v
  | .non, v, h => by simpa only [Rep] using h
  | .bl b, v, h => by simpa only [Rep] using h
  | .int i, v, h => by simpa only [Rep] using h
  | .str x, v, h => by simpa only [Rep] using h
  | .tup ds, v, h => by
    simp only [Rep] at h ⊢
    obtain ⟨a, xs, e, q, r⟩ := h
    exact ⟨a, xs, e, hT a xs q, Reps.map hT hL ds xs r⟩
  | .lst ds, v, h => by
    simp only [Rep] at h ⊢
    obtain ⟨a, xs, e, q, r⟩ := h
    exact ⟨a, xs, e, hL a xs q, Reps.map hT hL ds xs r⟩
theorem Reps.map (hT : ∀ b xs, SqT K H b xs → SqT K H' b xs) (hL : ∀ b xs, LR K S H b xs → LR K S' H' b xs) : ∀ (ds : List D) (vs : List V), Reps K S H ds vs → Reps K S' H' ds vs
  | [], vs, h => by simpa only [Reps] using h
  | d :: ds, vs, h => by
    simp only [Reps] at h ⊢
    obtain ⟨x, r, e, q, t⟩ := h
    exact ⟨x, r, e, Rep.map hT hL d x q, Reps.map hT hL ds r t⟩
end
theorem same_tup (h : Same H H') : ∀ b xs, SqT K H b xs → SqT K H' b xs := fun b xs q => by
  rcases q with (q | ⟨o, q⟩) | q
  · exact .inl (.inl (h _ _ q))
  · exact .inl (.inr ⟨o, h _ _ q⟩)
  · exact .inr q
theorem same_lr (h : Same H H') : ∀ b xs, LR K S H b xs → LR K S H' b xs := fun b xs q => by
  rcases q with ⟨n, q | ⟨o, q⟩⟩ | q
  · exact .inl ⟨n, .inl (h _ _ q)⟩
  · exact .inl ⟨n, .inr ⟨o, h _ _ q⟩⟩
  · exact .inr q
theorem Rep.same {d : D} {v : V} (h : Same H H') (r : Rep K S H d v) : Rep K S H' d v := Rep.map (same_tup h) (same_lr h) d v r
theorem Reps.same {d : List D} {v : List V} (h : Same H H') (r : Reps K S H d v) : Reps K S H' d v := Reps.map (same_tup h) (same_lr h) d v r
theorem sub_lr (hs : ∀ a, S' a → S a) : ∀ b xs, LR K S H b xs → LR K S' H b xs := fun b xs q => q.elim (fun x => .inl ⟨fun z => x.1 (hs _ z), x.2⟩) .inr
theorem Rep.sub {d : D} {v : V} (hs : ∀ a, S' a → S a) (r : Rep K S H d v) : Rep K S' H d v := Rep.map (fun _ _ x => x) (sub_lr hs) d v r
theorem Reps.sub {d : List D} {v : List V} (hs : ∀ a, S' a → S a) (r : Reps K S H d v) : Reps K S' H d v := Reps.map (fun _ _ x => x) (sub_lr hs) d v r

theorem Reps.nil : Reps K S H [] [] := by simp only [Reps]
theorem Reps.cons {d : D} {ds : List D} {v : V} {vs : List V} (h : Rep K S H d v) (t : Reps K S H ds vs) : Reps K S H (d :: ds) (v :: vs) := by
  simp only [Reps]; exact ⟨v, vs, rfl, h, t⟩
theorem Reps.len : ∀ {ds : List D} {vs : List V}, Reps K S H ds vs → ds.length = vs.length
  | [], vs, h => by simp only [Reps] at h; subst h; rfl
  | d :: ds, vs, h => by
    simp only [Reps] at h
    obtain ⟨x, r, e, _, t⟩ := h
    subst e
    simp only [List.length_cons, Reps.len t]
theorem Reps.get : ∀ {ds : List D} {vs : List V} {i : Nat} {d : D}, Reps K S H ds vs → ds[i]? = some d → ∃ v, vs[i]? = some v ∧ Rep K S H d v
  | [], vs, i, d, h, e => by simp at e
  | c :: ds, vs, 0, d, h, e => by
    simp only [Reps] at h
    obtain ⟨x, r, rfl, q, t⟩ := h
    simp at e; subst e
    exact ⟨x, rfl, q⟩
  | c :: ds, vs, i + 1, d, h, e => by
    simp only [Reps] at h
    obtain ⟨x, r, rfl, q, t⟩ := h
    exact Reps.get t (i := i) (by simpa using e)
theorem Reps.getV : ∀ {ds : List D} {vs : List V} {i : Nat} {v : V}, Reps K S H ds vs → vs[i]? = some v → ∃ d, ds[i]? = some d ∧ Rep K S H d v := fun {ds vs i v} h e => by
  have hl := h.len
  have hi : i < ds.length := by rw [hl]; exact (List.getElem?_eq_some_iff.mp e).1
  obtain ⟨v', e', r⟩ := h.get (i := i) (d := ds[i]) (by simp [hi])
  rw [e] at e'; cases e'
  exact ⟨ds[i], by simp [hi], r⟩
theorem Reps.app : ∀ {ds es : List D} {vs us : List V}, Reps K S H ds vs → Reps K S H es us → Reps K S H (ds ++ es) (vs ++ us)
  | [], es, vs, us, h, h2 => by simp only [Reps] at h; subst h; exact h2
  | d :: ds, es, vs, us, h, h2 => by
    simp only [Reps] at h
    obtain ⟨x, r, rfl, q, t⟩ := h
    exact Reps.cons q (Reps.app t h2)
theorem Reps.drop : ∀ {ds : List D} {vs : List V} (n : Nat), Reps K S H ds vs → Reps K S H (ds.drop n) (vs.drop n)
  | ds, vs, 0, h => h
  | [], vs, n + 1, h => by simp only [Reps] at h; subst h; exact Reps.nil
  | d :: ds, vs, n + 1, h => by
    simp only [Reps] at h
    obtain ⟨x, r, rfl, q, t⟩ := h
    exact Reps.drop n t
theorem Reps.take : ∀ {ds : List D} {vs : List V} (n : Nat), Reps K S H ds vs → Reps K S H (ds.take n) (vs.take n)
  | ds, vs, 0, h => Reps.nil
  | [], vs, n + 1, h => by simp only [Reps] at h; subst h; exact Reps.nil
  | d :: ds, vs, n + 1, h => by
    simp only [Reps] at h
    obtain ⟨x, r, rfl, q, t⟩ := h
    exact Reps.cons q (Reps.take n t)
theorem Reps.set : ∀ {ds : List D} {vs : List V} {d : D} {v : V} (n : Nat), Reps K S H ds vs → Rep K S H d v → Reps K S H (ds.set n d) (vs.set n v)
  | [], vs, d, v, n, h, q => by simp only [Reps] at h; subst h; exact Reps.nil
  | c :: ds, vs, d, v, 0, h, q => by
    simp only [Reps] at h
    obtain ⟨x, r, rfl, _, t⟩ := h
    exact Reps.cons q t
  | c :: ds, vs, d, v, n + 1, h, q => by
    simp only [Reps] at h
    obtain ⟨x, r, rfl, p, t⟩ := h
    exact Reps.cons p (Reps.set n t q)
theorem Reps.ints (ns : List Int) : Reps K S H (ns.map D.int) (ns.map V.int) := by
  induction ns with
  | nil => exact Reps.nil
  | cons n ns ih => exact Reps.cons (by simp only [Rep]) ih
theorem Reps.intsV : ∀ {ns : List Int} {vs : List V}, Reps K S H (ns.map D.int) vs → vs = ns.map V.int
  | [], vs, h => by simpa only [List.map_nil, Reps] using h
  | n :: ns, vs, h => by
    simp only [List.map_cons, Reps, Rep] at h
    obtain ⟨x, r, rfl, rfl, t⟩ := h
    rw [Reps.intsV t, List.map_cons]

theorem rep_int {i : Int} {v : V} (h : Rep K S H (.int i) v) : v = .int i := by simpa only [Rep] using h
theorem rep_bl {i : Bool} {v : V} (h : Rep K S H (.bl i) v) : v = .bl i := by simpa only [Rep] using h
theorem rep_str {i : Str} {v : V} (h : Rep K S H (.str i) v) : v = .str i := by simpa only [Rep] using h
theorem rep_non {v : V} (h : Rep K S H .non v) : v = .non := by simpa only [Rep] using h
theorem Rep.int {i : Int} : Rep K S H (.int i) (.int i) := by simp only [Rep]
theorem Rep.bl {i : Bool} : Rep K S H (.bl i) (.bl i) := by simp only [Rep]
theorem Rep.str {i : Str} : Rep K S H (.str i) (.str i) := by simp only [Rep]
theorem Rep.non : Rep K S H .non .non := by simp only [Rep]
theorem rep_tup {ds : List D} {v : V} (h : Rep K S H (.tup ds) v) : ∃ a xs, v = .ref a ∧ SqT K H a xs ∧ Reps K S H ds xs := by simpa only [Rep] using h
theorem rep_lst {ds : List D} {v : V} (h : Rep K S H (.lst ds) v) : ∃ a xs, v = .ref a ∧ LR K S H a xs ∧ Reps K S H ds xs := by simpa only [Rep] using h
theorem Rep.tup {ds : List D} {a : Addr} {xs : List V} (h : SqT K H a xs) (r : Reps K S H ds xs) : Rep K S H (.tup ds) (.ref a) := by simp only [Rep]; exact ⟨a, xs, rfl, h, r⟩
theorem Rep.lst {ds : List D} {a : Addr} {xs : List V} (h : LR K S H a xs) (r : Reps K S H ds xs) : Rep K S H (.lst ds) (.ref a) := by simp only [Rep]; exact ⟨a, xs, rfl, h, r⟩
theorem same_new {p : Addr} {o : HO} (h : H p = none) : Same H (upd H p o) := fun b u e => by rw [upd_ne (ne_of_none e h)]; exact e
noncomputable def SOk (S : Addr → Prop) (H : Hp) : Prop := ∀ a, S a → ∃ o, H a = some o
theorem SOk.same (h : SOk S H) (e : Same H H') : SOk S H' := fun a q => let ⟨o, x⟩ := h a q; ⟨o, e _ _ x⟩
theorem SOk.free {p : Addr} (h : SOk S H) (e : H p = none) : ¬ S p := fun q => by obtain ⟨o, x⟩ := h p q; rw [e] at x; cases x
theorem Rep.newTup {p : Addr} {ds : List D} {xs : List V} (h : H p = none) (r : Reps K S H ds xs) : Rep K S (upd H p (.tup xs)) (.tup ds) (.ref p) := Rep.tup (SqT.of upd_same) (r.same (same_new h))
theorem Rep.newLst {p : Addr} {ds : List D} {xs : List V} (s : SOk S H) (h : H p = none) (r : Reps K S H ds xs) : Rep K S (upd H p (.lst xs)) (.lst ds) (.ref p) := Rep.lst (.inl ⟨s.free h, .of upd_same⟩) (r.same (same_new h))
end

noncomputable def hash2 (ks : List (List Int)) : Int := reduceHash (Builtin.Tuple.tupleHashOf (ks.map fun k => reduceHash (Builtin.Tuple.tupleHashOf (k.map hashInt))))
noncomputable def ents : List (List (List Int)) → List Addr → List Value → List DictEntry
  | k :: ks, b :: bs, u :: us => ⟨hash2 k, .ref b, u⟩ :: ents ks bs us
  | _, _, _ => []
noncomputable def DX (a : Addr) (kss : List (List (List Int))) (bs : List Addr) (xs : List V) (h : Heap) : Prop := ∃ (us : List Value) (o : Obj) (es : Array DictEntry) (ep : Nat), Vals xs us ∧ h.get? a = some o ∧ o.ExactDict ∧ o.data = .dict es ep ∧ es.toList = ents kss bs us
noncomputable def kD (ks : List (List Int)) : D := .tup (ks.map fun ns => .tup (ns.map .int))
noncomputable def DctAt (K : PySem.W.Frag) (S : Addr → Prop) (H : Hp) (a : Addr) (ks ds : List D) : Prop :=
  (∃ (ns : List Int) (xs : List V), ks = .bl false :: ns.map .int ∧ ns.Nodup ∧ ns.length = xs.length ∧ H a = some (.dK ((ns.map Sum.inl).zip xs)) ∧ Reps K S H ds xs) ∨
  (∃ (kss : List (List (List Int))) (bs : List Addr) (xs : List V), ks = .bl true :: kss.map kD ∧ kss.Nodup ∧ (a == sysModules) = false ∧ kss.length ≤ sizeLine ∧ kss.length = bs.length ∧ kss.length = xs.length ∧ H a = some (.ext (DX a kss bs xs)) ∧ Reps K S H (kss.map kD) (bs.map V.ref) ∧ Reps K S H ds xs)
theorem DctAt.map {K : PySem.W.Frag} {S S' : Addr → Prop} {H H' : Hp} {a : Addr} {ks ds : List D} (h : DctAt K S H a ks ds) (mvs : ∀ {c : List D} {w : List V}, Reps K S H c w → Reps K S' H' c w) (e : H' a = H a) : DctAt K S' H' a ks ds := by
  rcases h with ⟨ns, xs, h1, h2, h3, h4, h5⟩ | ⟨kss, bs, xs, h1, h2, h3, h4, h5, h6, h7, h8, h9⟩
  · exact .inl ⟨ns, xs, h1, h2, h3, e.trans h4, mvs h5⟩
  · exact .inr ⟨kss, bs, xs, h1, h2, h3, h4, h5, h6, e.trans h7, mvs h8, mvs h9⟩
theorem DctAt.isO {K : PySem.W.Frag} {S : Addr → Prop} {H : Hp} {a : Addr} {ks ds : List D} (h : DctAt K S H a ks ds) : ∃ o, H a = some o ∧ ∀ xs, o ≠ .lst xs := by
  rcases h with ⟨_, _, _, _, _, h, _⟩ | ⟨_, _, _, _, _, _, _, _, _, h, _⟩
  · exact ⟨_, h, fun _ z => by cases z⟩
  · exact ⟨_, h, fun _ z => by cases z⟩
theorem DctAt.ne {K : PySem.W.Frag} {S : Addr → Prop} {H : Hp} {a b : Addr} {ks ds : List D} {xs : List V} (h : DctAt K S H a ks ds) (hb : H b = some (.lst xs)) : a ≠ b := fun z => by
  obtain ⟨o, e, n⟩ := h.isO
  rw [z, hb] at e
  cases e
  exact n _ rfl
theorem DctAt.ne' {K : PySem.W.Frag} {S : Addr → Prop} {H : Hp} {a b : Addr} {ks ds : List D} (h : DctAt K S H a ks ds) (hb : H b = none) : a ≠ b := fun z => by
  obtain ⟨o, e, n⟩ := h.isO
  rw [z, hb] at e
  cases e
theorem DctAt.go {K : PySem.W.Frag} {S : Addr → Prop} {H H' : Hp} {a : Addr} {ks ds : List D} (h : DctAt K S H a ks ds) (s : Same H H') : DctAt K S H' a ks ds := by
  obtain ⟨o, e, _⟩ := h.isO
  exact h.map (fun r => r.same s) ((s _ _ e).trans e.symm)
inductive Sl where
  | un | val (d : D) | own (ds : List D) | dct (ks ds : List D)
noncomputable abbrev Fr3 := List Sl
structure Bs where
  S0 : Addr → Prop
  H0 : Hp
  gh : List (D × V)
structure ER (K : PySem.W.Frag) (B : Bs) (S : Addr → Prop) (H : Hp) (σ : L2.St) (ρ : Fr3) : Prop where
  len : σ.length = ρ.length
  same : Same B.H0 H
  sub : ∀ a, B.S0 a → S a
  ok0 : SOk B.S0 B.H0
  ok : SOk S H
  val : ∀ (i : Nat) d, ρ[i]? = some (.val d) → ∃ v, σ[i]? = some (some v) ∧ Rep K S H d v
  own : ∀ (i : Nat) ds, ρ[i]? = some (.own ds) → ∃ a xs, σ[i]? = some (some (.ref a)) ∧ S a ∧ B.H0 a = none ∧ H a = some (.lst xs) ∧ Reps K S H ds xs
  uq : ∀ (i j : Nat) a ds es, ρ[i]? = some (.own ds) → ρ[j]? = some (.own es) → σ[i]? = some (some (.ref a)) → σ[j]? = some (some (.ref a)) → i = j
  dct : ∀ (i : Nat) ks ds, ρ[i]? = some (.dct ks ds) → ∃ a, σ[i]? = some (some (.ref a)) ∧ S a ∧ B.H0 a = none ∧ DctAt K S H a ks ds
  dq : ∀ (i j : Nat) a ks ds ks' ds', ρ[i]? = some (.dct ks ds) → ρ[j]? = some (.dct ks' ds') → σ[i]? = some (some (.ref a)) → σ[j]? = some (some (.ref a)) → i = j
  gh : ∀ p ∈ B.gh, Rep K S H p.1 p.2
theorem ER.go {K : PySem.W.Frag} {B : Bs} {S : Addr → Prop} {H H' : Hp} {σ : L2.St} {ρ : Fr3} (e : ER K B S H σ ρ) (h : Same H H') : ER K B S H' σ ρ where
  len := e.len
  same := e.same.trans h
  sub := e.sub
  ok0 := e.ok0
  ok := e.ok.same h
  val := fun i d q => let ⟨v, a, r⟩ := e.val i d q; ⟨v, a, r.same h⟩
  own := fun i ds q => let ⟨a, xs, x, y, z, u, r⟩ := e.own i ds q; ⟨a, xs, x, y, z, h _ _ u, r.same h⟩
  uq := e.uq
  dct := fun i ks ds q => let ⟨a, x, y, z, u⟩ := e.dct i ks ds q; ⟨a, x, y, z, u.go h⟩
  dq := e.dq
  gh := fun p hp => (e.gh p hp).same h

noncomputable abbrev E3 := Fr3 → (D → Prop) → Prop
noncomputable abbrev B3 := Fr3 → (Bool → Prop) → Prop
noncomputable abbrev A3 := Fr3 → (List D → Prop) → Prop
inductive F3 where
  | nx (ρ : Fr3) | rt (d : D) | bk (ρ : Fr3) | ct (ρ : Fr3)
noncomputable abbrev S3 := (F3 → Prop) → Fr3 → Prop
noncomputable def Hand (K : PySem.W.Frag) (S : Addr → Prop) (H : Hp) (Φ : D → Prop) (Q : VK) : Prop := ∀ d v H', Φ d → Same H H' → Rep K S H' d v → Q v H'
noncomputable def PD (X : Cx) (e : Expr) (t : E3) : Prop := ∃ t2, PE X e t2 ∧ ∀ B S H σ ρ Φ Q, ER X.K B S H σ ρ → t ρ Φ → Hand X.K S H Φ Q → t2 σ H Q
noncomputable def PB (X : Cx) (e : Expr) (t : B3) : Prop := ∃ t2, PT X e t2 ∧ ∀ B S H σ ρ Φ (Q : Bool → Hp → Prop), ER X.K B S H σ ρ → t ρ Φ → (∀ b H', Φ b → Same H H' → Q b H') → t2 σ H Q
noncomputable def PWB (X : Cx) (e : Expr) (t : B3) : Prop := ∃ t2, PW X e t2 ∧ ∀ B S H σ ρ Φ (Q : Bool → Hp → Prop), ER X.K B S H σ ρ → t ρ Φ → (∀ b H', Φ b → Same H H' → Q b H') → t2 σ H Q
noncomputable def PAD (X : Cx) (es : List Expr) (t : A3) : Prop := ∃ t2, PA X es t2 ∧ ∀ B S H σ ρ Φ (Q : List V → Hp → Prop), ER X.K B S H σ ρ → t ρ Φ → (∀ ds vs H', Φ ds → Same H H' → Reps X.K S H' ds vs → Q vs H') → t2 σ H Q
structure EndOk (K : PySem.W.Frag) (B : Bs) (Φ : F3 → Prop) (D' : Ends) : Prop where
  nx : ∀ ρ S H σ, Φ (.nx ρ) → ER K B S H σ ρ → D'.nx σ H
  bk : ∀ ρ S H σ, Φ (.bk ρ) → ER K B S H σ ρ → D'.bk σ H
  ct : ∀ ρ S H σ, Φ (.ct ρ) → ER K B S H σ ρ → D'.ct σ H
  rt : ∀ d v H, Φ (.rt d) → Same B.H0 H → Rep K B.S0 H d v → D'.rt v H
noncomputable def PSD (X : Cx) (st : Stmt) (t : S3) : Prop := ∃ t2, PS X st t2 ∧ ∀ B S H σ ρ Φ D', ER X.K B S H σ ρ → t Φ ρ → EndOk X.K B Φ D' → t2 D' σ H
noncomputable def PSDs (X : Cx) (st : List Stmt) (t : S3) : Prop := ∃ t2, PSs X st t2 ∧ ∀ B S H σ ρ Φ D', ER X.K B S H σ ρ → t Φ ρ → EndOk X.K B Φ D' → t2 D' σ H
end D3

set_option Elab.async false
set_option linter.all false
set_option maxRecDepth 100000
set_option maxHeartbeats 4000000
namespace D3
open PySem PySem.Spec PyProof.Rows L2
section
variable {X : Cx} {a b c e : Expr} {ta tb tc te : E3} {pos : Pos}
theorem Hand.go {K : PySem.W.Frag} {S : Addr → Prop} {H H1 : Hp} {Φ : D → Prop} {Q : VK} (h : Hand K S H Φ Q) (s : Same H H1) : Hand K S H1 Φ Q := fun d v H' p q r => h d v H' p (s.trans q) r

noncomputable abbrev dVar (i : Nat) : E3 := fun ρ Φ => match ρ[i]? with | some (.val d) => Φ d | _ => False
theorem pd_var {i : Nat} (h : PE X e (tVar i)) : PD X e (dVar i) := ⟨_, h, fun B S H σ ρ Φ Q er h hd => by
  unfold dVar at h
  split at h
  · rename_i d q
    obtain ⟨v, a, r⟩ := er.val i d q
    exact ⟨v, a, hd d v H h (Same.refl _) r⟩
  · exact h.elim⟩
noncomputable abbrev dC (d : D) : E3 := fun _ Φ => Φ d
theorem pd_int {i j pos} : PD X (.Constant (.int i) j pos) (dC (.int i)) := ⟨_, pe_int, fun _ _ H _ _ _ _ _ h hd => hd _ _ H h (Same.refl _) Rep.int⟩
theorem pd_bl {i j pos} : PD X (.Constant (.bool i) j pos) (dC (.bl i)) := ⟨_, pe_bl, fun _ _ H _ _ _ _ _ h hd => hd _ _ H h (Same.refl _) Rep.bl⟩
noncomputable abbrev R3 := D → D → (D → Prop) → Prop
noncomputable def OpD (X : Cx) (f : Value → Value → Sem Value) (r3 : R3) : Prop :=
  ∃ r, OpR X f r ∧ ∀ S H x y u v Φ Q, SOk S H → Rep X.K S H x u → Rep X.K S H y v → r3 x y Φ → Hand X.K S H Φ Q → r u v H Q
noncomputable abbrev dOp (r : R3) (ta tb : E3) : E3 := fun ρ Φ => ta ρ fun x => tb ρ fun y => r x y Φ
theorem two {r : R3} {r2 : R2} {ta2 tb2 : TE} (wa : ∀ B S H σ ρ Φ Q, ER X.K B S H σ ρ → ta ρ Φ → Hand X.K S H Φ Q → ta2 σ H Q) (wb : ∀ B S H σ ρ Φ Q, ER X.K B S H σ ρ → tb ρ Φ → Hand X.K S H Φ Q → tb2 σ H Q)
    (wr : ∀ S H x y u v Φ Q, SOk S H → Rep X.K S H x u → Rep X.K S H y v → r x y Φ → Hand X.K S H Φ Q → r2 u v H Q) :
    ∀ B S H σ ρ Φ Q, ER X.K B S H σ ρ → dOp r ta tb ρ Φ → Hand X.K S H Φ Q → tOp r2 ta2 tb2 σ H Q := fun B S H σ ρ Φ Q er h hd =>
  wa B S H σ ρ _ _ er h fun x u H1 hx s1 rx => wb B S H1 σ ρ _ _ (er.go s1) hx fun y v H2 hy s2 ry =>
    wr S H2 x y u v Φ Q ((er.ok.same s1).same s2) (rx.same s2) ry hy (hd.go (s1.trans s2))
theorem pd_op {op : Operator} {r : R3} (ho : OpD X (binaryOp op) r) (ha : PD X a ta) (hb : PD X b tb) : PD X (.BinOp a op b pos) (dOp r ta tb) := by
  obtain ⟨r2, ho, wr⟩ := ho; obtain ⟨ta2, ha, wa⟩ := ha; obtain ⟨tb2, hb, wb⟩ := hb
  exact ⟨_, pe_op ho ha hb, two wa wb wr⟩
theorem pd_cmp {op : CmpOp} {r : R3} (ho : OpD X (compareOp op) r) (ha : PD X a ta) (hb : PD X b tb) (hm : behindInMarks op b = false) : PD X (.Compare a [op] [b] pos) (dOp r ta tb) := by
  obtain ⟨r2, ho, wr⟩ := ho; obtain ⟨ta2, ha, wa⟩ := ha; obtain ⟨tb2, hb, wb⟩ := hb
  exact ⟨_, pe_cmpR ho ha hb hm, two wa wb wr⟩
noncomputable abbrev dT (t : E3) : B3 := fun ρ Φ => t ρ fun d => match d with | .bl k => Φ k | _ => False
theorem toTest {t2 : TE} {t : E3} (w : ∀ B S H σ ρ Φ Q, ER X.K B S H σ ρ → t ρ Φ → Hand X.K S H Φ Q → t2 σ H Q) :
    ∀ B S H σ ρ Φ (Q : Bool → Hp → Prop), ER X.K B S H σ ρ → dT t ρ Φ → (∀ b H', Φ b → Same H H' → Q b H') → tTest t2 σ H Q := fun B S H σ ρ Φ Q er h hd =>
  w B S H σ ρ _ _ er h fun d v H' p s r => by
    cases d with
    | bl k => exact ⟨k, rep_bl r, hd k H' p s⟩
    | non => exact p.elim
    | int _ => exact p.elim
    | str _ => exact p.elim
    | tup _ => exact p.elim
    | lst _ => exact p.elim
theorem pb_cmp {op : CmpOp} {r : R3} (ho : OpD X (compareOp op) r) (ha : PD X a ta) (hb : PD X b tb) (hm : behindInMarks op b = false) : PB X (.Compare a [op] [b] pos) (dT (dOp r ta tb)) := by
  obtain ⟨r2, ho, wr⟩ := ho; obtain ⟨ta2, ha, wa⟩ := ha; obtain ⟨tb2, hb, wb⟩ := hb
  exact ⟨_, pt_cmpR ho ha hb hm, toTest (two wa wb wr)⟩
theorem pb_val (h : PD X e te) (he : ∀ whole, isTrue e X.env whole = (do let v ← whole; standAt e.pos; holding [v] (truthy v)) := by intro _; rfl) : PB X e (dT te) := by
  obtain ⟨t2, h, w⟩ := h
  exact ⟨_, pt_val h he, toTest w⟩

noncomputable abbrev dI (C : Int → Int → Prop) (g : Int → Int → D) : R3
  | .int i, .int j, Φ => C i j ∧ Φ (g i j)
  | _, _, _ => False
noncomputable abbrev dI0 (g : Int → Int → D) : R3
  | .int i, .int j, Φ => Φ (g i j)
  | _, _, _ => False
theorem opd {f : Value → Value → Sem Value} {C : Int → Int → Prop} {g : Int → Int → V} {g3 : Int → Int → D} (h : OpR X f (rI C g)) (hg : ∀ K S H i j, Rep K S H (g3 i j) (g i j)) : OpD X f (dI C g3) :=
  ⟨_, h, fun S H x y u v Φ Q so rx ry hr hd => by
    cases x <;> cases y <;> first | exact hr.elim | skip
    rename_i i j
    exact ⟨i, j, rep_int rx, rep_int ry, hr.1, hd _ _ H hr.2 (Same.refl _) (hg ..)⟩⟩
theorem opd0 {f : Value → Value → Sem Value} {g : Int → Int → V} {g3 : Int → Int → D} (h : OpR X f (rI0 g)) (hg : ∀ K S H i j, Rep K S H (g3 i j) (g i j)) : OpD X f (dI0 g3) :=
  ⟨_, h, fun S H x y u v Φ Q so rx ry hr hd => by
    cases x <;> cases y <;> first | exact hr.elim | skip
    rename_i i j
    exact ⟨i, j, rep_int rx, rep_int ry, hd _ _ H hr (Same.refl _) (hg ..)⟩⟩
noncomputable def CD (_ j : Int) : Prop := j ≠ 0 ∧ j.natAbs.log2 < 9000
theorem op_mulA : OpR X (binaryOp .Mult) (rI IntMulOk fun i j => .int (i * j)) := opI fun _ _ _ _ _ _ _ hc q => mul_int q hc
theorem op_fdivA : OpR X (binaryOp .FloorDiv) (rI CD fun i j => .int (i.fdiv j)) := opI fun _ _ _ _ _ _ _ hc q => floordiv_int hc.1 q (.inl (PyProof.noPylong_of_log2 hc.2))
theorem o_add : OpD X (binaryOp .Add) (dI0 fun i j => .int (i + j)) := opd0 op_add fun _ _ _ _ _ => Rep.int
theorem o_sub : OpD X (binaryOp .Sub) (dI0 fun i j => .int (i - j)) := opd0 op_sub fun _ _ _ _ _ => Rep.int
theorem o_mul : OpD X (binaryOp .Mult) (dI IntMulOk fun i j => .int (i * j)) := opd op_mulA fun _ _ _ _ _ => Rep.int
theorem o_fdiv : OpD X (binaryOp .FloorDiv) (dI CD fun i j => .int (i.fdiv j)) := opd op_fdivA fun _ _ _ _ _ => Rep.int
theorem o_mod : OpD X (binaryOp .Mod) (dI (fun _ j => j ≠ 0) fun i j => .int (i.fmod j)) := opd op_modN fun _ _ _ _ _ => Rep.int
theorem o_lt : OpD X (compareOp .Lt) (dI0 fun i j => .bl (decide (i < j))) := opd0 op_lt fun _ _ _ _ _ => Rep.bl
theorem o_le : OpD X (compareOp .LtE) (dI0 fun i j => .bl (decide (i ≤ j))) := opd0 op_le fun _ _ _ _ _ => Rep.bl
theorem o_gt : OpD X (compareOp .Gt) (dI0 fun i j => .bl (decide (j < i))) := opd0 op_gt fun _ _ _ _ _ => Rep.bl
noncomputable abbrev dEq : R3
  | .int i, .int j, Φ => Φ (.bl (decide (i = j)))
  | .bl i, .bl j, Φ => Φ (.bl (decide (i = j)))
  | .str i, .str j, Φ => Φ (.bl (decide (i = j)))
  | .non, .non, Φ => Φ (.bl true)
  | .non, .int _, Φ => Φ (.bl false)
  | .int _, .non, Φ => Φ (.bl false)
  | _, _, _ => False
noncomputable abbrev dNe : R3
  | .int i, .int j, Φ => Φ (.bl (!decide (i = j)))
  | .bl i, .bl j, Φ => Φ (.bl (!decide (i = j)))
  | .str i, .str j, Φ => Φ (.bl (!decide (i = j)))
  | .non, .non, Φ => Φ (.bl false)
  | .non, .int _, Φ => Φ (.bl true)
  | .int _, .non, Φ => Φ (.bl true)
  | _, _, _ => False
theorem dec_inj {α : Type} [DecidableEq α] {f : α → V} (hf : ∀ a b, f a = f b → a = b) (i j : α) : decide (f i = f j) = decide (i = j) := by
  by_cases h : i = j
  · subst h; simp
  · rw [decide_eq_false h, decide_eq_false fun q => h (hf _ _ q)]
theorem o_eq : OpD X (compareOp .Eq) dEq := ⟨_, op_eq, fun S H x y u v Φ Q so rx ry hr hd => by
  cases x <;> cases y <;> first | exact hr.elim | skip
  · cases rep_non rx; cases rep_non ry; exact ⟨rfl, hd _ _ H hr (Same.refl _) Rep.bl⟩
  · cases rep_non rx; cases rep_int ry; exact ⟨rfl, hd _ _ H hr (Same.refl _) Rep.bl⟩
  · rename_i i j
    cases rep_bl rx; cases rep_bl ry; refine ⟨rfl, hd _ _ H hr (Same.refl _) ?_⟩
    rw [dec_inj (fun a b q => V.bl.inj q)]; exact Rep.bl
  · cases rep_int rx; cases rep_non ry; exact ⟨rfl, hd _ _ H hr (Same.refl _) Rep.bl⟩
  · rename_i i j
    cases rep_int rx; cases rep_int ry; refine ⟨rfl, hd _ _ H hr (Same.refl _) ?_⟩
    rw [dec_inj (fun a b q => V.int.inj q)]; exact Rep.bl
  · rename_i i j
    cases rep_str rx; cases rep_str ry; refine ⟨rfl, hd _ _ H hr (Same.refl _) ?_⟩
    rw [dec_inj (fun a b q => V.str.inj q)]; exact Rep.bl⟩
theorem o_ne : OpD X (compareOp .NotEq) dNe := ⟨_, op_ne, fun S H x y u v Φ Q so rx ry hr hd => by
  cases x <;> cases y <;> first | exact hr.elim | skip
  · cases rep_non rx; cases rep_non ry; exact ⟨rfl, hd _ _ H hr (Same.refl _) Rep.bl⟩
  · cases rep_non rx; cases rep_int ry; exact ⟨rfl, hd _ _ H hr (Same.refl _) Rep.bl⟩
  · rename_i i j
    cases rep_bl rx; cases rep_bl ry; refine ⟨rfl, hd _ _ H hr (Same.refl _) ?_⟩
    rw [dec_inj (fun a b q => V.bl.inj q)]; exact Rep.bl
  · cases rep_int rx; cases rep_non ry; exact ⟨rfl, hd _ _ H hr (Same.refl _) Rep.bl⟩
  · rename_i i j
    cases rep_int rx; cases rep_int ry; refine ⟨rfl, hd _ _ H hr (Same.refl _) ?_⟩
    rw [dec_inj (fun a b q => V.int.inj q)]; exact Rep.bl
  · rename_i i j
    cases rep_str rx; cases rep_str ry; refine ⟨rfl, hd _ _ H hr (Same.refl _) ?_⟩
    rw [dec_inj (fun a b q => V.str.inj q)]; exact Rep.bl⟩
noncomputable abbrev dU (r : D → (D → Prop) → Prop) (ta : E3) : E3 := fun ρ Φ => ta ρ fun x => r x Φ
noncomputable abbrev dNeg : D → (D → Prop) → Prop
  | .int i, Φ => Φ (.int (-i))
  | _, _ => False
theorem pd_neg (ha : PD X a ta) : PD X (.UnaryOp .USub a pos) (dU dNeg ta) := by
  obtain ⟨ta2, ha, wa⟩ := ha
  refine ⟨_, pe_un un_neg ha, fun B S H σ ρ Φ Q er h hd => wa B S H σ ρ _ _ er h fun x u H1 hx s1 rx => ?_⟩
  cases x <;> first | exact hx.elim | skip
  exact ⟨_, rep_int rx, hd _ _ H1 hx s1 Rep.int⟩
variable {tA tB' : B3} {rest : List Expr}
noncomputable abbrev bAnd (t u : B3) : B3 := fun ρ Φ => t ρ fun k => if k = true then u ρ Φ else Φ false
noncomputable abbrev bNot (t : B3) : B3 := fun ρ Φ => t ρ fun k => Φ (!k)
theorem PWB.pb {e : Expr} {t : B3} (h : PWB X e t) : PB X e t := let ⟨t2, h, w⟩ := h; ⟨t2, h.pt, w⟩
theorem pb_and1 (ha : PB X a tA) : PWB X (.BoolOp .And [a] pos) tA := let ⟨t2, h, w⟩ := ha; ⟨t2, pw_and1 h, w⟩
theorem pb_and (ha : PB X a tA) (hb : PWB X (.BoolOp .And (b :: rest) pos) tB') : PWB X (.BoolOp .And (a :: b :: rest) pos) (bAnd tA tB') := by
  obtain ⟨t2, h, w⟩ := ha; obtain ⟨u2, g, z⟩ := hb
  refine ⟨_, pw_and h g, fun B S H σ ρ Φ Q er q hd => w B S H σ ρ _ _ er q fun k H1 hk s1 => ?_⟩
  cases k with
  | true =>
    have hk : tB' ρ Φ := by simpa using hk
    simp only [if_true]
    exact z B S H1 σ ρ _ _ (er.go s1) hk fun k2 H2 h2 s2 => hd k2 H2 h2 (s1.trans s2)
  | false =>
    have hk : Φ false := by simpa using hk
    simp only [Bool.false_eq_true, if_false]
    exact hd false H1 hk s1
theorem pb_not (ha : PB X a tA) : PB X (.UnaryOp .Not a pos) (bNot tA) := by
  obtain ⟨t2, h, w⟩ := ha
  exact ⟨_, pt_not h, fun B S H σ ρ Φ Q er q hd => w B S H σ ρ _ _ er q fun k H1 hk s1 => hd _ H1 hk s1⟩
noncomputable abbrev dAnd (ta tb : E3) : E3 := fun ρ Φ => dT ta ρ fun k => if k = true then tb ρ Φ else Φ (.bl false)
theorem pd_one {op} {t : E3} (h : PD X a t) : PD X (.BoolOp op [a] pos) t := let ⟨t2, h, w⟩ := h; ⟨t2, pe_one h, w⟩
theorem pd_and (ha : PD X a ta) (hb : PD X (.BoolOp .And (b :: rest) pos) tb) : PD X (.BoolOp .And (a :: b :: rest) pos) (dAnd ta tb) := by
  obtain ⟨t2, h, w⟩ := ha; obtain ⟨u2, g, z⟩ := hb
  refine ⟨_, pe_and h g, fun B S H σ ρ Φ Q er q hd => w B S H σ ρ _ _ er q fun d v H1 hk s1 r => ?_⟩
  cases d <;> first | exact hk.elim | skip
  rename_i k
  refine ⟨k, rep_bl r, ?_⟩
  cases k with
  | true =>
    have hk : tb ρ Φ := by simpa using hk
    simp only [if_true]
    exact z B S H1 σ ρ _ _ (er.go s1) hk (hd.go s1)
  | false =>
    have hk : Φ (.bl false) := by simpa using hk
    simp only [Bool.false_eq_true, if_false]
    exact hd _ _ H1 hk s1 Rep.bl
variable {es : List Expr} {tr : A3}
noncomputable abbrev aNil : A3 := fun _ Φ => Φ []
noncomputable abbrev aCons (ta : E3) (tr : A3) : A3 := fun ρ Φ => ta ρ fun x => tr ρ fun xs => Φ (x :: xs)
theorem pad_nil : PAD X [] aNil := ⟨_, pa_nil, fun B S H σ ρ Φ Q er h hd => hd [] [] H h (Same.refl _) Reps.nil⟩
theorem pad_cons (ha : PD X e te) (hr : PAD X es tr) (hs : starEach (e :: es) X.env = (false, eval e X.env) :: starEach es X.env := by rfl) : PAD X (e :: es) (aCons te tr) := by
  obtain ⟨t2, h, w⟩ := ha; obtain ⟨u2, g, z⟩ := hr
  exact ⟨_, pa_cons h g hs, fun B S H σ ρ Φ Q er q hd => w B S H σ ρ _ _ er q fun d v H1 hk s1 r => z B S H1 σ ρ _ _ (er.go s1) hk fun ds vs H2 h2 s2 r2 => hd _ _ H2 h2 (s1.trans s2) (Reps.cons (r.same s2) r2)⟩
noncomputable abbrev dTup (t : A3) : E3 := fun ρ Φ => t ρ fun ds => ds.length ≤ sizeLine ∧ Φ (.tup ds)
theorem pd_tup {x1} (h : PAD X es tr) : PD X (.Tuple es x1 pos) (dTup tr) := by
  obtain ⟨t2, h, w⟩ := h
  exact ⟨_, pe_tup h, fun B S H σ ρ Φ Q er q hd => w B S H σ ρ _ _ er q fun ds vs H1 hk s1 r => ⟨by rw [← r.len]; exact hk.1, fun p hp => hd _ _ _ hk.2 (s1.trans (same_new hp)) (Rep.newTup hp r)⟩⟩
noncomputable abbrev onS {α : Type} (o : Option α) (Φ : α → Prop) : Prop := match o with | some d => Φ d | none => False
theorem onS_of {α : Type} {o : Option α} {d : α} {Φ : α → Prop} (e : o = some d) (h : Φ d) : onS o Φ := by subst e; exact h
theorem of_onS {α : Type} {o : Option α} {Φ : α → Prop} (h : onS o Φ) : ∃ d, o = some d ∧ Φ d := by
  cases o with
  | none => exact h.elim
  | some d => exact ⟨d, rfl, h⟩
noncomputable abbrev dIx : R3
  | .tup ds, .int i, Φ => onS (atI ds i) Φ
  | .lst ds, .int i, Φ => onS (atI ds i) Φ
  | _, _, _ => False
theorem atI_rep {K : PySem.W.Frag} {S : Addr → Prop} {H : Hp} {ds : List D} {vs : List V} {i : Int} {d : D} (r : Reps K S H ds vs) (h : atI ds i = some d) : ∃ v, atI vs i = some v ∧ Rep K S H d v := by
  unfold atI at h ⊢
  rw [r.len] at h
  cases q : ixN vs.length i with
  | none => rw [q] at h; cases h
  | some j =>
    rw [q] at h
    exact r.get h
theorem pd_ix (ha : PD X a ta) (hb : PD X b tb) (hs : PlainIx b) : PD X (.Subscript a b pos) (dOp dIx ta tb) := by
  obtain ⟨t2, h, w⟩ := ha; obtain ⟨u2, g, z⟩ := hb
  refine ⟨_, pe_ix (ix_list.or ix_tup) h g hs, two w z fun S H x y u v Φ Q so rx ry hr hd => ?_⟩
  cases x <;> cases y <;> first | exact hr.elim | skip
  · rename_i ds i
    obtain ⟨p, xs, rfl, q, rs⟩ := rep_tup rx
    obtain ⟨d, e, hr⟩ := of_onS (show onS (atI ds i) Φ from hr)
    obtain ⟨w, ew, rw'⟩ := atI_rep rs e
    exact .inr ⟨p, xs, i, w, rfl, rep_int ry, q, ew, hd _ _ H hr (Same.refl _) rw'⟩
  · rename_i ds i
    obtain ⟨p, xs, rfl, q, rs⟩ := rep_lst rx
    obtain ⟨d, e, hr⟩ := of_onS (show onS (atI ds i) Φ from hr)
    obtain ⟨w, ew, rw'⟩ := atI_rep rs e
    exact .inl ⟨p, xs, i, w, rfl, rep_int ry, q.sq, ew, hd _ _ H hr (Same.refl _) rw'⟩
end
end D3

set_option Elab.async false
set_option linter.all false
set_option maxRecDepth 100000
set_option maxHeartbeats 4000000
namespace D3
open PySem PySem.Spec PyProof.Rows L2
section
variable {X : Cx} {st : Stmt} {rest : List Stmt} {t u : S3} {a b e : Expr} {te ta tb : E3} {pos : Pos}
noncomputable abbrev sNext : S3 := fun Φ ρ => Φ (.nx ρ)
noncomputable abbrev thenS (u : (F3 → Prop) → Fr3 → Prop) (Φ : F3 → Prop) : F3 → Prop
  | .nx ρ => u Φ ρ
  | .rt d => Φ (.rt d)
  | .bk ρ => Φ (.bk ρ)
  | .ct ρ => Φ (.ct ρ)
noncomputable abbrev sSeq (t u : S3) : S3 := fun Φ ρ => t (thenS u Φ) ρ
theorem psd_nil : PSDs X [] sNext := ⟨_, pss_nil, fun B S H σ ρ Φ D' er h ok => ok.nx ρ S H σ h er⟩
theorem psd_cons (h1 : PSD X st t) (h2 : PSDs X rest u) : PSDs X (st :: rest) (sSeq t u) := by
  obtain ⟨t2, h, w⟩ := h1; obtain ⟨u2, g, z⟩ := h2
  refine ⟨_, pss_cons h g, fun B S H σ ρ Φ D' er q ok => w B S H σ ρ _ _ er q ⟨fun ρ' S' H' σ' p er' => z B S' H' σ' ρ' Φ D' er' p ok, ok.bk, ok.ct, ok.rt⟩⟩
theorem psd_one (h1 : PSD X st t) : PSDs X [st] t := let ⟨t2, h, w⟩ := h1; ⟨_, pss_one h, w⟩
noncomputable abbrev sNever : S3 := fun _ _ => False
theorem psd_never : PSD X st sNever := ⟨_, ps_never, fun _ _ _ _ _ _ _ _ h _ => h⟩
noncomputable abbrev sRet (te : E3) : S3 := fun Φ ρ => te ρ fun d => Φ (.rt d)
theorem psd_ret (he : PD X e te) : PSD X (.Return (some e) pos) (sRet te) := by
  obtain ⟨t2, h, w⟩ := he
  exact ⟨_, ps_ret h, fun B S H σ ρ Φ D' er q ok => w B S H σ ρ _ _ er q fun d v H1 p s r => ok.rt d v H1 p (er.same.trans s) (r.sub er.sub)⟩
noncomputable abbrev sIf (c : B3) (t u : S3) : S3 := fun Φ ρ => c ρ fun k => if k = true then t Φ ρ else u Φ ρ
theorem psd_if {c : Expr} {as bs : List Stmt} {tc : B3} (hc : PB X c tc) (ha : PSDs X as t) (hb : PSDs X bs u) : PSD X (.If c as bs pos) (sIf tc t u) := by
  obtain ⟨c2, h, w⟩ := hc; obtain ⟨t2, ha, wa⟩ := ha; obtain ⟨u2, hb, wb⟩ := hb
  refine ⟨_, ps_if h ha hb, fun B S H σ ρ Φ D' er q ok => w B S H σ ρ _ _ er q fun k H1 hk s1 => ?_⟩
  cases k with
  | true =>
    have hk : t Φ ρ := by simpa using hk
    simp only [if_true]
    exact wa B S H1 σ ρ _ _ (er.go s1) hk ok
  | false =>
    have hk : u Φ ρ := by simpa using hk
    simp only [Bool.false_eq_true, if_false]
    exact wb B S H1 σ ρ _ _ (er.go s1) hk ok
theorem ER.put {K : PySem.W.Frag} {B : Bs} {S : Addr → Prop} {H : Hp} {σ : L2.St} {ρ : Fr3} {i : Nat} {d : D} {v : V} (er : ER K B S H σ ρ) (r : Rep K S H d v) : ER K B S H (σ.set i (some v)) (ρ.set i (.val d)) where
  len := by rw [List.length_set, List.length_set]; exact er.len
  same := er.same
  sub := er.sub
  ok0 := er.ok0
  ok := er.ok
  val := fun j c q => by
    rw [List.getElem?_set] at q
    split at q
    · rename_i hij
      subst hij
      split at q
      · rename_i hl
        cases q
        exact ⟨v, by rw [List.getElem?_set_self (by rw [er.len]; exact hl)], r⟩
      · cases q
    · rename_i hij
      obtain ⟨w, e, r'⟩ := er.val j c q
      exact ⟨w, by rw [List.getElem?_set_ne hij]; exact e, r'⟩
  own := fun j c q => by
    rw [List.getElem?_set] at q
    split at q
    · split at q <;> cases q
    · rename_i hij
      obtain ⟨a, xs, e, r'⟩ := er.own j c q
      exact ⟨a, xs, by rw [List.getElem?_set_ne hij]; exact e, r'⟩
  uq := fun j k a ds es q1 q2 e1 e2 => by
    rw [List.getElem?_set] at q1 q2
    split at q1
    · split at q1 <;> cases q1
    · split at q2
      · split at q2 <;> cases q2
      · rename_i h1 h2
        rw [List.getElem?_set_ne h1] at e1
        rw [List.getElem?_set_ne h2] at e2
        exact er.uq j k a ds es q1 q2 e1 e2
  dct := fun j ks ds q => by
    rw [List.getElem?_set] at q
    split at q
    · split at q <;> cases q
    · rename_i hij
      obtain ⟨a, e, r'⟩ := er.dct j ks ds q
      exact ⟨a, by rw [List.getElem?_set_ne hij]; exact e, r'⟩
  dq := fun j k a ks ds ks' ds' q1 q2 e1 e2 => by
    rw [List.getElem?_set] at q1 q2
    split at q1
    · split at q1 <;> cases q1
    · split at q2
      · split at q2 <;> cases q2
      · rename_i h1 h2
        rw [List.getElem?_set_ne h1] at e1
        rw [List.getElem?_set_ne h2] at e2
        exact er.dq j k a ks ds ks' ds' q1 q2 e1 e2
  gh := er.gh
noncomputable abbrev sSet (i : Nat) (te : E3) : S3 := fun Φ ρ => te ρ fun d => Φ (.nx (ρ.set i (.val d)))
theorem psd_set {i : Nat} {x : Str} {pos' : Pos} (hN : X.N.Nodup) (hi : X.N[i]? = some x) (hx : Loc X.env.scope x) (he : PD X e te) (hs : swapsWith e (some (.Name x pos')) pos.line X.env = pure false := by rfl)
    (hf : X.fn x = true ∨ X.env.scope.names.lookup x = some .local := by first | exact .inl rfl | exact .inr rfl | assumption) : PSD X (.Assign [.Name x pos'] e pos) (sSet i te) := by
  obtain ⟨t2, h, w⟩ := he
  exact ⟨_, ps_set hN hi hx h hs hf, fun B S H σ ρ Φ D' er q ok => w B S H σ ρ _ _ er q fun d v H1 p s r => ok.nx _ S H1 _ p ((er.go s).put r)⟩
end
noncomputable abbrev Con := List D → (D → Prop) → Prop
noncomputable def Mono (C : Con) : Prop := ∀ ds (Φ Ψ : D → Prop), (∀ d, Φ d → Ψ d) → C ds Φ → C ds Ψ
noncomputable def spD (K : PySem.W.Frag) (n : Nat) (C : Con) : Sp := fun vs H Q _ => ∃ ds S, ds.length = n ∧ Reps K S H ds vs ∧ SOk S H ∧ C ds fun d => ∀ v H', Same H H' → Rep K S H' d v → Q v H'
noncomputable abbrev dCall (n : Nat) (C : Con) (ta : A3) : E3 := fun ρ Φ => ta ρ fun ds => ds.length = n ∧ C ds Φ
section
variable {X : Cx} {k : Nat} {f : Addr} {fd : FuncData} {ps : List Str} {C : Con} {x : Str} {p pos : Pos} {e : Expr} {es : List Expr} {ta : A3}
theorem pd_call (F : FnOk X.prog X.w X.K X.mg X.base CX0 k f fd ps (spD X.K ps.length C)) (mo : Mono C) (hr : Room k X.A) (hg : Gl X x) (hm : X.mg x = some (.ref f)) (hk : PySem.W.keepIn X.K (.ref f) = true) (hb : Binds X.K fd ps [])
    (ha : PAD X (e :: es) ta) (hdb : (x == ("__debug__" : Str)) = false := by decide) (he : starEach (e :: es) X.env = (false, eval e X.env) :: starEach es X.env := by rfl) (hpl : (backTo pos (starEach es X.env)).any (·.1) = false := by rfl) :
    PD X (.Call (.Name x p) (e :: es) [] pos) (dCall ps.length C ta) := by
  obtain ⟨t2, h, w⟩ := ha
  refine ⟨_, pe_call F hr hg hm hk hb .nil pass0 h hdb he hpl, fun B S H σ ρ Φ Q er q hd => w B S H σ ρ _ _ er q fun ds vs H1 hc s1 r => ?_⟩
  rw [List.append_nil]
  exact ⟨ds, S, hc.1, r, er.ok.same s1, mo ds Φ _ (fun d hΦ v H' s r' => hd d v H' hΦ (s1.trans s) r') hc.2⟩
end
noncomputable abbrev finD (Φ : D → Prop) : F3 → Prop
  | .nx _ => Φ .non
  | .rt d => Φ d
  | _ => False
noncomputable def startD (n : Nat) (ds : List D) : Fr3 := ds.map .val ++ List.replicate (n - ds.length) .un
theorem er_start {K : PySem.W.Frag} {S : Addr → Prop} {H : Hp} {ds : List D} {vs : List V} {N : List Str} (r : Reps K S H ds vs) (so : SOk S H) : ER K ⟨S, H, []⟩ S H (L2.start N vs) (startD N.length ds) where
  len := by
    unfold L2.start startD
    rw [List.length_append, List.length_append, List.length_map, List.length_map, List.length_replicate, List.length_replicate, r.len]
  same := Same.refl _
  sub := fun _ h => h
  ok0 := so
  ok := so
  val := fun i d q => by
    unfold startD at q
    rw [List.getElem?_append] at q
    split at q
    · rename_i hl
      rw [List.length_map] at hl
      rw [List.getElem?_map] at q
      cases e : ds[i]? with
      | none => rw [e] at q; cases q
      | some c =>
        rw [e] at q
        cases q
        obtain ⟨v, ev, rv⟩ := r.get e
        refine ⟨v, ?_, rv⟩
        unfold L2.start
        rw [List.getElem?_append_left (by rw [List.length_map, ← r.len]; exact hl), List.getElem?_map, ev]
        rfl
    · rw [List.getElem?_replicate] at q
      split at q <;> cases q
  own := fun i d q => by
    unfold startD at q
    rw [List.getElem?_append] at q
    split at q
    · rw [List.getElem?_map] at q
      cases e : ds[i]? with
      | none => rw [e] at q; cases q
      | some c => rw [e] at q; cases q
    · rw [List.getElem?_replicate] at q
      split at q <;> cases q
  uq := fun i j a d es q _ _ _ => by
    unfold startD at q
    rw [List.getElem?_append] at q
    split at q
    · rw [List.getElem?_map] at q
      cases e : ds[i]? with
      | none => rw [e] at q; cases q
      | some c => rw [e] at q; cases q
    · rw [List.getElem?_replicate] at q
      split at q <;> cases q
  dct := fun i ks d q => by
    unfold startD at q
    rw [List.getElem?_append] at q
    split at q
    · rw [List.getElem?_map] at q
      cases e : ds[i]? with
      | none => rw [e] at q; cases q
      | some c => rw [e] at q; cases q
    · rw [List.getElem?_replicate] at q
      split at q <;> cases q
  dq := fun i j a ks d ks' ds' q _ _ _ => by
    unfold startD at q
    rw [List.getElem?_append] at q
    split at q
    · rw [List.getElem?_map] at q
      cases e : ds[i]? with
      | none => rw [e] at q; cases q
      | some c => rw [e] at q; cases q
    · rw [List.getElem?_replicate] at q
      split at q <;> cases q
  gh := fun p hp => by cases hp
section
variable {P : Program} {w : World} {K : PySem.W.Frag} {mg : Str → Option Value} {base : Heap}
theorem fn_ok {x qual : Str} {st : Stmt} {f : Addr} {fd : FuncData} {N ps : List Str} {k : Nat} {C : Con} (F : Fun K x qual st f fd) (S : FnScope N ps (defScope st))
    (body : ∀ (cdv : Value) (A : Around) (outer : List Env) (s : Shared) (H : Hp) (E : XK), Room k (A.deeper (envOfC qual (defScope st) s.heap.objs.size f cdv)) →
      ∃ t, PSDs (cxOf CX0 P w K mg base N qual (defScope st) f cdv A outer s H E).nox (defBody st) t ∧ ∀ ds Φ, ds.length = ps.length → C ds Φ → t (finD Φ) (startD N.length ds)) :
    FnOk P w K mg base CX0 (k + 1) f fd ps (spD K ps.length C) := by
  refine F.ok S (fun vs H Q E h => ?_) (fun cdv A outer s H vs Q E hr h => ?_)
  · obtain ⟨ds, S, hl, r, _⟩ := h
    rw [← r.len]; exact hl
  · obtain ⟨t, ⟨t2, ht, wt⟩, rd⟩ := body cdv A outer s H E hr
    obtain ⟨ds, S, hl, r, so, hc⟩ := h
    refine ⟨t2, ht, wt ⟨S, H, []⟩ S H (L2.start N vs) (startD N.length ds) (finD fun d => ∀ v H', Same H H' → Rep K S H' d v → Q v H') _ (er_start r so) (rd ds _ hl hc) ⟨?_, ?_, ?_, ?_⟩⟩
    · intro ρ S' H' σ' h er
      exact h .non H' er.same Rep.non
    · intro ρ S' H' σ' h er
      exact h.elim
    · intro ρ S' H' σ' h er
      exact h.elim
    · intro d v H' h s r'
      exact h v H' s r'
end
noncomputable def cLaw : Con := fun ds Φ => ∃ ns : List Int, ds = [.lst (ns.map .int)] ∧ ns.length ≤ 63 ∧ Φ (.bl true)
theorem law_sp {K : PySem.W.Frag} {H : Hp} {a : Addr} {ns : List Int} (hl : ns.length ≤ 63) (h : SqL K H a (ns.map V.int)) : spD K 1 cLaw [.ref a] H (fun v _ => v = .bl true) fun _ _ _ => False := by
  refine ⟨[.lst (ns.map .int)], fun _ => False, rfl, Reps.cons (Rep.lst ?_ (Reps.ints ns)) Reps.nil, fun a h => h.elim, ns, rfl, hl, fun v H' s r => rep_bl r⟩
  exact h.elim (fun x => .inl ⟨id, x⟩) .inr
theorem walk {l : PySem.W.OpenLaw} {q : Program} {k : Nat} {loose : List Str} {XP : (Str → Option Value) → Heap → Prop} {YP : World → Heap → Prop} {d : DefRec} {K : Params → PySem.W.Frag} (hn : l.most = some 63) (hdf : d.params.defaults = []) (hr : Room k callerA)
    (hY : ∀ (w : World) (h : Heap), YP w h → (K w.params).In h)
    (F : ∀ (w : World) (mg : Str → Option Value) (fa : Addr) (h : Heap), (K w.params).In h → h.Ns mainGlobals mg → mg d.name = some (.ref fa) →
      ∃ fd : FuncData, (∀ (s : Shared) (u : Value), BindsTo s fd ⟨[u], []⟩ [("script", u)]) ∧ ∀ base : Heap, (K w.params).In base → base.Ns mainGlobals mg → FnOk l.prog w (K w.params) mg base CX0 k fa fd ["script"] (spD (K w.params) 1 cLaw)) :
    PySem.W.WalkO q loose XP YP l.row.toRowW d [] (fun f vs => PySem.call f vs) :=
  L2.walk_of (n := 63) (k := k) (x := "script") (CX := fun _ => CX0) (sp := fun w => spD (K w.params) 1 cLaw) hn (by decide) hdf hr hY F (fun _ _ a ns hl _ hS => law_sp hl hS) fun _ _ _ _ _ z => z
end D3

set_option Elab.async false
set_option linter.all false
set_option maxRecDepth 100000
set_option maxHeartbeats 4000000
namespace D3
open PySem PySem.Spec PyProof.Rows L2
noncomputable abbrev G3 := D → Fr3 → (Fr3 → Prop) → Prop
noncomputable abbrev Gs3 := List D → Fr3 → (Fr3 → Prop) → Prop
noncomputable def PGD (X : Cx) (tg : Expr) (g : G3) : Prop := ∃ g2, PG X tg g2 ∧ ∀ B S H σ ρ d v Ψ (Q : L2.St → Hp → Prop), ER X.K B S H σ ρ → Rep X.K S H d v → g d ρ Ψ → (∀ ρ' σ', Ψ ρ' → ER X.K B S H σ' ρ' → Q σ' H) → g2 v σ H Q
noncomputable def PGDs (X : Cx) (tg : List Expr) (g : Gs3) : Prop := ∃ g2, PGs X tg g2 ∧ ∀ B S H σ ρ d v Ψ (Q : L2.St → Hp → Prop), ER X.K B S H σ ρ → Reps X.K S H d v → g d ρ Ψ → (∀ ρ' σ', Ψ ρ' → ER X.K B S H σ' ρ' → Q σ' H) → g2 v σ H Q
section
variable {X : Cx} {e : Expr} {es : List Expr} {pos : Pos} {te : E3}
noncomputable abbrev gN (i : Nat) : G3 := fun d ρ Ψ => Ψ (ρ.set i (.val d))
theorem pgd_name {i : Nat} {x : Str} (hN : X.N.Nodup) (hi : X.N[i]? = some x) (hx : Loc X.env.scope x) (hf : X.fn x = true ∨ X.env.scope.names.lookup x = some .local := by first | exact .inl rfl | exact .inr rfl | assumption) : PGD X (.Name x pos) (gN i) :=
  ⟨_, pg_name hN hi hx hf, fun B S H σ ρ d v Ψ Q er r h k => k _ _ h (er.put r)⟩
noncomputable abbrev gNil3 : Gs3
  | [], ρ, Ψ => Ψ ρ
  | _ :: _, _, _ => False
noncomputable abbrev gCons3 (g : G3) (gs : Gs3) : Gs3
  | d :: ds, ρ, Ψ => g d ρ fun ρ' => gs ds ρ' Ψ
  | [], _, _ => False
theorem pgds_nil : PGDs X [] gNil3 := ⟨_, pgs_nil, fun B S H σ ρ d v Ψ Q er r h k => by
  cases d with
  | nil => simp only [Reps] at r; subst r; exact ⟨rfl, k ρ σ h er⟩
  | cons _ _ => exact h.elim⟩
theorem pgds_cons {g : G3} {gs : Gs3} (h1 : PGD X e g) (h2 : PGDs X es gs) (hs : (assignEach (e :: es) X.env).map (·.2) = assign e X.env :: (assignEach es X.env).map (·.2) := by rfl) : PGDs X (e :: es) (gCons3 g gs) := by
  obtain ⟨g2, h1, w1⟩ := h1; obtain ⟨u2, h2, w2⟩ := h2
  refine ⟨_, pgs_cons h1 h2 hs, fun B S H σ ρ d v Ψ Q er r h k => ?_⟩
  cases d with
  | nil => exact h.elim
  | cons c cs =>
    simp only [Reps] at r
    obtain ⟨x, y, rfl, rx, ry⟩ := r
    exact ⟨x, y, rfl, w1 B S H σ ρ c x _ _ er rx h fun ρ' σ' p er' => w2 B S H σ' ρ' cs y Ψ Q er' ry p k⟩
noncomputable abbrev sAsg (te : E3) (g : G3) : S3 := fun Φ ρ => te ρ fun d => g d ρ fun ρ' => Φ (.nx ρ')
theorem psd_asg {tg : Expr} {g : G3} (he : PD X e te) (hg : PGD X tg g) (hs : swapsWithSole [tg] e pos.line X.env = pure false := by rfl) (hw : swappedStores [tg] e X.env = pure none := by rfl)
    (h1 : (assignEach [tg] X.env).map (·.2) = [assign tg X.env] := by rfl) : PSD X (.Assign [tg] e pos) (sAsg te g) := by
  obtain ⟨t2, h, w⟩ := he; obtain ⟨g2, hg, wg⟩ := hg
  exact ⟨_, ps_asg h hg hs hw h1, fun B S H σ ρ Φ D' er q ok => w B S H σ ρ _ _ er q fun d v H1 p s r => wg B S H1 σ ρ d v _ _ (er.go s) r p fun ρ' σ' p' er' => ok.nx ρ' S H1 σ' p' er'⟩
noncomputable abbrev sPar (i j : Nat) (ta : A3) : S3 := fun Φ ρ => ta ρ fun ds => match ds with
  | [c, d] => Φ (.nx ((ρ.set i (.val c)).set j (.val d)))
  | _ => False
theorem psd_par {i j : Nat} {x y : Str} {a b : Expr} {ta : A3} {px py pt : Pos} {kt k2 pt2} (hc : X.calm = true) (hN : X.N.Nodup) (hi : X.N[i]? = some x) (hj : X.N[j]? = some y) (hij : i ≠ j)
    (hx : X.env.scope.names.lookup x = some .local) (hy : X.env.scope.names.lookup y = some .local) (ha : PAD X [a, b] ta)
    (hw : swappedStores [.Tuple [.Name x px, .Name y py] kt pt] (.Tuple [a, b] k2 pt2) X.env = pure (some [x, y]))
    (hs : swapsWithSole [.Tuple [.Name x px, .Name y py] kt pt] (.Tuple [a, b] k2 pt2) pos.line X.env = pure false := by rfl) :
    PSD X (.Assign [.Tuple [.Name x px, .Name y py] kt pt] (.Tuple [a, b] k2 pt2) pos) (sPar i j ta) := by
  obtain ⟨t2, h, w⟩ := ha
  refine ⟨_, ps_par hc hN hi hj hij hx hy h hw hs, fun B S H σ ρ Φ D' er q ok => w B S H σ ρ _ _ er q fun ds vs H1 p s r => ?_⟩
  match ds, p with
  | [c, d], p =>
    simp only [Reps] at r
    obtain ⟨u, _, rfl, ru, v, _, rfl, rv, rfl⟩ := r
    exact ⟨u, v, rfl, ok.nx _ S H1 _ p (((er.go s).put ru).put rv)⟩
end
noncomputable abbrev loopS (k : (F3 → Prop) → Fr3 → Prop) (Φ : F3 → Prop) : F3 → Prop
  | .nx ρ => k Φ ρ
  | .ct ρ => k Φ ρ
  | .bk ρ => Φ (.nx ρ)
  | .rt d => Φ (.rt d)
noncomputable def FOR (g : G3) (tb : S3) : List D → (F3 → Prop) → Fr3 → Prop
  | [], Φ, ρ => Φ (.nx ρ)
  | d :: ds, Φ, ρ => g d ρ fun ρ1 => tb (loopS (FOR g tb ds) Φ) ρ1
noncomputable def Wlk (K : PySem.W.Frag) (J : It) (d : D) (v : V) (ds : List D) : Prop := ∀ S H, Rep K S H d v → J.stop ds.length H ∧ ∀ (i : Nat), i < ds.length → J.go i H ∧ ∀ x H', J.yld i H x H' → H' = H ∧ ∃ e, ds[i]? = some e ∧ Rep K S H e x
noncomputable def WlkL (K : PySem.W.Frag) (J : It) (hs : List (D × V)) (ds : List D) : Prop := ∀ S H, (∀ p ∈ hs, Rep K S H p.1 p.2) → J.stop ds.length H ∧ ∀ (i : Nat), i < ds.length → J.go i H ∧ ∀ x H', J.yld i H x H' → Same H H' ∧ ∃ e, ds[i]? = some e ∧ Rep K S H' e x
theorem Wlk.l {K : PySem.W.Frag} {J : It} {d : D} {v : V} {ds : List D} (h : Wlk K J d v ds) : WlkL K J [(d, v)] ds := fun S H r => by
  obtain ⟨a, b⟩ := h S H (r (d, v) (by simp))
  refine ⟨a, fun i hi => ⟨(b i hi).1, fun x H' y => ?_⟩⟩
  obtain ⟨rfl, e, ee, re⟩ := (b i hi).2 x H' y
  exact ⟨Same.refl _, e, ee, re⟩
noncomputable def PID (X : Cx) (tg iter : Expr) (t : A3) : Prop := ∃ wi, PI X tg iter wi ∧ ∀ B S H σ ρ Φ (R : It → Hp → Prop), ER X.K B S H σ ρ → t ρ Φ → (∀ ds J hs H1, Φ ds → Same H H1 → (∀ p ∈ hs, Rep X.K S H1 p.1 p.2) → WlkL X.K J hs ds → R J H1) → wi σ H R
theorem PID.one {X : Cx} {tg iter : Expr} {t : A3} (h : ∃ wi, PI X tg iter wi ∧ ∀ B S H σ ρ Φ (R : It → Hp → Prop), ER X.K B S H σ ρ → t ρ Φ → (∀ ds J d v H1, Φ ds → Same H H1 → Rep X.K S H1 d v → Wlk X.K J d v ds → R J H1) → wi σ H R) : PID X tg iter t := by
  obtain ⟨wi, hi, ww⟩ := h
  refine ⟨wi, hi, fun B S H σ ρ Φ R er q k => ww B S H σ ρ Φ R er q fun ds J d v H1 hΦ s r w => k ds J [(d, v)] H1 hΦ s (fun p hp => ?_) w.l⟩
  have e : p = (d, v) := by simpa using hp
  subst e
  exact r
theorem ER.holds {K : PySem.W.Frag} {B : Bs} {S : Addr → Prop} {H : Hp} {σ : L2.St} {ρ : Fr3} {hs : List (D × V)} (er : ER K B S H σ ρ) (r : ∀ p ∈ hs, Rep K S H p.1 p.2) : ER K { B with gh := hs ++ B.gh } S H σ ρ :=
  ⟨er.len, er.same, er.sub, er.ok0, er.ok, er.val, er.own, er.uq, er.dct, er.dq, fun p hp => by
    rcases List.mem_append.mp hp with hp | hp
    · exact r p hp
    · exact er.gh p hp⟩
theorem ER.unholds {K : PySem.W.Frag} {B : Bs} {S : Addr → Prop} {H : Hp} {σ : L2.St} {ρ : Fr3} {hs : List (D × V)} (er : ER K { B with gh := hs ++ B.gh } S H σ ρ) : ER K B S H σ ρ :=
  ⟨er.len, er.same, er.sub, er.ok0, er.ok, er.val, er.own, er.uq, er.dct, er.dq, fun q hq => er.gh q (List.mem_append_right _ hq)⟩
section
variable {X : Cx} {tg iter e : Expr} {body : List Stmt} {ti : A3} {g : G3} {tb : S3} {te : E3} {pos : Pos}
noncomputable abbrev sFor (ti : A3) (g : G3) (tb : S3) : S3 := fun Φ ρ => ti ρ fun ds => FOR g tb ds Φ ρ
theorem psd_for (hp : PassesOwn (model X.prog X.w) X.A X.env X.xe) (hc : X.calm = true) (hi : PID X tg iter ti) (hg : PGD X tg g) (hb : PSDs X body tb)
    (hfs : ∀ x, foldedSetIterable iter X.env x = pure x := by intro _; rfl) : PSD X (.For tg iter body [] pos) (sFor ti g tb) := by
  obtain ⟨wi, hi, ww⟩ := hi; obtain ⟨g2, hg, wg⟩ := hg; obtain ⟨b2, hb, wb⟩ := hb
  refine ⟨_, ps_for hp hc hi hg hb hfs, fun B S H σ ρ Φ D' er q ok => ww B S H σ ρ _ _ er q fun ds J hs H1 hΦ s1 rv wk => ?_⟩
  refine ⟨fun i m σ' H' => m = ds.length - i ∧ i ≤ ds.length ∧ ∃ S' ρ', ER X.K { B with gh := hs ++ B.gh } S' H' σ' ρ' ∧ FOR g tb (ds.drop i) Φ ρ', ⟨_, rfl, Nat.zero_le _, S, ρ, (er.go s1).holds rv, hΦ⟩, ?_⟩
  rintro i m σ' H' ⟨rfl, hi, S', ρ', er', hf⟩
  have rg := fun p (hp : p ∈ hs) => er'.gh p (List.mem_append_left _ hp)
  obtain ⟨wstop, wgo⟩ := wk S' H' rg
  by_cases hlt : i < ds.length
  · obtain ⟨go, yl⟩ := wgo i hlt
    rw [List.drop_eq_getElem_cons hlt] at hf
    refine .inr ⟨go, fun σ2 H2 => ∃ S2 ρ2, ER X.K { B with gh := hs ++ B.gh } S2 H2 σ2 ρ2 ∧ FOR g tb (ds.drop (i + 1)) Φ ρ2, fun σ2 H2 h2 => ⟨_, by omega, rfl, hlt, h2⟩, fun x H2 y => ?_⟩
    obtain ⟨sy, e', ee, re⟩ := yl x H2 y
    rw [List.getElem?_eq_getElem hlt] at ee
    cases ee
    refine wg _ S' _ σ' ρ' _ x _ _ (er'.go sy) re hf fun ρ1 σ1 h1 er1 => wb _ S' _ σ1 ρ1 _ _ er1 h1 ⟨fun ρ2 S2 H2 σ2 p er2 => ⟨S2, ρ2, er2, p⟩, fun ρ2 S2 H2 σ2 p er2 => ok.nx ρ2 S2 H2 σ2 p er2.unholds, fun ρ2 S2 H2 σ2 p er2 => ⟨S2, ρ2, er2, p⟩, fun c u H2 p s2 r2 => ok.rt c u H2 p s2 r2⟩
  · have hi' : i = ds.length := by omega
    subst hi'
    rw [List.drop_length] at hf
    exact .inl ⟨wstop, ok.nx ρ' S' H' σ' hf er'.unholds⟩
noncomputable abbrev iT (te : E3) : A3 := fun ρ Φ => te ρ fun d => match d with | .tup ds => Φ ds | _ => False
theorem pid_tup (he : PD X e te) : PID X tg e (iT te) := by
  obtain ⟨t2, h, w⟩ := he
  refine PID.one ⟨_, pi_tup h, fun B S H σ ρ Φ R er q k => w B S H σ ρ _ _ er q fun d v H1 p s r => ?_⟩
  cases d <;> first | exact p.elim | skip
  rename_i ds
  obtain ⟨a, xs, rfl, lr, rs⟩ := rep_tup r
  refine ⟨a, rfl, ⟨xs, lr⟩, k ds _ _ _ H1 p s r fun S2 H2 r2 => ?_⟩
  obtain ⟨a2, xs2, e2, lr2, rs2⟩ := rep_tup r2
  cases e2
  refine ⟨⟨xs2, lr2, by rw [rs2.len]; exact Nat.le_refl _⟩, fun i hi => ?_⟩
  have hi2 : i < xs2.length := by rw [← rs2.len]; exact hi
  refine ⟨⟨xs2, xs2[i], lr2, by simp [hi2]⟩, fun x H' y => ?_⟩
  obtain ⟨rfl, y⟩ := y
  obtain ⟨c, ec, rc⟩ := rs2.getV (y xs2 lr2)
  exact ⟨rfl, c, ec, rc⟩
noncomputable def ups (lo : Int) (n : Nat) : List D := (List.range n).map fun (i : Nat) => D.int (lo + (i : Int))
theorem ups_length (lo : Int) (n : Nat) : (ups lo n).length = n := by simp [ups]
theorem wlk_range (K : PySem.W.Frag) (lo : Int) (n : Nat) : Wlk K (Itr lo n) .non .non (ups lo n) := fun S H _ => by
  refine ⟨by show n ≤ _; rw [ups_length]; exact Nat.le_refl _, fun i hi => ⟨by rw [ups_length] at hi; exact hi, fun x H' y => ?_⟩⟩
  obtain ⟨rfl, rfl⟩ := y
  refine ⟨rfl, .int (lo + i), ?_, Rep.int⟩
  rw [ups_length] at hi
  simp [ups, hi]
noncomputable abbrev iR1 (ta : A3) : A3 := fun ρ Φ => ta ρ fun ds => match ds with | [.int j] => -(2 ^ 62) ≤ j ∧ j < 2 ^ 62 ∧ Φ (ups 0 j.toNat) | _ => False
noncomputable abbrev iR2 (ta : A3) : A3 := fun ρ Φ => ta ρ fun ds => match ds with | [.int i, .int j] => (-(2 ^ 62) ≤ i ∧ i < 2 ^ 62 ∧ -(2 ^ 62) ≤ j ∧ j < 2 ^ 62) ∧ Φ (ups i (j - i).toNat) | _ => False
theorem pid_range1 {a : Expr} {ta : A3} {p pos : Pos} (hg : Gl X "range") (hm : X.mg "range" = none) (ha : PAD X [a] ta) (hs : starEach [a] X.env = [(false, eval a X.env)] := by rfl) : PID X tg (.Call (.Name "range" p) [a] [] pos) (iR1 ta) := by
  obtain ⟨t2, h, w⟩ := ha
  refine PID.one ⟨_, pi_range1 hg hm h hs, fun B S H σ ρ Φ R er q k => w B S H σ ρ _ _ er q fun ds vs H1 p s r => ?_⟩
  match ds, p with
  | [.int j], p =>
    simp only [Reps, Rep] at r
    obtain ⟨u, _, rfl, rfl, rfl⟩ := r
    exact ⟨j, rfl, p.1, p.2.1, k _ _ .non .non H1 p.2.2 s Rep.non (wlk_range _ _ _)⟩
theorem pid_range2 {a b : Expr} {ta : A3} {p pos : Pos} (hg : Gl X "range") (hm : X.mg "range" = none) (ha : PAD X [a, b] ta) (hs : starEach [a, b] X.env = [(false, eval a X.env), (false, eval b X.env)] := by rfl) (hs2 : starEach [b] X.env = [(false, eval b X.env)] := by rfl) :
    PID X tg (.Call (.Name "range" p) [a, b] [] pos) (iR2 ta) := by
  obtain ⟨t2, h, w⟩ := ha
  refine PID.one ⟨_, pi_range2 hg hm h hs hs2, fun B S H σ ρ Φ R er q k => w B S H σ ρ _ _ er q fun ds vs H1 p s r => ?_⟩
  match ds, p with
  | [.int i, .int j], p =>
    simp only [Reps, Rep] at r
    obtain ⟨u, _, rfl, rfl, v, _, rfl, rfl, rfl⟩ := r
    exact ⟨i, j, rfl, p.1, k _ _ .non .non H1 p.2 s Rep.non (wlk_range _ _ _)⟩
noncomputable abbrev loopW (N : Fr3 → Prop) (Φ : F3 → Prop) : F3 → Prop
  | .nx ρ => N ρ
  | .ct ρ => N ρ
  | .bk ρ => Φ (.nx ρ)
  | .rt d => Φ (.rt d)
noncomputable def sWhile (tc : B3) (tb : S3) : S3 := fun Φ ρ => ∃ W : Nat → Fr3 → Prop, (∃ m, W m ρ) ∧ ∀ m ρ, W m ρ → tc ρ fun k => if k = true then tb (loopW (fun ρ' => ∃ m', m' < m ∧ W m' ρ') Φ) ρ else Φ (.nx ρ)
theorem psd_while {c : Expr} {tc : B3} (hp : PassesOwn (model X.prog X.w) X.A X.env X.xe) (hc : PB X c tc) (hb : PSDs X body tb) : PSD X (.While c body [] pos) (sWhile tc tb) := by
  obtain ⟨c2, hc, wc⟩ := hc; obtain ⟨b2, hb, wb⟩ := hb
  refine ⟨_, ps_while hp hc hb, fun B S H σ ρ Φ D' er ⟨W, ⟨m0, w0⟩, turn⟩ ok => ?_⟩
  refine ⟨fun m σ' H' => ∃ S' ρ', ER X.K B S' H' σ' ρ' ∧ W m ρ', ⟨m0, S, ρ, er, w0⟩, ?_⟩
  rintro m σ' H' ⟨S', ρ', er', w'⟩
  refine wc B S' H' σ' ρ' _ _ er' (turn m ρ' w') fun k H1 hk s1 => ?_
  cases k with
  | true =>
    have hk : tb (loopW (fun ρ' => ∃ m', m' < m ∧ W m' ρ') Φ) ρ' := by simpa using hk
    simp only [if_true]
    refine ⟨fun σ2 H2 => ∃ S2 ρ2 m', m' < m ∧ ER X.K B S2 H2 σ2 ρ2 ∧ W m' ρ2, fun σ2 H2 ⟨S2, ρ2, m', lt, er2, w2⟩ => ⟨m', lt, S2, ρ2, er2, w2⟩, ?_⟩
    exact wb B S' H1 σ' ρ' _ _ (er'.go s1) hk ⟨fun ρ2 S2 H2 σ2 ⟨m', lt, w2⟩ er2 => ⟨S2, ρ2, m', lt, er2, w2⟩, fun ρ2 S2 H2 σ2 p er2 => ok.nx ρ2 S2 H2 σ2 p er2, fun ρ2 S2 H2 σ2 ⟨m', lt, w2⟩ er2 => ⟨S2, ρ2, m', lt, er2, w2⟩, ok.rt⟩
  | false =>
    have hk : Φ (.nx ρ') := by simpa using hk
    simp only [Bool.false_eq_true, if_false]
    exact ok.nx ρ' S' H1 σ' hk (er'.go s1)
theorem while_inv {tc : B3} {tb : S3} {Φ : F3 → Prop} {ρ : Fr3} (I : Fr3 → Prop) (μ : Fr3 → Nat) (h0 : I ρ)
    (hs : ∀ ρ, I ρ → tc ρ fun k => if k = true then tb (loopW (fun ρ' => ∃ m', m' < μ ρ ∧ m' = μ ρ' ∧ I ρ') Φ) ρ else Φ (.nx ρ)) : sWhile tc tb Φ ρ :=
  ⟨fun m ρ => m = μ ρ ∧ I ρ, ⟨_, rfl, h0⟩, fun m ρ ⟨e, p⟩ => by subst e; exact hs ρ p⟩
theorem FOR_inv {g : G3} {tb : S3} {Φ : F3 → Prop} (I : List D → List D → Fr3 → Prop) (hs : ∀ pre d post ρ, I pre (d :: post) ρ → ∀ k : (F3 → Prop) → Fr3 → Prop, (∀ ρ', I (pre ++ [d]) post ρ' → k Φ ρ') → g d ρ fun ρ1 => tb (loopS k Φ) ρ1)
    (hd : ∀ pre ρ, I pre [] ρ → Φ (.nx ρ)) : ∀ (post pre : List D) (ρ : Fr3), I pre post ρ → FOR g tb post Φ ρ
  | [], pre, ρ, h => hd pre ρ h
  | d :: post, pre, ρ, h => hs pre d post ρ h (FOR g tb post) fun ρ' h' => FOR_inv I hs hd post (pre ++ [d]) ρ' h'
end
end D3

set_option Elab.async false
set_option linter.all false
set_option maxRecDepth 100000
set_option maxHeartbeats 4000000
namespace D3
open PySem PySem.Spec PyProof.Rows L2
section
open PySem.MeetsSeq PySem.AutoSeq1
theorem list_add_gen (l : Addr) (items : Array Value) (n : Nat) (b : Addr) (items2 : Array Value) (n2 : Nat) (dd dd2 : Option Addr) (sl sl2 : Array (Option Value)) (hc0 : items.size + items2.size ≤ sizeLine) :
    Meets (Builtin.«list.__add__» ⟨[.ref l, .ref b], []⟩) (fun _ R s => s.heap.get? l = some { cls := .type "list", dict := dd, data := .seq items n, slots := sl } ∧ s.heap.get? b = some { cls := .type "list", dict := dd2, data := .seq items2 n2, slots := sl2 } ∧ R (.ok (.ret (Value.ref s.heap.objs.size))) { s with heap := s.heap.push { cls := Value.type "list", data := Data.seq (items ++ items2) }, toks := s.toks }) :=
  .of_wp fun prog w A R s h => by obtain ⟨hp, g, d, tk, os⟩ := s; obtain ⟨hl, hb, h⟩ := h; have f1 := AutoSeq1.idx_int; have f2 := AutoSeq1.sub_tuple_tuple; have f3 := AutoSeq1.sub_list_list; have f4 := AutoSeq1.sub_tuple_list; have f5 := AutoSeq1.sub_list_tuple; wp_walk using wpAny_loadPart' hl, wpAny_loadPart' hb; exact ⟨_, rfl, h⟩
theorem add_list_gen {prog : Program} {w : World} {A : Around} {E : Value → Shared → Prop} {s : Shared} {l b : Addr} {items items2 : Array Value} {Q : Value → Shared → Prop} (hl : PlainL s.heap l items) (hb : PlainL s.heap b items2)
    (h : Q (.ref s.heap.objs.size) { s with heap := s.heap.push { cls := .type "list", data := .seq (items ++ items2) } }) (hsz : items.size + items2.size ≤ sizeLine) : wpAny (model prog w) A (binaryOp .Add (.ref l) (.ref b)) Q E s := by
  obtain ⟨o, n, e, hc, hd, hq⟩ := hl
  obtain ⟨o2, n2, e2, hc2, hd2, hq2⟩ := hb
  obtain ⟨c, dd, da, sl⟩ := o
  obtain ⟨c2, dd2, da2, sl2⟩ := o2
  subst hc hd hq hc2 hd2 hq2
  exact concat_meets ⟨_, e, rfl⟩ ⟨_, e2, rfl⟩ noFill_list_add seq_list_add F.slot_list_add F.entry_list_add (F.args_list_add_2 _ _) (list_add_gen l items n b items2 n2 none none sl sl2 hsz) ⟨e, e2, h⟩
end
noncomputable def HandN (K : PySem.W.Frag) (S : Addr → Prop) (H : Hp) (Φ : List D → Prop) (Q : VK) : Prop := ∀ ds xs p H1, Φ ds → Same H H1 → H1 p = none → Reps K S H1 ds xs → Q (.ref p) (upd H1 p (.lst xs))
noncomputable def PF (X : Cx) (e : Expr) (t : A3) : Prop := ∃ t2, PE X e t2 ∧ ∀ B S H σ ρ Φ Q, ER X.K B S H σ ρ → t ρ Φ → HandN X.K S H Φ Q → t2 σ H Q
noncomputable abbrev dF (t : A3) : E3 := fun ρ Φ => t ρ fun ds => Φ (.lst ds)
section
variable {X : Cx} {a b c e : Expr} {ta tb tc te : E3} {tr tf : A3} {es : List Expr} {pos : Pos}
theorem pd_new (h : PF X e tf) : PD X e (dF tf) := by
  obtain ⟨t2, h, w⟩ := h
  exact ⟨_, h, fun B S H σ ρ Φ Q er q hd => w B S H σ ρ _ _ er q fun ds xs p H1 hΦ s1 hp r => hd _ _ _ hΦ (s1.trans (same_new hp)) (Rep.newLst (er.ok.same s1) hp r)⟩
noncomputable abbrev fLst (t : A3) : A3 := fun ρ Φ => t ρ fun ds => ds.length ≤ sizeLine ∧ Φ ds
theorem pf_lst (h : PAD X es tr) : PF X (.List es pos) (fLst tr) := by
  obtain ⟨t2, h, w⟩ := h
  exact ⟨_, pe_lst h, fun B S H σ ρ Φ Q er q hd => w B S H σ ρ _ _ er q fun ds vs H1 hk s1 r => ⟨by rw [← r.len]; exact hk.1, fun p hp => hd _ _ p H1 hk.2 s1 hp r⟩⟩
noncomputable abbrev O3 := Fr3 → (Option Int → Prop) → Prop
noncomputable def POD (X : Cx) (e : Option Expr) (t : O3) : Prop := ∃ t2, PO X e t2 ∧ ∀ B S H σ ρ Φ (Q : Option Int → Hp → Prop), ER X.K B S H σ ρ → t ρ Φ → (∀ o H', Φ o → Same H H' → Q o H') → t2 σ H Q
noncomputable abbrev oSome (te : E3) : O3 := fun ρ Φ => te ρ fun d => match d with | .int i => Φ (some i) | _ => False
theorem pod_some (h : PD X e te) : POD X (some e) (oSome te) := by
  obtain ⟨t2, h, w⟩ := h
  refine ⟨_, po_some h, fun B S H σ ρ Φ Q er q hd => w B S H σ ρ _ _ er q fun d v H1 hk s1 r => ?_⟩
  cases d <;> first | exact hk.elim | skip
  exact ⟨_, rep_int r, hd _ H1 hk s1⟩
noncomputable def cutD {α : Type} (xs : List α) (lo hi : Option Int) : List α := (xs.drop (HT.sIx xs.length 0 lo)).take (HT.sIx xs.length xs.length hi - HT.sIx xs.length 0 lo)
noncomputable abbrev fSl (te : E3) (tl th : O3) : A3 := fun ρ Φ => te ρ fun d => tl ρ fun lo => th ρ fun hi => match d with | .lst ds => Φ (cutD ds lo hi) | _ => False
theorem pf_slice {lo hi : Option Expr} {tl th : O3} {p2 : Pos} (he : PD X e te) (hl : POD X lo tl) (hu : POD X hi th) : PF X (.Subscript e (.Slice lo hi none p2) pos) (fSl te tl th) := by
  obtain ⟨t2, h, w⟩ := he; obtain ⟨l2, hl, wl⟩ := hl; obtain ⟨u2, hu, wu⟩ := hu
  refine ⟨_, pe_slice sl_list h hl hu, fun B S H σ ρ Φ Q er q hd => w B S H σ ρ _ _ er q fun d v H1 p1 s1 r1 => wl B S H1 σ ρ _ _ (er.go s1) p1 fun l H2 p2 s2 => wu B S H2 σ ρ _ _ ((er.go s1).go s2) p2 fun u H3 p3 s3 => ?_⟩
  cases d <;> first | exact p3.elim | skip
  obtain ⟨a, xs, rfl, lr, rs⟩ := rep_lst ((r1.same s2).same s3)
  refine ⟨a, xs, rfl, lr.sq, fun p hp => hd _ _ p H3 p3 ((s1.trans s2).trans s3) hp ?_⟩
  unfold cutD cutV
  rw [← rs.len]
  exact (rs.drop _).take _
noncomputable abbrev fCat (ta tb : E3) : A3 := fun ρ Φ => ta ρ fun x => tb ρ fun y => match x, y with | .lst ds, .lst es => ds.length + es.length ≤ sizeLine ∧ Φ (ds ++ es) | _, _ => False
noncomputable def rCatA (K : PySem.W.Frag) : R2 := fun x y H Q => ∃ l b xs zs, x = .ref l ∧ y = .ref b ∧ SqL K H l xs ∧ SqL K H b zs ∧ xs.length + zs.length ≤ sizeLine ∧ ∀ p, H p = none → Q (.ref p) (upd H p (.lst (xs ++ zs)))
theorem op_catA : OpR X (binaryOp .Add) (rCatA X.K) := by
  intro pins s σ H x y v u Q I rx ry h
  obtain ⟨l, b, xs, zs, rfl, rfl, hH, hB, hz, q⟩ := h
  cases rx
  cases ry
  obtain ⟨its, r, pl, hl⟩ := I.list hH
  obtain ⟨its2, r2, pl2, hl2⟩ := I.list hB
  have e1 := r.length
  have e2 := r2.length
  refine add_list_gen pl pl2 ?_ (by rw [List.size_toArray, List.size_toArray]; omega)
  have ea : its.toArray ++ its2.toArray = (its ++ its2).toArray := by simp
  rw [ea]
  exact ⟨.ref _, _, I.lnew (t' := s.toks) (r.append r2) (by rw [List.length_append]; omega), rfl, q _ I.fresh⟩
theorem pf_cat (ha : PD X a ta) (hb : PD X b tb) : PF X (.BinOp a .Add b pos) (fCat ta tb) := by
  obtain ⟨t2, h, w⟩ := ha; obtain ⟨u2, g, z⟩ := hb
  refine ⟨_, pe_op op_catA h g, fun B S H σ ρ Φ Q er q hd => w B S H σ ρ _ _ er q fun x u H1 p1 s1 r1 => z B S H1 σ ρ _ _ (er.go s1) p1 fun y v H2 p2 s2 r2 => ?_⟩
  match x, y, p2 with
  | .lst ds, .lst es, p2 =>
    obtain ⟨a, xs, rfl, lr, rs⟩ := rep_lst (r1.same s2)
    obtain ⟨a', xs', rfl, lr', rs'⟩ := rep_lst r2
    exact ⟨a, a', xs, xs', rfl, rfl, lr.sq, lr'.sq, by rw [← rs.len, ← rs'.len]; exact p2.1, fun p hp => hd _ _ p H2 p2.2 (s1.trans s2) hp (rs.app rs')⟩
end
noncomputable def CallD (X : Cx) (f : Value) (r3 : Con) : Prop := ∃ r, CallR X f r ∧ ∀ S H ds vs Φ Q, SOk S H → Reps X.K S H ds vs → r3 ds Φ → Hand X.K S H Φ Q → r vs H Q
noncomputable abbrev dB (r : Con) (t : A3) : E3 := fun ρ Φ => t ρ fun ds => r ds Φ
section
variable {X : Cx} {x : Str} {p pos : Pos} {e : Expr} {es : List Expr} {t tr : A3} {te tb : E3} {id T : String} {r : Con}
theorem pd_callB (hc : CallD X (.builtin id) r) (hg : Gl X x) (hm : X.mg x = none) (hv : bootBuiltins x = some (.builtin id)) (ha : PAD X (e :: es) t) (hn : x ≠ "__name__" := by decide) (hdb : (x == ("__debug__" : Str)) = false := by decide)
    (he : starEach (e :: es) X.env = (false, eval e X.env) :: starEach es X.env := by rfl) (hpl : (backTo pos (starEach es X.env)).any (·.1) = false := by rfl) : PD X (.Call (.Name x p) (e :: es) [] pos) (dB r t) := by
  obtain ⟨r2, hc, wc⟩ := hc; obtain ⟨t2, h, w⟩ := ha
  exact ⟨_, pe_callB hc hg hm hv h hn hdb he hpl, fun B S H σ ρ Φ Q er q hd => w B S H σ ρ _ _ er q fun ds vs H1 p1 s1 r1 => wc S H1 ds vs Φ Q (er.ok.same s1) r1 p1 (hd.go s1)⟩
theorem pd_callTy (hc : CallD X (.type T) r) (hg : Gl X x) (hm : X.mg x = none) (hv : bootBuiltins x = some (.type T)) (ha : PAD X (e :: es) t) (hn : x ≠ "__name__" := by decide) (hdb : (x == ("__debug__" : Str)) = false := by decide)
    (he : starEach (e :: es) X.env = (false, eval e X.env) :: starEach es X.env := by rfl) (hpl : (backTo pos (starEach es X.env)).any (·.1) = false := by rfl) : PD X (.Call (.Name x p) (e :: es) [] pos) (dB r t) := by
  obtain ⟨r2, hc, wc⟩ := hc; obtain ⟨t2, h, w⟩ := ha
  exact ⟨_, pe_callTy hc hg hm hv h hn hdb he hpl, fun B S H σ ρ Φ Q er q hd => w B S H σ ρ _ _ er q fun ds vs H1 p1 s1 r1 => wc S H1 ds vs Φ Q (er.ok.same s1) r1 p1 (hd.go s1)⟩
noncomputable abbrev cLen : Con
  | [.lst ds], Φ => Φ (.int ds.length)
  | [.tup ds], Φ => Φ (.int ds.length)
  | _, _ => False
theorem b_len : CallD X (.builtin "len") cLen := ⟨_, call_len_seq, fun S H ds vs Φ Q so r h hd => by
  match ds, h with
  | [.lst ds], h =>
    simp only [Reps] at r
    obtain ⟨v, _, rfl, rv, rfl⟩ := r
    obtain ⟨a, xs, rfl, lr, rs⟩ := rep_lst rv
    exact ⟨a, xs, rfl, .inl lr.sq, hd _ _ H h (Same.refl _) (by rw [rs.len]; exact Rep.int)⟩
  | [.tup ds], h =>
    simp only [Reps] at r
    obtain ⟨v, _, rfl, rv, rfl⟩ := r
    obtain ⟨a, xs, rfl, lr, rs⟩ := rep_tup rv
    exact ⟨a, xs, rfl, .inr lr, hd _ _ H h (Same.refl _) (by rw [rs.len]; exact Rep.int)⟩⟩
noncomputable abbrev cAbs : Con
  | [.int i], Φ => Φ (.int (i.natAbs : Int))
  | _, _ => False
theorem b_abs : CallD X (.builtin "abs") cAbs := ⟨_, call_abs, fun S H ds vs Φ Q so r h hd => by
  match ds, h with
  | [.int i], h =>
    simp only [Reps, Rep] at r
    obtain ⟨v, _, rfl, rfl, rfl⟩ := r
    have e : (if i < 0 then -i else i) = (i.natAbs : Int) := by split <;> omega
    exact ⟨i, rfl, hd _ _ H h (Same.refl _) (by rw [e]; exact Rep.int)⟩⟩
noncomputable abbrev cMin : Con
  | [.int i, .int j], Φ => Φ (.int (if j < i then j else i))
  | _, _ => False
theorem b_min (hc : X.calm = true) : CallD X (.builtin "min") cMin := ⟨_, call_min2 hc, fun S H ds vs Φ Q so r h hd => by
  match ds, h with
  | [.int i, .int j], h =>
    simp only [Reps, Rep] at r
    obtain ⟨v, _, rfl, rfl, _, _, rfl, rfl, rfl⟩ := r
    exact ⟨i, j, rfl, hd _ _ H h (Same.refl _) Rep.int⟩⟩
noncomputable abbrev cMax : Con
  | [.int i, .int j], Φ => Φ (.int (if j > i then j else i))
  | _, _ => False
theorem b_max (hc : X.calm = true) : CallD X (.builtin "max") cMax := ⟨_, call_max2 hc, fun S H ds vs Φ Q so r h hd => by
  match ds, h with
  | [.int i, .int j], h =>
    simp only [Reps, Rep] at r
    obtain ⟨v, _, rfl, rfl, _, _, rfl, rfl, rfl⟩ := r
    exact ⟨i, j, rfl, hd _ _ H h (Same.refl _) Rep.int⟩⟩
noncomputable abbrev cTuple : Con
  | [.lst ds], Φ => Φ (.tup ds)
  | [.tup ds], Φ => Φ (.tup ds)
  | _, _ => False
theorem b_tuple : CallD X (.type "tuple") cTuple := ⟨_, call_tuple_of, fun S H ds vs Φ Q so r h hd => by
  match ds, h with
  | [.lst ds], h =>
    simp only [Reps] at r
    obtain ⟨v, _, rfl, rv, rfl⟩ := r
    obtain ⟨a, xs, rfl, lr, rs⟩ := rep_lst rv
    exact ⟨a, xs, rfl, .inl ⟨lr.sq, fun l hl => hd _ _ _ h (same_new hl) (Rep.newTup hl rs)⟩⟩
  | [.tup ds], h =>
    simp only [Reps] at r
    obtain ⟨v, _, rfl, rv, rfl⟩ := r
    obtain ⟨a, xs, rfl, lr, rs⟩ := rep_tup rv
    exact ⟨a, xs, rfl, .inr ⟨lr, hd _ _ _ h (Same.refl _) (Rep.tup lr rs)⟩⟩⟩
noncomputable abbrev fList (te : E3) : A3 := fun ρ Φ => te ρ fun d => match d with | .lst ds => Φ ds | .tup ds => Φ ds | _ => False
theorem pf_list (hg : Gl X x) (hm : X.mg x = none) (hv : bootBuiltins x = some (.type "list")) (ha : PD X e te) (hn : x ≠ "__name__" := by decide) (hdb : (x == ("__debug__" : Str)) = false := by decide)
    (he : starEach [e] X.env = [(false, eval e X.env)] := by rfl) : PF X (.Call (.Name x p) [e] [] pos) (fList te) := by
  obtain ⟨t2, h, w⟩ := ha
  refine ⟨_, pe_callTy call_list_of hg hm hv (pa_cons h pa_nil he) hn hdb he rfl, fun B S H σ ρ Φ Q er q hd => w B S H σ ρ _ _ er q fun d v H1 p1 s1 r1 => ?_⟩
  cases d <;> first | exact p1.elim | skip
  · obtain ⟨a, xs, rfl, lr, rs⟩ := rep_tup r1
    exact ⟨a, xs, rfl, .inr lr, fun l hl => hd _ _ l H1 p1 s1 hl rs⟩
  · obtain ⟨a, xs, rfl, lr, rs⟩ := rep_lst r1
    exact ⟨a, xs, rfl, .inl lr.sq, fun l hl => hd _ _ l H1 p1 s1 hl rs⟩
noncomputable def isInt : D → Bool
  | .int _ => true
  | .bl _ => true
  | _ => false
end
end D3

set_option Elab.async false
set_option linter.all false
set_option maxRecDepth 100000
set_option maxHeartbeats 4000000
namespace D3
open PySem PySem.Spec PyProof.Rows L2
section
variable {K : PySem.W.Frag} {B : Bs} {S : Addr → Prop} {H : Hp} {σ : L2.St} {ρ : Fr3} {i : Nat} {d : D} {ds es : List D} {v : V} {a p : Addr} {xs ys : List V}
theorem ER.take (er : ER K B S H σ ρ) (hp : H p = none) (r : Reps K S H ds xs) : ER K B (fun b => S b ∨ b = p) (upd H p (.lst xs)) (σ.set i (some (.ref p))) (ρ.set i (.own ds)) := by
  have sm := same_new (o := .lst xs) hp
  have hL : ∀ b ys, LR K S H b ys → LR K (fun b => S b ∨ b = p) (upd H p (.lst xs)) b ys := fun b ys q => by
    rcases q with ⟨n, q⟩ | q
    · have hb : b ≠ p := by
        rintro rfl
        rcases q with q | ⟨o, q⟩ <;> rw [hp] at q <;> cases q
      refine .inl ⟨fun z => z.elim n hb, ?_⟩
      rcases q with q | ⟨o, q⟩
      · exact .inl (sm _ _ q)
      · exact .inr ⟨o, sm _ _ q⟩
    · exact .inr q
  have mv : ∀ {c : D} {w : V}, Rep K S H c w → Rep K (fun b => S b ∨ b = p) (upd H p (.lst xs)) c w := fun {c w} q => Rep.map (same_tup sm) hL c w q
  have mvs : ∀ {c : List D} {w : List V}, Reps K S H c w → Reps K (fun b => S b ∨ b = p) (upd H p (.lst xs)) c w := fun {c w} q => Reps.map (same_tup sm) hL c w q
  have h0 : B.H0 p = none := er.same.free hp
  exact {
    len := by rw [List.length_set, List.length_set]; exact er.len
    same := er.same.trans sm
    sub := fun b h => .inl (er.sub b h)
    ok0 := er.ok0
    ok := fun b h => by
      by_cases hb : b = p
      · subst hb; exact ⟨_, upd_same⟩
      · obtain ⟨o, e⟩ := er.ok b (h.resolve_right hb)
        exact ⟨o, sm _ _ e⟩
    val := fun j c q => by
      rw [List.getElem?_set] at q
      split at q
      · first | cases q | (split at q <;> cases q)
      · rename_i hij
        obtain ⟨w, e, r'⟩ := er.val j c q
        exact ⟨w, by rw [List.getElem?_set_ne hij]; exact e, mv r'⟩
    own := fun j c q => by
      rw [List.getElem?_set] at q
      split at q
      · rename_i hij
        subst hij
        split at q
        · rename_i hl
          cases q
          exact ⟨p, xs, by rw [List.getElem?_set_self (by rw [er.len]; exact hl)], .inr rfl, h0, upd_same, mvs r⟩
        · cases q
      · rename_i hij
        obtain ⟨b, zs, e, hs, hz, hl, r'⟩ := er.own j c q
        exact ⟨b, zs, by rw [List.getElem?_set_ne hij]; exact e, .inl hs, hz, sm _ _ hl, mvs r'⟩
    uq := fun j k b c c' q1 q2 e1 e2 => by
      rw [List.getElem?_set] at q1 q2
      split at q1
      · rename_i h1
        subst h1
        split at q1
        · rename_i hl
          rw [List.getElem?_set_self (by rw [er.len]; exact hl)] at e1
          cases e1
          split at q2
          · rename_i h2; exact h2
          · rename_i h2
            obtain ⟨b, zs, e, hs, hz, hl', r'⟩ := er.own k c' q2
            rw [List.getElem?_set_ne h2, e] at e2
            cases e2
            rw [hp] at hl'; cases hl'
        · cases q1
      · rename_i h1
        split at q2
        · rename_i h2
          subst h2
          split at q2
          · rename_i hl
            rw [List.getElem?_set_self (by rw [er.len]; exact hl)] at e2
            cases e2
            obtain ⟨b, zs, e, hs, hz, hl', r'⟩ := er.own j c q1
            rw [List.getElem?_set_ne h1, e] at e1
            cases e1
            rw [hp] at hl'; cases hl'
          · cases q2
        · rename_i h2
          rw [List.getElem?_set_ne h1] at e1
          rw [List.getElem?_set_ne h2] at e2
          exact er.uq j k b c c' q1 q2 e1 e2
    dct := fun j ks' ds' q => by
      rw [List.getElem?_set] at q
      split at q
      · first | cases q | (split at q <;> cases q)
      · rename_i hij
        obtain ⟨b, e, hs, hz, r'⟩ := er.dct j ks' ds' q
        exact ⟨b, by rw [List.getElem?_set_ne hij]; exact e, .inl hs, hz, r'.map mvs (upd_ne (r'.ne' hp))⟩
    dq := fun j k a ks ds ks' ds' q1 q2 e1 e2 => by
      rw [List.getElem?_set] at q1 q2
      split at q1
      · first | cases q1 | (split at q1 <;> cases q1)
      · split at q2
        · first | cases q2 | (split at q2 <;> cases q2)
        · rename_i h1 h2
          rw [List.getElem?_set_ne h1] at e1
          rw [List.getElem?_set_ne h2] at e2
          exact er.dq j k a ks ds ks' ds' q1 q2 e1 e2
    gh := fun q hq => mv (er.gh q hq) }
theorem ER.change (er : ER K B S H σ ρ) (ho : ρ[i]? = some (.own ds)) (ha : σ[i]? = some (some (.ref a))) (hs : S a) (h0 : B.H0 a = none) (hl : H a = some (.lst xs)) (r : Reps K S H es ys) : ER K B S (upd H a (.lst ys)) σ (ρ.set i (.own es)) := by
  have hT : ∀ b zs, SqT K H b zs → SqT K (upd H a (.lst ys)) b zs := fun b zs q => by
    rcases q with (q | ⟨o, q⟩) | q
    · exact .inl (.inl (by rw [upd_ne (ne_of q hl (fun z => by cases z))]; exact q))
    · exact .inl (.inr ⟨o, by rw [upd_ne (ne_of q hl (fun z => by cases z))]; exact q⟩)
    · exact .inr q
  have hL : ∀ b zs, LR K S H b zs → LR K S (upd H a (.lst ys)) b zs := fun b zs q => by
    rcases q with ⟨n, q⟩ | q
    · have hb : b ≠ a := fun z => n (z ▸ hs)
      refine .inl ⟨n, ?_⟩
      rcases q with q | ⟨o, q⟩
      · exact .inl (by rw [upd_ne hb]; exact q)
      · exact .inr ⟨o, by rw [upd_ne hb]; exact q⟩
    · exact .inr q
  have mv : ∀ {c : D} {w : V}, Rep K S H c w → Rep K S (upd H a (.lst ys)) c w := fun {c w} q => Rep.map hT hL c w q
  have mvs : ∀ {c : List D} {w : List V}, Reps K S H c w → Reps K S (upd H a (.lst ys)) c w := fun {c w} q => Reps.map hT hL c w q
  have hi : i < ρ.length := (List.getElem?_eq_some_iff.mp ho).1
  exact {
    len := by rw [List.length_set]; exact er.len
    same := fun b o e => by
      have hb : b ≠ a := ne_of_none e h0
      rw [upd_ne hb]; exact er.same b o e
    sub := er.sub
    ok0 := er.ok0
    ok := fun b h => by
      by_cases hb : b = a
      · subst hb; exact ⟨_, upd_same⟩
      · obtain ⟨o, e⟩ := er.ok b h
        exact ⟨o, by rw [upd_ne hb]; exact e⟩
    val := fun j c q => by
      rw [List.getElem?_set] at q
      split at q
      · first | cases q | (split at q <;> cases q)
      · obtain ⟨w, e, r'⟩ := er.val j c q
        exact ⟨w, e, mv r'⟩
    own := fun j c q => by
      rw [List.getElem?_set] at q
      split at q
      · rename_i hij
        subst hij
        try rw [if_pos hi] at q
        cases q
        exact ⟨a, ys, ha, hs, h0, upd_same, mvs r⟩
      · rename_i hij
        obtain ⟨b, zs, e, hsb, hz, hlb, r'⟩ := er.own j c q
        have hb : b ≠ a := fun z => hij (er.uq i j a ds c ho q ha (z ▸ e))
        exact ⟨b, zs, e, hsb, hz, by rw [upd_ne hb]; exact hlb, mvs r'⟩
    uq := fun j k b c c' q1 q2 e1 e2 => by
      have back : ∀ {m : Nat} {c : List D}, (ρ.set i (Sl.own es))[m]? = some (.own c) → ∃ c', ρ[m]? = some (.own c') := fun {m c} q => by
        rw [List.getElem?_set] at q
        split at q
        · rename_i h; subst h; exact ⟨_, ho⟩
        · exact ⟨_, q⟩
      obtain ⟨c1, q1⟩ := back q1
      obtain ⟨c2, q2⟩ := back q2
      exact er.uq j k b c1 c2 q1 q2 e1 e2
    dct := fun j ks' ds' q => by
      rw [List.getElem?_set] at q
      split at q
      · first | cases q | (split at q <;> cases q)
      · obtain ⟨b, e, hsb, hz, r'⟩ := er.dct j ks' ds' q
        exact ⟨b, e, hsb, hz, r'.map mvs (upd_ne (r'.ne hl))⟩
    dq := fun j k a ks ds ks' ds' q1 q2 e1 e2 => by
      rw [List.getElem?_set] at q1 q2
      split at q1
      · first | cases q1 | (split at q1 <;> cases q1)
      · split at q2
        · first | cases q2 | (split at q2 <;> cases q2)
        · exact er.dq j k a ks ds ks' ds' q1 q2 e1 e2
    gh := fun q hq => mv (er.gh q hq) }
theorem ER.freeze (er : ER K B S H σ ρ) (ho : ρ[i]? = some (.own ds)) : ∃ S', ER K B S' H σ (ρ.set i (.val (.lst ds))) := by
  obtain ⟨a, xs, ea, hs, h0, hl, r⟩ := er.own i ds ho
  have hi : i < ρ.length := (List.getElem?_eq_some_iff.mp ho).1
  have sb : ∀ b, (S b ∧ b ≠ a) → S b := fun b h => h.1
  refine ⟨fun b => S b ∧ b ≠ a, ?_⟩
  exact {
    len := by rw [List.length_set]; exact er.len
    same := er.same
    sub := fun b h => ⟨er.sub b h, fun z => by subst z; obtain ⟨o, e⟩ := er.ok0 b h; rw [h0] at e; cases e⟩
    ok0 := er.ok0
    ok := fun b h => er.ok b h.1
    val := fun j c q => by
      rw [List.getElem?_set] at q
      split at q
      · rename_i hij
        subst hij
        try rw [if_pos hi] at q
        cases q
        exact ⟨.ref a, ea, Rep.lst (.inl ⟨fun z => z.2 rfl, .inl hl⟩) (r.sub sb)⟩
      · obtain ⟨w, e, r'⟩ := er.val j c q
        exact ⟨w, e, r'.sub sb⟩
    own := fun j c q => by
      rw [List.getElem?_set] at q
      split at q
      · first | cases q | (split at q <;> cases q)
      · rename_i hij
        obtain ⟨b, zs, e, hsb, hz, hlb, r'⟩ := er.own j c q
        have hb : b ≠ a := fun z => hij (er.uq i j a ds c ho q ea (z ▸ e))
        exact ⟨b, zs, e, ⟨hsb, hb⟩, hz, hlb, r'.sub sb⟩
    uq := fun j k b c c' q1 q2 e1 e2 => by
      rw [List.getElem?_set] at q1 q2
      split at q1
      · first | cases q1 | (split at q1 <;> cases q1)
      · split at q2
        · first | cases q2 | (split at q2 <;> cases q2)
        · exact er.uq j k b c c' q1 q2 e1 e2
    dct := fun j ks' ds' q => by
      rw [List.getElem?_set] at q
      split at q
      · first | cases q | (split at q <;> cases q)
      · obtain ⟨b, e, hsb, hz, r'⟩ := er.dct j ks' ds' q
        exact ⟨b, e, ⟨hsb, r'.ne hl⟩, hz, r'.map (fun r => r.sub sb) rfl⟩
    dq := fun j k a ks ds ks' ds' q1 q2 e1 e2 => by
      rw [List.getElem?_set] at q1 q2
      split at q1
      · first | cases q1 | (split at q1 <;> cases q1)
      · split at q2
        · first | cases q2 | (split at q2 <;> cases q2)
        · exact er.dq j k a ks ds ks' ds' q1 q2 e1 e2
    gh := fun q hq => (er.gh q hq).sub sb }
end
section
variable {X : Cx} {e b : Expr} {te tb : E3} {tf : A3} {pos : Pos} {sts : List Stmt} {t : S3}
noncomputable abbrev sOwn (i : Nat) (tf : A3) : S3 := fun Φ ρ => tf ρ fun ds => Φ (.nx (ρ.set i (.own ds)))
theorem psd_own {i : Nat} {x : Str} {pos' : Pos} (hN : X.N.Nodup) (hi : X.N[i]? = some x) (hx : Loc X.env.scope x) (he : PF X e tf) (hs : swapsWith e (some (.Name x pos')) pos.line X.env = pure false := by rfl)
    (hf : X.fn x = true ∨ X.env.scope.names.lookup x = some .local := by first | exact .inl rfl | exact .inr rfl | assumption) : PSD X (.Assign [.Name x pos'] e pos) (sOwn i tf) := by
  obtain ⟨t2, h, w⟩ := he
  exact ⟨_, ps_set hN hi hx h hs hf, fun B S H σ ρ Φ D' er q ok => w B S H σ ρ _ _ er q fun ds xs p H1 hΦ s hp r => ok.nx _ _ _ _ hΦ ((er.go s).take hp r)⟩
noncomputable abbrev sFreeze (i : Nat) (t : S3) : S3 := fun Φ ρ => match ρ[i]? with | some (.own ds) => t Φ (ρ.set i (.val (.lst ds))) | _ => t Φ ρ
theorem psd_freeze (i : Nat) (h : PSDs X sts t) : PSDs X sts (sFreeze i t) := by
  obtain ⟨t2, h, w⟩ := h
  refine ⟨_, h, fun B S H σ ρ Φ D' er q ok => ?_⟩
  unfold sFreeze at q
  split at q
  · rename_i ds e
    obtain ⟨S', er'⟩ := er.freeze e
    exact w B S' H σ _ Φ D' er' q ok
  · exact w B S H σ ρ Φ D' er q ok
noncomputable abbrev sSetIx (i : Nat) (ti te : E3) : S3 := fun Φ ρ => te ρ fun d => match ρ[i]? with
  | some (.own ds) => ti ρ fun k => match k with
    | .int j => onS (ixN ds.length j) fun m => Φ (.nx (ρ.set i (.own (ds.set m d))))
    | _ => False
  | _ => False
theorem psd_setIx {o k : Expr} {i : Nat} {tk : E3} {p2 : Pos} (ho : PE X o (tVar i)) (hk : PD X k tk) (he : PD X e te)
    (ha : ∀ v, assign (.Subscript o k p2) X.env v = (do
      let ov ← holding [v] (eval o X.env)
      let iv ← holding [v, ov] (eval k X.env)
      standAt p2
      holding [v, ov, iv] (setItem ov iv v)
      release [v, ov, iv] []) := by intro _; rfl)
    (hs : swapsWithSole [.Subscript o k p2] e pos.line X.env = pure false := by rfl) (hw : swappedStores [.Subscript o k p2] e X.env = pure none := by rfl)
    (h1 : (assignEach [.Subscript o k p2] X.env).map (·.2) = [assign (.Subscript o k p2) X.env] := by rfl) : PSD X (.Assign [.Subscript o k p2] e pos) (sSetIx i tk te) := by
  obtain ⟨t2, h, w⟩ := he; obtain ⟨k2, hk, wk⟩ := hk
  refine ⟨_, ps_asg h (pg_sub ho hk set_list ha) hs hw h1, fun B S H σ ρ Φ D' er q ok => w B S H σ ρ _ _ er q fun d v H1 p1 s1 r1 => ?_⟩
  cases e0 : ρ[i]? with
  | none => rw [e0] at p1; exact p1.elim
  | some sl =>
    rw [e0] at p1
    cases sl with
    | un => exact p1.elim
    | val _ => exact p1.elim
    | dct _ _ => exact p1.elim
    | own ds =>
      obtain ⟨a, xs, ea, hsa, h0, hl, r⟩ := (er.go s1).own i ds e0
      refine ⟨.ref a, ea, wk B S H1 σ ρ _ _ (er.go s1) p1 fun c u H2 p2 s2 r2 => ?_⟩
      cases c <;> first | exact p2.elim | skip
      rename_i j
      obtain ⟨m, e1, p2⟩ := of_onS (show onS (ixN ds.length j) _ from p2)
      · refine ⟨a, xs, j, m, rfl, rep_int r2, s2 _ _ hl, by rw [← r.len]; exact e1, ok.nx _ _ _ _ p2 (((er.go s1).go s2).change e0 ea hsa h0 (s2 _ _ hl) ((r.same s2).set m (r1.same s2)))⟩
noncomputable abbrev dIxO (i : Nat) (tk : E3) : E3 := fun ρ Φ => match ρ[i]? with
  | some (.own ds) => tk ρ fun k => match k with
    | .int j => onS (atI ds j) Φ
    | _ => False
  | _ => False
theorem pd_ixO {o k : Expr} {i : Nat} {tk : E3} (ho : PE X o (tVar i)) (hk : PD X k tk) (hs : PlainIx k) : PD X (.Subscript o k pos) (dIxO i tk) := by
  obtain ⟨k2, hk, wk⟩ := hk
  refine ⟨_, pe_ix ix_list ho hk hs, fun B S H σ ρ Φ Q er q hd => ?_⟩
  unfold dIxO at q
  split at q
  · rename_i ds e0
    obtain ⟨a, xs, ea, hsa, h0, hl, r⟩ := er.own i ds e0
    refine ⟨.ref a, ea, wk B S H σ ρ _ _ er q fun c u H2 p2 s2 r2 => ?_⟩
    cases c <;> first | exact p2.elim | skip
    rename_i j
    obtain ⟨d, e1, p2⟩ := of_onS (show onS (atI ds j) Φ from p2)
    · obtain ⟨w, ew, rw'⟩ := atI_rep (r.same s2) e1
      exact ⟨a, xs, j, w, rfl, rep_int r2, SqL.of (s2 _ _ hl), ew, hd _ _ H2 p2 s2 rw'⟩
  · exact q.elim
end
end D3

set_option Elab.async false
set_option linter.all false
set_option maxRecDepth 100000
set_option maxHeartbeats 4000000
namespace D3
open PySem PySem.Spec PyProof.Rows L2
noncomputable def clOf (env : Env) : List (Str × NameKind) → List (Str × Addr) → List (Str × Addr)
  | [], cs => cs
  | (n, k) :: r, cs => if (k == .free) = true then (match env.cells.lookup n with | some c => clOf env r ((n, c) :: cs) | none => clOf env r cs) else clOf env r cs
theorem closure_of {scope : Scope} {env : Env} (h : ∀ p ∈ scope.names, p.2 = .free → ∃ c, env.cells.lookup p.1 = some c) : closureFor scope env = pure (clOf env scope.names []) := by
  unfold closureFor
  have key : ∀ (l : List (Str × NameKind)) (cs : List (Str × Addr)), (∀ p ∈ l, p.2 = .free → ∃ c, env.cells.lookup p.1 = some c) →
      (forIn l cs fun x r => match x with | (name, kind) => if (kind == NameKind.free) = true then (do let a ← cellOf env name; pure (ForInStep.yield ((name, a) :: r))) else pure (ForInStep.yield r) : Sem (List (Str × Addr))) = pure (clOf env l cs) := by
    intro l
    induction l with
    | nil => intro cs _; rfl
    | cons p r ih =>
      intro cs hl
      obtain ⟨n, k⟩ := p
      rw [List.forIn_cons]
      have hr := fun cs' => ih cs' fun q hq => hl q (List.mem_cons_of_mem _ hq)
      unfold clOf
      by_cases hk : (k == NameKind.free) = true
      · obtain ⟨c, hc⟩ := hl (n, k) List.mem_cons_self (by simpa using hk)
        have hc' : List.lookup n env.cells = some c := hc
        simp only [hk, if_true, hc', cellOf, pure_bind]
        exact hr _
      · simp only [hk, Bool.false_eq_true, if_false, pure_bind]
        exact hr _
  have := key scope.names [] h
  exact (bind_pure _).trans this
theorem clOf_sub {env : Env} : ∀ {l : List (Str × NameKind)} {cs : List (Str × Addr)} {y : Str} {c : Addr}, (∀ y c, cs.lookup y = some c → env.cells.lookup y = some c) → (clOf env l cs).lookup y = some c → env.cells.lookup y = some c
  | [], cs, y, c, h, e => h y c e
  | (n, k) :: r, cs, y, c, h, e => by
    unfold clOf at e
    split at e
    · split at e
      · rename_i c' hc
        refine clOf_sub (l := r) (fun z d q => ?_) e
        rw [List.lookup_cons] at q
        split at q
        · rename_i hz
          cases q
          have : z = n := by simpa using hz
          rw [this]; exact hc
        · exact h z d q
      · exact clOf_sub h e
    · exact clOf_sub h e
theorem clOf_keep {env : Env} : ∀ {l : List (Str × NameKind)} {cs : List (Str × Addr)} {y : Str}, (∃ c, cs.lookup y = some c) → ∃ c, (clOf env l cs).lookup y = some c
  | [], cs, y, h => h
  | (n, k) :: r, cs, y, h => by
    unfold clOf
    split
    · split
      · rename_i c' hc
        refine clOf_keep (l := r) ?_
        rw [List.lookup_cons]
        split
        · exact ⟨_, rfl⟩
        · exact h
      · exact clOf_keep h
    · exact clOf_keep h
theorem clOf_has {env : Env} : ∀ {l : List (Str × NameKind)} {cs : List (Str × Addr)} {y : Str}, (y, NameKind.free) ∈ l → (∃ c, env.cells.lookup y = some c) → ∃ c, (clOf env l cs).lookup y = some c
  | [], cs, y, h, _ => by cases h
  | (n, k) :: r, cs, y, h, he => by
    rcases List.mem_cons.mp h with q | q
    · cases q
      obtain ⟨c, hc⟩ := he
      unfold clOf
      rw [if_pos (by rfl), hc]
      refine clOf_keep ⟨c, ?_⟩
      rw [List.lookup_cons]
      simp
    · unfold clOf
      split
      · split
        · exact clOf_has q he
        · exact clOf_has q he
      · exact clOf_has q he
noncomputable def cmpOk (scope : Scope) (env : Env) (xs M N : List Str) : Bool :=
  scope.kind == .function && scope.names.all (fun p => p.2 != .cell || scope.names.lookup p.1 == some .cell) && scope.names.all (fun p => p.2 != .free || env.kindOf p.1 == some .cell) &&
  scope.names.all (fun p => p.2 != .local || scope.names.lookup p.1 == some .local) && scope.names.all (fun p => p.2 == .local || p.2 == .free || p.2 == .globalImplicit || p.2 == .cell) &&
  xs.all (fun x => scope.names.lookup x == some .local || scope.names.lookup x == some .cell) && M.all (fun y => scope.names.lookup y == none || scope.names.lookup y == some .free || scope.names.lookup y == some .globalImplicit) && M.length == N.length && (M.zip N).all (fun p => p.1 == p.2 || scope.names.lookup p.1 == none)
noncomputable def cmpCx (X : Cx) (xs M : List Str) (scope : Scope) (C : Addr) (s : Shared) (H : Hp) (fp : List Addr) : Cx :=
  { X with N := xs ++ M, s₀ := s, H₀ := H, env := compEnvC scope (cellsFrom (C + 1) scope.names (clOf X.env scope.names [])) C X.env, outer := X.stack, ex := fp, fn := fun y => scope.names.lookup y == some .cell, pn := [], xe := fun _ _ => False }
theorem mem_of_lookup {α : Type} : ∀ {l : List (Str × α)} {y : Str} {k : α}, l.lookup y = some k → (y, k) ∈ l
  | [], y, k, h => by cases h
  | (n, j) :: r, y, k, h => by
    rw [List.lookup_cons] at h
    split at h
    · rename_i hz
      cases h
      have : y = n := by simpa using hz
      rw [this]; exact List.mem_cons_self
    · exact List.mem_cons_of_mem _ (mem_of_lookup h)
theorem lookup_relabel {env : Env} : ∀ {names : List (Str × NameKind)} {x : Str} {k : NameKind},
    (names.map fun (n, k) => if (k == NameKind.free && env.scope.kind == .function && env.kindOf n == some .cell) then (n, NameKind.cell) else (n, k)).lookup x = some k → ∃ j, names.lookup x = some j ∧ (j = k ∨ (j = .free ∧ k = .cell))
  | [], _, _, h => by simp at h
  | (n, j) :: r, x, k, h => by
    have ih := @lookup_relabel env r x k
    change List.lookup x ((if (j == NameKind.free && env.scope.kind == .function && env.kindOf n == some .cell) = true then (n, NameKind.cell) else (n, j)) :: _) = _ at h
    rw [List.lookup_cons]
    cases hx : x == n with
    | true =>
      by_cases hc : (j == NameKind.free && env.scope.kind == .function && env.kindOf n == some .cell) = true
      · rw [if_pos hc, List.lookup_cons] at h
        simp only [hx] at h
        cases h
        refine ⟨j, rfl, .inr ⟨?_, rfl⟩⟩
        have := (Bool.and_eq_true _ _ ▸ (Bool.and_eq_true _ _ ▸ hc).1).1
        simpa using this
      · rw [if_neg hc, List.lookup_cons] at h
        simp only [hx] at h
        cases h
        exact ⟨j, rfl, .inl rfl⟩
    | false =>
      by_cases hc : (j == NameKind.free && env.scope.kind == .function && env.kindOf n == some .cell) = true
      · rw [if_pos hc, List.lookup_cons] at h
        simp only [hx] at h
        exact ih h
      · rw [if_neg hc, List.lookup_cons] at h
        simp only [hx] at h
        exact ih h
structure CmpOk (X : Cx) (xs M : List Str) (scope : Scope) : Prop where
  kind : scope.kind = .function
  cells : ∀ p ∈ scope.names, p.2 = .cell → scope.names.lookup p.1 = some .cell
  free : ∀ p ∈ scope.names, p.2 = .free → X.env.kindOf p.1 = some .cell
  loc : ∀ p ∈ scope.names, p.2 = .local → scope.names.lookup p.1 = some .local
  xs : ∀ x ∈ xs, scope.names.lookup x = some .local ∨ scope.names.lookup x = some .cell
  around : ∀ y ∈ M, scope.names.lookup y = none ∨ scope.names.lookup y = some .free ∨ scope.names.lookup y = some .globalImplicit
  len : M.length = X.N.length
  same : ∀ (i : Nat) y, M[i]? = some y → X.N[i]? = some y ∨ scope.names.lookup y = none
theorem cmp_of {X : Cx} {xs M : List Str} {scope : Scope} (h : cmpOk scope X.env xs M X.N = true) : CmpOk X xs M scope := by
  unfold cmpOk at h
  simp only [Bool.and_eq_true, List.all_eq_true, Bool.or_eq_true, beq_iff_eq, bne_iff_ne, ne_eq] at h
  obtain ⟨⟨⟨⟨⟨⟨⟨⟨h1, h2⟩, h3⟩, h4⟩, h5⟩, h6⟩, h7⟩, h8⟩, h9⟩ := h
  exact ⟨h1, fun p hp e => (h2 p hp).resolve_left fun z => z e, fun p hp e => (h3 p hp).resolve_left fun z => z e, fun p hp e => (h4 p hp).resolve_left fun z => z e, h6, fun y hy => by
    rcases h7 y hy with (a | a) | a
    · exact .inl a
    · exact .inr (.inl a)
    · exact .inr (.inr a), h8, fun i y e => by
      have hi : i < M.length := (List.getElem?_eq_some_iff.mp e).1
      have hi2 : i < X.N.length := by rw [← h8]; exact hi
      have em : M[i] = y := (List.getElem?_eq_some_iff.mp e).2
      have hz : (M[i], X.N[i]) ∈ M.zip X.N := by
        have : (M.zip X.N)[i]? = some (M[i], X.N[i]) := by rw [List.getElem?_zip_eq_some]; exact ⟨by simp, by simp⟩
        exact List.mem_of_getElem? this
      rcases h9 _ hz with q | q
      · left
        have q' : M[i] = X.N[i] := q
        rw [← em, q']; simp
      · right; rw [← em]; exact q⟩
theorem cf_app : ∀ (names : List (Str × NameKind)) (n : Nat) (acc : List (Str × Addr)), cellsFrom n names acc = cellsFrom n names [] ++ acc
  | [], n, acc => rfl
  | (x, k) :: r, n, acc => by
    unfold cellsFrom
    split
    · rw [cf_app r (n + 1) ((x, n) :: acc), cf_app r (n + 1) [(x, n)], List.append_assoc]; rfl
    · exact cf_app r n acc
theorem cf_mem : ∀ {names : List (Str × NameKind)} {n : Nat} {acc : List (Str × Addr)} {y : Str} {c : Addr}, (y, c) ∈ cellsFrom n names acc → (y, c) ∈ acc ∨ ((y, NameKind.cell) ∈ names ∧ n ≤ c)
  | [], n, acc, y, c, h => .inl h
  | (x, k) :: r, n, acc, y, c, h => by
    unfold cellsFrom at h
    split at h
    · rename_i hk
      have hk : k = .cell := by simpa using hk
      rcases cf_mem h with z | z
      · rcases List.mem_cons.mp z with z | z
        · cases z; subst hk; exact .inr ⟨List.mem_cons_self, Nat.le_refl _⟩
        · exact .inl z
      · exact .inr ⟨List.mem_cons_of_mem _ z.1, Nat.le_of_succ_le z.2⟩
    · rcases cf_mem h with z | z
      · exact .inl z
      · exact .inr ⟨List.mem_cons_of_mem _ z.1, z.2⟩
theorem cf_keep : ∀ {names : List (Str × NameKind)} {n : Nat} {acc : List (Str × Addr)} {y : Str}, (∃ c, acc.lookup y = some c) → ∃ c, (cellsFrom n names acc).lookup y = some c
  | [], n, acc, y, h => h
  | (x, k) :: r, n, acc, y, h => by
    unfold cellsFrom
    split
    · refine cf_keep (names := r) ?_
      rw [List.lookup_cons]
      split
      · exact ⟨_, rfl⟩
      · exact h
    · exact cf_keep h
theorem cf_has : ∀ {names : List (Str × NameKind)} {n : Nat} {acc : List (Str × Addr)} {y : Str}, (y, NameKind.cell) ∈ names → ∃ c, (cellsFrom n names acc).lookup y = some c
  | [], n, acc, y, h => by cases h
  | (x, k) :: r, n, acc, y, h => by
    rcases List.mem_cons.mp h with q | q
    · cases q
      unfold cellsFrom
      rw [if_pos (by rfl)]
      refine cf_keep ⟨n, ?_⟩
      rw [List.lookup_cons]
      simp
    · unfold cellsFrom
      split
      · exact cf_has q
      · exact cf_has q
theorem cf_apart : ∀ {names : List (Str × NameKind)} {n : Nat} {acc : List (Str × Addr)}, (∀ p ∈ acc, p.2 < n) → (acc.Pairwise fun x y => x.2 ≠ y.2) → (cellsFrom n names acc).Pairwise fun x y => x.2 ≠ y.2
  | [], n, acc, _, h => h
  | (x, k) :: r, n, acc, hl, h => by
    unfold cellsFrom
    split
    · refine cf_apart (names := r) (fun p hp => ?_) (List.pairwise_cons.mpr ⟨fun p hp e => ?_, h⟩)
      · rcases List.mem_cons.mp hp with z | z
        · rw [z]; exact Nat.lt_succ_self _
        · exact Nat.lt_succ_of_lt (hl p z)
      · have e : n = p.2 := e
        exact absurd (hl p hp) (by rw [← e]; exact Nat.lt_irrefl _)
    · exact cf_apart hl h
theorem cf_cases {names : List (Str × NameKind)} {n : Nat} {cl : List (Str × Addr)} {y : Str} {c : Addr} (h : (cellsFrom n names cl).lookup y = some c) : (cellsFrom n names []).lookup y = some c ∨ ((cellsFrom n names []).lookup y = none ∧ cl.lookup y = some c) := by
  rw [cf_app, List.lookup_append] at h
  cases e : (cellsFrom n names []).lookup y with
  | some a => rw [e] at h; left; simpa using h
  | none => rw [e] at h; right; exact ⟨rfl, by simpa using h⟩
theorem cf_own {names : List (Str × NameKind)} {n : Nat} {y : Str} {c : Addr} (h : (cellsFrom n names []).lookup y = some c) : (y, NameKind.cell) ∈ names ∧ n ≤ c := by
  rcases cf_mem (PySem.mem_of_lookup h) with z | z
  · cases z
  · exact z
theorem cf_none {names : List (Str × NameKind)} {n : Nat} {cl : List (Str × Addr)} {y : Str} (h : ∀ k, (y, k) ∈ names → k ≠ NameKind.cell) : (cellsFrom n names cl).lookup y = cl.lookup y := by
  rw [cf_app, List.lookup_append]
  cases e : (cellsFrom n names []).lookup y with
  | some a => exact absurd rfl (h _ (cf_own e).1)
  | none => simp
section
variable {X : Cx} {pins : List (Addr × Obj)} {σ : L2.St} {H : Hp} {s : Shared} {xs M : List Str} {scope : Scope} {C : Addr} {fp : List Addr}
theorem cmp_cells (I : Inv X pins σ H s) (c : CmpOk X xs M scope) : ∀ p ∈ scope.names, p.2 = .free → ∃ a, X.env.cells.lookup p.1 = some a := fun p hp e => I.ok.has p.1 (.inl (c.free p hp e))
theorem cmp_sub {y : Str} {a : Addr} (e : (clOf X.env scope.names []).lookup y = some a) : X.env.cells.lookup y = some a := clOf_sub (fun _ _ q => by simp at q) e
theorem cmp_ok (I : Inv X pins σ H s) (c : CmpOk X xs M scope) (hC : s.heap.objs.size ≤ C) (hf : ∀ b ∈ fp, FpOk X pins H b) (hlt : ∀ b ∈ fp, b < s.heap.objs.size) : (cmpCx X xs M scope C s H fp).Ok where
  mod := I.ok.mod
  kind := c.kind
  glob := I.ok.glob
  blt := I.ok.blt
  above := hC
  inj := fun x y a e1 e2 => by
    have lt : ∀ z, (clOf X.env scope.names []).lookup z = some a → a < s.heap.objs.size := fun z e => by
      obtain ⟨v, q⟩ := I.cell z a (cmp_sub e); exact q.lt
    rcases cf_cases e1 with z1 | z1 <;> rcases cf_cases e2 with z2 | z2
    · exact name_of_addr (cf_apart (acc := []) (fun p hp => by cases hp) List.Pairwise.nil) (PySem.mem_of_lookup z1) (PySem.mem_of_lookup z2)
    · exact absurd (lt y z2.2) (Nat.not_lt.mpr (Nat.le_trans hC (Nat.le_of_succ_le (cf_own z1).2)))
    · exact absurd (lt x z1.2) (Nat.not_lt.mpr (Nat.le_trans hC (Nat.le_of_succ_le (cf_own z2).2)))
    · exact I.ok.inj x y a (cmp_sub z1.2) (cmp_sub z2.2)
  has := fun x h => by
    have hx : ∃ j, scope.names.lookup x = some j ∧ (j = .free ∨ j = .cell) := by
      rcases h with h | h
      · obtain ⟨j, hj, e⟩ := lookup_relabel h
        rcases e with e | e
        · exact ⟨j, hj, .inr e⟩
        · exact ⟨j, hj, .inl e.1⟩
      · obtain ⟨j, hj, e⟩ := lookup_relabel h
        rcases e with e | e
        · exact ⟨j, hj, .inl e⟩
        · exact ⟨j, hj, .inl e.1⟩
    obtain ⟨j, hj, rfl | rfl⟩ := hx
    · exact cf_keep (clOf_has (mem_of_lookup hj) (cmp_cells I c _ (mem_of_lookup hj) rfl))
    · exact cf_has (mem_of_lookup hj)
  cab := fun x a h e => by
    have hj : scope.names.lookup x = some .cell := by simpa [cmpCx] using h
    rcases cf_cases e with z | z
    · exact Nat.le_trans hC (Nat.le_of_succ_le (cf_own z).2)
    · obtain ⟨a', ha'⟩ := cf_has (n := C + 1) (acc := []) (mem_of_lookup hj)
      rw [z.1] at ha'; cases ha'
  hd := I.ok.hd
  frames := I.ok.frames
  stk := .inl rfl
  exf := fun b hb => ⟨Nat.ne_of_lt (Nat.lt_of_lt_of_le (hlt b hb) hC), fun x a e => by
    rcases cf_cases e with z | z
    · exact Nat.ne_of_gt (Nat.lt_of_lt_of_le (hlt b hb) (Nat.le_trans hC (Nat.le_of_succ_le (cf_own z).2)))
    · exact (hf b hb).2.2.2.2.1 x a (cmp_sub z.2)⟩
  bs := I.bs
  bsz := Nat.le_trans I.ok.bsz I.sz
  noex := fun b o e hb => by
    rcases (hf b hb).2.2.2.1 with z | z
    · exact I.ok.noex b o e z
    · exact absurd (Nat.lt_of_lt_of_le (Heap.lt_size e) (Nat.le_trans I.ok.bsz z)) (Nat.lt_irrefl _)
  exfs := fun b hb z => by
    rcases List.mem_cons.mp (I.stkSub b z) with q | q
    · exact (hf b hb).2.1 q
    · exact (hf b hb).2.2.1 q
  funs := I.stack
  frf := I.stkFree
end
end D3

set_option Elab.async false
set_option linter.all false
set_option maxRecDepth 100000
set_option maxHeartbeats 4000000
namespace D3
open PySem PySem.Spec PyProof.Rows L2
section
variable {prog : Program} {w : World} {A : Around} {R : Result → Shared → Prop} {s : Shared}
theorem comp_loop {elt target iter : Expr} {ifs : List Expr} {scope : Scope} {pos : Pos} {it acc : Value} {env : Env} (I : Nat → Shared → Prop)
    (turn : ∀ n s, I n s → wpAny (model prog w) A (pyNext it) (fun r s₁ => match r with
      | none => R (.ok .next) s₁
      | some v => wpAny (model prog w) A (letOwnedTupleGo target it v) (fun _ s1' => wpAny (model prog w) A (assign target env v) (fun _ s₂ =>
          wpAny (model prog w) A (forIn ifs true fun c r => if r = true then do let ok ← isTrue c env (eval c env); pure (ForInStep.yield ok) else pure (ForInStep.yield r)) (fun ok s₃ =>
            if ok = true then wpAny (model prog w) A (eval elt env) (fun x s₄ =>
              wpAny (model prog w) A (call (.builtin "list.append") [acc, x]) (fun _ s₅ => ∃ m, m < n ∧ I m s₅) (fun _ _ => False) s₄) (fun _ _ => False) s₃
            else ∃ m, m < n ∧ I m s₃) (fun _ _ => False) s₂) (fun _ _ => False) s1') (fun _ _ => False) s₁) (fun _ _ => False) s)
    (n : Nat) (h : I n s) :
    codeAny (model prog w) A (.compLoop (.ListComp elt [⟨target, iter, ifs, 0⟩] scope pos) 0 it acc env) R s := by
  refine codeAny_loop rfl I (fun n s hI => ?_) n h
  show wpAny _ A ((compTurn (.ListComp elt [⟨target, iter, ifs, 0⟩] scope pos) 0 it acc env).onRaise (fun x => do noteFrame x env; theTreesLotGoes x)) _ _ s
  refine wpAny_noted ?_
  rw [compTurn_list]
  refine wpAny_bind (wpAny_standAt (wpAny_bind (wpAny_mono (turn n s hI) (fun r s₁ h₁ => ?_) fun _ _ h' => h'.elim)))
  cases r with
  | none => exact wpAny_pure h₁
  | some v =>
    refine wpAny_bind (wpAny_mono h₁ (fun _ s1' h1' => ?_) fun _ _ h' => h'.elim)
    refine wpAny_bind (wpAny_mono h1' (fun _ s₂ h₂ => wpAny_bind (wpAny_mono h₂ (fun ok s₃ h₃ => ?_) fun _ _ h' => h'.elim)) fun _ _ h' => h'.elim)
    cases ok with
    | false => exact wpAny_pure ⟨rfl, h₃⟩
    | true =>
      exact wpAny_bind (wpAny_bind (wpAny_mono h₃ (fun x s₄ h₄ => wpAny_bind (wpAny_mono h₄ (fun _ s₅ h₅ => wpAny_pure (wpAny_pure ⟨rfl, h₅⟩)) fun _ _ h' => h'.elim)) fun _ _ h' => h'.elim))
end
noncomputable def PTs (X : Cx) (ifs : List Expr) (t : TT) : Prop := (ifs = [] ∧ t = fun _ H Q => Q true H) ∨ ∃ c, ifs = [c] ∧ PT X c t
theorem PTs.run {X : Cx} {ifs : List Expr} {t : TT} (h : PTs X ifs t) {pins : List (Addr × Obj)} {s : Shared} {σ : L2.St} {H : Hp} {Q : Bool → Hp → Prop} (I : Inv X pins σ H s) (q : t σ H Q) :
    wpAny (model X.prog X.w) X.A (forIn ifs true fun c r => if r = true then do let ok ← isTrue c X.env (eval c X.env); pure (ForInStep.yield ok) else pure (ForInStep.yield r)) (TP X pins σ Q) X.xe s := by
  rcases h with ⟨rfl, rfl⟩ | ⟨c, rfl, h⟩
  · exact wpAny_tests_nil ⟨H, I, q⟩
  · exact wpAny_tests_one (h pins s σ H Q I q)
theorem newEnv_cells {M : Model} {A : Around} {E : Value → Shared → Prop} {s : Shared} {scope : Scope} {globals : Addr} {closure : List (Str × Addr)} {qual : Str} {env : Env} {Q : Env → Shared → Prop}
    (h : Q (newEnv scope s.heap.objs.size globals (cellsFrom (s.heap.objs.size + 1) scope.names closure) qual none .none (some env) builtinsNs) { s with heap := pushCells (s.heap.push { cls := .type "dict", data := .dict #[] }) scope.names }) :
    wpAny M A (newFunctionEnv scope globals closure [] qual none .none (some env)) Q E s := by
  simp only [newFunctionEnv, Option.isSome_some, if_true]
  refine wpAny_bind (wpAny_alloc ?_)
  refine wpAny_bind (wpAny_layCells _ (fun name kind cells => by cases hkc : kind == NameKind.cell <;> simp [hkc]) _ _ _ _ ?_)
  rw [show ({ s with heap := s.heap.push { cls := .type "dict", data := .dict #[] } } : Shared).heap.objs.size = s.heap.objs.size + 1 from Heap.size_push ..]
  rw [List.forIn_nil]
  exact wpAny_bind (wpAny_pure (wpAny_pure h))
noncomputable def lcW (n : Nat) (J : It) (g : TG) (tt : TT) (te : TE) (σ : L2.St) (D : Addr) (Fin : List V → Hp → Prop) (H : Hp) : Prop :=
  ∃ W : Nat → Nat → List V → Hp → Prop, (∃ m, W 0 m [] H) ∧ ∀ i m ys H, W i m ys H → H D = some (.lst ys) ∧
    ((J.stop i H ∧ Fin ys H) ∨ (J.go i H ∧ ∀ x H', J.yld i H x H' → g x (List.replicate n none ++ σ) H' fun σ1 H1 => (σ1.length = n + σ.length ∧ ∀ j, σ1[n + j]? = σ[j]?) ∧ tt σ1 H1 fun k H2 =>
      if k = true then te σ1 H2 fun y H3 => H3 D = some (.lst ys) ∧ ys.length < sizeLine ∧ ∃ m', m' < m ∧ W (i + 1) m' (ys ++ [y]) (upd H3 D (.lst (ys ++ [y]))) else ∃ m', m' < m ∧ W (i + 1) m' ys H2))
section
variable {X : Cx} {pins : List (Addr × Obj)} {σ : L2.St} {H : Hp} {s : Shared} {xs M : List Str} {scope : Scope} {target elt iter : Expr} {ifs : List Expr} {pos : Pos} {g : Addr → TG} {tt : Addr → TT} {te : Addr → TE} {it : Addr} {fp : List Addr} {tn : Nat → Heap → Prop} {J : It} {n : Nat}
theorem comp_run {RR : Value → Addr → Result → Shared → Prop} {Fin : Addr → List V → Hp → Prop} (c : CmpOk X xs M scope) (hn : xs.length = n) (hc : X.calm = true) (I : Inv X pins σ H s) (T : Turn X.prog X.w X.K target J fp it tn) (t0 : tn 0 s.heap) (hf : ∀ b ∈ fp, FpOk X pins H b)
    (hg : ∀ C, PG (cmpCx X xs M scope C s H fp) target (g C)) (ht : ∀ C, PTs (cmpCx X xs M scope C s H fp) ifs (tt C)) (he : ∀ C, PE (cmpCx X xs M scope C s H fp) elt (te C))
    (hw : ∀ D C, H D = none → lcW n J (g C) (tt C) (te C) σ D (Fin D) (upd H D (.lst [])))
    (hR : ∀ D C ys H' s', H D = none → s.heap.objs.size ≤ C → H' D = some (.lst ys) → Fin D ys H' → Inv (cmpCx X xs M scope C s H fp) [] (List.replicate n none ++ σ) H' s' → RR (.ref D) C (.ok .next) s') :
    wpAny (model X.prog X.w) X.A (newList []) (fun acc s₃ => wpAny (model X.prog X.w) X.A (newFunctionEnv scope X.env.globals (clOf X.env scope.names []) [] X.env.qual none .none (some X.env)) (fun cenv s₄ =>
      codeAny (model X.prog X.w) X.A (.compStart (.ListComp elt [⟨target, iter, ifs, 0⟩] scope pos) 0 (.ref it) acc { cenv with scope := relabel scope X.env }) (RR acc cenv.locals) s₄) X.xe s₃) X.xe s := by
  refine wpAny_newObj_type (newEnv_cells ?_)
  dsimp only
  generalize hH2 : s.heap.push { cls := .type "list", dict := none, data := .seq ([] : List Value).toArray } = H2
  have hns₁ := (Heap.Ns.new H2 (.type "dict")).keeps (pushCells_keeps scope.names _)
  have cok := cellsFrom_ok scope.names (H2.push { cls := .type "dict", data := .dict #[] }) (H2.objs.size + 1) [] ⟨fun _ _ hm => (by cases hm), List.Pairwise.nil⟩ (by rw [Heap.size_push]; exact Nat.le_refl _)
  rw [Heap.size_push] at cok
  have keep₁ := pushCells_keeps scope.names (H2.push { cls := .type "dict", data := .dict #[] })
  generalize pushCells (H2.push { cls := .type "dict", data := .dict #[] }) scope.names = h₁ at hns₁ cok keep₁ ⊢
  have hC : H2.objs.size = s.heap.objs.size + 1 := by rw [← hH2, Heap.size_push]
  have hDC : s.heap.objs.size ≠ H2.objs.size := by rw [hC]; exact Nat.ne_of_lt (Nat.lt_succ_self _)
  have hle : s.heap.objs.size ≤ H2.objs.size := by rw [hC]; exact Nat.le_succ _
  have old : ∀ b o, s.heap.get? b = some o → h₁.get? b = some o := fun b o e => keep₁ b o (Heap.get?_push_of_some _ (hH2 ▸ Heap.get?_push_of_some _ e))
  have hacc : h₁.get? s.heap.objs.size = some { cls := .type "list", dict := none, data := .seq ([] : List Value).toArray } := keep₁ _ _ (Heap.get?_push_of_some _ (hH2 ▸ Heap.get?_push_size _ rfl))
  have hD : H s.heap.objs.size = none := I.hok.fresh (Nat.le_refl _)
  have hlt : ∀ b ∈ fp, b < s.heap.objs.size := fun b hb => by obtain ⟨o, e, _⟩ := T.obj 0 _ t0 b hb; exact Heap.lt_size e
  have new : ObjOk X.prog X.w (upd H s.heap.objs.size (.lst [])) h₁ s.heap.objs.size (.lst []) := ⟨Nat.zero_le _, [], 0, .nil, hacc⟩
  have ok : (cmpCx X xs M scope H2.objs.size s H fp).Ok := cmp_ok I c hle hf hlt
  have I4 : Inv (cmpCx X xs M scope H2.objs.size s H fp) [] (List.replicate n none ++ σ) (upd H s.heap.objs.size (.lst [])) { s with heap := h₁ } := by
    refine ⟨ok, rfl, I.bare, Un.laid old (Nat.le_refl _) hD, ⟨_, hns₁, fun i y v e1 e2 e3 => ?_⟩, fun y a e => ?_, ?_, fun y a e => ?_, (fun p hp => by cases hp), I.hok.laid old (Nat.le_refl _) new, ?_⟩
    · have hi : n ≤ i := by
        apply Nat.le_of_not_lt
        intro hi
        rw [List.getElem?_append_left (by rw [List.length_replicate]; exact hi), List.getElem?_replicate, if_pos hi] at e2
        cases e2
      have e0' : M[i - n]? = some y := by
        have : (xs ++ M)[i]? = some y := e1
        rw [List.getElem?_append_right (by rw [hn]; exact hi), hn] at this
        exact this
      have e2' : σ[i - n]? = some (some v) := by
        rw [List.getElem?_append_right (by rw [List.length_replicate]; exact hi), List.length_replicate] at e2
        exact e2
      have hy : y ∈ M := List.mem_of_getElem? e0'
      have hl : scope.names.lookup y = some .free := by
        have hv : ∃ j, scope.names.lookup y = some j ∧ (j = .local ∨ j = .cell ∨ j = .free) := by
          rcases e3 with e3 | e3 | e3
          · obtain ⟨j, hj, e⟩ := lookup_relabel e3
            rcases e with e | e
            · exact ⟨j, hj, .inl e⟩
            · exact ⟨j, hj, .inr (.inr e.1)⟩
          · obtain ⟨j, hj, e⟩ := lookup_relabel e3
            rcases e with e | e
            · exact ⟨j, hj, .inr (.inl e)⟩
            · exact ⟨j, hj, .inr (.inr e.1)⟩
          · obtain ⟨j, hj, e⟩ := lookup_relabel e3
            rcases e with e | e
            · exact ⟨j, hj, .inr (.inr e)⟩
            · exact ⟨j, hj, .inr (.inr e.1)⟩
        obtain ⟨j, hj, hk⟩ := hv
        rcases c.around y hy with z | z | z
        · rw [z] at hj; cases hj
        · exact z
        · rw [z] at hj; cases hj
          rcases hk with hk | hk | hk <;> cases hk
      have hcell := c.free _ (mem_of_lookup hl) rfl
      have e1' : X.N[i - n]? = some y := (c.same _ _ e0').resolve_right fun z => by rw [hl] at z; cases z
      obtain ⟨m, hm, hloc⟩ := I.loc
      obtain ⟨u, r, lk⟩ := hloc (i - n) y v e1' e2' (.inr (.inl hcell))
      refine ⟨u, r, .inr ⟨?_, ?_⟩⟩
      · rcases e3 with e3 | e3 | e3
        · obtain ⟨j, hj, e⟩ := lookup_relabel e3
          rw [hl] at hj; cases hj
          rcases e with e | e
          · cases e
          · cases e.2
        · exact .inl e3
        · exact .inr e3
      · rcases lk with ⟨hk, _⟩ | ⟨_, a, ha, z⟩
        · have hk' : X.env.kindOf y = some .local := hk
          rw [hcell] at hk'; cases hk'
        · obtain ⟨a', ha'⟩ := clOf_has (cs := []) (mem_of_lookup hl) ⟨a, ha⟩
          have : a' = a := by have q := cmp_sub ha'; rw [ha] at q; exact (Option.some.inj q).symm
          subst this
          obtain ⟨o, ho, hd⟩ := z
          refine ⟨a', ?_, o, old _ _ ho, hd⟩
          show (cellsFrom (H2.objs.size + 1) scope.names (clOf X.env scope.names [])).lookup y = some a'
          rw [cf_none fun k hk e => ?_]
          · exact ha'
          · subst e
            have := c.cells _ hk rfl
            rw [hl] at this; cases this
    · rcases cf_cases e with z | z
      · exact ⟨none, (cok.empty _ _ (PySem.mem_of_lookup z)).1⟩
      · obtain ⟨v, o, ho, hd⟩ := I.cell y a (cmp_sub z.2)
        exact ⟨v, o, old _ _ ho, hd⟩
    · show upd H s.heap.objs.size (.lst []) H2.objs.size = none
      rw [upd_ne (Ne.symm hDC)]
      exact I.hok.fresh hle
    · rcases cf_cases e with z | z
      · have hge := (cf_own z).2
        have hne : a ≠ s.heap.objs.size := Nat.ne_of_gt (Nat.lt_of_lt_of_le (Nat.lt_succ_of_le hle) hge)
        rw [upd_ne hne]
        exact I.hok.fresh (Nat.le_trans hle (Nat.le_of_succ_le hge))
      · have ha := cmp_sub z.2
        have hne : a ≠ s.heap.objs.size := by obtain ⟨v, q⟩ := I.cell y a ha; exact Nat.ne_of_lt q.lt
        rw [upd_ne hne]
        exact I.freeC y a ha
    · show (List.replicate n none ++ σ).length = (xs ++ M).length
      rw [List.length_append, List.length_append, List.length_replicate, hn, I.len, c.len]
  have t1 : tn 0 h₁ := T.keep 0 _ _ t0 fun b hb o e => old b o e
  have fpn : ∀ b ∈ fp, (upd H s.heap.objs.size (.lst [])) b = none := fun b hb => by rw [upd_ne (Nat.ne_of_lt (hlt b hb))]; exact (hf b hb).1
  have stat : ∀ {H' : Hp}, (∀ b ∈ fp, H' b = none) → ∀ b ∈ fp, FpOk (cmpCx X xs M scope H2.objs.size s H fp) [] H' b := fun hn b hb =>
    ⟨hn b hb, (ok.exf b hb).1, ok.exfs b hb, .inl hb, (ok.exf b hb).2, (fun p hp => by cases hp)⟩
  obtain ⟨W, ⟨m0, w0⟩, turn⟩ := hw _ H2.objs.size hD
  have loop : codeAny (model X.prog X.w) X.A (.compLoop (.ListComp elt [⟨target, iter, ifs, 0⟩] scope pos) 0 (.ref it) (.ref s.heap.objs.size) (compEnvC scope (cellsFrom (H2.objs.size + 1) scope.names (clOf X.env scope.names [])) H2.objs.size X.env)) (RR (.ref s.heap.objs.size) H2.objs.size) { s with heap := h₁ } := by
    refine comp_loop (fun m s' => ∃ i ys H', Inv (cmpCx X xs M scope H2.objs.size s H fp) [] (List.replicate n none ++ σ) H' s' ∧ tn i s'.heap ∧ (∀ b ∈ fp, H' b = none) ∧ W i m ys H') ?_ m0 ⟨0, [], _, I4, t1, fpn, w0⟩
    rintro m s3 ⟨i, ys, H3, I3, t3, f3, w3⟩
    obtain ⟨hD3, alt⟩ := turn i m ys H3 w3
    rcases alt with ⟨stop, fin⟩ | ⟨go, step⟩
    · refine thn (T.done (cmpCx X xs M scope H2.objs.size s H fp) rfl rfl rfl hc i [] s3 _ H3 _ I3 (stat f3) t3 stop) fun r s4 qZ => ?_
      obtain ⟨hr, I5⟩ := qZ
      subst hr
      exact hR _ _ ys H3 s4 hD hle hD3 fin I5
    · refine thn (T.item (cmpCx X xs M scope H2.objs.size s H fp) rfl rfl rfl hc i [] s3 _ H3 _ I3 (stat f3) t3 go) fun r s4 qZ => ?_
      obtain ⟨u, hr, h4⟩ := qZ
      subst hr
      refine thn h4 fun _ s5 qZ => ?_
      obtain ⟨x, H5, I5, r5, y5, t5, f5⟩ := qZ
      have I5' := I5.pinned (stat f5) (T.obj _ _ t5)
      refine thn (hg H2.objs.size _ s5 _ H5 x u _ I5' r5 (step x H5 y5)) fun _ s6 qZ => ?_
      obtain ⟨σ6, H6, I6, ⟨la, lb⟩, q6⟩ := qZ
      refine thn (PTs.run (ht H2.objs.size) I6 q6) fun k s7 qZ => ?_
      obtain ⟨H7, I7, q7⟩ := qZ
      have again : ∀ {H8 : Hp} {s8 : Shared} {ys' : List V}, Inv (cmpCx X xs M scope H2.objs.size s H fp) ([] ++ pinsAt fp s5.heap) σ6 H8 s8 → (∃ m', m' < m ∧ W (i + 1) m' ys' H8) → ∃ m', m' < m ∧ ∃ i ys H', Inv (cmpCx X xs M scope H2.objs.size s H fp) [] (List.replicate n none ++ σ) H' s8 ∧ tn i s8.heap ∧ (∀ b ∈ fp, H' b = none) ∧ W i m' ys H' := by
        intro H8 s8 ys' I8 ⟨m', lt, w8⟩
        have pin8 : ∀ b ∈ fp, ∀ o, s5.heap.get? b = some o → s8.heap.get? b = some o ∧ H8 b = none := fun b hb o e =>
          have z := I8.pin (b, o) (List.mem_append_right _ (List.mem_append_right _ (mem_pinsAt hb e)))
          ⟨z.1, z.2.1⟩
        refine ⟨m', lt, i + 1, ys', H8, ?_, T.keep _ _ _ t5 fun b hb o e => (pin8 b hb o e).1, fun b hb => ?_, w8⟩
        · refine I8.unpinned.weak (by rw [List.length_append, List.length_replicate, la]) fun j v e => ?_
          by_cases hj : j < n
          · rw [List.getElem?_append_left (by rw [List.length_replicate]; exact hj), List.getElem?_replicate, if_pos hj] at e
            cases e
          · rw [List.getElem?_append_right (by rw [List.length_replicate]; omega), List.length_replicate] at e
            have := lb (j - n)
            rw [show n + (j - n) = j by omega] at this
            rw [this]; exact e
        · obtain ⟨o, e, d⟩ := T.obj _ _ t5 b hb
          exact (pin8 b hb o e).2
      cases k with
      | false =>
        simp only [Bool.false_eq_true, if_false] at q7 ⊢
        exact again I7 q7
      | true =>
        simp only [if_true] at q7 ⊢
        refine thn (he H2.objs.size _ s7 _ H7 _ I7 q7) fun y s8 qZ => ?_
        obtain ⟨v8, H8, I8, r8, e8, l8, w8⟩ := qZ
        refine thn (mt_append (X := cmpCx X xs M scope H2.objs.size s H fp) _ s8 _ H8 (.ref s.heap.objs.size) [v8] _ [y] (fun v H9 => ∃ m', m' < m ∧ W (i + 1) m' (ys ++ [v8]) H9) I8 rfl (.cons r8 .nil) ⟨_, ys, v8, rfl, rfl, e8, l8, w8⟩) fun _ s9 ⟨v9, H9, I9, _, w9⟩ => again I9 w9
  exact codeAny_compStart_list loop (T.self _ 0 _ _ _ t1 loop)
end
end D3

set_option Elab.async false
set_option linter.all false
set_option maxRecDepth 100000
set_option maxHeartbeats 4000000
namespace D3
open PySem PySem.Spec PyProof.Rows L2
section
variable {X : Cx} {pins : List (Addr × Obj)} {σ σ' : L2.St} {H H' : Hp} {s s' : Shared} {xs M : List Str} {scope : Scope} {target elt iter : Expr} {ifs : List Expr} {pos : Pos} {g : Addr → Shared → Hp → List Addr → TG} {tt : Addr → Shared → Hp → List Addr → TT} {te : Addr → Shared → Hp → List Addr → TE} {fp : List Addr} {n : Nat} {C : Addr} {wi : TI}
theorem cmp_back {h' : Heap} (I : Inv X pins σ H s) (I' : Inv (cmpCx X xs M scope C s H fp) [] σ' H' s') (hf : ∀ b ∈ fp, FpOk X pins H b) (hC : s.heap.objs.size ≤ C) (sb : Heap.SameBut C s'.heap h') : Inv X pins σ H' { s' with heap := h' } := by
  have hCn : H' C = none := I'.free
  have u := I'.base
  have ne : ∀ b o, s.heap.get? b = some o → b ≠ C := fun b o e => Nat.ne_of_lt (Nat.lt_of_lt_of_le (Heap.lt_size e) hC)
  have u' : Un (frs X.stack) fp H H' s.heap h' :=
    ⟨fun b o e n hb hx => sb.extBut b o (ne b o e) (u.keep b o e n hb hx), fun b o e n hb hx => let ⟨sl, q⟩ := u.slot b o e n hb hx; ⟨sl, sb.extBut b _ (ne b o e) q⟩, fun b o e n hx => u.free b o e n hx,
      fun b o e hx => let ⟨o', q⟩ := u.there b o e hx; ⟨o', sb.extBut b _ (ne b o e) q⟩, u.tups, u.frzs, u.tbls⟩
  have hok : HOk X.prog X.w H' h' := fun b o e => (I'.hok b o e).stay (fun c v hc q => sb.extBut c v (fun z => by
    subst z
    rcases hc with z | z
    · rw [← z, hCn] at e; cases e
    · rw [hCn] at z; cases z) q) (fun _ q => q) fun _ _ q => q
  exact I.call' (ch := fp) (s' := { s' with heap := h' }) I'.os u' hok I'.bare fun b hb => ⟨(hf b hb).2.2.2.1, (hf b hb).2.1, (hf b hb).2.2.2.2.1, (hf b hb).2.2.2.2.2⟩
noncomputable def tLc (n : Nat) (wi : TI) (g : Addr → Shared → Hp → List Addr → TG) (tt : Addr → Shared → Hp → List Addr → TT) (te : Addr → Shared → Hp → List Addr → TE) : TE := fun σ H Q => wi σ H fun J H1 => ∀ D C s fp, H1 D = none → lcW n J (g C s H1 fp) (tt C s H1 fp) (te C s H1 fp) σ D (fun _ H' => Q (.ref D) H') (upd H1 D (.lst []))
theorem pe_comp (hk : cmpOk scope X.env xs M X.N = true) (hn : xs.length = n) (hc : X.calm = true) (hi : PI X target iter wi)
    (hg : ∀ C s H fp, PG (cmpCx X xs M scope C s H fp) target (g C s H fp)) (ht : ∀ C s H fp, PTs (cmpCx X xs M scope C s H fp) ifs (tt C s H fp)) (he : ∀ C s H fp, PE (cmpCx X xs M scope C s H fp) elt (te C s H fp))
    (hs : ∀ x, foldedSetIterable iter X.env x = pure x := by intro _; rfl) : PE X (.ListComp elt [⟨target, iter, ifs, 0⟩] scope pos) (tLc n wi g tt te) := by
  intro pins s σ H Q I h
  have c := cmp_of hk
  rw [eval_ListComp]
  refine wpAny_comprehension_free (use := none) rfl hs (closure_of (cmp_cells I c)) c.kind c.loc (thn (hi pins s σ H _ I h) fun v s1 h1 => thn h1 fun itv s2 h2 => ?_)
  obtain ⟨it, fp, tn, J, H2, e, I2, T, st2, f2, rd⟩ := h2
  subst e
  refine comp_run (RR := compPost (model X.prog X.w) X.A X.xe none (EP X pins σ Q)) (Fin := fun D _ H' => Q (.ref D) H') c hn hc I2 T st2 f2 (fun C => hg C _ _ _) (fun C => ht C _ _ _) (fun C => he C _ _ _) (fun D C hD => rd D C s2 fp hD) ?_
  intro D C ys H' s' hD hC hys fin I'
  obtain ⟨m, hm, _⟩ := I'.loc
  exact ⟨m, hm, fun h' sb => ⟨.ref D, H', cmp_back I2 I' f2 hC sb, rfl, fin⟩⟩
noncomputable def sLc (n i : Nat) (wi : TI) (g : Addr → Shared → Hp → List Addr → TG) (tt : Addr → Shared → Hp → List Addr → TT) (te : Addr → Shared → Hp → List Addr → TE) : TS := fun D' σ H => wi σ H fun J H1 => ∀ D C s fp, H1 D = none → lcW n J (g C s H1 fp) (tt C s H1 fp) (te C s H1 fp) σ D (fun _ H' => D'.nx (σ.set i (some (.ref D))) H') (upd H1 D (.lst []))
theorem ps_setComp {i : Nat} {y : Str} {py spos : Pos} (hN : X.N.Nodup) (hiy : X.N[i]? = some y) (hy : Loc X.env.scope y) (hk : cmpOk scope X.env xs M X.N = true) (hn : xs.length = n) (hc : X.calm = true) (hi : PI X target iter wi)
    (hg : ∀ C s H fp, PG (cmpCx X xs M scope C s H fp) target (g C s H fp)) (ht : ∀ C s H fp, PTs (cmpCx X xs M scope C s H fp) ifs (tt C s H fp)) (he : ∀ C s H fp, PE (cmpCx X xs M scope C s H fp) elt (te C s H fp))
    (hsw : swapsWith (.ListComp elt [⟨target, iter, ifs, 0⟩] scope pos) (some (.Name y py)) spos.line X.env = pure true := by rfl)
    (hf : X.fn y = true ∨ X.env.scope.names.lookup y = some .local := by first | exact .inl rfl | exact .inr rfl | assumption)
    (hs : ∀ x, foldedSetIterable iter X.env x = pure x := by intro _; rfl) : PS X (.Assign [.Name y py] (.ListComp elt [⟨target, iter, ifs, 0⟩] scope pos) spos) (sLc n i wi g tt te) := by
  intro pins s σ H D' I h
  have c := cmp_of hk
  rw [exec_Assign_Name_used _ _ _ _ hsw]
  refine wpAny_bind (wpAny_standAt (wpAny_bind ?_))
  show wpAny _ X.A (do let _ ← comprehension (.ListComp elt [⟨target, iter, ifs, 0⟩] scope pos) scope X.env _ (newList []) false (eval iter X.env) (some (assign (.Name y py) X.env))) _ _ s
  refine wpAny_bind (wpAny_mono (wpAny_comprehension_free (use := some (assign (.Name y py) X.env)) (Q := fun _ s' => SP X pins D' .next s') rfl hs (closure_of (cmp_cells I c)) c.kind c.loc
    (thn (hi pins s σ H _ I h) fun v s1 h1 => thn h1 fun itv s2 h2 => ?_)) (fun _ s' hq => wpAny_pure (wpAny_pure hq)) fun _ _ e => e)
  obtain ⟨it, fp, tn, J, H2, e, I2, T, st2, f2, rd⟩ := h2
  subst e
  refine comp_run (RR := compPost (model X.prog X.w) X.A X.xe (some (assign (.Name y py) X.env)) (fun _ s' => SP X pins D' .next s')) (Fin := fun D _ H' => D'.nx (σ.set i (some (.ref D))) H') c hn hc I2 T st2 f2 (fun C => hg C _ _ _) (fun C => ht C _ _ _) (fun C => he C _ _ _) (fun D C hD => rd D C s2 fp hD) ?_
  intro D C ys H' s' hD hC hys fin I'
  obtain ⟨m, hm, _⟩ := I'.loc
  obtain ⟨oC, es, ep, hoC, hdC, rC⟩ := id hm
  have hCn : H' C = none := I'.free
  have Ib : Inv X pins σ H' s' := cmp_back (h' := s'.heap) I2 I' f2 hC (Heap.SameBut.refl C s'.heap)
  have hCL : C ≠ X.env.locals := Nat.ne_of_gt (Nat.lt_of_lt_of_le I2.lt hC)
  have Ip : Inv X (pins ++ [(C, oC)]) σ H' s' := Ib.pins_of fun p hp => by
    rcases List.mem_append.mp hp with z | z
    · exact Ib.pin p (List.mem_append_right _ z)
    · have e : p = (C, oC) := by simpa using z
      subst e
      exact ⟨hoC, hCn, hCL, I2.nofs hC, fun v z => by rw [hdC] at z; cases z⟩
  show wpAny _ X.A (assign (.Name y py) X.env (.ref D)) _ _ _
  refine thn (pg_name (i := i) hN hiy hy hf _ s' σ H' (.ref D) (.ref D) (fun σ2 H2 => D'.nx σ2 H2) Ip rfl fin) fun _ s2 qZ => ?_
  obtain ⟨σ3, H3, I3, q3⟩ := qZ
  have pc := I3.pin (C, oC) (List.mem_append_right _ (List.mem_append_right _ (by simp)))
  refine ⟨m, ⟨oC, es, ep, pc.1, hdC, rC⟩, fun h' sb => ⟨σ3, H3, ?_, q3⟩⟩
  exact I3.unpinned.turned (t' := s2.toks) (it := C) (fun b o hb e => sb.extBut b o hb e) pc.2.1 hCL (.inr (Nat.le_trans I2.sz hC)) (fun x a e z => by
    obtain ⟨v, q⟩ := I2.cell x a e
    exact absurd (Nat.lt_of_lt_of_le q.lt (z ▸ hC)) (Nat.lt_irrefl _)) fun p hp z => by
    have := I2.pin p hp
    exact absurd (Nat.lt_of_lt_of_le (Heap.lt_size this.1) (z ▸ hC)) (Nat.lt_irrefl _)
end
end D3

set_option Elab.async false
set_option linter.all false
set_option maxRecDepth 100000
set_option maxHeartbeats 4000000
namespace D3
open PySem PySem.Spec PyProof.Rows L2
noncomputable def PGN (X : Cx) (n : Nat) (tg : Expr) (g : G3) : Prop := ∃ g2, PG X tg g2 ∧ ∀ B S H σ ρ d v Ψ (Q : L2.St → Hp → Prop), ER X.K B S H σ ρ → Rep X.K S H d v → g d ρ Ψ →
  (∀ ρ' σ', Ψ ρ' → ER X.K B S H σ' ρ' → σ'.length = σ.length → (∀ j, σ'[n + j]? = σ[n + j]?) → Q σ' H) → g2 v σ H Q
section
variable {X : Cx} {e : Expr} {es : List Expr} {pos : Pos} {n : Nat}
theorem pgn_name {i : Nat} {x : Str} (hin : i < n) (hN : X.N.Nodup) (hi : X.N[i]? = some x) (hx : Loc X.env.scope x) (hf : X.fn x = true ∨ X.env.scope.names.lookup x = some .local := by first | exact .inl rfl | exact .inr rfl | assumption) : PGN X n (.Name x pos) (gN i) :=
  ⟨_, pg_name hN hi hx hf, fun B S H σ ρ d v Ψ Q er r h k => k _ _ h (er.put r) (by rw [List.length_set]) fun j => by rw [List.getElem?_set_ne (by omega)]⟩
end
noncomputable def PBs (X : Cx) (ifs : List Expr) (t : B3) : Prop := (ifs = [] ∧ t = fun _ Φ => Φ true) ∨ ∃ c, ifs = [c] ∧ PB X c t
theorem pbs_nil {X : Cx} : PBs X [] (fun _ Φ => Φ true) := .inl ⟨rfl, rfl⟩
theorem pbs_one {X : Cx} {c : Expr} {t : B3} (h : PB X c t) : PBs X [c] t := .inr ⟨c, rfl, h⟩
theorem PBs.ex {X : Cx} {ifs : List Expr} {t : B3} (h : PBs X ifs t) : ∃ t2, PTs X ifs t2 ∧ ∀ B S H σ ρ Φ (Q : Bool → Hp → Prop), ER X.K B S H σ ρ → t ρ Φ → (∀ b H', Φ b → Same H H' → Q b H') → t2 σ H Q := by
  rcases h with ⟨rfl, rfl⟩ | ⟨c, rfl, t2, h, w⟩
  · exact ⟨_, .inl ⟨rfl, rfl⟩, fun B S H σ ρ Φ Q er q hd => hd true H q (Same.refl _)⟩
  · exact ⟨t2, .inr ⟨c, rfl, h⟩, w⟩
noncomputable def COMP (g : G3) (tt : B3) (te : E3) (ρ : Fr3) : List D → List D → (List D → Prop) → Prop
  | [], acc, Φ => Φ acc
  | d :: ds, acc, Φ => g d ρ fun ρ1 => tt ρ1 fun k => if k = true then te ρ1 fun y => acc.length < sizeLine ∧ COMP g tt te ρ ds (acc ++ [y]) Φ else COMP g tt te ρ ds acc Φ
noncomputable abbrev fComp (n : Nat) (ti : A3) (g : G3) (tt : B3) (te : E3) : A3 := fun ρ Φ => ti ρ fun ds => COMP g tt te (List.replicate n .un ++ ρ) ds [] Φ
section
variable {K : PySem.W.Frag} {B : Bs} {S : Addr → Prop} {H : Hp} {σ : L2.St} {ρ : Fr3}
theorem ER.shift (er : ER K B S H σ ρ) (n : Nat) : ER K B S H (List.replicate n none ++ σ) (List.replicate n .un ++ ρ) := by
  have sh : ∀ {i : Nat} {x : Sl}, x ≠ .un → (List.replicate n Sl.un ++ ρ)[i]? = some x → n ≤ i ∧ ρ[i - n]? = some x := fun {i x} hx e => by
    by_cases hi : i < n
    · rw [List.getElem?_append_left (by rw [List.length_replicate]; exact hi), List.getElem?_replicate, if_pos hi] at e
      exact absurd (Option.some.inj e).symm hx
    · rw [List.getElem?_append_right (by rw [List.length_replicate]; omega), List.length_replicate] at e
      exact ⟨by omega, e⟩
  have bk : ∀ {i : Nat}, n ≤ i → (List.replicate n (none : Option V) ++ σ)[i]? = σ[i - n]? := fun {i} hi => by
    rw [List.getElem?_append_right (by rw [List.length_replicate]; omega), List.length_replicate]
  exact {
    len := by rw [List.length_append, List.length_append, List.length_replicate, List.length_replicate, er.len]
    same := er.same
    sub := er.sub
    ok0 := er.ok0
    ok := er.ok
    val := fun i d q => by
      obtain ⟨hi, q⟩ := sh (x := .val d) (fun z => by cases z) q
      obtain ⟨v, e, r⟩ := er.val _ d q
      exact ⟨v, (bk hi).trans e, r⟩
    own := fun i d q => by
      obtain ⟨hi, q⟩ := sh (x := .own d) (fun z => by cases z) q
      obtain ⟨a, xs, e, r⟩ := er.own _ d q
      exact ⟨a, xs, (bk hi).trans e, r⟩
    uq := fun i j a ds es q1 q2 e1 e2 => by
      obtain ⟨h1, q1⟩ := sh (x := .own ds) (fun z => by cases z) q1
      obtain ⟨h2, q2⟩ := sh (x := .own es) (fun z => by cases z) q2
      rw [bk h1] at e1
      rw [bk h2] at e2
      have := er.uq _ _ a ds es q1 q2 e1 e2
      omega
    dct := fun i ks d q => by
      obtain ⟨hi, q⟩ := sh (x := .dct ks d) (fun z => by cases z) q
      obtain ⟨a, e, r⟩ := er.dct _ ks d q
      exact ⟨a, (bk hi).trans e, r⟩
    dq := fun i j a ks ds ks' ds' q1 q2 e1 e2 => by
      obtain ⟨h1, q1⟩ := sh (x := .dct ks ds) (fun z => by cases z) q1
      obtain ⟨h2, q2⟩ := sh (x := .dct ks' ds') (fun z => by cases z) q2
      rw [bk h1] at e1
      rw [bk h2] at e2
      have := er.dq _ _ a ks ds ks' ds' q1 q2 e1 e2
      omega
    gh := er.gh }
theorem ER.gather {p : Addr} {xs : List V} (er : ER K B S H σ ρ) (hp : H p = none) : ER K B (fun b => S b ∨ b = p) (upd H p (.lst xs)) σ ρ := by
  have sm := same_new (o := .lst xs) hp
  have hL : ∀ b ys, LR K S H b ys → LR K (fun b => S b ∨ b = p) (upd H p (.lst xs)) b ys := fun b ys q => by
    rcases q with ⟨n, q⟩ | q
    · have hb : b ≠ p := by
        rintro rfl
        rcases q with q | ⟨o, q⟩ <;> rw [hp] at q <;> cases q
      refine .inl ⟨fun z => z.elim n hb, ?_⟩
      rcases q with q | ⟨o, q⟩
      · exact .inl (sm _ _ q)
      · exact .inr ⟨o, sm _ _ q⟩
    · exact .inr q
  have mv : ∀ {c : D} {w : V}, Rep K S H c w → Rep K (fun b => S b ∨ b = p) (upd H p (.lst xs)) c w := fun {c w} q => Rep.map (same_tup sm) hL c w q
  have mvs : ∀ {c : List D} {w : List V}, Reps K S H c w → Reps K (fun b => S b ∨ b = p) (upd H p (.lst xs)) c w := fun {c w} q => Reps.map (same_tup sm) hL c w q
  exact {
    len := er.len
    same := er.same.trans sm
    sub := fun b h => .inl (er.sub b h)
    ok0 := er.ok0
    ok := fun b h => by
      by_cases hb : b = p
      · subst hb; exact ⟨_, upd_same⟩
      · obtain ⟨o, e⟩ := er.ok b (h.resolve_right hb)
        exact ⟨o, sm _ _ e⟩
    val := fun j c q => let ⟨w, e, r'⟩ := er.val j c q; ⟨w, e, mv r'⟩
    own := fun j c q => let ⟨b, zs, e, hs, hz, hl, r'⟩ := er.own j c q; ⟨b, zs, e, .inl hs, hz, sm _ _ hl, mvs r'⟩
    dct := fun j ks ds q => let ⟨b, e, hs, hz, r'⟩ := er.dct j ks ds q; ⟨b, e, .inl hs, hz, r'.map mvs (upd_ne (r'.ne' hp))⟩
    dq := er.dq
    uq := er.uq
    gh := fun q hq => mv (er.gh q hq) }
theorem turn_at {p : Addr} {xs ys : List V} (hs : S p) (hl : H p = some (.lst xs)) : (∀ b zs, SqT K H b zs → SqT K (upd H p (.lst ys)) b zs) ∧ (∀ b zs, LR K S H b zs → LR K S (upd H p (.lst ys)) b zs) := by
  refine ⟨fun b zs q => ?_, fun b zs q => ?_⟩
  · rcases q with (q | ⟨o, q⟩) | q
    · exact .inl (.inl (by rw [upd_ne (ne_of q hl (fun z => by cases z))]; exact q))
    · exact .inl (.inr ⟨o, by rw [upd_ne (ne_of q hl (fun z => by cases z))]; exact q⟩)
    · exact .inr q
  · rcases q with ⟨n, q⟩ | q
    · have hb : b ≠ p := fun z => n (z ▸ hs)
      refine .inl ⟨n, ?_⟩
      rcases q with q | ⟨o, q⟩
      · exact .inl (by rw [upd_ne hb]; exact q)
      · exact .inr ⟨o, by rw [upd_ne hb]; exact q⟩
    · exact .inr q
theorem ER.grow {p : Addr} {xs ys : List V} (er : ER K B S H σ ρ) (hs : S p) (h0 : B.H0 p = none) (hl : H p = some (.lst xs)) (hno : ∀ (i : Nat) ds, ρ[i]? = some (.own ds) → σ[i]? ≠ some (some (.ref p))) : ER K B S (upd H p (.lst ys)) σ ρ := by
  obtain ⟨hT, hL⟩ := turn_at (K := K) (ys := ys) hs hl
  have mv : ∀ {c : D} {w : V}, Rep K S H c w → Rep K S (upd H p (.lst ys)) c w := fun {c w} q => Rep.map hT hL c w q
  have mvs : ∀ {c : List D} {w : List V}, Reps K S H c w → Reps K S (upd H p (.lst ys)) c w := fun {c w} q => Reps.map hT hL c w q
  exact {
    len := er.len
    same := fun b o e => by rw [upd_ne (ne_of_none e h0)]; exact er.same b o e
    sub := er.sub
    ok0 := er.ok0
    ok := fun b h => by
      by_cases hb : b = p
      · subst hb; exact ⟨_, upd_same⟩
      · obtain ⟨o, e⟩ := er.ok b h
        exact ⟨o, by rw [upd_ne hb]; exact e⟩
    val := fun j c q => let ⟨w, e, r'⟩ := er.val j c q; ⟨w, e, mv r'⟩
    own := fun j c q => by
      obtain ⟨b, zs, e, hsb, hz, hlb, r'⟩ := er.own j c q
      have hb : b ≠ p := fun z => hno j c q (z ▸ e)
      exact ⟨b, zs, e, hsb, hz, by rw [upd_ne hb]; exact hlb, mvs r'⟩
    dct := fun j ks ds q => let ⟨b, e, hs, hz, r'⟩ := er.dct j ks ds q; ⟨b, e, hs, hz, r'.map mvs (upd_ne (r'.ne hl))⟩
    dq := er.dq
    uq := er.uq
    gh := fun q hq => mv (er.gh q hq) }
end
section
variable {X : Cx} {xs M : List Str} {scope : Scope} {target elt iter : Expr} {ifs : List Expr} {pos : Pos} {ti : A3} {g : G3} {tt : B3} {te : E3} {n : Nat}
theorem comp_lcG {g2 : TG} {tt2 : TT} {te2 : TE} {K : PySem.W.Frag} (wg : ∀ B S H σ ρ d v Ψ (Q : L2.St → Hp → Prop), ER K B S H σ ρ → Rep K S H d v → g d ρ Ψ → (∀ ρ' σ', Ψ ρ' → ER K B S H σ' ρ' → σ'.length = σ.length → (∀ j, σ'[n + j]? = σ[n + j]?) → Q σ' H) → g2 v σ H Q)
    (wt : ∀ B S H σ ρ Φ (Q : Bool → Hp → Prop), ER K B S H σ ρ → tt ρ Φ → (∀ b H', Φ b → Same H H' → Q b H') → tt2 σ H Q) (we : ∀ B S H σ ρ Φ Q, ER K B S H σ ρ → te ρ Φ → Hand K S H Φ Q → te2 σ H Q)
    {B : Bs} {S : Addr → Prop} {H : Hp} {σ : L2.St} {ρ : Fr3} {Φ : List D → Prop} {J : It} {hs : List (D × V)} {ds : List D} {p : Addr} {Q : VK} {Fin : List V → Hp → Prop} (er : ER K B S H σ ρ) (rv : ∀ p ∈ hs, Rep K S H p.1 p.2) (wk : ∀ S H, ER K { B with gh := hs ++ B.gh } S H σ ρ → J.stop ds.length H ∧ ∀ (i : Nat), i < ds.length → J.go i H ∧ ∀ x H', J.yld i H x H' → Same H H' ∧ ∃ e, ds[i]? = some e ∧ Rep K S H' e x) (hp : H p = none)
    (h : COMP g tt te (List.replicate n .un ++ ρ) ds [] Φ) (hd : HandN K S H Φ Q) (hF : ∀ ys H', Q (.ref p) H' → Fin ys H') : lcW n J g2 tt2 te2 σ p Fin (upd H p (.lst [])) := by
  have hno : ∀ (i : Nat) es, ρ[i]? = some (.own es) → σ[i]? ≠ some (some (.ref p)) := fun i es q z => by
    obtain ⟨a, zs, e, _, _, hl, _⟩ := er.own i es q
    rw [e] at z; cases z
    rw [hp] at hl; cases hl
  have h0 : B.H0 p = none := er.same.free hp
  refine ⟨fun i m ys H1 => m = ds.length - i ∧ i ≤ ds.length ∧ H1 p = some (.lst ys) ∧ (∀ b o, H b = some o → H1 b = some o) ∧ ∃ acc, ER K { B with gh := hs ++ B.gh } (fun b => S b ∨ b = p) H1 σ ρ ∧ Reps K (fun b => S b ∨ b = p) H1 acc ys ∧ COMP g tt te (List.replicate n .un ++ ρ) (ds.drop i) acc Φ,
    ⟨_, rfl, Nat.zero_le _, upd_same, same_new hp, [], (er.holds rv).gather hp, Reps.nil, h⟩, ?_⟩
  rintro i m ys H1 ⟨rfl, hi, hl, sm, acc, er1, ra, hc⟩
  refine ⟨hl, ?_⟩
  obtain ⟨wstop, wgo⟩ := wk _ H1 er1
  by_cases hlt : i < ds.length
  · obtain ⟨go, yl⟩ := wgo i hlt
    rw [List.drop_eq_getElem_cons hlt] at hc
    refine .inr ⟨go, fun x H2 y => ?_⟩
    obtain ⟨sy, e', ee, re⟩ := yl x H2 y
    rw [List.getElem?_eq_getElem hlt] at ee
    cases ee
    have er1 := er1.go sy
    have hl := sy _ _ hl
    have sm : ∀ b o, H b = some o → H2 b = some o := fun b o e => sy _ _ (sm b o e)
    have ra := ra.same sy
    have er1' := er1.shift n
    refine wg _ _ _ _ _ _ x _ _ er1' re hc fun ρ1 σ1 h1 er2 l1 l2 => ⟨⟨by rw [l1, List.length_append, List.length_replicate], fun j => ?_⟩, wt _ _ _ _ _ _ _ er2 h1 fun k H3 hk s3 => ?_⟩
    · rw [l2 j, List.getElem?_append_right (by rw [List.length_replicate]; omega), List.length_replicate, Nat.add_sub_cancel_left]
    · cases k with
      | false =>
        simp only [Bool.false_eq_true, if_false] at hk ⊢
        exact ⟨_, by omega, rfl, hlt, s3 _ _ hl, fun b o e => s3 _ _ (sm b o e), acc, er1.go s3, ra.same s3, hk⟩
      | true =>
        simp only [if_true] at hk ⊢
        refine we _ _ _ _ _ _ _ (er2.go s3) hk fun y u H4 hy s4 ry => ?_
        have s34 := s3.trans s4
        have hl4 := s34 _ _ hl
        have er4 := er1.go s34
        refine ⟨hl4, by rw [← ra.len]; exact hy.1, _, by omega, rfl, hlt, upd_same, fun b o e => ?_, acc ++ [y], er4.grow (.inr rfl) h0 hl4 hno, ?_, hy.2⟩
        · have hb : b ≠ p := ne_of_none e hp
          rw [upd_ne hb]
          exact s34 _ _ (sm b o e)
        · obtain ⟨hT, hL⟩ := turn_at (K := K) (S := fun b => S b ∨ b = p) (ys := ys ++ [u]) (.inr rfl) hl4
          exact Reps.map hT hL _ _ ((ra.same s34).app (Reps.cons ry Reps.nil))
  · have hi' : i = ds.length := by omega
    subst hi'
    rw [List.drop_length] at hc
    refine .inl ⟨wstop, hF ys H1 ?_⟩
    -- the heap without the gathered list
    have eH : upd (fun b => if b = p then none else H1 b) p (.lst ys) = H1 := by
      funext b
      by_cases hb : b = p
      · subst hb; rw [upd_same, hl]
      · rw [upd_ne hb]; simp only [hb, if_false]
    have hT : ∀ b zs, SqT K H1 b zs → SqT K (fun b => if b = p then none else H1 b) b zs := fun b zs q => by
      rcases q with (q | ⟨o, q⟩) | q
      · exact .inl (.inl (by simp only [ne_of q hl (fun z => by cases z), if_false]; exact q))
      · exact .inl (.inr ⟨o, by simp only [ne_of q hl (fun z => by cases z), if_false]; exact q⟩)
      · exact .inr q
    have hL : ∀ b zs, LR K (fun b => S b ∨ b = p) H1 b zs → LR K S (fun b => if b = p then none else H1 b) b zs := fun b zs q => by
      rcases q with ⟨n, q⟩ | q
      · have hb : b ≠ p := fun z => n (.inr z)
        refine .inl ⟨fun z => n (.inl z), ?_⟩
        rcases q with q | ⟨o, q⟩
        · exact .inl (by simp only [hb, if_false]; exact q)
        · exact .inr ⟨o, by simp only [hb, if_false]; exact q⟩
      · exact .inr q
    have := hd acc ys p (fun b => if b = p then none else H1 b) hc (fun b o e => by simp only [ne_of_none e hp, if_false]; exact sm b o e) (by simp) (Reps.map hT hL _ _ ra)
    rw [eH] at this
    exact this
theorem comp_lcW {g2 : TG} {tt2 : TT} {te2 : TE} {K : PySem.W.Frag} (wg : ∀ B S H σ ρ d v Ψ (Q : L2.St → Hp → Prop), ER K B S H σ ρ → Rep K S H d v → g d ρ Ψ → (∀ ρ' σ', Ψ ρ' → ER K B S H σ' ρ' → σ'.length = σ.length → (∀ j, σ'[n + j]? = σ[n + j]?) → Q σ' H) → g2 v σ H Q)
    (wt : ∀ B S H σ ρ Φ (Q : Bool → Hp → Prop), ER K B S H σ ρ → tt ρ Φ → (∀ b H', Φ b → Same H H' → Q b H') → tt2 σ H Q) (we : ∀ B S H σ ρ Φ Q, ER K B S H σ ρ → te ρ Φ → Hand K S H Φ Q → te2 σ H Q)
    {B : Bs} {S : Addr → Prop} {H : Hp} {σ : L2.St} {ρ : Fr3} {Φ : List D → Prop} {J : It} {hs : List (D × V)} {ds : List D} {p : Addr} {Q : VK} {Fin : List V → Hp → Prop} (er : ER K B S H σ ρ) (rv : ∀ p ∈ hs, Rep K S H p.1 p.2) (wk : WlkL K J hs ds) (hp : H p = none)
    (h : COMP g tt te (List.replicate n .un ++ ρ) ds [] Φ) (hd : HandN K S H Φ Q) (hF : ∀ ys H', Q (.ref p) H' → Fin ys H') : lcW n J g2 tt2 te2 σ p Fin (upd H p (.lst [])) :=
  comp_lcG wg wt we er rv (fun S H er => wk S H fun p hp => er.gh p (List.mem_append_left _ hp)) hp h hd hF
theorem pf_comp (hk : cmpOk scope X.env xs M X.N = true) (hn : xs.length = n) (hc : X.calm = true) (hi : PID X target iter ti)
    (hg : ∀ C s H fp, PGN (cmpCx X xs M scope C s H fp) n target g) (ht : ∀ C s H fp, PBs (cmpCx X xs M scope C s H fp) ifs tt) (he : ∀ C s H fp, PD (cmpCx X xs M scope C s H fp) elt te)
    (hs : ∀ x, foldedSetIterable iter X.env x = pure x := by intro _; rfl) : PF X (.ListComp elt [⟨target, iter, ifs, 0⟩] scope pos) (fComp n ti g tt te) := by
  obtain ⟨wi, hi, ww⟩ := hi
  have ht' := fun C s H fp => (ht C s H fp).ex
  refine ⟨_, pe_comp hk hn hc hi (fun C s H fp => (hg C s H fp).choose_spec.1) (fun C s H fp => (ht' C s H fp).choose_spec.1) (fun C s H fp => (he C s H fp).choose_spec.1) hs, fun B S H σ ρ Φ Q er q hd => ?_⟩
  refine ww B S H σ ρ _ _ er q fun ds J hs H1 hΦ s1 rv wk D C s fp hD => ?_
  exact comp_lcW (hg C s H1 fp).choose_spec.2 (ht' C s H1 fp).choose_spec.2 (he C s H1 fp).choose_spec.2 (er.go s1) rv wk hD hΦ (Q := Q) (fun es zs p H2 p1 s2 hp r => hd es zs p H2 p1 (s1.trans s2) hp r) fun _ _ z => z
theorem setComp_ex {i : Nat} {y : Str} {py spos : Pos} (hN : X.N.Nodup) (hiy : X.N[i]? = some y) (hy : Loc X.env.scope y) (hk : cmpOk scope X.env xs M X.N = true) (hn : xs.length = n) (hc : X.calm = true) (hi : PID X target iter ti)
    (hg : ∀ C s H fp, PGN (cmpCx X xs M scope C s H fp) n target g) (ht : ∀ C s H fp, PBs (cmpCx X xs M scope C s H fp) ifs tt) (he : ∀ C s H fp, PD (cmpCx X xs M scope C s H fp) elt te)
    (hsw : swapsWith (.ListComp elt [⟨target, iter, ifs, 0⟩] scope pos) (some (.Name y py)) spos.line X.env = pure true)
    (hf : X.fn y = true ∨ X.env.scope.names.lookup y = some .local) (hs : ∀ x, foldedSetIterable iter X.env x = pure x) :
    ∃ t2, PS X (.Assign [.Name y py] (.ListComp elt [⟨target, iter, ifs, 0⟩] scope pos) spos) t2 ∧ ∀ B S H σ ρ Φ (D' : Ends), ER X.K B S H σ ρ → fComp n ti g tt te ρ Φ → HandN X.K S H Φ (fun v H' => D'.nx (σ.set i (some v)) H') → t2 D' σ H := by
  obtain ⟨wi, hi, ww⟩ := hi
  have ht' := fun C s H fp => (ht C s H fp).ex
  refine ⟨_, ps_setComp hN hiy hy hk hn hc hi (fun C s H fp => (hg C s H fp).choose_spec.1) (fun C s H fp => (ht' C s H fp).choose_spec.1) (fun C s H fp => (he C s H fp).choose_spec.1) hsw hf hs, fun B S H σ ρ Φ D' er q hd => ?_⟩
  refine ww B S H σ ρ _ _ er q fun ds J hs H1 hΦ s1 rv wk D C s fp hD => ?_
  exact comp_lcW (hg C s H1 fp).choose_spec.2 (ht' C s H1 fp).choose_spec.2 (he C s H1 fp).choose_spec.2 (er.go s1) rv wk hD hΦ (Q := fun v H' => D'.nx (σ.set i (some v)) H') (fun es zs p H2 p1 s2 hp r => hd es zs p H2 p1 (s1.trans s2) hp r) fun _ _ z => z
theorem psd_setComp {i : Nat} {y : Str} {py spos : Pos} (hN : X.N.Nodup) (hiy : X.N[i]? = some y) (hy : Loc X.env.scope y) (hk : cmpOk scope X.env xs M X.N = true) (hn : xs.length = n) (hc : X.calm = true) (hi : PID X target iter ti)
    (hg : ∀ C s H fp, PGN (cmpCx X xs M scope C s H fp) n target g) (ht : ∀ C s H fp, PBs (cmpCx X xs M scope C s H fp) ifs tt) (he : ∀ C s H fp, PD (cmpCx X xs M scope C s H fp) elt te)
    (hsw : swapsWith (.ListComp elt [⟨target, iter, ifs, 0⟩] scope pos) (some (.Name y py)) spos.line X.env = pure true := by rfl)
    (hf : X.fn y = true ∨ X.env.scope.names.lookup y = some .local := by first | exact .inl rfl | exact .inr rfl | assumption) (hs : ∀ x, foldedSetIterable iter X.env x = pure x := by intro _; rfl) :
    PSD X (.Assign [.Name y py] (.ListComp elt [⟨target, iter, ifs, 0⟩] scope pos) spos) (sSet i (dF (fComp n ti g tt te))) := by
  obtain ⟨t2, h, w⟩ := setComp_ex (spos := spos) (pos := pos) hN hiy hy hk hn hc hi hg ht he hsw hf hs
  refine ⟨t2, h, fun B S H σ ρ Φ D' er q ok => w B S H σ ρ _ D' er q fun ds xs p H1 hΦ s1 hp r => ?_⟩
  exact ok.nx _ S _ _ hΦ (((er.go s1).go (same_new hp)).put (Rep.newLst (er.ok.same s1) hp r))
theorem psd_ownComp {i : Nat} {y : Str} {py spos : Pos} (hN : X.N.Nodup) (hiy : X.N[i]? = some y) (hy : Loc X.env.scope y) (hk : cmpOk scope X.env xs M X.N = true) (hn : xs.length = n) (hc : X.calm = true) (hi : PID X target iter ti)
    (hg : ∀ C s H fp, PGN (cmpCx X xs M scope C s H fp) n target g) (ht : ∀ C s H fp, PBs (cmpCx X xs M scope C s H fp) ifs tt) (he : ∀ C s H fp, PD (cmpCx X xs M scope C s H fp) elt te)
    (hsw : swapsWith (.ListComp elt [⟨target, iter, ifs, 0⟩] scope pos) (some (.Name y py)) spos.line X.env = pure true := by rfl)
    (hf : X.fn y = true ∨ X.env.scope.names.lookup y = some .local := by first | exact .inl rfl | exact .inr rfl | assumption) (hs : ∀ x, foldedSetIterable iter X.env x = pure x := by intro _; rfl) :
    PSD X (.Assign [.Name y py] (.ListComp elt [⟨target, iter, ifs, 0⟩] scope pos) spos) (sOwn i (fComp n ti g tt te)) := by
  obtain ⟨t2, h, w⟩ := setComp_ex (spos := spos) (pos := pos) hN hiy hy hk hn hc hi hg ht he hsw hf hs
  refine ⟨t2, h, fun B S H σ ρ Φ D' er q ok => w B S H σ ρ _ D' er q fun ds xs p H1 hΦ s1 hp r => ?_⟩
  exact ok.nx _ _ _ _ hΦ ((er.go s1).take hp r)
end
end D3

set_option Elab.async false
set_option linter.all false
set_option maxRecDepth 100000
set_option maxHeartbeats 4000000
namespace D3
open PySem PySem.Spec PyProof.Rows L2
theorem bt_len : bootBuiltins "len" = some (.builtin "len") := by decide +kernel
theorem bt_abs : bootBuiltins "abs" = some (.builtin "abs") := by decide +kernel
theorem bt_min : bootBuiltins "min" = some (.builtin "min") := by decide +kernel
theorem bt_max : bootBuiltins "max" = some (.builtin "max") := by decide +kernel
theorem bt_sum : bootBuiltins "sum" = some (.builtin "sum") := by decide +kernel
theorem bt_list : bootBuiltins "list" = some (.type "list") := by decide +kernel
theorem bt_tuple : bootBuiltins "tuple" = some (.type "tuple") := by decide +kernel
theorem atI_n {α : Type} (xs : List α) (n : Nat) : atI xs (n : Int) = xs[n]? := by
  cases h : xs[n]? with
  | some v => exact atI_nat h
  | none =>
    have h' := List.getElem?_eq_none_iff.mp h
    unfold atI ixN
    rw [if_pos (by omega), if_neg (by omega)]
    rfl
theorem fmod_pos {i j : Int} (h : 0 < j) : i.fmod j = i % j := Int.fmod_eq_emod_of_nonneg i (Int.le_of_lt h)
theorem fdiv_pos {i j : Int} (h : 0 < j) : i.fdiv j = i / j := Int.fdiv_eq_ediv_of_nonneg i (Int.le_of_lt h)
theorem small_le {n : Nat} (h : n ≤ 1000) : n ≤ sizeLine := Nat.le_of_lt (small1000 h)
noncomputable def Bd (k : Nat) (i : Int) : Prop := i.natAbs < 2 ^ k
theorem Bd.mono {k l : Nat} {i : Int} (h : Bd k i) (hl : k ≤ l) : Bd l i := Nat.lt_of_lt_of_le h (Nat.pow_le_pow_right (by decide) hl)
theorem Bd.neg {k : Nat} {i : Int} (h : Bd k i) : Bd k (-i) := by unfold Bd; rw [Int.natAbs_neg]; exact h
theorem Bd.add {k l : Nat} {i j : Int} (h : Bd k i) (g : Bd l j) : Bd (max k l + 1) (i + j) := by
  unfold Bd at *
  have h1 : i.natAbs < 2 ^ max k l := Nat.lt_of_lt_of_le h (Nat.pow_le_pow_right (by decide) (Nat.le_max_left ..))
  have h2 : j.natAbs < 2 ^ max k l := Nat.lt_of_lt_of_le g (Nat.pow_le_pow_right (by decide) (Nat.le_max_right ..))
  have h3 := Int.natAbs_add_le i j
  rw [Nat.pow_succ]
  omega
theorem Bd.sub {k l : Nat} {i j : Int} (h : Bd k i) (g : Bd l j) : Bd (max k l + 1) (i - j) := by rw [Int.sub_eq_add_neg]; exact h.add g.neg
theorem Bd.mul {k l : Nat} {i j : Int} (h : Bd k i) (g : Bd l j) : Bd (k + l) (i * j) := by
  unfold Bd at *
  rw [Int.natAbs_mul, Nat.pow_add]
  exact Nat.mul_lt_mul_of_lt_of_lt h g
theorem Bd.bits {k : Nat} {i : Int} (h : Bd k i) : Builtin.Int.intBits i ≤ k := by
  unfold Builtin.Int.intBits
  split
  · exact Nat.zero_le _
  · rename_i hz
    have h0 : i.natAbs ≠ 0 := by
      intro z
      apply hz
      have : i = 0 := Int.natAbs_eq_zero.mp z
      simp [this]
    exact (Nat.log2_lt h0).mpr h
theorem mulOk {k l : Nat} {i j : Int} (h : Bd k i) (g : Bd l j) (hk : k + l ≤ 134217728) : IntMulOk i j := IntMulOk.of_le h.bits g.bits hk
theorem cd_of {k : Nat} {i j : Int} (h0 : j ≠ 0) (h : Bd k j) (hk : k ≤ 9000) : CD i j := by
  refine ⟨h0, ?_⟩
  have hz : j.natAbs ≠ 0 := fun z => h0 (Int.natAbs_eq_zero.mp z)
  exact Nat.lt_of_lt_of_le ((Nat.log2_lt hz).mpr h) hk
theorem bd_of {k : Nat} {i : Int} (n : Nat) (h : i.natAbs ≤ n) (hn : n < 2 ^ k) : Bd k i := Nat.lt_of_le_of_lt h hn
theorem cd_lit {i j : Int} (h : decide (j ≠ 0 ∧ j.natAbs < 1073741824) = true) : CD i j := by
  have h := of_decide_eq_true h
  exact cd_of (k := 30) h.1 h.2 (by decide)
end D3

set_option Elab.async false
set_option linter.all false
set_option maxRecDepth 100000
set_option maxHeartbeats 4000000
namespace D3
open PySem PySem.Spec PyProof.Rows L2
section
variable {X : Cx} {tg : Expr}
theorem call_sumL (hc : X.calm = true) : CallR X (.builtin "sum") (fun xs H Q => ∃ (p : Addr) (ns : List Int), xs = [.ref p] ∧ SqL X.K H p (ns.map V.int) ∧ Q (.int ns.sum) H) := by
  intro pins s σ H xs us Q I r h
  obtain ⟨p, ns, rfl, hq, q⟩ := h
  obtain ⟨u, rfl, rx⟩ := vals1 r
  cases rx
  obtain ⟨its, r', pl, hz⟩ := I.list hq
  have hi : IntsAre its ns := intsAre_of r'
  obtain ⟨xs, hxs⟩ := hi.allInts.items
  have hl := pl.isList
  have e1 : (numsOf its).sum = ns.sum := by rw [hi.numsOf]
  rw [hxs] at hl
  have e2 : numsOf its = numsOf (intItems xs).toList := by rw [← hxs]
  refine sum_intListG (I.ok.hd hc) hl fun h' tk t' kp => ⟨.int ns.sum, H, I.kept kp, ⟨t', ?_⟩, q⟩
  rw [preSum_eq, List.take_of_length_le (by simp), ← e1, e2, nums_intItems]
noncomputable abbrev cSum : Con
  | [.lst ds], Φ => ∃ ns : List Int, ds = ns.map .int ∧ Φ (.int ns.sum)
  | _, _ => False
theorem b_sum (hc : X.calm = true) : CallD X (.builtin "sum") cSum := ⟨_, call_sumL hc, fun S H ds vs Φ Q so r h hd => by
  match ds, h with
  | [.lst ds], ⟨ns, e, h⟩ =>
    subst e
    simp only [Reps] at r
    obtain ⟨v, _, rfl, rv, rfl⟩ := r
    obtain ⟨a, xs, rfl, lr, rs⟩ := rep_lst rv
    have := rs.intsV
    subst this
    exact ⟨a, ns, rfl, lr.sq, hd _ _ H h (Same.refl _) Rep.int⟩⟩
theorem bd_lit {k : Nat} {i : Int} (h : decide (i.natAbs < 2 ^ k) = true) : Bd k i := by unfold Bd; exact of_decide_eq_true h
theorem sl_le {n : Nat} (k : Nat) (h : n = k) (hk : k ≤ 1000) : n ≤ sizeLine := by subst h; exact small_le hk
theorem sl_lt {n : Nat} (k : Nat) (h : n = k) (hk : k ≤ 1000) : n < sizeLine := by subst h; exact small1000 hk
theorem tst {A B : Prop} {b : Bool} (h1 : b = true → A) (h2 : b = false → B) : if b = true then A else B := by
  cases b with
  | true => rw [if_pos rfl]; exact h1 rfl
  | false => rw [if_neg Bool.false_ne_true]; exact h2 rfl
theorem tF {A B : Prop} {b : Bool} (h : b = false) (a : B) : if b = true then A else B := by subst h; rw [if_neg Bool.false_ne_true]; exact a
end
end D3

set_option Elab.async false
set_option linter.all false
set_option maxRecDepth 100000
set_option maxHeartbeats 4000000
namespace D3
open PySem PySem.Spec PyProof.Rows L2
mutual
noncomputable def eqD : D → D → Bool
  | .non, .non => true
  | .bl a, .bl b => a == b
  | .bl a, .int b => (if a then 1 else 0) == b
  | .int a, .bl b => a == (if b then 1 else 0)
  | .int a, .int b => a == b
  | .str a, .str b => a == b
  | .tup xs, .tup ys => eqDs xs ys
  | .lst xs, .lst ys => eqDs xs ys
  | _, _ => false
noncomputable def eqDs : List D → List D → Bool
  | [], [] => true
  | x :: xs, y :: ys => eqD x y && eqDs xs ys
  | _, _ => false
end
mutual
noncomputable def dep : D → Nat
  | .tup xs => deps xs + 1
  | .lst xs => deps xs + 1
  | _ => 0
noncomputable def deps : List D → Nat
  | [] => 0
  | x :: xs => max (dep x) (deps xs)
end
theorem deps_le {n : Nat} : ∀ {ds : List D}, (∀ d ∈ ds, dep d ≤ n) → deps ds ≤ n
  | [], _ => Nat.zero_le _
  | d :: ds, h => by
    simp only [deps]
    exact Nat.max_le.mpr ⟨h d List.mem_cons_self, deps_le fun e he => h e (List.mem_cons_of_mem _ he)⟩
theorem le_deps : ∀ {ds : List D} {i : Nat} {d : D}, ds[i]? = some d → dep d ≤ deps ds
  | [], i, d, h => by simp at h
  | c :: ds, 0, d, h => by simp at h; subst h; simp only [deps]; exact Nat.le_max_left _ _
  | c :: ds, i + 1, d, h => by simp only [deps]; exact Nat.le_trans (le_deps (i := i) (by simpa using h)) (Nat.le_max_right _ _)
mutual
theorem eqD_refl : ∀ d : D, eqD d d = true
  | .non => by simp only [eqD]
  | .bl b => by simp [eqD]
  | .int i => by simp [eqD]
  | .str x => by simp [eqD]
  | .tup ds => by simp only [eqD]; exact eqDs_refl ds
  | .lst ds => by simp only [eqD]; exact eqDs_refl ds
theorem eqDs_refl : ∀ ds : List D, eqDs ds ds = true
  | [] => by simp only [eqDs]
  | d :: ds => by simp only [eqDs, eqD_refl d, eqDs_refl ds, Bool.and_self]
end
theorem eqDs_len : ∀ {xs ys : List D}, xs.length ≠ ys.length → eqDs xs ys = false
  | [], [], h => absurd rfl h
  | [], _ :: _, _ => by simp only [eqDs]
  | _ :: _, [], _ => by simp only [eqDs]
  | x :: xs, y :: ys, h => by
    simp only [eqDs]
    rw [eqDs_len (xs := xs) (ys := ys) (by simpa using h), Bool.and_false]
theorem eqDs_range : ∀ {xs ys : List D}, xs.length = ys.length → (List.range xs.length).all (fun j => eqD (xs.getD j .non) (ys.getD j .non)) = eqDs xs ys
  | [], [], _ => by simp [eqDs]
  | x :: xs, y :: ys, h => by
    rw [List.length_cons, List.range_succ_eq_map, List.all_cons, List.all_map]
    simp only [eqDs]
    rw [← eqDs_range (xs := xs) (ys := ys) (by simpa using h)]
    rfl
section
variable {X : Cx} {pins : List (Addr × Obj)} {σ : L2.St} {H : Hp} {s : Shared} {S : Addr → Prop}
theorem not_both {a : Addr} {xs ys : List V} (I : Inv X pins σ H s) (h : SqT X.K H a xs) (h' : SqL X.K H a ys) : False := by
  obtain ⟨its, _, p, _⟩ := I.tuple h
  obtain ⟨its2, _, p2, _⟩ := I.list h'
  obtain ⟨o, e, c, _⟩ := p
  obtain ⟨o2, n2, e2, c2, _⟩ := p2
  rw [e] at e2; cases e2
  rw [c] at c2
  exact absurd c2 (by decide)
mutual
theorem rep_inj (I : Inv X pins σ H s) : ∀ (d d' : D) (v : V), Rep X.K S H d v → Rep X.K S H d' v → d = d'
  | .non, d', v, h, h' => by cases rep_non h; cases d' <;> simp [Rep] at h' ⊢
  | .bl b, d', v, h, h' => by cases rep_bl h; cases d' <;> simp [Rep] at h' ⊢; exact h'
  | .int b, d', v, h, h' => by cases rep_int h; cases d' <;> simp [Rep] at h' ⊢; exact h'
  | .str b, d', v, h, h' => by cases rep_str h; cases d' <;> simp [Rep] at h' ⊢; exact h'
  | .tup ds, d', v, h, h' => by
    obtain ⟨a, xs, rfl, q, rs⟩ := rep_tup h
    cases d' with
    | tup es =>
      obtain ⟨a', xs', e, q', rs'⟩ := rep_tup h'
      cases e
      have := I.tuple_inj q q'
      subst this
      rw [reps_inj I ds es xs rs rs']
    | lst es =>
      obtain ⟨a', xs', e, q', rs'⟩ := rep_lst h'
      cases e
      exact (not_both I q q'.sq).elim
    | _ => simp [Rep] at h'
  | .lst ds, d', v, h, h' => by
    obtain ⟨a, xs, rfl, q, rs⟩ := rep_lst h
    cases d' with
    | lst es =>
      obtain ⟨a', xs', e, q', rs'⟩ := rep_lst h'
      cases e
      have := I.list_inj q.sq q'.sq
      subst this
      rw [reps_inj I ds es xs rs rs']
    | tup es =>
      obtain ⟨a', xs', e, q', rs'⟩ := rep_tup h'
      cases e
      exact (not_both I q' q.sq).elim
    | _ => simp [Rep] at h'
theorem reps_inj (I : Inv X pins σ H s) : ∀ (d d' : List D) (v : List V), Reps X.K S H d v → Reps X.K S H d' v → d = d'
  | [], d', v, h, h' => by
    simp only [Reps] at h; subst h
    cases d' with
    | nil => rfl
    | cons c cs => simp [Reps] at h'
  | c :: cs, d', v, h, h' => by
    simp only [Reps] at h
    obtain ⟨x, r, rfl, q, t⟩ := h
    cases d' with
    | nil => simp [Reps] at h'
    | cons e es =>
      simp only [Reps] at h'
      obtain ⟨x', r', e', q', t'⟩ := h'
      cases e'
      rw [rep_inj I c e x q q', reps_inj I cs es r t t']
end
noncomputable def RcQ (ne : Bool) (A : Around) (s : Shared) (u v : Value) (b : Bool) : Prop := if ne then SeqAt.RcNeAt A s u v (!b) else SeqAt.RcAt A s u v b
theorem items_eq {A : Around} (its its2 : List Value) (xs ys : List V) (ds es : List D) (r1 : Vals xs its) (r2 : Vals ys its2) (rs : Reps X.K S H ds xs) (rs' : Reps X.K S H es ys)
    (ih : ∀ (j : Nat) (x y : D) (v v' : V) (u u' : Value), ds[j]? = some x → Rep X.K S H x v → Rep X.K S H y v' → RelV v u → RelV v' u' → SeqAt.EqAt A s u u' (eqD x y)) :
    ∀ j (h1 : j < its.toArray.size) (h2 : j < its2.toArray.size), SeqAt.EqAt A s its.toArray[j] its2.toArray[j] (eqD (ds.getD j .non) (es.getD j .non)) := by
  intro j h1 h2
  have k1 : j < ds.length := by rw [rs.len, r1.length]; simpa using h1
  have k2 : j < es.length := by rw [rs'.len, r2.length]; simpa using h2
  obtain ⟨v, ev, rv⟩ := rs.get (i := j) (d := ds[j]) (by simp [k1])
  obtain ⟨v', ev', rv'⟩ := rs'.get (i := j) (d := es[j]) (by simp [k2])
  obtain ⟨u, eu, ru⟩ := r1.get ev
  obtain ⟨u', eu', ru'⟩ := r2.get ev'
  have w1 : its.toArray[j] = u := by
    have : its[j]? = some its.toArray[j] := by simp at h1 ⊢
    rw [eu] at this; exact (Option.some.inj this).symm
  have w2 : its2.toArray[j] = u' := by
    have : its2[j]? = some its2.toArray[j] := by simp at h2 ⊢
    rw [eu'] at this; exact (Option.some.inj this).symm
  have w3 : ds.getD j .non = ds[j] := by rw [List.getD_eq_getElem?_getD]; simp [k1]
  have w4 : es.getD j .non = es[j] := by rw [List.getD_eq_getElem?_getD]; simp [k2]
  rw [w1, w2, w3, w4]
  exact ih j ds[j] es[j] v v' u u' (by simp [k1]) rv rv' ru ru'
theorem rc_lists {ne : Bool} {A : Around} {ds es : List D} {a b : Addr} {xs ys : List V} (I : Inv X pins σ H s) (hu : A.units < cLine) (q : SqL X.K H a xs) (q' : SqL X.K H b ys) (rs : Reps X.K S H ds xs) (rs' : Reps X.K S H es ys)
    (ih : ∀ (j : Nat) (x y : D) (v v' : V) (u u' : Value), ds[j]? = some x → Rep X.K S H x v → Rep X.K S H y v' → RelV v u → RelV v' u' → SeqAt.EqAt A.in1 s u u' (eqD x y)) : RcQ ne A s (.ref a) (.ref b) (eqDs ds es) := by
  obtain ⟨its, r1, p1, _⟩ := I.list q
  obtain ⟨its2, r2, p2, _⟩ := I.list q'
  have hl1 : its.toArray.size = ds.length := by rw [rs.len, r1.length]; simp
  have hl2 : its2.toArray.size = es.length := by rw [rs'.len, r2.length]; simp
  unfold RcQ
  by_cases hlen : ds.length = es.length
  · have it := items_eq its its2 xs ys ds es r1 r2 rs rs' ih
    have e1 : (List.range its.toArray.size).all (fun j => eqD (ds.getD j .non) (es.getD j .non)) = eqDs ds es := by rw [hl1]; exact eqDs_range hlen
    cases ne with
    | false =>
      have := SeqAt.RcAt.lists p1.isList p2.isList (by rw [hl1, hl2, hlen]) hu it
      rw [e1] at this
      exact this
    | true =>
      have := SeqAt.RcNeAt.lists p1.isList p2.isList (by rw [hl1, hl2, hlen]) hu it
      rw [e1] at this
      exact this
  · rw [eqDs_len hlen]
    have hz : (its.toArray.size != its2.toArray.size) = true := by rw [hl1, hl2]; simpa using hlen
    cases ne with
    | false => exact SeqAt.RcAt.lists_lengths p1.isList p2.isList hz hu
    | true => exact SeqAt.RcNeAt.lists_lengths p1.isList p2.isList hz hu
theorem rc_tuples {ne : Bool} {A : Around} {ds es : List D} {a b : Addr} {xs ys : List V} (I : Inv X pins σ H s) (hu : A.units < cLine) (q : SqT X.K H a xs) (q' : SqT X.K H b ys) (rs : Reps X.K S H ds xs) (rs' : Reps X.K S H es ys)
    (ih : ∀ (j : Nat) (x y : D) (v v' : V) (u u' : Value), ds[j]? = some x → Rep X.K S H x v → Rep X.K S H y v' → RelV v u → RelV v' u' → SeqAt.EqAt A.in1 s u u' (eqD x y)) : RcQ ne A s (.ref a) (.ref b) (eqDs ds es) := by
  obtain ⟨its, r1, p1, _⟩ := I.tuple q
  obtain ⟨its2, r2, p2, _⟩ := I.tuple q'
  have hl1 : its.toArray.size = ds.length := by rw [rs.len, r1.length]; simp
  have hl2 : its2.toArray.size = es.length := by rw [rs'.len, r2.length]; simp
  have it := items_eq its its2 xs ys ds es r1 r2 rs rs' ih
  have e1 : ((List.range (min its.toArray.size its2.toArray.size)).all (fun j => eqD (ds.getD j .non) (es.getD j .non)) && its.toArray.size == its2.toArray.size) = eqDs ds es := by
    rw [hl1, hl2]
    by_cases hlen : ds.length = es.length
    · rw [← hlen, Nat.min_self, eqDs_range hlen]; simp
    · rw [eqDs_len hlen]
      have : (ds.length == es.length) = false := by simpa using hlen
      rw [this, Bool.and_false]
  unfold RcQ
  cases ne with
  | false =>
    have := SeqAt.RcAt.tuples p1 p2 hu it
    rw [e1] at this
    exact this
  | true =>
    have := SeqAt.RcNeAt.tuples p1 p2 hu it
    rw [e1] at this
    exact this
theorem eqAt_D (I : Inv X pins σ H s) : ∀ (n : Nat) (x y : D) (v v' : V) (u u' : Value) (A : Around), dep x ≤ n → A.units + n < cLine → Rep X.K S H x v → Rep X.K S H y v' → RelV v u → RelV v' u' → SeqAt.EqAt A s u u' (eqD x y) := by
  intro n
  induction n with
  | zero =>
    intro x y v v' u u' A hd hu rx ry ru ru'
    cases x with
    | tup ds => simp only [dep] at hd; omega
    | lst ds => simp only [dep] at hd; omega
    | non =>
      cases rep_non rx
      cases (show u = Value.none from ru)
      cases y with
      | non => cases rep_non ry; cases (show u' = Value.none from ru'); simp only [eqD]; exact SeqAt.EqAt.same _
      | bl b => cases rep_bl ry; cases (show u' = Value.bool b from ru'); simp only [eqD]; exact SeqAt.EqAt.none_bool b
      | int b => cases rep_int ry; obtain ⟨t, rfl⟩ := ru'; simp only [eqD]; exact SeqAt.EqAt.none_int b t
      | str b => cases rep_str ry; obtain ⟨t, rfl⟩ := ru'; simp only [eqD]; exact SeqAt.EqAt.none_str b t
      | tup es =>
        obtain ⟨a, xs, rfl, q, rs⟩ := rep_tup ry
        cases (show u' = Value.ref a from ru')
        obtain ⟨its, r1, p1, _⟩ := I.tuple q
        simp only [eqD]; exact SeqAt.EqAt.none_tuple p1 (by omega)
      | lst es =>
        obtain ⟨a, xs, rfl, q, rs⟩ := rep_lst ry
        cases (show u' = Value.ref a from ru')
        obtain ⟨its, r1, p1, _⟩ := I.list q.sq
        simp only [eqD]; exact SeqAt.EqAt.none_list p1.isList (by omega)
    | bl a0 =>
      cases rep_bl rx
      cases (show u = Value.bool a0 from ru)
      cases y with
      | non => cases rep_non ry; cases (show u' = Value.none from ru'); simp only [eqD]; exact SeqAt.EqAt.bool_none a0
      | bl b => cases rep_bl ry; cases (show u' = Value.bool b from ru'); simp only [eqD]; exact SeqAt.EqAt.bool_bool a0 b
      | int b => cases rep_int ry; obtain ⟨t, rfl⟩ := ru'; simp only [eqD]; exact SeqAt.EqAt.bool_int a0 b t
      | str b => cases rep_str ry; obtain ⟨t, rfl⟩ := ru'; simp only [eqD]; exact SeqAt.EqAt.bool_str a0 b t
      | tup es =>
        obtain ⟨a, xs, rfl, q, rs⟩ := rep_tup ry
        cases (show u' = Value.ref a from ru')
        obtain ⟨its, r1, p1, _⟩ := I.tuple q
        simp only [eqD]; exact SeqAt.EqAt.bool_tuple a0 p1 (by omega)
      | lst es =>
        obtain ⟨a, xs, rfl, q, rs⟩ := rep_lst ry
        cases (show u' = Value.ref a from ru')
        obtain ⟨its, r1, p1, _⟩ := I.list q.sq
        simp only [eqD]; exact SeqAt.EqAt.bool_list a0 p1.isList (by omega)
    | int a0 =>
      cases rep_int rx
      obtain ⟨t0, rfl⟩ := ru
      cases y with
      | non => cases rep_non ry; cases (show u' = Value.none from ru'); simp only [eqD]; exact SeqAt.EqAt.int_none a0 t0
      | bl b => cases rep_bl ry; cases (show u' = Value.bool b from ru'); simp only [eqD]; exact SeqAt.EqAt.int_bool a0 t0 b
      | int b => cases rep_int ry; obtain ⟨t, rfl⟩ := ru'; simp only [eqD]; exact SeqAt.EqAt.int_int a0 t0 b t
      | str b => cases rep_str ry; obtain ⟨t, rfl⟩ := ru'; simp only [eqD]; exact SeqAt.EqAt.int_str a0 t0 b t
      | tup es =>
        obtain ⟨a, xs, rfl, q, rs⟩ := rep_tup ry
        cases (show u' = Value.ref a from ru')
        obtain ⟨its, r1, p1, _⟩ := I.tuple q
        simp only [eqD]; exact SeqAt.EqAt.int_tuple a0 t0 p1 (by omega)
      | lst es =>
        obtain ⟨a, xs, rfl, q, rs⟩ := rep_lst ry
        cases (show u' = Value.ref a from ru')
        obtain ⟨its, r1, p1, _⟩ := I.list q.sq
        simp only [eqD]; exact SeqAt.EqAt.int_list a0 t0 p1.isList (by omega)
    | str a0 =>
      cases rep_str rx
      obtain ⟨t0, rfl⟩ := ru
      cases y with
      | non => cases rep_non ry; cases (show u' = Value.none from ru'); simp only [eqD]; exact SeqAt.EqAt.str_none a0 t0
      | bl b => cases rep_bl ry; cases (show u' = Value.bool b from ru'); simp only [eqD]; exact SeqAt.EqAt.str_bool a0 t0 b
      | int b => cases rep_int ry; obtain ⟨t, rfl⟩ := ru'; simp only [eqD]; exact SeqAt.EqAt.str_int a0 t0 b t
      | str b => cases rep_str ry; obtain ⟨t, rfl⟩ := ru'; simp only [eqD]; exact SeqAt.EqAt.str_str a0 t0 b t
      | tup es =>
        obtain ⟨a, xs, rfl, q, rs⟩ := rep_tup ry
        cases (show u' = Value.ref a from ru')
        obtain ⟨its, r1, p1, _⟩ := I.tuple q
        simp only [eqD]; exact SeqAt.EqAt.str_tuple a0 t0 p1 (by omega)
      | lst es =>
        obtain ⟨a, xs, rfl, q, rs⟩ := rep_lst ry
        cases (show u' = Value.ref a from ru')
        obtain ⟨its, r1, p1, _⟩ := I.list q.sq
        simp only [eqD]; exact SeqAt.EqAt.str_list a0 t0 p1.isList (by omega)
  | succ n ih =>
    intro x y v v' u u' A hd hu rx ry ru ru'
    by_cases hx : dep x = 0
    · exact (show ∀ m, dep x ≤ m → A.units + m < cLine → (∀ (x y : D) (v v' : V) (u u' : Value) (A : Around), dep x ≤ m → A.units + m < cLine → Rep X.K S H x v → Rep X.K S H y v' → RelV v u → RelV v' u' → SeqAt.EqAt A s u u' (eqD x y)) → SeqAt.EqAt A s u u' (eqD x y) from fun m h1 h2 ih => ih x y v v' u u' A h1 h2 rx ry ru ru') n (by omega) (by omega) ih
    · cases x with
      | non => exact absurd (by simp only [dep]) hx
      | bl b => exact absurd (by simp only [dep]) hx
      | int b => exact absurd (by simp only [dep]) hx
      | str b => exact absurd (by simp only [dep]) hx
      | tup ds =>
        have hds : deps ds ≤ n := by simp only [dep] at hd; omega
        have ih' : ∀ (j : Nat) (x y : D) (v v' : V) (u u' : Value), ds[j]? = some x → Rep X.K S H x v → Rep X.K S H y v' → RelV v u → RelV v' u' → SeqAt.EqAt A.in1 s u u' (eqD x y) :=
          fun j x y v v' u u' e r1 r2 q1 q2 => ih x y v v' u u' A.in1 (Nat.le_trans (le_deps e) hds) (by show A.units + 1 + n < cLine; omega) r1 r2 q1 q2
        have rx0 := rx
        obtain ⟨a, xs, rfl, q, rs⟩ := rep_tup rx
        cases (show u = Value.ref a from ru)
        cases y with
        | non => cases rep_non ry; cases (show u' = Value.none from ru'); obtain ⟨its, r1, p1, _⟩ := I.tuple q; simp only [eqD]; exact SeqAt.EqAt.tuple_none p1 (by omega)
        | bl b => cases rep_bl ry; cases (show u' = Value.bool b from ru'); obtain ⟨its, r1, p1, _⟩ := I.tuple q; simp only [eqD]; exact SeqAt.EqAt.tuple_bool b p1 (by omega)
        | int b => cases rep_int ry; obtain ⟨t, rfl⟩ := ru'; obtain ⟨its, r1, p1, _⟩ := I.tuple q; simp only [eqD]; exact SeqAt.EqAt.tuple_int b t p1 (by omega)
        | str b => cases rep_str ry; obtain ⟨t, rfl⟩ := ru'; obtain ⟨its, r1, p1, _⟩ := I.tuple q; simp only [eqD]; exact SeqAt.EqAt.tuple_str b t p1 (by omega)
        | tup es =>
          have ry0 := ry
          obtain ⟨a', xs', rfl, q', rs'⟩ := rep_tup ry
          cases (show u' = Value.ref a' from ru')
          by_cases haa : a = a'
          · subst haa
            rw [rep_inj I _ _ _ ry0 rx0, eqD_refl]
            exact SeqAt.EqAt.same _
          · simp only [eqD]
            exact SeqAt.EqAt.of_refs haa (rc_tuples (ne := false) I (by omega) q q' rs rs' ih')
        | lst es =>
          obtain ⟨a', xs', rfl, q', rs'⟩ := rep_lst ry
          cases (show u' = Value.ref a' from ru')
          obtain ⟨its, r1, p1, _⟩ := I.tuple q
          obtain ⟨its2, r2, p2, _⟩ := I.list q'.sq
          simp only [eqD]; exact SeqAt.EqAt.tuple_list p1 p2.isList (by omega)
      | lst ds =>
        have hds : deps ds ≤ n := by simp only [dep] at hd; omega
        have ih' : ∀ (j : Nat) (x y : D) (v v' : V) (u u' : Value), ds[j]? = some x → Rep X.K S H x v → Rep X.K S H y v' → RelV v u → RelV v' u' → SeqAt.EqAt A.in1 s u u' (eqD x y) :=
          fun j x y v v' u u' e r1 r2 q1 q2 => ih x y v v' u u' A.in1 (Nat.le_trans (le_deps e) hds) (by show A.units + 1 + n < cLine; omega) r1 r2 q1 q2
        have rx0 := rx
        obtain ⟨a, xs, rfl, q, rs⟩ := rep_lst rx
        cases (show u = Value.ref a from ru)
        cases y with
        | non => cases rep_non ry; cases (show u' = Value.none from ru'); obtain ⟨its, r1, p1, _⟩ := I.list q.sq; simp only [eqD]; exact SeqAt.EqAt.list_none p1.isList (by omega)
        | bl b => cases rep_bl ry; cases (show u' = Value.bool b from ru'); obtain ⟨its, r1, p1, _⟩ := I.list q.sq; simp only [eqD]; exact SeqAt.EqAt.list_bool b p1.isList (by omega)
        | int b => cases rep_int ry; obtain ⟨t, rfl⟩ := ru'; obtain ⟨its, r1, p1, _⟩ := I.list q.sq; simp only [eqD]; exact SeqAt.EqAt.list_int b t p1.isList (by omega)
        | str b => cases rep_str ry; obtain ⟨t, rfl⟩ := ru'; obtain ⟨its, r1, p1, _⟩ := I.list q.sq; simp only [eqD]; exact SeqAt.EqAt.list_str b t p1.isList (by omega)
        | lst es =>
          have ry0 := ry
          obtain ⟨a', xs', rfl, q', rs'⟩ := rep_lst ry
          cases (show u' = Value.ref a' from ru')
          by_cases haa : a = a'
          · subst haa
            rw [rep_inj I _ _ _ ry0 rx0, eqD_refl]
            exact SeqAt.EqAt.same _
          · simp only [eqD]
            exact SeqAt.EqAt.of_refs haa (rc_lists (ne := false) I (by omega) q.sq q'.sq rs rs' ih')
        | tup es =>
          obtain ⟨a', xs', rfl, q', rs'⟩ := rep_tup ry
          cases (show u' = Value.ref a' from ru')
          obtain ⟨its, r1, p1, _⟩ := I.list q.sq
          obtain ⟨its2, r2, p2, _⟩ := I.tuple q'
          simp only [eqD]; exact SeqAt.EqAt.list_tuple p1.isList p2 (by omega)
theorem rcQ_D {ne : Bool} (I : Inv X pins σ H s) (n : Nat) (x y : D) (v v' : V) (u u' : Value) (A : Around) (hd : dep x ≤ n) (hu : A.units + n < cLine) (rx : Rep X.K S H x v) (ry : Rep X.K S H y v') (ru : RelV v u) (ru' : RelV v' u') : RcQ ne A s u u' (eqD x y) := by
  cases x with
  | non =>
    cases rep_non rx
    cases (show u = Value.none from ru)
    cases y with
    | non => cases rep_non ry; cases (show u' = Value.none from ru'); simp only [eqD]; cases ne; exact SeqAt.RcAt.none_none; exact SeqAt.RcNeAt.none_none
    | bl b => cases rep_bl ry; cases (show u' = Value.bool b from ru'); simp only [eqD]; cases ne; exact SeqAt.RcAt.none_bool b; exact SeqAt.RcNeAt.none_bool b
    | int b => cases rep_int ry; obtain ⟨t, rfl⟩ := ru'; simp only [eqD]; cases ne; exact SeqAt.RcAt.none_int b t; exact SeqAt.RcNeAt.none_int b t
    | str b => cases rep_str ry; obtain ⟨t, rfl⟩ := ru'; simp only [eqD]; cases ne; exact SeqAt.RcAt.none_str b t; exact SeqAt.RcNeAt.none_str b t
    | tup es =>
      obtain ⟨a, xs, rfl, q, rs⟩ := rep_tup ry
      cases (show u' = Value.ref a from ru')
      obtain ⟨its, r1, p1, _⟩ := I.tuple q
      simp only [eqD]; cases ne; exact SeqAt.RcAt.none_tuple p1 (by omega); exact SeqAt.RcNeAt.none_tuple p1 (by omega)
    | lst es =>
      obtain ⟨a, xs, rfl, q, rs⟩ := rep_lst ry
      cases (show u' = Value.ref a from ru')
      obtain ⟨its, r1, p1, _⟩ := I.list q.sq
      simp only [eqD]; cases ne; exact SeqAt.RcAt.none_list p1.isList (by omega); exact SeqAt.RcNeAt.none_list p1.isList (by omega)
  | bl a0 =>
    cases rep_bl rx
    cases (show u = Value.bool a0 from ru)
    cases y with
    | non => cases rep_non ry; cases (show u' = Value.none from ru'); simp only [eqD]; cases ne; exact SeqAt.RcAt.bool_none a0; exact SeqAt.RcNeAt.bool_none a0
    | bl b => cases rep_bl ry; cases (show u' = Value.bool b from ru'); simp only [eqD]; cases ne; exact SeqAt.RcAt.bool_bool a0 b; exact SeqAt.RcNeAt.bool_bool a0 b
    | int b => cases rep_int ry; obtain ⟨t, rfl⟩ := ru'; simp only [eqD]; cases ne; exact SeqAt.RcAt.bool_int a0 b t; exact SeqAt.RcNeAt.bool_int a0 b t
    | str b => cases rep_str ry; obtain ⟨t, rfl⟩ := ru'; simp only [eqD]; cases ne; exact SeqAt.RcAt.bool_str a0 b t; exact SeqAt.RcNeAt.bool_str a0 b t
    | tup es =>
      obtain ⟨a, xs, rfl, q, rs⟩ := rep_tup ry
      cases (show u' = Value.ref a from ru')
      obtain ⟨its, r1, p1, _⟩ := I.tuple q
      simp only [eqD]; cases ne; exact SeqAt.RcAt.bool_tuple a0 p1 (by omega); exact SeqAt.RcNeAt.bool_tuple a0 p1 (by omega)
    | lst es =>
      obtain ⟨a, xs, rfl, q, rs⟩ := rep_lst ry
      cases (show u' = Value.ref a from ru')
      obtain ⟨its, r1, p1, _⟩ := I.list q.sq
      simp only [eqD]; cases ne; exact SeqAt.RcAt.bool_list a0 p1.isList (by omega); exact SeqAt.RcNeAt.bool_list a0 p1.isList (by omega)
  | int a0 =>
    cases rep_int rx
    obtain ⟨t0, rfl⟩ := ru
    cases y with
    | non => cases rep_non ry; cases (show u' = Value.none from ru'); simp only [eqD]; cases ne; exact SeqAt.RcAt.int_none a0 t0; exact SeqAt.RcNeAt.int_none a0 t0
    | bl b => cases rep_bl ry; cases (show u' = Value.bool b from ru'); simp only [eqD]; cases ne; exact SeqAt.RcAt.int_bool a0 t0 b; exact SeqAt.RcNeAt.int_bool a0 t0 b
    | int b => cases rep_int ry; obtain ⟨t, rfl⟩ := ru'; simp only [eqD]; cases ne; exact SeqAt.RcAt.int_int a0 t0 b t; exact SeqAt.RcNeAt.int_int a0 t0 b t
    | str b => cases rep_str ry; obtain ⟨t, rfl⟩ := ru'; simp only [eqD]; cases ne; exact SeqAt.RcAt.int_str a0 t0 b t; exact SeqAt.RcNeAt.int_str a0 t0 b t
    | tup es =>
      obtain ⟨a, xs, rfl, q, rs⟩ := rep_tup ry
      cases (show u' = Value.ref a from ru')
      obtain ⟨its, r1, p1, _⟩ := I.tuple q
      simp only [eqD]; cases ne; exact SeqAt.RcAt.int_tuple a0 t0 p1 (by omega); exact SeqAt.RcNeAt.int_tuple a0 t0 p1 (by omega)
    | lst es =>
      obtain ⟨a, xs, rfl, q, rs⟩ := rep_lst ry
      cases (show u' = Value.ref a from ru')
      obtain ⟨its, r1, p1, _⟩ := I.list q.sq
      simp only [eqD]; cases ne; exact SeqAt.RcAt.int_list a0 t0 p1.isList (by omega); exact SeqAt.RcNeAt.int_list a0 t0 p1.isList (by omega)
  | str a0 =>
    cases rep_str rx
    obtain ⟨t0, rfl⟩ := ru
    cases y with
    | non => cases rep_non ry; cases (show u' = Value.none from ru'); simp only [eqD]; cases ne; exact SeqAt.RcAt.str_none a0 t0; exact SeqAt.RcNeAt.str_none a0 t0
    | bl b => cases rep_bl ry; cases (show u' = Value.bool b from ru'); simp only [eqD]; cases ne; exact SeqAt.RcAt.str_bool a0 t0 b; exact SeqAt.RcNeAt.str_bool a0 t0 b
    | int b => cases rep_int ry; obtain ⟨t, rfl⟩ := ru'; simp only [eqD]; cases ne; exact SeqAt.RcAt.str_int a0 t0 b t; exact SeqAt.RcNeAt.str_int a0 t0 b t
    | str b => cases rep_str ry; obtain ⟨t, rfl⟩ := ru'; simp only [eqD]; cases ne; exact SeqAt.RcAt.str_str a0 t0 b t; exact SeqAt.RcNeAt.str_str a0 t0 b t
    | tup es =>
      obtain ⟨a, xs, rfl, q, rs⟩ := rep_tup ry
      cases (show u' = Value.ref a from ru')
      obtain ⟨its, r1, p1, _⟩ := I.tuple q
      simp only [eqD]; cases ne; exact SeqAt.RcAt.str_tuple a0 t0 p1 (by omega); exact SeqAt.RcNeAt.str_tuple a0 t0 p1 (by omega)
    | lst es =>
      obtain ⟨a, xs, rfl, q, rs⟩ := rep_lst ry
      cases (show u' = Value.ref a from ru')
      obtain ⟨its, r1, p1, _⟩ := I.list q.sq
      simp only [eqD]; cases ne; exact SeqAt.RcAt.str_list a0 t0 p1.isList (by omega); exact SeqAt.RcNeAt.str_list a0 t0 p1.isList (by omega)
  | tup ds =>
    obtain ⟨m, rfl⟩ : ∃ m, n = m + 1 := ⟨n - 1, by simp only [dep] at hd; omega⟩
    have hds : deps ds ≤ m := by simp only [dep] at hd; omega
    have ih' : ∀ (j : Nat) (x y : D) (v v' : V) (u u' : Value), ds[j]? = some x → Rep X.K S H x v → Rep X.K S H y v' → RelV v u → RelV v' u' → SeqAt.EqAt A.in1 s u u' (eqD x y) :=
      fun j x y v v' u u' e r1 r2 q1 q2 => eqAt_D I m x y v v' u u' A.in1 (Nat.le_trans (le_deps e) hds) (by show A.units + 1 + m < cLine; omega) r1 r2 q1 q2
    obtain ⟨a, xs, rfl, q, rs⟩ := rep_tup rx
    cases (show u = Value.ref a from ru)
    cases y with
    | non => cases rep_non ry; cases (show u' = Value.none from ru'); obtain ⟨its, r1, p1, _⟩ := I.tuple q; simp only [eqD]; cases ne; exact SeqAt.RcAt.tuple_none p1 (by omega); exact SeqAt.RcNeAt.tuple_none p1 (by omega)
    | bl b => cases rep_bl ry; cases (show u' = Value.bool b from ru'); obtain ⟨its, r1, p1, _⟩ := I.tuple q; simp only [eqD]; cases ne; exact SeqAt.RcAt.tuple_bool b p1 (by omega); exact SeqAt.RcNeAt.tuple_bool b p1 (by omega)
    | int b => cases rep_int ry; obtain ⟨t, rfl⟩ := ru'; obtain ⟨its, r1, p1, _⟩ := I.tuple q; simp only [eqD]; cases ne; exact SeqAt.RcAt.tuple_int b t p1 (by omega); exact SeqAt.RcNeAt.tuple_int b t p1 (by omega)
    | str b => cases rep_str ry; obtain ⟨t, rfl⟩ := ru'; obtain ⟨its, r1, p1, _⟩ := I.tuple q; simp only [eqD]; cases ne; exact SeqAt.RcAt.tuple_str b t p1 (by omega); exact SeqAt.RcNeAt.tuple_str b t p1 (by omega)
    | tup es =>
      obtain ⟨a', xs', rfl, q', rs'⟩ := rep_tup ry
      cases (show u' = Value.ref a' from ru')
      simp only [eqD]
      exact rc_tuples I (by omega) q q' rs rs' ih'
    | lst es =>
      obtain ⟨a', xs', rfl, q', rs'⟩ := rep_lst ry
      cases (show u' = Value.ref a' from ru')
      obtain ⟨its, r1, p1, _⟩ := I.tuple q
      obtain ⟨its2, r2, p2, _⟩ := I.list q'.sq
      simp only [eqD]; cases ne; exact SeqAt.RcAt.tuple_list p1 p2.isList (by omega); exact SeqAt.RcNeAt.tuple_list p1 p2.isList (by omega)
  | lst ds =>
    obtain ⟨m, rfl⟩ : ∃ m, n = m + 1 := ⟨n - 1, by simp only [dep] at hd; omega⟩
    have hds : deps ds ≤ m := by simp only [dep] at hd; omega
    have ih' : ∀ (j : Nat) (x y : D) (v v' : V) (u u' : Value), ds[j]? = some x → Rep X.K S H x v → Rep X.K S H y v' → RelV v u → RelV v' u' → SeqAt.EqAt A.in1 s u u' (eqD x y) :=
      fun j x y v v' u u' e r1 r2 q1 q2 => eqAt_D I m x y v v' u u' A.in1 (Nat.le_trans (le_deps e) hds) (by show A.units + 1 + m < cLine; omega) r1 r2 q1 q2
    obtain ⟨a, xs, rfl, q, rs⟩ := rep_lst rx
    cases (show u = Value.ref a from ru)
    cases y with
    | non => cases rep_non ry; cases (show u' = Value.none from ru'); obtain ⟨its, r1, p1, _⟩ := I.list q.sq; simp only [eqD]; cases ne; exact SeqAt.RcAt.list_none p1.isList (by omega); exact SeqAt.RcNeAt.list_none p1.isList (by omega)
    | bl b => cases rep_bl ry; cases (show u' = Value.bool b from ru'); obtain ⟨its, r1, p1, _⟩ := I.list q.sq; simp only [eqD]; cases ne; exact SeqAt.RcAt.list_bool b p1.isList (by omega); exact SeqAt.RcNeAt.list_bool b p1.isList (by omega)
    | int b => cases rep_int ry; obtain ⟨t, rfl⟩ := ru'; obtain ⟨its, r1, p1, _⟩ := I.list q.sq; simp only [eqD]; cases ne; exact SeqAt.RcAt.list_int b t p1.isList (by omega); exact SeqAt.RcNeAt.list_int b t p1.isList (by omega)
    | str b => cases rep_str ry; obtain ⟨t, rfl⟩ := ru'; obtain ⟨its, r1, p1, _⟩ := I.list q.sq; simp only [eqD]; cases ne; exact SeqAt.RcAt.list_str b t p1.isList (by omega); exact SeqAt.RcNeAt.list_str b t p1.isList (by omega)
    | lst es =>
      obtain ⟨a', xs', rfl, q', rs'⟩ := rep_lst ry
      cases (show u' = Value.ref a' from ru')
      simp only [eqD]
      exact rc_lists I (by omega) q.sq q'.sq rs rs' ih'
    | tup es =>
      obtain ⟨a', xs', rfl, q', rs'⟩ := rep_tup ry
      cases (show u' = Value.ref a' from ru')
      obtain ⟨its, r1, p1, _⟩ := I.list q.sq
      obtain ⟨its2, r2, p2, _⟩ := I.tuple q'
      simp only [eqD]; cases ne; exact SeqAt.RcAt.list_tuple p1.isList p2 (by omega); exact SeqAt.RcNeAt.list_tuple p1.isList p2 (by omega)
end
section
variable {X : Cx}
noncomputable abbrev dEqS : R3 := fun x y Φ => dep x ≤ 100 ∧ Φ (.bl (eqD x y))
noncomputable abbrev dNeS : R3 := fun x y Φ => dep x ≤ 100 ∧ Φ (.bl (!eqD x y))
noncomputable def rRc (X : Cx) (ne : Bool) : R2 := fun u v H Q => ∃ S x y, dep x ≤ 100 ∧ Rep X.K S H x u ∧ Rep X.K S H y v ∧ Q (.bl (if ne then !eqD x y else eqD x y)) H
theorem op_eqS (hu : X.A.units + 100 < cLine) : OpR X (compareOp .Eq) (rRc X false) := by
  intro pins s σ H x y v u Q I rx ry h
  obtain ⟨S, d, e, hd, r1, r2, q⟩ := h
  exact rcQ_D (ne := false) I 100 d e x y v u X.A hd hu r1 r2 rx ry X.prog X.w _ _ ⟨.bl _, H, I, rfl, q⟩
theorem op_neS (hu : X.A.units + 100 < cLine) : OpR X (compareOp .NotEq) (rRc X true) := by
  intro pins s σ H x y v u Q I rx ry h
  obtain ⟨S, d, e, hd, r1, r2, q⟩ := h
  exact rcQ_D (ne := true) I 100 d e x y v u X.A hd hu r1 r2 rx ry X.prog X.w _ _ ⟨.bl _, H, I, rfl, q⟩
theorem o_eqS (hu : X.A.units + 100 < cLine) : OpD X (compareOp .Eq) dEqS := ⟨_, op_eqS hu, fun S H x y u v Φ Q so rx ry hr hd => ⟨S, x, y, hr.1, rx, ry, hd _ _ H hr.2 (Same.refl _) Rep.bl⟩⟩
theorem o_neS (hu : X.A.units + 100 < cLine) : OpD X (compareOp .NotEq) dNeS := ⟨_, op_neS hu, fun S H x y u v Φ Q so rx ry hr hd => ⟨S, x, y, hr.1, rx, ry, hd _ _ H hr.2 (Same.refl _) Rep.bl⟩⟩
theorem hu3 {A : Around} {k : Nat} (hr : Room k A) : A.units + 100 < cLine := by have := hr.un; omega
end
end D3

set_option Elab.async false
set_option linter.all false
set_option maxRecDepth 100000
set_option maxHeartbeats 4000000
namespace D3
open PySem PySem.Spec PyProof.Rows L2
section
variable {X : Cx}
section
open PySem.MeetsSeq PySem.AutoSeq1
theorem tuple_addW0 (l b : Addr) (items2 : Array Value) (n n2 : Nat) (dd dd2 : Option Addr) (sl sl2 : Array (Option Value)) :
    Meets (Builtin.«tuple.__add__» ⟨[.ref l, .ref b], []⟩) (fun _ R s => s.heap.get? l = some { cls := .type "tuple", dict := dd, data := .seq #[] n, slots := sl } ∧ s.heap.get? b = some { cls := .type "tuple", dict := dd2, data := .seq items2 n2, slots := sl2 } ∧ R (.ok (.ret (Value.ref b))) s) :=
  .of_wp fun prog w A R s h => by obtain ⟨hp, g, d, tk, os⟩ := s; obtain ⟨hl, hb, h⟩ := h; have f1 := AutoSeq1.idx_int; have f2 := AutoSeq1.sub_tuple_tuple; wp_walk using wpAny_loadPart' hl, wpAny_loadPart' hb; exact ⟨_, rfl, h⟩
theorem cat_tup0 {prog : Program} {w : World} {A : Around} {E : Value → Shared → Prop} {s : Shared} {t b : Addr} {ws : List Value} {Q : Value → Shared → Prop} (ht : IsTup s.heap t (#[] : Array Value)) (hb : IsTup s.heap b ws.toArray)
    (h : Q (.ref b) s) : wpAny (model prog w) A (binaryOp .Add (.ref t) (.ref b)) Q E s := by
  obtain ⟨⟨cls, dd, data, sl⟩, ho, hc, n, hd⟩ := id ht
  obtain ⟨⟨cls2, dd2, data2, sl2⟩, ho2, hc2, n2, hd2⟩ := id hb
  simp only at hc hd hc2 hd2
  subst hc hd hc2 hd2
  exact concat_meets ⟨_, ho, rfl⟩ ⟨_, ho2, rfl⟩ noFill_tuple_add seq_tuple_add PySem.F.slot_tuple_add PySem.F.entry_tuple_add (PySem.F.args_tuple_add_2 _ _) (tuple_addW0 t b ws.toArray n n2 dd dd2 sl sl2) ⟨ho, ho2, h⟩
end
noncomputable abbrev dCatT : R3
  | .tup ds, .tup es, Φ => ds.length + es.length ≤ sizeLine ∧ Φ (.tup (ds ++ es))
  | _, _, _ => False
noncomputable def rCat0 (K : PySem.W.Frag) : R2 := fun x y H Q => ∃ a b ys, x = .ref a ∧ y = .ref b ∧ SqT K H a [] ∧ SqT K H b ys ∧ Q (.ref b) H
theorem op_cat0 : OpR X (binaryOp .Add) (rCat0 X.K) := by
  intro pins s σ H x y v u Q I rx ry h
  obtain ⟨a, b, ys, rfl, rfl, ha, hb, q⟩ := h
  cases rx
  cases ry
  obtain ⟨its, r1, p1, _⟩ := I.tuple ha
  obtain ⟨its2, r2, p2, _⟩ := I.tuple hb
  cases r1
  exact cat_tup0 p1 p2 ⟨.ref b, H, I, rfl, q⟩
theorem OpR.or {f : Value → Value → Sem Value} {r r' : R2} (h : OpR X f r) (h' : OpR X f r') : OpR X f (fun x y H Q => r x y H Q ∨ r' x y H Q) := fun pins s σ H x y v u Q I rx ry q => q.elim (h pins s σ H x y v u Q I rx ry) (h' pins s σ H x y v u Q I rx ry)
theorem o_catT : OpD X (binaryOp .Add) dCatT := ⟨_, op_cat0.or op_catT, fun S H x y u v Φ Q so rx ry hr hd => by
  match x, y, hr with
  | .tup ds, .tup es, ⟨hz, h⟩ =>
    obtain ⟨a, xs, rfl, q, rs⟩ := rep_tup rx
    obtain ⟨a', xs', rfl, q', rs'⟩ := rep_tup ry
    cases ds with
    | nil =>
      simp only [Reps] at rs
      subst rs
      exact .inl ⟨a, a', xs', rfl, rfl, q, q', hd _ _ H h (Same.refl _) (Rep.tup q' rs')⟩
    | cons d ds =>
      refine .inr ⟨a, a', xs, xs', rfl, rfl, q, q', ?_, by rw [← rs.len, ← rs'.len]; exact hz, fun z => ?_, fun z p hp => hd _ _ _ h (same_new hp) (Rep.newTup hp (rs.app rs'))⟩
      · rintro rfl
        simp [Reps] at rs
      · subst z
        have : es = [] := by
          cases es with
          | nil => rfl
          | cons _ _ => simp [Reps] at rs'
        subst this
        rw [List.append_nil] at h
        exact hd _ _ H h (Same.refl _) (Rep.tup q rs)⟩
noncomputable def iSeqV (K : PySem.W.Frag) (tl : TE) : TI := fun σ H R => tl σ H fun x H1 => ∃ a, x = .ref a ∧ (((∃ xs, SqL K H1 a xs) ∧ R (Itl K a) H1) ∨ ((∃ xs, SqT K H1 a xs) ∧ R (Itt K a) H1))
theorem pi_seq {tg l : Expr} {tl : TE} (hl : PE X l tl) : PI X tg l (iSeqV X.K tl) := by
  intro pins s σ H R I h
  refine thn (hl pins s σ H _ I h) fun v s1 qZ => ?_
  obtain ⟨x, H1, I1, r1, q1⟩ := qZ
  obtain ⟨a, e, q1⟩ := q1
  subst e
  cases r1
  rcases q1 with ⟨⟨xs, hq⟩, q⟩ | ⟨⟨xs, hq⟩, q⟩
  · obtain ⟨its, rv, p, hz⟩ := I1.list hq
    refine wpAny_pyIter_list p.isList ?_
    refine ⟨s1.heap.objs.size, [s1.heap.objs.size], _, _, H1, rfl, I1.kept (t' := s1.toks) fun b o e => Heap.get?_push_of_some _ e, turn_list a _, ⟨_, Heap.get?_push_size _ rfl, rfl, rfl⟩, fun b hb => ?_, q⟩
    have e : b = s1.heap.objs.size := by simpa using hb
    subst e
    exact I1.fpOk (Nat.le_refl _) (I1.hok.fresh (Nat.le_refl _))
  · obtain ⟨its, rv, p, hz⟩ := I1.tuple hq
    refine wpAny_pyIter_tuple (show s1.heap.IsTuple a its.toArray from p) ?_
    refine ⟨s1.heap.objs.size, [s1.heap.objs.size], _, _, H1, rfl, I1.kept (t' := s1.toks) fun b o e => Heap.get?_push_of_some _ e, turn_tuple a _, ⟨_, Heap.get?_push_size _ rfl, rfl, rfl⟩, fun b hb => ?_, q⟩
    have e : b = s1.heap.objs.size := by simpa using hb
    subst e
    exact I1.fpOk (Nat.le_refl _) (I1.hok.fresh (Nat.le_refl _))
noncomputable abbrev iLT (te : E3) : A3 := fun ρ Φ => te ρ fun d => match d with | .lst ds => Φ ds | .tup ds => Φ ds | _ => False
theorem pid_seq {tg e : Expr} {te : E3} (he : PD X e te) : PID X tg e (iLT te) := by
  obtain ⟨t2, h, w⟩ := he
  refine PID.one ⟨_, pi_seq h, fun B S H σ ρ Φ R er q k => w B S H σ ρ _ _ er q fun d v H1 p s r => ?_⟩
  cases d <;> first | exact p.elim | skip
  · rename_i ds
    obtain ⟨a, xs, rfl, lr, rs⟩ := rep_tup r
    refine ⟨a, rfl, .inr ⟨⟨xs, lr⟩, k ds _ _ _ H1 p s r fun S2 H2 r2 => ?_⟩⟩
    obtain ⟨a2, xs2, e2, lr2, rs2⟩ := rep_tup r2
    cases e2
    refine ⟨⟨xs2, lr2, by rw [rs2.len]; exact Nat.le_refl _⟩, fun i hi => ?_⟩
    have hi2 : i < xs2.length := by rw [← rs2.len]; exact hi
    refine ⟨⟨xs2, xs2[i], lr2, by simp [hi2]⟩, fun x H' y => ?_⟩
    obtain ⟨rfl, y⟩ := y
    obtain ⟨c, ec, rc⟩ := rs2.getV (y xs2 lr2)
    exact ⟨rfl, c, ec, rc⟩
  · rename_i ds
    obtain ⟨a, xs, rfl, lr, rs⟩ := rep_lst r
    refine ⟨a, rfl, .inl ⟨⟨xs, lr.sq⟩, k ds _ _ _ H1 p s r fun S2 H2 r2 => ?_⟩⟩
    obtain ⟨a2, xs2, e2, lr2, rs2⟩ := rep_lst r2
    cases e2
    refine ⟨⟨xs2, lr2.sq, by rw [rs2.len]; exact Nat.le_refl _⟩, fun i hi => ?_⟩
    have hi2 : i < xs2.length := by rw [← rs2.len]; exact hi
    refine ⟨⟨xs2, xs2[i], lr2.sq, by simp [hi2]⟩, fun x H' y => ?_⟩
    obtain ⟨rfl, y⟩ := y
    obtain ⟨c, ec, rc⟩ := rs2.getV (y xs2 lr2.sq)
    exact ⟨rfl, c, ec, rc⟩
end
end D3

set_option Elab.async false
set_option linter.all false
set_option maxRecDepth 100000
set_option maxHeartbeats 4000000
namespace D3
open PySem PySem.Spec PyProof.Rows L2
section
variable {X : Cx} {pos : Pos}
theorem Vals.pick {xs : List V} {its : List Value} (r : Vals xs its) : ∀ is : List Nat, Vals (is.filterMap (xs[·]?)) (is.filterMap (its[·]?))
  | [] => .nil
  | i :: is => by
    cases e : xs[i]? with
    | none =>
      rw [List.filterMap_cons_none e, List.filterMap_cons_none (r.none_of e)]
      exact Vals.pick r is
    | some x =>
      obtain ⟨u, eu, ru⟩ := r.get e
      rw [List.filterMap_cons_some e, List.filterMap_cons_some eu]
      exact .cons ru (Vals.pick r is)
theorem Reps.pick {K : PySem.W.Frag} {S : Addr → Prop} {H : Hp} {ds : List D} {xs : List V} (r : Reps K S H ds xs) : ∀ is : List Nat, Reps K S H (is.filterMap (ds[·]?)) (is.filterMap (xs[·]?))
  | [] => Reps.nil
  | i :: is => by
    cases e : ds[i]? with
    | none =>
      have e2 : xs[i]? = none := by
        rw [List.getElem?_eq_none_iff] at e ⊢
        rw [← r.len]; exact e
      rw [List.filterMap_cons_none e, List.filterMap_cons_none e2]
      exact Reps.pick r is
    | some x =>
      obtain ⟨u, eu, ru⟩ := r.get e
      rw [List.filterMap_cons_some e, List.filterMap_cons_some eu]
      exact Reps.cons ru (Reps.pick r is)
structure CstD (K : PySem.W.Frag) (d : D) (v : V) (u : Value) : Prop where
  r : RelV v u
  d : ∀ S H, Rep K S H d v
theorem pd_const {x : Str} {v : V} {u : Value} {d : D} (hg : Gl X x) (hm : X.mg x = some u) (c : CstD X.K d v u) (hdb : (x == ("__debug__" : Str)) = false := by decide) : PD X (.Name x pos) (dC d) :=
  ⟨_, pe_glob hg hm c.r hdb, fun B S H σ ρ Φ Q er q hd => hd d v H q (Same.refl _) (c.d S H)⟩
theorem cst_tup {K : PySem.W.Frag} {f : Addr} {od : Option Addr} {its : Array Value} {n : Nat} {sl : Array (Option Value)} {ns : List Int} (l : K.lookup f = some ⟨.type "tuple", od, .seq its n, sl⟩) (hz : its.size ≤ sizeLine) (hv : Vals (ns.map V.int) its.toList) : CstD K (.tup (ns.map D.int)) (.ref f) (.ref f) :=
  ⟨rfl, fun S H => Rep.tup (.inr ⟨_, its, n, l, rfl, rfl, hz, hv⟩) (Reps.ints ns)⟩
theorem vals_nil : Vals [] [] := .nil
theorem vals_int {i : Int} {t : Tok} {ns : List Int} {us : List Value} (h : Vals (ns.map V.int) us) : Vals ((i :: ns).map V.int) (.int i t :: us) := .cons ⟨t, rfl⟩ h
end
end D3

set_option Elab.async false
set_option linter.all false
set_option maxRecDepth 100000
set_option maxHeartbeats 4000000
namespace D3
open PySem PySem.Spec PyProof.Rows L2
section
variable {X : Cx} {pins : List (Addr × Obj)} {σ : L2.St} {k : Nat} {f : Addr} {fd : FuncData} {ps : List Str} {C : Con}
variable {l Ia Sa : Addr} {H0 : Hp} {xs : List V} {ds : List D} {ks : List Int} {S : Addr → Prop} {R : Result → Shared → Prop}
end
section
variable {X : Cx} {k : Nat} {f : Addr} {fd : FuncData} {ps : List Str} {C : Con} {x y : Str} {p py kpos pos : Pos} {e : Expr} {te : E3}
end
end D3

set_option Elab.async false
set_option linter.all false
set_option maxRecDepth 100000
set_option maxHeartbeats 4000000
namespace D3
open PySem PySem.Spec PyProof.Rows L2
noncomputable def IsRv (h : Heap) (a l : Addr) (i : Int) : Prop := ∃ o, h.get? a = some o ∧ o.cls = .type "reversed" ∧ o.data = .fields #[.ref l, rawInt i]
theorem IsRv.typeIs {s : Shared} {a l : Addr} {i : Int} (x : IsRv s.heap a l i) : s.TypeIs (.ref a) "reversed" := let ⟨o, ho, hc, _⟩ := x; ⟨o, ho, hc⟩
theorem IsRv.at {h h' : Heap} {a l : Addr} {i : Int} (x : IsRv h a l i) (e : ∀ o, h.get? a = some o → h'.get? a = some o) : IsRv h' a l i := let ⟨o, ho, r⟩ := x; ⟨o, e _ ho, r⟩
section
variable {prog : Program} {w : World} {A : Around} {E : Value → Shared → Prop} {s : Shared}
end
section
variable {X : Cx}
end
end D3

set_option Elab.async false
set_option linter.all false
set_option maxRecDepth 100000
set_option maxHeartbeats 4000000
namespace D3
open PySem PySem.Spec PyProof.Rows L2
section
variable {X : Cx} {a b : Expr} {ta : E3} {tb : A3} {p pos' pos : Pos}
end
end D3

set_option Elab.async false
set_option linter.all false
set_option maxRecDepth 100000
set_option maxHeartbeats 4000000
namespace D3
open PySem PySem.Spec PyProof.Rows L2
noncomputable def IsIt : Bool → Heap → Addr → Addr → Nat → Prop
  | true, h, it, l, k => h.IsListIter it l k
  | false, h, it, l, k => h.IsTupleIter it l k
noncomputable def IsSq : Bool → Heap → Addr → Array Value → Prop
  | true, h, l, xs => h.IsList l xs
  | false, h, l, xs => h.IsTuple l xs
theorem IsIt.obj {b : Bool} {h : Heap} {it l : Addr} {k : Nat} (x : IsIt b h it l k) : ∃ o vs, h.get? it = some o ∧ o.data = .fields vs := by
  cases b <;> (obtain ⟨o, e, _, d⟩ := x; exact ⟨o, _, e, d⟩)
theorem IsIt.at {b : Bool} {h h' : Heap} {it l : Addr} {k : Nat} (x : IsIt b h it l k) (e : ∀ o, h.get? it = some o → h'.get? it = some o) : IsIt b h' it l k := by
  cases b <;> (obtain ⟨o, ho, r⟩ := x; exact ⟨o, e _ ho, r⟩)
theorem IsSq.at {b : Bool} {h h' : Heap} {l : Addr} {xs : Array Value} (x : IsSq b h l xs) (e : ∀ o, h.get? l = some o → h'.get? l = some o) : IsSq b h' l xs := by
  cases b <;> (obtain ⟨o, ho, r⟩ := x; exact ⟨o, e _ ho, r⟩)
inductive Mv (fp : List Addr) : Heap → Heap → Prop
  | refl (h : Heap) : Mv fp h h
  | step {h h1 h2 : Heap} (b : Addr) : Mv fp h h1 → b ∈ fp → (∀ c o, c ≠ b → h1.get? c = some o → h2.get? c = some o) → Mv fp h h2
theorem Mv.keep {fp : List Addr} {h h' : Heap} (m : Mv fp h h') : ∀ c o, c ∉ fp → h.get? c = some o → h'.get? c = some o := by
  induction m with
  | refl => exact fun _ _ _ e => e
  | step b _ hb k ih => exact fun c o hc e => k c o (fun z => hc (z ▸ hb)) (ih c o hc e)
section
variable {prog : Program} {w : World} {A : Around} {E : Value → Shared → Prop} {s : Shared}
variable {b1 b2 : Bool} {z TI TO i1 i2 l1 l2 : Addr} {k : Nat} {xs ys : Array Value}
end
noncomputable def SqB (K : PySem.W.Frag) : Bool → Hp → Addr → List V → Prop
  | true, H, a, xs => SqL K H a xs
  | false, H, a, xs => SqT K H a xs
theorem SqB.at {X : Cx} {pins : List (Addr × Obj)} {σ : L2.St} {H : Hp} {s : Shared} {b : Bool} {a : Addr} {xs : List V} (I : Inv X pins σ H s) (h : SqB X.K b H a xs) : ∃ its : List Value, Vals xs its ∧ IsSq b s.heap a its.toArray := by
  cases b with
  | true => obtain ⟨its, r, p, _⟩ := I.list h; exact ⟨its, r, p.isList⟩
  | false => obtain ⟨its, r, p, _⟩ := I.tuple h; exact ⟨its, r, p⟩
theorem SqB.inj {X : Cx} {pins : List (Addr × Obj)} {σ : L2.St} {H : Hp} {s : Shared} {b : Bool} {a : Addr} {xs ys : List V} (I : Inv X pins σ H s) (h : SqB X.K b H a xs) (h' : SqB X.K b H a ys) : xs = ys := by
  cases b with
  | true => exact I.list_inj h h'
  | false => exact I.tuple_inj h h'
theorem IsSq.lt {b : Bool} {h : Heap} {l : Addr} {xs : Array Value} (x : IsSq b h l xs) : l < h.objs.size := by
  cases b <;> (obtain ⟨o, ho, _⟩ := x; exact Heap.lt_size ho)
theorem apart (n l m : Nat) (k1 : l < n) (k2 : m < n) : ZipApart (n + 4) (n + 2) (n + 3) n (n + 1) l m := by
  have f : ∀ {a b : Nat}, a < b → a ≠ b := fun h => Nat.ne_of_lt h
  have g : ∀ {a b : Nat}, b < a → a ≠ b := fun h => Nat.ne_of_gt h
  exact ⟨f (by omega), f (by omega), f (by omega), f (by omega), f (by omega), g (by omega), g (by omega), g (by omega), g (by omega), f (by omega), f (by omega), f (by omega), f (by omega), f (by omega), f (by omega), f (by omega), f (by omega), f (by omega)⟩
section
variable {X : Cx}
end
end D3

set_option Elab.async false
set_option linter.all false
set_option maxRecDepth 100000
set_option maxHeartbeats 4000000
namespace D3
open PySem PySem.Spec PyProof.Rows L2
section
variable {X : Cx}
end
end D3

set_option Elab.async false
set_option linter.all false
set_option maxRecDepth 100000
set_option maxHeartbeats 4000000
namespace D3
open PySem PySem.Spec PyProof.Rows L2
section
variable {prog : Program} {w : World} {A : Around} {E : Value → Shared → Prop} {s : Shared}
theorem drawL {it l : Addr} {xs : Array Value} (hne : l ≠ it) : ∀ (n i : Nat) (s : Shared) (Q : List Value → Shared → Prop), s.heap.IsListIter it l i → s.heap.IsList l xs → i + n ≤ xs.size →
    (∀ h', h'.IsListIter it l (i + n) → Heap.ExtBut it s.heap h' → Q ((xs.toList.drop i).take n) { s with heap := h' }) → wpAny (model prog w) A (draw (.ref it) n) Q E s
  | 0, i, s, Q, hi, _, _, hQ => by
    show wpAny _ _ (pure []) Q E s
    exact wpAny_pure (by simpa using hQ s.heap hi fun _ _ _ e => e)
  | n + 1, i, s, Q, hi, hl, le, hQ => by
    have lt : i < xs.size := by omega
    show wpAny _ _ (pyNext (.ref it) >>= _) Q E s
    refine wpAny_bind (wpAny_pyNext_list_item hi hl (x := xs[i]) (by simp [lt]) fun g1 i1 s1 => ?_)
    refine wpAny_bind (wpAny_holding (drawL hne n (i + 1) _ _ i1 (hl.extBut s1.extBut hne) (by omega) fun g2 i2 s2 => wpAny_pure ?_))
    have e : xs.toList.drop i = xs[i] :: xs.toList.drop (i + 1) := by simp [List.drop_eq_getElem_cons, lt]
    have := hQ g2 (by rw [show i + (n + 1) = i + 1 + n by omega]; exact i2) fun b o hb e => s2 b o hb (s1.extBut b o hb e)
    rw [e, List.take_succ_cons] at this
    exact this
theorem unpackL {l : Addr} {xs : Array Value} {targets : List (Bool × (Value → Sem Unit))} {Q : Unit → Shared → Prop} (hh : A.handled = none) (hl : s.heap.IsList l xs) (hn : targets.length = xs.size) (hstar : targets.findIdx? (·.1) = none)
    (h : ∀ h', Heap.ExtBut s.heap.objs.size s.heap h' → wpAny (model prog w) A (assignInOrder (targets.map (·.2)) xs.toList) Q E { s with heap := h' }) : wpAny (model prog w) A (unpack (.ref l) targets) Q E s := by
  have ne : l ≠ s.heap.objs.size := by obtain ⟨o, ho, _⟩ := hl; exact Nat.ne_of_lt (Heap.lt_size ho)
  unfold unpack
  rw [hn, hstar]
  refine wpAny_bind (wpAny_holding ?_)
  unfold unpackItems
  refine wpAny_bind ?_
  unfold notIterableAtAll
  refine wpAny_bind (wpAny_specialOf hl.typeIs F.slot_list_iter.lookup ?_)
  refine wpAny_pure ?_
  simp only [Bool.false_eq_true, if_false]
  refine wpAny_bind (wpAny_holding (wpAny_pyIter_list hl ?_))
  refine wpAny_bind (wpAny_holding (drawL ne xs.size 0 _ _ ⟨_, Heap.get?_push_size _ rfl, rfl, rfl⟩ (Heap.IsList.push hl _) (by omega) fun g1 i1 s1 => ?_))
  have all : List.take xs.size (List.drop 0 xs.toList) = xs.toList := by rw [List.drop_zero]; exact List.take_of_length_le (by simp)
  rw [all, if_neg (by simp)]
  have hl1 : g1.IsList l xs := (Heap.IsList.push hl _).extBut s1 ne
  refine wpAny_bind (wpAny_holding (wpAny_pyNext_list_end hh i1 hl1 (by simp) fun g2 s2 => ?_))
  simp only [Option.isSome_none, Bool.false_eq_true, if_false]
  exact wpAny_pure (h g2 fun b o hb e => s2 b o hb (s1 b o hb (Heap.get?_push_of_some _ e)))
end
section
variable {X : Cx} {pos : Pos} {es : List Expr}
noncomputable def gLstV (K : PySem.W.Frag) (n : Nat) (t : TGs) : TG := fun v σ H Q => ∃ a xs, v = .ref a ∧ SqL K H a xs ∧ xs.length = n ∧ t xs σ H Q
theorem pg_lstV {k : Nat} {t : TGs} {n : Nat} (hc : X.calm = true) (h : PGs X es t) (hn : (assignEach es X.env).length = n) (hst : (assignEach es X.env).findIdx? (·.1) = none) : PG X (.Tuple es k pos) (gLstV X.K n t) := by
  intro pins s σ H v u Q I r hw
  obtain ⟨a, xs, e1, hq, hl, hw⟩ := hw
  subst e1
  cases r
  obtain ⟨its, rv, p, hz⟩ := I.list hq
  rw [assign_Tuple]
  refine wpAny_bind (wpAny_standAt (unpackL (I.ok.hd hc) p.isList (by simp [hn, ← hl, rv.length]) hst fun h' hx => ?_))
  have I1 : Inv X pins σ H { s with heap := h' } := I.kept (t' := s.toks) fun b o e => hx b o (Nat.ne_of_lt (Heap.lt_size e)) e
  exact h pins _ σ H xs _ Q I1 (by simpa using rv) hw
noncomputable abbrev gLst3 (n : Nat) (gs : Gs3) : G3
  | .lst ds, ρ, Ψ => ds.length = n ∧ gs ds ρ Ψ
  | _, _, _ => False
theorem pgd_lst {k : Nat} {gs : Gs3} {n : Nat} (hc : X.calm = true) (h : PGDs X es gs) (hn : (assignEach es X.env).length = n := by rfl) (hst : (assignEach es X.env).findIdx? (·.1) = none := by rfl) : PGD X (.Tuple es k pos) (gLst3 n gs) := by
  obtain ⟨g2, h, w⟩ := h
  refine ⟨_, pg_lstV hc h hn hst, fun B S H σ ρ d v Ψ Q er r h k => ?_⟩
  cases d <;> first | exact h.elim | skip
  obtain ⟨a, xs, rfl, q, rs⟩ := rep_lst r
  exact ⟨a, xs, rfl, q.sq, by rw [← rs.len]; exact h.1, w B S H σ ρ _ _ Ψ Q er rs h.2 k⟩
end
end D3

set_option Elab.async false
set_option linter.all false
set_option maxRecDepth 100000
set_option maxHeartbeats 4000000
namespace D3
open PySem PySem.Spec PyProof.Rows L2
section
variable {prog : Program} {w : World} {A : Around} {E : Value → Shared → Prop} {s : Shared}
end
section
variable {X : Cx}
end
end D3

set_option Elab.async false
set_option linter.all false
set_option maxRecDepth 100000
set_option maxHeartbeats 4000000
namespace D3
open PySem PySem.Spec PyProof.Rows L2

section
variable {prog : Program} {w : World} {A : Around} {E : Value → Shared → Prop} {h : Heap} {g : Array GenState} {d : Drawn} {t : Nat} {os : OsState} {a C : Addr} {o : Obj} {K : PySem.W.Frag}
end
end D3
namespace D3
open PySem PySem.Spec PyProof.Rows L2

structure FlyB (P : Program) (w : World) (l : List Env) (H H' : Hp) (h h' B : Heap) (e C : Addr) (a0 : Value) : Prop where
  fl : Heap.FlyingW B l e (.ref C) a0 h'
  hok : HOk P w H' B
  keep : ∀ b o, h.get? b = some o → H b = none → b ∉ frs l → B.get? b = some o
  slot : ∀ b o, h.get? b = some o → H b = none → b ∈ frs l → ∃ sl, h'.get? b = some { o with slots := sl }
  free : ∀ b o, h.get? b = some o → H b = none → H' b = none
  there : ∀ b o, h.get? b = some o → b ∉ frs l → ∃ o', B.get? b = some o'
  tups : ∀ b xs, H b = some (.tup xs) → H' b = some (.tup xs)
  frzs : ∀ b o u, H b = some (.frz o u) → H' b = some (.frz o u)
  tbls : ∀ b ps, H b = some (.tbl ps) → ∃ more, H' b = some (.tbl (ps ++ more))
  he : H' e = none
section
variable {P : Program} {w : World} {l : List Env} {H H' : Hp} {h h' h'' B : Heap} {e C : Addr} {a0 : Value}
theorem FlyB.un (f : FlyB P w l H H' h h' B e C a0) : Un (frs l) [] H H' h h' where
  keep := fun b o q n hb _ => f.fl.1 _ _ (f.keep b o q n hb)
  slot := fun b o q n hb _ => f.slot b o q n hb
  free := fun b o q n _ => f.free b o q n
  there := fun b o q _ => by
    by_cases hb : b ∈ frs l
    · obtain ⟨_, o', ho, _⟩ := f.fl.2.2.1.mem hb
      exact ⟨o', ho⟩
    · obtain ⟨o', ho⟩ := f.there b o q hb
      exact ⟨o', f.fl.1 _ _ ho⟩
  tups := f.tups
  frzs := f.frzs
  tbls := f.tbls
theorem FlyB.hk (f : FlyB P w l H H' h h' B e C a0) : HOk P w H' h' := f.hok.kept f.fl.1
theorem FlyB.go (f : FlyB P w l H H' h h' B e C a0) (x : Heap.FlyingW B l e (.ref C) a0 h'') (u : h'.UpToSlots h'') : FlyB P w l H H' h h'' B e C a0 where
  fl := x
  hok := f.hok
  keep := f.keep
  slot := fun b o q n hb => by
    obtain ⟨sl, e1⟩ := f.slot b o q n hb
    obtain ⟨_, o', ho, hd⟩ := f.fl.2.2.1.mem hb
    rw [e1] at ho; cases ho
    obtain ⟨sl', e2⟩ := u b _ e1 hd
    exact ⟨sl', e2⟩
  free := f.free
  there := f.there
  tups := f.tups
  frzs := f.frzs
  tbls := f.tbls
  he := f.he
end
section
variable {X : Cx} {pins : List (Addr × Obj)} {σ : L2.St} {H1 : Hp} {s1 : Shared} {h' : Heap} {e C : Addr} {vs : List Value} {Q : Unit → Shared → Prop} {E : Value → Shared → Prop}
end

section
variable {X : Cx} {x : Str} {C : Addr} {e₀ : Expr} {rest : List Expr} {np cpos pos : Pos} {ta : TA} {R : Hp → Prop}
end
end D3
namespace D3
open PySem PySem.Spec PyProof.Rows L2

section
variable {X : Cx} {R : Hp → Prop} {st : Stmt} {rest as bs : List Stmt} {t u : Fr3 → Prop} {ts us : S3} {c : Expr} {tc : B3} {pos : Pos}
end

section
variable {X : Cx} {R : Hp → Prop} {rest bs : List Stmt} {u : Fr3 → Prop} {ta : A3} {us : S3} {c : Expr} {tc : B3} {pos : Pos} {st : Stmt}
end

section
variable {P : Program} {w : World} {K : PySem.W.Frag} {mg : Str → Option Value} {base : Heap}
end

theorem all_cons {P : Addr → Prop} {D : Addr} {l : List Addr} (h : P D) (t : ∀ D ∈ l, P D) : ∀ E ∈ D :: l, P E := fun E hE => by
  rcases List.mem_cons.mp hE with rfl | hE
  · exact h
  · exact t E hE
section
variable {X : Cx} {i : Nat} {ea C : Addr} {oe : Obj} {x y n : Str} {p py pn pos ps : Pos} {b b' : Bool} {a a2 : Expr}
inductive Names (X : Cx) : List Expr → List Addr → Prop where
  | nil : Names X [] []
  | cons {y : Str} {py : Pos} {D : Addr} {es : List Expr} {Ds : List Addr} (hg : Gl X y) (hm : X.mg y = some (.ref D)) (hd : (y == ("__debug__" : Str)) = false) (he : starEach (.Name y py :: es) X.env = (false, eval (.Name y py) X.env) :: starEach es X.env) (r : Names X es Ds) : Names X (.Name y py :: es) (D :: Ds)
theorem Names.pa {es : List Expr} {Ds : List Addr} (h : Names X es Ds) : ∃ t, PA X es t ∧ ∀ σ H Q, Q (Ds.map V.ref) H → t σ H Q := by
  induction h with
  | nil => exact ⟨_, pa_nil, fun σ H Q q => q⟩
  | cons hg hm hd he r ih =>
    obtain ⟨t, h, w⟩ := ih
    exact ⟨_, pa_cons (pe_glob hg hm (show RelV (.ref _) (.ref _) from rfl) hd) h he, fun σ H Q q => w σ H _ q⟩
end
end D3
namespace D3
open PySem PySem.Spec PyProof.Rows L2

section
variable {X : Cx} {pins : List (Addr × Obj)} {σ : L2.St} {H : Hp} {s : Shared}
end

theorem ER.any {K : PySem.W.Frag} {B : Bs} {S : Addr → Prop} {H : Hp} {σ : L2.St} {ρ : Fr3} {i : Nat} {v : Option V} (er : ER K B S H σ ρ) (h : ρ[i]? = some .un) : ER K B S H (σ.set i v) ρ where
  len := by rw [List.length_set]; exact er.len
  same := er.same
  sub := er.sub
  ok0 := er.ok0
  ok := er.ok
  val := fun j c q => by
    have : i ≠ j := by rintro rfl; rw [h] at q; cases q
    rw [List.getElem?_set_ne this]; exact er.val j c q
  own := fun j c q => by
    have : i ≠ j := by rintro rfl; rw [h] at q; cases q
    rw [List.getElem?_set_ne this]; exact er.own j c q
  uq := fun j k a ds es q1 q2 q3 q4 => by
    have n1 : i ≠ j := by rintro rfl; rw [h] at q1; cases q1
    have n2 : i ≠ k := by rintro rfl; rw [h] at q2; cases q2
    rw [List.getElem?_set_ne n1] at q3
    rw [List.getElem?_set_ne n2] at q4
    exact er.uq j k a ds es q1 q2 q3 q4
  dct := fun j ks c q => by
    have : i ≠ j := by rintro rfl; rw [h] at q; cases q
    rw [List.getElem?_set_ne this]; exact er.dct j ks c q
  dq := fun j k a ks ds ks' ds' q1 q2 q3 q4 => by
    have n1 : i ≠ j := by rintro rfl; rw [h] at q1; cases q1
    have n2 : i ≠ k := by rintro rfl; rw [h] at q2; cases q2
    rw [List.getElem?_set_ne n1] at q3
    rw [List.getElem?_set_ne n2] at q4
    exact er.dq j k a ks ds ks' ds' q1 q2 q3 q4
  gh := er.gh

section
variable {X : Cx} {i j : Nat} {ea : Addr} {x : Str} {e : Expr} {b : Bool} {rest : List Stmt} {l : List (Nat × Bool)} {pos pos' : Pos}
end

section
variable {X : Cx} {k i : Nat} {f C D : Addr} {fd : FuncData} {ps : List Str} {Pre : List D3.D → Prop} {x y n : Str} {p pos pos' py hp tp : Pos} {e : Expr} {es : List Expr} {b₀ : Stmt} {suite : List Stmt} {ta : A3} {l : List (Nat × Bool)}
end
end D3

set_option Elab.async false
set_option linter.all false
set_option maxRecDepth 100000
set_option maxHeartbeats 4000000
namespace D3
open PySem PySem.Spec PyProof.Rows L2

section
variable {X : Cx} {i j : Nat} {ea : Addr} {x : Str} {e a b : Expr} {es : List Expr} {bv : Bool} {te ta tb : E3} {tr : A3} {rest : List Stmt} {pos pos' : Pos}
end
section
variable {X : Cx} {k i : Nat} {f C D : Addr} {fd : FuncData} {ps : List Str} {Pre : List D3.D → Prop} {x y n : Str} {p pos pos' py hp tp : Pos} {e : Expr} {es : List Expr} {b₀ : Stmt} {suite : List Stmt} {ta : A3} {ts : S3}
end
end D3

set_option Elab.async false
set_option linter.all false
set_option maxRecDepth 100000
set_option maxHeartbeats 4000000
namespace D3
open PySem PySem.Spec PyProof.Rows L2
theorem Names.sp {X : Cx} {pins : List (Addr × Obj)} {σ : L2.St} {H : Hp} {s : Shared} {E : Value → Shared → Prop} {pos : Pos} (I : Inv X pins σ H s) : ∀ {es : List Expr} {Ds : List Addr}, Names X es Ds → ∀ (Q : List Value → Shared → Prop), Q (Ds.map Value.ref) s → wpAny (model X.prog X.w) X.A (spliced (backTo pos (starEach es X.env))) Q E s
  | _, _, .nil, Q, q => Calls.spliced_nil q
  | _, _, .cons hg hm hd he r, Q, q => by
    rw [he]
    refine Calls.spliced_cons (ld_glob I hg hm ?_ hd)
    exact Names.sp I r _ q

theorem FlyB.more {P : Program} {w : World} {l : List Env} {H H' : Hp} {h h' h'' B : Heap} {e C : Addr} {a0 : Value} (f : FlyB P w l H H' h h' B e C a0) (k : ∀ b o, h'.get? b = some o → h''.get? b = some o) : FlyB P w l H H' h h'' B e C a0 := by
  obtain ⟨f1, f2, f3, oe, vs, T, oT, ts, g1, g2, g3, g4, g5, g6, g7, g8, g9⟩ := f.fl
  refine f.go ⟨fun b o q => k _ _ (f1 _ _ q), f2, f3.of_keeps fun b o q _ => ⟨o, k _ _ q, rfl⟩, oe, vs, T, oT, ts, k _ _ g1, g2, g3, g4, g5, g6, k _ _ g7, g8, g9⟩ fun b o q _ => ⟨o.slots, k _ _ q⟩
section
variable {X : Cx} {k i : Nat} {f C D ea : Addr} {fd : FuncData} {ps : List Str} {Pre : List D3.D → Prop} {x y n : Str} {p pos pos' py hp hp0 tp pt : Pos} {e : Expr} {es cs : List Expr} {b₀ : Stmt} {suite suite0 : List Stmt} {ta : A3} {ts : S3} {Ds : List Addr} {cx : Nat}
end
end D3

set_option Elab.async false
set_option linter.all false
set_option maxRecDepth 100000
set_option maxHeartbeats 4000000
namespace D3
open PySem PySem.Spec PyProof.Rows L2

section
variable {X : Cx} {pins : List (Addr × Obj)} {σ : L2.St} {H H' : Hp} {s s' : Shared} {e C : Addr} {B : Heap} {a0 : Value} {Q : Unit → Shared → Prop} {E : Value → Shared → Prop}
end
section
variable {X : Cx} {R : Hp → Prop} {C f : Addr} {k : Nat} {fd : FuncData} {ps : List Str} {Pre : List D3.D → Prop} {x : Str} {e a : Expr} {es : List Expr} {p pos pos' : Pos} {ta : A3} {t : Fr3 → Prop}
end
section
variable {P : Program} {w : World} {K : PySem.W.Frag} {mg : Str → Option Value} {base : Heap}
end
end D3

set_option Elab.async false
set_option linter.all false
set_option maxRecDepth 100000
set_option maxHeartbeats 4000000
namespace D3
open PySem PySem.Spec PyProof.Rows L2

section
variable {X : Cx} {pos : Pos}
end
section
variable {X : Cx}
end
end D3

set_option Elab.async false
set_option linter.all false
set_option maxRecDepth 100000
set_option maxHeartbeats 4000000
namespace D3
open PySem PySem.Spec PyProof.Rows L2

section
variable {X : Cx} {pos : Pos}
end
@[elab_as_elim] theorem len_0 {α : Type} {P : List α → Prop} : ∀ us : List α, us.length = 0 → P [] → P us
  | [], _, h => h
@[elab_as_elim] theorem len_1 {α : Type} {P : List α → Prop} : ∀ us : List α, us.length = 1 → (∀ a, P [a]) → P us
  | [a], _, h => h a
@[elab_as_elim] theorem len_2 {α : Type} {P : List α → Prop} : ∀ us : List α, us.length = 2 → (∀ a b, P [a, b]) → P us
  | [a, b], _, h => h a b
@[elab_as_elim] theorem len_3 {α : Type} {P : List α → Prop} : ∀ us : List α, us.length = 3 → (∀ a b c, P [a, b, c]) → P us
  | [a, b, c], _, h => h a b c
@[elab_as_elim] theorem len_4 {α : Type} {P : List α → Prop} : ∀ us : List α, us.length = 4 → (∀ a b c d, P [a, b, c, d]) → P us
  | [a, b, c, d], _, h => h a b c d
@[elab_as_elim] theorem len_5 {α : Type} {P : List α → Prop} : ∀ us : List α, us.length = 5 → (∀ a b c d e, P [a, b, c, d, e]) → P us
  | [a, b, c, d, e], _, h => h a b c d e
end D3

set_option Elab.async false
set_option linter.all false
set_option maxRecDepth 100000
set_option maxHeartbeats 4000000
namespace D3
open PySem PySem.Spec PyProof.Rows L2
section
open PySem.W
noncomputable def KAll {α : Type} (n : Nat) (P : α → Prop) : KasT α → Prop
  | .ret a => P a
  | .ask i j k => i < n ∧ j < n ∧ ∀ b, KAll n P (k b)
theorem KAll.bind {α β : Type} {n : Nat} {P : β → Prop} {R : α → Prop} {f : α → KasT β} (hf : ∀ a, R a → KAll n P (f a)) : ∀ t : KasT α, KAll n R t → KAll n P (t.bind f)
  | .ret a, h => hf a h
  | .ask i j k, h => ⟨h.1, h.2.1, fun b => KAll.bind hf (k b) (h.2.2 b)⟩
theorem KAll.wp {α : Type} {n : Nat} {P : α → Prop} {cmp : Nat → Nat → (Bool → Shared → Prop) → Shared → Prop} {s : Shared} (hc : ∀ i j C, i < n → j < n → (∀ b, C b s) → cmp i j C s) : ∀ t : KasT α, KAll n P t → t.kasWp cmp (fun a s' => P a ∧ s' = s) s
  | .ret a, h => ⟨h, rfl⟩
  | .ask i j k, h => hc i j _ h.1 h.2.1 fun b => KAll.wp hc (k b) (h.2.2 b)
noncomputable def PR (n : Nat) (p : Array Nat) : Prop := p.Perm (List.toArray (List.range n))
theorem PR.lt {n : Nat} {p : Array Nat} (h : PR n p) (h0 : 0 < n) (i : Nat) : p.getD i 0 < n := by
  rw [Array.getD_eq_getD_getElem?]
  cases e : p[i]? with
  | none => exact h0
  | some x =>
    have : x ∈ p := Array.mem_of_getElem? e
    have := (h.mem_iff).mp this
    simpa using this
section
variable {prog : Program} {w : World} {A : Around} {E : Value → Shared → Prop} {s : Shared} {vs : List Value}
end
end
end D3

set_option Elab.async false
set_option linter.all false
set_option maxRecDepth 100000
set_option maxHeartbeats 4000000
namespace D3
open PySem PySem.Spec PyProof.Rows L2
section
open PySem.SeqAt
open PySem.AutoSeq1 (wpAny_loadPart')
open PySem.MeetsSeq PySem.MeetsSeq2 PySem.MeetsSeq3
inductive Ord : Nat → D → Prop where
  | int (i : Int) : Ord 0 (.int i)
  | tup {n : Nat} {ds : List D} (h : ∀ d ∈ ds, Ord n d) : Ord (n + 1) (.tup ds)
theorem Ord.dep {n : Nat} {d : D} (h : Ord n d) : dep d ≤ n := by
  induction h with
  | int i => exact Nat.le_refl 0
  | tup h ih => show deps _ + 1 ≤ _; exact Nat.succ_le_succ (deps_le ih)
section
variable {X : Cx} {pins : List (Addr × Obj)} {σ : L2.St} {H : Hp} {s : Shared} {S : Addr → Prop}
end
end
end D3

set_option Elab.async false
set_option linter.all false
set_option maxRecDepth 100000
set_option maxHeartbeats 4000000
namespace D3
open PySem PySem.Spec PyProof.Rows L2
section
open PySem.W
variable {X : Cx} {pins : List (Addr × Obj)} {σ : L2.St} {H : Hp} {s : Shared} {S : Addr → Prop}
theorem vals_get {ys : List V} {its : List Value} (v : Vals ys its) : ∀ {i : Nat}, i < its.length → ∃ y, ys[i]? = some y ∧ RelV y (its.getD i Value.none) := by
  induction v with
  | nil => intro i h; simp at h
  | cons h v ih =>
    intro i hi
    cases i with
    | zero => exact ⟨_, rfl, h⟩
    | succ i =>
      obtain ⟨y, e, r⟩ := ih (i := i) (by simpa using hi)
      exact ⟨y, by simpa using e, by simpa using r⟩
end
end D3

set_option Elab.async false
set_option linter.all false
set_option maxRecDepth 100000
set_option maxHeartbeats 4000000
namespace D3
open PySem PySem.Spec PyProof.Rows L2
section
variable {X : Cx} {e : Expr} {tf : A3} {pos : Pos}
noncomputable abbrev sExt (i : Nat) (tf : A3) : S3 := fun Φ ρ => match ρ[i]? with | some (.own ds) => tf ρ fun es => ds.length + es.length ≤ sizeLine ∧ Φ (.nx (ρ.set i (.own (ds ++ es)))) | _ => False
theorem psd_extend {o : Expr} {i : Nat} {apos cpos : Pos} (ho : PE X o (tVar i)) (he : PF X e tf)
    (hbase : attributeBase o "extend" X.env (eval o X.env) = eval o X.env := by rfl)
    (hfew : ((backTo cpos (starEach [e] X.env)).all (fun x => !x.1) && (backToKw cpos (keywordEach [] X.env)).all (fun x => x.1.isSome)
      && decide (([e] : List Expr).length + ([] : List Keyword).length + (if ([] : List Keyword).isEmpty then 0 else 1) < 30)) = true := by rfl)
    (hline : (apos.endLine == cpos.line) = true := by rfl) (hst : starEach [e] X.env = [(false, eval e X.env)] := by rfl)
    (hs : swapsWith (.Call (.Attribute o "extend" apos) [e] [] cpos) none pos.line X.env = pure false := by rfl) : PSD X (.Expr (.Call (.Attribute o "extend" apos) [e] [] cpos) pos) (sExt i tf) := by
  obtain ⟨t2, h, w⟩ := he
  refine ⟨_, ps_expr (pe_bm PySem.F.plainAttrs_list PySem.F.slot_list_extend PySem.F.type_list_extend mt_extend ho (pa_cons h pa_nil hst) hbase hfew hline hst rfl) hs, fun B S H σ ρ Φ D' er q ok => ?_⟩
  unfold sExt at q
  split at q
  · rename_i ds e'
    obtain ⟨a, xs, ea, hsa, h0, hl, r⟩ := er.own i ds e'
    refine ⟨.ref a, ea, .inl ⟨rfl, xs, SqL.of hl⟩, w B S H σ ρ _ _ er q fun es ys p H1 hΦ s hp re => ?_⟩
    have s' := s.trans (same_new (o := .lst ys) hp)
    have re' := re.same (same_new (o := .lst ys) hp)
    exact ⟨a, p, xs, ys, rfl, rfl, s' _ _ hl, upd_same, by rw [← r.len, ← re.len]; exact hΦ.1, ok.nx _ _ _ _ hΦ.2 ((er.go s').change e' ea hsa h0 (s' _ _ hl) ((r.same s').app re'))⟩
  · exact q.elim
end
section
open PySem.SeqAt
open PySem.AutoSeq1 (wpAny_loadPart')
open PySem.MeetsSeq PySem.MeetsSeq2 PySem.MeetsSeq3
open HT
variable {X : Cx}
theorem bt_sorted : bootBuiltins "sorted" = some (.builtin "sorted") := by decide +kernel
end
end D3

set_option Elab.async false
set_option linter.all false
set_option maxRecDepth 100000
set_option maxHeartbeats 4000000
namespace D3
open PySem PySem.Spec PyProof.Rows L2
section
variable {X : Cx} {pins : List (Addr × Obj)} {σ : L2.St} {H : Hp} {s : Shared} {S : Addr → Prop}
end
end D3

set_option Elab.async false
set_option linter.all false
set_option maxRecDepth 100000
set_option maxHeartbeats 4000000
namespace D3
open PySem PySem.Spec PyProof.Rows L2
section
variable {K : PySem.W.Frag} {B : Bs} {S : Addr → Prop} {H : Hp} {σ : L2.St} {ρ : Fr3}
theorem ER.hide {F : Addr → Prop} {H2 : Hp} (er : ER K B S H σ ρ) (s : Same H H2) (hF : ∀ b, F b → H b = none ∧ ∃ o, H2 b = some o) : ER K B (fun b => S b ∨ F b) H2 σ ρ := by
  have hT := same_tup (K := K) s
  have hL : ∀ b xs, LR K S H b xs → LR K (fun b => S b ∨ F b) H2 b xs := fun b xs q => by
    rcases q with ⟨n, q⟩ | q
    · have nF : ¬ F b := fun z => by
        have := (hF b z).1
        rcases q with q | ⟨o, q⟩ <;> (rw [this] at q; cases q)
      refine .inl ⟨fun z => z.elim n nF, ?_⟩
      rcases q with q | ⟨o, q⟩
      · exact .inl (s _ _ q)
      · exact .inr ⟨o, s _ _ q⟩
    · exact .inr q
  have mv : ∀ {c : D} {w : V}, Rep K S H c w → Rep K (fun b => S b ∨ F b) H2 c w := fun {c w} q => Rep.map hT hL c w q
  have mvs : ∀ {c : List D} {w : List V}, Reps K S H c w → Reps K (fun b => S b ∨ F b) H2 c w := fun {c w} q => Reps.map hT hL c w q
  exact {
    len := er.len
    same := er.same.trans s
    sub := fun b h => .inl (er.sub b h)
    ok0 := er.ok0
    ok := fun b h => h.elim (fun h => let ⟨o, e⟩ := er.ok b h; ⟨o, s _ _ e⟩) fun h => (hF b h).2
    val := fun j c q => let ⟨w, e, r⟩ := er.val j c q; ⟨w, e, mv r⟩
    own := fun j c q => let ⟨a, xs, e, h1, h2, h3, r⟩ := er.own j c q; ⟨a, xs, e, .inl h1, h2, s _ _ h3, mvs r⟩
    dct := fun j ks ds q => let ⟨b, e, hs, hz, r'⟩ := er.dct j ks ds q; ⟨b, e, .inl hs, hz, r'.map mvs (let ⟨o, ho, _⟩ := r'.isO; (s _ _ ho).trans ho.symm)⟩
    dq := er.dq
    uq := er.uq
    gh := fun p hp => mv (er.gh p hp) }
structure In2 (B : Bs) (S : Addr → Prop) (H : Hp) (a : Addr) (bs : List Addr) (rows : List (List Int)) : Prop where
  sa : S a
  a0 : B.H0 a = none
  ha : H a = some (.lst (bs.map V.ref))
  na : a ∉ bs
  nd : bs.Nodup
  len : bs.length = rows.length
  inn : ∀ (m : Nat) b ns, bs[m]? = some b → rows[m]? = some ns → S b ∧ B.H0 b = none ∧ H b = some (.lst (ns.map V.int))
structure Own2 (B : Bs) (S : Addr → Prop) (H : Hp) (σ : L2.St) (ρ : Fr3) (i : Nat) (rows : List (List Int)) : Prop where
  un : ρ[i]? = some .un
  no : ∀ (j : Nat) ds, ρ[j]? ≠ some (.own ds)
  at' : ∃ a bs, σ[i]? = some (some (.ref a)) ∧ In2 B S H a bs rows
theorem In2.go {a : Addr} {bs : List Addr} {rows : List (List Int)} {H' : Hp} (h : In2 B S H a bs rows) (s : Same H H') : In2 B S H' a bs rows :=
  ⟨h.sa, h.a0, s _ _ h.ha, h.na, h.nd, h.len, fun m b ns e1 e2 => let ⟨x, y, z⟩ := h.inn m b ns e1 e2; ⟨x, y, s _ _ z⟩⟩
theorem Own2.go {i : Nat} {rows : List (List Int)} {H' : Hp} (h : Own2 B S H σ ρ i rows) (s : Same H H') : Own2 B S H' σ ρ i rows :=
  ⟨h.un, h.no, let ⟨a, bs, e, q⟩ := h.at'; ⟨a, bs, e, q.go s⟩⟩
theorem Own2.put {i j : Nat} {rows : List (List Int)} {d : D} {v : V} (h : Own2 B S H σ ρ i rows) (hj : j ≠ i) : Own2 B S H (σ.set j (some v)) (ρ.set j (.val d)) i rows := by
  refine ⟨by rw [List.getElem?_set_ne hj]; exact h.un, fun k ds q => ?_, ?_⟩
  · by_cases hk : j = k
    · subst hk
      rw [List.getElem?_set] at q
      split at q
      · split at q <;> cases q
      · exact h.no _ _ q
    · rw [List.getElem?_set_ne hk] at q; exact h.no k ds q
  · obtain ⟨a, bs, e, q⟩ := h.at'
    exact ⟨a, bs, by rw [List.getElem?_set_ne hj]; exact e, q⟩
end
noncomputable abbrev S3o := (F3 → Prop) → Fr3 → List (List Int) → Prop
section
variable {X : Cx} {e : Expr} {te : E3} {i : Nat} {sts : List Stmt} {t : S3} {T : S3o} {pos : Pos}
end
end D3

set_option Elab.async false
set_option linter.all false
set_option maxRecDepth 100000
set_option maxHeartbeats 4000000
namespace D3
open PySem PySem.Spec PyProof.Rows L2
section
variable {K : PySem.W.Frag} {B : Bs} {S : Addr → Prop} {H : Hp} {σ : L2.St} {ρ : Fr3}
theorem ER.forget {i : Nat} (er : ER K B S H σ ρ) : ER K B S H σ (ρ.set i .un) := by
  have g : ∀ {j : Nat} {x : Sl}, x ≠ .un → (ρ.set i .un)[j]? = some x → ρ[j]? = some x := fun {j x} hx e => by
    rw [List.getElem?_set] at e
    split at e
    · split at e
      · cases e; exact absurd rfl hx
      · cases e
    · exact e
  exact {
    len := by rw [List.length_set]; exact er.len
    same := er.same
    sub := er.sub
    ok0 := er.ok0
    ok := er.ok
    val := fun j c e => er.val j c (g (by intro z; cases z) e)
    own := fun j c e => er.own j c (g (by intro z; cases z) e)
    uq := fun j k b c c' e e' => er.uq j k b c c' (g (by intro z; cases z) e) (g (by intro z; cases z) e')
    dct := fun j ks c e => er.dct j ks c (g (by intro z; cases z) e)
    dq := fun j k a ks ds ks' ds' e e' => er.dq j k a ks ds ks' ds' (g (by intro z; cases z) e) (g (by intro z; cases z) e')
    gh := er.gh }
end
section
variable {X : Cx} {xs M : List Str} {scope : Scope} {target elt iter : Expr} {ifs : List Expr} {pos : Pos} {ti : A3} {g : G3} {tt : B3} {tf : A3} {n : Nat} {sts : List Stmt} {T : S3o}
end
section
variable {X : Cx}
end
end D3

set_option Elab.async false
set_option linter.all false
set_option maxRecDepth 100000
set_option maxHeartbeats 4000000
namespace D3
open PySem PySem.Spec PyProof.Rows L2
noncomputable abbrev K3o := Fr3 → List (List Int) → Prop
noncomputable abbrev U3o := K3o → Fr3 → List (List Int) → Prop
section
variable {X : Cx} {e : Expr} {te : E3} {i : Nat} {st : Stmt} {sts : List Stmt} {U : U3o} {T : S3o} {pos : Pos}
end
end D3

set_option Elab.async false
set_option linter.all false
set_option maxRecDepth 100000
set_option maxHeartbeats 4000000
namespace D3
open PySem PySem.Spec PyProof.Rows L2
section
variable {X : Cx} {xs M : List Str} {scope : Scope} {target elt iter : Expr} {ifs : List Expr} {pos : Pos} {ti : A3} {g : G3} {tt : B3} {tf : A3} {n : Nat} {sts : List Stmt} {T : S3o}
end
end D3

set_option Elab.async false
set_option linter.all false
set_option maxRecDepth 100000
set_option maxHeartbeats 4000000
namespace D3
open PySem PySem.Spec PyProof.Rows L2
section
variable {K : PySem.W.Frag} {S S' : Addr → Prop} {H : Hp}
end
noncomputable abbrev frz (i : Nat) (ρ : Fr3) : Fr3 := match ρ[i]? with | some (.own ds) => ρ.set i (.val (.lst ds)) | _ => ρ
theorem ER.frz {K : PySem.W.Frag} {B : Bs} {S : Addr → Prop} {H : Hp} {σ : L2.St} {ρ : Fr3} (i : Nat) (er : ER K B S H σ ρ) : ∃ S', ER K B S' H σ (D3.frz i ρ) := by
  unfold D3.frz
  split
  · rename_i ds e
    exact er.freeze e
  · exact ⟨S, er⟩
section
variable {X : Cx} {e : Expr} {es : List Expr} {te : E3} {tc : B3} {ta tf : A3}
end
section
variable {X : Cx} {k : Nat} {f : Addr} {fd : FuncData} {ps : List Str} {C : Con} {x : Str} {p pos : Pos} {e : Expr} {es : List Expr} {ta : A3}
end
section
variable {X : Cx} {st : Stmt} {rest as bs : List Stmt} {t : S3} {u u' : A3} {e c : Expr} {tf : A3} {tc : B3} {pos : Pos}
noncomputable abbrev thenN (u : A3) (Φ : List D → Prop) : F3 → Prop
  | .nx ρ => u ρ Φ
  | _ => False
noncomputable abbrev nSeq (t : S3) (u : A3) : A3 := fun ρ Φ => t (thenN u Φ) ρ
end
section
variable {P : Program} {w : World} {K : PySem.W.Frag} {mg : Str → Option Value} {base : Heap}
end
end D3

set_option Elab.async false
set_option linter.all false
set_option maxRecDepth 100000
set_option maxHeartbeats 4000000
namespace D3
open PySem PySem.Spec PyProof.Rows L2
theorem Reps.hide {K : PySem.W.Frag} {S : Addr → Prop} {H H2 : Hp} {p : Addr} {ds : List D} {ys : List V} (hp : H p = none) (s : Same H H2) (r : Reps K S H ds ys) : Reps K (fun b => S b ∨ b = p) H2 ds ys := by
  refine Reps.map (same_tup s) (fun b zs q => ?_) _ _ r
  rcases q with ⟨n, q⟩ | q
  · have hb : b ≠ p := by
      rintro rfl
      rcases q with q | ⟨o, q⟩ <;> rw [hp] at q <;> cases q
    refine .inl ⟨fun z => z.elim n hb, ?_⟩
    rcases q with q | ⟨o, q⟩
    · exact .inl (s _ _ q)
    · exact .inr ⟨o, s _ _ q⟩
  · exact .inr q
section
variable {X : Cx} {k : Nat} {f : Addr} {fd : FuncData} {ps : List Str} {C : Con} {x : Str} {p pos : Pos} {e : Expr} {es : List Expr} {tf ta : A3}
end
section
variable {P : Program} {w : World} {K : PySem.W.Frag} {mg : Str → Option Value} {base : Heap}
end
section
variable {X : Cx} {i : Nat} {st : Stmt} {rest as bs body : List Stmt} {t u tb : S3} {e c : Expr} {te : E3} {tc : B3} {ti : A3} {pos : Pos}
end
end D3

set_option Elab.async false
set_option linter.all false
set_option maxRecDepth 100000
set_option maxHeartbeats 4000000
namespace PySem
open Sem (wp)
section
variable {prog : Program} {w : World} {A : Around} {s : Shared} {R : Result → Shared → Prop}
variable {I : Addr} {fp wr : List Addr} {G : Array GenState → Array GenState → Prop} {n : Nat} {P : Nat → Value → Prop} {St : Nat → Shared → Prop}
end
section
variable {prog : Program} {w : World} {A : Around} {E : Value → Shared → Prop} {s : Shared}
variable {I : Addr} {fp wr : List Addr} {G : Array GenState → Array GenState → Prop} {n : Nat} {P : Nat → Value → Prop} {St : Nat → Shared → Prop}
end
end PySem
namespace D3
open PySem PySem.Spec PyProof.Rows L2
section
variable {X : Cx} {e : Expr} {te : E3} {p p' pos pos' : Pos}
end
end D3

set_option Elab.async false
set_option linter.all false
set_option maxRecDepth 100000
set_option maxHeartbeats 4000000
namespace D3
open PySem PySem.Spec PyProof.Rows L2
mutual
noncomputable def cmpD (f : Int → Int → Bool) (g : Nat → Nat → Bool) : D → D → Bool
  | .int a, .int b => f a b
  | .tup xs, .tup ys => cmpDs f g xs ys
  | _, _ => false
noncomputable def cmpDs (f : Int → Int → Bool) (g : Nat → Nat → Bool) : List D → List D → Bool
  | x :: xs, y :: ys => if eqD x y = true then cmpDs f g xs ys else cmpD f g x y
  | xs, ys => g xs.length ys.length
end
noncomputable abbrev ltD : D → D → Bool := cmpD (fun a b => decide (a < b)) (fun a b => decide (a < b))
section
open PySem.SeqAt
open PySem.AutoSeq1 (wpAny_loadPart')
open PySem.MeetsSeq PySem.MeetsSeq2 PySem.MeetsSeq3
noncomputable def RcX (op : CmpOp) (A : Around) (s : Shared) (y x : Value) (c : Bool) : Prop := ∀ (prog : Program) (w : World) (E : Value → Shared → Prop) (Q : Value → Shared → Prop), Q (.bool c) s → wpAny (model prog w) A (richCompare op y x) Q E s
inductive LexX (op : CmpOp) (A : Around) (s : Shared) (g : Nat → Nat → Bool) : List Value → List Value → Bool → Prop where
  | nil {ws : List Value} : LexX op A s g [] ws (g 0 ws.length)
  | nil' {vs : List Value} : LexX op A s g vs [] (g vs.length 0)
  | eq {v w : Value} {vs ws : List Value} {c : Bool} : EqAt A s v w true → LexX op A s g vs ws c → LexX op A s g (v :: vs) (w :: ws) c
  | ne {v w : Value} {vs ws : List Value} {c : Bool} : EqAt A s v w false → RcX op A s v w c → LexX op A s g (v :: vs) (w :: ws) c
theorem LexX.fin {op : CmpOp} {A : Around} {s : Shared} {g : Nat → Nat → Bool} {vs ws : List Value} {c : Bool} (h : LexX op A s g vs ws c) (z : vs.zip ws = []) : c = g vs.length ws.length ∧ (vs.length = 0 ∨ ws.length = 0) := by
  cases h with
  | nil => exact ⟨rfl, .inl rfl⟩
  | nil' => exact ⟨rfl, .inr rfl⟩
  | eq => rw [List.zip_cons_cons] at z; cases z
  | ne => rw [List.zip_cons_cons] at z; cases z
theorem tuple_lt_X (l b : Addr) (items items2 : Array Value) (n n2 : Nat) (dd dd2 : Option Addr) (sl sl2 : Array (Option Value)) :
    Meets (Builtin.«tuple.__lt__» ⟨[.ref l, .ref b], []⟩)
      (fun A R s => s.heap.get? l = some { cls := .type "tuple", dict := dd, data := .seq items n, slots := sl } ∧ s.heap.get? b = some { cls := .type "tuple", dict := dd2, data := .seq items2 n2, slots := sl2 } ∧
        ∃ c, LexX .Lt A.in1 s (fun a b => decide (a < b)) items.toList items2.toList c ∧ R (.ok (.ret (.bool c))) s) :=
  .of_wp fun prog w A R s h => by
    obtain ⟨hp, g, d, tk, os⟩ := s; obtain ⟨hl, hb, c0, hq, h⟩ := h
    have f2 := AutoSeq1.sub_tuple_tuple
    wp_walk using wpAny_loadPart' hl, wpAny_loadPart' hb, wpAny_forIn_list _ (fun rest b s' => b.1 = none ∧ s' = ⟨hp, g, d, tk, os⟩ ∧ ∃ (vs ws : List Value) (c : Bool), rest = vs.zip ws ∧ vs.length + items2.size = ws.length + items.size ∧
      LexX .Lt A.in1 ⟨hp, g, d, tk, os⟩ (fun a b => decide (a < b)) vs ws c ∧ R (.ok (.ret (.bool c))) ⟨hp, g, d, tk, os⟩) _
    case turn =>
      rintro ⟨y, x⟩ rest b s' ⟨hb', rfl, vs, ws, c, hz, hlen, hx, hR⟩
      cases hx with
      | nil => rw [List.zip_nil_left] at hz; cases hz
      | nil' => rw [List.zip_nil_right] at hz; cases hz
      | eq he hx =>
        rw [List.zip_cons_cons] at hz
        injection hz with hyx hrest
        injection hyx with hy hx'
        subst hy hx'
        simp only [List.length_cons] at hlen
        refine wpAny_bind (he prog w _ _ ?_)
        wp_walk
        exact ⟨rfl, rfl, _, _, _, hrest, by omega, hx, hR⟩
      | ne he hri =>
        rw [List.zip_cons_cons] at hz
        injection hz with hyx hrest
        injection hyx with hy hx'
        subst hy hx'
        refine wpAny_bind (he prog w _ _ ?_)
        have hri := hri prog w
        wp_walk using hri
        exact ⟨_, rfl, by simpa using hR⟩
    case fin =>
      rintro ⟨b1, b2⟩ s' ⟨hb', rfl, vs, ws, c, hz, hlen, hx, hR⟩
      simp only at hb'
      subst hb'
      obtain ⟨rfl, ho⟩ := hx.fin hz.symm
      have e : decide (vs.length < ws.length) = decide (items.size < items2.size) := decide_eq_decide.mpr (by omega)
      rw [e] at hR
      wp_walk
      exact ⟨_, rfl, by simpa [Builtin.Tuple.tupleCompareSizes] using hR⟩
    case h =>
      exact ⟨rfl, rfl, items.toList, items2.toList, c0, rfl, by simp only [Array.length_toList]; omega, hq, h⟩
theorem rcX_lt {A : Around} {s : Shared} {l b : Addr} {items items2 : List Value} {c : Bool} (hl : IsTup s.heap l items.toArray) (hb : IsTup s.heap b items2.toArray)
    (hq : LexX .Lt A.in1 s (fun a b => decide (a < b)) items items2 c) (hu : A.units < cLine) : RcX .Lt A s (.ref l) (.ref b) c := by
  intro prog w E Q h
  obtain ⟨⟨cls, dd, data, sl⟩, ho, hc, n, hd⟩ := id hl
  obtain ⟨⟨cls2, dd2, data2, sl2⟩, ho2, hc2, n2, hd2⟩ := id hb
  simp only at hc hd hc2 hd2
  subst hc hd hc2 hd2
  exact richCompare_meets_room (op := .Lt) ⟨_, ho, rfl⟩ ⟨_, ho2, rfl⟩ PySem.F.slot_tuple_lt PySem.F.entry_tuple_lt (PySem.F.args_tuple_lt_2 _ _) (tuple_lt_X l b items.toArray items2.toArray n n2 dd dd2 sl sl2)
    ⟨ho, ho2, c, hq, show Value.bool c ≠ Value.notImplemented ∧ Q (.bool c) s from ⟨(fun x => by cases x), h⟩⟩ hu
section
variable {X : Cx} {pins : List (Addr × Obj)} {σ : L2.St} {H : Hp} {s : Shared} {S : Addr → Prop}
theorem lex_of {op : CmpOp} {f : Int → Int → Bool} {g : Nat → Nat → Bool} {K : PySem.W.Frag} {A : Around} : ∀ {ds es : List D} {xs ys : List V} {us ws : List Value}, Reps K S H ds xs → Reps K S H es ys → Vals xs us → Vals ys ws →
    (∀ d ∈ ds, ∀ e ∈ es, ∀ x y u w, Rep K S H d x → Rep K S H e y → RelV x u → RelV y w → EqAt A s u w (eqD d e) ∧ RcX op A s u w (cmpD f g d e)) → LexX op A s g us ws (cmpDs f g ds es)
  | [], es, xs, ys, us, ws, r, r', v, v', h => by
    simp only [Reps] at r; subst r; cases v
    have e : es.length = ws.length := by rw [r'.len, v'.length]
    show LexX op A s g [] ws (cmpDs f g [] es)
    have : cmpDs f g [] es = g 0 ws.length := by rw [← e]; cases es <;> simp only [cmpDs, List.length_nil]
    rw [this]
    exact .nil
  | d :: ds, [], xs, ys, us, ws, r, r', v, v', h => by
    simp only [Reps] at r'; subst r'; cases v'
    have e : (d :: ds).length = us.length := by rw [r.len, v.length]
    have : cmpDs f g (d :: ds) [] = g us.length 0 := by rw [← e]; simp only [cmpDs, List.length_nil]
    rw [this]
    exact .nil'
  | d :: ds, e :: es, xs, ys, us, ws, r, r', v, v', h => by
    simp only [Reps] at r r'
    obtain ⟨x, xs, rfl, rx, r⟩ := r
    obtain ⟨y, ys, rfl, ry, r'⟩ := r'
    cases v with
    | cons hx v =>
      cases v' with
      | cons hy v' =>
        obtain ⟨h1, h2⟩ := h d List.mem_cons_self e List.mem_cons_self x y _ _ rx ry hx hy
        simp only [cmpDs]
        cases hq : eqD d e with
        | true =>
          rw [if_pos rfl]
          rw [hq] at h1
          exact .eq h1 (lex_of r r' v v' fun d hd e he => h d (List.mem_cons_of_mem _ hd) e (List.mem_cons_of_mem _ he))
        | false =>
          rw [if_neg Bool.false_ne_true]
          rw [hq] at h1
          exact .ne h1 h2
theorem rcX_D (op : CmpOp) (f : Int → Int → Bool) (g : Nat → Nat → Bool) (hi : ∀ A s a t c u, RcX op A s (.int a t) (.int c u) (f a c))
    (ht : ∀ {A : Around} {s : Shared} {l b : Addr} {items items2 : List Value} {c : Bool}, IsTup s.heap l items.toArray → IsTup s.heap b items2.toArray → LexX op A.in1 s g items items2 c → A.units < cLine → RcX op A s (.ref l) (.ref b) c)
    (I : Inv X pins σ H s) : ∀ (n : Nat) (x y : D) (v v' : V) (u u' : Value) (A : Around), Ord n x → Ord n y → A.units + 2 * n < cLine → Rep X.K S H x v → Rep X.K S H y v' → RelV v u → RelV v' u' → RcX op A s u u' (cmpD f g x y) := by
  intro n
  induction n with
  | zero =>
    intro x y v v' u u' A hx hy hu rx ry ru ru'
    cases hx with
    | int i =>
      cases hy with
      | int j =>
        cases rep_int rx
        cases rep_int ry
        obtain ⟨t, rfl⟩ := ru
        obtain ⟨t', rfl⟩ := ru'
        simp only [cmpD]
        exact hi A s i t j t'
  | succ n ih =>
    intro x y v v' u u' A hx hy hu rx ry ru ru'
    cases hx with
    | tup hx =>
      cases hy with
      | tup hy =>
        obtain ⟨a, xs, rfl, q, rs⟩ := rep_tup rx
        obtain ⟨b, ys, rfl, q', rs'⟩ := rep_tup ry
        cases (show u = Value.ref a from ru)
        cases (show u' = Value.ref b from ru')
        obtain ⟨its, r1, p1, _⟩ := I.tuple q
        obtain ⟨its', r1', p1', _⟩ := I.tuple q'
        have hin : A.in1.units + 2 * n < cLine := by
          have : A.in1.units ≤ A.units + 1 := by first | exact Nat.le_refl _ | (simp [Around.in1]; done) | (show A.units + 1 ≤ _; omega)
          omega
        simp only [cmpD]
        refine ht p1 p1' (lex_of rs rs' r1 r1' fun d hd e he x y u w rx ry hx' hy' => ?_) (by omega)
        exact ⟨eqAt_D I n d e x y u w A.in1 (hx d hd).dep (by omega) rx ry hx' hy', ih d e x y u w A.in1 (hx d hd) (hy e he) hin rx ry hx' hy'⟩
theorem rcLtD (I : Inv X pins σ H s) {n : Nat} {x y : D} {v v' : V} {u u' : Value} {A : Around} (hx : Ord n x) (hy : Ord n y) (hu : A.units + 2 * n < cLine) (rx : Rep X.K S H x v) (ry : Rep X.K S H y v') (ru : RelV v u) (ru' : RelV v' u') : RcX .Lt A s u u' (ltD x y) :=
  rcX_D .Lt _ _ (fun A s a t c u prog w E Q h => HT.rcLt_int A s a t c u prog w E Q h) rcX_lt I n x y v v' u u' A hx hy hu rx ry ru ru'
end
end
section
variable {X : Cx}
end
end D3

set_option Elab.async false
set_option linter.all false
set_option maxRecDepth 100000
set_option maxHeartbeats 4000000
namespace D3
open PySem PySem.Spec PyProof.Rows L2
section
open PySem.W
section
variable {prog : Program} {w : World} {A : Around} {E : Value → Shared → Prop} {s : Shared} {vs : List Value}
end
variable {X : Cx} {pins : List (Addr × Obj)} {σ : L2.St} {H : Hp} {s : Shared} {S : Addr → Prop}
theorem vals_pick {ys : List V} {its : List Value} (v : Vals ys its) : ∀ is : List Nat, Vals (is.filterMap (ys[·]?)) (is.filterMap (its[·]?))
  | [] => .nil
  | i :: is => by
    have hl := v.length
    by_cases hi : i < its.length
    · obtain ⟨y, e, r⟩ := vals_get v hi
      have e2 : its[i]? = some (its.getD i Value.none) := by rw [List.getD_eq_getElem?_getD, List.getElem?_eq_getElem hi]; rfl
      rw [List.filterMap_cons_some e, List.filterMap_cons_some e2]
      exact .cons r (vals_pick v is)
    · rw [List.filterMap_cons_none (List.getElem?_eq_none (by omega)), List.filterMap_cons_none (List.getElem?_eq_none (by omega))]
      exact vals_pick v is
theorem pick_map {its : List Value} : ∀ is : List Nat, (∀ i ∈ is, i < its.length) → is.map (fun i => its.getD i Value.none) = is.filterMap (its[·]?)
  | [], _ => rfl
  | i :: is, h => by
    have hi := h i List.mem_cons_self
    have e2 : its[i]? = some (its.getD i Value.none) := by rw [List.getD_eq_getElem?_getD, List.getElem?_eq_getElem hi]; rfl
    rw [List.map_cons, List.filterMap_cons_some e2, pick_map is fun j hj => h j (List.mem_cons_of_mem _ hj)]
end
end D3

set_option Elab.async false
set_option linter.all false
set_option maxRecDepth 100000
set_option maxHeartbeats 4000000
namespace D3
open PySem PySem.Spec PyProof.Rows
section
variable {prog : Program} {w : World} {K : Type} [DecidableEq K] (k1 : HeapKind prog w K)
inductive ItsH (h : Heap) : List K → List Value → Prop
  | nil : ItsH h [] []
  | cons {k : K} {b : Addr} {ks : List K} {vs : List Value} : k1.is h k b → ItsH h ks vs → ItsH h (k :: ks) (.ref b :: vs)
noncomputable def IsTupH (h : Heap) (ks : List K) (a : Addr) : Prop := ∃ o items n, h.get? a = some o ∧ o.cls = .type "tuple" ∧ o.data = .seq items n ∧ ItsH k1 h ks items.toList
variable {k1}
theorem ItsH.inj {h : Heap} {x y : List K} {vs : List Value} (hx : ItsH k1 h x vs) (hy : ItsH k1 h y vs) : x = y := by
  induction hx generalizing y with
  | nil => cases hy; rfl
  | cons h1 _ ih =>
    cases hy with
    | cons h2 t2 => rw [k1.inj h1 h2, ih t2]
theorem ItsH.keeps {h h' : Heap} {ks : List K} {vs : List Value} {d : Addr} {o : Obj} {es ep} (x : ItsH k1 h ks vs) (ho : h.get? d = some o) (hd : o.data = .dict es ep) (hs : Heap.SameBut d h h') : ItsH k1 h' ks vs := by
  induction x with
  | nil => exact .nil
  | cons h1 _ ih => exact .cons (k1.keeps h1 ho hd hs) ih
theorem IsTupH.typeIs {s : Shared} {ks : List K} {a : Addr} (x : IsTupH k1 s.heap ks a) : s.TypeIs (.ref a) "tuple" := let ⟨o, _, _, ho, hc, _⟩ := x; ⟨o, ho, hc⟩
theorem IsTupH.inj {h : Heap} {a : Addr} {x y : List K} (hx : IsTupH k1 h x a) (hy : IsTupH k1 h y a) : x = y := by
  obtain ⟨o, items, n, ho, _, hd, hi⟩ := hx
  obtain ⟨o', items', n', ho', _, hd', hi'⟩ := hy
  cases (Option.some.inj (ho.symm.trans ho'))
  rw [hd] at hd'
  cases hd'
  exact hi.inj hi'
theorem IsTupH.keeps {h h' : Heap} {ks : List K} {a d : Addr} {o : Obj} {es ep} (x : IsTupH k1 h ks a) (ho : h.get? d = some o) (hd : o.data = .dict es ep) (hs : Heap.SameBut d h h') : IsTupH k1 h' ks a := by
  obtain ⟨o', items, n, ho', hc, hd', hi⟩ := x
  have hne : a ≠ d := fun z => by
    subst z
    cases (Option.some.inj (ho'.symm.trans ho))
    rw [hd] at hd'; cases hd'
  exact ⟨o', items, n, (hs.2 a hne).trans ho', hc, hd', hi.keeps ho hd hs⟩
noncomputable def hashH (k1 : HeapKind prog w K) (ks : List K) : Int := reduceHash (Builtin.Tuple.tupleHashOf (ks.map k1.hash))
noncomputable def drawsH (k1 : HeapKind prog w K) (ks : List K) : Nat := (ks.map k1.draws).sum + 1
variable {A : Around} {E : Value → Shared → Prop} {s : Shared}
theorem ItsH.toks {h : Heap} {ks : List K} {vs : List Value} (x : ItsH k1 h ks vs) : True := trivial
theorem hash_tupH {ks : List K} {a : Addr} {Q : Int → Shared → Prop} (hu : A.units < cLine) (hr : k1.room A.in1) (hk : IsTupH k1 s.heap ks a) (h : Q (hashH k1 ks) { s with toks := s.toks + drawsH k1 ks }) :
    wpAny (model prog w) A (pyHash (.ref a)) Q E s := by
  have hT := hk.typeIs
  obtain ⟨o, items, n, ho, _, hd, hi⟩ := hk
  unfold pyHash
  first | unfold pyHashByItsType | skip
  first | refine wpAny_bind (wpAny_cRoomFor_or (.inr hu) ?_) | skip
  refine wpAny_bind (wpAny_specialOf hT F.slot_tuple_hash.lookup ?_)
  show wpAny _ _ (if (some (Value.builtin "tuple.__hash__") == some Value.none) = true then _ else _) Q E s
  rw [if_neg (by rw [beq_builtin_none]; exact Bool.false_ne_true)]
  refine wpAny_bind (wpAny_specialOf hT F.slot_tuple_hash.lookup ?_)
  show wpAny _ _ (callSpecialIfBoundUnlessNone? (.ref a) "__hash__" _ >>= _) Q E s
  refine wpAny_bind (wpAny_callSpecialIfBoundUnlessNone?_slot hT F.slot_tuple_hash (wpAny_call_entry F.slot_tuple_hash hT F.entry_tuple_hash ?_ (F.args_tuple_hash_1 _)))
  show wpAny _ _ (Builtin.Tuple.tupleItemsOf (.ref a) >>= _) _ _ s
  refine wpAny_bind (wpAny_tupleItemsOf ho hd ?_)
  refine wpAny_bind ?_
  rw [← Array.forIn_toList]
  refine wpAny_forIn_list _
    (fun rest (b : Array Int) s' => ∃ done left, ks = done ++ left ∧ ItsH k1 s.heap left rest ∧ b.toList = done.map k1.hash ∧ s' = { s with toks := s.toks + (done.map k1.draws).sum })
    _ ?_ ?_ _ _ ⟨[], ks, rfl, hi, rfl, rfl⟩
  · rintro x rest b s' ⟨done, left, rfl, hl, hb, rfl⟩
    cases hl with
    | @cons k _ ks' _ h1 hl' =>
      refine wpAny_bind (k1.pyHash hr h1 ?_)
      have e : s.toks + (done.map k1.draws).sum + k1.draws k = s.toks + ((done ++ [k]).map k1.draws).sum := by simp [Nat.add_assoc]
      first
        | exact wpAny_pure ⟨done ++ [k], ks', by simp, hl', by simp [hb], by rw [e]⟩
        | exact wpAny_bind (wpAny_pure (wpAny_pure ⟨done ++ [k], ks', by simp, hl', by simp [hb], by rw [e]⟩))
  · rintro b s' ⟨done, left, rfl, hl, hb, rfl⟩
    cases hl
    rw [List.append_nil] at h
    show wpAny _ _ (retInt (Builtin.Tuple.tupleHashOf b.toList)) _ _ _
    rw [hb]
    refine wpAny_ret_mkInt ?_
    show wpAny _ _ (if (decide (-(2 : Int) ^ 63 ≤ Builtin.Tuple.tupleHashOf (done.map k1.hash)) && decide (Builtin.Tuple.tupleHashOf (done.map k1.hash) < 2 ^ 63)) = true then _ else _) Q E _
    unfold hashH reduceHash at h
    unfold drawsH at h
    by_cases hr : (decide (-(2 : Int) ^ 63 ≤ Builtin.Tuple.tupleHashOf (done.map k1.hash)) && decide (Builtin.Tuple.tupleHashOf (done.map k1.hash) < 2 ^ 63)) = true
    · rw [if_pos hr]
      rw [if_pos hr] at h
      exact wpAny_pure (by simpa [Nat.add_assoc] using h)
    · rw [if_neg hr]
      rw [if_neg hr] at h
      exact wpAny_bind (wpAny_rule (wpAny_pure (by simpa [Nat.add_assoc] using h)))
theorem eq_tupH_tree {x y : List K} {a b : Addr} {P : PySem.Fin → Shared → Prop} (hr : k1.room A) (hx : IsTupH k1 s.heap x a) (hy : IsTupH k1 s.heap y b) (h : P (.done (.ret (.bool (decide (x = y))))) s) :
    wpAny (model prog w) A (Builtin.«tuple.__eq__» ⟨[.ref a, .ref b], []⟩) P E s := by
  have hTb := hy.typeIs
  obtain ⟨oa, xs, na, hoa, _, hda, hia⟩ := hx
  obtain ⟨ob, ys, nb, hob, _, hdb, hib⟩ := hy
  show wpAny _ _ (isInstance (.ref b) (.type "tuple") >>= _) _ _ s
  refine wpAny_bind (wpAny_isInstance hTb isSubtype_tuple_tuple ?_)
  simp only [Bool.not_true, Bool.false_eq_true, if_false]
  refine wpAny_bind (wpAny_tupleItemsOf hoa hda ?_)
  refine wpAny_bind (wpAny_tupleItemsOf hob hdb ?_)
  refine wpAny_bind ?_
  refine wpAny_forIn_list _
    (fun rest r s' => r.1 = none ∧ s' = s ∧ ∃ x' y' xs' ys', rest = List.zip xs' ys' ∧ ItsH k1 s.heap x' xs' ∧ ItsH k1 s.heap y' ys' ∧ decide (x' = y') = decide (x = y) ∧ (xs'.length == ys'.length) = (xs.size == ys.size))
    _ ?_ ?_ _ _ ⟨rfl, rfl, x, y, xs.toList, ys.toList, rfl, hia, hib, rfl, by simp⟩
  · rintro ⟨u, v⟩ rest r s' ⟨hr', rfl, x', y', xs', ys', hz, hx', hy', hdec, hlen⟩
    cases hx' with
    | nil => simp at hz
    | @cons q1 b1 x'' xs'' h1 hx'' =>
      cases hy' with
      | nil => simp at hz
      | @cons q2 b2 y'' ys'' h2 hy'' =>
        simp only [List.zip_cons_cons, List.cons.injEq, Prod.mk.injEq] at hz
        obtain ⟨⟨rfl, rfl⟩, rfl⟩ := hz
        refine wpAny_bind (k1.eqBool (x := q1) (y := q2) hr h1 h2 ?_)
        by_cases hk : q1 = q2
        · subst hk
          rw [decide_eq_true rfl]
          simp only [Bool.not_true, Bool.false_eq_true, if_false]
          refine wpAny_pure ⟨rfl, rfl, x'', y'', xs'', ys'', rfl, hx'', hy'', ?_, by simpa using hlen⟩
          rw [← hdec]
          by_cases hxy : x'' = y''
          · simp [hxy]
          · simp [hxy]
        · rw [decide_eq_false hk]
          simp only [Bool.not_false, if_true]
          have hf : decide (x = y) = false := by rw [← hdec]; simp [hk]
          rw [hf] at h
          exact wpAny_bind (wpAny_pure (wpAny_pure (wpAny_pure h)))
  · rintro ⟨r1, r2⟩ s' ⟨hr', rfl, x', y', xs', ys', hz, hx', hy', hdec, hlen⟩
    simp only at hr'
    subst hr'
    refine wpAny_pure ?_
    have hfin : (xs.size == ys.size) = decide (x = y) := by
      rw [← hdec, ← hlen]
      cases hx' with
      | nil =>
        cases hy' with
        | nil => simp
        | cons _ _ => simp
      | cons _ _ =>
        cases hy' with
        | nil => simp
        | cons _ _ => simp at hz
    show P (.done (.ret (.bool (xs.size == ys.size)))) s'
    rw [hfin]; exact h
theorem eq_tupH {x y : List K} {a b : Addr} {Q : Bool → Shared → Prop} (hu : A.units < cLine) (hr : k1.room A.in1) (hx : IsTupH k1 s.heap x a) (hy : IsTupH k1 s.heap y b) (h : Q (decide (x = y)) s) :
    wpAny (model prog w) A (eqBool (.ref a) (.ref b)) Q E s := by
  unfold eqBool
  try with_reducible refine wpAny_holding ?_
  show wpAny _ _ (if (Value.ref a == Value.ref b) = true then _ else _) Q E s
  by_cases hab : (Value.ref a == Value.ref b) = true
  · rw [if_pos hab]
    have e : a = b := by have := eq_of_beq hab; injection this
    subst e
    obtain rfl := hx.inj hy
    exact wpAny_bind (wpAny_rule (wpAny_pure (by simpa using h)))
  · rw [if_neg hab]
    exact wpAny_bind (wpAny_richCompare_same_room (op := .Eq) hx.typeIs hy.typeIs F.slot_tuple_eq
      (wpAny_call_entry F.slot_tuple_eq hx.typeIs F.entry_tuple_eq (eq_tupH_tree hr hx hy ⟨_, rfl, (fun e => by cases e), wpAny_truthy_bool h⟩) (F.args_tuple_eq_2 _ _)) hu)
end
section
variable {prog : Program} {w : World} {A : Around} {E : Value → Shared → Prop} {s : Shared}
theorem quiet_tup1 {n : Nat} {ks : List Int} {a : Addr} {Q : Bool → Shared → Prop} (hk : IsTupleKey (intKind prog w) s.heap ks a) (h : Q true s) : wpAny (model prog w) A (eqIsQuiet (n + 1) (.ref a)) Q E s := by
  have hT := hk.typeIs
  obtain ⟨o, items, m, ho, _, hd, hi⟩ := hk
  unfold eqIsQuiet
  refine wpAny_bind (wpAny_specialOf hT F.slot_tuple_eq.lookup ?_)
  show wpAny _ _ (isInstance (.ref a) (.type "tuple") >>= _) _ _ s
  refine wpAny_bind (wpAny_isInstance hT isSubtype_tuple_tuple ?_)
  simp only [Bool.not_true, Bool.false_eq_true, if_false]
  refine wpAny_bind (wpAny_seqItems ho hd ?_)
  refine wpAny_bind ?_
  show wpAny _ _ (forIn items _ _) _ _ s
  rw [← Array.forIn_toList]
  refine wpAny_forIn_list _ (fun rest r s' => r.1 = none ∧ s' = s ∧ ∀ v ∈ rest, carriedByValue v = true) _ ?_ ?_ _ _ ⟨rfl, rfl, hi.byValue⟩
  · rintro v rest r s' ⟨hr, rfl, hall⟩
    rw [eqIsQuiet_byValue _ (hall v List.mem_cons_self)]
    refine wpAny_bind (wpAny_pure ?_)
    simp only [Bool.not_true, Bool.false_eq_true, if_false]
    exact wpAny_pure ⟨rfl, rfl, fun u hu' => hall u (List.mem_cons_of_mem _ hu')⟩
  · rintro ⟨r1, r2⟩ s' ⟨hr, rfl, _⟩
    simp only at hr
    subst hr
    exact wpAny_pure h
theorem quiet_tup2 {ks : List (List Int)} {a : Addr} {Q : Bool → Shared → Prop} (hk : IsTupH (tupleKind (intKind prog w)) s.heap ks a) (h : Q true s) : wpAny (model prog w) A (eqIsQuiet 8 (.ref a)) Q E s := by
  have hT := hk.typeIs
  obtain ⟨o, items, m, ho, _, hd, hi⟩ := hk
  unfold eqIsQuiet
  refine wpAny_bind (wpAny_specialOf hT F.slot_tuple_eq.lookup ?_)
  show wpAny _ _ (isInstance (.ref a) (.type "tuple") >>= _) _ _ s
  refine wpAny_bind (wpAny_isInstance hT isSubtype_tuple_tuple ?_)
  simp only [Bool.not_true, Bool.false_eq_true, if_false]
  refine wpAny_bind (wpAny_seqItems ho hd ?_)
  refine wpAny_bind ?_
  show wpAny _ _ (forIn items _ _) _ _ s
  rw [← Array.forIn_toList]
  refine wpAny_forIn_list _ (fun rest r s' => r.1 = none ∧ s' = s ∧ ∃ ks', ItsH (tupleKind (intKind prog w)) s.heap ks' rest) _ ?_ ?_ _ _ ⟨rfl, rfl, ks, hi⟩
  · rintro v rest r s' ⟨hr, rfl, ks', hall⟩
    cases hall with
    | cons h1 hl =>
      refine wpAny_bind (quiet_tup1 h1 ?_)
      simp only [Bool.not_true, Bool.false_eq_true, if_false]
      exact wpAny_pure ⟨rfl, rfl, _, hl⟩
  · rintro ⟨r1, r2⟩ s' ⟨hr, rfl, _⟩
    simp only at hr
    subst hr
    exact wpAny_pure h
end
noncomputable def tup2 (prog : Program) (w : World) : HeapKind prog w (List (List Int)) where
  is := IsTupH (tupleKind (intKind prog w))
  hash := hashH (tupleKind (intKind prog w))
  draws := drawsH (tupleKind (intKind prog w))
  room := fun A => A.units + 1 < cLine
  inj := fun hx hy => hx.inj hy
  keeps := fun x ho hd hs => x.keeps ho hd hs
  pyHash := fun hu hk h => hash_tupH (by omega) hu hk h
  eqBool := fun hu hx hy h => eq_tupH (by omega) hu hx hy h
  quiet := fun hk h => quiet_tup2 hk h
end D3

set_option Elab.async false
set_option linter.all false
set_option maxRecDepth 100000
set_option maxHeartbeats 4000000
namespace D3
open PySem PySem.Spec PyProof.Rows
noncomputable def DE (h : Heap) (d : Addr) (es : Array DictEntry) (ep : Nat) : Prop := ∃ o, h.get? d = some o ∧ o.ExactDict ∧ o.data = .dict es ep
theorem DE.at {h h' : Heap} {d es ep} (x : DE h d es ep) (e : ∀ o, h.get? d = some o → h'.get? d = some o) : DE h' d es ep := let ⟨o, ho, r⟩ := x; ⟨o, e _ ho, r⟩
theorem DE.typeIs {s : Shared} {d es ep} (x : DE s.heap d es ep) : s.TypeIs (.ref d) "dict" := let ⟨o, ho, hc, _⟩ := x; ⟨o, ho, hc.1⟩
section
variable {prog : Program} {w : World} {A : Around} {E : Value → Shared → Prop} {s : Shared}
theorem iterE {d : Addr} {es : Array DictEntry} {ep : Nat} {Q : Value → Shared → Prop} (hd : (d == sysModules) = false) (hm : DE s.heap d es ep)
    (hQ : Q (.ref s.heap.objs.size) { s with heap := s.heap.push { cls := .type "dict_keyiterator", data := .fields #[.ref d, .int 0 0, .int es.size 0, .int ep 0] } }) :
    wpAny (model prog w) A (pyIter (.ref d)) Q E s := by
  obtain ⟨o, ho, hc, hdat⟩ := id hm
  have hT : s.TypeIs (.ref d) "dict" := hm.typeIs
  refine wpAny_pyIter_slot hT F.slot_dict_iter (wpAny_call_entry F.slot_dict_iter hT F.entry_dict_iter ?_ (F.args_dict_iter_1 _))
  unfold Builtin.«dict.__iter__»
  refine wpAny_bind ?_
  unfold Builtin.Dict.dictSlotNone
  refine wpAny_bind (wpAny_notOrdered_dict hT ?_)
  show wpAny _ _ (pure (Value.ref d)) _ _ s
  refine wpAny_pure ?_
  show wpAny _ _ (Builtin.Dict.showsAll d >>= _) _ _ s
  unfold Builtin.Dict.showsAll
  rw [if_neg (by rw [hd]; exact Bool.false_ne_true)]
  refine wpAny_bind (wpAny_pure ?_)
  refine wpAny_bind (wpAny_dictEntries ho hdat ?_)
  refine wpAny_bind (wpAny_dictEpoch ho hdat ?_)
  refine wpAny_bind (wpAny_newObj_type (wpAny_pure ⟨_, rfl, "dict_keyiterator", _, ⟨_, Heap.get?_push_size _ rfl, rfl⟩, F.slot_dict_keyiterator_next.lookup, ?_⟩))
  simpa [rawInt] using hQ
theorem nextE {it d : Addr} {i ep : Nat} {es : Array DictEntry} {Q : Option Value → Shared → Prop} (hit : s.heap.IsKeyIter it d i es.size ep)
    (hm : DE s.heap d es ep) (hlt' : i < es.size)
    (hQ : ∀ h', h'.IsKeyIter it d (i + 1) es.size ep → Heap.SameBut it s.heap h' → Q (some es[i].key) { s with heap := h' }) :
    wpAny (model prog w) A (pyNext (.ref it)) Q E s := by
  obtain ⟨o, ho, hc, hd⟩ := id hit
  obtain ⟨od, hod, hcd, hdd⟩ := id hm
  unfold pyNext
  refine wpAny_bind (wpAny_attempt (wpAny_callSpecial?_slot (name := Str.ofString "__next__") hit.typeIs F.slot_dict_keyiterator_next
    (wpAny_call_entry F.slot_dict_keyiterator_next hit.typeIs F.entry_dict_keyiterator_next ?_ (F.args_dict_keyiterator_next_1 _))))
  refine wpAny_bind (wpAny_pure ?_)
  refine wpAny_bind ?_
  refine wpAny_bind ?_
  first | refine wpAny_bind (wpAny_typeNameOfWhole_keyiter hit.typeIs (wpAny_pure ?_)) | refine wpAny_bind (wpAny_typeNameOf_keyiter hit.typeIs (wpAny_pure ?_))
  refine wpAny_bind (wpAny_fieldsOf ho hd ?_)
  have hown : Builtin.Dict_items.ownsTuple "dict_keyiterator" = false := by decide
  simp only [hown, Bool.false_eq_true, if_false]
  show wpAny _ _ (if (Value.ref d == Value.none) = true then _ else _) _ _ s
  rw [if_neg (show ¬ ((Value.ref d == Value.none) = true) from Bool.false_ne_true)]
  refine wpAny_bind (wpAny_pure ?_)
  refine wpAny_bind (wpAny_dictEntries hod hdd ?_)
  rw [if_neg (by simp)]
  refine wpAny_bind (wpAny_pure ?_)
  refine wpAny_bind (wpAny_dictEpoch hod hdd ?_)
  rw [if_neg (by simp)]
  refine wpAny_pure ?_
  simp only [show ¬ ((i : Int) < 0) from by omega, if_false, Int.toNat_natCast, Array.getElem?_eq_getElem hlt']
  refine wpAny_bind ?_
  first | refine wpAny_bind (wpAny_typeNameOfWhole_keyiter hit.typeIs (wpAny_pure ?_)) | refine wpAny_bind (wpAny_typeNameOf_keyiter hit.typeIs (wpAny_pure ?_))
  refine wpAny_bind (wpAny_isOneOf_keyiter hit.typeIs ?_)
  show wpAny _ _ (setField (.ref it) 1 (rawInt ((i : Int) + 1)) >>= _) _ _ s
  refine wpAny_bind (wpAny_setField ho hd (by simp) ?_)
  have hit' : (s.heap.update it (Obj.mapFields (·.setIfInBounds 1 (rawInt ((i : Int) + 1))))).IsKeyIter it d (i + 1) es.size ep :=
    ⟨_, Heap.get?_update_self _ ho (Obj.isFreed_of_fields (Obj.data_mapFields hd _)), (Obj.cls_mapFields ..).trans hc, by rw [Obj.data_mapFields hd]; simp [rawInt]⟩
  refine wpAny_bind (wpAny_holding ?_)
  refine wpAny_bind (wpAny_isOneOf_keyiter (s := { s with heap := s.heap.update it (Obj.mapFields (·.setIfInBounds 1 (rawInt ((i : Int) + 1)))) }) hit'.typeIs ?_)
  show wpAny _ _ (pure es[i].key) _ _ _
  exact wpAny_pure (wpAny_pure ⟨_, rfl, wpAny_pure (hQ _ hit' (Heap.SameBut.update ..))⟩)
theorem endE {it d : Addr} {i ep : Nat} {es : Array DictEntry} {Q : Option Value → Shared → Prop} (hh : A.handled = none) (hit : s.heap.IsKeyIter it d i es.size ep)
    (hm : DE s.heap d es ep) (hge : es.size ≤ i)
    (hQ : ∀ h', Heap.ExtBut it s.heap h' → Q none { s with heap := h' }) : wpAny (model prog w) A (pyNext (.ref it)) Q E s := by
  obtain ⟨o, ho, hc, hd⟩ := id hit
  obtain ⟨od, hod, hcd, hdd⟩ := id hm
  unfold pyNext
  refine wpAny_bind (wpAny_attempt (wpAny_callSpecial?_slot (name := Str.ofString "__next__") hit.typeIs F.slot_dict_keyiterator_next
    (wpAny_call_entry F.slot_dict_keyiterator_next hit.typeIs F.entry_dict_keyiterator_next ?_ (F.args_dict_keyiterator_next_1 _))))
  refine wpAny_bind (wpAny_pure ?_)
  refine wpAny_bind ?_
  refine wpAny_bind ?_
  first | refine wpAny_bind (wpAny_typeNameOfWhole_keyiter hit.typeIs (wpAny_pure ?_)) | refine wpAny_bind (wpAny_typeNameOf_keyiter hit.typeIs (wpAny_pure ?_))
  refine wpAny_bind (wpAny_fieldsOf ho hd ?_)
  have hown : Builtin.Dict_items.ownsTuple "dict_keyiterator" = false := by decide
  simp only [hown, Bool.false_eq_true, if_false]
  show wpAny _ _ (if (Value.ref d == Value.none) = true then _ else _) _ _ s
  rw [if_neg (show ¬ ((Value.ref d == Value.none) = true) from Bool.false_ne_true)]
  refine wpAny_bind (wpAny_pure ?_)
  refine wpAny_bind (wpAny_dictEntries hod hdd ?_)
  rw [if_neg (by simp)]
  refine wpAny_bind (wpAny_pure ?_)
  refine wpAny_bind (wpAny_dictEpoch hod hdd ?_)
  rw [if_neg (by simp)]
  refine wpAny_pure ?_
  simp only [show ¬ ((i : Int) < 0) from by omega, if_false, Int.toNat_natCast, Array.getElem?_eq_none hge]
  refine wpAny_bind ?_
  first | refine wpAny_bind (wpAny_typeNameOfWhole_keyiter hit.typeIs (wpAny_pure ?_)) | refine wpAny_bind (wpAny_typeNameOf_keyiter hit.typeIs (wpAny_pure ?_))
  show wpAny _ _ (setField (.ref it) 0 .none >>= _) _ _ s
  refine wpAny_bind (wpAny_setField ho hd (by simp) ?_)
  show wpAny _ _ (newExc (.type "StopIteration") [] >>= _) _ _ _
  refine wpAny_bind ?_
  simp only [newExc, newTuple]
  refine wpAny_bind (wpAny_newObj_type ?_ (by size_fits))
  refine wpAny_bind (m := firstArgMember _ _) (wpAny_of_eq (a := Value.none) (by first | rfl | (simp only [firstArgMember]; rfl)) ?_)
  refine wpAny_newObj_type ?_ (by size_fits)
  simp only [raiseNew]
  refine wpAny_bind (wpAny_handled ?_)
  rw [show A.in1.handled = none from hh]
  refine wpAny_bind (wpAny_pure (wpAny_throw ?_))
  refine wpAny_bind (wpAny_isInstance (T := "StopIteration") (b := true) ⟨_, Heap.get?_push_size _ rfl, rfl⟩ isSubtype_stop ?_)
  exact wpAny_pure (hQ _ (((Heap.SameBut.update ..).extBut.push _).push _))
end
theorem walkE {prog : Program} {w : World} {A : Around} (hh : A.handled = none) (I d : Addr) (hne : d ≠ I) (es : Array DictEntry) (ep : Nat) :
    Walks prog w A I [I, d] [I] es.size (fun i v => ∃ e, es[i]? = some e ∧ v = e.key) (fun i h => h.IsKeyIter I d i es.size ep ∧ DE h d es ep) where
  sub := fun b hb => by simp at hb; simp [hb]
  frame := fun _ _ _ st hk => ⟨st.1.at fun o e => hk I (by simp) o e, st.2.at fun o e => hk d (by simp) o e⟩
  item := fun i s Q E hi st hQ => by
    refine nextE st.1 st.2 hi fun h' hit' hs' => ?_
    exact hQ _ h' s.toks ⟨es[i], Array.getElem?_eq_getElem hi, rfl⟩ ⟨hit', st.2.at fun o e => (hs'.2 d hne).trans e⟩ fun b o hb e => hs'.extBut b o (fun h => hb (by simp [h])) e
  done := fun s Q E st hQ => endE hh st.1 st.2 (Nat.le_refl _) fun h' he' => hQ h' s.toks fun b o hb e => he' b o (fun h => hb (by simp [h])) e
  self := fun _ _ _ _ st hQ => wpAny_pyIter_keyiter st.1 hQ
section
open PySem.W
theorem srcE {prog : Program} {w : World} {d : Addr} {es : Array DictEntry} {ep : Nat} (lo : (d == sysModules) = false) : KdlSrc prog w "dict" d d es.size (fun i v => ∃ e, es[i]? = some e ∧ v = e.key) (fun h => DE h d es ep) where
  type := fun _ hm => hm.typeIs
  there := fun _ hm => ⟨let ⟨_, ho, _⟩ := hm; Heap.lt_size ho, let ⟨_, ho, _⟩ := hm; Heap.lt_size ho⟩
  keep := fun _ _ hm hk => hm.at fun o e => hk d (.inl rfl) o e
  notList := by decide
  notTuple := by decide
  hint := fun _ _ _ _ hm hq => kdl_hint_dict hm.typeIs hq
  iter := fun _ s hh hm => ⟨_, _, (fun _ _ hq => iterE lo hm hq), walkE hh _ d (Nat.ne_of_lt (let ⟨_, ho, _⟩ := hm; Heap.lt_size ho)) es ep, ⟨⟨_, Heap.get?_push_size _ rfl, rfl, rfl⟩, hm.at fun o e => Heap.get?_push_of_some _ e⟩⟩
section
variable {prog : Program} {w : World} {A : Around} {E : Value → Shared → Prop} {s : Shared} {vs : List Value}
theorem srt_few {a : Addr} {n : Nat} {P : PySem.Fin → Shared → Prop} (ho : s.heap.get? a = some (seqObj "list" vs.toArray n)) (h2 : vs.length < 2)
    (hP : ∀ c h', (∀ b o, b ≠ a → s.heap.get? b = some o → h'.get? b = some o) → h'.get? a = some (seqObj "list" vs.toArray c) → P (.done (.ret .none)) { s with heap := h' }) :
    wpAny (model prog w) A (Builtin.«list.sort» ⟨[.ref a], []⟩) P E s := by
  obtain ⟨e1, ho1⟩ : ∃ e1, (s.heap.update a (Obj.mapSeq fun _ => (#[] : Array Value))).get? a = some (seqObj "list" #[] e1) := ⟨_, get?_update_seq ho fun _ => #[]⟩
  have keep3 : ∀ b o, b ≠ a → s.heap.get? b = some o → (((s.heap.update a (Obj.mapSeq fun _ => (#[] : Array Value))).push (seqObj "tuple" vs.toArray 0)).push (seqObj "list" #[] 0)).get? b = some o := fun b o hb q =>
    Heap.get?_push_of_some _ (Heap.get?_push_of_some _ (by rw [Heap.get?_update_ne _ _ _ _ hb]; exact q))
  have at3 : (((s.heap.update a (Obj.mapSeq fun _ => (#[] : Array Value))).push (seqObj "tuple" vs.toArray 0)).push (seqObj "list" #[] 0)).get? a = some (seqObj "list" #[] e1) := Heap.get?_push_of_some _ (Heap.get?_push_of_some _ ho1)
  rw [list_sort_plain]
  refine wpAny_bind (listItems_at ho rfl ?_)
  refine wpAny_bind (listUpdate_at ho rfl ?_ (by rw [List.size_toArray, sizeLine_eq]; omega) (Nat.zero_le _))
  refine wpAny_bind (seqEpoch_at ho1 rfl ?_)
  refine wpAny_bind (wpAny_newTuple ?_ (by show vs.length ≤ _; rw [sizeLine_eq]; omega))
  refine wpAny_bind (wpAny_newList ?_ (Nat.zero_le _))
  refine wpAny_holding ?_
  show wpAny (model prog w) A _ P E { s with heap := ((s.heap.update a (Obj.mapSeq fun _ => (#[] : Array Value))).push (seqObj "tuple" vs.toArray 0)).push (seqObj "list" #[] 0) }
  dsimp only
  have hn2 : vs.toArray.size < 2 := by rw [List.size_toArray]; omega
  rw [if_pos hn2, if_pos hn2]
  generalize hh : ((s.heap.update a (Obj.mapSeq fun _ => (#[] : Array Value))).push (seqObj "tuple" vs.toArray 0)).push (seqObj "list" #[] 0) = h3 at *
  refine wpAny_bind (wpAny_pure ?_)
  refine wpAny_bind (wpAny_pure ?_)
  dsimp only
  have hz : (arrOf (SortSt.mk' general' (vs.toArray.zip vs.toArray) #[] 7 none)).map (·.2) = vs.toArray := by
    show ((vs.toArray.zip vs.toArray).map (·.2)) = vs.toArray
    apply Array.toList_inj.mp
    simp [List.map_snd_zip]
  rw [hz]
  obtain ⟨c2, hc2⟩ : ∃ c2, (h3.update a (Obj.mapSeq fun _ => vs.toArray)).get? a = some (seqObj "list" vs.toArray c2) := ⟨_, get?_update_seq at3 fun _ => vs.toArray⟩
  refine wpAny_bind (seqEpoch_at at3 rfl ?_)
  refine wpAny_bind (listUpdate_at at3 rfl ?_ (Nat.zero_le _) (by rw [List.size_toArray, sizeLine_eq]; omega))
  simp only [bne_self_eq_false, Bool.false_eq_true, if_false]
  exact wpAny_pure (hP c2 _ (fun b o hb q => by rw [Heap.get?_update_ne _ _ _ _ hb]; exact keep3 b o hb q) hc2)
theorem collectE {d : Addr} {es : Array DictEntry} {ep : Nat} {R : List Value → Shared → Prop} (lo : (d == sysModules) = false) (hh : A.handled = none) (hok : DE s.heap d es ep) (hn : es.size ≤ sizeLine)
    (h : ∀ (h' : Heap) (tk : Nat) (acc : Array Value), (∀ b o, s.heap.get? b = some o → h'.get? b = some o) → s.heap.objs.size < h'.objs.size → ItemsOf (fun i v => ∃ e, es[i]? = some e ∧ v = e.key) acc es.size → R acc.toList { s with heap := h', toks := tk }) :
    wpAny (model prog w) A (collect (.ref d)) R E s := by
  have K := srcE (prog := prog) (w := w) (es := es) (ep := ep) lo
  have hlt := K.there _ hok
  unfold collect
  refine wpAny_bind (wpAny_runValue (codeAny_builtin entry_proto_collect' ?_))
  rw [Around.under_plainId PySem.F.plain_proto_collect _]
  show wpAny _ A.in1 (newList [] >>= fun l => again (.builtin "list.__iadd__" ⟨[l, .ref d], []⟩)) _ _ s
  refine wpAny_bind (wpAny_newObj_type ?_)
  refine wpAny_pure ⟨plainId_quiet PySem.F.plain_list_iadd _, codeAny_builtin entry_list_iadd' ?_⟩
  rw [Around.under_plainId PySem.F.plain_list_iadd _]
  have hS₁ : (s.heap.push { cls := .type "list", data := .seq ([] : List Value).toArray }).get? s.heap.objs.size = some { cls := .type "list", data := .seq #[] } := Heap.get?_push_size _ rfl
  show wpAny _ A.in1 (Builtin.List.listExtendWith (.ref s.heap.objs.size) (.ref d) (.ref s.heap.objs.size)) _ _ _
  have key := kdl_extend (A := A) (s := { s with heap := s.heap.push { cls := .type "list", data := .seq ([] : List Value).toArray } })
    (R := fun (q : Result) (s' : Shared) => ∃ (h' : Heap) (tk : Nat) (acc' : Array Value) (c' : Nat), q = .ok (.ret (.ref s.heap.objs.size)) ∧ s' = { s with heap := h', toks := tk } ∧
      (∀ b o, s.heap.get? b = some o → h'.get? b = some o) ∧ h'.get? s.heap.objs.size = some { cls := .type "list", dict := none, data := .seq acc' c', slots := #[] } ∧ ItemsOf (fun i v => ∃ e, es[i]? = some e ∧ v = e.key) acc' es.size)
    K hh (K.keep _ _ hok fun b _ o e => Heap.get?_push_of_some _ e) s.heap.objs.size (Nat.ne_of_gt hlt.1) (Nat.ne_of_gt hlt.2) (.ref s.heap.objs.size) 0 hS₁
    (fun h' tk acc' c' hk hS' hacc => ⟨h', tk, acc', c', rfl, rfl, fun b o e => hk b o (Nat.ne_of_lt (Heap.lt_size e)) (Heap.get?_push_of_some _ e), hS', hacc⟩) hn
  refine wpAny_mono key (fun fin s' x => ?_) fun e s' x => ?_
  · cases fin with
    | done f =>
      obtain ⟨h', tk, acc', c', e, rfl, hk, hS', hacc⟩ := x
      cases e
      show wpAny _ A (load s.heap.objs.size >>= _) _ _ _
      refine wpAny_bind (wpAny_load hS' ?_)
      exact wpAny_pure (h h' tk acc' hk (Heap.lt_size hS') hacc)
    | again c₁ =>
      refine ⟨x.1, codeAny_mono x.2 fun q s₂ y => ?_⟩
      obtain ⟨h', tk, acc', c', rfl, rfl, hk, hS', hacc⟩ := y
      show wpAny _ A (load s.heap.objs.size >>= _) _ _ _
      refine wpAny_bind (wpAny_load hS' ?_)
      exact wpAny_pure (h h' tk acc' hk (Heap.lt_size hS') hacc)
  · obtain ⟨_, _, _, _, e', _⟩ := x
    cases e'
end
end
end D3

set_option Elab.async false
set_option linter.all false
set_option maxRecDepth 100000
set_option maxHeartbeats 4000000
namespace D3
open PySem PySem.Spec PyProof.Rows L2
section
variable {K : PySem.W.Frag} {B : Bs} {S : Addr → Prop} {H : Hp} {σ : L2.St} {ρ : Fr3} {a : Addr} {ks ds : List D} {o : HO}
theorem DctAt.kind (h : DctAt K S H a ks ds) : (∃ kvs, H a = some (.dK kvs)) ∨ ∃ φ, H a = some (.ext φ) := by
  rcases h with ⟨_, _, _, _, _, h, _⟩ | ⟨_, _, _, _, _, _, _, _, _, h, _⟩
  · exact .inl ⟨_, h⟩
  · exact .inr ⟨_, h⟩
theorem turn_d {o' : HO} (hs : S a) (h : DctAt K S H a ks ds) : (∀ b zs, SqT K H b zs → SqT K (upd H a o') b zs) ∧ (∀ b zs, LR K S H b zs → LR K S (upd H a o') b zs) := by
  have ne : ∀ {b : Addr} {u : HO}, H b = some u → (∀ kvs, u ≠ .dK kvs) → (∀ φ, u ≠ .ext φ) → b ≠ a := fun {b u} e n1 n2 z => by
    rw [z] at e
    rcases h.kind with ⟨_, k⟩ | ⟨_, k⟩ <;> rw [k] at e <;> cases e
    · exact n1 _ rfl
    · exact n2 _ rfl
  refine ⟨fun b zs q => ?_, fun b zs q => ?_⟩
  · rcases q with (q | ⟨u, q⟩) | q
    · exact .inl (.inl (by rw [upd_ne (ne q (fun _ z => by cases z) (fun _ z => by cases z))]; exact q))
    · exact .inl (.inr ⟨u, by rw [upd_ne (ne q (fun _ z => by cases z) (fun _ z => by cases z))]; exact q⟩)
    · exact .inr q
  · rcases q with ⟨n, q⟩ | q
    · have hb : b ≠ a := fun z => n (z ▸ hs)
      refine .inl ⟨n, ?_⟩
      rcases q with q | ⟨u, q⟩
      · exact .inl (by rw [upd_ne hb]; exact q)
      · exact .inr ⟨u, by rw [upd_ne hb]; exact q⟩
    · exact .inr q
theorem ER.growD {o' : HO} (er : ER K B S H σ ρ) (hs : S a) (h0 : B.H0 a = none) (hd : DctAt K S H a ks ds) (hno : ∀ (i : Nat) ks ds, ρ[i]? = some (.dct ks ds) → σ[i]? ≠ some (some (.ref a))) : ER K B S (upd H a o') σ ρ := by
  obtain ⟨hT, hL⟩ := turn_d (o' := o') hs hd
  have mv : ∀ {c : D} {w : V}, Rep K S H c w → Rep K S (upd H a o') c w := fun {c w} q => Rep.map hT hL c w q
  have mvs : ∀ {c : List D} {w : List V}, Reps K S H c w → Reps K S (upd H a o') c w := fun {c w} q => Reps.map hT hL c w q
  exact {
    len := er.len
    same := fun b o e => by rw [upd_ne (ne_of_none e h0)]; exact er.same b o e
    sub := er.sub
    ok0 := er.ok0
    ok := fun b h => by
      by_cases hb : b = a
      · subst hb; exact ⟨_, upd_same⟩
      · obtain ⟨o, e⟩ := er.ok b h
        exact ⟨o, by rw [upd_ne hb]; exact e⟩
    val := fun j c q => let ⟨w, e, r'⟩ := er.val j c q; ⟨w, e, mv r'⟩
    own := fun j c q => by
      obtain ⟨b, zs, e, hsb, hz, hlb, r'⟩ := er.own j c q
      exact ⟨b, zs, e, hsb, hz, by rw [upd_ne (hd.ne hlb).symm]; exact hlb, mvs r'⟩
    uq := er.uq
    dct := fun j ks ds q => by
      obtain ⟨b, e, hsb, hz, r'⟩ := er.dct j ks ds q
      have hb : b ≠ a := fun z => hno j ks ds q (z ▸ e)
      exact ⟨b, e, hsb, hz, r'.map mvs (upd_ne hb)⟩
    dq := er.dq
    gh := fun q hq => mv (er.gh q hq) }
theorem ER.setD {i : Nat} (er : ER K B S H σ ρ) (hs : S a) (h0 : B.H0 a = none) (hd : DctAt K S H a ks ds) (hno : ∀ (j : Nat) ks ds, j ≠ i → ρ[j]? = some (.dct ks ds) → σ[j]? ≠ some (some (.ref a))) : ER K B S H (σ.set i (some (.ref a))) (ρ.set i (.dct ks ds)) := by
  have g : ∀ {j : Nat} {x : Sl}, (∀ ks ds, x ≠ .dct ks ds) → (ρ.set i (.dct ks ds))[j]? = some x → i ≠ j ∧ ρ[j]? = some x := fun {j x} hx e => by
    by_cases hij : i = j
    · subst hij
      rw [List.getElem?_set] at e
      split at e
      · split at e
        · cases e; exact absurd rfl (hx _ _)
        · cases e
      · rename_i z; exact absurd rfl z
    · rw [List.getElem?_set_ne hij] at e
      exact ⟨hij, e⟩
  have gd : ∀ {j : Nat} {ks' ds' : List D}, (ρ.set i (.dct ks ds))[j]? = some (.dct ks' ds') → (i = j ∧ i < ρ.length ∧ ks' = ks ∧ ds' = ds) ∨ (i ≠ j ∧ ρ[j]? = some (.dct ks' ds')) := fun {j ks' ds'} e => by
    by_cases hij : i = j
    · subst hij
      rw [List.getElem?_set] at e
      split at e
      · split at e
        · rename_i hl; cases e; exact .inl ⟨rfl, hl, rfl, rfl⟩
        · cases e
      · rename_i z; exact absurd rfl z
    · rw [List.getElem?_set_ne hij] at e
      exact .inr ⟨hij, e⟩
  exact {
    len := by rw [List.length_set, List.length_set]; exact er.len
    same := er.same
    sub := er.sub
    ok0 := er.ok0
    ok := er.ok
    val := fun j c q => by
      obtain ⟨h, q⟩ := g (fun _ _ z => by cases z) q
      rw [List.getElem?_set_ne h]; exact er.val j c q
    own := fun j c q => by
      obtain ⟨h, q⟩ := g (fun _ _ z => by cases z) q
      rw [List.getElem?_set_ne h]; exact er.own j c q
    uq := fun j k b c c' q1 q2 e1 e2 => by
      obtain ⟨h1, q1⟩ := g (fun _ _ z => by cases z) q1
      obtain ⟨h2, q2⟩ := g (fun _ _ z => by cases z) q2
      rw [List.getElem?_set_ne h1] at e1
      rw [List.getElem?_set_ne h2] at e2
      exact er.uq j k b c c' q1 q2 e1 e2
    dct := fun j ks' ds' q => by
      rcases gd q with ⟨rfl, hl, rfl, rfl⟩ | ⟨h, q⟩
      · exact ⟨a, by rw [List.getElem?_set_self (by rw [er.len]; exact hl)], hs, h0, hd⟩
      · rw [List.getElem?_set_ne h]; exact er.dct j ks' ds' q
    dq := fun j k b ks1 ds1 ks2 ds2 q1 q2 e1 e2 => by
      rcases gd q1 with ⟨rfl, hl, _, _⟩ | ⟨h1, q1⟩
      · rw [List.getElem?_set_self (by rw [er.len]; exact hl)] at e1
        cases e1
        rcases gd q2 with ⟨rfl, _⟩ | ⟨h2, q2⟩
        · rfl
        · rw [List.getElem?_set_ne h2] at e2
          exact absurd e2 (hno k _ _ (Ne.symm h2) q2)
      · rcases gd q2 with ⟨rfl, hl, _, _⟩ | ⟨h2, q2⟩
        · rw [List.getElem?_set_self (by rw [er.len]; exact hl)] at e2
          cases e2
          rw [List.getElem?_set_ne h1] at e1
          exact absurd e1 (hno j _ _ (Ne.symm h1) q1)
        · rw [List.getElem?_set_ne h1] at e1
          rw [List.getElem?_set_ne h2] at e2
          exact er.dq j k b _ _ _ _ q1 q2 e1 e2
    gh := er.gh }
theorem ER.takeD {i : Nat} {p : Addr} (er : ER K B S H σ ρ) (hp : H p = none) (hd : DctAt K (fun b => S b ∨ b = p) (upd H p o) p ks ds) : ER K B (fun b => S b ∨ b = p) (upd H p o) (σ.set i (some (.ref p))) (ρ.set i (.dct ks ds)) := by
  have e1 := er.hide (F := fun b => b = p) (same_new (o := o) hp) fun b z => by rw [z]; exact ⟨hp, _, upd_same⟩
  refine e1.setD (.inr rfl) (er.same.free hp) hd fun j ks' ds' _ q z => ?_
  obtain ⟨b, e, _, _, r⟩ := er.dct j ks' ds' q
  rw [e] at z
  cases z
  exact r.ne' hp rfl
theorem ER.changeD {i : Nat} {ks' ds' : List D} {o' : HO} (er : ER K B S H σ ρ) (hi : ρ[i]? = some (.dct ks ds)) (ea : σ[i]? = some (some (.ref a))) (hs : S a) (h0 : B.H0 a = none) (hd : DctAt K S H a ks ds) (hd' : DctAt K S (upd H a o') a ks' ds') : ER K B S (upd H a o') σ (ρ.set i (.dct ks' ds')) := by
  have e1 := er.forget (i := i)
  have no : ∀ (j : Nat) ks ds, (ρ.set i .un)[j]? = some (.dct ks ds) → σ[j]? ≠ some (some (.ref a)) := fun j ks'' ds'' q z => by
    by_cases hij : i = j
    · subst hij
      rw [List.getElem?_set] at q
      split at q
      · split at q <;> cases q
      · rename_i z; exact absurd rfl z
    · rw [List.getElem?_set_ne hij] at q
      exact hij (er.dq i j a _ _ _ _ hi q ea z)
  have e2 := e1.growD (o' := o') hs h0 hd no
  have e3 := e2.setD (i := i) hs h0 hd' fun j ks'' ds'' _ q z => no j ks'' ds'' q z
  rw [List.set_set] at e3
  have : σ.set i (some (.ref a)) = σ := by
    apply List.ext_getElem?
    intro j
    rw [List.getElem?_set]
    split
    · rename_i hij; subst hij
      split
      · exact ea.symm
      · rename_i hl
        rw [List.getElem?_eq_none (by omega)]
    · rfl
  rw [this] at e3
  exact e3
end
noncomputable def ixK (ks : List D) (n : Int) : Option Nat := ks.findIdx? fun k => match k with | .int m => decide (m = n) | _ => false
noncomputable def putKs (ks : List D) (n : Int) : List D := if (ixK ks n).isSome then ks else ks ++ [.int n]
noncomputable def putDs (ks ds : List D) (n : Int) (d : D) : List D := match ixK ks n with | some j => ds.set j d | none => ds ++ [d]
noncomputable def getDs (ks ds : List D) (n : Int) (z : D) : D := match ixK ks n with | some j => ds.getD j z | none => z
theorem ixK_ints (ns : List Int) (n : Int) : ixK (ns.map .int) n = ns.findIdx? fun m => decide (m = n) := by
  unfold ixK
  rw [List.findIdx?_map]
  rfl
theorem zip_find {xs : List V} {n : Int} : ∀ {ns : List Int} {xs : List V}, ns.length = xs.length → valV ((ns.map (Sum.inl : Int → Key)).zip xs) (Sum.inl n) = (ns.findIdx? fun m => decide (m = n)).bind fun j => xs[j]?
  | [], [], _ => rfl
  | [], _ :: _, h => by simp at h
  | _ :: _, [], h => by simp at h
  | m :: ns, x :: xs, h => by
    rw [List.map_cons, List.zip_cons_cons, List.findIdx?_cons]
    by_cases c : m = n
    · subst c
      rw [valV_pos rfl, decide_eq_true rfl]
      rfl
    · rw [valV_neg (fun z => c (Sum.inl.inj z)), decide_eq_false c, zip_find (ns := ns) (xs := xs) (by simpa using h)]
      cases ns.findIdx? fun m => decide (m = n) <;> simp
theorem zip_put {n : Int} {v : V} : ∀ {ns : List Int} {xs : List V}, ns.Nodup → ns.length = xs.length → putK ((ns.map (Sum.inl : Int → Key)).zip xs) (Sum.inl n) v = match ns.findIdx? fun m => decide (m = n) with | some j => (ns.map Sum.inl).zip (xs.set j v) | none => ((ns ++ [n]).map Sum.inl).zip (xs ++ [v]) := by
  intro ns xs nd hl
  unfold putK
  rw [valV_any, zip_find (xs := xs) hl]
  cases e : ns.findIdx? fun m => decide (m = n) with
  | none =>
    rw [if_neg (by simp)]
    show _ ++ [(Sum.inl n, v)] = _
    rw [List.map_append, List.zip_append (by simpa using hl)]
    rfl
  | some j =>
    have hj := (List.findIdx?_eq_some_iff_getElem.mp e)
    obtain ⟨h1, h2, _⟩ := hj
    have h2 : ns[j] = n := of_decide_eq_true h2
    have hx : j < xs.length := by omega
    rw [if_pos (by simp [hx])]
    apply List.ext_getElem?
    intro i
    rw [List.getElem?_map]
    by_cases hi : i < ns.length
    · have e1 : ((ns.map (Sum.inl : Int → Key)).zip xs)[i]? = some (Sum.inl ns[i], xs[i]'(by omega)) := by simp [List.getElem?_zip_eq_some, hi]
      have e2 : ((ns.map (Sum.inl : Int → Key)).zip (xs.set j v))[i]? = some (Sum.inl ns[i], (xs.set j v)[i]'(by simp; omega)) := by simp [List.getElem?_zip_eq_some, hi]
      rw [e1, e2]
      simp only [Option.map_some, List.getElem_set]
      by_cases c : j = i
      · subst c
        rw [h2, if_pos rfl, if_pos rfl]
      · have : ns[i] ≠ n := fun z => c ((List.getElem_inj nd).mp (h2.trans z.symm))
        rw [if_neg (fun z => this (Sum.inl.inj z)), if_neg c]
    · rw [List.getElem?_eq_none (by simp; omega), List.getElem?_eq_none (by simp; omega)]; rfl
end D3

set_option Elab.async false
set_option linter.all false
set_option maxRecDepth 100000
set_option maxHeartbeats 4000000
namespace D3
open PySem PySem.Spec PyProof.Rows L2
section
variable {K : PySem.W.Frag} {S : Addr → Prop} {H : Hp} {a : Addr} {ks ds : List D}
theorem dctI (h : DctAt K S H a (.bl false :: ks) ds) : ∃ (ns : List Int) (xs : List V), ks = ns.map .int ∧ ns.Nodup ∧ ns.length = xs.length ∧ H a = some (.dK ((ns.map Sum.inl).zip xs)) ∧ Reps K S H ds xs := by
  rcases h with ⟨ns, xs, h1, h2⟩ | ⟨kss, bs, xs, h1, h2⟩
  · cases h1; exact ⟨ns, xs, rfl, h2⟩
  · cases h1
theorem dctT (h : DctAt K S H a (.bl true :: ks) ds) : ∃ (kss : List (List (List Int))) (bs : List Addr) (xs : List V), ks = kss.map kD ∧ kss.Nodup ∧ (a == sysModules) = false ∧ kss.length ≤ sizeLine ∧ kss.length = bs.length ∧ kss.length = xs.length ∧ H a = some (.ext (DX a kss bs xs)) ∧ Reps K S H (kss.map kD) (bs.map V.ref) ∧ Reps K S H ds xs := by
  rcases h with ⟨ns, xs, h1, h2⟩ | ⟨kss, bs, xs, h1, h2⟩
  · cases h1
  · cases h1; exact ⟨kss, bs, xs, rfl, h2⟩
end
section
variable {X : Cx} {e o k f : Expr} {te tk tz : E3} {ta : A3} {pos : Pos} {i : Nat}
noncomputable abbrev sDNewI (i : Nat) : S3 := fun Φ ρ => Φ (.nx (ρ.set i (.dct [.bl false] [])))
theorem psd_dnewI {x : Str} {pos' p : Pos} (hN : X.N.Nodup) (hi : X.N[i]? = some x) (hx : Loc X.env.scope x) (hs : swapsWith (.Dict [] [] p) (some (.Name x pos')) pos.line X.env = pure false := by rfl)
    (hf : X.fn x = true ∨ X.env.scope.names.lookup x = some .local := by first | exact .inl rfl | exact .inr rfl | assumption) : PSD X (.Assign [.Name x pos'] (.Dict [] [] p) pos) (sDNewI i) :=
  ⟨_, ps_set hN hi hx pe_dnewK hs hf, fun B S H σ ρ Φ D' er q ok => fun p hp => ok.nx _ _ _ _ q (er.takeD hp (.inl ⟨[], [], rfl, List.nodup_nil, rfl, upd_same, Reps.nil⟩))⟩
noncomputable abbrev sDPutI (i : Nat) (tk te : E3) : S3 := fun Φ ρ => match ρ[i]? with
  | some (.dct (.bl false :: ks) ds) => te ρ fun d => tk ρ fun k => match k with
    | .int n => ks.length < sizeLine ∧ Φ (.nx (ρ.set i (.dct (.bl false :: putKs ks n) (putDs ks ds n d))))
    | _ => False
  | _ => False
theorem nd_snoc' {ns : List Int} {n : Int} (nd : ns.Nodup) (h : ns.findIdx? (fun m => decide (m = n)) = none) : (ns ++ [n]).Nodup := by
  rw [List.nodup_append]
  refine ⟨nd, by simp, fun x hx y hy => ?_⟩
  have := List.findIdx?_eq_none_iff.mp h x hx
  rw [List.mem_singleton.mp hy]
  exact of_decide_eq_false this
theorem psd_dputI {p2 : Pos} (hu : X.A.units + 100 < cLine) (ho : PE X o (tVar i)) (hk : PD X k tk) (he : PD X e te) (hs : swapsWith e (some (.Subscript o k p2)) pos.line X.env = pure false := by rfl) : PSD X (.Assign [.Subscript o k p2] e pos) (sDPutI i tk te) := by
  obtain ⟨t2, h, w⟩ := he; obtain ⟨k2, hk, wk⟩ := hk
  refine ⟨_, ps_dput (by omega) ho hk h hs, fun B S H σ ρ Φ D' er q ok => ?_⟩
  unfold sDPutI at q
  split at q
  · rename_i ks ds e0
    refine w B S H σ ρ _ _ er q fun d v H1 p1 s1 r1 => ?_
    have er1 := er.go s1
    obtain ⟨a, ea, hsa, h0, _⟩ := er.dct i _ _ e0
    refine ⟨.ref a, ea, wk B S H1 σ ρ _ _ er1 p1 fun c u H2 p2 s2 r2 => ?_⟩
    cases c <;> first | exact p2.elim | skip
    rename_i n
    cases rep_int r2
    have er2 := er1.go s2
    obtain ⟨a', ea', _, _, hd⟩ := er2.dct i _ _ e0
    rw [ea] at ea'; cases ea'
    obtain ⟨ns, xs, rfl, nd, hl, hH, r⟩ := dctI hd
    have lz : ((ns.map (Sum.inl : Int → Key)).zip xs).length < sizeLine := by
      rw [List.length_zip, List.length_map]; have := p2.1; rw [List.length_map] at this; omega
    refine ⟨a, _, rfl, DPut.k (k := Sum.inl n) hH lz, ok.nx _ _ _ _ p2.2 (er2.changeD e0 ea hsa h0 hd ?_)⟩
    rw [zip_put nd hl]
    obtain ⟨hT, hL⟩ := turn_d (o' := .dK (match ns.findIdx? fun m => decide (m = n) with | some j => (ns.map Sum.inl).zip (xs.set j v) | none => ((ns ++ [n]).map Sum.inl).zip (xs ++ [v]))) hsa hd
    have mvs := fun {c : List D} {w : List V} (q : Reps X.K S H2 c w) => Reps.map hT hL c w q
    have r1' := Rep.map hT hL _ _ (r1.same s2)
    unfold putKs putDs
    rw [ixK_ints]
    cases ej : ns.findIdx? fun m => decide (m = n) with
    | none =>
      rw [ej] at mvs r1'
      exact .inl ⟨ns ++ [n], xs ++ [v], by simp, nd_snoc' nd ej, by simp [hl], upd_same, (mvs r).app (Reps.cons r1' Reps.nil)⟩
    | some j =>
      rw [ej] at mvs r1'
      exact .inl ⟨ns, xs.set j v, by simp, nd, by simp [hl], upd_same, (mvs r).set j r1'⟩
  · exact q.elim
noncomputable abbrev dDGetI (i : Nat) (tk tz : E3) : E3 := fun ρ Φ => match ρ[i]? with
  | some (.dct (.bl false :: ks) ds) => tk ρ fun k => tz ρ fun z => match k with
    | .int n => Φ (getDs ks ds n z)
    | _ => False
  | _ => False
theorem pd_dgetI {apos cpos : Pos} (hu : X.A.units + 100 < cLine) (ho : PE X o (tVar i)) (hk : PD X k tk) (hz : PD X f tz) (m : M2 X o "get" apos k f cpos) : PD X (.Call (.Attribute o "get" apos) [k, f] [] cpos) (dDGetI i tk tz) := by
  obtain ⟨k2, hk, wk⟩ := hk; obtain ⟨z2, hz, wz⟩ := hz
  refine ⟨_, pe_dget2 (by omega) ho hk hz m, fun B S H σ ρ Φ Q er q hd => ?_⟩
  unfold dDGetI at q
  split at q
  · rename_i ks ds e0
    obtain ⟨a, ea, _, _, hd0⟩ := er.dct i _ _ e0
    obtain ⟨ns, xs, rfl, nd, hl, hH, r⟩ := dctI hd0
    refine ⟨.ref a, ea, a, rfl, .inl ⟨_, .inl hH⟩, wk B S H σ ρ _ _ er q fun c u H1 p1 s1 r1 => wz B S H1 σ ρ _ _ (er.go s1) p1 fun z zv H2 p2 s2 r2 => ?_⟩
    cases c <;> first | exact p2.elim | skip
    rename_i n
    cases rep_int r1
    have s12 := s1.trans s2
    refine ⟨_, DGet.k (k := Sum.inl n) (s12 _ _ hH), ?_⟩
    rw [zip_find (xs := xs) hl]
    have p2 : Φ (getDs (ns.map .int) ds n z) := p2
    unfold getDs at p2
    rw [ixK_ints] at p2
    cases ej : ns.findIdx? fun m => decide (m = n) with
    | none =>
      rw [ej] at p2
      exact hd z zv H2 p2 s12 r2
    | some j =>
      rw [ej] at p2
      have hj : j < xs.length := by
        have := (List.findIdx?_eq_some_iff_getElem.mp ej).1
        omega
      have hj' : j < ds.length := by rw [r.len]; exact hj
      obtain ⟨v, ev, rv⟩ := r.get (i := j) (d := ds[j]) (List.getElem?_eq_getElem hj')
      have p2 : Φ (ds.getD j z) := p2
      rw [List.getD_eq_getElem?_getD, List.getElem?_eq_getElem hj'] at p2
      show Q ((xs[j]?).getD zv) H2
      rw [ev]
      exact hd _ v H2 p2 s12 (rv.same s12)
  · exact q.elim
end
noncomputable def onM (Φ : List D → List D → Prop) : D → Prop
  | .lst [.lst ks, .lst ds] => Φ ks ds
  | _ => False
noncomputable def spM (K : PySem.W.Frag) (n : Nat) (C : Con) : Sp := fun vs H Q _ => ∃ ds S, ds.length = n ∧ Reps K S H ds vs ∧ SOk S H ∧ C ds (onM fun ks es => ∀ p H', Same H H' → H p = none → DctAt K (fun b => S b ∨ b = p) H' p ks es → Q (.ref p) H')
noncomputable def PSM (X : Cx) (sts : List Stmt) (t : A3) : Prop := ∃ t2, PSs X sts t2 ∧ ∀ B S H σ ρ (Φ : List D → Prop) (D' : Ends), ER X.K B S H σ ρ → t ρ Φ →
  (∀ ks ds p H', Φ [.lst ks, .lst ds] → Same B.H0 H' → B.H0 p = none → DctAt X.K (fun b => B.S0 b ∨ b = p) H' p ks ds → D'.rt (.ref p) H') → t2 D' σ H
section
variable {X : Cx} {st : Stmt} {rest : List Stmt} {t : S3} {u : A3} {e : Expr} {pos : Pos}
theorem psm_cons (h1 : PSD X st t) (h2 : PSM X rest u) : PSM X (st :: rest) (nSeq t u) := by
  obtain ⟨t2, h, w⟩ := h1; obtain ⟨u2, g, z⟩ := h2
  exact ⟨_, pss_cons h g, fun B S H σ ρ Φ D' er q ok => w B S H σ ρ _ _ er q ⟨fun ρ' S' H' σ' p er' => z B S' H' σ' ρ' Φ D' er' p ok, fun _ _ _ _ p _ => p.elim, fun _ _ _ _ p _ => p.elim, fun _ _ _ p _ _ => p.elim⟩⟩
noncomputable abbrev nDct (i : Nat) : A3 := fun ρ Φ => match ρ[i]? with | some (.dct ks ds) => Φ [.lst ks, .lst ds] | _ => False
theorem psm_ret {i : Nat} (h : PE X e (tVar i)) : PSM X [.Return (some e) pos] (nDct i) := by
  refine ⟨_, pss_one (ps_ret h), fun B S H σ ρ Φ D' er q ok => ?_⟩
  unfold nDct at q
  split at q
  · rename_i ks ds e0
    obtain ⟨a, ea, hs, h0, hd⟩ := er.dct i ks ds e0
    exact ⟨.ref a, ea, ok ks ds a H q er.same h0 (hd.map (fun r => r.sub fun b z => z.elim (er.sub b) fun z => z ▸ hs) rfl)⟩
  · exact q.elim
end
section
variable {P : Program} {w : World} {K : PySem.W.Frag} {mg : Str → Option Value} {base : Heap}
theorem fnM_ok {x qual : Str} {st : Stmt} {f : Addr} {fd : FuncData} {N ps : List Str} {k : Nat} {C : Con} (mo : Mono C) (F : Fun K x qual st f fd) (S : FnScope N ps (defScope st))
    (body : ∀ (cdv : Value) (A : Around) (outer : List Env) (s : Shared) (H : Hp) (E : XK), Room k (A.deeper (envOfC qual (defScope st) s.heap.objs.size f cdv)) →
      ∃ t, PSM (cxOf CX0 P w K mg base N qual (defScope st) f cdv A outer s H E).nox (defBody st) t ∧ ∀ ds Φ, ds.length = ps.length → C ds (onM fun ks es => Φ [.lst ks, .lst es]) → t (startD N.length ds) Φ) :
    FnOk P w K mg base CX0 (k + 1) f fd ps (spM K ps.length C) := by
  refine F.ok S (fun vs H Q E h => ?_) (fun cdv A outer s H vs Q E hr h => ?_)
  · obtain ⟨ds, S, hl, r, _⟩ := h
    rw [← r.len]; exact hl
  · obtain ⟨t, ⟨t2, ht, wt⟩, rd⟩ := body cdv A outer s H E hr
    obtain ⟨ds, S, hl, r, so, hc⟩ := h
    refine ⟨t2, ht, wt ⟨S, H, []⟩ S H (L2.start N vs) (startD N.length ds) (fun es => ∃ ks ds, es = [.lst ks, .lst ds] ∧ ∀ p H', Same H H' → H p = none → DctAt K (fun b => S b ∨ b = p) H' p ks ds → Q (.ref p) H') _ (er_start r so) (rd ds _ hl (mo ds _ _ (fun d hd => ?_) hc)) ?_⟩
    · unfold onM at hd ⊢
      split at hd
      · exact ⟨_, _, rfl, hd⟩
      · exact hd.elim
    · intro ks es p H' h s h0 hd
      obtain ⟨ks', es', e, h⟩ := h
      cases e
      exact h p H' s h0 hd
end
section
variable {X : Cx} {k i : Nat} {f : Addr} {fd : FuncData} {ps : List Str} {C : Con} {x y : Str} {p pos pos' pos2 : Pos} {e : Expr} {es : List Expr} {ta : A3}
noncomputable abbrev sDCall (i n : Nat) (C : Con) (ta : A3) : S3 := fun Φ ρ => ta ρ fun ds => ds.length = n ∧ C ds (onM fun ks es => Φ (.nx (ρ.set i (.dct ks es))))
theorem psd_dcall (F : FnOk X.prog X.w X.K X.mg X.base CX0 k f fd ps (spM X.K ps.length C)) (mo : Mono C) (hr : Room k X.A) (hg : Gl X x) (hm : X.mg x = some (.ref f)) (hk : PySem.W.keepIn X.K (.ref f) = true) (hb : Binds X.K fd ps [])
    (hN : X.N.Nodup) (hi : X.N[i]? = some y) (hy : Loc X.env.scope y) (ha : PAD X (e :: es) ta) (hdb : (x == ("__debug__" : Str)) = false := by decide) (he : starEach (e :: es) X.env = (false, eval e X.env) :: starEach es X.env := by rfl) (hpl : (backTo pos2 (starEach es X.env)).any (·.1) = false := by rfl)
    (hs : swapsWith (.Call (.Name x p) (e :: es) [] pos2) (some (.Name y pos')) pos.line X.env = pure false := by rfl)
    (hf : X.fn y = true ∨ X.env.scope.names.lookup y = some .local := by first | exact .inl rfl | exact .inr rfl | assumption) :
    PSD X (.Assign [.Name y pos'] (.Call (.Name x p) (e :: es) [] pos2) pos) (sDCall i ps.length C ta) := by
  obtain ⟨t2, h, w⟩ := ha
  refine ⟨_, ps_set hN hi hy (pe_call F hr hg hm hk hb .nil pass0 h hdb he hpl) hs hf, fun B S H σ ρ Φ D' er q ok => w B S H σ ρ _ _ er q fun ds vs H1 hc s1 r => ?_⟩
  rw [List.append_nil]
  refine ⟨ds, S, hc.1, r, er.ok.same s1, mo ds _ _ (fun d hΦ => ?_) hc.2⟩
  unfold onM at hΦ ⊢
  split at hΦ
  · intro p H' s hp hd
    have er1 := er.go s1
    obtain ⟨oo, ho, _⟩ := hd.isO
    have e1 := er1.hide (F := fun b => b = p) s fun b z => by rw [z]; exact ⟨hp, oo, ho⟩
    refine ok.nx _ _ _ _ hΦ (e1.setD (.inr rfl) (er1.same.free hp) hd fun j ks' ds' _ q z => ?_)
    obtain ⟨b, e, _, _, r⟩ := er1.dct j ks' ds' q
    rw [e] at z
    cases z
    exact r.ne' hp rfl
  · exact hΦ.elim
end
end D3

set_option Elab.async false
set_option linter.all false
set_option maxRecDepth 100000
set_option maxHeartbeats 4000000
namespace D3
open PySem PySem.Spec PyProof.Rows L2
theorem DX.mono {a : Addr} {kss : List (List (List Int))} {bs : List Addr} {xs : List V} : ∀ h1 h2 : Heap, DX a kss bs xs h1 → (∀ o, h1.get? a = some o → h2.get? a = some o) → DX a kss bs xs h2 :=
  fun h1 h2 ⟨us, o, es, ep, v, ho, r⟩ k => ⟨us, o, es, ep, v, k o ho, r⟩
noncomputable def z3 : List (List (List Int)) → List Addr → List Value → List (List (List Int) × Addr × Value)
  | k :: ks, b :: bs, u :: us => (k, b, u) :: z3 ks bs us
  | _, _, _ => []
theorem z3_ents (P : Program) (w : World) : ∀ (ks : List (List (List Int))) (bs : List Addr) (us : List Value), ents ks bs us = (z3 ks bs us).map (entryOfKey (tup2 P w))
  | [], _, _ => rfl
  | _ :: _, [], _ => rfl
  | _ :: _, _ :: _, [] => rfl
  | k :: ks, b :: bs, u :: us => by
    show _ :: ents ks bs us = _ :: _
    rw [z3_ents P w ks bs us]
    rfl
theorem z3_keys : ∀ (ks : List (List (List Int))) (bs : List Addr) (us : List Value), ks.length = bs.length → ks.length = us.length → (z3 ks bs us).map (·.1) = ks
  | [], _, _, _, _ => rfl
  | _ :: _, [], _, h, _ => by simp at h
  | _ :: _, _ :: _, [], _, h => by simp at h
  | k :: ks, b :: bs, u :: us, h1, h2 => by
    show k :: (z3 ks bs us).map (·.1) = _
    rw [z3_keys ks bs us (by simpa using h1) (by simpa using h2)]
theorem z3_snoc {k : List (List Int)} {b : Addr} {u : Value} : ∀ (ks : List (List (List Int))) (bs : List Addr) (us : List Value), ks.length = bs.length → ks.length = us.length → z3 (ks ++ [k]) (bs ++ [b]) (us ++ [u]) = z3 ks bs us ++ [(k, b, u)]
  | [], [], [], _, _ => rfl
  | [], _ :: _, _, h, _ => by simp at h
  | [], [], _ :: _, _, h => by simp at h
  | _ :: _, [], _, h, _ => by simp at h
  | _ :: _, _ :: _, [], _, h => by simp at h
  | q :: ks, c :: bs, v :: us, h1, h2 => by
    show _ :: z3 (ks ++ [k]) (bs ++ [b]) (us ++ [u]) = _ :: _
    rw [z3_snoc ks bs us (by simpa using h1) (by simpa using h2)]
    rfl
section
variable {X : Cx} {pins : List (Addr × Obj)} {σ : L2.St} {H : Hp} {s : Shared} {S : Addr → Prop}
theorem its_ints {P : Program} {w : World} : ∀ {ns : List Int} {us : List Value}, Vals (ns.map V.int) us → ItemsAre (intKind P w) ns us
  | [], us, h => by cases h; exact .nil
  | n :: ns, us, h => by
    cases h with
    | cons h t =>
      obtain ⟨tk, rfl⟩ := h
      exact .cons (by show Value.isInt n (.int n tk) = true; simp [Value.isInt]) (its_ints t)
theorem is1 (I : Inv X pins σ H s) {ns : List Int} {v : V} {u : Value} (r : Rep X.K S H (.tup (ns.map .int)) v) (ru : RelV v u) : ∃ b, u = .ref b ∧ (tupleKind (intKind X.prog X.w)).is s.heap ns b := by
  obtain ⟨b, xs, rfl, q, rs⟩ := rep_tup r
  cases rs.intsV
  cases (show u = Value.ref b from ru)
  obtain ⟨its, rv, ⟨o, ho, hc, n, hd⟩, _⟩ := I.tuple q
  exact ⟨b, rfl, o, its.toArray, n, ho, hc, hd, by rw [List.toList_toArray]; exact its_ints rv⟩
theorem its2 (I : Inv X pins σ H s) : ∀ {kk : List (List Int)} {xs : List V} {us : List Value}, Reps X.K S H (kk.map fun ns => .tup (ns.map .int)) xs → Vals xs us → ItsH (tupleKind (intKind X.prog X.w)) s.heap kk us
  | [], xs, us, r, v => by
    simp only [List.map_nil, Reps] at r
    subst r; cases v; exact .nil
  | ns :: kk, xs, us, r, v => by
    simp only [List.map_cons, Reps] at r
    obtain ⟨x, xs, rfl, rx, r⟩ := r
    cases v with
    | cons h v =>
      obtain ⟨b, rfl, hb⟩ := is1 I rx h
      exact .cons hb (its2 I r v)
theorem is2 (I : Inv X pins σ H s) {kk : List (List Int)} {v : V} {u : Value} (r : Rep X.K S H (kD kk) v) (ru : RelV v u) : ∃ b, u = .ref b ∧ v = .ref b ∧ (tup2 X.prog X.w).is s.heap kk b := by
  obtain ⟨b, xs, rfl, q, rs⟩ := rep_tup r
  cases (show u = Value.ref b from ru)
  obtain ⟨its, rv, ⟨o, ho, hc, n, hd⟩, _⟩ := I.tuple q
  exact ⟨b, rfl, rfl, o, its.toArray, n, ho, hc, hd, by rw [List.toList_toArray]; exact its2 I rs rv⟩
theorem keys2 (I : Inv X pins σ H s) : ∀ {kss : List (List (List Int))} {bs : List Addr} {us : List Value}, Reps X.K S H (kss.map kD) (bs.map V.ref) → ∀ x ∈ z3 kss bs us, (tup2 X.prog X.w).is s.heap x.1 x.2.1
  | [], bs, us, _, x, hx => by simp [z3] at hx
  | _ :: _, [], us, _, x, hx => by simp [z3] at hx
  | _ :: _, _ :: _, [], _, x, hx => by simp [z3] at hx
  | k :: kss, b :: bs, u :: us, r, x, hx => by
    simp only [List.map_cons, Reps] at r
    obtain ⟨v, vs, e, rv, r⟩ := r
    cases e
    rcases List.mem_cons.mp hx with rfl | hx
    · obtain ⟨b', e1, e2, h⟩ := is2 I rv (show RelV (.ref b) (.ref b) from rfl)
      cases e2
      exact h
    · exact keys2 I r x hx
theorem dictOf2 {a : Addr} {kss : List (List (List Int))} {bs : List Addr} {xs : List V} (I : Inv X pins σ H s) (nd : kss.Nodup) (lb : kss.length = bs.length) (lx : kss.length = xs.length) (hH : H a = some (.ext (DX a kss bs xs))) (rk : Reps X.K S H (kss.map kD) (bs.map V.ref)) :
    ∃ us, Vals xs us ∧ s.heap.DictOfH (tup2 X.prog X.w) a (z3 kss bs us) := by
  obtain ⟨⟨us, o, es, ep, v, ho, hc, hd, he⟩, _⟩ := I.hok a _ hH
  have lu : kss.length = us.length := by rw [lx, v.length]
  exact ⟨us, v, o, es, ep, ho, hc, hd, by rw [he, z3_ents], keys2 I rk, by rw [z3_keys _ _ _ lb lu]; exact nd⟩
end
section
variable {prog : Program} {w : World} {K : Type} [DecidableEq K] {knd : HeapKind prog w K} {A : Around} {E : Value → Shared → Prop} {s : Shared} {d a : Addr} {k : K} {xs : List (K × Addr × Value)} {dv : Value}
theorem setDefaultH {Q : Value → Shared → Prop} (hu : knd.room A) (hkey : knd.is s.heap k a) (hm : s.heap.DictOfH knd d xs) (hsz : xs.length ≤ sizeLine)
    (hthere : ∀ p, atKey xs k = some p → Q p.2 { s with toks := s.toks + knd.draws k })
    (hnew : atKey xs k = none → ∀ h', h'.DictOfH knd d (xs ++ [(k, a, dv)]) → Heap.SameBut d s.heap h' → Q dv { s with heap := h', toks := s.toks + knd.draws k }) :
    wpAny (model prog w) A (dictSetDefault d (.ref a) dv) Q E s := by
  obtain ⟨o, es, ep, ho, hc, hd, he, his, hn⟩ := hm
  unfold dictSetDefault
  try with_reducible refine wpAny_holding ?_
  refine wpAny_bind (knd.pyHash hu hkey ?_)
  refine wpAny_bind (wpAny_dictFind_heap (s := { s with toks := s.toks + knd.draws k }) hu hkey ho hd he his hn ?_ ?_)
  · intro hno
    have hnot : k ∉ xs.map (·.1) := not_mem_keys_of_get hno
    refine wpAny_bind (wpAny_rule (wpAny_bind (wpAny_updateDictKeys (hz := by have e := size_of_entries he; omega) (s := { s with toks := s.toks + knd.draws k }) ho hd (wpAny_pure (hnew (atKey_none_of_get hno) _ ⟨_, _, ep + 1, Heap.get?_update_self _ ho (Obj.isFreed_of_dict (Obj.data_mapDictKeys hd _)),
      hc.mapDictKeys _, Obj.data_mapDictKeys hd _, ?_, ?_, ?_⟩ (Heap.SameBut.update ..))))))
    · simp [he, entryOfKey]
    · intro x hx
      rcases List.mem_append.mp hx with hx | hx
      · exact knd.keeps (his x hx) ho hd (Heap.SameBut.update ..)
      · simp only [List.mem_singleton] at hx
        subst hx
        exact knd.keeps hkey ho hd (Heap.SameBut.update ..)
    · rw [List.map_append, List.nodup_append]
      refine ⟨hn, by simp, ?_⟩
      intro x hx y hy
      simp only [List.map_cons, List.map_nil, List.mem_singleton] at hy
      subst hy
      exact fun e => hnot (e ▸ hx)
  · intro j p hj
    refine wpAny_bind (wpAny_dictEntries (s := { s with toks := s.toks + knd.draws k }) ho hd ?_)
    rw [entry_at he j, hj]
    exact wpAny_bind (wpAny_rule (wpAny_pure (hthere p (atKey_of_get hn hj))))
theorem call_setDefaultH {Q : Value → Shared → Prop} (hu : knd.room A.in1) (hd : (d == sysModules) = false) (hkey : knd.is s.heap k a) (hm : s.heap.DictOfH knd d xs) (hsz : xs.length ≤ sizeLine)
    (hthere : ∀ p, atKey xs k = some p → Q p.2 { s with toks := s.toks + knd.draws k })
    (hnew : atKey xs k = none → ∀ h', h'.DictOfH knd d (xs ++ [(k, a, dv)]) → Heap.SameBut d s.heap h' → Q dv { s with heap := h', toks := s.toks + knd.draws k }) :
    wpAny (model prog w) A (call (.builtin "dict.setdefault") [.ref d, .ref a, dv]) Q E s := by
  refine wpAny_call_entry F.slot_dict_setdefault hm.typeIs F.entry_dict_setdefault ?_ (F.args_dict_setdefault_3 _ _ _)
  unfold Builtin.«dict.setdefault»
  refine wpAny_bind ?_
  unfold Builtin.Dict.keyAndDefault
  refine wpAny_bind (wpAny_notOrdered_dict hm.typeIs ?_)
  show wpAny _ _ (pure (d, Value.ref a, some dv)) _ _ s
  refine wpAny_pure ?_
  show wpAny _ _ (if (d == sysModules) = true then _ else (dictSetDefault d (.ref a) dv >>= _)) _ _ s
  rw [if_neg (by rw [hd]; exact Bool.false_ne_true)]
  exact wpAny_bind (setDefaultH hu hkey hm hsz (fun p hp => wpAny_pure ⟨_, rfl, hthere p hp⟩) fun hn h' hm' hs' => wpAny_pure ⟨_, rfl, hnew hn h' hm' hs'⟩)
end
end D3

set_option Elab.async false
set_option linter.all false
set_option maxRecDepth 100000
set_option maxHeartbeats 4000000
namespace D3
open PySem PySem.Spec PyProof.Rows L2
theorem ints_inj : ∀ {x y : List Int}, x.map D.int = y.map D.int → x = y
  | [], [], _ => rfl
  | [], _ :: _, h => by cases h
  | _ :: _, [], h => by cases h
  | a :: x, b :: y, h => by
    rw [List.map_cons, List.map_cons] at h
    injection h with h1 h2
    injection h1 with h1
    rw [h1, ints_inj h2]
theorem kD_inj {x y : List (List Int)} (h : kD x = kD y) : x = y := by
  unfold kD at h
  injection h with h
  induction x generalizing y with
  | nil =>
    cases y with
    | nil => rfl
    | cons => cases h
  | cons a x ih =>
    cases y with
    | nil => cases h
    | cons b y =>
      rw [List.map_cons, List.map_cons] at h
      injection h with h1 h2
      injection h1 with h1
      rw [ints_inj h1, ih h2]
theorem kDs_inj : ∀ {x y : List (List (List Int))}, x.map kD = y.map kD → x = y
  | [], [], _ => rfl
  | [], _ :: _, h => by cases h
  | _ :: _, [], h => by cases h
  | a :: x, b :: y, h => by
    rw [List.map_cons, List.map_cons] at h
    injection h with h1 h2
    rw [kD_inj h1, kDs_inj h2]
section
variable {X : Cx} {e o k f : Expr} {te tk tz : E3} {pos : Pos} {i : Nat}
theorem pe_dnewX : PE X (.Dict [] [] pos) (fun _ H Q => ∀ p, H p = none → (p == sysModules) = false → Q (.ref p) (upd H p (.ext (DX p [] [] [])))) := fun pins s σ H Q I h =>
  wpAny_Dict_empty ⟨.ref s.heap.objs.size, _, I.laid (a := s.heap.objs.size) (o := .ext (DX s.heap.objs.size [] [] [])) (t' := s.toks) (fun _ _ q => Heap.get?_push_of_some _ q) (Nat.le_refl _)
    (show ObjOk X.prog X.w _ _ _ (.ext _) from ⟨⟨[], _, #[], 0, .nil, Heap.get?_push_size _ rfl, ⟨rfl, rfl, rfl⟩, rfl, rfl⟩, ⟨_, Heap.get?_push_size _ rfl⟩, DX.mono⟩), rfl, h _ (I.hok.fresh (Nat.le_refl _)) (beq_eq_false_iff_ne.mpr (Ne.symm (Nat.ne_of_lt I.big)))⟩
noncomputable abbrev sDNewT (i : Nat) : S3 := fun Φ ρ => Φ (.nx (ρ.set i (.dct [.bl true] [])))
theorem psd_dnewT {x : Str} {pos' p : Pos} (hN : X.N.Nodup) (hi : X.N[i]? = some x) (hx : Loc X.env.scope x) (hs : swapsWith (.Dict [] [] p) (some (.Name x pos')) pos.line X.env = pure false := by rfl)
    (hf : X.fn x = true ∨ X.env.scope.names.lookup x = some .local := by first | exact .inl rfl | exact .inr rfl | assumption) : PSD X (.Assign [.Name x pos'] (.Dict [] [] p) pos) (sDNewT i) :=
  ⟨_, ps_set hN hi hx pe_dnewX hs hf, fun B S H σ ρ Φ D' er q ok => fun p hp hm => ok.nx _ _ _ _ q (er.takeD hp (.inr ⟨[], [], [], rfl, List.nodup_nil, hm, Nat.zero_le _, rfl, rfl, upd_same, Reps.nil, Reps.nil⟩))⟩
theorem z3_at {kk : List (List Int)} : ∀ {kss : List (List (List Int))} {bs : List Addr} {us : List Value}, kss.length = bs.length → kss.length = us.length → (kk ∈ kss ↔ ∃ p, atKey (z3 kss bs us) kk = some p)
  | [], _, _, _, _ => by simp [z3, atKey]
  | _ :: _, [], _, h, _ => by simp at h
  | _ :: _, _ :: _, [], _, h => by simp at h
  | q :: kss, b :: bs, u :: us, h1, h2 => by
    have ih := z3_at (kk := kk) (kss := kss) (bs := bs) (us := us) (by simpa using h1) (by simpa using h2)
    rw [List.mem_cons]
    unfold atKey at ih ⊢
    simp only [z3, List.find?_cons]
    by_cases c : q = kk
    · simp [c]
    · rw [decide_eq_false c]
      constructor
      · rintro (z | z)
        · exact absurd z.symm c
        · exact ih.mp z
      · exact fun z => .inr (ih.mpr z)
theorem z3_get {kk : List (List Int)} {p : Addr × Value} : ∀ {kss : List (List (List Int))} {bs : List Addr} {us : List Value}, atKey (z3 kss bs us) kk = some p → ∃ j : Nat, kss[j]? = some kk ∧ us[j]? = some p.2
  | [], _, _, h => by simp [z3, atKey] at h
  | _ :: _, [], _, h => by simp [z3, atKey] at h
  | _ :: _, _ :: _, [], h => by simp [z3, atKey] at h
  | q :: kss, b :: bs, u :: us, h => by
    unfold atKey at h
    simp only [z3, List.find?_cons] at h
    by_cases c : q = kk
    · rw [decide_eq_true c] at h
      cases h
      exact ⟨0, by rw [c]; rfl, rfl⟩
    · rw [decide_eq_false c] at h
      obtain ⟨j, h1, h2⟩ := z3_get (kss := kss) (bs := bs) (us := us) (by unfold atKey; exact h)
      exact ⟨j + 1, by simpa using h1, by simpa using h2⟩
noncomputable def DT (K : PySem.W.Frag) (S : Addr → Prop) (H : Hp) (a : Addr) (kss : List (List (List Int))) (bs : List Addr) (xs : List V) : Prop := kss.Nodup ∧ (a == sysModules) = false ∧ kss.length ≤ sizeLine ∧ kss.length = bs.length ∧ kss.length = xs.length ∧ H a = some (.ext (DX a kss bs xs)) ∧ Reps K S H (kss.map kD) (bs.map V.ref)
theorem ext_is {pins : List (Addr × Obj)} {σ : L2.St} {H : Hp} {s : Shared} {a : Addr} {kss : List (List (List Int))} {bs : List Addr} {xs : List V} (I : Inv X pins σ H s) (hH : H a = some (.ext (DX a kss bs xs))) : s.TypeIs (.ref a) "dict" ∧ ∀ b, Value.ref a = .ref b → ∃ ob, s.heap.get? b = some ob ∧ ob.dict = none := by
  obtain ⟨⟨us, o, es, ep, v, ho, hc, hd, he⟩, _⟩ := I.hok a _ hH
  exact ⟨⟨o, ho, hc.1⟩, fun b q => by cases q; exact ⟨o, ho, hc.2.1⟩⟩
theorem valsApp : ∀ {xs ys : List V} {us ws : List Value}, Vals xs us → Vals ys ws → Vals (xs ++ ys) (us ++ ws)
  | _, _, _, _, .nil, q => q
  | _, _, _, _, .cons h t, q => .cons h (valsApp t q)
theorem pe_setdef {to t1 t2 : TE} {apos cpos : Pos} (hu : X.A.units + 100 < cLine) (ho : PE X o to) (he : PE X e t1) (hf : PE X f t2) (m : M2 X o "setdefault" apos e f cpos) : PE X (.Call (.Attribute o "setdefault" apos) [e, f] [] cpos)
    (fun σ H Q => to σ H fun x H1 => ∃ a, x = .ref a ∧ (∃ kss bs xs, H1 a = some (.ext (DX a kss bs xs))) ∧ t1 σ H1 fun y H2 => t2 σ H2 fun z H3 => ∃ S kss bs xs kk, DT X.K S H3 a kss bs xs ∧ Rep X.K S H3 (kD kk) y ∧
      (kk ∈ kss → ∀ r, Q r H3) ∧ (kk ∉ kss → ∀ b, y = .ref b → Q z (upd H3 a (.ext (DX a (kss ++ [kk]) (bs ++ [b]) (xs ++ [z])))))) := by
  intro pins s σ H Q I h
  refine wpAny_Call_method m.base m.few m.line PySem.F.plainAttrs_dict PySem.F.slot_dict_setdefault PySem.F.type_dict_setdefault (thn (ho pins s σ H _ I h) fun u s1 qZ => ?_)
  obtain ⟨x, H1, I1, rx, a, ex, ⟨kss0, bs0, xs0, hH⟩, q1⟩ := qZ
  subst ex
  obtain rfl : u = Value.ref a := rx
  obtain ⟨t1, t2⟩ := ext_is I1 hH
  refine ⟨t1, t2, ?_⟩
  rw [m.trees]
  refine Calls.callWith_builtin rfl (Calls.evalArgs_plain (Calls.spliced_cons (thn (he pins s1 σ H1 _ I1 q1) fun iv s2 ⟨y, H2, I2, ry, q2⟩ =>
    Calls.spliced_cons (thn (hf pins s2 σ H2 _ I2 q2) fun fv s3 ⟨z, H3, I3, rz, S, kss, bs, xs, kk, ⟨nd, lo, hz, lb, lx, hH3, rk⟩, rkk, q3, q4⟩ => Calls.spliced_nil ?_))))
  obtain ⟨us, vu, dd⟩ := dictOf2 I3 nd lb lx hH3 rk
  obtain ⟨b, rfl, rfl, hb⟩ := is2 I3 rkk ry
  have lu : kss.length = us.length := by rw [lx, vu.length]
  have lz : (z3 kss bs us).length = kss.length := by rw [← List.length_map (f := (·.1)), z3_keys _ _ _ lb lu]
  refine call_setDefaultH (knd := tup2 X.prog X.w) (by show X.A.units + 1 + 1 < cLine; omega) lo hb dd (by omega) (fun p hp => ?_) fun hn h' dd' hs => ?_
  · have hm : kk ∈ kss := (z3_at lb lu).mpr ⟨p, hp⟩
    have vp : ∃ r, RelV r p.2 := by
      obtain ⟨j, _, hj⟩ := z3_get hp
      have hl : j < us.length := (List.getElem?_eq_some_iff.mp hj).1
      obtain ⟨y, ey, ry⟩ := vals_get vu hl
      rw [List.getD_eq_getElem?_getD, hj] at ry
      exact ⟨y, ry⟩
    obtain ⟨r, hr⟩ := vp
    exact ⟨r, H3, I3.tok _, hr, q3 hm r⟩
  · have hm : kk ∉ kss := fun z => by
      obtain ⟨p, hp⟩ := (z3_at lb lu).mp z
      rw [hn] at hp; cases hp
    obtain ⟨oo, es, ep, ho', hc', hd', he', his', hn'⟩ := dd'
    refine ⟨z, _, I3.write (x := a) (e := a) (o := .ext (DX a (kss ++ [kk]) (bs ++ [b]) (xs ++ [z]))) (by rw [hH3]; exact trivial) (.inl rfl) (fun c u hc q => (hs.2 c hc).trans q) ⟨oo, ho'⟩ ?_, rz, q4 hm b rfl⟩
    refine ⟨⟨us ++ [fv], oo, es, ep, valsApp vu (.cons rz .nil), ho', hc', hd', ?_⟩, ⟨oo, ho'⟩, DX.mono⟩
    rw [he', z3_ents X.prog X.w, z3_snoc _ _ _ lb lu]
noncomputable abbrev sSetDef (i : Nat) (tk te : E3) : S3 := fun Φ ρ => match ρ[i]? with
  | some (.dct (.bl true :: ks) ds) => tk ρ fun k => te ρ fun d => ∃ (kk : List (List Int)) (kss : List (List (List Int))), k = kD kk ∧ ks = kss.map kD ∧ ks.length < sizeLine ∧ (kk ∈ kss → Φ (.nx ρ)) ∧ (kk ∉ kss → Φ (.nx (ρ.set i (.dct (.bl true :: (ks ++ [k])) (ds ++ [d])))))
  | _ => False
theorem psd_setdef {apos cpos : Pos} (hu : X.A.units + 100 < cLine) (ho : PE X o (tVar i)) (hk : PD X e tk) (he : PD X f te) (m : M2 X o "setdefault" apos e f cpos)
    (hs : swapsWith (.Call (.Attribute o "setdefault" apos) [e, f] [] cpos) none pos.line X.env = pure false := by rfl) : PSD X (.Expr (.Call (.Attribute o "setdefault" apos) [e, f] [] cpos) pos) (sSetDef i tk te) := by
  obtain ⟨t2, h, w⟩ := he; obtain ⟨k2, hk, wk⟩ := hk
  refine ⟨_, ps_expr (pe_setdef hu ho hk h m) hs, fun B S H σ ρ Φ D' er q ok => ?_⟩
  unfold sSetDef at q
  split at q
  · rename_i ks ds e0
    obtain ⟨a, ea, hsa, h0, hd⟩ := er.dct i _ _ e0
    obtain ⟨kss0, bs0, xs0, _, _, _, _, _, _, hH, _⟩ := dctT hd
    refine ⟨.ref a, ea, a, rfl, ⟨kss0, bs0, xs0, hH⟩, wk B S H σ ρ _ _ er q fun kd kv H1 p1 s1 r1 => w B S H1 σ ρ _ _ (er.go s1) p1 fun d v H2 p2 s2 r2 => ?_⟩
    obtain ⟨kk, kss, rfl, ek, lz, yes, no⟩ := p2
    have er2 := (er.go s1).go s2
    obtain ⟨a', ea', _, _, hd2⟩ := er2.dct i _ _ e0
    rw [ea] at ea'; cases ea'
    obtain ⟨kss', bs, xs, ek', nd, lo, hz, lb, lx, hH2, rk, rd⟩ := dctT hd2
    rw [ek'] at ek
    cases kDs_inj ek
    refine ⟨S, kss, bs, xs, kk, ⟨nd, lo, hz, lb, lx, hH2, rk⟩, r1.same s2, fun hm r => ok.nx _ _ _ _ (yes hm) er2, fun hm b eb => ok.nx _ _ _ _ (no hm) (er2.changeD e0 ea hsa h0 hd2 ?_)⟩
    obtain ⟨hT, hL⟩ := turn_d (o' := .ext (DX a (kss ++ [kk]) (bs ++ [b]) (xs ++ [v]))) hsa hd2
    have mvs := fun {c : List D} {w : List V} (q : Reps X.K S H2 c w) => Reps.map hT hL c w q
    have r1' := Rep.map hT hL _ _ (r1.same s2)
    have r2' := Rep.map hT hL _ _ r2
    subst eb
    rw [ek', List.length_map] at lz
    refine .inr ⟨kss ++ [kk], bs ++ [b], xs ++ [v], by rw [ek', List.map_append]; rfl, ?_, lo, by rw [List.length_append]; exact lz, by simp [lb], by simp [lx], upd_same, ?_, (mvs rd).app (Reps.cons r2' Reps.nil)⟩
    · rw [List.nodup_append]
      refine ⟨nd, by simp, fun x hx y hy z => hm ?_⟩
      rw [← List.mem_singleton.mp hy, ← z]; exact hx
    · rw [List.map_append, List.map_append]
      exact (mvs rk).app (Reps.cons r1' Reps.nil)
  · exact q.elim
noncomputable abbrev dDIxT (i : Nat) (tk : E3) : E3 := fun ρ Φ => match ρ[i]? with
  | some (.dct (.bl true :: ks) ds) => tk ρ fun k => ∃ (kk : List (List Int)) (j : Nat) (d : D), k = kD kk ∧ ks[j]? = some k ∧ ds[j]? = some d ∧ Φ d
  | _ => False
theorem pe_dixT {td ty : TE} (hu : X.A.units + 100 < cLine) (ho : PE X o td) (hi : PE X e ty) (hs : NoSl e) : PE X (.Subscript o e pos) (fun σ H Q => td σ H fun x H1 => ty σ H1 fun y H2 => ∃ (a : Addr) (S : Addr → Prop) (kss : List (List (List Int))) (bs : List Addr) (xs : List V) (kk : List (List Int)) (j : Nat) (v : V), x = .ref a ∧ DT X.K S H2 a kss bs xs ∧ Rep X.K S H2 (kD kk) y ∧ kss[j]? = some kk ∧ xs[j]? = some v ∧ Q v H2) := by
  intro pins s σ H Q I h
  refine subD_of PySem.F.slot_dict_getitem.lookup hs (thn (ho pins s σ H _ I h) fun u s1 ⟨x, H1, I1, rx, q1⟩ => thn (hi pins s1 σ H1 _ I1 q1) fun iv s2 qZ => ?_)
  obtain ⟨y, H2, I2, ry, a, S, kss, bs, xs, kk, j, v, ex, ⟨nd, lo, hz, lb, lx, hH, rk⟩, rkk, ej, ev, q2⟩ := qZ
  subst ex
  obtain rfl : u = Value.ref a := rx
  obtain ⟨us, vu, dd⟩ := dictOf2 I2 nd lb lx hH rk
  obtain ⟨b, rfl, rfl, hb⟩ := is2 I2 rkk ry
  have lu : kss.length = us.length := by rw [lx, vu.length]
  obtain ⟨p, hp⟩ := (z3_at lb lu).mp (List.mem_of_getElem? ej)
  refine ⟨(ext_is I2 hH).1, wpAny_getItem_heap (knd := tup2 X.prog X.w) (by show X.A.units + 1 + 1 < cLine; omega) hb dd hp ?_⟩
  obtain ⟨j', h1, h2⟩ := z3_get hp
  have hj' := (List.getElem?_eq_some_iff.mp h1).1
  have : j = j' := (List.getElem?_inj (List.getElem?_eq_some_iff.mp ej).1 nd).mp (ej.trans h1.symm)
  subst this
  obtain ⟨u, eu, ru⟩ := vu.get ev
  rw [h2] at eu
  cases eu
  exact ⟨v, H2, I2.tok _, ru, q2⟩
theorem pd_dixT (hu : X.A.units + 100 < cLine) (ho : PE X o (tVar i)) (hk : PD X e tk) (hs : NoSl e) : PD X (.Subscript o e pos) (dDIxT i tk) := by
  obtain ⟨k2, hk, wk⟩ := hk
  refine ⟨_, pe_dixT hu ho hk hs, fun B S H σ ρ Φ Q er q hd => ?_⟩
  unfold dDIxT at q
  split at q
  · rename_i ks ds e0
    obtain ⟨a, ea, hsa, h0, _⟩ := er.dct i _ _ e0
    refine ⟨.ref a, ea, wk B S H σ ρ _ _ er q fun c u H1 p1 s1 r1 => ?_⟩
    obtain ⟨kk, j, d, rfl, ek, ed, p1⟩ := p1
    obtain ⟨a', ea', _, _, hd1⟩ := (er.go s1).dct i _ _ e0
    rw [ea] at ea'; cases ea'
    obtain ⟨kss, bs, xs, rfl, nd, lo, hz, lb, lx, hH, rk, rd⟩ := dctT hd1
    rw [List.getElem?_map] at ek
    obtain ⟨q, eq, eqq⟩ := Option.map_eq_some_iff.mp ek
    cases kD_inj eqq
    obtain ⟨v, ev, rv⟩ := rd.get ed
    exact ⟨a, S, kss, bs, xs, _, j, v, rfl, ⟨nd, lo, hz, lb, lx, hH, rk⟩, r1, eq, ev, hd d v H1 p1 s1 rv⟩
  · exact q.elim
end
end D3

set_option Elab.async false
set_option linter.all false
set_option maxRecDepth 100000
set_option maxHeartbeats 4000000
namespace D3
open PySem PySem.Spec PyProof.Rows L2
section
open PySem.W
variable {X : Cx} {pins : List (Addr × Obj)} {σ : L2.St} {H : Hp} {s : Shared} {S : Addr → Prop}
theorem katLex {prog : Program} {w : World} {A : Around} {Q : Bool → Shared → Prop} (I : Inv X pins σ H s) (hu : A.units + 10 < cLine) : ∀ {ds es : List D} {xs ys : List V} {us ws : List Value} {n : Nat} {fin : Bool}, Reps X.K S H ds xs → Reps X.K S H es ys → Vals xs us → Vals ys ws →
    (∀ d ∈ ds, Ord 1 d) → (∀ d ∈ es, Ord 1 d) → fin = decide (ds.length < es.length) → Q (cmpDs (fun a b => decide (a < b)) (fun a b => decide (a < b)) ds es) s → KatLex prog w A false fin Q (us.zip ws) n s
  | [], es, xs, ys, us, ws, n, fin, r, r', v, v', _, _, hf, h => by
    simp only [Reps] at r; subst r; cases v
    rw [List.zip_nil_left]
    have e : cmpDs (fun a b => decide (a < b)) (fun a b => decide (a < b)) [] es = fin := by rw [hf]; cases es <;> simp only [cmpDs, List.length_nil]
    rw [e] at h
    exact kat_nil h
  | d :: ds, [], xs, ys, us, ws, n, fin, r, r', v, v', _, _, hf, h => by
    simp only [Reps] at r'; subst r'; cases v'
    rw [List.zip_nil_right]
    have e : cmpDs (fun a b => decide (a < b)) (fun a b => decide (a < b)) (d :: ds) [] = fin := by rw [hf]; simp only [cmpDs, List.length_nil]
    rw [e] at h
    exact kat_nil h
  | d :: ds, e :: es, xs, ys, us, ws, n, fin, r, r', v, v', o1, o2, hf, h => by
    simp only [Reps] at r r'
    obtain ⟨x, xs, rfl, rx, r⟩ := r
    obtain ⟨y, ys, rfl, ry, r'⟩ := r'
    cases v with
    | cons hx v =>
      cases v' with
      | cons hy v' =>
        rw [List.zip_cons_cons]
        have od := o1 d List.mem_cons_self
        have oe := o2 e List.mem_cons_self
        refine kat_cons (eqAt_D I 1 d e x y _ _ A od.dep (by omega) rx ry hx hy prog w _ _ ?_)
        simp only [cmpDs] at h
        cases c : eqD d e with
        | false =>
          rw [c, if_neg Bool.false_ne_true] at h
          exact kat_no (kat_one _ _ (rcLtD I od oe (by omega) rx ry hx hy prog w _ _ h))
        | true =>
          rw [c, if_pos rfl] at h
          exact kat_yes (katLex I hu r r' v v' (fun d hd => o1 d (List.mem_cons_of_mem _ hd)) (fun d hd => o2 d (List.mem_cons_of_mem _ hd)) (by rw [hf]; simp) h)
theorem ord_rows (kk : List (List Int)) : ∀ d ∈ kk.map (fun ns => D.tup (ns.map .int)), Ord 1 d := fun d hd => by
  obtain ⟨ns, _, rfl⟩ := List.mem_map.mp hd
  refine .tup fun e he => ?_
  obtain ⟨n, _, rfl⟩ := List.mem_map.mp he
  exact .int n
theorem key_lt2 {prog : Program} {w : World} {E : Value → Shared → Prop} {A : Around} {Q : Bool → Shared → Prop} {kk kk' : List (List Int)} {v v' : V} {u u' : Value} (I : Inv X pins σ H s) (hu : A.units + 10 < cLine) (r : Rep X.K S H (kD kk) v) (r' : Rep X.K S H (kD kk') v') (ru : RelV v u) (ru' : RelV v' u') (h : Q (ltD (kD kk) (kD kk')) s) : wpAny (model prog w) A (keyLt' (tuples' false) u u') Q E s := by
  obtain ⟨a, xs, rfl, q, rs⟩ := rep_tup r
  obtain ⟨a', xs', rfl, q', rs'⟩ := rep_tup r'
  cases (show u = Value.ref a from ru)
  cases (show u' = Value.ref a' from ru')
  obtain ⟨its, rv, ⟨o, ho, hc, n, hd⟩, _⟩ := I.tuple q
  obtain ⟨its', rv', ⟨o', ho', hc', n', hd'⟩, _⟩ := I.tuple q'
  refine kat_lt ho hd ho' hd' (katLex I hu rs rs' (by rw [List.toList_toArray]; exact rv) (by rw [List.toList_toArray]; exact rv') (ord_rows kk) (ord_rows kk') ?_ ?_)
  · rw [List.size_toArray, List.size_toArray, ← rv.length, ← rv'.length, ← rs.len, ← rs'.len]
  · simpa only [ltD, kD, cmpD] using h
theorem key_kind2 (I : Inv X pins σ H s) {M : Model} : ∀ {kss : List (List (List Int))} {bs : List Addr}, (∀ k ∈ kss, k ≠ []) → Reps X.K S H (kss.map kD) (bs.map V.ref) → ∃ fs, KatTups s.heap (bs.map Value.ref) fs ∧ fs.length = bs.length ∧ ∀ v ∈ fs, Looks M s.heap (typeOf v) (.type "tuple")
  | [], bs, _, r => by
    simp only [List.map_nil, Reps] at r
    have : bs = [] := by cases bs with | nil => rfl | cons => cases r
    subst this
    exact ⟨[], .nil, rfl, (fun _ h => by cases h)⟩
  | k :: kss, bs, hk, r => by
    simp only [List.map_cons, Reps] at r
    obtain ⟨x, xs, e, rx, r⟩ := r
    cases bs with
    | nil => cases e
    | cons b bs =>
      rw [List.map_cons] at e
      cases e
      obtain ⟨fs, t, l, ht⟩ := key_kind2 I (M := M) (fun d hd => hk d (List.mem_cons_of_mem _ hd)) r
      obtain ⟨a, ys, e, q, rs⟩ := rep_tup rx
      cases e
      obtain ⟨its, rv, ⟨o, ho, hc, n, hd⟩, _⟩ := I.tuple q
      cases k with
      | nil => exact absurd rfl (hk [] List.mem_cons_self)
      | cons ns kk =>
        simp only [List.map_cons, Reps] at rs
        obtain ⟨y, ys, rfl, ry, rs⟩ := rs
        cases rv with
        | cons hy rv =>
          obtain ⟨c, rfl, hcc⟩ := is1 I ry hy
          obtain ⟨o2, items, n2, ho2, hc2, hd2, _⟩ := hcc
          refine ⟨.ref c :: fs, KatTups.cons ho hc hd (by simp) t, by simp [l], fun v hv => ?_⟩
          rcases List.mem_cons.mp hv with rfl | hv
          · rw [← hc2]
            exact (show Looks M s.heap (typeOf (.ref c)) o2.cls from (Looks.ld ho2).andThen .now)
          · exact ht v hv
theorem ents_keys : ∀ {kss : List (List (List Int))} {bs : List Addr} {us : List Value}, kss.length = bs.length → kss.length = us.length → (ents kss bs us).map (·.key) = bs.map Value.ref
  | [], [], _, _, _ => rfl
  | [], _ :: _, _, h, _ => by simp at h
  | _ :: _, [], _, h, _ => by simp at h
  | _ :: _, _ :: _, [], _, h => by simp at h
  | k :: kss, b :: bs, u :: us, h1, h2 => by
    show _ :: (ents kss bs us).map (·.key) = _ :: _
    rw [ents_keys (by simpa using h1) (by simpa using h2)]
theorem vals_refs : ∀ bs : List Addr, Vals (bs.map V.ref) (bs.map Value.ref)
  | [] => .nil
  | _ :: bs => .cons rfl (vals_refs bs)
end
end D3

set_option Elab.async false
set_option linter.all false
set_option maxRecDepth 100000
set_option maxHeartbeats 4000000
namespace D3
open PySem PySem.Spec PyProof.Rows L2
section
variable {X : Cx} {pos : Pos}
end
section
variable {X : Cx} {xs M : List Str} {scope : Scope} {target elt o : Expr} {ifs : List Expr} {pos : Pos} {g : G3} {tt : B3} {te : E3} {n i : Nat}
end
section
open PySem.SeqAt
open PySem.AutoSeq1 (wpAny_loadPart')
open PySem.MeetsSeq PySem.MeetsSeq2 PySem.MeetsSeq3
end
section
variable {X : Cx}
end
section
variable {X : Cx} {i : Nat} {st : Stmt} {rest : List Stmt} {t u : S3} {e : Expr} {te : E3} {pos : Pos}
end
section
open PySem.W
end
end D3

set_option Elab.async false
set_option linter.all false
set_option maxRecDepth 100000
set_option maxHeartbeats 4000000
namespace D3
open PySem PySem.Spec PyProof.Rows L2 PySem.W
structure PS where
  a : Array Nat
  pd : Array (Nat × Nat × Nat)
  g : Nat
noncomputable abbrev PM := StateT PS Option
structure SX (n : Nat) (c : Nat → Nat → Bool) where
  prog : Program
  w : World
  A : Around
  E : Value → Shared → Prop
  s : Shared
  κ : SortKind
  it : Array Keyed
  hc : ∀ i j, i < n → j < n → ∀ C : Bool → Shared → Prop, C (c i j) s → wpAny (model prog w) A (keyLt' κ (kas_item it i).1 (kas_item it j).1) C (fun _ _ => False) s
variable {n : Nat} {c : Nat → Nat → Bool}
noncomputable def SX.st (X : SX n c) (p : PS) : SortSt := SortSt.mk' X.κ (p.a.map (kas_item X.it)) p.pd p.g none
noncomputable def Sim (X : SX n c) {α' α : Type} (φ : α' → α) (p : PM α') (m : StateT SortSt Sem α) : Prop :=
  ∀ ps a' ps', p.run ps = some (a', ps') → ∀ Q : α → SortSt → Prop, Q (φ a') (X.st ps') → wpS (model X.prog X.w) X.A X.E X.s m Q (X.st ps)
section
variable {X : SX n c} {α' α β' β : Type} {φ : α' → α} {ψ : β' → β}
theorem sim_pure {a' : α'} {a : α} (e : φ a' = a) : Sim X φ (pure a') (pure a) := fun ps b ps' h Q q => by
  subst e
  have h : some (a', ps) = some (b, ps') := h
  cases h
  exact wpS_pure q
theorem sim_bind {p : PM α'} {m : StateT SortSt Sem α} {f' : α' → PM β'} {f : α → StateT SortSt Sem β} (h1 : Sim X φ p m) (h2 : ∀ a', Sim X ψ (f' a') (f (φ a'))) : Sim X ψ (p >>= f') (m >>= f) := fun ps b ps' h Q q => by
  rw [StateT.run_bind] at h
  cases e : p.run ps with
  | none => rw [e] at h; cases h
  | some z =>
    rw [e] at h
    exact wpS_bind (h1 ps z.1 z.2 e _ (h2 z.1 z.2 b ps' h Q q))
theorem sim_fail {m : StateT SortSt Sem α} : Sim X φ failure m := fun ps b ps' h => by cases h
theorem sim_get {f' : PS → PM β'} {f : SortSt → StateT SortSt Sem β} (h : ∀ ps, Sim X ψ (f' ps) (f (X.st ps))) : Sim X ψ (get >>= f') (get >>= f) := sim_bind (φ := X.st) (fun ps b ps' h Q q => by
  have h : some (ps, ps) = some (b, ps') := h
  cases h
  exact wpS_get q) h
theorem sim_modify {f' : PS → PS} {f : SortSt → SortSt} (e : ∀ ps, f (X.st ps) = X.st (f' ps)) : Sim X (fun _ : PUnit => PUnit.unit) (modify f') (modify f) := fun ps b ps' h Q q => by
  have h : some (PUnit.unit, f' ps) = some (b, ps') := h
  cases h
  exact wpS_modify (by rw [e]; exact q)
theorem sim_set {s' : PS} {s : SortSt} {p : PUnit → PM β'} {m : PUnit → StateT SortSt Sem β} (e : s = X.st s') (h : Sim X ψ (p ⟨⟩) (m ⟨⟩)) : Sim X ψ (set s' >>= p) (set s >>= m) := fun ps b ps' h0 Q q => by
  subst e
  refine wpS_bind ?_
  unfold wpS
  show wpAny _ _ (pure (PUnit.unit, X.st s') : Sem _) _ _ _
  exact wpAny_pure ⟨rfl, h s' b ps' h0 Q q⟩
theorem sim_rule {x : String} {p : PM β'} {f : Unit → StateT SortSt Sem β} (h : Sim X ψ p (f ())) : Sim X ψ p (liftM (rule x) >>= f) := fun ps b ps' e Q q => by
  refine wpS_bind ?_
  unfold wpS
  show wpAny _ _ ((StateT.lift (rule x) : StateT SortSt Sem Unit).run _) _ _ _
  rw [StateT.run_lift]
  exact wpAny_bind (wpAny_rule (wpAny_pure ⟨rfl, h ps b ps' e Q q⟩))
noncomputable def stp (φ : α' → α) : ForInStep α' → ForInStep α
  | .done b => .done (φ b)
  | .yield b => .yield (φ b)
theorem sim_for {f' : Nat → α' → PM (ForInStep α')} {f : Nat → α → StateT SortSt Sem (ForInStep α)} (h : ∀ x b', Sim X (stp φ) (f' x b') (f x (φ b'))) : ∀ (l : List Nat) (b' : α') (b : α), φ b' = b → Sim X φ (forIn l b' f') (forIn l b f)
  | [], b', b, e => by rw [List.forIn_nil, List.forIn_nil]; exact sim_pure e
  | x :: l, b', b, e => by
    subst e
    rw [List.forIn_cons, List.forIn_cons]
    refine sim_bind (h x b') fun r => ?_
    cases r with
    | done c => exact sim_pure rfl
    | yield c => exact sim_for h l c _ rfl
theorem sim_range {a e : Nat} {f' : Nat → α' → PM (ForInStep α')} {f : Nat → α → StateT SortSt Sem (ForInStep α)} {b' : α'} {b : α} (eb : φ b' = b) (h : ∀ x b', Sim X (stp φ) (f' x b') (f x (φ b'))) : Sim X φ (forIn (List.range' a (e - a)) b' f') (forIn [a:e] b f) := by
  rw [Std.Legacy.Range.forIn_eq_forIn_range']
  have hsz : ([a:e] : Std.Legacy.Range).size = e - a := by simp [Std.Legacy.Range.size]
  show Sim X φ _ (forIn (List.range' a ([a:e] : Std.Legacy.Range).size 1) b f)
  rw [hsz]
  exact sim_for h _ _ _ eb
theorem sim_ite {d : Prop} {i : Decidable d} [Decidable d] {p q : PM α'} {m k : StateT SortSt Sem α} (h1 : Sim X φ p m) (h2 : Sim X φ q k) : Sim X φ (if d then p else q) (@ite _ d i m k) := by
  by_cases hc : d
  · rw [if_pos hc, if_pos hc]; exact h1
  · rw [if_neg hc, if_neg hc]; exact h2
end
section
variable {X : SX n c} {α' α β' β ρ' ρ σ' σ : Type} {ψ : β' → β} {φ : α' → α} {φr : ρ' → ρ} {φs : σ' → σ}
noncomputable def optP (p : PM β') (q : α' → PM β') : Option α' → PM β'
  | none => p
  | some a => q a
theorem sim_bindO {p : PM (Option α')} {m : StateT SortSt Sem (Option α')} {f0 : PM β'} {f1 : α' → PM β'} {f : Option α' → StateT SortSt Sem β} (h : Sim X id p m) (h0 : Sim X ψ f0 (f none)) (h1 : ∀ a, Sim X ψ (f1 a) (f (some a))) : Sim X ψ (p >>= optP f0 f1) (m >>= f) :=
  sim_bind h fun a => by
    cases a with
    | none => exact h0
    | some a => exact h1 a
noncomputable def phS (φr : ρ' → ρ) (φs : σ' → σ) : Option ρ' × σ' → Option ρ × σ := fun b => (b.1.map φr, φs b.2)
theorem sim_loop {a e : Nat} {f' : Nat → Option ρ' → σ' → PM (ForInStep (Option ρ' × σ'))} {f : Nat → Option ρ × σ → StateT SortSt Sem (ForInStep (Option ρ × σ))} {s0' : σ'} {s0 : σ} {kn : σ' → PM β'} {kr : σ' → ρ' → PM β'} {k : Option ρ × σ → StateT SortSt Sem β} (e0 : φs s0' = s0)
    (hb : ∀ x o s1, Sim X (stp (phS φr φs)) (f' x o s1) (f x (o.map φr, φs s1))) (hr : ∀ r s1, Sim X ψ (kr s1 r) (k (some (φr r), φs s1))) (hn : ∀ s1, Sim X ψ (kn s1) (k (none, φs s1))) :
    Sim X ψ (forIn (List.range' a (e - a)) (none, s0') (fun x b => f' x b.1 b.2) >>= fun b => optP (kn b.2) (kr b.2) b.1) (forIn [a:e] (none, s0) f >>= k) :=
  sim_bind (φ := phS φr φs) (sim_range (by subst e0; rfl) fun x b => hb x b.1 b.2) fun b => by
    obtain ⟨o, s1⟩ := b
    cases o with
    | none => exact hn s1
    | some r => exact hr r s1
theorem sim_done {s' : σ'} {s : σ} (e : φs s' = s) : Sim X (stp (phS φr φs)) (pure (.done (none, s'))) (pure (.done (none, s))) := sim_pure (by subst e; rfl)
theorem sim_ret {r' : ρ'} {r : ρ} {s' : σ'} {s : σ} (er : φr r' = r) (e : φs s' = s) : Sim X (stp (phS φr φs)) (pure (.done (some r', s'))) (pure (.done (some r, s))) := sim_pure (by subst e; subst er; rfl)
theorem sim_yield {s' : σ'} {s : σ} (e : φs s' = s) : Sim X (stp (phS φr φs)) (pure (.yield (none, s'))) (pure (.yield (none, s))) := sim_pure (by subst e; rfl)
noncomputable def frs {τ : Type} (f : α' → α) : Array α' × τ → Array α × τ := fun s => (s.1.map f, s.2)
theorem sim_loopA {τ : Type} {g : α' → α} {a e : Nat} {f' : Nat → Option ρ' → Array α' × τ → PM (ForInStep (Option ρ' × Array α' × τ))} {f : Nat → Option ρ × Array α × τ → StateT SortSt Sem (ForInStep (Option ρ × Array α × τ))} {s0' : Array α'} {s0 : Array α} {t0 : τ} {kn : Array α' × τ → PM β'} {kr : Array α' × τ → ρ' → PM β'} {k : Option ρ × Array α × τ → StateT SortSt Sem β} (e0 : s0'.map g = s0)
    (hb : ∀ x o s1, Sim X (stp (phS φr (frs g))) (f' x o s1) (f x (o.map φr, s1.1.map g, s1.2))) (hr : ∀ r s1, Sim X ψ (kr s1 r) (k (some (φr r), s1.1.map g, s1.2))) (hn : ∀ s1, Sim X ψ (kn s1) (k (none, s1.1.map g, s1.2))) :
    Sim X ψ (forIn (List.range' a (e - a)) (none, s0', t0) (fun x b => f' x b.1 b.2) >>= fun b => optP (kn b.2) (kr b.2) b.1) (forIn [a:e] (none, s0, t0) f >>= k) :=
  sim_loop (φs := frs g) (s0' := (s0', t0)) (by subst e0; rfl) hb hr hn
noncomputable def frs3 {τ υ ω : Type} (f : α' → α) : τ × υ × Array α' × ω → τ × υ × Array α × ω := fun s => (s.1, s.2.1, s.2.2.1.map f, s.2.2.2)
theorem mp_st3 {τ υ ω : Type} {f : α' → α} {t : τ} {y : υ} {x : Array α'} {u : Array α} {v : ω} (e : x.map f = u) : frs3 f (t, y, x, v) = (t, y, u, v) := by subst e; rfl
theorem sim_loopC {τ υ ω : Type} {g : α' → α} {a e : Nat} {f' : Nat → Option ρ' → τ × υ × Array α' × ω → PM (ForInStep (Option ρ' × τ × υ × Array α' × ω))} {f : Nat → Option ρ × τ × υ × Array α × ω → StateT SortSt Sem (ForInStep (Option ρ × τ × υ × Array α × ω))} {s0' : Array α'} {s0 : Array α} {t0 : τ} {y0 : υ} {z0 : ω} {kn : τ × υ × Array α' × ω → PM β'} {kr : τ × υ × Array α' × ω → ρ' → PM β'} {k : Option ρ × τ × υ × Array α × ω → StateT SortSt Sem β} (e0 : s0'.map g = s0)
    (hb : ∀ x o s1, Sim X (stp (phS φr (frs3 g))) (f' x o s1) (f x (o.map φr, s1.1, s1.2.1, s1.2.2.1.map g, s1.2.2.2))) (hr : ∀ r s1, Sim X ψ (kr s1 r) (k (some (φr r), s1.1, s1.2.1, s1.2.2.1.map g, s1.2.2.2))) (hn : ∀ s1, Sim X ψ (kn s1) (k (none, s1.1, s1.2.1, s1.2.2.1.map g, s1.2.2.2))) :
    Sim X ψ (forIn (List.range' a (e - a)) (none, t0, y0, s0', z0) (fun x b => f' x b.1 b.2) >>= fun b => optP (kn b.2) (kr b.2) b.1) (forIn [a:e] (none, t0, y0, s0, z0) f >>= k) :=
  sim_loop (φs := frs3 g) (s0' := (t0, y0, s0', z0)) (by subst e0; rfl) hb hr hn
theorem mp_st {τ : Type} {f : α' → α} {x : Array α'} {u : Array α} {v : τ} (e : x.map f = u) : frs f (x, v) = (u, v) := by subst e; rfl
theorem mp_app {f : α' → α} {x y : Array α'} {u v : Array α} (e : x.map f = u) (e2 : y.map f = v) : (x ++ y).map f = u ++ v := by subst e; subst e2; simp
theorem mp_push {f : α' → α} {x : Array α'} {u : Array α} {z : α'} {w : α} (e : x.map f = u) (e2 : f z = w) : (x.push z).map f = u.push w := by subst e; subst e2; simp
theorem mp_ext {f : α' → α} {x : Array α'} {u : Array α} {i j : Nat} (e : x.map f = u) : (x.extract i j).map f = u.extract i j := by subst e; simp
theorem mp_rev {f : α' → α} {x : Array α'} {u : Array α} (e : x.map f = u) : x.reverse.map f = u.reverse := by subst e; simp
theorem mp_one {f : α' → α} {z : α'} {w : α} (e : f z = w) : (#[z] : Array α').map f = #[w] := by subst e; simp
end
noncomputable def elemP (arr : Array Nat) (i : Nat) : PM Nat := match arr[i]? with
  | some x => pure x
  | none => failure
noncomputable def ltP (n : Nat) (c : Nat → Nat → Bool) (x y : Nat) : PM (Option Bool) := if x < n ∧ y < n then pure (some (c x y)) else failure
noncomputable def ltAtP (n : Nat) (c : Nat → Nat → Bool) (i j : Nat) : PM (Option Bool) := do
  let a := (← get).a
  ltP n c (← elemP a i) (← elemP a j)
noncomputable def revP (i j : Nat) : PM Unit := modify fun s => { s with a := mirror s.a i j ((j - i) / 2) }
noncomputable def moveP (src dst : Nat) : PM Unit := modify fun s => { s with a := bubble s.a src (src - dst) }
section
variable {X : SX n c}
theorem sim_elem (arr : Array Nat) (i : Nat) : Sim X (kas_item X.it) (elemP arr i) (elem' (arr.map (kas_item X.it)) i) := by
  rw [elem'_eq]
  unfold elemP
  rw [Array.getElem?_map]
  cases arr[i]? with
  | none => exact sim_fail
  | some x => exact sim_pure rfl
theorem sim_lt (x y : Nat) : Sim X id (ltP n c x y) (lt' (kas_item X.it x) (kas_item X.it y)) := by
  unfold ltP
  by_cases h : x < n ∧ y < n
  · rw [if_pos h]
    intro ps b ps' e Q q
    have e : some (some (c x y), ps) = some (b, ps') := e
    cases e
    rw [lt'_eq]
    refine wpS_bind (wpS_get ?_)
    refine wpS_bind ?_
    unfold wpS
    show wpAny _ _ ((StateT.lift (keyLt' (kindOf (X.st ps)) (kas_item X.it x).1 (kas_item X.it y).1).attempt : StateT SortSt Sem _).run _) _ _ _
    rw [StateT.run_lift]
    exact wpAny_bind (wpAny_attempt (wpAny_mono (X.hc x y h.1 h.2 (fun b s' => s' = X.s ∧ b = c x y) ⟨rfl, rfl⟩) (fun b s' hb => by obtain ⟨rfl, rfl⟩ := hb; exact wpAny_pure ⟨rfl, wpS_pure q⟩) fun _ _ hF => hF.elim))
  · rw [if_neg h]; exact sim_fail
theorem sim_ltAt (i j : Nat) : Sim X id (ltAtP n c i j) (ltAt' i j) := by
  rw [ltAt'_eq]
  unfold ltAtP
  exact sim_get fun ps => sim_bind (sim_elem ps.a i) fun x => sim_bind (sim_elem ps.a j) fun y => sim_lt x y
theorem mirror_map {α β : Type} (f : α → β) (xs : Array α) (i j d : Nat) : mirror (xs.map f) i j d = (mirror xs i j d).map f := kas_swaps_map f _ _ _ xs
theorem bubble_map {α β : Type} (f : α → β) (xs : Array α) (i d : Nat) : bubble (xs.map f) i d = (bubble xs i d).map f := kas_swaps_map f _ _ _ xs
theorem sim_rev (i j : Nat) : Sim X (fun _ : Unit => ()) (revP i j) (reverseSlice' i j) := by
  rw [reverseSlice'_eq]
  exact sim_modify fun ps => by
    show SortSt.mk' _ (mirror (ps.a.map (kas_item X.it)) i j _) _ _ _ = _
    rw [mirror_map]; rfl
theorem sim_move (i j : Nat) : Sim X (fun _ : Unit => ()) (moveP i j) (moveDown' i j) := by
  rw [moveDown'_eq]
  exact sim_modify fun ps => by
    show SortSt.mk' _ (bubble (ps.a.map (kas_item X.it)) i _) _ _ _ = _
    rw [bubble_map]; rfl
end
structure Pl (n : Nat) (c : Nat → Nat → Bool) {α' α : Type} (φ : SX n c → α' → α) (m : SX n c → StateT SortSt Sem α) where
  p : PM α'
  ok : ∀ X, Sim X (φ X) p (m X)
end D3

set_option Elab.async false
set_option linter.all false
set_option maxRecDepth 100000
set_option maxHeartbeats 40000000
namespace D3
open PySem PySem.Spec PyProof.Rows L2 PySem.W
noncomputable def countW (n : Nat) (c : Nat → Nat → Bool) (lo nrem : Nat) : Pl n c (fun _ => id) (fun _ => countRun' lo nrem) := ⟨_, fun X => by
  rw [countRun'_eq]
  dsimp only
  repeat' (first
    | with_reducible apply sim_bindO (sim_ltAt _ _) ?_ (fun r => ?_)
    | with_reducible apply sim_bind (sim_rev _ _) fun _ => ?_
    | with_reducible apply sim_rule ?_
    | with_reducible exact sim_done rfl
    | with_reducible exact sim_yield rfl
    | with_reducible exact sim_ret rfl rfl
    | with_reducible exact sim_pure rfl
    | apply sim_ite ?_ ?_
    | apply sim_loop (φr := id) (φs := id) rfl (fun x o b => ?_) (fun r b => ?_) (fun b => ?_)
    | dsimp only [id])⟩
noncomputable def binW (n : Nat) (c : Nat → Nat → Bool) (lo k ok : Nat) : Pl n c (fun _ => id) (fun _ => binarySort' lo k ok) := ⟨_, fun X => by
  rw [binarySort'_eq]
  dsimp only
  repeat' (first
    | with_reducible apply sim_bindO (sim_ltAt _ _) ?_ (fun r => ?_)
    | with_reducible apply sim_bind (sim_move _ _) fun _ => ?_
    | with_reducible exact sim_done rfl
    | with_reducible exact sim_yield rfl
    | with_reducible exact sim_ret rfl rfl
    | with_reducible exact sim_pure rfl
    | exact sim_ret (s' := ()) rfl rfl
    | exact sim_yield (s' := ()) rfl
    | exact sim_done (s' := ()) rfl
    | apply sim_ite ?_ ?_
    | apply sim_loop (φr := id) (φs := id) rfl (fun x o b => ?_) (fun r b => ?_) (fun b => ?_)
    | dsimp only [id])⟩
noncomputable def gallopS : Bool → Keyed → Array Keyed → Nat → Nat → Nat → StateT SortSt Sem (Option Nat) := sortPriv% PySem.Builtin.gallop
noncomputable def mergeLoS : Array Keyed → Array Keyed → StateT SortSt Sem (Array Keyed) := sortPriv% PySem.Builtin.mergeLo
noncomputable def mergeHiS : Array Keyed → Array Keyed → StateT SortSt Sem (Array Keyed) := sortPriv% PySem.Builtin.mergeHi
section
variable {n : Nat} {c : Nat → Nat → Bool} {X : SX n c}
theorem sim_elemQ (arr : Array Nat) (i : Nat) : Sim X (kas_item X.it) (elemP arr i) ((sortPriv% PySem.Builtin.elem) (arr.map (kas_item X.it)) i) := sim_elem arr i
theorem sim_ltQ (x y : Nat) : Sim X id (ltP n c x y) ((sortPriv% PySem.Builtin.lt) (kas_item X.it x) (kas_item X.it y)) := sim_lt x y
end
noncomputable def galW (n : Nat) (c : Nat → Nat → Bool) (left : Bool) (key : Nat) (arr : Array Nat) (base k hint : Nat) : Pl n c (fun _ => id) (fun X => gallopS left (kas_item X.it key) (arr.map (kas_item X.it)) base k hint) := ⟨_, fun X => by
  show Sim X id _ (gallopS left (kas_item X.it key) (arr.map (kas_item X.it)) base k hint)
  apply sim_bindO ?_ ?_ (fun r => ?_)
  all_goals (try dsimp only)
  all_goals repeat' (first
    | with_reducible apply sim_bind (sim_elemQ _ _) fun x => ?_
    | with_reducible exact sim_ltQ _ _
    | with_reducible apply sim_bind (sim_ltQ _ _) fun r => ?_
    | with_reducible exact sim_done rfl
    | with_reducible exact sim_yield rfl
    | with_reducible exact sim_ret rfl rfl
    | with_reducible exact sim_pure rfl
    | apply sim_ite ?_ ?_
    | apply sim_loop (φr := id) (φs := id) rfl (fun x o b => ?_) (fun r b => ?_) (fun b => ?_)
    | with_reducible apply sim_bindO ?_ ?_ (fun r => ?_)
    | dsimp only [id])⟩

noncomputable def setGP (g : Nat) : PM Unit := modify ({ · with g := g })
section
variable {n : Nat} {c : Nat → Nat → Bool} {X : SX n c}
theorem sim_setG (g : Nat) : Sim X (fun _ : Unit => ()) (setGP g) ((sortPriv% PySem.Builtin.setMinGallop) g) := sim_modify fun ps => rfl
theorem sim_galQ (left : Bool) (key : Nat) (arr : Array Nat) (base k hint : Nat) : Sim X id (galW n c left key arr base k hint).p ((sortPriv% PySem.Builtin.gallop) left (kas_item X.it key) (arr.map (kas_item X.it)) base k hint) := (galW n c left key arr base k hint).ok X
end
theorem g_st {n : Nat} {c : Nat → Nat → Bool} (X : SX n c) (ps : PS) : (sortPriv% PySem.Builtin.SortState.minGallop) (X.st ps) = ps.g := rfl
theorem pd_st {n : Nat} {c : Nat → Nat → Bool} (X : SX n c) (ps : PS) : (sortPriv% PySem.Builtin.SortState.pending) (X.st ps) = ps.pd := rfl
theorem a_st {n : Nat} {c : Nat → Nat → Bool} (X : SX n c) (ps : PS) : (sortPriv% PySem.Builtin.SortState.a) (X.st ps) = ps.a.map (kas_item X.it) := rfl
theorem f_st {n : Nat} {c : Nat → Nat → Bool} (X : SX n c) (ps : PS) : (sortPriv% PySem.Builtin.SortState.failed) (X.st ps) = none := rfl
theorem sim_failU {n : Nat} {c : Nat → Nat → Bool} {X : SX n c} {α' α : Type} {φ : α' → α} {x : String} : Sim X φ failure (unsupported x) := sim_fail
end D3

set_option Elab.async false
set_option linter.all false
set_option maxRecDepth 100000
set_option maxHeartbeats 40000000
namespace D3
open PySem PySem.Spec PyProof.Rows L2 PySem.W
noncomputable def mloW (n : Nat) (c : Nat → Nat → Bool) (a b : Array Nat) : Pl n c (fun X => Array.map (kas_item X.it)) (fun X => mergeLoS (a.map (kas_item X.it)) (b.map (kas_item X.it))) := ⟨_, fun X => by
  show Sim X (Array.map (kas_item X.it)) _ (mergeLoS (a.map (kas_item X.it)) (b.map (kas_item X.it)))
  apply sim_rule ?_
  all_goals (try dsimp only)
  all_goals (try simp only [Array.size_map])
  all_goals repeat' (first
    | with_reducible apply sim_ite ?_ ?_
    | with_reducible apply sim_bind (sim_elemQ _ _) fun x => ?_
    | with_reducible apply sim_bind (sim_setG _) fun x => ?_
    | with_reducible apply sim_bindO (sim_ltQ _ _) ?_ (fun r => ?_)
    | with_reducible apply sim_bindO (sim_galQ _ _ _ _ _ _) ?_ (fun r => ?_)
    | with_reducible apply sim_rule ?_
    | with_reducible apply sim_done ?_
    | with_reducible apply sim_yield ?_
    | with_reducible apply sim_ret ?_ ?_
    | with_reducible apply mp_st ?_
    | with_reducible apply mp_app ?_ ?_
    | with_reducible apply mp_push ?_ ?_
    | with_reducible apply mp_ext ?_
    | with_reducible apply mp_rev ?_
    | with_reducible apply mp_one ?_
    | with_reducible rfl
    | with_reducible apply sim_pure ?_
    | with_reducible apply sim_get fun ps => ?_
    | apply sim_ite ?_ ?_
    | apply sim_loopA (φr := Array.map (kas_item X.it)) (g := kas_item X.it) ?_ (fun x o b => ?_) (fun r b => ?_) (fun b => ?_)
    | dsimp only [id, g_st]
    | with_reducible apply sim_failU)⟩
end D3

set_option Elab.async false
set_option linter.all false
set_option maxRecDepth 100000
set_option maxHeartbeats 40000000
namespace D3
open PySem PySem.Spec PyProof.Rows L2 PySem.W
noncomputable def mhiW (n : Nat) (c : Nat → Nat → Bool) (a b : Array Nat) : Pl n c (fun X => Array.map (kas_item X.it)) (fun X => mergeHiS (a.map (kas_item X.it)) (b.map (kas_item X.it))) := ⟨_, fun X => by
  show Sim X (Array.map (kas_item X.it)) _ (mergeHiS (a.map (kas_item X.it)) (b.map (kas_item X.it)))
  apply sim_rule ?_
  all_goals (try dsimp only)
  all_goals (try simp only [Array.size_map])
  all_goals repeat' (first
    | with_reducible apply sim_ite ?_ ?_
    | with_reducible apply sim_bind (sim_elemQ _ _) fun x => ?_
    | with_reducible apply sim_bind (sim_setG _) fun x => ?_
    | with_reducible apply sim_bindO (sim_ltQ _ _) ?_ (fun r => ?_)
    | with_reducible apply sim_bindO (sim_galQ _ _ _ _ _ _) ?_ (fun r => ?_)
    | with_reducible apply sim_rule ?_
    | with_reducible apply sim_done ?_
    | with_reducible apply sim_yield ?_
    | with_reducible apply sim_ret ?_ ?_
    | with_reducible apply mp_st3 ?_
    | with_reducible apply mp_app ?_ ?_
    | with_reducible apply mp_push ?_ ?_
    | with_reducible apply mp_ext ?_
    | with_reducible apply mp_rev ?_
    | with_reducible apply mp_one ?_
    | with_reducible rfl
    | with_reducible apply sim_pure ?_
    | with_reducible apply sim_get fun ps => ?_
    | apply sim_ite ?_ ?_
    | apply sim_loopC (φr := Array.map (kas_item X.it)) (g := kas_item X.it) ?_ (fun x o b => ?_) (fun r b => ?_) (fun b => ?_)
    | dsimp only [id, g_st]
    | (simp only [Bool.and_eq_true, decide_eq_true_eq]; with_reducible apply sim_ite ?_ ?_)
    | with_reducible apply sim_failU)⟩

end D3

set_option Elab.async false
set_option linter.all false
set_option maxRecDepth 100000
set_option maxHeartbeats 40000000
namespace D3
open PySem PySem.Spec PyProof.Rows L2 PySem.W
section
variable {n : Nat} {c : Nat → Nat → Bool} {X : SX n c} {β' β : Type} {ψ : β' → β}
theorem sim_setP {ps : PS} {P : Array (Nat × Nat × Nat)} {p : PM β'} {m : PUnit → StateT SortSt Sem β} (h : Sim X ψ p (m ⟨⟩)) : Sim X ψ (set (PS.mk ps.a P ps.g) >>= fun _ => p) (set (SortSt.mk' X.κ (ps.a.map (kas_item X.it)) P ps.g none) >>= m) := sim_set rfl h
noncomputable def twoP {τ : Type} (u v : Option (Nat × Nat × Nat)) (p : Nat → Nat → Nat → Nat → Nat → Nat → PM τ) : PM τ := match u, v with
  | some x, some y => p x.1 x.2.1 x.2.2 y.1 y.2.1 y.2.2
  | _, _ => failure
theorem sim_two {u v : Option (Nat × Nat × Nat)} {p : Nat → Nat → Nat → Nat → Nat → Nat → PM β'} {m : StateT SortSt Sem β} (h : ∀ x y z x' y' z', u = some (x, y, z) → v = some (x', y', z') → Sim X ψ (p x y z x' y' z') m) : Sim X ψ (twoP u v p) m := by
  unfold twoP
  cases u with
  | none => exact sim_fail
  | some a =>
    cases v with
    | none => exact sim_fail
    | some b => exact h _ _ _ _ _ _ rfl rfl
theorem sim_mloQ (a b : Array Nat) : Sim X (Array.map (kas_item X.it)) (mloW n c a b).p ((sortPriv% PySem.Builtin.mergeLo) (a.map (kas_item X.it)) (b.map (kas_item X.it))) := (mloW n c a b).ok X
theorem sim_mhiQ (a b : Array Nat) : Sim X (Array.map (kas_item X.it)) (mhiW n c a b).p ((sortPriv% PySem.Builtin.mergeHi) (a.map (kas_item X.it)) (b.map (kas_item X.it))) := (mhiW n c a b).ok X
theorem ext_map' {α β : Type} (f : α → β) (a : Array α) (i j : Nat) : (a.map f).extract i j = (a.extract i j).map f := by simp
end
noncomputable def putA (o : Nat) (z a : Array Nat) : Array Nat := (z.toList.zipIdx).foldl (fun a q => a.setIfInBounds (o + q.2) q.1) a
theorem put_map {α β : Type} (f : α → β) (o : Nat) : ∀ (l : List α) (k : Nat) (xs : Array α), ((l.map f).zipIdx k).foldl (fun a (q : β × Nat) => a.setIfInBounds (o + q.2) q.1) (xs.map f) = ((l.zipIdx k).foldl (fun a (q : α × Nat) => a.setIfInBounds (o + q.2) q.1) xs).map f
  | [], _, _ => rfl
  | x :: l, k, xs => by
    rw [List.map_cons, List.zipIdx_cons, List.zipIdx_cons, List.foldl_cons, List.foldl_cons, ← put_map f o l]
    simp
theorem put_st {n : Nat} {c : Nat → Nat → Bool} (X : SX n c) (o : Nat) (z : Array Nat) (ps : PS) : SortSt.mk' X.κ (((z.map (kas_item X.it)).toList.zipIdx).foldl (fun a q => a.setIfInBounds (o + q.2) q.1) (ps.a.map (kas_item X.it))) ps.pd ps.g none = X.st { ps with a := putA o z ps.a } := by
  rw [Array.toList_map, put_map]
  rfl
noncomputable def matW (n : Nat) (c : Nat → Nat → Bool) (i : Nat) : Pl n c (fun _ => id) (fun _ => mergeAt' i) := ⟨_, fun X => by
  show Sim X id _ (mergeAt' i)
  apply sim_get fun ps => ?_
  any_goals apply sim_two (u := ps.pd[i]?) (v := ps.pd[i + 1]?) fun sa na pw sb nb pv eu ev => ?_
  any_goals simp only [a_st, pd_st, g_st, eu, ev, ext_map']
  any_goals apply sim_setP (ps := ps) ?_
  any_goals with_reducible apply sim_bind (sim_elemQ _ _) fun x => ?_
  any_goals with_reducible apply sim_bindO (sim_galQ _ _ _ _ _ _) ?_ (fun k => ?_)
  any_goals with_reducible exact sim_pure rfl
  any_goals with_reducible apply sim_ite ?_ ?_
  any_goals with_reducible exact sim_pure rfl
  any_goals with_reducible apply sim_bind (sim_elemQ _ _) fun y => ?_
  any_goals with_reducible apply sim_bindO (sim_galQ _ _ _ _ _ _) ?_ (fun l => ?_)
  any_goals with_reducible exact sim_pure rfl
  any_goals with_reducible apply sim_ite ?_ ?_
  any_goals with_reducible exact sim_pure rfl
  any_goals with_reducible apply sim_ite ?_ ?_
  any_goals with_reducible apply sim_bind (sim_mloQ _ _) fun z => ?_
  any_goals with_reducible apply sim_bind (sim_mhiQ _ _) fun z => ?_
  any_goals apply sim_bind (sim_modify (f' := fun ps => { ps with a := putA (sa + k) z ps.a }) fun ps => put_st X (sa + k) z ps) fun _ => ?_
  any_goals with_reducible apply sim_get fun ps => ?_
  any_goals simp only [f_st]
  any_goals with_reducible exact sim_pure rfl⟩
end D3

set_option Elab.async false
set_option linter.all false
set_option maxRecDepth 100000
set_option maxHeartbeats 40000000
namespace D3
open PySem PySem.Spec PyProof.Rows L2 PySem.W
section
variable {n : Nat} {c : Nat → Nat → Bool} {X : SX n c} {β' β : Type} {ψ : β' → β}
theorem sim_countQ (lo k : Nat) : Sim X id (countW n c lo k).p (countRun' lo k) := (countW n c lo k).ok X
theorem sim_binQ (lo k ok : Nat) : Sim X id (binW n c lo k ok).p (binarySort' lo k ok) := (binW n c lo k ok).ok X
theorem sim_matQ (i : Nat) : Sim X id (matW n c i).p (mergeAt' i) := (matW n c i).ok X
noncomputable def optT {τ : Type} (u : Option (Nat × Nat × Nat)) (p0 : PM τ) (p1 : Nat → Nat → Nat → PM τ) : PM τ := match u with
  | none => p0
  | some x => p1 x.1 x.2.1 x.2.2
theorem sim_opt {u : Option (Nat × Nat × Nat)} {p0 : PM β'} {p1 : Nat → Nat → Nat → PM β'} {m : StateT SortSt Sem β} (h0 : u = none → Sim X ψ p0 m) (h1 : ∀ x y z, u = some (x, y, z) → Sim X ψ (p1 x y z) m) : Sim X ψ (optT u p0 p1) m := by
  unfold optT
  cases u with
  | none => exact h0 rfl
  | some a => exact h1 _ _ _ rfl
theorem sim_modPush {v : Nat × Nat × Nat} : Sim X (fun _ : PUnit => PUnit.unit) (modify fun ps => PS.mk ps.a (ps.pd.push v) ps.g) (modify fun s => setPending s ((pendingOf s).push v)) := sim_modify fun ps => rfl
theorem sim_modMod {h : Nat × Nat × Nat → Nat × Nat × Nat} : Sim X (fun _ : PUnit => PUnit.unit) (modify fun ps => PS.mk ps.a (ps.pd.modify (ps.pd.size - 1) h) ps.g) (modify fun s => setPending s ((pendingOf s).modify ((pendingOf s).size - 1) h)) := sim_modify fun ps => rfl
end
noncomputable def nextP (p : Array (Nat × Nat × Nat)) (i : Nat) : Nat := if (if i > 0 then p[i - 1]?.map (·.2.1) else none).any (fun x => x < p[i + 1]?.elim 0 (·.2.1)) then i - 1 else i
theorem sim_matE {n : Nat} {c : Nat → Nat → Bool} {X : SX n c} {i j : Nat} (e : j = i) : Sim X id (matW n c i).p (mergeAt' j) := by subst e; exact sim_matQ _
noncomputable def runsW (n : Nat) (c : Nat → Nat → Bool) : Pl n c (fun _ => id) (fun _ => sortRuns') := ⟨_, fun X => by
  rw [sortRuns'_eq]
  dsimp only
  repeat' (first
    | with_reducible apply sim_get fun ps => ?_
    | with_reducible apply sim_bindO (sim_countQ _ _) ?_ (fun r => ?_)
    | with_reducible apply sim_bind (sim_binQ _ _ _) fun r => ?_
    | with_reducible apply sim_bind (sim_matQ _) fun r => ?_
    | with_reducible apply sim_rule ?_
    | with_reducible apply sim_bind sim_modPush fun _ => ?_
    | with_reducible apply sim_bind sim_modMod fun _ => ?_
    | with_reducible exact sim_done rfl
    | with_reducible exact sim_yield rfl
    | with_reducible exact sim_ret rfl rfl
    | with_reducible exact sim_pure rfl
    | exact sim_ret (r' := ()) rfl rfl
    | exact sim_ret (s' := ()) rfl rfl
    | exact sim_ret (r' := ()) (s' := ()) rfl rfl
    | exact sim_yield (s' := ()) rfl
    | exact sim_done (s' := ()) rfl
    | exact sim_pure (a' := ()) rfl
    | with_reducible apply sim_ite ?_ ?_
    | apply sim_ite ?_ ?_
    | apply sim_loop (φr := id) (φs := id) rfl (fun x o b => ?_) (fun r b => ?_) (fun b => ?_)
    | dsimp only [id, a_st, pd_st, g_st]
    | simp only [id, a_st, pd_st, g_st, Array.size_map])
  any_goals apply sim_bind (sim_matE (i := nextP ps.pd (ps.pd.size - 2)) rfl) fun r => ?_
  any_goals apply sim_opt (u := ps.pd.back?) (fun hu => ?_) (fun s1 n1 z1 hu => ?_)
  any_goals simp only [hu]
  all_goals repeat' (first
    | with_reducible apply sim_get fun ps => ?_
    | with_reducible apply sim_bindO (sim_countQ _ _) ?_ (fun r => ?_)
    | with_reducible apply sim_bind (sim_binQ _ _ _) fun r => ?_
    | with_reducible apply sim_bind (sim_matQ _) fun r => ?_
    | with_reducible apply sim_rule ?_
    | with_reducible apply sim_bind sim_modPush fun _ => ?_
    | with_reducible apply sim_bind sim_modMod fun _ => ?_
    | with_reducible exact sim_done rfl
    | with_reducible exact sim_yield rfl
    | with_reducible exact sim_ret rfl rfl
    | with_reducible exact sim_pure rfl
    | exact sim_ret (r' := ()) rfl rfl
    | exact sim_ret (s' := ()) rfl rfl
    | exact sim_ret (r' := ()) (s' := ()) rfl rfl
    | exact sim_yield (s' := ()) rfl
    | exact sim_done (s' := ()) rfl
    | exact sim_pure (a' := ()) rfl
    | with_reducible apply sim_ite ?_ ?_
    | apply sim_ite ?_ ?_
    | apply sim_loop (φr := id) (φs := id) rfl (fun x o b => ?_) (fun r b => ?_) (fun b => ?_)
    | dsimp only [id, a_st, pd_st, g_st]
    | simp only [id, a_st, pd_st, g_st, Array.size_map])
  any_goals simp only [gt_iff_lt]
  any_goals apply sim_opt (u := if 1 < ps.pd.size then ps.pd[ps.pd.size - 2]? else none) (fun hu => ?_) (fun s2 n2 z2 hu => ?_)
  any_goals simp only [hu]
  all_goals repeat' (first
    | with_reducible apply sim_get fun ps => ?_
    | with_reducible apply sim_bindO (sim_countQ _ _) ?_ (fun r => ?_)
    | with_reducible apply sim_bind (sim_binQ _ _ _) fun r => ?_
    | with_reducible apply sim_bind (sim_matQ _) fun r => ?_
    | with_reducible apply sim_rule ?_
    | with_reducible apply sim_bind sim_modPush fun _ => ?_
    | with_reducible apply sim_bind sim_modMod fun _ => ?_
    | with_reducible exact sim_done rfl
    | with_reducible exact sim_yield rfl
    | with_reducible exact sim_ret rfl rfl
    | with_reducible exact sim_pure rfl
    | exact sim_ret (r' := ()) rfl rfl
    | exact sim_ret (s' := ()) rfl rfl
    | exact sim_ret (r' := ()) (s' := ()) rfl rfl
    | exact sim_yield (s' := ()) rfl
    | exact sim_done (s' := ()) rfl
    | exact sim_pure (a' := ()) rfl
    | with_reducible apply sim_ite ?_ ?_
    | apply sim_ite ?_ ?_
    | apply sim_loop (φr := id) (φs := id) rfl (fun x o b => ?_) (fun r b => ?_) (fun b => ?_)
    | dsimp only [id, a_st, pd_st, g_st]
    | simp only [id, a_st, pd_st, g_st, Array.size_map])
  all_goals trace_state⟩
end D3

set_option Elab.async false
set_option linter.all false
set_option maxRecDepth 100000
set_option maxHeartbeats 4000000
namespace D3
open PySem PySem.Spec PyProof.Rows L2
section
open PySem.W
noncomputable def runU (lt : Nat → Nat → Bool) (n : Nat) : Option (List Nat) := if n < 2 then some (List.range n) else ((runsW n lt).p.run ⟨List.toArray (List.range n), #[], 7⟩).map (·.2.a.toList)
section
variable {prog : Program} {w : World} {A : Around} {E : Value → Shared → Prop} {s : Shared} {vs : List Value}
theorem srt_listY {a : Addr} {n : Nat} {P : PySem.Fin → Shared → Prop} {lt : Nat → Nat → Bool} (ho : s.heap.get? a = some (seqObj "list" vs.toArray n)) (h2 : 2 ≤ vs.length) (h64 : vs.length ≤ 1000) {p : List Nat} (hr : runU lt vs.length = some p) (hp : p.length = vs.length)
    (hk : ∀ h', (∀ b o, b ≠ a → s.heap.get? b = some o → h'.get? b = some o) → wpAny (model prog w) A (keyKind' vs.toArray) (fun κ s' => s' = { s with heap := h' } ∧ ∀ i j C, i < vs.length → j < vs.length → C (lt i j) s' → kas_ask prog w A κ vs i j C s') (fun _ _ => False) { s with heap := h' })
    (hP : ∀ c h', (∀ b o, b ≠ a → s.heap.get? b = some o → h'.get? b = some o) → h'.get? a = some (seqObj "list" (List.toArray (p.map fun i => vs.getD i Value.none)) c) → P (.done (.ret .none)) { s with heap := h' }) :
    wpAny (model prog w) A (Builtin.«list.sort» ⟨[.ref a], []⟩) P E s := by
  obtain ⟨e1, ho1⟩ : ∃ e1, (s.heap.update a (Obj.mapSeq fun _ => (#[] : Array Value))).get? a = some (seqObj "list" #[] e1) := ⟨_, get?_update_seq ho fun _ => #[]⟩
  have keep3 : ∀ b o, b ≠ a → s.heap.get? b = some o → (((s.heap.update a (Obj.mapSeq fun _ => (#[] : Array Value))).push (seqObj "tuple" vs.toArray 0)).push (seqObj "list" #[] 0)).get? b = some o := fun b o hb q =>
    Heap.get?_push_of_some _ (Heap.get?_push_of_some _ (by rw [Heap.get?_update_ne _ _ _ _ hb]; exact q))
  have at3 : (((s.heap.update a (Obj.mapSeq fun _ => (#[] : Array Value))).push (seqObj "tuple" vs.toArray 0)).push (seqObj "list" #[] 0)).get? a = some (seqObj "list" #[] e1) := Heap.get?_push_of_some _ (Heap.get?_push_of_some _ ho1)
  have ask := hk _ keep3
  rw [list_sort_plain]
  refine wpAny_bind (listItems_at ho rfl ?_)
  refine wpAny_bind (listUpdate_at ho rfl ?_ (by rw [List.size_toArray, sizeLine_eq]; omega) (Nat.zero_le _))
  refine wpAny_bind (seqEpoch_at ho1 rfl ?_)
  refine wpAny_bind (wpAny_newTuple ?_ (by show vs.length ≤ _; rw [sizeLine_eq]; omega))
  refine wpAny_bind (wpAny_newList ?_ (Nat.zero_le _))
  refine wpAny_holding ?_
  show wpAny (model prog w) A _ P E { s with heap := ((s.heap.update a (Obj.mapSeq fun _ => (#[] : Array Value))).push (seqObj "tuple" vs.toArray 0)).push (seqObj "list" #[] 0) }
  dsimp only
  have hn2 : ¬ vs.toArray.size < 2 := by rw [List.size_toArray]; omega
  rw [if_neg hn2, if_neg hn2]
  generalize hh : ((s.heap.update a (Obj.mapSeq fun _ => (#[] : Array Value))).push (seqObj "tuple" vs.toArray 0)).push (seqObj "list" #[] 0) = h3 at *
  refine wpAny_bind (wpAny_mono ask (fun κ s0 hk => ?_) fun _ _ x => x.elim)
  obtain ⟨rfl, hc⟩ := hk
  unfold runU at hr
  rw [if_neg (by omega)] at hr
  obtain ⟨z, ez, ep⟩ := Option.map_eq_some_iff.mp hr
  obtain ⟨⟨⟩, ps⟩ := z
  let X : SX vs.length lt := ⟨prog, w, A, E, { s with heap := h3 }, κ, vs.toArray.zip vs.toArray, fun i j hi hj C hC => by
    have := hc i j C hi hj hC
    rw [kat_ask_eq (vs := vs) rfl] at this
    exact this⟩
  have run := (runsW vs.length lt).ok X _ _ _ ez (fun _ st => st = X.st ps) rfl
  have est : SortSt.mk' κ (vs.toArray.zip vs.toArray) #[] 7 none = X.st ⟨List.toArray (List.range vs.length), #[], 7⟩ := by
    have e := kas_range (vs.toArray.zip vs.toArray)
    rw [show (vs.toArray.zip vs.toArray).size = vs.length by simp] at e
    show SortSt.mk' κ (vs.toArray.zip vs.toArray) #[] 7 none = SortSt.mk' κ ((List.toArray (List.range vs.length)).map (kas_item (vs.toArray.zip vs.toArray))) #[] 7 none
    rw [e]
  rw [est]
  refine wpAny_bind (wpAny_mono run ?_ fun _ _ e => e)
  rintro ⟨⟨⟩, st'⟩ s' ⟨rfl, est'⟩
  have har : arrOf st' = ps.a.map (kas_item (vs.toArray.zip vs.toArray)) := by rw [show st' = X.st ps from est']; rfl
  have hf : failedOf st' = none := by rw [show st' = X.st ps from est']; rfl
  subst ep
  dsimp only
  have hout := kat_snds rfl har
  have hp : ps.a.size = vs.length := by rw [← Array.length_toList]; exact hp
  have hsz : (List.toArray (ps.a.toList.map fun i => vs.getD i Value.none)).size = vs.length := by rw [List.size_toArray, List.length_map, Array.length_toList, hp]
  rw [hout]
  obtain ⟨c2, hc2⟩ : ∃ c2, (h3.update a (Obj.mapSeq fun _ => List.toArray (ps.a.toList.map fun i => vs.getD i Value.none))).get? a = some (seqObj "list" (List.toArray (ps.a.toList.map fun i => vs.getD i Value.none)) c2) := ⟨_, get?_update_seq at3 fun _ => List.toArray (ps.a.toList.map fun i => vs.getD i Value.none)⟩
  refine wpAny_bind (seqEpoch_at at3 rfl ?_)
  refine wpAny_bind (listUpdate_at at3 rfl ?_ (Nat.zero_le _) (Nat.le_trans (Nat.le_of_eq hsz) (by rw [sizeLine_eq]; omega)))
  rw [hf]
  simp only [bne_self_eq_false, Bool.false_eq_true, if_false]
  exact wpAny_pure (hP c2 _ (fun b o hb q => by rw [Heap.get?_update_ne _ _ _ _ hb]; exact keep3 b o hb q) hc2)
theorem srt_callY {d : Addr} {es : Array DictEntry} {ep : Nat} {Q : Value → Shared → Prop} {lt : Nat → Nat → Bool} (hh : A.handled = none) (lo : (d == sysModules) = false) (hd : DE s.heap d es ep) (h64 : es.size ≤ 1000) {p : List Nat} (hr : runU lt es.size = some p) (hpl : p.length = es.size)
    (hk : 2 ≤ es.size → ∀ h' tk, (∀ b o, s.heap.get? b = some o → h'.get? b = some o) → wpAny (model prog w) A.in1.in1 (keyKind' (es.map (·.key)).toList.toArray) (fun κ s' => s' = { s with heap := h', toks := tk } ∧ ∀ i j C, i < es.size → j < es.size → C (lt i j) s' → kas_ask prog w A.in1.in1 κ (es.map (·.key)).toList i j C s') (fun _ _ => False) { s with heap := h', toks := tk })
    (hQ : ∀ c h' tk D, (∀ b o, s.heap.get? b = some o → h'.get? b = some o) → s.heap.objs.size ≤ D → h'.get? D = some (seqObj "list" (List.toArray (p.map fun i => (es.map (·.key)).toList.getD i Value.none)) c) → Q (.ref D) { s with heap := h', toks := tk }) :
    wpAny (model prog w) A (call (.builtin "sorted") [.ref d]) Q E s := by
  refine Calls.call_function_entry kind_sorted plain_sorted entry_sorted (args_sorted1 _) ?_
  unfold Builtin.«sorted»
  refine wpAny_bind (m := checkCount "sorted" 1 1 _) (wpAny_pure ?_)
  refine wpAny_bind (collectE (A := A.in1) lo hh hd (by rw [sizeLine_eq]; omega) fun h1 tk acc kp hlt hacc => ?_)
  have ea : acc.toList = (es.map (·.key)).toList := by
    refine List.ext_getElem? fun i => ?_
    rw [Array.getElem?_toList, Array.getElem?_toList, Array.getElem?_map]
    by_cases c : i < es.size
    · have h1 : acc[i]? = some (acc[i]'(by rw [hacc.1]; exact c)) := Array.getElem?_eq_getElem _
      obtain ⟨e, he, hv⟩ := hacc.2 i _ h1
      rw [h1, he, hv]; rfl
    · rw [Array.getElem?_eq_none (by rw [hacc.1]; omega), Array.getElem?_eq_none (by omega)]; rfl
  rw [ea]
  have lk : (es.map (·.key)).toList.length = es.size := by simp
  generalize (es.map (·.key)).toList = vs at *
  refine wpAny_bind (wpAny_newList ?_ (by rw [sizeLine_eq]; omega))
  have hoL : (h1.push (seqObj "list" vs.toArray 0)).get? h1.objs.size = some (seqObj "list" vs.toArray 0) := Heap.get?_push_size _ rfl
  have keep : ∀ b o, s.heap.get? b = some o → (h1.push (seqObj "list" vs.toArray 0)).get? b = some o := fun b o q => Heap.get?_push_of_some _ (kp b o q)
  have kp' : ∀ h' : Heap, (∀ b o, b ≠ h1.objs.size → (h1.push (seqObj "list" vs.toArray 0)).get? b = some o → h'.get? b = some o) → ∀ b o, s.heap.get? b = some o → h'.get? b = some o := fun h' k b o q =>
    k b o (Nat.ne_of_lt (Heap.lt_size (kp b o q))) (keep b o q)
  show wpAny _ _ _ _ _ { s with heap := h1.push (seqObj "list" vs.toArray 0), toks := tk }
  refine wpAny_bind (wpAny_holding (wpAny_call_entry slot_list_sort ⟨_, hoL, rfl⟩ entry_list_sort ?body (args_list_sort _)))
  case body =>
    by_cases h2 : es.size < 2
    · refine srt_few (s := { s with heap := h1.push (seqObj "list" vs.toArray 0), toks := tk }) hoL (by omega) fun c h' k e => ?_
      refine ⟨_, rfl, wpAny_pure ⟨_, rfl, hQ c h' tk _ (kp' h' k) (Nat.le_of_lt hlt) ?_⟩⟩
      unfold runU at hr
      rw [if_pos h2] at hr
      cases hr
      have er : (List.range es.size).map (fun i => vs.getD i Value.none) = vs := by
        rw [← lk]
        apply List.ext_getElem
        · simp
        · intro i h1 h2
          simp [List.getD_eq_getElem?_getD, h2]
      rw [er]; exact e
    · refine srt_listY (s := { s with heap := h1.push (seqObj "list" vs.toArray 0), toks := tk }) (lt := lt) hoL (by omega) (by omega) (p := p) (by rw [lk]; exact hr) (by rw [lk]; exact hpl) (fun h' k => ?_) fun c h' k e => ?_
      · have := hk (by omega) h' tk (kp' h' k)
        rw [← lk] at this
        exact this
      · exact ⟨_, rfl, wpAny_pure ⟨_, rfl, hQ c h' tk _ (kp' h' k) (Nat.le_of_lt hlt) e⟩⟩
end
section
variable {X : Cx} {pins : List (Addr × Obj)} {σ : L2.St} {H : Hp} {s : Shared} {S : Addr → Prop}
noncomputable def ltK (ks : List D) : Nat → Nat → Bool := fun i j => ltD (ks.getD i .non) (ks.getD j .non)
theorem call_sortU (hc : X.calm = true) (hu : X.A.units + 20 < cLine) : CallR X (.builtin "sorted") (fun vs H Q => ∃ (a : Addr) (S : Addr → Prop) (kss : List (List (List Int))) (bs : List Addr) (xs : List V), vs = [.ref a] ∧ DT X.K S H a kss bs xs ∧ kss.length ≤ 1000 ∧ (∀ k ∈ kss, k ≠ []) ∧ ∃ p, runU (ltK (kss.map kD)) kss.length = some p ∧ p.length = kss.length ∧ (∀ i ∈ p, i < kss.length) ∧ ∀ zs, Reps X.K S H (p.filterMap ((kss.map kD)[·]?)) zs → ∀ l, H l = none → Q (.ref l) (upd H l (.lst zs))) := by
  intro pins s σ H vs us Q I r h
  obtain ⟨a, S, kss, bs, xs, rfl, ⟨nd, lo, hz, lb, lx, hH, rk⟩, l64, hne, p, hr, hpl, hpi, q⟩ := h
  obtain ⟨u, rfl, ru⟩ := vals1 r
  cases ru
  obtain ⟨⟨us, o, es, ep, v, ho, hcd, hd, he⟩, _⟩ := I.hok a _ hH
  have lu : kss.length = us.length := by rw [lx, v.length]
  have ek : (es.map (·.key)).toList = bs.map Value.ref := by rw [Array.toList_map, he, ents_keys lb lu]
  have sz : es.size = kss.length := by
    have := congrArg List.length ek
    rw [Array.length_toList, Array.size_map, List.length_map] at this
    omega
  refine srt_callY (lt := ltK (kss.map kD)) (I.ok.hd hc) lo ⟨o, ho, hcd, hd⟩ (by omega) (p := p) (by rw [sz]; exact hr) (by rw [sz]; exact hpl) (fun h2 h' tk kp => ?_) fun c h' tk D kp hD e => ?_
  · have I1 : Inv X pins σ H { s with heap := h', toks := tk } := I.kept (t' := tk) kp
    rw [ek]
    obtain ⟨fs, t, lf, ht⟩ := key_kind2 I1 (M := model X.prog X.w) hne rk
    refine kat_kind t (by omega) ht (by decide +kernel) ⟨rfl, fun i j C hi hj hC => ?_⟩
    have one : ∀ {i : Nat}, i < es.size → ∃ kk v, (kss.map kD).getD i .non = kD kk ∧ Rep X.K S H (kD kk) v ∧ RelV v ((bs.map Value.ref).getD i Value.none) := fun {i} hi => by
      have h1 : i < kss.length := by omega
      have h2 : i < bs.length := by omega
      have e1 : (kss.map kD).getD i .non = kD kss[i] := by rw [List.getD_eq_getElem?_getD, List.getElem?_map, List.getElem?_eq_getElem h1]; rfl
      have e2 : (bs.map Value.ref).getD i Value.none = .ref bs[i] := by rw [List.getD_eq_getElem?_getD, List.getElem?_map, List.getElem?_eq_getElem h2]; rfl
      obtain ⟨w, ew, rw'⟩ := rk.get (i := i) (d := kD kss[i]) (by rw [List.getElem?_map, List.getElem?_eq_getElem h1]; rfl)
      rw [List.getElem?_map, List.getElem?_eq_getElem h2] at ew
      cases ew
      exact ⟨kss[i], .ref bs[i], e1, rw', by rw [e2]; rfl⟩
    obtain ⟨kk, v1, e1, r1, u1⟩ := one hi
    obtain ⟨kk', v2, e2, r2, u2⟩ := one hj
    unfold ltK at hC
    rw [e1, e2] at hC
    exact key_lt2 I1 (by show X.A.units + 1 + 1 + 10 < cLine; omega) r1 r2 u1 u2 hC
  · have all : ∀ i ∈ p, i < (bs.map Value.ref).length := fun i hi => by
      rw [List.length_map, ← lb]; exact hpi i hi
    rw [ek, pick_map _ all] at e
    have zv := vals_pick (vals_refs bs) p
    have zr := rk.pick p
    have zl : (p.filterMap ((bs.map V.ref)[·]?)).length ≤ sizeLine := by
      refine Nat.le_trans (List.length_filterMap_le _ _) ?_
      rw [hpl, sizeLine_eq]; omega
    exact ⟨.ref D, _, I.laid (t' := tk) kp hD (show ObjOk X.prog X.w _ h' _ (.lst (p.filterMap ((bs.map V.ref)[·]?))) from ⟨zl, _, c, zv, e⟩), rfl, q _ zr D (I.hok.fresh hD)⟩
noncomputable abbrev fSortU (i : Nat) : A3 := fun ρ Φ => match ρ[i]? with
  | some (.dct (.bl true :: ks) ds) => ks.length ≤ 1000 ∧ (∀ k ∈ ks, k ≠ .tup []) ∧ ∃ p, runU (ltK ks) ks.length = some p ∧ p.length = ks.length ∧ (∀ i ∈ p, i < ks.length) ∧ Φ (p.filterMap (ks[·]?))
  | _ => False
theorem pf_sortU {e : Expr} {i : Nat} {p pos : Pos} (hc : X.calm = true) (hu : X.A.units + 100 < cLine) (hg : Gl X "sorted") (hm : X.mg "sorted" = none) (ho : PE X e (tVar i))
    (he : starEach [e] X.env = (false, eval e X.env) :: starEach [] X.env := by rfl) : PF X (.Call (.Name "sorted" p) [e] [] pos) (fSortU i) := by
  refine ⟨_, pe_callB (call_sortU hc (by omega)) hg hm bt_sorted (pa_cons ho pa_nil he) (by decide) (by decide) he rfl, fun B S H σ ρ Φ Q er q hd => ?_⟩
  unfold fSortU at q
  split at q
  · rename_i ks ds e0
    obtain ⟨a, ea, hsa, h0, hd0⟩ := er.dct i _ _ e0
    obtain ⟨kss, bs, xs, rfl, nd, lo, hz, lb, lx, hH, rk, rd⟩ := dctT hd0
    rw [List.length_map] at q
    obtain ⟨q1, q2, p, q3, q4, q5, q6⟩ := q
    refine ⟨.ref a, ea, a, S, kss, bs, xs, rfl, ⟨nd, lo, hz, lb, lx, hH, rk⟩, q1, fun k hk z => q2 (kD k) (List.mem_map.mpr ⟨k, hk, rfl⟩) (by rw [z]; rfl), p, q3, q4, q5, fun zs rz l hl => hd _ _ l H q6 (Same.refl _) hl rz⟩
  · exact q.elim
end
end
end D3

set_option linter.all false
namespace Mt
theorem fmod_def (a b : Int) : a.fmod b = a - b * a.fdiv b := by
  have := Int.mul_fdiv_add_fmod a b; omega
theorem fmod_lt {a b : Int} (h : b ≠ 0) : (a.fmod b).natAbs < b.natAbs := by
  rw [Int.fmod_eq_emod]
  have h1 := Int.emod_nonneg a h
  have h2 := Int.emod_lt a h
  by_cases hb : 0 ≤ b
  · rw [if_pos (.inl hb)]; omega
  · by_cases hd : b ∣ a
    · rw [if_pos (.inr hd), Int.emod_eq_zero_of_dvd hd]; omega
    · rw [if_neg (by rintro (z | z) <;> contradiction)]
      have h3 : a % b ≠ 0 := fun z => hd (Int.dvd_of_emod_eq_zero z)
      omega
theorem gcd_step (a b : Int) : Int.gcd b (a.fmod b) = Int.gcd a b := by
  rw [fmod_def, Int.mul_comm, Int.gcd_sub_mul_right_right, Int.gcd_comm]
noncomputable def gcdL (ns : List Int) : Int := ns.foldl (fun g x => (Int.gcd g x : Int)) 0
theorem foldl_dvd (d : Int) : ∀ (ns : List Int) (g : Int), d ∣ ns.foldl (fun g x => (Int.gcd g x : Int)) g ↔ d ∣ g ∧ ∀ x ∈ ns, d ∣ x
  | [], g => by simp
  | x :: ns, g => by
    rw [List.foldl_cons, foldl_dvd d ns]
    constructor
    · rintro ⟨h1, h2⟩
      refine ⟨Int.dvd_trans h1 (Int.gcd_dvd_left g x), fun y hy => ?_⟩
      rcases List.mem_cons.mp hy with rfl | hy
      · exact Int.dvd_trans h1 (Int.gcd_dvd_right g y)
      · exact h2 y hy
    · rintro ⟨h1, h2⟩
      exact ⟨Int.dvd_coe_gcd h1 (h2 x List.mem_cons_self), fun y hy => h2 y (List.mem_cons_of_mem _ hy)⟩
theorem dvd_gcdL {d : Int} {ns : List Int} : d ∣ gcdL ns ↔ ∀ x ∈ ns, d ∣ x := by
  unfold gcdL; rw [foldl_dvd]; simp
theorem gcdL_dvd {ns : List Int} {x : Int} (h : x ∈ ns) : gcdL ns ∣ x := dvd_gcdL.mp (Int.dvd_refl _) x h
theorem foldl_nonneg : ∀ (ns : List Int) (g : Int), 0 ≤ g → 0 ≤ ns.foldl (fun g x => (Int.gcd g x : Int)) g
  | [], g, h => h
  | x :: ns, g, h => foldl_nonneg ns _ (Int.natCast_nonneg _)
theorem gcdL_nonneg (ns : List Int) : 0 ≤ gcdL ns := foldl_nonneg ns 0 (Int.le_refl 0)
theorem gcdL_unique {ns : List Int} {g : Int} (h0 : 0 ≤ g) (h1 : ∀ x ∈ ns, g ∣ x) (h2 : ∀ d : Int, (∀ x ∈ ns, d ∣ x) → d ∣ g) : gcdL ns = g :=
  Int.dvd_antisymm (gcdL_nonneg ns) h0 (h2 _ fun x hx => gcdL_dvd hx) (dvd_gcdL.mpr h1)
theorem gcdL_zero {ns : List Int} (h : gcdL ns = 0) : ∀ x ∈ ns, x = 0 := fun x hx => Int.zero_dvd.mp (h ▸ gcdL_dvd hx)
theorem gcdL_le {ns : List Int} {x : Int} (h : x ∈ ns) (h0 : x ≠ 0) : gcdL ns ≤ x.natAbs := by
  have h1 := gcdL_dvd h
  have h2 : gcdL ns ∣ (x.natAbs : Int) := Int.dvd_natAbs.mpr h1
  exact Int.le_of_dvd (by omega) h2
theorem gcdL_pos {ns : List Int} {x : Int} (h : x ∈ ns) (h0 : x ≠ 0) : 0 < gcdL ns := by
  have h1 := gcdL_nonneg ns
  have h2 : gcdL ns ≠ 0 := fun z => h0 (gcdL_zero z x h)
  omega
theorem gcdL_congr {ns ms : List Int} (h : ∀ d : Int, (∀ x ∈ ns, d ∣ x) ↔ ∀ x ∈ ms, d ∣ x) : gcdL ns = gcdL ms :=
  gcdL_unique (gcdL_nonneg ms) (fun x hx => (h _).mpr (fun y hy => gcdL_dvd hy) x hx) fun d hd => dvd_gcdL.mpr ((h d).mp hd)
theorem gcdL_mul (k : Int) (ns : List Int) : gcdL (ns.map (k * ·)) = k.natAbs * gcdL ns := by
  apply Int.dvd_antisymm (gcdL_nonneg _) (Int.mul_nonneg (Int.natCast_nonneg _) (gcdL_nonneg _))
  · by_cases hk : k = 0
    · subst hk; simp
    -- k divides the left, so write it k * m
    have h1 : (k.natAbs : Int) ∣ gcdL (ns.map (k * ·)) := dvd_gcdL.mpr fun x hx => by
      obtain ⟨y, _, rfl⟩ := List.mem_map.mp hx
      exact Int.dvd_trans (Int.natAbs_dvd.mpr (Int.dvd_refl k)) (Int.dvd_mul_right k y)
    obtain ⟨m, hm⟩ := h1
    rw [hm]
    apply Int.mul_dvd_mul_left
    apply dvd_gcdL.mpr
    intro y hy
    have h2 : gcdL (ns.map (k * ·)) ∣ k * y := gcdL_dvd (List.mem_map.mpr ⟨y, hy, rfl⟩)
    rw [hm] at h2
    have h3 : k * m ∣ k * y := by
      rcases Int.natAbs_eq k with e | e
      · rw [e]; rw [← e]; rw [← e] at h2; exact h2
      · have e' : (k.natAbs : Int) = -k := by omega
        rw [e', Int.neg_mul] at h2
        exact Int.neg_dvd.mp h2
    exact Int.dvd_of_mul_dvd_mul_left hk h3
  · apply dvd_gcdL.mpr
    intro x hx
    obtain ⟨y, hy, rfl⟩ := List.mem_map.mp hx
    exact Int.mul_dvd_mul (Int.natAbs_dvd.mpr (Int.dvd_refl k)) (gcdL_dvd hy)
end Mt

set_option linter.all false
namespace Mt
structure Pot (C a' r' a r : Int) : Prop where
  h : (a.natAbs : Int) * r'.natAbs + a'.natAbs * r.natAbs ≤ C
  s : r = 0 ∨ (0 < r ∧ 0 ≤ r') ∨ (r < 0 ∧ r' ≤ 0)
theorem fdiv_same {r' r : Int} (hr : r ≠ 0) (s : (0 < r ∧ 0 ≤ r') ∨ (r < 0 ∧ r' ≤ 0)) : 0 ≤ r'.fdiv r ∧ (r'.natAbs : Int) = r'.fdiv r * r.natAbs + (r'.fmod r).natAbs ∧ ((0 < r ∧ 0 ≤ r'.fmod r) ∨ (r < 0 ∧ r'.fmod r ≤ 0)) := by
  have e := fmod_def r' r
  have lt := fmod_lt (a := r') hr
  rcases s with ⟨h1, h2⟩ | ⟨h1, h2⟩
  · have h3 : 0 ≤ r'.fmod r := Int.fmod_nonneg_of_pos r' h1
    have h4 : 0 ≤ r'.fdiv r := Int.fdiv_nonneg h2 (Int.le_of_lt h1)
    refine ⟨h4, ?_, .inl ⟨h1, h3⟩⟩
    rw [Int.natAbs_of_nonneg h2, Int.natAbs_of_nonneg (Int.le_of_lt h1), Int.natAbs_of_nonneg h3, e, Int.mul_comm]
    omega
  · have h3 : r'.fmod r ≤ 0 := by
      have q := Int.fmod_nonneg_of_pos (-r') (show 0 < -r by omega)
      rw [Int.neg_fmod_neg] at q
      omega
    have h4 : 0 ≤ r'.fdiv r := by
      have q := Int.fdiv_nonneg (show 0 ≤ -r' by omega) (show 0 ≤ -r by omega)
      rw [Int.neg_fdiv_neg] at q
      exact q
    refine ⟨h4, ?_, .inr ⟨h1, h3⟩⟩
    have e1 : (r'.natAbs : Int) = -r' := by omega
    have e2 : (r.natAbs : Int) = -r := by omega
    have e3 : ((r'.fmod r).natAbs : Int) = -(r'.fmod r) := by omega
    rw [e1, e2, e3, e, Int.mul_neg, Int.mul_comm]
    omega
theorem fmod_sign {r' r : Int} (hr : r ≠ 0) : (0 < r ∧ 0 ≤ r'.fmod r) ∨ (r < 0 ∧ r'.fmod r ≤ 0) := by
  rcases Int.lt_or_gt_of_ne hr with h | h
  · have q := Int.fmod_nonneg_of_pos (-r') (show 0 < -r by omega)
    rw [Int.neg_fmod_neg] at q
    exact .inr ⟨h, by omega⟩
  · exact .inl ⟨h, Int.fmod_nonneg_of_pos r' h⟩
theorem Pot.step {C a' r' a r : Int} (p : Pot C a' r' a r) (hr : r ≠ 0) : Pot C a r (a' - r'.fdiv r * a) (r'.fmod r) := by
  have s := p.s.resolve_left hr
  obtain ⟨h1, h2, h3⟩ := fdiv_same hr s
  refine ⟨Int.le_trans ?_ p.h, ?_⟩
  · have h4 : ((a' - r'.fdiv r * a).natAbs : Int) ≤ a'.natAbs + r'.fdiv r * a.natAbs := by
      have q := Int.natAbs_sub_le a' (r'.fdiv r * a)
      rw [Int.natAbs_mul] at q
      have e : ((r'.fdiv r).natAbs : Int) = r'.fdiv r := Int.natAbs_of_nonneg h1
      have q' : ((a' - r'.fdiv r * a).natAbs : Int) ≤ (a'.natAbs : Int) + (r'.fdiv r).natAbs * a.natAbs := by exact_mod_cast q
      rw [e] at q'
      exact q'
    have h5 : ((a' - r'.fdiv r * a).natAbs : Int) * r.natAbs ≤ (a'.natAbs + r'.fdiv r * a.natAbs) * r.natAbs := Int.mul_le_mul_of_nonneg_right h4 (Int.natCast_nonneg _)
    rw [h2]
    grind
  · rcases h3 with ⟨x, y⟩ | ⟨x, y⟩
    · rcases Int.lt_or_eq_of_le y with z | z
      · exact .inr (.inl ⟨z, by omega⟩)
      · exact .inl z.symm
    · rcases Int.lt_or_eq_of_le y with z | z
      · exact .inr (.inr ⟨z, by omega⟩)
      · exact .inl z
theorem Pot.first {r' r : Int} (hr : r ≠ 0) {a' a : Int} (h : a'.natAbs ≤ 1) (h' : a.natAbs ≤ 1) : Pot (r'.natAbs + 4 * r.natAbs) a r (a' - r'.fdiv r * a) (r'.fmod r) := by
  have lt := fmod_lt (a := r') hr
  have e := fmod_def r' r
  refine ⟨?_, ?_⟩
  · -- |q r| ≤ |r'| + |r|
    have h1 : (r'.fdiv r * r).natAbs ≤ r'.natAbs + r.natAbs := by
      have : r'.fdiv r * r = r' - r'.fmod r := by rw [Int.mul_comm]; omega
      rw [this]
      have := Int.natAbs_sub_le r' (r'.fmod r)
      omega
    have h2 : ((a' - r'.fdiv r * a) * r).natAbs ≤ r.natAbs + (r'.natAbs + r.natAbs) := by
      have e2 : (a' - r'.fdiv r * a) * r = a' * r - a * (r'.fdiv r * r) := by grind
      rw [e2]
      have q := Int.natAbs_sub_le (a' * r) (a * (r'.fdiv r * r))
      rw [Int.natAbs_mul, Int.natAbs_mul a] at q
      have q1 : a'.natAbs * r.natAbs ≤ 1 * r.natAbs := Nat.mul_le_mul_right _ h
      have q2 : a.natAbs * (r'.fdiv r * r).natAbs ≤ 1 * (r'.fdiv r * r).natAbs := Nat.mul_le_mul_right _ h'
      omega
    rw [Int.natAbs_mul] at h2
    have h3 : a.natAbs * (r'.fmod r).natAbs ≤ 1 * (r'.fmod r).natAbs := Nat.mul_le_mul_right _ h'
    have h4 : (a' - r'.fdiv r * a).natAbs * r.natAbs + a.natAbs * (r'.fmod r).natAbs ≤ r'.natAbs + 4 * r.natAbs := by omega
    exact_mod_cast h4
  · rcases fmod_sign (r' := r') hr with ⟨x, y⟩ | ⟨x, y⟩
    · rcases Int.lt_or_eq_of_le y with z | z
      · exact .inr (.inl ⟨z, by omega⟩)
      · exact .inl z.symm
    · rcases Int.lt_or_eq_of_le y with z | z
      · exact .inr (.inr ⟨z, by omega⟩)
      · exact .inl z
theorem Pot.a' {C a' r' a r : Int} (p : Pot C a' r' a r) (hr : r ≠ 0) : (a'.natAbs : Int) ≤ C := by
  have h := p.h
  have h1 : (a'.natAbs : Int) * 1 ≤ a'.natAbs * r.natAbs := Int.mul_le_mul_of_nonneg_left (by omega) (Int.natCast_nonneg _)
  have h2 : 0 ≤ (a.natAbs : Int) * r'.natAbs := Int.mul_nonneg (Int.natCast_nonneg _) (Int.natCast_nonneg _)
  omega
theorem Pot.a {C a' r' a r : Int} (p : Pot C a' r' a r) (hr : r' ≠ 0) : (a.natAbs : Int) ≤ C := by
  have h := p.h
  have h1 : (a.natAbs : Int) * 1 ≤ a.natAbs * r'.natAbs := Int.mul_le_mul_of_nonneg_left (by omega) (Int.natCast_nonneg _)
  have h2 : 0 ≤ (a'.natAbs : Int) * r.natAbs := Int.mul_nonneg (Int.natCast_nonneg _) (Int.natCast_nonneg _)
  omega
end Mt

set_option maxHeartbeats 4000000
namespace My
open PySem PySem.Spec PyProof.Rows L2 D3
open Mt
noncomputable def whole : D → Bool
  | .int _ => true
  | _ => false
structure Q4 where
  a : Int
  b : Int
  c : Int
  d : Int
noncomputable def qd (q : Q4) : D := .tup [.int q.a, .int q.b, .int q.c, .int q.d]
noncomputable def qmul (p q : Q4) : Q4 := ⟨p.a * q.a - p.b * q.b - p.c * q.c - p.d * q.d, p.a * q.b + p.b * q.a + p.c * q.d - p.d * q.c, p.a * q.c - p.b * q.d + p.c * q.a + p.d * q.b, p.a * q.d + p.b * q.c - p.c * q.b + p.d * q.a⟩
noncomputable def qbar (q : Q4) : Q4 := ⟨q.a, -q.b, -q.c, -q.d⟩
noncomputable def qsize (q : Q4) : Int := q.a * q.a + q.b * q.b + q.c * q.c + q.d * q.d
structure Bq (k : Nat) (q : Q4) : Prop where
  a : Bd k q.a
  b : Bd k q.b
  c : Bd k q.c
  d : Bd k q.d
theorem Bq.mono {k l : Nat} {q : Q4} (h : Bq k q) (hl : k ≤ l) : Bq l q := ⟨h.a.mono hl, h.b.mono hl, h.c.mono hl, h.d.mono hl⟩
theorem Bq.mul {k l : Nat} {p q : Q4} (h : Bq k p) (g : Bq l q) : Bq (k + l + 3) (qmul p q) := by
  have e : ∀ {x y z w : Int}, Bd (k + l) x → Bd (k + l) y → Bd (k + l) z → Bd (k + l) w → Bd (k + l + 3) (x - y - z - w) := fun hx hy hz hw => by
    have := ((hx.sub hy).sub hz).sub hw
    exact this.mono (by omega)
  have f : ∀ {x y z w : Int}, Bd (k + l) x → Bd (k + l) y → Bd (k + l) z → Bd (k + l) w → Bd (k + l + 3) (x + y + z - w) := fun hx hy hz hw => by
    have := ((hx.add hy).add hz).sub hw
    exact this.mono (by omega)
  have f2 : ∀ {x y z w : Int}, Bd (k + l) x → Bd (k + l) y → Bd (k + l) z → Bd (k + l) w → Bd (k + l + 3) (x - y + z + w) := fun hx hy hz hw => by
    have := ((hx.sub hy).add hz).add hw
    exact this.mono (by omega)
  have f3 : ∀ {x y z w : Int}, Bd (k + l) x → Bd (k + l) y → Bd (k + l) z → Bd (k + l) w → Bd (k + l + 3) (x + y - z + w) := fun hx hy hz hw => by
    have := ((hx.add hy).sub hz).add hw
    exact this.mono (by omega)
  exact ⟨e (h.a.mul g.a) (h.b.mul g.b) (h.c.mul g.c) (h.d.mul g.d), f (h.a.mul g.b) (h.b.mul g.a) (h.c.mul g.d) (h.d.mul g.c), f2 (h.a.mul g.c) (h.b.mul g.d) (h.c.mul g.a) (h.d.mul g.b), f3 (h.a.mul g.d) (h.b.mul g.c) (h.c.mul g.b) (h.d.mul g.a)⟩
theorem Bq.bar {k : Nat} {q : Q4} (h : Bq k q) : Bq k (qbar q) := ⟨h.a, h.b.neg, h.c.neg, h.d.neg⟩
structure P3 where
  x : Int
  y : Int
  z : Int
noncomputable def pt (p : P3) : D := .tup [.int p.x, .int p.y, .int p.z]
structure Bp (k : Nat) (p : P3) : Prop where
  x : Bd k p.x
  y : Bd k p.y
  z : Bd k p.z
theorem Bp.mono {k l : Nat} {q : P3} (h : Bp k q) (hl : k ≤ l) : Bp l q := ⟨h.x.mono hl, h.y.mono hl, h.z.mono hl⟩
noncomputable def mix3 (t : Int) (p : P3) (u : Int) (q : P3) : P3 := ⟨t * p.x + u * q.x, t * p.y + u * q.y, t * p.z + u * q.z⟩
noncomputable def mix4 (t : Int) (p : Q4) (u : Int) (q : Q4) : Q4 := ⟨t * p.a + u * q.a, t * p.b + u * q.b, t * p.c + u * q.c, t * p.d + u * q.d⟩
theorem FOR_cons {g : G3} {tb : S3} {d : D} {ds : List D} {Φ : F3 → Prop} {ρ : Fr3} (h : g d ρ fun ρ1 => tb (loopS (FOR g tb ds) Φ) ρ1) : FOR g tb (d :: ds) Φ ρ := h
theorem FOR_nil {g : G3} {tb : S3} {Φ : F3 → Prop} {ρ : Fr3} (h : Φ (.nx ρ)) : FOR g tb [] Φ ρ := h
theorem COMP_list {α : Type} {te : E3} {ρ : Fr3} {Φ : List D → Prop} {ds : List D} (g h : α → D) (qs : List α) (e : ds = qs.map g) (hl : qs.length ≤ 1000) (hs : ∀ q ∈ qs, ∀ Ψ : D → Prop, Ψ (h q) → te (ρ.set 0 (.val (g q))) Ψ) (hΦ : Φ (qs.map h)) : COMP (gN 0) (fun _ Φ => Φ true) te ρ ds [] Φ := by
  subst e
  have : ∀ (is : List α) (acc : List D), (∀ i ∈ is, i ∈ qs) → acc.length + is.length ≤ 1000 → Φ (acc ++ is.map h) → COMP (gN 0) (fun _ Φ => Φ true) te ρ (is.map g) acc Φ := by
    intro is
    induction is with
    | nil => intro acc _ _ h; rw [List.map_nil, List.append_nil] at h; exact h
    | cons i is ih =>
      intro acc hi hl h
      refine hs i (hi i List.mem_cons_self) _ ⟨small1000 (by simp only [List.length_cons] at hl; omega), ?_⟩
      refine ih (acc ++ [_]) (fun j hj => hi j (List.mem_cons_of_mem _ hj)) (by simp only [List.length_cons, List.length_append, List.length_nil] at hl ⊢; omega) ?_
      rw [List.append_assoc, List.singleton_append]
      exact h
  exact this qs [] (fun i hi => hi) (by simpa using hl) (by simpa using hΦ)
theorem Q4.eq {p q : Q4} (ha : p.a = q.a) (hb : p.b = q.b) (hc : p.c = q.c) (hd : p.d = q.d) : p = q := by
  cases p; cases q; simp only at ha hb hc hd; subst ha hb hc hd; rfl
theorem qmul_assoc (p q r : Q4) : qmul (qmul p q) r = qmul p (qmul q r) := by
  apply Q4.eq <;> simp only [qmul] <;> grind
theorem qsize_mul (p q : Q4) : qsize (qmul p q) = qsize p * qsize q := by
  simp only [qmul, qsize]; grind
noncomputable def q1 : Q4 := ⟨1, 0, 0, 0⟩
noncomputable def qadd (p q : Q4) : Q4 := ⟨p.a + q.a, p.b + q.b, p.c + q.c, p.d + q.d⟩
theorem qmul_add (p q r : Q4) : qmul p (qadd q r) = qadd (qmul p q) (qmul p r) := by
  apply Q4.eq <;> simp only [qmul, qadd] <;> grind
theorem Bq.add {k l : Nat} {p q : Q4} (h : Bq k p) (g : Bq l q) : Bq (max k l + 1) (qadd p q) := ⟨h.a.add g.a, h.b.add g.b, h.c.add g.c, h.d.add g.d⟩
theorem bd_size {k : Nat} {q : Q4} (h : Bq k q) : Bd (2 * k + 3) (qsize q) := by
  have := (((h.a.mul h.a).add (h.b.mul h.b)).add (h.c.mul h.c)).add (h.d.mul h.d)
  exact this.mono (by omega)
noncomputable def ql (q : Q4) : List Int := [q.a, q.b, q.c, q.d]
noncomputable def q0 : Q4 := ⟨0, 0, 0, 0⟩
noncomputable def low (q : Q4) : Bool := HT.lexLt (ql q) [0, 0, 0, 0]
theorem ql_zero {q : Q4} (h : gcdL (ql q) = 0) : q = q0 := by
  have h := gcdL_zero h
  have a := h q.a (by simp [ql]); have b := h q.b (by simp [ql]); have c := h q.c (by simp [ql]); have d := h q.d (by simp [ql])
  cases q; simp only at a b c d; subst a b c d; rfl
noncomputable instance : DecidableEq Q4 := fun p q => if h : p.a = q.a ∧ p.b = q.b ∧ p.c = q.c ∧ p.d = q.d then .isTrue (by cases p; cases q; simp only at h; obtain ⟨h1, h2, h3, h4⟩ := h; subst h1 h2 h3 h4; rfl) else .isFalse fun e => h (by subst e; exact ⟨rfl, rfl, rfl, rfl⟩)
theorem eqD_q (p q : Q4) : eqD (qd p) (qd q) = decide (p = q) := by
  by_cases h : p = q
  · rw [h, decide_eq_true rfl]; exact eqD_refl _
  · rw [decide_eq_false h]
    cases p with | mk a b c d =>
    cases q with | mk e f g i =>
    show ((a == e) && ((b == f) && ((c == g) && ((d == i) && true)))) = false
    apply Classical.byContradiction
    intro hn
    apply h
    simp at hn
    obtain ⟨rfl, rfl, rfl, rfl⟩ := hn
    rfl
noncomputable def lead (q : Q4) : Int := if q.a = 0 then if q.b = 0 then if q.c = 0 then q.d else q.c else q.b else q.a
noncomputable def qsc (s : Int) (p : Q4) : Q4 := ⟨s * p.a, s * p.b, s * p.c, s * p.d⟩
structure IsPlain (p : Q4) : Prop where
  g : gcdL (ql p) = 1
  l : 0 < lead p
theorem IsPlain.ne {p : Q4} (h : IsPlain p) : p ≠ q0 := by
  rintro rfl; exact absurd h.l (by decide)
theorem bd_le {k : Nat} {x y : Int} (h : Bd k x) (le : y.natAbs ≤ x.natAbs) : Bd k y := Nat.lt_of_le_of_lt le h
theorem mod4 (i : Nat) : (0 + (i : Int)).fmod 4 = 0 ∨ (0 + (i : Int)).fmod 4 = 1 ∨ (0 + (i : Int)).fmod 4 = 2 ∨ (0 + (i : Int)).fmod 4 = 3 := by
  rw [fmod_pos (by decide)]; omega
theorem ups_at {n : Nat} {pre post : List D} {d : D} (h : pre ++ d :: post = ups 0 n) : d = .int (0 + (pre.length : Nat)) ∧ pre.length < n := by
  have hlen : pre.length < (ups 0 n).length := by rw [← h]; simp
  rw [ups_length] at hlen
  have e1 : (ups 0 n)[pre.length]? = some d := by rw [← h]; simp
  simp only [ups, List.getElem?_map, List.getElem?_range hlen] at e1
  exact ⟨(Option.some.inj e1).symm, hlen⟩
structure T9 where
  p : P3
  q : P3
  r : P3
  n : Int
noncomputable def tl (t : T9) : List Int := [t.p.x, t.p.y, t.p.z, t.q.x, t.q.y, t.q.z, t.r.x, t.r.y, t.r.z, t.n]
noncomputable def tr (t : T9) : D := .tup [pt t.p, pt t.q, pt t.r]
noncomputable def tb (t : T9) : D := .tup [tr t, .int t.n]
structure Bt (k : Nat) (t : T9) : Prop where
  p : Bp k t.p
  q : Bp k t.q
  r : Bp k t.r
  n : Bd k t.n
theorem Bt.mono {k l : Nat} {t : T9} (h : Bt k t) (hl : k ≤ l) : Bt l t := ⟨h.p.mono hl, h.q.mono hl, h.r.mono hl, h.n.mono hl⟩
theorem Bt.mem {k : Nat} {t : T9} (h : Bt k t) : ∀ x ∈ tl t, Bd k x := by
  intro x hx
  simp only [tl, List.mem_cons, List.not_mem_nil, or_false] at hx
  rcases hx with rfl | rfl | rfl | rfl | rfl | rfl | rfl | rfl | rfl | rfl
  · exact h.p.x
  · exact h.p.y
  · exact h.p.z
  · exact h.q.x
  · exact h.q.y
  · exact h.q.z
  · exact h.r.x
  · exact h.r.y
  · exact h.r.z
  · exact h.n
noncomputable def rawT (q : Q4) : T9 := ⟨⟨q.a * q.a + q.b * q.b - q.c * q.c - q.d * q.d, 2 * (q.b * q.c - q.a * q.d), 2 * (q.b * q.d + q.a * q.c)⟩,
  ⟨2 * (q.b * q.c + q.a * q.d), q.a * q.a - q.b * q.b + q.c * q.c - q.d * q.d, 2 * (q.c * q.d - q.a * q.b)⟩,
  ⟨2 * (q.b * q.d - q.a * q.c), 2 * (q.c * q.d + q.a * q.b), q.a * q.a - q.b * q.b - q.c * q.c + q.d * q.d⟩, q.a * q.a + q.b * q.b + q.c * q.c + q.d * q.d⟩
noncomputable def p3div (p : P3) (g : Int) : P3 := ⟨p.x.fdiv g, p.y.fdiv g, p.z.fdiv g⟩
noncomputable def divT (t : T9) (g : Int) : T9 := ⟨p3div t.p g, p3div t.q g, p3div t.r g, t.n.fdiv g⟩
noncomputable def lowT (t : T9) : T9 := divT t (gcdL (tl t))
noncomputable def turnT (q : Q4) : T9 := lowT (rawT q)
theorem bd_two {k : Nat} {x : Int} (h : Bd k x) : Bd (k + 2) (2 * x) := by
  have := (show Bd 2 (2 : Int) from bd_lit (by decide)).mul h
  exact this.mono (by omega)
theorem bd_pm {k : Nat} {x y z w : Int} (hx : Bd k x) (hy : Bd k y) (hz : Bd k z) (hw : Bd k w) : Bd (k + 3) (x + y - z - w) ∧ Bd (k + 3) (x - y + z - w) ∧ Bd (k + 3) (x - y - z + w) ∧ Bd (k + 3) (x + y + z + w) :=
  ⟨(((hx.add hy).sub hz).sub hw).mono (by omega), (((hx.sub hy).add hz).sub hw).mono (by omega), (((hx.sub hy).sub hz).add hw).mono (by omega), (((hx.add hy).add hz).add hw).mono (by omega)⟩
theorem rawT_bd {k : Nat} {q : Q4} (h : Bq k q) : Bt (2 * k + 3) (rawT q) := by
  have s : ∀ {x y : Int}, Bd k x → Bd k y → Bd (2 * k) (x * y) := fun hx hy => (hx.mul hy).mono (by omega)
  obtain ⟨p1, p2, p3, p4⟩ := bd_pm (s h.a h.a) (s h.b h.b) (s h.c h.c) (s h.d h.d)
  have d : ∀ {x y : Int}, Bd (2 * k) x → Bd (2 * k) y → Bd (2 * k + 3) (2 * (x - y)) ∧ Bd (2 * k + 3) (2 * (x + y)) := fun hx hy =>
    ⟨(bd_two (hx.sub hy)).mono (by omega), (bd_two (hx.add hy)).mono (by omega)⟩
  exact ⟨⟨p1, (d (s h.b h.c) (s h.a h.d)).1, (d (s h.b h.d) (s h.a h.c)).2⟩, ⟨(d (s h.b h.c) (s h.a h.d)).2, p2, (d (s h.c h.d) (s h.a h.b)).1⟩, ⟨(d (s h.b h.d) (s h.a h.c)).1, (d (s h.c h.d) (s h.a h.b)).2, p3⟩, p4⟩
theorem sq_nn (x : Int) : 0 ≤ x * x := by
  rcases Int.le_total 0 x with h | h
  · exact Int.mul_nonneg h h
  · exact Int.mul_nonneg_of_nonpos_of_nonpos h h
theorem qsize_nn (q : Q4) : 0 ≤ qsize q := by
  have := sq_nn q.a; have := sq_nn q.b; have := sq_nn q.c; have := sq_nn q.d
  unfold qsize; omega
theorem sq_zero {x : Int} (h : x * x = 0) : x = 0 := by
  rcases Int.mul_eq_zero.mp h with z | z <;> exact z
theorem qsize_zero {q : Q4} (h : qsize q = 0) : q = q0 := by
  have a := sq_nn q.a; have b := sq_nn q.b; have c := sq_nn q.c; have d := sq_nn q.d
  unfold qsize at h
  have a0 := sq_zero (show q.a * q.a = 0 by omega); have b0 := sq_zero (show q.b * q.b = 0 by omega)
  have c0 := sq_zero (show q.c * q.c = 0 by omega); have d0 := sq_zero (show q.d * q.d = 0 by omega)
  cases q; simp only at a0 b0 c0 d0; subst a0 b0 c0 d0; rfl
theorem qsize_pos {q : Q4} (h : q ≠ q0) : 0 < qsize q := by
  have := qsize_nn q
  have : qsize q ≠ 0 := fun z => h (qsize_zero z)
  omega
theorem rawT_n (q : Q4) : (rawT q).n = qsize q := rfl
theorem gcdL_tl {k : Nat} {t : T9} (h0 : t.n ≠ 0) (h : Bt k t) : 0 < gcdL (tl t) ∧ Bd k (gcdL (tl t)) := by
  have hm : t.n ∈ tl t := by simp [tl]
  have p := gcdL_pos hm h0
  refine ⟨p, ?_⟩
  have le := gcdL_le hm h0
  have b := h.n
  unfold Bd at *
  omega
theorem div_le {g x : Int} (hg : 0 < g) (h : g ∣ x) : (x.fdiv g).natAbs ≤ x.natAbs := by
  have e : g * x.fdiv g = x := Int.mul_fdiv_cancel' h
  have : x.natAbs = g.natAbs * (x.fdiv g).natAbs := by rw [← Int.natAbs_mul, e]
  rw [this]
  exact Nat.le_mul_of_pos_left _ (by omega)
theorem map_div {ms : List Int} (h : ∀ x ∈ ms, gcdL ms ∣ x) : (ms.map (·.fdiv (gcdL ms))).map (gcdL ms * ·) = ms := by
  rw [List.map_map]
  conv => rhs; rw [← List.map_id ms]
  exact List.map_congr_left fun x hx => Int.mul_fdiv_cancel' (h x hx)
theorem gcdL_low {ms : List Int} (h0 : gcdL ms ≠ 0) : gcdL (ms.map (·.fdiv (gcdL ms))) = 1 := by
  have e := gcdL_mul (gcdL ms) (ms.map (·.fdiv (gcdL ms)))
  rw [map_div fun x hx => gcdL_dvd hx, Int.natAbs_of_nonneg (gcdL_nonneg ms)] at e
  have e2 : gcdL ms * 1 = gcdL ms * gcdL (ms.map (·.fdiv (gcdL ms))) := by rw [Int.mul_one]; exact e
  exact (Int.eq_of_mul_eq_mul_left h0 e2).symm
structure LowT (t : T9) : Prop where
  g : 0 < gcdL (tl t)
  n : 0 < (lowT t).n
  one : gcdL (tl (lowT t)) = 1
  px : gcdL (tl t) * (lowT t).p.x = t.p.x
  py : gcdL (tl t) * (lowT t).p.y = t.p.y
  pz : gcdL (tl t) * (lowT t).p.z = t.p.z
  qx : gcdL (tl t) * (lowT t).q.x = t.q.x
  qy : gcdL (tl t) * (lowT t).q.y = t.q.y
  qz : gcdL (tl t) * (lowT t).q.z = t.q.z
  rx : gcdL (tl t) * (lowT t).r.x = t.r.x
  ry : gcdL (tl t) * (lowT t).r.y = t.r.y
  rz : gcdL (tl t) * (lowT t).r.z = t.r.z
  nn : gcdL (tl t) * (lowT t).n = t.n
theorem lowT_of {t : T9} (h : 0 < t.n) : LowT t := by
  have hm : t.n ∈ tl t := by simp [tl]
  have g := gcdL_pos hm (by omega)
  have e : ∀ x ∈ tl t, gcdL (tl t) * x.fdiv (gcdL (tl t)) = x := fun x hx => Int.mul_fdiv_cancel' (gcdL_dvd hx)
  have en := e t.n hm
  refine ⟨g, ?_, (show gcdL ((tl t).map (·.fdiv (gcdL (tl t)))) = 1 from gcdL_low (by omega)), e _ (by simp [tl]), e _ (by simp [tl]), e _ (by simp [tl]), e _ (by simp [tl]), e _ (by simp [tl]), e _ (by simp [tl]), e _ (by simp [tl]), e _ (by simp [tl]), e _ (by simp [tl]), en⟩
  have : (lowT t).n = t.n.fdiv (gcdL (tl t)) := rfl
  rw [this]
  rcases Int.lt_or_le 0 (t.n.fdiv (gcdL (tl t))) with z | z
  · exact z
  · have := Int.mul_nonpos_of_nonneg_of_nonpos (Int.le_of_lt g) z
    omega
theorem lowT_bd {k : Nat} {t : T9} (h : 0 < t.n) (bt : Bt k t) : Bt k (lowT t) := by
  have l := lowT_of h
  have b : ∀ x ∈ tl t, Bd k (x.fdiv (gcdL (tl t))) := fun x hx => bd_le (bt.mem x hx) (div_le l.g (gcdL_dvd hx))
  exact ⟨⟨b _ (by simp [tl]), b _ (by simp [tl]), b _ (by simp [tl])⟩, ⟨b _ (by simp [tl]), b _ (by simp [tl]), b _ (by simp [tl])⟩, ⟨b _ (by simp [tl]), b _ (by simp [tl]), b _ (by simp [tl])⟩, b _ (by simp [tl])⟩
theorem rawT_pos {q : Q4} (h : q ≠ q0) : 0 < (rawT q).n := by rw [rawT_n]; exact qsize_pos h
theorem turnT_bd {k : Nat} {q : Q4} (h : q ≠ q0) (b : Bq k q) : Bt (2 * k + 3) (turnT q) := lowT_bd (rawT_pos h) (rawT_bd b)
theorem turnT_pos {q : Q4} (h : q ≠ q0) : 0 < (turnT q).n := (lowT_of (rawT_pos h)).n
noncomputable def qdivq (q : Q4) (g : Int) : Q4 := ⟨q.a.fdiv g, q.b.fdiv g, q.c.fdiv g, q.d.fdiv g⟩
noncomputable def lowQ (q : Q4) : Q4 := qdivq q (gcdL (ql q))
theorem lowQ_one {q : Q4} (h : q ≠ q0) : gcdL (ql (lowQ q)) = 1 := gcdL_low fun z => h (ql_zero z)
theorem lowQ_mul (q : Q4) : q = qsc (gcdL (ql q)) (lowQ q) := by
  have e : ∀ x ∈ ql q, gcdL (ql q) * x.fdiv (gcdL (ql q)) = x := fun x hx => Int.mul_fdiv_cancel' (gcdL_dvd hx)
  have a := e q.a (by simp [ql]); have b := e q.b (by simp [ql]); have c := e q.c (by simp [ql]); have d := e q.d (by simp [ql])
  unfold lowQ qdivq qsc
  cases q
  simp only at a b c d ⊢
  rw [a, b, c, d]
noncomputable def dot (p q : P3) : Int := p.x * q.x + p.y * q.y + p.z * q.z
structure Stone (q : Q4) : Prop where
  b : q.b % 2 = q.a % 2
  c : q.c % 2 = q.a % 2
  d : q.d % 2 = q.a % 2
noncomputable def half (q : Q4) : Q4 := ⟨q.a.fdiv 2, q.b.fdiv 2, q.c.fdiv 2, q.d.fdiv 2⟩
noncomputable def smul (p q : Q4) : Q4 := half (qmul p q)
theorem fd2 (x : Int) : x.fdiv 2 = x / 2 := fdiv_pos (by decide)
theorem same2 {x y : Int} (h : y % 2 = x % 2) : ∃ k, y = x + 2 * k := ⟨(y - x) / 2, by omega⟩
theorem smul_two {p q : Q4} (hp : Stone p) (hq : Stone q) : qmul p q = ⟨2 * (smul p q).a, 2 * (smul p q).b, 2 * (smul p q).c, 2 * (smul p q).d⟩ ∧ Stone (smul p q) := by
  obtain ⟨p2, p3, p4⟩ := hp
  obtain ⟨q2, q3, q4⟩ := hq
  obtain ⟨b', hb⟩ := same2 p2
  obtain ⟨c', hc⟩ := same2 p3
  obtain ⟨d', hd⟩ := same2 p4
  obtain ⟨f', hf⟩ := same2 q2
  obtain ⟨g', hg⟩ := same2 q3
  obtain ⟨h', hh⟩ := same2 q4
  cases p with | mk a b c d =>
  cases q with | mk e f g i =>
  simp only at hb hc hd hf hg hh p2 p3 p4 q2 q3 q4
  subst hb hc hd hf hg hh
  have e1 : a * e - (a + 2 * b') * (e + 2 * f') - (a + 2 * c') * (e + 2 * g') - (a + 2 * d') * (e + 2 * h') = 2 * (-(a * e) - (a * f' + b' * e + 2 * (b' * f')) - (a * g' + c' * e + 2 * (c' * g')) - (a * h' + d' * e + 2 * (d' * h'))) := by grind
  have e2 : a * (e + 2 * f') + (a + 2 * b') * e + (a + 2 * c') * (e + 2 * h') - (a + 2 * d') * (e + 2 * g') = 2 * (a * e + (a * f' + b' * e) + (a * h' + c' * e + 2 * (c' * h')) - (a * g' + d' * e + 2 * (d' * g'))) := by grind
  have e3 : a * (e + 2 * g') - (a + 2 * b') * (e + 2 * h') + (a + 2 * c') * e + (a + 2 * d') * (e + 2 * f') = 2 * (a * e + a * g' - (a * h' + b' * e + 2 * (b' * h')) + c' * e + (a * f' + d' * e + 2 * (d' * f'))) := by grind
  have e4 : a * (e + 2 * h') + (a + 2 * b') * (e + 2 * g') - (a + 2 * c') * (e + 2 * f') + (a + 2 * d') * e = 2 * (a * e + a * h' + (a * g' + b' * e + 2 * (b' * g')) - (a * f' + c' * e + 2 * (c' * f')) + d' * e) := by grind
  have h2 : ∀ x : Int, (2 * x) / 2 = x := fun x => Int.mul_ediv_cancel_left x (by decide)
  simp only [smul, half, qmul, fd2, e1, e2, e3, e4, h2]
  have up : ∀ {x y w : Int}, x = y + 2 * w → x % 2 = y % 2 := fun {x y w} h => by rw [h, Int.add_mul_emod_self_left]
  exact ⟨trivial, up (w := a * e + a * f' + b' * e + b' * f' + a * h' + c' * e + c' * h' + c' * g' - d' * g' + d' * h') (by grind), up (w := a * e + a * g' + a * f' + c' * e + d' * e - b' * h' + d' * f' + b' * f' + c' * g' + d' * h') (by grind), up (w := a * e + a * h' + a * g' + b' * e + b' * g' - c' * f' + d' * e + b' * f' + c' * g' + d' * h') (by grind)⟩
noncomputable def heavy (q : Q4) : Int := (qsize q).fdiv 4
theorem heavy_four {q : Q4} (h : Stone q) : 4 * heavy q = qsize q := by
  unfold heavy
  rw [fdiv_pos (by decide)]
  obtain ⟨h2, h3, h4⟩ := h
  obtain ⟨b', hb⟩ := same2 h2
  obtain ⟨c', hc⟩ := same2 h3
  obtain ⟨d', hd⟩ := same2 h4
  cases q with | mk a b c d =>
  simp only at hb hc hd
  subst hb hc hd
  have : qsize ⟨a, a + 2 * b', a + 2 * c', a + 2 * d'⟩ = 4 * (a * a + a * b' + b' * b' + a * c' + c' * c' + a * d' + d' * d') := by simp only [qsize]; grind
  rw [this, Int.mul_ediv_cancel_left _ (by decide)]
theorem Bq.half {k : Nat} {q : Q4} (h : Bq k q) : Bq k (half q) := by
  have b : ∀ {x : Int}, Bd k x → Bd k (x.fdiv 2) := fun {x} hx => by rw [fd2]; unfold Bd at *; omega
  exact ⟨b h.a, b h.b, b h.c, b h.d⟩
theorem Bq.smul {k l : Nat} {p q : Q4} (h : Bq k p) (g : Bq l q) : Bq (k + l + 3) (smul p q) := (h.mul g).half
theorem two_inj {p q : Q4} (h : (⟨2 * p.a, 2 * p.b, 2 * p.c, 2 * p.d⟩ : Q4) = ⟨2 * q.a, 2 * q.b, 2 * q.c, 2 * q.d⟩) : p = q := by
  have a := congrArg Q4.a h; have b := congrArg Q4.b h; have c := congrArg Q4.c h; have d := congrArg Q4.d h
  simp only at a b c d
  apply Q4.eq <;> omega
theorem qmul_two_left (p q : Q4) : qmul ⟨2 * p.a, 2 * p.b, 2 * p.c, 2 * p.d⟩ q = ⟨2 * (qmul p q).a, 2 * (qmul p q).b, 2 * (qmul p q).c, 2 * (qmul p q).d⟩ := by
  apply Q4.eq <;> simp only [qmul] <;> grind
theorem qmul_two_right (p q : Q4) : qmul p ⟨2 * q.a, 2 * q.b, 2 * q.c, 2 * q.d⟩ = ⟨2 * (qmul p q).a, 2 * (qmul p q).b, 2 * (qmul p q).c, 2 * (qmul p q).d⟩ := by
  apply Q4.eq <;> simp only [qmul] <;> grind
theorem smul_assoc {p q r : Q4} (hp : Stone p) (hq : Stone q) (hr : Stone r) : smul (smul p q) r = smul p (smul q r) := by
  obtain ⟨e1, s1⟩ := smul_two hp hq
  obtain ⟨e2, s2⟩ := smul_two hq hr
  obtain ⟨e3, s3⟩ := smul_two s1 hr
  obtain ⟨e4, s4⟩ := smul_two hp s2
  have a := qmul_assoc p q r
  rw [e1, e2, qmul_two_left, qmul_two_right] at a
  have a := two_inj a
  rw [e3, e4] at a
  exact two_inj a
theorem heavy_mul {p q : Q4} (hp : Stone p) (hq : Stone q) : heavy (smul p q) = heavy p * heavy q := by
  obtain ⟨e1, s1⟩ := smul_two hp hq
  have a := qsize_mul p q
  rw [e1] at a
  have e2 : qsize ⟨2 * (smul p q).a, 2 * (smul p q).b, 2 * (smul p q).c, 2 * (smul p q).d⟩ = 4 * qsize (smul p q) := by simp only [qsize]; grind
  rw [e2, ← heavy_four s1, ← heavy_four hp, ← heavy_four hq] at a
  have : 16 * heavy (smul p q) = 16 * (heavy p * heavy q) := by grind
  omega
noncomputable def sone : Q4 := ⟨2, 0, 0, 0⟩
theorem two_half (x : Int) : (2 * x) / 2 = x := Int.mul_ediv_cancel_left x (by decide)
theorem smul_of {p q r : Q4} (e : qmul p q = ⟨2 * r.a, 2 * r.b, 2 * r.c, 2 * r.d⟩) : smul p q = r := by
  unfold smul
  rw [e]
  simp only [half, fd2, two_half]
theorem smul_one (p : Q4) : smul p sone = p := smul_of (by simp only [qmul, sone, Int.mul_zero, Int.sub_zero, Int.add_zero, Int.zero_add, Int.mul_comm _ 2])
theorem pick_map {α β : Type} (f : α → β) (xs : List α) : ∀ is : List Nat, is.filterMap ((xs.map f)[·]?) = (is.filterMap (xs[·]?)).map f
  | [] => rfl
  | i :: is => by
    rw [List.filterMap_cons, List.filterMap_cons, pick_map f xs is, List.getElem?_map]
    cases xs[i]? <;> rfl
noncomputable def p0 : P3 := ⟨0, 0, 0⟩
noncomputable instance : DecidableEq P3 := fun p q => if h : p.x = q.x ∧ p.y = q.y ∧ p.z = q.z then .isTrue (by cases p; cases q; simp only at h; obtain ⟨h1, h2, h3⟩ := h; subst h1 h2 h3; rfl) else .isFalse fun e => h (by subst e; exact ⟨rfl, rfl, rfl⟩)
theorem P3.eq {p q : P3} (hx : p.x = q.x) (hy : p.y = q.y) (hz : p.z = q.z) : p = q := by
  cases p; cases q; simp only at hx hy hz; subst hx hy hz; rfl
noncomputable def less (o : Int) (s r : P3) : P3 := mix3 1 r (-o) s
noncomputable def o1 (u p : P3) : Int := p.x.fdiv u.x
noncomputable def r1 (u p : P3) : P3 := less (o1 u p) u p
noncomputable def o2 (u v p : P3) : Int := (r1 u p).y.fdiv v.y
noncomputable def r2 (u v p : P3) : P3 := less (o2 u v p) v (r1 u p)
noncomputable def o3 (u v w p : P3) : Int := (r2 u v p).z.fdiv w.z
noncomputable def r3 (u v w p : P3) : P3 := less (o3 u v w p) w (r2 u v p)
noncomputable def det (p q r : P3) : Int := p.x * (q.y * r.z - q.z * r.y) - p.y * (q.x * r.z - q.z * r.x) + p.z * (q.x * r.y - q.y * r.x)
structure IsTurn (t : T9) : Prop where
  n : 1 ≤ t.n
  g : gcdL (tl t) = 1
  pp : dot t.p t.p = t.n * t.n
  pq : dot t.p t.q = 0
  pr : dot t.p t.r = 0
  qp : dot t.q t.p = 0
  qq : dot t.q t.q = t.n * t.n
  qr : dot t.q t.r = 0
  rp : dot t.r t.p = 0
  rq : dot t.r t.q = 0
  rr : dot t.r t.r = t.n * t.n
  d : det t.p t.q t.r = t.n * t.n * t.n
theorem dot_sc (g : Int) (p q p' q' : P3) (h1 : g * p'.x = p.x) (h2 : g * p'.y = p.y) (h3 : g * p'.z = p.z) (h4 : g * q'.x = q.x) (h5 : g * q'.y = q.y) (h6 : g * q'.z = q.z) : dot p q = g * g * dot p' q' := by
  unfold dot; rw [← h1, ← h2, ← h3, ← h4, ← h5, ← h6]; grind
theorem cancel2 {g x y : Int} (hg : 0 < g) (h : g * g * x = g * g * y) : x = y := Int.eq_of_mul_eq_mul_left (Int.ne_of_gt (Int.mul_pos hg hg)) h
theorem turnT_is {q : Q4} (h0 : q ≠ q0) : IsTurn (turnT q) := by
  have l := lowT_of (rawT_pos h0)
  obtain ⟨hg, hn, one, px, py, pz, qx, qy, qz, rx, ry, rz, nn⟩ := l
  have en : turnT q = lowT (rawT q) := rfl
  rw [en]
  generalize gcdL (tl (rawT q)) = g at *
  generalize lowT (rawT q) = t at *
  have N : g * t.n = qsize q := nn
  have z : ∀ {p' q' : P3} {p q : P3}, dot p q = g * g * dot p' q' → dot p q = 0 → dot p' q' = 0 := fun h1 h2 => by
    rw [h2] at h1
    exact (cancel2 hg (by rw [← h1, Int.mul_zero])).symm
  have s : ∀ {p' : P3} {p : P3}, dot p p = g * g * dot p' p' → dot p p = qsize q * qsize q → dot p' p' = t.n * t.n := fun h1 h2 => by
    rw [h2, ← N] at h1
    exact (cancel2 hg (by rw [← h1]; grind)).symm
  have D := @dot_sc g
  refine ⟨hn, one, s (D _ _ _ _ px py pz px py pz) ?_, z (D _ _ _ _ px py pz qx qy qz) ?_, z (D _ _ _ _ px py pz rx ry rz) ?_, z (D _ _ _ _ qx qy qz px py pz) ?_, s (D _ _ _ _ qx qy qz qx qy qz) ?_, z (D _ _ _ _ qx qy qz rx ry rz) ?_, z (D _ _ _ _ rx ry rz px py pz) ?_, z (D _ _ _ _ rx ry rz qx qy qz) ?_, s (D _ _ _ _ rx ry rz rx ry rz) ?_, ?_⟩
  · simp only [dot, rawT, qsize]; grind
  · simp only [dot, rawT, qsize]; grind
  · simp only [dot, rawT, qsize]; grind
  · simp only [dot, rawT, qsize]; grind
  · simp only [dot, rawT, qsize]; grind
  · simp only [dot, rawT, qsize]; grind
  · simp only [dot, rawT, qsize]; grind
  · simp only [dot, rawT, qsize]; grind
  · simp only [dot, rawT, qsize]; grind
  · have dr : det (rawT q).p (rawT q).q (rawT q).r = qsize q * qsize q * qsize q := by simp only [det, rawT, qsize]; grind
    have d2 : det (rawT q).p (rawT q).q (rawT q).r = g * g * (g * det t.p t.q t.r) := by
      unfold det; rw [← px, ← py, ← pz, ← qx, ← qy, ← qz, ← rx, ← ry, ← rz]; grind
    rw [d2, ← N] at dr
    have e1 : g * det t.p t.q t.r = g * (t.n * t.n * t.n) := cancel2 hg (by rw [dr]; grind)
    exact Int.eq_of_mul_eq_mul_left (Int.ne_of_gt hg) e1
noncomputable def tsc (s : Int) (t : T9) : T9 := ⟨⟨s * t.p.x, s * t.p.y, s * t.p.z⟩, ⟨s * t.q.x, s * t.q.y, s * t.q.z⟩, ⟨s * t.r.x, s * t.r.y, s * t.r.z⟩, s * t.n⟩
theorem tl_sc (s : Int) (t : T9) : tl (tsc s t) = (tl t).map (s * ·) := rfl
theorem rawT_sc (s : Int) (q : Q4) : rawT (qsc s q) = tsc (s * s) (rawT q) := by
  simp only [rawT, qsc, tsc, T9.mk.injEq, P3.mk.injEq]
  refine ⟨⟨?_, ?_, ?_⟩, ⟨?_, ?_, ?_⟩, ⟨?_, ?_, ?_⟩, ?_⟩ <;> grind
theorem T9.eq {t u : T9} (hp : t.p = u.p) (hq : t.q = u.q) (hr : t.r = u.r) (hn : t.n = u.n) : t = u := by
  cases t; cases u; simp only at hp hq hr hn; subst hp hq hr hn; rfl
theorem lowT_sc {s : Int} (hs : 0 < s) (t : T9) (ht : 0 < gcdL (tl t)) : lowT (tsc s t) = lowT t := by
  have g : gcdL (tl (tsc s t)) = s * gcdL (tl t) := by rw [tl_sc, gcdL_mul, Int.natAbs_of_nonneg (Int.le_of_lt hs)]
  have e : ∀ x : Int, (s * x).fdiv (s * gcdL (tl t)) = x.fdiv (gcdL (tl t)) := fun x => by
    rw [Int.mul_fdiv_mul_of_pos _ _ hs]
  unfold lowT divT p3div
  rw [g]
  simp only [tsc, e]
theorem turnT_sc {s : Int} {q : Q4} (hs : s ≠ 0) (h0 : q ≠ q0) : turnT (qsc s q) = turnT q := by
  have : 0 < s * s := by
    have := sq_nn s
    have : s * s ≠ 0 := fun z => hs (sq_zero z)
    omega
  unfold turnT
  rw [rawT_sc, lowT_sc this _ (lowT_of (rawT_pos h0)).g]
theorem sq_form (x : Int) : (∃ k, x = 2 * k ∧ x * x = 4 * (k * k)) ∨ (∃ m, x * x = 8 * m + 1 ∧ x % 2 = 1) := by
  rcases Int.emod_two_eq x with h | h
  · left
    have e : x = 2 * (x / 2) := by omega
    generalize x / 2 = k at e
    subst e
    exact ⟨k, rfl, by grind⟩
  · right
    have e : x = 2 * (x / 2) + 1 := by omega
    generalize x / 2 = k at e
    subst e
    rcases Int.emod_two_eq k with h2 | h2
    · have e : k = 2 * (k / 2) := by omega
      generalize k / 2 = i at e
      subst e
      exact ⟨2 * (i * i) + i, by grind, h⟩
    · have e : k = 2 * (k / 2) + 1 := by omega
      generalize k / 2 = i at e
      subst e
      exact ⟨2 * (i * i) + 3 * i + 1, by grind, h⟩
theorem prod_odd {x y : Int} (hx : x % 2 = 1) (hy : y % 2 = 1) : (x * y) % 2 = 1 := by
  rw [Int.mul_emod, hx, hy]; rfl
theorem dvd_eq {h x y : Int} (e : x = y) (d : h ∣ x) : h ∣ y := e ▸ d
theorem raw_four {q : Q4} (g1 : gcdL (ql q) = 1) : gcdL (tl (rawT q)) ∣ 4 := by
  have dv : ∀ x ∈ tl (rawT q), gcdL (tl (rawT q)) ∣ x := fun x hx => gcdL_dvd hx
  generalize gcdL (tl (rawT q)) = h at *
  have e1 := dv _ (show (rawT q).p.x ∈ _ by simp [tl]); have e2 := dv _ (show (rawT q).p.y ∈ _ by simp [tl]); have e3 := dv _ (show (rawT q).p.z ∈ _ by simp [tl])
  have e4 := dv _ (show (rawT q).q.x ∈ _ by simp [tl]); have e5 := dv _ (show (rawT q).q.y ∈ _ by simp [tl]); have e6 := dv _ (show (rawT q).q.z ∈ _ by simp [tl])
  have e7 := dv _ (show (rawT q).r.x ∈ _ by simp [tl]); have e8 := dv _ (show (rawT q).r.y ∈ _ by simp [tl]); have e9 := dv _ (show (rawT q).r.z ∈ _ by simp [tl])
  have e0 := dv _ (show (rawT q).n ∈ _ by simp [tl])
  -- h divides 4 x y for each two of the four
  have aa : h ∣ 4 * q.a * q.a := dvd_eq (by simp only [rawT, Int.mul_assoc]; simp +arith only) (Int.dvd_add (Int.dvd_add (Int.dvd_add e0 e1) e5) e9)
  have bb : h ∣ 4 * q.b * q.b := dvd_eq (by simp only [rawT, Int.mul_assoc]; simp +arith only) (Int.dvd_sub (Int.dvd_sub (Int.dvd_add e0 e1) e5) e9)
  have cc : h ∣ 4 * q.c * q.c := dvd_eq (by simp only [rawT, Int.mul_assoc]; simp +arith only) (Int.dvd_sub (Int.dvd_add (Int.dvd_sub e0 e1) e5) e9)
  have dd : h ∣ 4 * q.d * q.d := dvd_eq (by simp only [rawT, Int.mul_assoc]; simp +arith only) (Int.dvd_add (Int.dvd_sub (Int.dvd_sub e0 e1) e5) e9)
  have ab : h ∣ 4 * q.a * q.b := dvd_eq (by simp only [rawT, Int.mul_assoc]; simp +arith only) (Int.dvd_sub e8 e6)
  have ac : h ∣ 4 * q.a * q.c := dvd_eq (by simp only [rawT, Int.mul_assoc]; simp +arith only) (Int.dvd_sub e3 e7)
  have ad : h ∣ 4 * q.a * q.d := dvd_eq (by simp only [rawT, Int.mul_assoc]; simp +arith only) (Int.dvd_sub e4 e2)
  have bc : h ∣ 4 * q.b * q.c := dvd_eq (by simp only [rawT, Int.mul_assoc]; simp +arith only) (Int.dvd_add e4 e2)
  have bd : h ∣ 4 * q.b * q.d := dvd_eq (by simp only [rawT, Int.mul_assoc]; simp +arith only) (Int.dvd_add e3 e7)
  have cd : h ∣ 4 * q.c * q.d := dvd_eq (by simp only [rawT, Int.mul_assoc]; simp +arith only) (Int.dvd_add e8 e6)
  have one : ∀ x : Int, h ∣ x * q.a → h ∣ x * q.b → h ∣ x * q.c → h ∣ x * q.d → h ∣ x := fun x h1 h2 h3 h4 => by
    have : h ∣ gcdL ((ql q).map (x * ·)) := dvd_gcdL.mpr fun y hy => by
      simp only [ql, List.map_cons, List.map_nil, List.mem_cons, List.not_mem_nil, or_false] at hy
      rcases hy with rfl | rfl | rfl | rfl <;> assumption
    rw [gcdL_mul, g1, Int.mul_one] at this
    exact Int.dvd_natAbs.mp this
  have sw : ∀ {x y : Int}, h ∣ 4 * x * y → h ∣ 4 * y * x := fun {x y} hh => by
    have : 4 * y * x = 4 * x * y := by grind
    rw [this]; exact hh
  have fa := one (4 * q.a) aa ab ac ad
  have fb := one (4 * q.b) (sw ab) bb bc bd
  have fc := one (4 * q.c) (sw ac) (sw bc) cc cd
  have fd := one (4 * q.d) (sw ad) (sw bd) (sw cd) dd
  exact one 4 fa fb fc fd
theorem sq4 (x : Int) : (x * x) % 4 = x % 2 := by
  rcases sq_form x with ⟨k, e, f⟩ | ⟨m, f, e⟩
  · rw [f, e]; omega
  · rw [f, e]; omega
theorem sq8 {x : Int} (h : x % 2 = 1) : (x * x) % 8 = 1 := by
  rcases sq_form x with ⟨k, e, f⟩ | ⟨m, f, e⟩
  · omega
  · rw [f]; omega
theorem four_odd {A B C D a b c d : Int} (ha : A % 4 = a % 2) (hb : B % 4 = b % 2) (hc : C % 4 = c % 2) (hd : D % 4 = d % 2) (h : (A + B + C + D) % 4 = 0) (ne : ¬ (a % 2 = 0 ∧ b % 2 = 0 ∧ c % 2 = 0 ∧ d % 2 = 0)) : a % 2 = 1 ∧ b % 2 = 1 ∧ c % 2 = 1 ∧ d % 2 = 1 := by
  rw [Int.add_emod, Int.add_emod (A + B), Int.add_emod A, ha, hb, hc, hd] at h
  rcases Int.emod_two_eq a with x | x <;> rcases Int.emod_two_eq b with y | y <;> rcases Int.emod_two_eq c with z | z <;> rcases Int.emod_two_eq d with w | w <;> rw [x, y, z, w] at h <;> first | exact ⟨x, y, z, w⟩ | exact absurd h (by decide) | exact absurd (And.intro x (And.intro y (And.intro z w))) ne
theorem eight4 {A B C D : Int} (a : A % 8 = 1) (b : B % 8 = 1) (c : C % 8 = 1) (d : D % 8 = 1) : (A + B + C + D) % 8 = 4 := by omega
theorem pm2 {A B C D : Int} (e : (A + B + C + D) % 2 = 0) : (2 ∣ A + B - C - D) ∧ (2 ∣ A - B + C - D) ∧ 2 ∣ A - B - C + D := by omega
theorem m41 {A : Int} (a : A % 4 = 1) : ∃ k, A = 4 * k + 1 := ⟨A / 4, by rw [← a]; exact (Int.mul_ediv_add_emod A 4).symm⟩
theorem pm4 {A B C D : Int} (a : A % 4 = 1) (b : B % 4 = 1) (c : C % 4 = 1) (d : D % 4 = 1) : (4 ∣ A + B - C - D) ∧ (4 ∣ A - B + C - D) ∧ (4 ∣ A - B - C + D) ∧ 4 ∣ A + B + C + D := by
  obtain ⟨i, ei⟩ := m41 a
  obtain ⟨j, ej⟩ := m41 b
  obtain ⟨k, ek⟩ := m41 c
  obtain ⟨l, el⟩ := m41 d
  rw [ei, ej, ek, el]
  exact ⟨⟨i + j - k - l, by simp +arith only⟩, ⟨i - j + k - l, by simp +arith only⟩, ⟨i - j - k + l, by simp +arith only⟩, ⟨i + j + k + l + 1, by simp +arith only⟩⟩
theorem dd4 {x y : Int} (hx : x % 2 = 1) (hy : y % 2 = 1) : (4 ∣ 2 * (x - y)) ∧ 4 ∣ 2 * (x + y) := by omega
theorem tl_all {d : Int} {t : T9} (h1 : d ∣ t.p.x) (h2 : d ∣ t.p.y) (h3 : d ∣ t.p.z) (h4 : d ∣ t.q.x) (h5 : d ∣ t.q.y) (h6 : d ∣ t.q.z) (h7 : d ∣ t.r.x) (h8 : d ∣ t.r.y) (h9 : d ∣ t.r.z) (h0 : d ∣ t.n) : d ∣ gcdL (tl t) := dvd_gcdL.mpr fun x hm => by
  simp only [tl, List.mem_cons, List.not_mem_nil, or_false] at hm
  rcases hm with rfl | rfl | rfl | rfl | rfl | rfl | rfl | rfl | rfl | rfl <;> assumption
theorem even_no {q : Q4} (g1 : gcdL (ql q) = 1) : ¬ (q.a % 2 = 0 ∧ q.b % 2 = 0 ∧ q.c % 2 = 0 ∧ q.d % 2 = 0) := by
  rintro ⟨a, b, c, d⟩
  have : (2 : Int) ∣ gcdL (ql q) := dvd_gcdL.mpr fun x hx => by
    simp only [ql, List.mem_cons, List.not_mem_nil, or_false] at hx
    rcases hx with rfl | rfl | rfl | rfl
    · exact Int.dvd_of_emod_eq_zero a
    · exact Int.dvd_of_emod_eq_zero b
    · exact Int.dvd_of_emod_eq_zero c
    · exact Int.dvd_of_emod_eq_zero d
  rw [g1] at this
  exact absurd this (by decide)
theorem raw_even {q : Q4} (e : qsize q % 2 = 0) : (2 : Int) ∣ gcdL (tl (rawT q)) := by
  obtain ⟨a, b, c⟩ := pm2 e
  have t : ∀ x : Int, (2 : Int) ∣ 2 * x := fun x => Int.dvd_mul_right 2 x
  exact tl_all (t := rawT q) a (t _) (t _) (t _) b (t _) (t _) (t _) c (Int.dvd_of_emod_eq_zero e)
theorem raw_odd4 {q : Q4} (oa : q.a % 2 = 1) (ob : q.b % 2 = 1) (oc : q.c % 2 = 1) (od : q.d % 2 = 1) : (4 : Int) ∣ gcdL (tl (rawT q)) := by
  have s : ∀ {x : Int}, x % 2 = 1 → (x * x) % 4 = 1 := fun {x} h => by rw [sq4, h]
  obtain ⟨a, b, c, d⟩ := pm4 (s oa) (s ob) (s oc) (s od)
  have bc := prod_odd ob oc; have ad := prod_odd oa od; have bd := prod_odd ob od; have ac := prod_odd oa oc; have cd := prod_odd oc od; have ab := prod_odd oa ob
  exact tl_all (t := rawT q) a (dd4 bc ad).1 (dd4 bd ac).2 (dd4 bc ad).2 b (dd4 cd ab).1 (dd4 bd ac).1 (dd4 cd ab).2 c d
theorem dvd4_le {g : Int} (p : 0 < g) (h : g ∣ 4) : g = 1 ∨ g = 2 ∨ g = 4 := by
  have le := Int.le_of_dvd (by decide) h
  rcases (show g = 1 ∨ g = 2 ∨ g = 3 ∨ g = 4 by omega) with z | z | z | z
  · exact .inl z
  · exact .inr (.inl z)
  · rw [z] at h; exact absurd h (by decide)
  · exact .inr (.inr z)
theorem turn_odd {q : Q4} (g1 : gcdL (ql q) = 1) (h0 : q ≠ q0) : ∃ j : Nat, j ≤ 2 ∧ qsize q = (turnT q).n * 2 ^ j ∧ (turnT q).n % 2 = 1 := by
  have l := lowT_of (rawT_pos h0)
  have nn : gcdL (tl (rawT q)) * (turnT q).n = qsize q := l.nn
  have ne := even_no g1
  have odd4 : qsize q % 4 = 0 → (4 : Int) ∣ gcdL (tl (rawT q)) ∧ qsize q % 8 = 4 := fun h4 => by
    obtain ⟨oa, ob, oc, od⟩ := four_odd (sq4 q.a) (sq4 q.b) (sq4 q.c) (sq4 q.d) h4 ne
    exact ⟨raw_odd4 oa ob oc od, eight4 (sq8 oa) (sq8 ob) (sq8 oc) (sq8 od)⟩
  have ev := raw_even (q := q)
  have hx := dvd4_le l.g (raw_four g1)
  generalize (turnT q).n = n at *
  generalize qsize q = N at *
  generalize gcdL (tl (rawT q)) = g at *
  clear ne l g1 h0
  rcases hx with rfl | rfl | rfl
  · refine ⟨0, by decide, by rw [← nn, Int.pow_zero, Int.one_mul, Int.mul_one], ?_⟩
    rcases Int.emod_two_eq n with z | z
    · exact absurd (ev (by rw [← nn, Int.one_mul]; exact z)) (by decide)
    · exact z
  · refine ⟨1, by decide, by rw [← nn, Int.mul_comm]; rfl, ?_⟩
    rcases Int.emod_two_eq n with z | z
    · exact absurd (odd4 (by omega)).1 (by decide)
    · exact z
  · refine ⟨2, by decide, by rw [← nn, Int.mul_comm]; rfl, ?_⟩
    have := (odd4 (by omega)).2
    omega
theorem bd_two' {k : Nat} {x : Int} (h : Bd k x) : Bd (k + 2) (2 * x) := by
  have := (show Bd 2 (2 : Int) from bd_lit (by decide)).mul h
  exact this.mono (by omega)
noncomputable def ssub (p q : Q4) : Q4 := ⟨p.a - q.a, p.b - q.b, p.c - q.c, p.d - q.d⟩
theorem mix_sub (p q : Q4) : mix4 1 p (-1) q = ssub p q := by apply Q4.eq <;> simp only [mix4, ssub] <;> simp +arith only
theorem Stone.sub {p q : Q4} (hp : Stone p) (hq : Stone q) : Stone (ssub p q) := ⟨by
  show (p.b - q.b) % 2 = (p.a - q.a) % 2
  rw [Int.sub_emod, hp.b, hq.b, ← Int.sub_emod], by
  show (p.c - q.c) % 2 = (p.a - q.a) % 2
  rw [Int.sub_emod, hp.c, hq.c, ← Int.sub_emod], by
  show (p.d - q.d) % 2 = (p.a - q.a) % 2
  rw [Int.sub_emod, hp.d, hq.d, ← Int.sub_emod]⟩
theorem neg2 (x : Int) : -x % 2 = x % 2 := by omega
theorem Stone.bar {p : Q4} (hp : Stone p) : Stone (qbar p) := ⟨(neg2 _).trans hp.b, (neg2 _).trans hp.c, (neg2 _).trans hp.d⟩
theorem heavy_bar (p : Q4) : heavy (qbar p) = heavy p := by
  have : qsize (qbar p) = qsize p := by simp only [qsize, qbar]; grind
  unfold heavy; rw [this]
theorem smul_sub {p q r : Q4} (hp : Stone p) (hq : Stone q) (hr : Stone r) : smul p (ssub q r) = ssub (smul p q) (smul p r) := by
  have e : qmul p (ssub q r) = ssub (qmul p q) (qmul p r) := by apply Q4.eq <;> simp only [qmul, ssub] <;> grind
  rw [(smul_two hp hq).1, (smul_two hp hr).1] at e
  exact smul_of (e.trans (by simp only [ssub, Int.mul_sub]))
theorem sub_smul {p q r : Q4} (hp : Stone p) (hq : Stone q) (hr : Stone r) : smul (ssub p q) r = ssub (smul p r) (smul q r) := by
  have e : qmul (ssub p q) r = ssub (qmul p r) (qmul q r) := by apply Q4.eq <;> simp only [qmul, ssub] <;> grind
  rw [(smul_two hp hr).1, (smul_two hq hr).1] at e
  exact smul_of (e.trans (by simp only [ssub, Int.mul_sub]))
theorem bar_smul {y k : Q4} (hy : Stone y) (hk : Stone k) : smul (qbar y) (smul y k) = ⟨heavy y * k.a, heavy y * k.b, heavy y * k.c, heavy y * k.d⟩ := by
  obtain ⟨e1, s1⟩ := smul_two hy hk
  obtain ⟨e2, _⟩ := smul_two hy.bar s1
  have e3 : qmul (qbar y) (qmul y k) = ⟨qsize y * k.a, qsize y * k.b, qsize y * k.c, qsize y * k.d⟩ := by
    apply Q4.eq <;> simp only [qmul, qbar, qsize] <;> grind
  rw [e1, qmul_two_right, e2, ← heavy_four hy] at e3
  have a := congrArg Q4.a e3; have b := congrArg Q4.b e3; have c := congrArg Q4.c e3; have d := congrArg Q4.d e3
  simp only at a b c d
  have f : ∀ {x z : Int}, 2 * (2 * x) = 4 * heavy y * z → x = heavy y * z := fun {x z} h => by
    rw [← Int.mul_assoc, Int.mul_assoc 4] at h
    exact Int.eq_of_mul_eq_mul_left (show (4 : Int) ≠ 0 by decide) h
  exact Q4.eq (f a) (f b) (f c) (f d)
theorem heavy_nn (q : Q4) : 0 ≤ heavy q := by
  have : 0 ≤ qsize q := by
    have sq : ∀ x : Int, 0 ≤ x * x := fun x => by
      rcases Int.le_total 0 x with h | h
      · exact Int.mul_nonneg h h
      · exact Int.mul_nonneg_of_nonpos_of_nonpos h h
    have := sq q.a; have := sq q.b; have := sq q.c; have := sq q.d
    unfold qsize; omega
  unfold heavy
  rw [fdiv_pos (by decide)]
  omega
theorem heavy_zero {q : Q4} (hq : Stone q) (h : heavy q = 0) : q = q0 := by
  have f := heavy_four hq
  have sq : ∀ x : Int, 0 ≤ x * x := fun x => by
    rcases Int.le_total 0 x with h | h
    · exact Int.mul_nonneg h h
    · exact Int.mul_nonneg_of_nonpos_of_nonpos h h
  have z : ∀ {x : Int}, x * x = 0 → x = 0 := fun h => by rcases Int.mul_eq_zero.mp h with z | z <;> exact z
  rw [h] at f
  unfold qsize at f
  have a := sq q.a; have b := sq q.b; have c := sq q.c; have d := sq q.d
  exact Q4.eq (z (by omega)) (z (by omega)) (z (by omega)) (z (by omega))
theorem heavy_pos {q : Q4} (hq : Stone q) (h : q ≠ q0) : 0 < heavy q := by
  have := heavy_nn q
  have : heavy q ≠ 0 := fun z => h (heavy_zero hq z)
  omega
noncomputable def evn (x w : Int) : Int := 2 * ((x + w).fdiv (2 * w))
noncomputable def odn (x w : Int) : Int := 2 * (x.fdiv (2 * w)) + 1
noncomputable def evnQ (q : Q4) (w : Int) : Q4 := ⟨evn q.a w, evn q.b w, evn q.c w, evn q.d w⟩
noncomputable def odnQ (q : Q4) (w : Int) : Q4 := ⟨odn q.a w, odn q.b w, odn q.c w, odn q.d w⟩
theorem ev2 (x : Int) : (2 * x) % 2 = 0 := Int.mul_emod_right 2 x
theorem od2 (x : Int) : (2 * x + 1) % 2 = 1 := by rw [Int.add_comm, Int.add_mul_emod_self_left]; rfl
theorem evnQ_stone (q : Q4) (w : Int) : Stone (evnQ q w) := ⟨(ev2 _).trans (ev2 _).symm, (ev2 _).trans (ev2 _).symm, (ev2 _).trans (ev2 _).symm⟩
theorem odnQ_stone (q : Q4) (w : Int) : Stone (odnQ q w) := ⟨(od2 _).trans (od2 _).symm, (od2 _).trans (od2 _).symm, (od2 _).trans (od2 _).symm⟩
theorem near_hi {r w : Int} (h : w ≤ r) (h2 : r < 2 * w) : ((r - 2 * w).natAbs : Int) + (r - w).natAbs = w := by omega
theorem near_lo {r w : Int} (h0 : 0 ≤ r) (h : ¬ w ≤ r) : (r.natAbs : Int) + (r - w).natAbs = w := by omega
theorem near_one {r w : Int} (w2 : 0 < 2 * w) (h : w ≤ r) (h2 : r < 2 * w) : (r + w) / (2 * w) = 1 := by rw [Int.ediv_eq_iff_of_pos w2]; omega
theorem near_sum {x w : Int} (hw : 0 < w) : ((x - w * evn x w).natAbs : Int) + (x - w * odn x w).natAbs = w := by
  unfold evn odn
  have w2 : 0 < 2 * w := Int.mul_pos (by decide) hw
  rw [fdiv_pos w2, fdiv_pos w2]
  have e1 := Int.mul_ediv_add_emod x (2 * w)
  have r0 := Int.emod_nonneg x (Int.ne_of_gt w2)
  have r1 := Int.emod_lt_of_pos x w2
  generalize x % (2 * w) = r at *
  generalize x / (2 * w) = q at *
  subst e1
  have b : 2 * w * q + r - w * (2 * q + 1) = r - w := by grind
  have k : (2 * w * q + r + w) / (2 * w) = q + (r + w) / (2 * w) := by
    rw [Int.add_assoc, Int.add_comm, Int.add_mul_ediv_left _ _ (Int.ne_of_gt w2), Int.add_comm]
  rw [b, k]
  by_cases h : w ≤ r
  · have a : 2 * w * q + r - w * (2 * (q + 1)) = r - 2 * w := by grind
    rw [near_one w2 h r1, a]
    exact near_hi h r1
  · have e : (r + w) / (2 * w) = 0 := Int.ediv_eq_zero_of_lt (Int.add_nonneg r0 (Int.le_of_lt hw)) (by rw [Int.two_mul]; exact Int.add_lt_add_right (Int.not_le.mp h) w)
    have a : 2 * w * q + r - w * (2 * (q + 0)) = r := by grind
    rw [e, a]
    exact near_lo r0 h
theorem abs_sq (x : Int) : ((x.natAbs : Int)) * x.natAbs = x * x := by
  rcases Int.natAbs_eq x with h | h
  · rw [← h]
  · have : (x.natAbs : Int) = -x := by omega
    rw [this]; grind
theorem near_sq {x w : Int} (hw : 0 < w) : (x - w * evn x w) * (x - w * evn x w) + (x - w * odn x w) * (x - w * odn x w) ≤ w * w := by
  have s := near_sum (x := x) hw
  have p0 : (0 : Int) ≤ (x - w * evn x w).natAbs := by omega
  have q0 : (0 : Int) ≤ (x - w * odn x w).natAbs := by omega
  rw [← abs_sq (x - w * evn x w), ← abs_sq (x - w * odn x w)]
  generalize ((x - w * evn x w).natAbs : Int) = p at *
  generalize ((x - w * odn x w).natAbs : Int) = q at *
  have := Int.mul_nonneg p0 q0
  rw [← s]; grind
theorem rest_aim {x y k : Q4} (hx : Stone x) (hy : Stone y) (hk : Stone k) : smul (qbar y) (ssub x (smul y k)) = ssub (smul (qbar y) x) ⟨heavy y * k.a, heavy y * k.b, heavy y * k.c, heavy y * k.d⟩ := by
  rw [smul_sub hy.bar hx (smul_two hy hk).2, bar_smul hy hk]
theorem rest_heavy {x y k : Q4} (hx : Stone x) (hy : Stone y) (hk : Stone k) : 4 * (heavy y * heavy (ssub x (smul y k))) = qsize (ssub (smul (qbar y) x) ⟨heavy y * k.a, heavy y * k.b, heavy y * k.c, heavy y * k.d⟩) := by
  have s := (hx.sub (smul_two hy hk).2)
  rw [← rest_aim hx hy hk, ← heavy_four (smul_two hy.bar s).2, heavy_mul hy.bar s, heavy_bar]
theorem rest_half {x y : Q4} (hx : Stone x) (hy : Stone y) (h0 : y ≠ q0) (A : Q4) (hA : A = smul (qbar y) x) : heavy (ssub x (smul y (evnQ A (heavy y)))) + heavy (ssub x (smul y (odnQ A (heavy y)))) ≤ heavy y := by
  have hw := heavy_pos hy h0
  have e1 := rest_heavy hx hy (evnQ_stone A (heavy y))
  have e2 := rest_heavy hx hy (odnQ_stone A (heavy y))
  rw [← hA] at e1 e2
  have a := near_sq (x := A.a) hw; have b := near_sq (x := A.b) hw; have c := near_sq (x := A.c) hw; have d := near_sq (x := A.d) hw
  generalize heavy (ssub x (smul y (evnQ A (heavy y)))) = p at *
  generalize heavy (ssub x (smul y (odnQ A (heavy y)))) = q at *
  simp only [qsize, ssub, evnQ, odnQ] at e1 e2
  have s : 4 * (heavy y * (p + q)) ≤ 4 * (heavy y * heavy y) := by
    have : heavy y * (p + q) = heavy y * p + heavy y * q := by grind
    omega
  exact Int.le_of_mul_le_mul_left (by omega) hw
theorem rest_none {x y k0 : Q4} (hy : Stone y) (h0 : y ≠ q0) (hk : Stone k0) (hx : x = smul y k0) (A : Q4) (hA : A = smul (qbar y) x) : evnQ A (heavy y) = k0 ∨ odnQ A (heavy y) = k0 := by
  have hw := heavy_pos hy h0
  rw [hx, bar_smul hy hk] at hA
  obtain ⟨k2, k3, k4⟩ := hk
  have w2 : 0 < 2 * heavy y := Int.mul_pos (by decide) hw
  have z2 : heavy y / (2 * heavy y) = 0 := Int.ediv_eq_zero_of_lt (Int.le_of_lt hw) (by omega)
  have cut : ∀ i : Int, (heavy y + 2 * heavy y * i) / (2 * heavy y) = i := fun i => by rw [Int.add_mul_ediv_left _ _ (Int.ne_of_gt w2), z2, Int.zero_add]
  have ev : ∀ z : Int, z % 2 = 0 → evn (heavy y * z) (heavy y) = z := fun z hz => by
    obtain ⟨i, rfl⟩ := Int.dvd_of_emod_eq_zero hz
    unfold evn
    rw [fdiv_pos w2, show heavy y * (2 * i) + heavy y = heavy y + 2 * heavy y * i by grind, cut]
  have od : ∀ z : Int, z % 2 = 1 → odn (heavy y * z) (heavy y) = z := fun z hz => by
    obtain ⟨i, rfl⟩ := same2 (x := 1) hz
    unfold odn
    rw [fdiv_pos w2, show heavy y * (1 + 2 * i) = heavy y + 2 * heavy y * i by grind, cut, Int.add_comm]
  rcases Int.emod_two_eq k0.a with z | z
  · left; rw [hA]; exact Q4.eq (ev _ z) (ev _ (k2.trans z)) (ev _ (k3.trans z)) (ev _ (k4.trans z))
  · right; rw [hA]; exact Q4.eq (od _ z) (od _ (k2.trans z)) (od _ (k3.trans z)) (od _ (k4.trans z))
theorem heavy_bd {k : Nat} {q : Q4} (h : Bq k q) : Bd (2 * k + 3) (heavy q) := by
  have := bd_size h
  unfold heavy
  rw [fdiv_pos (by decide)]
  unfold Bd at *
  omega
theorem bd_dv {k : Nat} {x w : Int} (h : Bd k x) (hw : 0 < w) : Bd k (x.fdiv w) := by
  rw [fdiv_pos hw]
  exact Nat.lt_of_le_of_lt (Int.natAbs_ediv_le_natAbs x w) h
theorem evnQ_bd {k : Nat} {q : Q4} {w : Int} (h : Bq k q) (bw : Bd k w) (hw : 0 < w) : Bq (k + 4) (evnQ q w) := by
  have b : ∀ {x : Int}, Bd k x → Bd (k + 4) (evn x w) := fun hx => ((show Bd 2 (2 : Int) from bd_lit (by decide)).mul (bd_dv (hx.add bw) (by omega))).mono (by omega)
  exact ⟨b h.a, b h.b, b h.c, b h.d⟩
theorem odnQ_bd {k : Nat} {q : Q4} {w : Int} (h : Bq k q) (hw : 0 < w) : Bq (k + 4) (odnQ q w) := by
  have b : ∀ {x : Int}, Bd k x → Bd (k + 4) (odn x w) := fun hx => (((show Bd 2 (2 : Int) from bd_lit (by decide)).mul (bd_dv hx (w := 2 * w) (by omega))).add (show Bd 1 (1 : Int) from bd_lit (by decide))).mono (by omega)
  exact ⟨b h.a, b h.b, b h.c, b h.d⟩
theorem Bq.ssub {k l : Nat} {p q : Q4} (h : Bq k p) (g : Bq l q) : Bq (max k l + 1) (ssub p q) := ⟨h.a.sub g.a, h.b.sub g.b, h.c.sub g.c, h.d.sub g.d⟩
structure Row (x y s a b : Q4) : Prop where
  ss : Stone s
  sa : Stone a
  sb : Stone b
  e : s = qadd (smul x a) (smul y b)
theorem Stone.add {p q : Q4} (hp : Stone p) (hq : Stone q) : Stone (qadd p q) := ⟨by
  show (p.b + q.b) % 2 = (p.a + q.a) % 2
  rw [Int.add_emod, hp.b, hq.b, ← Int.add_emod], by
  show (p.c + q.c) % 2 = (p.a + q.a) % 2
  rw [Int.add_emod, hp.c, hq.c, ← Int.add_emod], by
  show (p.d + q.d) % 2 = (p.a + q.a) % 2
  rw [Int.add_emod, hp.d, hq.d, ← Int.add_emod]⟩
theorem q0_stone : Stone q0 := ⟨rfl, rfl, rfl⟩
theorem sone_stone : Stone sone := ⟨rfl, rfl, rfl⟩
theorem smul_q0 (p : Q4) : smul p q0 = q0 := smul_of (by simp only [qmul, q0, Int.mul_zero, Int.sub_zero, Int.add_zero])
theorem q0_smul (p : Q4) : smul q0 p = q0 := smul_of (by simp only [qmul, q0, Int.zero_mul, Int.mul_zero, Int.sub_zero, Int.add_zero])
theorem qadd_q0 (p : Q4) : qadd p q0 = p := by simp only [qadd, q0, Int.add_zero]
theorem q0_qadd (p : Q4) : qadd q0 p = p := by simp only [qadd, q0, Int.zero_add]
theorem smul_add {p q r : Q4} (hp : Stone p) (hq : Stone q) (hr : Stone r) : smul p (qadd q r) = qadd (smul p q) (smul p r) := by
  have e := qmul_add p q r
  rw [(smul_two hp hq).1, (smul_two hp hr).1] at e
  exact smul_of (e.trans (by simp only [qadd, Int.mul_add]))
theorem add_smul {p q r : Q4} (hp : Stone p) (hq : Stone q) (hr : Stone r) : smul (qadd p q) r = qadd (smul p r) (smul q r) := by
  have e : qmul (qadd p q) r = qadd (qmul p r) (qmul q r) := by apply Q4.eq <;> simp only [qmul, qadd] <;> grind
  rw [(smul_two hp hr).1, (smul_two hq hr).1] at e
  exact smul_of (e.trans (by simp only [qadd, Int.mul_add]))
theorem Row.step {x y s a b s' a' b' k : Q4} (sx : Stone x) (sy : Stone y) (r : Row x y s a b) (r' : Row x y s' a' b') (hk : Stone k) : Row x y (ssub s (smul s' k)) (ssub a (smul a' k)) (ssub b (smul b' k)) := by
  have ka := (smul_two r'.sa hk).2
  have kb := (smul_two r'.sb hk).2
  refine ⟨r.ss.sub (smul_two r'.ss hk).2, r.sa.sub ka, r.sb.sub kb, ?_⟩
  have e1 : smul s' k = qadd (smul x (smul a' k)) (smul y (smul b' k)) := by
    rw [r'.e, add_smul (smul_two sx r'.sa).2 (smul_two sy r'.sb).2 hk, smul_assoc sx r'.sa hk, smul_assoc sy r'.sb hk]
  rw [smul_sub sx r.sa ka, smul_sub sy r.sb kb, e1]
  conv => lhs; rw [r.e]
  apply Q4.eq <;> simp only [qadd, ssub] <;> simp +arith only
noncomputable def In2 (z s t : Q4) : Prop := ∃ u v : Q4, Stone u ∧ Stone v ∧ z = qadd (smul s u) (smul t v)
theorem In2.step {z s t k : Q4} (ss : Stone s) (st : Stone t) (hk : Stone k) (h : In2 z s t) : In2 z t (ssub s (smul t k)) := by
  obtain ⟨u, v, su, sv, e⟩ := h
  have sk := (smul_two hk su).2
  have stk := (smul_two st hk).2
  refine ⟨qadd (smul k u) v, u, sk.add sv, su, ?_⟩
  rw [smul_add st sk sv, ← smul_assoc st hk su, sub_smul ss stk su, e]
  apply Q4.eq <;> simp only [qadd, ssub] <;> simp +arith only
theorem sq_in (q : Q4) : q.a * q.a ≤ qsize q ∧ q.b * q.b ≤ qsize q ∧ q.c * q.c ≤ qsize q ∧ q.d * q.d ≤ qsize q := by
  have sq : ∀ x : Int, 0 ≤ x * x := fun x => by
    rcases Int.le_total 0 x with h | h
    · exact Int.mul_nonneg h h
    · exact Int.mul_nonneg_of_nonpos_of_nonpos h h
  have a := sq q.a; have b := sq q.b; have c := sq q.c; have d := sq q.d
  unfold qsize
  generalize q.a * q.a = A at *
  generalize q.b * q.b = B at *
  generalize q.c * q.c = C at *
  generalize q.d * q.d = D at *
  omega
theorem bq_heavy {B : Nat} {q : Q4} (hq : Stone q) (h : heavy q < 2 ^ (2 * B)) : Bq (B + 1) q := by
  obtain ⟨a, b, c, d⟩ := sq_in q
  have e : (2 : Int) ^ (2 * B) * 4 = 2 ^ (B + 1) * 2 ^ (B + 1) := by
    rw [← Int.pow_add, show B + 1 + (B + 1) = 2 * B + 2 by omega, Int.pow_add]; rfl
  have lt : qsize q < 2 ^ (B + 1) * 2 ^ (B + 1) := by
    rw [← heavy_four hq, ← e, Int.mul_comm]
    exact Int.mul_lt_mul_of_pos_right h (by decide)
  have k : ∀ {x : Int}, x * x ≤ qsize q → Bd (B + 1) x := fun {x} hx => Nat.lt_of_not_le fun hn => by
    have h1 : (2 : Int) ^ (B + 1) ≤ x.natAbs := by exact_mod_cast hn
    have := Int.mul_le_mul h1 h1 (Int.pow_nonneg (by decide)) (Int.natCast_nonneg _)
    rw [abs_sq] at this
    exact absurd (Int.lt_of_le_of_lt (Int.le_trans this hx) lt) (Int.lt_irrefl _)
  exact ⟨k a, k b, k c, k d⟩
theorem heavy_lt {B : Nat} {q : Q4} (hq : Stone q) (h : Bq B q) : heavy q < 2 ^ (2 * B) := by
  have f := heavy_four hq
  have e : (2 : Int) ^ (2 * B) = 2 ^ B * 2 ^ B := by rw [← Int.pow_add]; congr 1; omega
  have k : ∀ {x : Int}, Bd B x → x * x < 2 ^ B * 2 ^ B := fun {x} hx => by
    unfold Bd at hx
    have h1 : (x.natAbs : Int) < 2 ^ B := by exact_mod_cast hx
    rw [← abs_sq]
    have n0 : (0 : Int) ≤ x.natAbs := by omega
    rcases Int.lt_or_eq_of_le n0 with z | z
    · exact Int.mul_lt_mul h1 (Int.le_of_lt h1) z (by omega)
    · rw [← z]; exact Int.mul_pos (by omega) (by omega)
  have a := k h.a; have b := k h.b; have c := k h.c; have d := k h.d
  unfold qsize at f
  rw [e]; omega
noncomputable def m1 (t : T9) : Q4 := ⟨t.n + t.p.x + t.q.y + t.r.z, t.r.y - t.q.z, t.p.z - t.r.x, t.q.x - t.p.y⟩
noncomputable def m2 (t : T9) : Q4 := ⟨t.r.y - t.q.z, t.n + t.p.x - t.q.y - t.r.z, t.q.x + t.p.y, t.p.z + t.r.x⟩
noncomputable def m3 (t : T9) : Q4 := ⟨t.p.z - t.r.x, t.q.x + t.p.y, t.n - t.p.x + t.q.y - t.r.z, t.r.y + t.q.z⟩
noncomputable def m4 (t : T9) : Q4 := ⟨t.q.x - t.p.y, t.p.z + t.r.x, t.r.y + t.q.z, t.n - t.p.x - t.q.y + t.r.z⟩
theorem qsc_q0 (g : Int) : qsc g q0 = q0 := by simp only [qsc, q0, Int.mul_zero]
noncomputable def trT (t : T9) : T9 := ⟨⟨t.p.x, t.q.x, t.r.x⟩, ⟨t.p.y, t.q.y, t.r.y⟩, ⟨t.p.z, t.q.z, t.r.z⟩, t.n⟩
theorem rawT_bar (q : Q4) : rawT (qbar q) = trT (rawT q) := by
  simp only [rawT, qbar, trT, qsize, Int.neg_mul, Int.mul_neg, Int.neg_neg, Int.sub_neg, ← Int.sub_eq_add_neg]
theorem gcdL_tr (t : T9) : gcdL (tl (trT t)) = gcdL (tl t) := by
  refine gcdL_congr fun d => ⟨fun h x hx => h x ?_, fun h x hx => h x ?_⟩
  · simp only [tl, trT, List.mem_cons, List.not_mem_nil, or_false] at hx ⊢
    rcases hx with h | h | h | h | h | h | h | h | h | h <;> simp [h]
  · simp only [tl, trT, List.mem_cons, List.not_mem_nil, or_false] at hx ⊢
    rcases hx with h | h | h | h | h | h | h | h | h | h <;> simp [h]
theorem trT_turn (q : Q4) : trT (turnT q) = turnT (qbar q) := by
  unfold turnT lowT
  rw [rawT_bar, gcdL_tr]
  rfl
theorem qbar_ne {q : Q4} (h : q ≠ q0) : qbar q ≠ q0 := fun z => h (by
  have a := congrArg Q4.a z; have b := congrArg Q4.b z; have c := congrArg Q4.c z; have d := congrArg Q4.d z
  simp only [qbar, q0] at a b c d
  exact Q4.eq (by show q.a = 0; omega) (by show q.b = 0; omega) (by show q.c = 0; omega) (by show q.d = 0; omega))
noncomputable def pl (p : P3) : D := .lst [.int p.x, .int p.y, .int p.z]
noncomputable def Shr (t : T9) (p : P3) : Prop := t.n ∣ dot (trT t).p p ∧ t.n ∣ dot (trT t).q p ∧ t.n ∣ dot (trT t).r p
noncomputable instance (t : T9) (p : P3) : Decidable (Shr t p) := inferInstanceAs (Decidable (_ ∧ _))
structure Pr (p : Int) : Prop where
  two : 2 ≤ p
  only : ∀ d : Int, 0 < d → d ∣ p → d = 1 ∨ d = p
theorem pr_of {n : Int} (h : 2 ≤ n) : ∃ p, Pr p ∧ p ∣ n := by
  have key : ∀ (k : Nat) (n : Int), 2 ≤ n → n.toNat ≤ k → ∃ p, Pr p ∧ p ∣ n := by
    intro k
    induction k with
    | zero => intro n h1 h2; omega
    | succ k ih =>
      intro n h1 h2
      by_cases hd : ∃ d : Int, 1 < d ∧ d < n ∧ d ∣ n
      · obtain ⟨d, a, b, c⟩ := hd
        obtain ⟨p, hp, pd⟩ := ih d (by omega) (by omega)
        exact ⟨p, hp, Int.dvd_trans pd c⟩
      · refine ⟨n, ⟨h1, fun d d0 dn => ?_⟩, Int.dvd_refl n⟩
        have le := Int.le_of_dvd (by omega) dn
        by_cases e : d = 1
        · exact .inl e
        by_cases e2 : d = n
        · exact .inr e2
        exact absurd ⟨d, by omega, by omega, dn⟩ hd
  exact key _ n h (Nat.le_refl _)
theorem not_dvd_one {p : Int} (h : 2 ≤ p) : ¬ p ∣ 1 := fun z => by
  have := Int.le_of_dvd (by decide) z
  omega
theorem one_of {x : Int} (h0 : 0 ≤ x) (h : ∀ p, Pr p → ¬ p ∣ x) : x = 1 := by
  rcases Int.lt_or_le x 2 with z | z
  · rcases Int.lt_or_le 0 x with y | y
    · omega
    · have e : x = 0 := by omega
      subst e
      obtain ⟨p, hp, _⟩ := pr_of (n := 2) (by decide)
      exact absurd (Int.dvd_zero p) (h p hp)
  · obtain ⟨p, hp, d⟩ := pr_of z
    exact absurd d (h p hp)
noncomputable def Cop (a b : Int) : Prop := ∀ d : Int, d ∣ a → d ∣ b → d ∣ 1
theorem Cop.mul {a b c : Int} (h : Cop a b) (d : a ∣ b * c) : a ∣ c := by
  have g : Int.gcd a b = 1 := Int.gcd_eq_one_iff.mpr h
  have e : a ∣ (Int.gcd (a * c) (b * c) : Int) := Int.dvd_coe_gcd (Int.dvd_mul_right a c) d
  rw [Int.gcd_mul_right, g, Nat.one_mul] at e
  exact Int.dvd_natAbs.mp e
theorem cop_pr {p x : Int} (h : Pr p) (n : ¬ p ∣ x) : Cop p x := by
  intro d dp dx
  have z : d ≠ 0 := fun z => by subst z; have := Int.zero_dvd.mp dp; have := h.two; omega
  rcases h.only (d.natAbs : Int) (by omega) (Int.natAbs_dvd.mpr dp) with e | e
  · exact Int.natAbs_dvd.mp (by rw [e]; exact Int.dvd_refl 1)
  · exact absurd (by rw [← e]; exact Int.natAbs_dvd.mpr dx) n
structure PW (m g c : Int) : Prop where
  pos : 0 < c
  dvd : c ∣ m
  cop : Cop c g
  all : ∀ d, d ∣ m → Cop d g → d ∣ c
theorem dvd_dec {m x : Int} (h : 0 < m) : decide (x.fmod m = 0) = decide (m ∣ x) := decide_eq_decide.mpr (by rw [fmod_pos h]; exact (Int.dvd_iff_emod_eq_zero).symm)
noncomputable def crs (p q : P3) : P3 := ⟨p.y * q.z - p.z * q.y, p.z * q.x - p.x * q.z, p.x * q.y - p.y * q.x⟩
structure Cols (p q r : P3) (n : Int) : Prop where
  xx : p.x * p.x + q.x * q.x + r.x * r.x = n * n
  yy : p.y * p.y + q.y * q.y + r.y * r.y = n * n
  zz : p.z * p.z + q.z * q.z + r.z * r.z = n * n
  xy : p.x * p.y + q.x * q.y + r.x * r.y = 0
  xz : p.x * p.z + q.x * q.z + r.x * r.z = 0
  yz : p.y * p.z + q.y * q.z + r.y * r.z = 0
theorem Cols.cyc {p q r : P3} {n : Int} (h : Cols p q r n) : Cols q r p n := by
  have c : ∀ {x y z s : Int}, x + y + z = s → y + z + x = s := fun e => by rw [← e, Int.add_comm, Int.add_assoc]
  exact ⟨c h.xx, c h.yy, c h.zz, c h.xy, c h.xz, c h.yz⟩
theorem det_cyc (p q r : P3) : det q r p = det p q r := by simp only [det]; grind
theorem crs_eq {p q r : P3} {n : Int} (h : Cols p q r n) (hd : det p q r = n * n * n) (n0 : n ≠ 0) : (crs p q).x = n * r.x ∧ (crs p q).y = n * r.y ∧ (crs p q).z = n * r.z := by
  have vp : dot (crs p q) p = 0 := by simp only [crs, dot]; grind
  have vq : dot (crs p q) q = 0 := by simp only [crs, dot]; grind
  have vr : dot (crs p q) r = n * n * n := by rw [← hd]; simp only [crs, dot, det]; grind
  generalize crs p q = v at *
  have nn : n * n ≠ 0 := fun z => by rcases Int.mul_eq_zero.mp z with z | z <;> exact n0 z
  have ex : (p.x * p.x + q.x * q.x + r.x * r.x) * v.x + (p.x * p.y + q.x * q.y + r.x * r.y) * v.y + (p.x * p.z + q.x * q.z + r.x * r.z) * v.z = p.x * dot v p + q.x * dot v q + r.x * dot v r := by simp only [dot]; grind
  have ey : (p.x * p.y + q.x * q.y + r.x * r.y) * v.x + (p.y * p.y + q.y * q.y + r.y * r.y) * v.y + (p.y * p.z + q.y * q.z + r.y * r.z) * v.z = p.y * dot v p + q.y * dot v q + r.y * dot v r := by simp only [dot]; grind
  have ez : (p.x * p.z + q.x * q.z + r.x * r.z) * v.x + (p.y * p.z + q.y * q.z + r.y * r.z) * v.y + (p.z * p.z + q.z * q.z + r.z * r.z) * v.z = p.z * dot v p + q.z * dot v q + r.z * dot v r := by simp only [dot]; grind
  rw [h.xx, h.xy, h.xz, vp, vq, vr] at ex
  rw [h.xy, h.yy, h.yz, vp, vq, vr] at ey
  rw [h.xz, h.yz, h.zz, vp, vq, vr] at ez
  have f : ∀ a b : Int, n * n * a = b * (n * n * n) → a = n * b := fun a b e => Int.eq_of_mul_eq_mul_left nn (by rw [e]; grind)
  simp only [Int.zero_mul, Int.mul_zero, Int.zero_add, Int.add_zero] at ex ey ez
  exact ⟨f _ _ ex, f _ _ ey, f _ _ ez⟩
noncomputable def DC (n : Int) (p q : P3) : Prop := n ∣ (crs p q).x ∧ n ∣ (crs p q).y ∧ n ∣ (crs p q).z
theorem dc_same (n : Int) (p : P3) : DC n p p := by
  have a : (crs p p).x = 0 := by simp only [crs]; grind
  have b : (crs p p).y = 0 := by simp only [crs]; grind
  have c : (crs p p).z = 0 := by simp only [crs]; grind
  unfold DC; rw [a, b, c]; exact ⟨Int.dvd_zero n, Int.dvd_zero n, Int.dvd_zero n⟩
theorem DC.sym {n : Int} {p q : P3} (h : DC n p q) : DC n q p := by
  have a : (crs q p).x = -(crs p q).x := by simp only [crs]; grind
  have b : (crs q p).y = -(crs p q).y := by simp only [crs]; grind
  have c : (crs q p).z = -(crs p q).z := by simp only [crs]; grind
  unfold DC; rw [a, b, c]; exact ⟨Int.dvd_neg.mpr h.1, Int.dvd_neg.mpr h.2.1, Int.dvd_neg.mpr h.2.2⟩
theorem dc_mix {n c : Int} {w r u : P3} (h1 : DC n w u) (h2 : DC n r u) : DC n (mix3 1 w c r) u := by
  have a : (crs (mix3 1 w c r) u).x = (crs w u).x + c * (crs r u).x := by simp only [crs, mix3]; grind
  have b : (crs (mix3 1 w c r) u).y = (crs w u).y + c * (crs r u).y := by simp only [crs, mix3]; grind
  have d : (crs (mix3 1 w c r) u).z = (crs w u).z + c * (crs r u).z := by simp only [crs, mix3]; grind
  unfold DC; rw [a, b, d]
  exact ⟨Int.dvd_add h1.1 (Int.dvd_mul_of_dvd_right h2.1), Int.dvd_add h1.2.1 (Int.dvd_mul_of_dvd_right h2.2.1), Int.dvd_add h1.2.2 (Int.dvd_mul_of_dvd_right h2.2.2)⟩
theorem dc_turn {t : T9} (h : IsTurn t) (h' : IsTurn (trT t)) : DC t.n t.p t.q ∧ DC t.n t.q t.r ∧ DC t.n t.r t.p := by
  have n0 : t.n ≠ 0 := by have := h.n; omega
  have co : Cols t.p t.q t.r t.n := ⟨h'.pp, h'.qq, h'.rr, h'.pq, h'.pr, h'.qr⟩
  have dt := h.d
  have f : ∀ {p q r : P3}, Cols p q r t.n → det p q r = t.n * t.n * t.n → DC t.n p q := fun {p q r} co dt => by
    obtain ⟨a, b, c⟩ := crs_eq co dt n0
    unfold DC; rw [a, b, c]
    exact ⟨Int.dvd_mul_right .., Int.dvd_mul_right .., Int.dvd_mul_right ..⟩
  exact ⟨f co dt, f co.cyc (by rw [det_cyc]; exact dt), f co.cyc.cyc (by rw [det_cyc, det_cyc]; exact dt)⟩
theorem pw_step {m c : Int} {w r : P3} (h : PW m (gcdL [w.x, w.y, w.z]) c) {p : Int} (hp : Pr p) (pm : p ∣ m) (px : p ∣ (mix3 1 w c r).x) (py : p ∣ (mix3 1 w c r).y) (pz : p ∣ (mix3 1 w c r).z) : (p ∣ w.x ∧ p ∣ w.y ∧ p ∣ w.z) ∧ (p ∣ r.x ∧ p ∣ r.y ∧ p ∣ r.z) := by
  simp only [mix3, Int.one_mul] at px py pz
  have gm : ∀ {d : Int}, d ∣ w.x → d ∣ w.y → d ∣ w.z → d ∣ gcdL [w.x, w.y, w.z] := fun a b c => dvd_gcdL.mpr fun x hx => by
    simp only [List.mem_cons, List.not_mem_nil, or_false] at hx
    rcases hx with rfl | rfl | rfl
    · exact a
    · exact b
    · exact c
  have np : ¬ p ∣ c := fun z => by
    have a := (Int.dvd_add_left (Int.dvd_mul_of_dvd_left (c := r.x) z)).mp px
    have b := (Int.dvd_add_left (Int.dvd_mul_of_dvd_left (c := r.y) z)).mp py
    have d := (Int.dvd_add_left (Int.dvd_mul_of_dvd_left (c := r.z) z)).mp pz
    exact not_dvd_one hp.two (h.cop p z (gm a b d))
  have pg : p ∣ gcdL [w.x, w.y, w.z] := by
    apply Classical.byContradiction
    intro n
    exact np (h.all p pm (cop_pr hp n))
  have wx : p ∣ w.x := Int.dvd_trans pg (gcdL_dvd (by simp))
  have wy : p ∣ w.y := Int.dvd_trans pg (gcdL_dvd (by simp))
  have wz : p ∣ w.z := Int.dvd_trans pg (gcdL_dvd (by simp))
  have cp := cop_pr hp np
  exact ⟨⟨wx, wy, wz⟩, cp.mul ((Int.dvd_add_right wx).mp px), cp.mul ((Int.dvd_add_right wy).mp py), cp.mul ((Int.dvd_add_right wz).mp pz)⟩
structure IsDial (t : T9) (w : P3) : Prop where
  one : gcdL [w.x, w.y, w.z, t.n] = 1
  sq : t.n ∣ dot w w
  says : ∀ p, t.n ∣ dot w p ↔ Shr t p
theorem dot_mix (c : Int) (w r p : P3) : dot (mix3 1 w c r) p = dot w p + c * dot r p := by simp only [dot, mix3]; grind
theorem dot_com (p q : P3) : dot p q = dot q p := by simp only [dot]; grind
noncomputable def z3 : P3 := ⟨0, 0, 0⟩
theorem z3_dot (p : P3) : dot z3 p = 0 := by simp only [dot, z3]; omega
theorem dc_says {n : Int} {w u p : P3} (one : gcdL [w.x, w.y, w.z, n] = 1) (dc : DC n w u) (h : n ∣ dot w p) : n ∣ dot u p := by
  obtain ⟨a, b, c⟩ := dc
  have ex : w.x * dot u p = u.x * dot w p + (p.y * (crs w u).z - p.z * (crs w u).y) := by simp only [dot, crs]; grind
  have ey : w.y * dot u p = u.y * dot w p + (p.z * (crs w u).x - p.x * (crs w u).z) := by simp only [dot, crs]; grind
  have ez : w.z * dot u p = u.z * dot w p + (p.x * (crs w u).y - p.y * (crs w u).x) := by simp only [dot, crs]; grind
  have m : ∀ {x y : Int}, n ∣ y → n ∣ x * y := fun h => Int.dvd_mul_of_dvd_right h
  have dx : n ∣ w.x * dot u p := by rw [ex]; exact Int.dvd_add (m h) (Int.dvd_sub (m c) (m b))
  have dy : n ∣ w.y * dot u p := by rw [ey]; exact Int.dvd_add (m h) (Int.dvd_sub (m a) (m c))
  have dz : n ∣ w.z * dot u p := by rw [ez]; exact Int.dvd_add (m h) (Int.dvd_sub (m b) (m a))
  generalize dot u p = X at *
  have e := gcdL_mul X [w.x, w.y, w.z, n]
  rw [one] at e
  have d : n ∣ gcdL ([w.x, w.y, w.z, n].map (X * ·)) := dvd_gcdL.mpr fun x hx => by
    simp only [List.map_cons, List.map_nil, List.mem_cons, List.not_mem_nil, or_false] at hx
    rcases hx with rfl | rfl | rfl | rfl
    · rw [Int.mul_comm]; exact dx
    · rw [Int.mul_comm]; exact dy
    · rw [Int.mul_comm]; exact dz
    · exact Int.dvd_mul_left ..
  rw [e, Int.mul_one] at d
  exact Int.dvd_natAbs.mp d
theorem z3_dc (n : Int) (u : P3) : DC n z3 u := by
  simp only [DC, crs, z3, Int.zero_mul, Int.sub_self, Int.dvd_zero, and_self]
theorem dial_raw {t : T9} (h : IsTurn t) (h' : IsTurn (trT t)) {a b c : Int} (ha : PW t.n (gcdL [z3.x, z3.y, z3.z]) a) (hb : PW t.n (gcdL [(mix3 1 z3 a (trT t).p).x, (mix3 1 z3 a (trT t).p).y, (mix3 1 z3 a (trT t).p).z]) b)
    (hc : PW t.n (gcdL [(mix3 1 (mix3 1 z3 a (trT t).p) b (trT t).q).x, (mix3 1 (mix3 1 z3 a (trT t).p) b (trT t).q).y, (mix3 1 (mix3 1 z3 a (trT t).p) b (trT t).q).z]) c) :
    IsDial t (mix3 1 (mix3 1 (mix3 1 z3 a (trT t).p) b (trT t).q) c (trT t).r) := by
  have tt : trT (trT t) = t := rfl
  obtain ⟨d1, d2, d3⟩ := dc_turn h' (by rw [tt]; exact h)
  have en : (trT t).n = t.n := rfl
  rw [en] at d1 d2 d3
  have g1 := h'.g
  have pp := h'.pp; have pq := h'.pq; have pr := h'.pr; have qp := h'.qp; have qq := h'.qq; have qr := h'.qr; have rp := h'.rp; have rq := h'.rq; have rr := h'.rr
  rw [en] at pp qq rr
  have sh : ∀ p, Shr t p ↔ t.n ∣ dot (trT t).p p ∧ t.n ∣ dot (trT t).q p ∧ t.n ∣ dot (trT t).r p := fun p => Iff.rfl
  have zd : ∀ u, DC t.n z3 u := z3_dc _
  have one : gcdL [(mix3 1 (mix3 1 (mix3 1 z3 a (trT t).p) b (trT t).q) c (trT t).r).x, (mix3 1 (mix3 1 (mix3 1 z3 a (trT t).p) b (trT t).q) c (trT t).r).y, (mix3 1 (mix3 1 (mix3 1 z3 a (trT t).p) b (trT t).q) c (trT t).r).z, t.n] = 1 := by
    refine one_of (gcdL_nonneg _) fun p hp hd => ?_
    have l := dvd_gcdL.mp hd
    have pm := l t.n (by simp)
    obtain ⟨⟨x3, y3, w3⟩, r3⟩ := pw_step (r := (trT t).r) hc hp pm (l _ (by simp)) (l _ (by simp)) (l _ (by simp))
    obtain ⟨⟨x2, y2, w2⟩, r2⟩ := pw_step (r := (trT t).q) hb hp pm x3 y3 w3
    obtain ⟨_, r1⟩ := pw_step (r := (trT t).p) ha hp pm x2 y2 w2
    refine not_dvd_one hp.two ?_
    rw [← g1]
    refine dvd_gcdL.mpr fun x hx => ?_
    simp only [tl, List.mem_cons, List.not_mem_nil, or_false] at hx
    rcases hx with rfl | rfl | rfl | rfl | rfl | rfl | rfl | rfl | rfl | rfl
    · exact r1.1
    · exact r1.2.1
    · exact r1.2.2
    · exact r2.1
    · exact r2.2.1
    · exact r2.2.2
    · exact r3.1
    · exact r3.2.1
    · exact r3.2.2
    · exact pm
  generalize trT t = u at *
  refine ⟨one, ?_, fun p => ⟨fun hd => ?_, fun hs => ?_⟩⟩
  · have e : dot (mix3 1 (mix3 1 (mix3 1 z3 a u.p) b u.q) c u.r) (mix3 1 (mix3 1 (mix3 1 z3 a u.p) b u.q) c u.r) = t.n * (t.n * (a * a + b * b + c * c)) := by
      rw [dot_mix, dot_mix, dot_mix, z3_dot, dot_com u.p, dot_com u.q, dot_com u.r, dot_mix, dot_mix, dot_mix, z3_dot, dot_mix, dot_mix, dot_mix, z3_dot, dot_mix, dot_mix, dot_mix, z3_dot, pp, pq, pr, qp, qq, qr, rp, rq, rr]
      grind
    rw [e]; exact Int.dvd_mul_right ..
  · refine (sh p).mpr ⟨?_, ?_, ?_⟩
    · exact dc_says one (dc_mix (dc_mix (dc_mix (zd _) (dc_same _ _)) d1.sym) d3) hd
    · exact dc_says one (dc_mix (dc_mix (dc_mix (zd _) d1) (dc_same _ _)) d2.sym) hd
    · exact dc_says one (dc_mix (dc_mix (dc_mix (zd _) d3.sym) d2) (dc_same _ _)) hd
  · obtain ⟨s1, s2, s3⟩ := (sh p).mp hs
    rw [dot_mix, dot_mix, dot_mix, z3_dot]
    exact Int.dvd_add (Int.dvd_add (Int.dvd_add (Int.dvd_zero _) (Int.dvd_mul_of_dvd_right s1)) (Int.dvd_mul_of_dvd_right s2)) (Int.dvd_mul_of_dvd_right s3)
structure S6 where
  a : Int
  b : Int
  c : Int
  d : Int
  e : Int
  f : Int
noncomputable def s1 (s : S6) : P3 := ⟨s.a, s.b, s.c⟩
noncomputable def s2 (s : S6) : P3 := ⟨0, s.d, s.e⟩
noncomputable def s3 (s : S6) : P3 := ⟨0, 0, s.f⟩
noncomputable def stD (s : S6) : D := .lst [pt (s1 s), pt (s2 s), pt (s3 s)]
structure IsSt (s : S6) : Prop where
  a0 : 0 < s.a
  d0 : 0 < s.d
  f0 : 0 < s.f
  b0 : 0 ≤ s.b
  b1 : s.b < s.d
  c0 : 0 ≤ s.c
  c1 : s.c < s.f
  e0 : 0 ≤ s.e
  e1 : s.e < s.f
theorem pos_of_mul {a b : Int} (ha : 0 < a) (h : 0 < a * b) : 0 < b := by
  rcases Int.lt_or_le 0 b with z | z
  · exact z
  · have := Int.mul_nonpos_of_nonneg_of_nonpos (Int.le_of_lt ha) z
    omega
theorem le_mul_r {a b : Int} (a0 : 0 < a) (b0 : 0 < b) : a ≤ a * b := by
  have := Int.mul_le_mul_of_nonneg_left (show 1 ≤ b by omega) (show 0 ≤ a by omega)
  rwa [Int.mul_one] at this
theorem le_mul_l {a b : Int} (a0 : 0 < a) (b0 : 0 < b) : b ≤ a * b := by rw [Int.mul_comm]; exact le_mul_r b0 a0
theorem abs_le {a b : Int} (h0 : 0 ≤ a) (h : a ≤ b) : a.natAbs ≤ b.natAbs := by omega
theorem abs_dvd {a b : Int} (h0 : 0 < b) (h : a ∣ b) : a.natAbs ≤ b.natAbs := Nat.le_of_dvd (Int.natAbs_pos.mpr (Int.ne_of_gt h0)) (Int.natAbs_dvd_natAbs.mpr h)
theorem st_bd {k : Nat} {s : S6} {m : Int} (h : IsSt s) (vol : s.a * s.d * s.f = m) (bm : Bd k m) : Bp k (s1 s) ∧ Bp k (s2 s) ∧ Bp k (s3 s) := by
  obtain ⟨a0, d0, f0, b0, b1, c0, c1, e0, e1⟩ := h
  have ad : 0 < s.a * s.d := Int.mul_pos a0 d0
  have l1 : s.a * s.d ≤ m := by rw [← vol]; exact le_mul_r ad f0
  have l3 : s.d ≤ m := Int.le_trans (le_mul_l a0 d0) l1
  have l4 : s.f ≤ m := by rw [← vol]; exact le_mul_l ad f0
  have le : ∀ {x : Int}, 0 ≤ x → x ≤ m → Bd k x := fun h1 h2 => Nat.lt_of_le_of_lt (abs_le h1 h2) bm
  have lt : ∀ {x y : Int}, 0 ≤ x → x < y → y ≤ m → Bd k x := fun h1 h2 h3 => le h1 (Int.le_trans (Int.le_of_lt h2) h3)
  have z : Bd k 0 := le (Int.le_refl 0) (Int.le_trans (Int.le_of_lt f0) l4)
  exact ⟨⟨le (Int.le_of_lt a0) (Int.le_trans (le_mul_r a0 d0) l1), lt b0 b1 l3, lt c0 c1 l4⟩, ⟨z, le (Int.le_of_lt d0) l3, lt e0 e1 l4⟩, ⟨z, z, le (Int.le_of_lt f0) l4⟩⟩
theorem ups_nat {n : Nat} {pre post : List D} {d : D} (h : pre ++ d :: post = ups 0 n) : d = .int (pre.length : Nat) ∧ pre.length < n := by
  have hlen : pre.length < (ups 0 n).length := by rw [← h]; simp
  rw [ups_length] at hlen
  have e1 : (ups 0 n)[pre.length]? = some d := by rw [← h]; simp
  simp only [ups, List.getElem?_map, List.getElem?_range hlen, Option.map_some, Int.zero_add] at e1
  exact ⟨(Option.some.inj e1).symm, hlen⟩
theorem FOR_nat {g : G3} {tb : S3} {Φ : F3 → Prop} {n : Nat} {ρ : Fr3} (I : Nat → Fr3 → Prop) (h0 : I 0 ρ)
    (hs : ∀ i, i < n → ∀ ρ, I i ρ → ∀ c : (F3 → Prop) → Fr3 → Prop, (∀ ρ', I (i + 1) ρ' → c Φ ρ') → g (.int (i : Nat)) ρ fun ρ1 => tb (loopS c Φ) ρ1) (hd : ∀ ρ, I n ρ → Φ (.nx ρ)) : FOR g tb (ups 0 n) Φ ρ :=
  FOR_inv (fun pre post ρ => pre ++ post = ups 0 n ∧ I pre.length ρ) (fun pre d post ρ h c hc => by
    obtain ⟨h, hi⟩ := h
    obtain ⟨e, l⟩ := ups_nat h
    subst e
    refine hs _ l ρ hi c fun ρ' h' => hc ρ' ⟨by rw [List.append_assoc]; exact h, ?_⟩
    rw [List.length_append]; exact h') (fun pre ρ h => by
    obtain ⟨h, hi⟩ := h
    have := congrArg List.length h
    rw [List.append_nil, ups_length] at this
    rw [this] at hi
    exact hd ρ hi) _ [] _ ⟨rfl, h0⟩
structure DS (w : P3) (m : Int) (s : S6) : Prop where
  st : IsSt s
  p1 : m ∣ w.x * s.a + w.y * s.b + w.z * s.c
  p2 : m ∣ w.y * s.d + w.z * s.e
  p3 : m ∣ w.z * s.f
  vol : s.a * s.d * s.f = m
  k1 : ∀ x y z, m ∣ w.x * x + w.y * y + w.z * z → s.a ∣ x
  k2 : ∀ y z, m ∣ w.y * y + w.z * z → s.d ∣ y
  k3 : ∀ z, m ∣ w.z * z → s.f ∣ z
theorem ds_of {w : P3} {m g h s t u v : Int} (m0 : 0 < m) (one : gcdL [w.x, w.y, w.z, m] = 1) (eg : s * w.z + t * m = g) (gz : g ∣ w.z) (gm : g ∣ m) (g0 : 0 < g) (eh : u * w.y + v * g = h) (hy : h ∣ w.y) (hg : h ∣ g) (h0 : 0 < h) :
    DS w m ⟨h, (-w.x * u).fmod (g.fdiv h), (-((w.x * h + w.y * (-w.x * u).fmod (g.fdiv h)).fdiv g) * s).fmod (m.fdiv g), g.fdiv h, (-((w.y * g.fdiv h).fdiv g) * s).fmod (m.fdiv g), m.fdiv g⟩ := by
  have ed : h * g.fdiv h = g := Int.mul_fdiv_cancel' hg
  have ef : g * m.fdiv g = m := Int.mul_fdiv_cancel' gm
  have cop : Cop h w.x := fun d a b => by
    rw [← one]
    refine dvd_gcdL.mpr fun x hx => ?_
    simp only [List.mem_cons, List.not_mem_nil, or_false] at hx
    rcases hx with rfl | rfl | rfl | rfl
    · exact b
    · exact Int.dvd_trans a hy
    · exact Int.dvd_trans (Int.dvd_trans a hg) gz
    · exact Int.dvd_trans (Int.dvd_trans a hg) gm
  generalize g.fdiv h = d at *
  generalize m.fdiv g = f at *
  obtain ⟨y', ey⟩ := hy
  obtain ⟨z', ez⟩ := gz
  have d0 : 0 < d := pos_of_mul h0 (by rw [ed]; exact g0)
  have f0 : 0 < f := pos_of_mul g0 (by rw [ef]; exact m0)
  have eb : ∃ kb, (-w.x * u).fmod d = -w.x * u - d * kb := ⟨_, fmod_def ..⟩
  have b0 := Int.fmod_nonneg_of_pos (-w.x * u) d0
  have b1 := Int.fmod_lt_of_pos (-w.x * u) d0
  generalize (-w.x * u).fmod d = b at *
  obtain ⟨kb, eb⟩ := eb
  have eu : u * y' + v * d = 1 := by
    have e : h * (u * y' + v * d) = h * 1 := by
      rw [Int.mul_one]
      calc h * (u * y' + v * d) = u * (h * y') + v * (h * d) := by grind
        _ = h := by rw [← ey, ed]; exact eh
    exact Int.eq_of_mul_eq_mul_left (Int.ne_of_gt h0) e
  have es : s * z' + t * f = 1 := by
    have e : g * (s * z' + t * f) = g * 1 := by
      rw [Int.mul_one]
      calc g * (s * z' + t * f) = s * (g * z') + t * (g * f) := by grind
        _ = g := by rw [← ez, ef]; exact eg
    exact Int.eq_of_mul_eq_mul_left (Int.ne_of_gt g0) e
  have q1 : w.x * h + w.y * b = g * (w.x * v - y' * kb) := by
    rw [eb]
    calc w.x * h + w.y * (-w.x * u - d * kb) = w.x * h - w.x * (u * w.y) - (w.y * d) * kb := by grind
      _ = w.x * h - w.x * (u * w.y) - (y' * (h * d)) * kb := by rw [show w.y * d = y' * (h * d) by rw [ey]; grind]
      _ = w.x * (u * w.y + v * g) - w.x * (u * w.y) - (y' * g) * kb := by rw [ed, eh]
      _ = g * (w.x * v - y' * kb) := by grind
  have q2 : w.y * d = g * y' := by rw [ey, ← ed]; grind
  have n1 : (w.x * h + w.y * b).fdiv g = w.x * v - y' * kb := by rw [q1]; exact Int.mul_fdiv_cancel_left _ (Int.ne_of_gt g0)
  have n2 : (w.y * d).fdiv g = y' := by rw [q2]; exact Int.mul_fdiv_cancel_left _ (Int.ne_of_gt g0)
  rw [n1, n2]
  have zf : w.z * f = m * z' := by rw [ez, ← ef]; grind
  have low : ∀ n : Int, ∃ k, w.z * (-n * s).fmod f = -(g * n) + m * k := fun n => by
    refine ⟨n * t - z' * (-n * s).fdiv f, ?_⟩
    rw [fmod_def]
    calc w.z * (-n * s - f * (-n * s).fdiv f) = -(n * (s * w.z)) - (w.z * f) * (-n * s).fdiv f := by grind
      _ = -(n * (g - t * m)) - (m * z') * (-n * s).fdiv f := by rw [zf, (Int.sub_eq_iff_eq_add.mpr eg.symm).symm]
      _ = -(g * n) + m * (n * t - z' * (-n * s).fdiv f) := by grind
  refine ⟨⟨h0, d0, f0, b0, b1, Int.fmod_nonneg_of_pos _ f0, Int.fmod_lt_of_pos _ f0, Int.fmod_nonneg_of_pos _ f0, Int.fmod_lt_of_pos _ f0⟩, ?_, ?_, ?_, ?_, ?_, ?_, ?_⟩
  · obtain ⟨k, e⟩ := low (w.x * v - y' * kb)
    exact ⟨k, by show w.x * h + w.y * b + w.z * _ = _; rw [q1, e, Int.add_neg_cancel_left]⟩
  · obtain ⟨k, e⟩ := low y'
    exact ⟨k, by show w.y * d + w.z * _ = _; rw [q2, e, Int.add_neg_cancel_left]⟩
  · exact ⟨z', zf⟩
  · show h * d * f = m
    rw [ed, ef]
  · intro x y z hd
    refine cop.mul ?_
    have hm : h ∣ m := Int.dvd_trans hg gm
    have e := Int.dvd_trans hm hd
    have hz : h ∣ w.z * z := Int.dvd_mul_of_dvd_left (Int.dvd_trans hg ⟨z', ez⟩)
    have hy2 : h ∣ w.y * y := Int.dvd_mul_of_dvd_left ⟨y', ey⟩
    exact (Int.dvd_add_left hy2).mp ((Int.dvd_add_left hz).mp e)
  · intro y z hd
    have e := Int.dvd_trans gm hd
    have hz : g ∣ w.z * z := Int.dvd_mul_of_dvd_left ⟨z', ez⟩
    obtain ⟨q, e⟩ := (Int.dvd_add_left hz).mp e
    have e2 : y' * y = d * q := by
      refine Int.eq_of_mul_eq_mul_left (Int.ne_of_gt h0) ?_
      calc h * (y' * y) = (h * y') * y := (Int.mul_assoc ..).symm
        _ = (h * d) * q := by rw [← ey, ed]; exact e
        _ = h * (d * q) := Int.mul_assoc ..
    refine ⟨u * q + v * y, ?_⟩
    calc y = (u * y' + v * d) * y := by rw [eu, Int.one_mul]
      _ = u * (y' * y) + v * d * y := by grind
      _ = d * (u * q + v * y) := by rw [e2]; grind
  · intro z hd
    obtain ⟨q, e⟩ := hd
    have e2 : z' * z = f * q := by
      refine Int.eq_of_mul_eq_mul_left (Int.ne_of_gt g0) ?_
      calc g * (z' * z) = (g * z') * z := (Int.mul_assoc ..).symm
        _ = (g * f) * q := by rw [← ez, ef]; exact e
        _ = g * (f * q) := Int.mul_assoc ..
    refine ⟨s * q + t * z, ?_⟩
    calc z = (s * z' + t * f) * z := by rw [es, Int.one_mul]
      _ = s * (z' * z) + t * f * z := by grind
      _ = f * (s * q + t * z) := by rw [e2]; grind
noncomputable def InG (s : S6) (p : P3) : Prop := p.x.fmod s.a = 0 ∧ (p.y - p.x.fdiv s.a * s.b).fmod s.d = 0 ∧ (p.z - p.x.fdiv s.a * s.c - (p.y - p.x.fdiv s.a * s.b).fdiv s.d * s.e).fmod s.f = 0
noncomputable instance (s : S6) (p : P3) : Decidable (InG s p) := inferInstanceAs (Decidable (_ ∧ _))
noncomputable def led (t : T9) (p : P3) : P3 := ⟨dot t.p p, dot t.q p, dot t.r p⟩
theorem pw_ex : ∀ (k : Nat) (n g : Int), 0 < n → n.toNat ≤ k → ∃ c, PW n g c
  | 0, n, g, h, hk => by omega
  | k + 1, n, g, h, hk => by
    by_cases e : Int.gcd n g = 1
    · exact ⟨n, h, Int.dvd_refl n, Int.gcd_eq_one_iff.mp e, fun d a _ => a⟩
    · have gn : (Int.gcd n g : Int) ∣ n := Int.gcd_dvd_left ..
      have gg : (Int.gcd n g : Int) ∣ g := Int.gcd_dvd_right ..
      have g0 : (Int.gcd n g : Int) ≠ 0 := fun z => by rw [z] at gn; have := Int.zero_dvd.mp gn; omega
      have g2 : 2 ≤ (Int.gcd n g : Int) := by omega
      generalize (Int.gcd n g : Int) = s at *
      obtain ⟨r, er⟩ := gn
      have r0 : 0 < r := pos_of_mul (show 0 < s by omega) (by rw [← er]; exact h)
      have l : 2 * r ≤ s * r := Int.mul_le_mul_of_nonneg_right g2 (by omega)
      obtain ⟨c, hc⟩ := pw_ex k r g r0 (by omega)
      refine ⟨c, hc.pos, Int.dvd_trans hc.dvd ⟨s, by rw [er, Int.mul_comm]⟩, hc.cop, fun d a b => hc.all d ?_ b⟩
      rw [er] at a
      exact Cop.mul (fun e h1 h2 => b e h1 (Int.dvd_trans h2 gg)) a
theorem dial_ex {t : T9} (h : IsTurn t) (h' : IsTurn (trT t)) : ∃ a b c, IsDial t (mix3 1 (mix3 1 (mix3 1 z3 a (trT t).p) b (trT t).q) c (trT t).r) := by
  have n1 := h.n
  obtain ⟨a, ha⟩ := pw_ex _ t.n (gcdL [z3.x, z3.y, z3.z]) (by omega) (Nat.le_refl _)
  obtain ⟨b, hb⟩ := pw_ex _ t.n (gcdL [(mix3 1 z3 a (trT t).p).x, (mix3 1 z3 a (trT t).p).y, (mix3 1 z3 a (trT t).p).z]) (by omega) (Nat.le_refl _)
  obtain ⟨c, hc⟩ := pw_ex _ t.n (gcdL [(mix3 1 (mix3 1 z3 a (trT t).p) b (trT t).q).x, (mix3 1 (mix3 1 z3 a (trT t).p) b (trT t).q).y, (mix3 1 (mix3 1 z3 a (trT t).p) b (trT t).q).z]) (by omega) (Nat.le_refl _)
  exact ⟨a, b, c, dial_raw h h' ha hb hc⟩
theorem shr_led (t : T9) (p : P3) : Shr t p ↔ t.n ∣ (led (trT t) p).x ∧ t.n ∣ (led (trT t) p).y ∧ t.n ∣ (led (trT t) p).z := Iff.rfl
theorem bez2 : ∀ (k : Nat) (a b : Int), b.natAbs ≤ k → ∃ x y, a * x + b * y = (Int.gcd a b : Int)
  | 0, a, b, h => by
    have e : b = 0 := by omega
    subst e
    rcases Int.le_total 0 a with z | z
    · exact ⟨1, 0, by simp; omega⟩
    · exact ⟨-1, 0, by simp; omega⟩
  | k + 1, a, b, h => by
    by_cases e : b = 0
    · subst e
      rcases Int.le_total 0 a with z | z
      · exact ⟨1, 0, by simp; omega⟩
      · exact ⟨-1, 0, by simp; omega⟩
    · have l := fmod_lt (a := a) e
      obtain ⟨x, y, exy⟩ := bez2 k b (a.fmod b) (by omega)
      refine ⟨y, x - a.fdiv b * y, ?_⟩
      rw [gcd_step, fmod_def] at exy
      rw [← exy]; grind
theorem near_eq {a b n : Int} (a0 : 0 ≤ a) (a1 : a < n) (b0 : 0 ≤ b) (b1 : b < n) (h : n ∣ a - b) : a = b :=
  Int.sub_eq_zero.mp (Int.eq_zero_of_dvd_of_natAbs_lt_natAbs h (by omega))
theorem sub_row (x y z a b c b' c' : Int) : x * a + y * b + z * c - (x * a + y * b' + z * c') = y * (b - b') + z * (c - c') := by rw [Int.mul_sub, Int.mul_sub]; omega
theorem sub_row2 (y z a b b' : Int) : y * a + z * b - (y * a + z * b') = z * (b - b') := by rw [Int.mul_sub]; omega
theorem low_turn {r : Q4} (h0 : r ≠ q0) : lowQ r ≠ q0 ∧ turnT (lowQ r) = turnT r := by
  have e := lowQ_mul r
  have l0 : lowQ r ≠ q0 := fun z => h0 (by rw [e, z, qsc_q0])
  have g0 : gcdL (ql r) ≠ 0 := fun z => h0 (ql_zero z)
  refine ⟨l0, ?_⟩
  conv => rhs; rw [e]
  exact (turnT_sc g0 l0).symm
theorem turn_n_odd {r : Q4} (h0 : r ≠ q0) : (turnT r).n % 2 = 1 := by
  obtain ⟨l0, et⟩ := low_turn h0
  obtain ⟨j, hj, e, odd⟩ := turn_odd (lowQ_one h0) l0
  rw [et] at odd; exact odd
theorem odd_two {m h : Int} (ho : m % 2 = 1) (hd : m ∣ 2 * h) : m ∣ h := by
  obtain ⟨t, e⟩ := hd
  have t2 : t % 2 = 0 := by
    have : (m * t) % 2 = 0 := by rw [← e]; exact Int.mul_emod_right 2 h
    rw [Int.mul_emod, ho, Int.one_mul, Int.emod_emod_of_dvd _ (Int.dvd_refl 2)] at this
    exact this
  obtain ⟨s, rfl⟩ := Int.dvd_of_emod_eq_zero t2
  exact ⟨s, Int.eq_of_mul_eq_mul_left (show (2 : Int) ≠ 0 by decide) (by rw [e, Int.mul_left_comm])⟩
theorem odd_dvd4 {m h : Int} (ho : m % 2 = 1) (hd : m ∣ 4 * h) : m ∣ h := odd_two ho (odd_two ho (by rw [← Int.mul_assoc]; exact hd))
theorem odd_left {a b : Int} (h : (a * b) % 2 = 1) : a % 2 = 1 := by
  rcases Int.emod_two_eq a with z | z
  · rw [Int.mul_emod, z] at h; simp at h
  · exact z
theorem odd_sq {m : Int} (h : m % 2 = 1) : (m * m) % 2 = 1 := by rw [Int.mul_emod, h]; rfl
theorem mul_cut {g a b : Int} (h0 : g ≠ 0) (h : g * a ∣ g * b) : a ∣ b := by
  obtain ⟨t, e⟩ := h
  exact ⟨t, Int.eq_of_mul_eq_mul_left h0 (by rw [e]; grind)⟩
noncomputable def dbl (q : Q4) : Q4 := ⟨2 * q.a, 2 * q.b, 2 * q.c, 2 * q.d⟩
theorem dbl_stone (q : Q4) : Stone (dbl q) := ⟨(ev2 _).trans (ev2 _).symm, (ev2 _).trans (ev2 _).symm, (ev2 _).trans (ev2 _).symm⟩
theorem dbl_heavy (q : Q4) : heavy (dbl q) = qsize q := by
  have h := heavy_four (dbl_stone q)
  have e : qsize (dbl q) = 4 * qsize q := by simp only [qsize, dbl]; grind
  omega
noncomputable def num (m : Int) : Q4 := ⟨m, 0, 0, 0⟩
theorem num_left {m : Int} {b : Q4} (hb : Stone b) : smul (dbl (num m)) b = ⟨m * b.a, m * b.b, m * b.c, m * b.d⟩ := smul_of (by
  simp only [qmul, dbl, num, Int.mul_zero, Int.zero_mul, Int.sub_zero, Int.add_zero, Int.mul_assoc])
theorem num_right {m : Int} {b : Q4} (hb : Stone b) : smul b (dbl (num m)) = ⟨m * b.a, m * b.b, m * b.c, m * b.d⟩ := smul_of (by
  have f : ∀ x : Int, x * (2 * m) = 2 * (m * x) := fun x => by rw [Int.mul_left_comm, Int.mul_comm x m]
  simp only [qmul, dbl, num, Int.mul_zero, Int.sub_zero, Int.add_zero, Int.zero_add, f])
theorem odd_d2 {m h : Int} (ho : m % 2 = 1) (hd : m ∣ 2 * h) : m ∣ h := odd_two ho hd
theorem dvd_qmul {m : Int} {p : Q4} (h1 : m ∣ p.a) (h2 : m ∣ p.b) (h3 : m ∣ p.c) (h4 : m ∣ p.d) (q : Q4) : m ∣ (qmul p q).a ∧ m ∣ (qmul p q).b ∧ m ∣ (qmul p q).c ∧ m ∣ (qmul p q).d := by
  have l : ∀ {z : Int}, m ∣ z → ∀ w, m ∣ z * w := fun h w => Int.dvd_mul_of_dvd_left h
  exact ⟨Int.dvd_sub (Int.dvd_sub (Int.dvd_sub (l h1 _) (l h2 _)) (l h3 _)) (l h4 _), Int.dvd_sub (Int.dvd_add (Int.dvd_add (l h1 _) (l h2 _)) (l h3 _)) (l h4 _), Int.dvd_add (Int.dvd_add (Int.dvd_sub (l h1 _) (l h2 _)) (l h3 _)) (l h4 _), Int.dvd_add (Int.dvd_sub (Int.dvd_add (l h1 _) (l h2 _)) (l h3 _)) (l h4 _)⟩
theorem gpart_into {y s a b : Q4} {m : Int} (sy : Stone y) (ho : m % 2 = 1) (hd : m ∣ heavy y) (r : Row (dbl (num m)) y s a b) : m ∣ heavy s := by
  apply odd_dvd4 ho
  obtain ⟨k, ek⟩ := hd
  have sp := smul_two sy r.sb
  have hp : qsize (smul y b) = 4 * (heavy y * heavy b) := by
    rw [← heavy_four sp.2, heavy_mul sy r.sb]
  rw [heavy_four r.ss, r.e, num_left r.sa]
  generalize smul y b = p at *
  refine ⟨4 * (k * heavy b) + 2 * (p.a * a.a + p.b * a.b + p.c * a.c + p.d * a.d) + m * qsize a, ?_⟩
  have e1 : qsize (qadd ⟨m * a.a, m * a.b, m * a.c, m * a.d⟩ p) = qsize p + m * (2 * (p.a * a.a + p.b * a.b + p.c * a.c + p.d * a.d)) + m * (m * qsize a) := by
    simp only [qsize, qadd]; grind
  rw [e1, hp, ek]; grind
theorem gpart_of {y s u v : Q4} {m : Int} (hm : 0 < m) (ho : m % 2 = 1) (hy' : ∀ d : Int, d % 2 = 1 → d ∣ m * m → d ∣ y.a → d ∣ y.b → d ∣ y.c → d ∣ y.d → d ∣ 1) (ss : Stone s) (su : Stone u) (sv : Stone v) (eu : y = smul s u) (ev : dbl (num m) = smul s v) : heavy s ∣ m := by
  have hy : heavy s * heavy v = m * m := by
    rw [← heavy_mul ss sv, ← ev, dbl_heavy]; simp only [qsize, num]; grind
  have no : heavy s % 2 = 1 := odd_left (b := heavy v) (by rw [hy]; exact odd_sq ho)
  have e := num_right (m := m) ss.bar
  rw [ev, bar_smul ss sv] at e
  have h1 := congrArg Q4.a e; have h2 := congrArg Q4.b e; have h3 := congrArg Q4.c e; have h4 := congrArg Q4.d e
  simp only [qbar] at h1 h2 h3 h4
  generalize heavy s = n at *
  have d1 : n ∣ m * s.a := ⟨v.a, h1.symm⟩
  have d2 : n ∣ m * s.b := ⟨-v.b, by grind⟩
  have d3 : n ∣ m * s.c := ⟨-v.c, by grind⟩
  have d4 : n ∣ m * s.d := ⟨-v.d, by grind⟩
  have g0 : ((Int.gcd n m : Nat) : Int) ≠ 0 := by
    intro z
    have : Int.gcd n m = 0 := by omega
    have := (Int.gcd_eq_zero_iff.mp this).2
    omega
  have gn : ((Int.gcd n m : Nat) : Int) ∣ n := Int.gcd_dvd_left ..
  have gm : ((Int.gcd n m : Nat) : Int) ∣ m := Int.gcd_dvd_right ..
  obtain ⟨f, ef⟩ := gn
  have fo : f % 2 = 1 := odd_left (b := ((Int.gcd n m : Nat) : Int)) (by rw [Int.mul_comm, ← ef]; exact no)
  have k : ∀ {z : Int}, n ∣ m * z → f ∣ z := fun {z} h => by
    have h2 : n ∣ ((Int.gcd (n * z) (m * z) : Nat) : Int) := Int.dvd_coe_gcd ⟨z, rfl⟩ h
    rw [Int.gcd_mul_right] at h2
    have h3 : n ∣ ((Int.gcd n m : Nat) : Int) * (z.natAbs : Int) := by exact_mod_cast h2
    apply Int.dvd_natAbs.mp
    apply mul_cut g0
    rw [← ef]
    exact h3
  have e2 := (smul_two ss su).1
  rw [← eu] at e2
  obtain ⟨k1, k2, k3, k4⟩ := dvd_qmul (k d1) (k d2) (k d3) (k d4) u
  rw [e2] at k1 k2 k3 k4
  have fm : f ∣ m * m := Int.dvd_trans ⟨((Int.gcd n m : Nat) : Int), by rw [Int.mul_comm]; exact ef⟩ ⟨heavy v, hy.symm⟩
  have f1 := hy' f fo fm (odd_d2 fo k1) (odd_d2 fo k2) (odd_d2 fo k3) (odd_d2 fo k4)
  rw [ef]
  exact Int.dvd_trans (Int.mul_dvd_mul (Int.dvd_refl _) f1) (by rw [Int.mul_one]; exact gm)
noncomputable def Op (s : Q4) : Prop := ∀ d : Int, d % 2 = 1 → d ∣ s.a → d ∣ s.b → d ∣ s.c → d ∣ s.d → d ∣ 1
theorem odd_pow {m h : Int} (ho : m % 2 = 1) : ∀ k : Nat, m ∣ h * 2 ^ k → m ∣ h
  | 0, hd => by rw [Int.pow_zero, Int.mul_one] at hd; exact hd
  | k + 1, hd => odd_pow ho k (odd_d2 ho (by rw [Int.pow_succ] at hd; rw [show 2 * (h * 2 ^ k) = h * (2 ^ k * 2) by grind]; exact hd))
theorem odd_of {m d : Int} (ho : m % 2 = 1) (h : d ∣ m) : d % 2 = 1 := by
  obtain ⟨k, e⟩ := h
  exact odd_left (b := k) (by rw [← e]; exact ho)
theorem bottom_is {s : Q4} {m : Int} {k : Nat} (s0 : s ≠ q0) (m0 : 0 < m) (odd : m % 2 = 1) (op : Op s) (size : qsize s = m * 2 ^ k) : (turnT s).n = m := by
  obtain ⟨l0, et⟩ := low_turn s0
  obtain ⟨j, hj, ej, od⟩ := turn_odd (lowQ_one s0) l0
  rw [et] at ej od
  have np := turnT_pos s0
  have em := lowQ_mul s
  have d1 : ∀ x ∈ ql s, gcdL (ql s) ∣ x := fun x hx => gcdL_dvd hx
  have cop : Cop m (gcdL (ql s)) := fun d dm dg => by
    have do_ := odd_of odd dm
    exact op d do_ (Int.dvd_trans dg (d1 s.a (by simp [ql]))) (Int.dvd_trans dg (d1 s.b (by simp [ql]))) (Int.dvd_trans dg (d1 s.c (by simp [ql]))) (Int.dvd_trans dg (d1 s.d (by simp [ql])))
  have size2 : qsize s = gcdL (ql s) * (gcdL (ql s) * ((turnT s).n * 2 ^ j)) := by
    rw [← ej]
    conv => lhs; rw [em]
    simp only [qsize, qsc]; grind
  have nm : (turnT s).n ∣ m := odd_pow od k ⟨gcdL (ql s) * gcdL (ql s) * 2 ^ j, by rw [← size, size2]; grind⟩
  have mn : m ∣ (turnT s).n := by
    have e : m ∣ gcdL (ql s) * (gcdL (ql s) * ((turnT s).n * 2 ^ j)) := by rw [← size2, size]; exact Int.dvd_mul_right ..
    exact odd_pow odd j (cop.mul (cop.mul e))
  exact Int.dvd_antisymm (by omega) (by omega) nm mn
noncomputable def pure3 (w : P3) : Q4 := ⟨0, w.x, w.y, w.z⟩
theorem cop_sq {w : P3} {m : Int} (one : gcdL [w.x, w.y, w.z, m] = 1) {d : Int} (h : d ∣ m * m) (hx : d ∣ w.x) (hy : d ∣ w.y) (hz : d ∣ w.z) : d ∣ 1 := by
  have all : ∀ e : Int, e ∣ d → e ∣ m → e ∣ 1 := fun e h1 h2 => by
    rw [← one]
    refine dvd_gcdL.mpr fun x hx' => ?_
    simp only [List.mem_cons, List.not_mem_nil, or_false] at hx'
    rcases hx' with rfl | rfl | rfl | rfl
    · exact Int.dvd_trans h1 hx
    · exact Int.dvd_trans h1 hy
    · exact Int.dvd_trans h1 hz
    · exact h2
  exact all d (Int.dvd_refl d) (Cop.mul all h)
noncomputable def Dq (m : Int) (q : Q4) : Prop := m ∣ q.a ∧ m ∣ q.b ∧ m ∣ q.c ∧ m ∣ q.d
theorem dq_mul {m : Int} {p : Q4} (h : Dq m p) (q : Q4) : Dq m (qmul p q) := by
  obtain ⟨a, b, c, d⟩ := h
  have l : ∀ {z : Int}, m ∣ z → ∀ w, m ∣ z * w := fun h w => Int.dvd_mul_of_dvd_left h
  exact ⟨Int.dvd_sub (Int.dvd_sub (Int.dvd_sub (l a _) (l b _)) (l c _)) (l d _), Int.dvd_sub (Int.dvd_add (Int.dvd_add (l a _) (l b _)) (l c _)) (l d _), Int.dvd_add (Int.dvd_add (Int.dvd_sub (l a _) (l b _)) (l c _)) (l d _), Int.dvd_add (Int.dvd_sub (Int.dvd_add (l a _) (l b _)) (l c _)) (l d _)⟩
theorem smul_dbl (q : Q4) {b : Q4} (hb : Stone b) : smul (dbl q) b = qmul q b := by
  obtain ⟨e, _⟩ := smul_two (dbl_stone q) hb
  have e2 : qmul (dbl q) b = ⟨2 * (qmul q b).a, 2 * (qmul q b).b, 2 * (qmul q b).c, 2 * (qmul q b).d⟩ := by
    apply Q4.eq <;> simp only [qmul, dbl] <;> grind
  rw [e2] at e
  exact (two_inj e).symm
theorem conj_led (s : Q4) (v : P3) : qmul s (qmul (pure3 v) (qbar s)) = pure3 (led (rawT s) v) := by
  apply Q4.eq <;> simp only [qmul, qbar, pure3, led, rawT, dot] <;> grind
theorem raw_along {w : P3} {m : Int} {s a b : Q4} (sq : m ∣ dot w w) (r : Row (dbl (num m)) (dbl (pure3 w)) s a b) : DC m w (trT (rawT s)).p ∧ DC m w (trT (rawT s)).q ∧ DC m w (trT (rawT s)).r := by
  have es : s = qadd ⟨m * a.a, m * a.b, m * a.c, m * a.d⟩ (qmul (pure3 w) b) := by rw [r.e, num_left r.sa, smul_dbl _ r.sb]
  obtain ⟨k, ek⟩ := sq
  have t : Dq m (qmul (pure3 w) s) := by
    have e : qmul (pure3 w) s = qadd (qsc m (qmul (pure3 w) a)) (qsc (-(dot w w)) b) := by
      rw [es]
      apply Q4.eq <;> simp only [qmul, qadd, qsc, pure3, dot] <;> grind
    rw [e, ek]
    have f : ∀ x y : Int, m ∣ m * x + -(m * k) * y := fun x y => ⟨x - k * y, by grind⟩
    exact ⟨f _ _, f _ _, f _ _, f _ _⟩
  have one : ∀ (e : Q4) (P : P3), qmul s (qmul e (qbar s)) = pure3 P → DC m w P := fun e P eP => by
    obtain ⟨_, hb, hc, hd⟩ := dq_mul t (qmul e (qbar s))
    rw [qmul_assoc, eP] at hb hc hd
    have e1 : (qmul (pure3 w) (pure3 P)).b = (crs w P).x := by simp only [qmul, pure3, crs]; grind
    have e2 : (qmul (pure3 w) (pure3 P)).c = (crs w P).y := by simp only [qmul, pure3, crs]; grind
    have e3 : (qmul (pure3 w) (pure3 P)).d = (crs w P).z := by simp only [qmul, pure3, crs]; grind
    rw [e1] at hb
    rw [e2] at hc
    rw [e3] at hd
    exact ⟨hb, hc, hd⟩
  have e1 : led (rawT s) ⟨1, 0, 0⟩ = (trT (rawT s)).p := by simp only [led, dot, Int.mul_one, Int.mul_zero, Int.add_zero]; rfl
  have e2 : led (rawT s) ⟨0, 1, 0⟩ = (trT (rawT s)).q := by simp only [led, dot, Int.mul_one, Int.mul_zero, Int.add_zero, Int.zero_add]; rfl
  have e3 : led (rawT s) ⟨0, 0, 1⟩ = (trT (rawT s)).r := by simp only [led, dot, Int.mul_one, Int.mul_zero, Int.zero_add]; rfl
  rw [← e1, ← e2, ← e3]
  exact ⟨one _ _ (conj_led s _), one _ _ (conj_led s _), one _ _ (conj_led s _)⟩
theorem dial_turn {w : P3} {m : Int} {s a b u v : Q4} (m0 : 0 < m) (odd : m % 2 = 1) (one : gcdL [w.x, w.y, w.z, m] = 1) (sq : m ∣ dot w w) (r : Row (dbl (num m)) (dbl (pure3 w)) s a b) (su : Stone u) (sv : Stone v) (ex : dbl (num m) = smul s u) (ey : dbl (pure3 w) = smul s v) :
    s ≠ q0 ∧ (turnT s).n = m ∧ IsDial (turnT s) w := by
  have qs : qsize (pure3 w) = dot w w := by simp only [qsize, pure3, dot, Int.zero_mul, Int.zero_add]
  have h1 := gpart_into (dbl_stone _) odd (by rw [dbl_heavy, qs]; exact sq) r
  have h2 := gpart_of m0 odd (y := dbl (pure3 w)) (fun d hd hm _ hx hy hz => cop_sq one hm (odd_d2 hd hx) (odd_d2 hd hy) (odd_d2 hd hz)) r.ss sv su ey ex
  have hw : heavy s = m := Int.dvd_antisymm (heavy_nn s) (Int.le_of_lt m0) h2 h1
  have s0 : s ≠ q0 := fun z => by
    have e : heavy q0 = 0 := by decide
    rw [z, e] at hw
    exact absurd hw (Int.ne_of_lt m0)
  have size : qsize s = 4 * m := by rw [← heavy_four r.ss, hw]
  have op : Op s := fun d hd k1 k2 k3 k4 => by
    have x := dvd_qmul k1 k2 k3 k4 u
    have y := dvd_qmul k1 k2 k3 k4 v
    rw [(smul_two r.ss su).1, ← ex] at x
    rw [(smul_two r.ss sv).1, ← ey] at y
    have t : ∀ {z : Int}, d ∣ 2 * (2 * z) → d ∣ z := fun h => odd_d2 hd (odd_d2 hd h)
    rw [← one]
    refine dvd_gcdL.mpr fun z hz => ?_
    simp only [List.mem_cons, List.not_mem_nil, or_false] at hz
    rcases hz with rfl | rfl | rfl | rfl
    · exact t y.2.1
    · exact t y.2.2.1
    · exact t y.2.2.2
    · exact t x.1
  have hn : (turnT s).n = m := bottom_is (k := 2) s0 m0 odd op (by rw [size, Int.mul_comm]; rfl)
  refine ⟨s0, hn, ?_⟩
  have lt := lowT_of (rawT_pos s0)
  have g4 : gcdL (tl (rawT s)) = 4 := by
    have e := lt.nn
    have e1 : (lowT (rawT s)).n = m := hn
    have e2 : (rawT s).n = qsize s := rfl
    rw [e1, e2, size] at e
    exact Int.eq_of_mul_eq_mul_right (Int.ne_of_gt m0) e
  obtain ⟨c1, c2, c3⟩ := raw_along sq r
  have low : ∀ {P Q : P3}, P.x = 4 * Q.x → P.y = 4 * Q.y → P.z = 4 * Q.z → DC m w P → DC m w Q := fun {P Q} x y z h => by
    have e1 : (crs w P).x = 4 * (crs w Q).x := by simp only [crs, x, y, z, Int.mul_sub, Int.mul_left_comm]
    have e2 : (crs w P).y = 4 * (crs w Q).y := by simp only [crs, x, y, z, Int.mul_sub, Int.mul_left_comm]
    have e3 : (crs w P).z = 4 * (crs w Q).z := by simp only [crs, x, y, z, Int.mul_sub, Int.mul_left_comm]
    unfold DC at h ⊢
    rw [e1, e2, e3] at h
    exact ⟨odd_dvd4 odd h.1, odd_dvd4 odd h.2.1, odd_dvd4 odd h.2.2⟩
  have px := lt.px; have py := lt.py; have pz := lt.pz; have qx := lt.qx; have qy := lt.qy; have qz := lt.qz; have rx := lt.rx; have ry := lt.ry; have rz := lt.rz
  rw [g4] at px py pz qx qy qz rx ry rz
  have k1 : DC m w (trT (turnT s)).p := low (P := (trT (rawT s)).p) px.symm qx.symm rx.symm c1
  have k2 : DC m w (trT (turnT s)).q := low (P := (trT (rawT s)).q) py.symm qy.symm ry.symm c2
  have k3 : DC m w (trT (turnT s)).r := low (P := (trT (rawT s)).r) pz.symm qz.symm rz.symm c3
  have tu : IsTurn (trT (turnT s)) := by rw [trT_turn]; exact turnT_is (qbar_ne s0)
  obtain ⟨A, B, C, dl⟩ := dial_ex (turnT_is s0) tu
  have oneW := dl.one
  have zd : ∀ u, DC m z3 u := z3_dc _
  have kw := dc_mix (c := C) (dc_mix (c := B) (dc_mix (c := A) (zd w) k1.sym) k2.sym) k3.sym
  refine ⟨by rw [hn]; exact one, by rw [hn]; exact sq, fun p => ⟨fun h => ?_, fun h => ?_⟩⟩
  · rw [hn] at h
    refine (shr_led _ _).mpr ?_
    rw [hn]
    exact ⟨dc_says one k1 h, dc_says one k2 h, dc_says one k3 h⟩
  · have hd := (dl.says p).mpr h
    rw [hn] at hd oneW ⊢
    exact dc_says oneW kw hd
noncomputable def HasT (w : P3) (m : Int) : Prop := m % 2 = 1 ∧ gcdL [w.x, w.y, w.z, m] = 1 ∧ m ∣ dot w w
noncomputable instance (w : P3) (m : Int) : Decidable (HasT w m) := inferInstanceAs (Decidable (_ ∧ _ ∧ _))
theorem COMP_fil {α : Type} {tt : B3} {te : E3} {ρ : Fr3} {Φ : List D → Prop} {ds : List D} (g h : α → D) (p : α → Bool) (qs : List α) (e : ds = qs.map g) (hl : qs.length ≤ 1000) (ht : ∀ q ∈ qs, ∀ Ψ : Bool → Prop, Ψ (p q) → tt (ρ.set 0 (.val (g q))) Ψ) (hs : ∀ q ∈ qs, p q = true → ∀ Ψ : D → Prop, Ψ (h q) → te (ρ.set 0 (.val (g q))) Ψ) (hΦ : Φ ((qs.filter p).map h)) : COMP (gN 0) tt te ρ ds [] Φ := by
  subst e
  have : ∀ (is : List α) (acc : List D), (∀ i ∈ is, i ∈ qs) → acc.length + is.length ≤ 1000 → Φ (acc ++ (is.filter p).map h) → COMP (gN 0) tt te ρ (is.map g) acc Φ := by
    intro is
    induction is with
    | nil => intro acc _ _ h; rw [List.filter_nil, List.map_nil, List.append_nil] at h; exact h
    | cons i is ih =>
      intro acc hi hl h
      have hi' := hi i List.mem_cons_self
      simp only [List.length_cons] at hl
      refine ht i hi' _ ?_
      cases e : p i with
      | false =>
        rw [List.filter_cons_of_neg (by rw [e]; exact Bool.false_ne_true)] at h
        exact ih acc (fun j hj => hi j (List.mem_cons_of_mem _ hj)) (by omega) h
      | true =>
        rw [List.filter_cons_of_pos e, List.map_cons] at h
        refine hs i hi' e _ ⟨small1000 (by omega), ?_⟩
        refine ih (acc ++ [_]) (fun j hj => hi j (List.mem_cons_of_mem _ hj)) (by rw [List.length_append]; simp only [List.length_cons, List.length_nil]; omega) ?_
        rw [List.append_assoc, List.singleton_append]
        exact h
  exact this qs [] (fun i hi => hi) (by simpa using hl) (by simpa using hΦ)
noncomputable def tI (ns : List Int) : D := .tup (ns.map .int)
noncomputable def rootsOf (m : Int) (i : Nat) (q : Int) : List Int := ((List.range i).filter fun (n : Nat) => decide (((n : Int) * n).fmod m = q)).map fun (n : Nat) => (n : Int)
theorem rootsOf_succ (m : Int) (i : Nat) (q : Int) : rootsOf m (i + 1) q = rootsOf m i q ++ (if ((i : Int) * i).fmod m = q then [(i : Int)] else []) := by
  unfold rootsOf
  rw [List.range_succ, List.filter_append, List.map_append]
  congr 1
  by_cases c : ((i : Int) * i).fmod m = q
  · rw [if_pos c, List.filter_cons_of_pos (by simpa using c)]; rfl
  · rw [if_neg c, List.filter_cons_of_neg (by simpa using c)]; rfl
theorem rootsOf_mem {m : Int} {i : Nat} {q t : Int} (h : t ∈ rootsOf m i q) : 0 ≤ t ∧ t < i := by
  unfold rootsOf at h
  obtain ⟨n, hn, rfl⟩ := List.mem_map.mp h
  have := List.mem_range.mp (List.mem_filter.mp hn).1
  omega
theorem rootsOf_len (m : Int) (i : Nat) (q : Int) : (rootsOf m i q).length ≤ i := by
  unfold rootsOf
  rw [List.length_map]
  exact Nat.le_trans (List.length_filter_le _ _) (by rw [List.length_range]; exact Nat.le_refl _)
noncomputable def ixN' (ns : List Int) (q : Int) : Option Nat := ns.findIdx? fun k => decide (k = q)
noncomputable def getR (ns : List Int) (rs : List (List Int)) (q : Int) : List Int := match ixN' ns q with | some j => rs.getD j [] | none => []
noncomputable def putN (ns : List Int) (q : Int) : List Int := if (ixN' ns q).isSome then ns else ns ++ [q]
noncomputable def putR (ns : List Int) (rs : List (List Int)) (q : Int) (v : List Int) : List (List Int) := match ixN' ns q with | some j => rs.set j v | none => rs ++ [v]
theorem put_len {ns : List Int} {rs : List (List Int)} {q : Int} {v : List Int} (h : ns.length = rs.length) : (putN ns q).length = (putR ns rs q v).length := by
  unfold putN putR
  cases ixN' ns q with
  | none => simp [h]
  | some j => simp [h]
theorem put_le {ns : List Int} {q : Int} : (putN ns q).length ≤ ns.length + 1 := by
  unfold putN
  split
  · omega
  · simp
theorem get_put {ns : List Int} {rs : List (List Int)} {q q' : Int} {v : List Int} (h : ns.length = rs.length) : getR (putN ns q) (putR ns rs q v) q' = if q' = q then v else getR ns rs q' := by
  unfold putN putR
  cases e : ixN' ns q with
  | none =>
    simp only [Option.isSome_none, Bool.false_eq_true, if_false]
    unfold getR
    have ea : ixN' (ns ++ [q]) q' = (ixN' ns q').or (if q = q' then some ns.length else none) := by
      unfold ixN'
      rw [List.findIdx?_append]
      congr 1
      by_cases c : q = q'
      · simp [c]
      · simp [c]
    rw [ea]
    by_cases c : q' = q
    · subst c
      rw [e, if_pos rfl, if_pos rfl]
      show (rs ++ [v]).getD ns.length [] = v
      rw [List.getD_eq_getElem?_getD, h]
      simp
    · rw [if_neg c, if_neg (fun z => c z.symm)]
      cases e' : ixN' ns q' with
      | none => rfl
      | some j =>
        have hj : j < rs.length := by
          have := (List.findIdx?_eq_some_iff_getElem.mp e').1
          omega
        show (rs ++ [v]).getD j [] = rs.getD j []
        rw [List.getD_eq_getElem?_getD, List.getElem?_append_left hj, ← List.getD_eq_getElem?_getD]
  | some j =>
    simp only [Option.isSome_some, if_true]
    unfold getR
    obtain ⟨h1, h2, _⟩ := List.findIdx?_eq_some_iff_getElem.mp e
    have h2 : ns[j] = q := of_decide_eq_true h2
    by_cases c : q' = q
    · subst c
      rw [e, if_pos rfl]
      show (rs.set j v).getD j [] = v
      rw [List.getD_eq_getElem?_getD, List.getElem?_set_self (by omega)]
      rfl
    · rw [if_neg c]
      cases e' : ixN' ns q' with
      | none => rfl
      | some j' =>
        obtain ⟨h1', h2', _⟩ := List.findIdx?_eq_some_iff_getElem.mp e'
        have h2' : ns[j'] = q' := of_decide_eq_true h2'
        have ne : j ≠ j' := fun z => by subst z; exact c (h2'.symm.trans h2)
        show (rs.set j v).getD j' [] = rs.getD j' []
        rw [List.getD_eq_getElem?_getD, List.getElem?_set_ne ne, ← List.getD_eq_getElem?_getD]
structure Roots (m : Int) (i : Nat) (ns : List Int) (rs : List (List Int)) : Prop where
  len : ns.length = rs.length
  few : ns.length ≤ i
  get : ∀ q, getR ns rs q = rootsOf m i q
theorem Roots.step {m : Int} {i : Nat} {ns : List Int} {rs : List (List Int)} (h : Roots m i ns rs) : Roots m (i + 1) (putN ns (((i : Int) * i).fmod m)) (putR ns rs (((i : Int) * i).fmod m) (getR ns rs (((i : Int) * i).fmod m) ++ [(i : Int)])) := by
  refine ⟨put_len h.len, Nat.le_trans put_le (Nat.add_le_add_right h.few 1), fun q => ?_⟩
  rw [get_put h.len, rootsOf_succ]
  by_cases c : q = ((i : Int) * i).fmod m
  · rw [if_pos c, if_pos c.symm, h.get, c]
  · rw [if_neg c, if_neg (fun z => c z.symm), List.append_nil, h.get]
theorem getDs_is {ns : List Int} {rs : List (List Int)} {q : Int} (h : ns.length = rs.length) : getDs (ns.map .int) (rs.map tI) q (.tup []) = tI (getR ns rs q) := by
  unfold getDs getR
  rw [ixK_ints]
  show (match ixN' ns q with | some j => (rs.map tI).getD j (.tup []) | none => .tup []) = _
  cases e : ixN' ns q with
  | none => rfl
  | some j =>
    have hj : j < rs.length := by
      have := (List.findIdx?_eq_some_iff_getElem.mp e).1
      omega
    show (rs.map tI).getD j (.tup []) = tI (rs.getD j [])
    rw [List.getD_eq_getElem?_getD, List.getD_eq_getElem?_getD, List.getElem?_map, List.getElem?_eq_getElem hj]
    rfl
theorem putKs_is (ns : List Int) (q : Int) : putKs (ns.map .int) q = (putN ns q).map .int := by
  unfold putKs putN
  rw [ixK_ints]
  show (if (ixN' ns q).isSome then _ else _) = _
  cases ixN' ns q with
  | none => simp
  | some j => simp
theorem putDs_is (ns : List Int) (rs : List (List Int)) (q : Int) (v : List Int) : putDs (ns.map .int) (rs.map tI) q (tI v) = (putR ns rs q v).map tI := by
  unfold putDs putR
  rw [ixK_ints]
  show (match ixN' ns q with | some j => (rs.map tI).set j (tI v) | none => rs.map tI ++ [tI v]) = _
  cases ixN' ns q with
  | none => simp
  | some j => simp [List.map_set]
noncomputable def askS (m : Int) (f s : Nat) : List P3 := (rootsOf m m.toNat ((-((f : Int) * f + (s : Int) * s)).fmod m)).map fun t => ⟨f, s, t⟩
noncomputable def askF (m : Int) (f n : Nat) : List P3 := (List.range n).flatMap (askS m f)
noncomputable def askTo (m : Int) (n : Nat) : List P3 := (List.range n).flatMap fun i => if m.fmod ((1 + i : Nat) : Int) = 0 then askF m (1 + i) m.toNat else []
theorem askF_succ (m : Int) (f n : Nat) : askF m f (n + 1) = askF m f n ++ askS m f n := by
  unfold askF; rw [List.range_succ, List.flatMap_append]; simp
theorem askTo_succ (m : Int) (n : Nat) : askTo m (n + 1) = askTo m n ++ (if m.fmod ((1 + n : Nat) : Int) = 0 then askF m (1 + n) m.toNat else []) := by
  unfold askTo; rw [List.range_succ, List.flatMap_append]; simp
theorem askS_len (m : Int) (f s : Nat) : (askS m f s).length ≤ m.toNat := by
  unfold askS; rw [List.length_map]; exact rootsOf_len ..
theorem askF_len (m : Int) (f : Nat) : ∀ n, (askF m f n).length ≤ n * m.toNat
  | 0 => by simp [askF]
  | n + 1 => by
    rw [askF_succ, List.length_append, Nat.succ_mul]
    exact Nat.add_le_add (askF_len m f n) (askS_len m f n)
theorem askTo_len (m : Int) : ∀ n, (askTo m n).length ≤ n * (m.toNat * m.toNat)
  | 0 => by simp [askTo]
  | n + 1 => by
    rw [askTo_succ, List.length_append, Nat.succ_mul]
    refine Nat.add_le_add (askTo_len m n) ?_
    split
    · exact askF_len ..
    · exact Nat.zero_le _
theorem askTo_mem {m : Int} {n : Nat} {w : P3} (m0 : 0 ≤ m) (hn : n ≤ m.toNat) (h : w ∈ askTo m n) : 0 ≤ w.x ∧ w.x ≤ m ∧ 0 ≤ w.y ∧ w.y ≤ m ∧ 0 ≤ w.z ∧ w.z ≤ m := by
  unfold askTo at h
  obtain ⟨i, hi, h⟩ := List.mem_flatMap.mp h
  have hi := List.mem_range.mp hi
  split at h
  · unfold askF at h
    obtain ⟨s, hs, h⟩ := List.mem_flatMap.mp h
    have hs := List.mem_range.mp hs
    unfold askS at h
    obtain ⟨t, ht, rfl⟩ := List.mem_map.mp h
    have := rootsOf_mem ht
    refine ⟨?_, ?_, ?_, ?_, ?_, ?_⟩ <;> (simp only; omega)
  · cases h
theorem FOR_ups {g : G3} {tb : S3} {Φ : F3 → Prop} {a : Int} {n : Nat} {ρ : Fr3} (I : Nat → Fr3 → Prop) (h0 : I 0 ρ)
    (hs : ∀ i, i < n → ∀ ρ, I i ρ → ∀ c : (F3 → Prop) → Fr3 → Prop, (∀ ρ', I (i + 1) ρ' → c Φ ρ') → g (.int (a + (i : Nat))) ρ fun ρ1 => tb (loopS c Φ) ρ1) (hd : ∀ ρ, I n ρ → Φ (.nx ρ)) : FOR g tb (ups a n) Φ ρ :=
  FOR_inv (fun pre post ρ => pre ++ post = ups a n ∧ I pre.length ρ) (fun pre d post ρ h c hc => by
    obtain ⟨h, hi⟩ := h
    have hlen : pre.length < (ups a n).length := by rw [← h]; simp
    rw [ups_length] at hlen
    have e1 : (ups a n)[pre.length]? = some d := by rw [← h]; simp
    simp only [ups, List.getElem?_map, List.getElem?_range hlen] at e1
    cases (Option.some.inj e1)
    refine hs _ hlen ρ hi c fun ρ' h' => hc ρ' ⟨by rw [List.append_assoc]; exact h, ?_⟩
    rw [List.length_append]; exact h') (fun pre ρ h => by
    obtain ⟨h, hi⟩ := h
    have := congrArg List.length h
    rw [List.append_nil, ups_length] at this
    rw [this] at hi
    exact hd ρ hi) _ [] _ ⟨rfl, h0⟩

noncomputable def kS (s : S6) : List (List Int) := [[s.a, s.b, s.c], [0, s.d, s.e], [0, 0, s.f]]
noncomputable def invC (a g m : Int) : Int := match (List.range m.toNat).find? fun (n : Nat) => decide (((n : Int) * a - g).fmod m = 0) with | some n => n | none => 0
noncomputable def stairC (w : P3) (m : Int) : S6 :=
  let g : Int := Int.gcd w.z m
  let h : Int := Int.gcd w.y g
  let s := invC w.z g m
  let u := invC w.y h g
  let d := g.fdiv h
  let f := m.fdiv g
  let b := (-w.x * u).fmod d
  ⟨h, b, (-((w.x * h + w.y * b).fdiv g) * s).fmod f, d, (-((w.y * d).fdiv g) * s).fmod f, f⟩
noncomputable def ChkS (w : P3) (m : Int) (s : S6) : Prop := (0 < s.a ∧ 0 < s.d ∧ 0 < s.f ∧ 0 ≤ s.b ∧ s.b < s.d ∧ 0 ≤ s.c ∧ s.c < s.f ∧ 0 ≤ s.e ∧ s.e < s.f) ∧
  m ∣ w.x * s.a + w.y * s.b + w.z * s.c ∧ m ∣ w.y * s.d + w.z * s.e ∧ m ∣ w.z * s.f ∧ s.a * s.d * s.f = m
noncomputable instance (w : P3) (m : Int) (s : S6) : Decidable (ChkS w m s) := inferInstanceAs (Decidable (_ ∧ _))
noncomputable def stepC (m : Int) (L : List (S6 × P3)) (w : P3) : List (S6 × P3) := if HasT w m then (if kS (stairC w m) ∈ L.map (fun p => kS p.1) then L else L ++ [(stairC w m, w)]) else L
noncomputable def keysC (m : Int) : List (S6 × P3) := (askTo m m.toNat).foldl (stepC m) []
noncomputable def keyD (p : S6 × P3) : D := kD (kS p.1)
theorem mul_pin {a b a' b' : Int} (a0 : 0 < a) (b0 : 0 < b) (ha : a ≤ a') (hb : b ≤ b') (e : a' * b' = a * b) : a' = a ∧ b' = b := by
  have h1 : a * b ≤ a * b' := Int.mul_le_mul_of_nonneg_left hb (Int.le_of_lt a0)
  have h2 : a * b' ≤ a' * b' := Int.mul_le_mul_of_nonneg_right ha (Int.le_trans (Int.le_of_lt b0) hb)
  have e1 : a * b' = a * b := Int.le_antisymm (by rw [← e]; exact h2) h1
  have eb : b' = b := Int.eq_of_mul_eq_mul_left (Int.ne_of_gt a0) e1
  subst eb
  exact ⟨Int.eq_of_mul_eq_mul_right (Int.ne_of_gt b0) e, rfl⟩
theorem ds_fix {w : P3} {m : Int} {s s' : S6} (h : DS w m s) (k : ChkS w m s') : s' = s := by
  obtain ⟨⟨a0, d0, f0, b0, b1, c0, c1, e0, e1⟩, p1, p2, p3, vol, k1, k2, k3⟩ := h
  obtain ⟨⟨a0', d0', f0', b0', b1', c0', c1', e0', e1'⟩, q1, q2, q3, vol'⟩ := k
  have da := Int.le_of_dvd a0' (k1 _ _ _ q1)
  have dd := Int.le_of_dvd d0' (k2 _ _ q2)
  have df := Int.le_of_dvd f0' (k3 _ q3)
  have ad := Int.mul_pos a0 d0
  have dad : s.a * s.d ≤ s'.a * s'.d := Int.mul_le_mul da dd (Int.le_of_lt d0) (Int.le_of_lt a0')
  obtain ⟨ead, ef⟩ := mul_pin ad f0 dad df (vol'.trans vol.symm)
  obtain ⟨ea, ed⟩ := mul_pin a0 d0 da dd ead
  rw [ea] at q1
  rw [ed] at q2 b1'
  rw [ef] at c1' e1'
  have h := Int.dvd_sub q1 p1
  rw [sub_row] at h
  have eb : s'.b = s.b := near_eq b0' b1' b0 b1 (k2 _ _ h)
  rw [eb, Int.sub_self, Int.mul_zero, Int.zero_add] at h
  have ec : s'.c = s.c := near_eq c0' c1' c0 c1 (k3 _ h)
  have h := Int.dvd_sub q2 p2
  rw [sub_row2] at h
  have ee : s'.e = s.e := near_eq e0' e1' e0 e1 (k3 _ h)
  cases s; cases s'
  cases ea; cases ed; cases ef; cases eb; cases ec; cases ee; rfl
noncomputable def OkL (m : Int) (L : List (S6 × P3)) : Prop := ∀ p ∈ L, p.2 ∈ askTo m m.toNat ∧ HasT p.2 m ∧ p.1 = stairC p.2 m
theorem okL_step {m : Int} {L : List (S6 × P3)} {w : P3} (h : OkL m L) (hw : w ∈ askTo m m.toNat) : OkL m (stepC m L w) := by
  unfold stepC
  by_cases c : HasT w m
  · rw [if_pos c]
    split
    · exact h
    · intro p hp
      rcases List.mem_append.mp hp with z | z
      · exact h p z
      · rw [List.mem_singleton.mp z]; exact ⟨hw, c, rfl⟩
  · rw [if_neg c]; exact h
theorem okL_fold {m : Int} : ∀ {ws : List P3} {L : List (S6 × P3)}, OkL m L → (∀ w ∈ ws, w ∈ askTo m m.toNat) → OkL m (ws.foldl (stepC m) L)
  | [], _, h, _ => h
  | w :: ws, _, h, hw => okL_fold (ws := ws) (okL_step h (hw w List.mem_cons_self)) fun v hv => hw v (List.mem_cons_of_mem _ hv)
theorem keys_ok (m : Int) : OkL m (keysC m) := okL_fold (fun _ h => by cases h) fun _ h => h
theorem COMP_rel {α β γ : Type} {te : E3} {ρ : Fr3} {Φ : List D → Prop} (g : α → D) (h : β → D) (a : α → γ) (b : β → γ) (P : β → Prop) : ∀ (qs : List α) (acc : List D), acc.length + qs.length ≤ 1000 → (∀ q ∈ qs, ∀ Ψ : D → Prop, (∀ y, b y = a q → P y → Ψ (h y)) → te (ρ.set 0 (.val (g q))) Ψ) → (∀ ys : List β, ys.map b = qs.map a → (∀ y ∈ ys, P y) → Φ (acc ++ ys.map h)) → COMP (gN 0) (fun _ Φ => Φ true) te ρ (qs.map g) acc Φ
  | [], acc, _, _, hΦ => by
    have := hΦ [] rfl (fun _ h => by cases h)
    rw [List.map_nil, List.append_nil] at this
    exact this
  | q :: qs, acc, hl, hs, hΦ => by
    refine hs q List.mem_cons_self _ fun y e py => ⟨small1000 (by simp only [List.length_cons] at hl; omega), ?_⟩
    refine COMP_rel g h a b P qs (acc ++ [h y]) (by simp only [List.length_cons, List.length_append, List.length_nil] at hl ⊢; omega) (fun q hq => hs q (List.mem_cons_of_mem _ hq)) fun ys ey hy => ?_
    have := hΦ (y :: ys) (by rw [List.map_cons, List.map_cons, e, ey]) fun z hz => by
      rcases List.mem_cons.mp hz with rfl | c
      · exact py
      · exact hy z c
    rw [List.append_assoc, List.singleton_append]
    exact this

noncomputable def sortOk (m : Int) : Bool := match runU (ltK ((keysC m).map keyD)) (keysC m).length with | some p => p.isPerm (List.range (keysC m).length) | none => false
noncomputable def okU (m : Int) : Bool := (askTo m m.toNat).all (fun w => !decide (HasT w m) || decide (ChkS w m (stairC w m))) && decide ((keysC m).length ≤ 100) && sortOk m
theorem u0 : okU 1 = true := by decide +kernel
theorem u1 : okU 3 = true := by decide +kernel
theorem u2 : okU 5 = true := by decide +kernel
theorem u3 : okU 7 = true := by decide +kernel
theorem u4 : okU 9 = true := by decide +kernel
theorem u5 : okU 11 = true := by decide +kernel
theorem u6 : okU 13 = true := by decide +kernel
theorem u7 : okU 15 = true := by decide +kernel
theorem u8 : okU 17 = true := by decide +kernel
theorem u9 : okU 19 = true := by decide +kernel
theorem u10 : okU 21 = true := by decide +kernel
theorem u11 : okU 23 = true := by decide +kernel
theorem u12 : okU 25 = true := by decide +kernel
theorem u13 : okU 27 = true := by decide +kernel
theorem u14 : okU 29 = true := by decide +kernel
theorem u15 : okU 31 = true := by decide +kernel
theorem u16 : okU 33 = true := by decide +kernel
theorem u17 : okU 35 = true := by decide +kernel
theorem u18 : okU 37 = true := by decide +kernel
theorem u19 : okU 39 = true := by decide +kernel
theorem u20 : okU 41 = true := by decide +kernel
theorem u21 : okU 43 = true := by decide +kernel
theorem u22 : okU 45 = true := by decide +kernel
theorem u23 : okU 47 = true := by decide +kernel
theorem u24 : okU 49 = true := by decide +kernel
theorem u25 : okU 51 = true := by decide +kernel
theorem u26 : okU 53 = true := by decide +kernel
theorem u27 : okU 55 = true := by decide +kernel
theorem u28 : okU 57 = true := by decide +kernel
theorem u29 : okU 59 = true := by decide +kernel
theorem u30 : okU 61 = true := by decide +kernel
theorem u31 : okU 63 = true := by decide +kernel
theorem okU_of {k : Nat} (h : k < 32) : okU (1 + 2 * (k : Int)) = true := by
  match k, h with
  | 0, _ => exact u0
  | 1, _ => exact u1
  | 2, _ => exact u2
  | 3, _ => exact u3
  | 4, _ => exact u4
  | 5, _ => exact u5
  | 6, _ => exact u6
  | 7, _ => exact u7
  | 8, _ => exact u8
  | 9, _ => exact u9
  | 10, _ => exact u10
  | 11, _ => exact u11
  | 12, _ => exact u12
  | 13, _ => exact u13
  | 14, _ => exact u14
  | 15, _ => exact u15
  | 16, _ => exact u16
  | 17, _ => exact u17
  | 18, _ => exact u18
  | 19, _ => exact u19
  | 20, _ => exact u20
  | 21, _ => exact u21
  | 22, _ => exact u22
  | 23, _ => exact u23
  | 24, _ => exact u24
  | 25, _ => exact u25
  | 26, _ => exact u26
  | 27, _ => exact u27
  | 28, _ => exact u28
  | 29, _ => exact u29
  | 30, _ => exact u30
  | 31, _ => exact u31
  | k + 32, h => omega
theorem units : (List.range 32).all (fun k => (List.range (1 + 2 * k)).all fun x => (List.range (1 + 2 * k)).any fun u => decide (Nat.gcd u (1 + 2 * k) = 1 ∧ (u * x) % (1 + 2 * k) = Nat.gcd x (1 + 2 * k) % (1 + 2 * k))) = true := by decide +kernel
theorem unit_of {k : Nat} (h : k < 32) {x : Nat} (hx : x < 1 + 2 * k) : ∃ u : Nat, Nat.gcd u (1 + 2 * k) = 1 ∧ (u * x) % (1 + 2 * k) = Nat.gcd x (1 + 2 * k) % (1 + 2 * k) := by
  have h1 := List.all_eq_true.mp units k (List.mem_range.mpr h)
  have h2 := List.all_eq_true.mp h1 x (List.mem_range.mpr hx)
  obtain ⟨u, _, hu⟩ := List.any_eq_true.mp h2
  exact ⟨u, of_decide_eq_true hu⟩
structure OkU (m : Int) : Prop where
  chk : ∀ w ∈ askTo m m.toNat, HasT w m → ChkS w m (stairC w m)
  l1 : (keysC m).length ≤ 100
  srt : ∃ p, runU (ltK ((keysC m).map keyD)) (keysC m).length = some p ∧ p.Perm (List.range (keysC m).length)
theorem ok_of {k : Nat} (h : k < 32) : OkU (1 + 2 * (k : Int)) := by
  have e := okU_of h
  simp only [okU, Bool.and_eq_true, List.all_eq_true, Bool.or_eq_true, Bool.not_eq_true', decide_eq_true_eq, decide_eq_false_iff_not] at e
  obtain ⟨⟨e1, e2⟩, e3⟩ := e
  refine ⟨fun w hw ht => (e1 w hw).resolve_left fun z => z ht, e2, ?_⟩
  unfold sortOk at e3
  split at e3
  · rename_i p hp
    exact ⟨p, hp, List.isPerm_iff.mp e3⟩
  · cases e3
theorem dvd_mod {m a : Int} (c : Int) (m0 : 0 < m) : ∃ k, (c * a).fmod m = c * a + m * k := ⟨-((c * a).fdiv m), by
  have := Int.fmod_add_mul_fdiv (c * a) m
  rw [Int.mul_neg]; omega⟩
theorem to_askM {M : Nat} (M0 : 0 < M) (odd : (M : Int) % 2 = 1) (un : ∀ x, x < M → ∃ u : Nat, Nat.gcd u M = 1 ∧ (u * x) % M = Nat.gcd x M % M) {w : P3} (one : gcdL [w.x, w.y, w.z, (M : Int)] = 1) (sq : (M : Int) ∣ dot w w) :
    ∃ v ∈ askTo (M : Int) M, HasT v M ∧ ∀ p, (M : Int) ∣ dot v p ↔ (M : Int) ∣ dot w p := by
  have m0 : 0 < (M : Int) := by omega
  have x0 : 0 ≤ w.x.fmod M := Int.fmod_nonneg_of_pos _ m0
  have x1 : w.x.fmod M < M := Int.fmod_lt_of_pos _ m0
  obtain ⟨x, ex⟩ := Int.eq_ofNat_of_zero_le x0
  obtain ⟨u, hu, eu⟩ := un x (by omega)
  have cop : Cop (M : Int) u := fun d h1 h2 => by
    have := Int.dvd_coe_gcd h2 h1
    rw [show Int.gcd (u : Int) M = Nat.gcd u M from rfl, hu] at this
    exact this
  have cd : ∀ {d y : Int}, d ∣ M → d ∣ u * y → d ∣ y := fun {d y} h1 h2 => Cop.mul (a := d) (b := u) (fun e h3 h4 => cop e (Int.dvd_trans h3 h1) h4) h2
  have g0 : 0 < Nat.gcd x M := Nat.gcd_pos_of_pos_right _ M0
  have gm : Nat.gcd x M ∣ M := Nat.gcd_dvd_right _ _
  have gl := Nat.le_of_dvd M0 gm
  have hx : ∃ c, (Nat.gcd x M : Int) = u * w.x + M * c := by
    have e1 : w.x = (x : Int) + M * w.x.fdiv M := by
      have := Int.fmod_add_mul_fdiv w.x M
      rw [ex] at this
      exact this.symm
    have e2 := Nat.div_add_mod (u * x) M
    have e3 := Nat.div_add_mod (Nat.gcd x M) M
    rw [eu] at e2
    refine ⟨(Nat.gcd x M / M : Nat) - (u * x / M : Nat) - u * w.x.fdiv M, ?_⟩
    have e2' : (M : Int) * (u * x / M : Nat) + (Nat.gcd x M % M : Nat) = u * x := by exact_mod_cast e2
    have e3' : (M : Int) * (Nat.gcd x M / M : Nat) + (Nat.gcd x M % M : Nat) = Nat.gcd x M := by exact_mod_cast e3
    generalize w.x.fdiv M = f at *
    rw [e1]
    generalize ((u * x / M : Nat) : Int) = p1 at *
    generalize ((Nat.gcd x M / M : Nat) : Int) = p2 at *
    generalize ((Nat.gcd x M % M : Nat) : Int) = p3 at *
    rw [← e3', Int.mul_add, ← e2', Int.mul_sub, Int.mul_sub, Int.mul_left_comm (u : Int)]
    omega
  obtain ⟨c1, hx⟩ := hx
  obtain ⟨c2, hy⟩ := dvd_mod (a := w.y) u m0
  obtain ⟨c3, hz⟩ := dvd_mod (a := w.z) u m0
  have y0 : 0 ≤ ((u : Int) * w.y).fmod M := Int.fmod_nonneg_of_pos _ m0
  have y1 : ((u : Int) * w.y).fmod M < M := Int.fmod_lt_of_pos _ m0
  have z0 : 0 ≤ ((u : Int) * w.z).fmod M := Int.fmod_nonneg_of_pos _ m0
  have z1 : ((u : Int) * w.z).fmod M < M := Int.fmod_lt_of_pos _ m0
  obtain ⟨y, ey⟩ := Int.eq_ofNat_of_zero_le y0
  obtain ⟨z, ez⟩ := Int.eq_ofNat_of_zero_le z0
  have says : ∀ p, (M : Int) ∣ dot (⟨Nat.gcd x M, y, z⟩ : P3) p ↔ (M : Int) ∣ dot w p := fun p => by
    have e : dot (⟨Nat.gcd x M, y, z⟩ : P3) p = u * dot w p + M * (c1 * p.x + c2 * p.y + c3 * p.z) := by
      show (Nat.gcd x M : Int) * p.x + (y : Int) * p.y + (z : Int) * p.z = _
      rw [hx, ← ey, ← ez, hy, hz]
      simp only [dot]; grind
    rw [e]
    constructor
    · intro h
      exact cd (Int.dvd_refl _) ((Int.dvd_add_left (Int.dvd_mul_right _ _)).mp h)
    · intro h
      exact (Int.dvd_add_left (Int.dvd_mul_right _ _)).mpr (Int.dvd_trans h (Int.dvd_mul_left _ _))
  have sq' : (M : Int) ∣ dot (⟨Nat.gcd x M, y, z⟩ : P3) ⟨Nat.gcd x M, y, z⟩ := (says _).mpr (by rw [dot_com]; exact (says _).mpr sq)
  refine ⟨⟨Nat.gcd x M, y, z⟩, ?_, ⟨odd, ?_, sq'⟩, says⟩
  · unfold askTo
    refine List.mem_flatMap.mpr ⟨Nat.gcd x M - 1, List.mem_range.mpr (by omega), ?_⟩
    rw [show 1 + (Nat.gcd x M - 1) = Nat.gcd x M by omega, if_pos (by rw [fmod_pos (by omega)]; exact Int.emod_eq_zero_of_dvd (by exact_mod_cast gm))]
    unfold askF
    rw [Int.toNat_natCast]
    refine List.mem_flatMap.mpr ⟨y, List.mem_range.mpr (by omega), ?_⟩
    unfold askS rootsOf
    rw [Int.toNat_natCast]
    refine List.mem_map.mpr ⟨(z : Int), List.mem_map.mpr ⟨z, List.mem_filter.mpr ⟨List.mem_range.mpr (by omega), decide_eq_true ?_⟩, rfl⟩, rfl⟩
    rw [fmod_pos m0, fmod_pos m0]
    refine (Int.emod_eq_emod_iff_emod_sub_eq_zero).mpr (Int.emod_eq_zero_of_dvd ?_)
    have s : (z : Int) * z - -((Nat.gcd x M : Int) * Nat.gcd x M + (y : Int) * y) = dot (⟨Nat.gcd x M, y, z⟩ : P3) ⟨Nat.gcd x M, y, z⟩ := by
      show _ = (Nat.gcd x M : Int) * Nat.gcd x M + (y : Int) * y + (z : Int) * z
      omega
    rw [s]
    exact sq'
  · refine gcdL_unique (by decide) (fun _ _ => Int.one_dvd _) fun d hd => ?_
    have dm := hd M (by simp)
    have d1 := hd (Nat.gcd x M : Int) (by simp)
    have d2 := hd (y : Int) (by simp)
    have d3 := hd (z : Int) (by simp)
    rw [hx] at d1
    rw [← ey, hy] at d2
    rw [← ez, hz] at d3
    have mm : ∀ c, d ∣ M * c := fun c => Int.dvd_trans dm (Int.dvd_mul_right _ _)
    rw [← one]
    refine dvd_gcdL.mpr fun t ht => ?_
    simp only [List.mem_cons, List.not_mem_nil, or_false] at ht
    rcases ht with rfl | rfl | rfl | rfl
    · exact cd dm ((Int.dvd_add_left (mm _)).mp d1)
    · exact cd dm ((Int.dvd_add_left (mm _)).mp d2)
    · exact cd dm ((Int.dvd_add_left (mm _)).mp d3)
    · exact dm
theorem to_ask {k : Nat} (hk : k < 32) {w : P3} (one : gcdL [w.x, w.y, w.z, 1 + 2 * (k : Int)] = 1) (sq : 1 + 2 * (k : Int) ∣ dot w w) :
    ∃ v ∈ askTo (1 + 2 * (k : Int)) (1 + 2 * (k : Int)).toNat, HasT v (1 + 2 * (k : Int)) ∧ ∀ p, (1 + 2 * (k : Int)) ∣ dot v p ↔ (1 + 2 * (k : Int)) ∣ dot w p := by
  have em : 1 + 2 * (k : Int) = ((1 + 2 * k : Nat) : Int) := by omega
  rw [em] at one sq ⊢
  rw [Int.toNat_natCast]
  exact to_askM (by omega) (by omega) (fun x hx => unit_of hk hx) one sq
theorem ds_ex {w : P3} {m : Int} (m0 : 0 < m) (one : gcdL [w.x, w.y, w.z, m] = 1) : ∃ s, DS w m s := by
  obtain ⟨s, t, e1⟩ := bez2 _ w.z m (Nat.le_refl _)
  obtain ⟨u, v, e2⟩ := bez2 _ w.y (Int.gcd w.z m) (Nat.le_refl _)
  have g0 : 0 < (Int.gcd w.z m : Int) := by exact_mod_cast Int.gcd_pos_of_ne_zero_right _ (Int.ne_of_gt m0)
  have h0 : 0 < (Int.gcd w.y (Int.gcd w.z m) : Int) := by exact_mod_cast Int.gcd_pos_of_ne_zero_right _ (Int.ne_of_gt g0)
  exact ⟨_, ds_of m0 one (by rw [Int.mul_comm s, Int.mul_comm t]; exact e1) (Int.gcd_dvd_left _ _) (Int.gcd_dvd_right _ _) g0 (by rw [Int.mul_comm u, Int.mul_comm v]; exact e2) (Int.gcd_dvd_left _ _) (Int.gcd_dvd_right _ _) h0⟩
theorem step_mem {m : Int} {L : List (S6 × P3)} {w : P3} {k : List (List Int)} (h : k ∈ L.map fun p => kS p.1) : k ∈ (stepC m L w).map fun p => kS p.1 := by
  unfold stepC
  split
  · split
    · exact h
    · rw [List.map_append]; exact List.mem_append_left _ h
  · exact h
theorem step_new {m : Int} {L : List (S6 × P3)} {w : P3} (h : HasT w m) : kS (stairC w m) ∈ (stepC m L w).map fun p => kS p.1 := by
  unfold stepC
  rw [if_pos h]
  split
  · assumption
  · rw [List.map_append]; exact List.mem_append_right _ (List.mem_singleton.mpr rfl)
theorem fold_mem {m : Int} {k : List (List Int)} : ∀ {ws : List P3} {L : List (S6 × P3)}, (k ∈ L.map fun p => kS p.1) → k ∈ (ws.foldl (stepC m) L).map fun p => kS p.1
  | [], _, h => h
  | w :: ws, _, h => fold_mem (ws := ws) (step_mem h)
theorem fold_new {m : Int} {w : P3} (h : HasT w m) : ∀ {ws : List P3} {L : List (S6 × P3)}, w ∈ ws → kS (stairC w m) ∈ (ws.foldl (stepC m) L).map fun p => kS p.1
  | [], _, hw => by cases hw
  | v :: ws, L, hw => by
    rcases List.mem_cons.mp hw with rfl | z
    · exact fold_mem (ws := ws) (step_new h)
    · exact fold_new (ws := ws) h z
theorem step_nd {m : Int} {L : List (S6 × P3)} {w : P3} (h : (L.map fun p => kS p.1).Nodup) : ((stepC m L w).map fun p => kS p.1).Nodup := by
  unfold stepC
  split
  · split
    · exact h
    · rename_i _ no
      rw [List.map_append]
      refine List.nodup_append.mpr ⟨h, List.nodup_cons.mpr ⟨List.not_mem_nil, List.nodup_nil⟩, fun a ha b hb e => ?_⟩
      rw [List.mem_singleton.mp hb] at e
      rw [e] at ha
      exact no ha
  · exact h
theorem fold_nd {m : Int} : ∀ {ws : List P3} {L : List (S6 × P3)}, (L.map fun p => kS p.1).Nodup → ((ws.foldl (stepC m) L).map fun p => kS p.1).Nodup
  | [], _, h => h
  | w :: ws, _, h => fold_nd (ws := ws) (step_nd h)
theorem kS_inj {s s' : S6} (h : kS s = kS s') : s = s' := by
  simp only [kS, List.cons.injEq, and_true, true_and] at h
  obtain ⟨⟨h1, h2, h3⟩, ⟨h4, h5⟩, h6⟩ := h
  cases s; cases s'
  cases h1; cases h2; cases h3; cases h4; cases h5; cases h6; rfl
theorem keys_nd (m : Int) : ((keysC m).map Prod.fst).Nodup := by
  have this : (((keysC m).map Prod.fst).map kS).Nodup := by
    rw [List.map_map]
    exact fold_nd (m := m) (ws := askTo m m.toNat) (L := []) List.nodup_nil
  exact List.Pairwise.imp (fun h e => h (congrArg kS e)) (List.pairwise_map.mp this)
theorem one_count {α : Type} {P : α → Bool} {s : α} : ∀ {L : List α}, L.Nodup → s ∈ L → P s = true → (∀ x ∈ L, P x = true → x = s) → L.countP P = 1
  | [], _, h, _, _ => by cases h
  | x :: L, nd, h, ps, all => by
    have nd' := List.nodup_cons.mp nd
    by_cases e : x = s
    · subst e
      rw [List.countP_cons_of_pos ps, List.countP_eq_zero.mpr fun y hy py => ?_]
      have := all y (List.mem_cons_of_mem _ hy) py
      subst this
      exact nd'.1 hy
    · have hs : s ∈ L := (List.mem_cons.mp h).resolve_left fun z => e z.symm
      rw [List.countP_cons_of_neg fun z => e (all x List.mem_cons_self z)]
      exact one_count nd'.2 hs ps fun y hy => all y (List.mem_cons_of_mem _ hy)
noncomputable def In3 (t : T9) (s : S6) : Bool := decide (Shr t (s1 s) ∧ Shr t (s2 s) ∧ Shr t (s3 s))
theorem just_one {k : Nat} (hk : k < 32) {t : T9} (ht : IsTurn t) (ht' : IsTurn (trT t)) (hn : t.n = 1 + 2 * (k : Int)) : ((keysC (1 + 2 * (k : Int))).map Prod.fst).countP (In3 t) = 1 := by
  obtain ⟨a, b, c, dl⟩ := dial_ex ht ht'
  have ok := ok_of hk
  obtain ⟨o, sq, says⟩ := dl
  rw [hn] at o sq says
  obtain ⟨v, hv, hT, al⟩ := to_ask hk o sq
  have m0 : 0 < 1 + 2 * (k : Int) := by omega
  generalize 1 + 2 * (k : Int) = m at *
  have ck := ok.chk v hv hT
  obtain ⟨s, ds⟩ := ds_ex m0 hT.2.1
  have es := ds_fix ds ck
  have says' : ∀ p, m ∣ dot v p ↔ Shr t p := fun p => (al p).trans (says p)
  have e1 : ∀ s : S6, dot v (s1 s) = v.x * s.a + v.y * s.b + v.z * s.c := fun s => rfl
  have e2 : ∀ s : S6, dot v (s2 s) = v.y * s.d + v.z * s.e := fun s => by show v.x * 0 + v.y * s.d + v.z * s.e = _; rw [Int.mul_zero, Int.zero_add]
  have e3 : ∀ s : S6, dot v (s3 s) = v.z * s.f := fun s => by show v.x * 0 + v.y * 0 + v.z * s.f = _; rw [Int.mul_zero, Int.mul_zero, Int.zero_add, Int.zero_add]
  have inn : ∀ s : S6, In3 t s = true ↔ m ∣ v.x * s.a + v.y * s.b + v.z * s.c ∧ m ∣ v.y * s.d + v.z * s.e ∧ m ∣ v.z * s.f := fun s => by
    unfold In3
    rw [decide_eq_true_iff, ← says', ← says', ← says', e1, e2, e3]
  have hm : stairC v m ∈ (keysC m).map Prod.fst := by
    obtain ⟨p, hp, ep⟩ := List.mem_map.mp (fold_new hT (L := []) hv)
    exact List.mem_map.mpr ⟨p, hp, kS_inj ep⟩
  refine one_count (keys_nd m) hm ((inn _).mpr ⟨ck.2.1, ck.2.2.1, ck.2.2.2.1⟩) fun x hx px => ?_
  obtain ⟨p, hp, rfl⟩ := List.mem_map.mp hx
  obtain ⟨hw, hT', ep⟩ := keys_ok m p hp
  have ck' := ok.chk p.2 hw hT'
  rw [← ep] at ck'
  obtain ⟨q1, q2, q3⟩ := (inn _).mp px
  rw [es]
  exact ds_fix ds ⟨ck'.1, q1, q2, q3, ck'.2.2.2.2⟩
theorem range_pick {α : Type} : ∀ L : List α, (List.range L.length).filterMap (L[·]?) = L
  | [] => rfl
  | a :: L => by
    rw [List.length_cons, List.range_succ_eq_map]
    show a :: List.filterMap (fun x => (a :: L)[x]?) (List.map Nat.succ (List.range L.length)) = _
    rw [List.filterMap_map]
    exact congrArg (a :: ·) (range_pick L)
theorem pick_perm {α : Type} {L : List α} {p : List Nat} (h : p.Perm (List.range L.length)) : (p.filterMap (L[·]?)).Perm L := by
  have := h.filterMap (L[·]?)
  rw [range_pick] at this
  exact this
noncomputable def rowD (r : S6 × T9) : D := .tup [stD r.1, tb r.2]
structure Sm4 (q : Q4) : Prop where
  a : -4 ≤ q.a ∧ q.a ≤ 4
  b : -4 ≤ q.b ∧ q.b ≤ 4
  c : -4 ≤ q.c ∧ q.c ≤ 4
  d : -4 ≤ q.d ∧ q.d ≤ 4
theorem bd4 {x : Int} (h : -4 ≤ x ∧ x ≤ 4) : Bd 3 x := bd_of 4 (by omega) (by decide)
theorem Sm4.bq {q : Q4} (h : Sm4 q) : Bq 3 q := ⟨bd4 h.a, bd4 h.b, bd4 h.c, bd4 h.d⟩
theorem sq16 {x : Int} (h : -4 ≤ x ∧ x ≤ 4) : x * x ≤ 16 := by
  have h1 : x.natAbs ≤ 4 := by omega
  have h2 : x.natAbs * x.natAbs ≤ 4 * 4 := Nat.mul_le_mul h1 h1
  have h3 : ((x.natAbs * x.natAbs : Nat) : Int) = x * x := Int.natAbs_mul_self
  omega
theorem Sm4.size {q : Q4} (h : Sm4 q) : qsize q ≤ 64 := by
  have := sq16 h.a; have := sq16 h.b; have := sq16 h.c; have := sq16 h.d
  unfold qsize; omega
noncomputable def flatL (q : Q4) : List Int := [q.a * q.a + q.b * q.b - q.c * q.c - q.d * q.d, 2 * q.b * q.c - 2 * q.a * q.d, 2 * q.b * q.d + 2 * q.a * q.c, 2 * q.b * q.c + 2 * q.a * q.d, q.a * q.a - q.b * q.b + q.c * q.c - q.d * q.d, 2 * q.c * q.d - 2 * q.a * q.b, 2 * q.b * q.d - 2 * q.a * q.c, 2 * q.c * q.d + 2 * q.a * q.b, q.a * q.a - q.b * q.b - q.c * q.c + q.d * q.d, q.a * q.a + q.b * q.b + q.c * q.c + q.d * q.d]
theorem flat_is (q : Q4) : flatL q = tl (rawT q) := by
  simp only [flatL, tl, rawT, Int.mul_sub, Int.mul_add, Int.mul_assoc]
theorem small_n {q : Q4} (h0 : q ≠ q0) (h : Sm4 q) : ∃ k : Nat, k < 32 ∧ (turnT q).n = 1 + 2 * (k : Int) := by
  have l := lowT_of (rawT_pos h0)
  have e := l.nn
  have g1 : 1 ≤ gcdL (tl (rawT q)) := l.g
  have p := turnT_pos h0
  have od := turn_n_odd h0
  have s := h.size
  have e2 : gcdL (tl (rawT q)) * (turnT q).n = qsize q := e
  have le : (turnT q).n ≤ gcdL (tl (rawT q)) * (turnT q).n := by
    have := Int.mul_le_mul_of_nonneg_right g1 (Int.le_of_lt p)
    rw [Int.one_mul] at this
    exact this
  refine ⟨((turnT q).n / 2).toNat, by omega, by omega⟩
theorem three {t : T9} (s : S6) : decide ((([s1 s, s2 s, s3 s].filter fun p => decide (Shr t p)).length : Int) = 3) = In3 t s := by
  unfold In3
  by_cases h1 : Shr t (s1 s) <;> by_cases h2 : Shr t (s2 s) <;> by_cases h3 : Shr t (s3 s) <;> simp [h1, h2, h3, List.filter]
noncomputable def top (i : Nat) : Stmt := PySem.Challenge.pw_turngrid_k50_whole_none_left_out.main.body.getD i (.Pass ⟨0, 0, 0, 0⟩)
noncomputable abbrev s_law_flat : Stmt := top 44
noncomputable abbrev s_roots_by_squares : Stmt := top 39
noncomputable abbrev s_rows_to_ask : Stmt := top 38
noncomputable abbrev s_divisor_of_two : Stmt := top 12
noncomputable abbrev s_divisor : Stmt := top 11
noncomputable abbrev s_row_times : Stmt := top 6
noncomputable abbrev s_has_turn : Stmt := top 35
noncomputable abbrev s_size : Stmt := top 17
noncomputable abbrev s_rows_of : Stmt := top 30
noncomputable abbrev s_table_divisor : Stmt := top 31
noncomputable abbrev s_row_over : Stmt := top 9
noncomputable abbrev s_turn_of : Stmt := top 29
noncomputable abbrev s_product : Stmt := top 15
noncomputable abbrev s_stone_product : Stmt := top 21
noncomputable abbrev s_row_mix : Stmt := top 7
noncomputable abbrev s_row_less : Stmt := top 8
noncomputable abbrev s_with_rest : Stmt := top 24
noncomputable abbrev s_mirrored : Stmt := top 16
noncomputable abbrev s_even_stone_near : Stmt := top 25
noncomputable abbrev s_odd_stone_near : Stmt := top 26
noncomputable abbrev s_weight : Stmt := top 22
noncomputable abbrev s_divided : Stmt := top 23
noncomputable abbrev s_common : Stmt := top 27
noncomputable abbrev s_turn_of_dial : Stmt := top 34
noncomputable abbrev s_makings : Stmt := top 13
noncomputable abbrev s_dial_stair : Stmt := top 33
noncomputable abbrev s_shared_grids : Stmt := top 37
noncomputable abbrev s_law_cell_at : Stmt := top 41
noncomputable abbrev s_law_quad : Stmt := top 45
noncomputable abbrev s_law_euclid : Stmt := top 42
noncomputable abbrev s_law_led_back : Stmt := top 43
noncomputable abbrev s_law : Stmt := top 46
theorem sc_law_flat : FnScope ["quad", "a", "b", "c", "d", "flat"] ["quad"] (defScope s_law_flat) := ⟨rfl, rfl, rfl, by decide +kernel, rfl, by decide +kernel, by decide +kernel⟩
theorem sc_roots_by_squares : FnScope ["m", "roots", "number", "square"] ["m"] (defScope s_roots_by_squares) := ⟨rfl, rfl, rfl, by decide +kernel, rfl, by decide +kernel, by decide +kernel⟩
theorem sc_rows_to_ask : FnScope ["m", "roots", "found", "first", "second", "square"] ["m"] (defScope s_rows_to_ask) := ⟨rfl, rfl, rfl, by decide +kernel, rfl, by decide +kernel, by decide +kernel⟩
theorem sc_divisor_of_two : FnScope ["one", "other", "rest"] ["one", "other"] (defScope s_divisor_of_two) := ⟨rfl, rfl, rfl, by decide +kernel, rfl, by decide +kernel, by decide +kernel⟩
theorem sc_divisor : FnScope ["numbers", "found", "number"] ["numbers"] (defScope s_divisor) := ⟨rfl, rfl, rfl, by decide +kernel, rfl, by decide +kernel, by decide +kernel⟩
theorem sc_row_times : FnScope ["one", "other"] ["one", "other"] (defScope s_row_times) := ⟨rfl, rfl, rfl, by decide +kernel, rfl, by decide +kernel, by decide +kernel⟩
theorem sc_has_turn : FnScope ["dial", "w", "m"] ["dial"] (defScope s_has_turn) := ⟨rfl, rfl, rfl, by decide +kernel, rfl, by decide +kernel, by decide +kernel⟩
theorem sc_size : FnScope ["quad"] ["quad"] (defScope s_size) := ⟨rfl, rfl, rfl, by decide +kernel, rfl, by decide +kernel, by decide +kernel⟩
theorem sc_rows_of : FnScope ["quad", "a", "b", "c", "d"] ["quad"] (defScope s_rows_of) := ⟨rfl, rfl, rfl, by decide +kernel, rfl, by decide +kernel, by decide +kernel⟩
theorem sc_table_divisor : FnScope ["rows", "bottom"] ["rows", "bottom"] (defScope s_table_divisor) := ⟨rfl, rfl, rfl, by decide +kernel, rfl, by decide +kernel, by decide +kernel⟩
theorem sc_row_over : FnScope ["row", "n"] ["row", "n"] (defScope s_row_over) := ⟨rfl, rfl, rfl, by decide +kernel, rfl, by decide +kernel, by decide +kernel⟩
theorem sc_turn_of : FnScope ["quad", "bottom", "rows", "shrink"] ["quad"] (defScope s_turn_of) := ⟨rfl, rfl, rfl, by decide +kernel, rfl, by decide +kernel, by decide +kernel⟩
theorem sc_product : FnScope ["one", "other"] ["one", "other"] (defScope s_product) := ⟨rfl, rfl, rfl, by decide +kernel, rfl, by decide +kernel, by decide +kernel⟩
theorem sc_stone_product : FnScope ["one", "other"] ["one", "other"] (defScope s_stone_product) := ⟨rfl, rfl, rfl, by decide +kernel, rfl, by decide +kernel, by decide +kernel⟩
theorem sc_row_mix : FnScope ["one", "times", "other", "times_too"] ["one", "times", "other", "times_too"] (defScope s_row_mix) := ⟨rfl, rfl, rfl, by decide +kernel, rfl, by decide +kernel, by decide +kernel⟩
theorem sc_row_less : FnScope ["row", "taken", "times"] ["row", "taken", "times"] (defScope s_row_less) := ⟨rfl, rfl, rfl, by decide +kernel, rfl, by decide +kernel, by decide +kernel⟩
theorem sc_with_rest : FnScope ["x", "y", "k"] ["x", "y", "k"] (defScope s_with_rest) := ⟨rfl, rfl, rfl, by decide +kernel, rfl, by decide +kernel, by decide +kernel⟩
theorem sc_mirrored : FnScope ["quad"] ["quad"] (defScope s_mirrored) := ⟨rfl, rfl, rfl, by decide +kernel, rfl, by decide +kernel, by decide +kernel⟩
theorem sc_even_stone_near : FnScope ["aim", "bottom"] ["aim", "bottom"] (defScope s_even_stone_near) := ⟨rfl, rfl, rfl, by decide +kernel, rfl, by decide +kernel, by decide +kernel⟩
theorem sc_odd_stone_near : FnScope ["aim", "bottom"] ["aim", "bottom"] (defScope s_odd_stone_near) := ⟨rfl, rfl, rfl, by decide +kernel, rfl, by decide +kernel, by decide +kernel⟩
theorem sc_weight : FnScope ["stone"] ["stone"] (defScope s_weight) := ⟨rfl, rfl, rfl, by decide +kernel, rfl, by decide +kernel, by decide +kernel⟩
theorem sc_divided : FnScope ["x", "y", "aim", "by_even", "by_odd"] ["x", "y"] (defScope s_divided) := ⟨rfl, rfl, rfl, by decide +kernel, rfl, by decide +kernel, by decide +kernel⟩
theorem sc_common : FnScope ["x", "y", "row", "below", "k", "rest", "s"] ["x", "y"] (defScope s_common) := ⟨rfl, rfl, rfl, by decide +kernel, rfl, by decide +kernel, by decide +kernel⟩
theorem sc_turn_of_dial : FnScope ["dial", "w", "m"] ["dial"] (defScope s_turn_of_dial) := ⟨rfl, rfl, rfl, by decide +kernel, rfl, by decide +kernel, by decide +kernel⟩
theorem sc_makings : FnScope ["one", "other", "row", "below", "rest"] ["one", "other"] (defScope s_makings) := ⟨rfl, rfl, rfl, by decide +kernel, rfl, by decide +kernel, by decide +kernel⟩
theorem sc_dial_stair : FnScope ["dial", "w", "m", "last", "middle", "a", "d", "f", "b", "c", "e"] ["dial"] (defScope s_dial_stair) := ⟨rfl, rfl, rfl, by decide +kernel, rfl, by decide +kernel, by decide +kernel⟩
theorem sc_shared_grids : FnScope ["m", "rows", "w"] ["m"] (defScope s_shared_grids) := ⟨rfl, rfl, rfl, by decide +kernel, rfl, by decide +kernel, by decide +kernel⟩
theorem sc_law_cell_at : FnScope ["script", "k"] ["script", "k"] (defScope s_law_cell_at) := ⟨rfl, rfl, rfl, by decide +kernel, rfl, by decide +kernel, by decide +kernel⟩
theorem sc_law_quad : FnScope ["script", "most", "quad", "k"] ["script"] (defScope s_law_quad) := ⟨rfl, rfl, rfl, by decide +kernel, rfl, by decide +kernel, by decide +kernel⟩
theorem sc_law_euclid : FnScope ["one", "other"] ["one", "other"] (defScope s_law_euclid) := ⟨rfl, rfl, rfl, by decide +kernel, rfl, by decide +kernel, by decide +kernel⟩
theorem sc_law_led_back : FnScope ["rows", "bottom", "point", "k", "number"] ["rows", "bottom", "point"] (defScope s_law_led_back) := ⟨rfl, rfl, rfl, by decide +kernel, rfl, by decide +kernel, by decide +kernel⟩
theorem sc_law : FnScope ["script", "flat", "divides", "number", "bottom", "rows", "many", "row", "inside"] ["script"] (defScope s_law) := ⟨rfl, rfl, rfl, by decide +kernel, rfl, by decide +kernel, by decide +kernel⟩
noncomputable def k_NOUGHT : D := (.tup [(.int 0), (.int 0), (.int 0), (.int 0)])
noncomputable def k_ONE : D := (.tup [(.int 2), (.int 0), (.int 0), (.int 0)])
set_option genInjectivity false
set_option genSizeOf false
structure Ad where
  a_law_flat : Addr
  d_law_flat : FuncData
  a_roots_by_squares : Addr
  d_roots_by_squares : FuncData
  a_rows_to_ask : Addr
  d_rows_to_ask : FuncData
  a_divisor_of_two : Addr
  d_divisor_of_two : FuncData
  a_divisor : Addr
  d_divisor : FuncData
  a_row_times : Addr
  d_row_times : FuncData
  a_has_turn : Addr
  d_has_turn : FuncData
  a_size : Addr
  d_size : FuncData
  a_rows_of : Addr
  d_rows_of : FuncData
  a_table_divisor : Addr
  d_table_divisor : FuncData
  a_row_over : Addr
  d_row_over : FuncData
  a_turn_of : Addr
  d_turn_of : FuncData
  a_product : Addr
  d_product : FuncData
  a_stone_product : Addr
  d_stone_product : FuncData
  a_row_mix : Addr
  d_row_mix : FuncData
  a_row_less : Addr
  d_row_less : FuncData
  a_with_rest : Addr
  d_with_rest : FuncData
  a_mirrored : Addr
  d_mirrored : FuncData
  a_even_stone_near : Addr
  d_even_stone_near : FuncData
  a_odd_stone_near : Addr
  d_odd_stone_near : FuncData
  a_weight : Addr
  d_weight : FuncData
  a_divided : Addr
  d_divided : FuncData
  a_common : Addr
  d_common : FuncData
  a_turn_of_dial : Addr
  d_turn_of_dial : FuncData
  a_makings : Addr
  d_makings : FuncData
  a_dial_stair : Addr
  d_dial_stair : FuncData
  a_shared_grids : Addr
  d_shared_grids : FuncData
  a_law_cell_at : Addr
  d_law_cell_at : FuncData
  a_law_quad : Addr
  d_law_quad : FuncData
  a_law_euclid : Addr
  d_law_euclid : FuncData
  a_law_led_back : Addr
  d_law_led_back : FuncData
  a_law : Addr
  d_law : FuncData
  v_NOUGHT : V
  u_NOUGHT : Value
  v_ONE : V
  u_ONE : Value
structure Txt (K : PySem.W.Frag) (mg : Str → Option Value) (t : Ad) : Prop where
  F_law_flat : Fun K "_law_flat" "_law_flat" s_law_flat t.a_law_flat t.d_law_flat
  m_law_flat : mg "_law_flat" = some (.ref t.a_law_flat)
  b_law_flat : Binds K t.d_law_flat ["quad"] []
  F_roots_by_squares : Fun K "roots_by_squares" "roots_by_squares" s_roots_by_squares t.a_roots_by_squares t.d_roots_by_squares
  m_roots_by_squares : mg "roots_by_squares" = some (.ref t.a_roots_by_squares)
  b_roots_by_squares : Binds K t.d_roots_by_squares ["m"] []
  F_rows_to_ask : Fun K "rows_to_ask" "rows_to_ask" s_rows_to_ask t.a_rows_to_ask t.d_rows_to_ask
  m_rows_to_ask : mg "rows_to_ask" = some (.ref t.a_rows_to_ask)
  b_rows_to_ask : Binds K t.d_rows_to_ask ["m"] []
  F_divisor_of_two : Fun K "divisor_of_two" "divisor_of_two" s_divisor_of_two t.a_divisor_of_two t.d_divisor_of_two
  m_divisor_of_two : mg "divisor_of_two" = some (.ref t.a_divisor_of_two)
  b_divisor_of_two : Binds K t.d_divisor_of_two ["one", "other"] []
  F_divisor : Fun K "divisor" "divisor" s_divisor t.a_divisor t.d_divisor
  m_divisor : mg "divisor" = some (.ref t.a_divisor)
  b_divisor : Binds K t.d_divisor ["numbers"] []
  F_row_times : Fun K "row_times" "row_times" s_row_times t.a_row_times t.d_row_times
  m_row_times : mg "row_times" = some (.ref t.a_row_times)
  b_row_times : Binds K t.d_row_times ["one", "other"] []
  F_has_turn : Fun K "has_turn" "has_turn" s_has_turn t.a_has_turn t.d_has_turn
  m_has_turn : mg "has_turn" = some (.ref t.a_has_turn)
  b_has_turn : Binds K t.d_has_turn ["dial"] []
  F_size : Fun K "size" "size" s_size t.a_size t.d_size
  m_size : mg "size" = some (.ref t.a_size)
  b_size : Binds K t.d_size ["quad"] []
  F_rows_of : Fun K "rows_of" "rows_of" s_rows_of t.a_rows_of t.d_rows_of
  m_rows_of : mg "rows_of" = some (.ref t.a_rows_of)
  b_rows_of : Binds K t.d_rows_of ["quad"] []
  F_table_divisor : Fun K "table_divisor" "table_divisor" s_table_divisor t.a_table_divisor t.d_table_divisor
  m_table_divisor : mg "table_divisor" = some (.ref t.a_table_divisor)
  b_table_divisor : Binds K t.d_table_divisor ["rows", "bottom"] []
  F_row_over : Fun K "row_over" "row_over" s_row_over t.a_row_over t.d_row_over
  m_row_over : mg "row_over" = some (.ref t.a_row_over)
  b_row_over : Binds K t.d_row_over ["row", "n"] []
  F_turn_of : Fun K "turn_of" "turn_of" s_turn_of t.a_turn_of t.d_turn_of
  m_turn_of : mg "turn_of" = some (.ref t.a_turn_of)
  b_turn_of : Binds K t.d_turn_of ["quad"] []
  F_product : Fun K "product" "product" s_product t.a_product t.d_product
  m_product : mg "product" = some (.ref t.a_product)
  b_product : Binds K t.d_product ["one", "other"] []
  F_stone_product : Fun K "stone_product" "stone_product" s_stone_product t.a_stone_product t.d_stone_product
  m_stone_product : mg "stone_product" = some (.ref t.a_stone_product)
  b_stone_product : Binds K t.d_stone_product ["one", "other"] []
  F_row_mix : Fun K "row_mix" "row_mix" s_row_mix t.a_row_mix t.d_row_mix
  m_row_mix : mg "row_mix" = some (.ref t.a_row_mix)
  b_row_mix : Binds K t.d_row_mix ["one", "times", "other", "times_too"] []
  F_row_less : Fun K "row_less" "row_less" s_row_less t.a_row_less t.d_row_less
  m_row_less : mg "row_less" = some (.ref t.a_row_less)
  b_row_less : Binds K t.d_row_less ["row", "taken", "times"] []
  F_with_rest : Fun K "with_rest" "with_rest" s_with_rest t.a_with_rest t.d_with_rest
  m_with_rest : mg "with_rest" = some (.ref t.a_with_rest)
  b_with_rest : Binds K t.d_with_rest ["x", "y", "k"] []
  F_mirrored : Fun K "mirrored" "mirrored" s_mirrored t.a_mirrored t.d_mirrored
  m_mirrored : mg "mirrored" = some (.ref t.a_mirrored)
  b_mirrored : Binds K t.d_mirrored ["quad"] []
  F_even_stone_near : Fun K "even_stone_near" "even_stone_near" s_even_stone_near t.a_even_stone_near t.d_even_stone_near
  m_even_stone_near : mg "even_stone_near" = some (.ref t.a_even_stone_near)
  b_even_stone_near : Binds K t.d_even_stone_near ["aim", "bottom"] []
  F_odd_stone_near : Fun K "odd_stone_near" "odd_stone_near" s_odd_stone_near t.a_odd_stone_near t.d_odd_stone_near
  m_odd_stone_near : mg "odd_stone_near" = some (.ref t.a_odd_stone_near)
  b_odd_stone_near : Binds K t.d_odd_stone_near ["aim", "bottom"] []
  F_weight : Fun K "weight" "weight" s_weight t.a_weight t.d_weight
  m_weight : mg "weight" = some (.ref t.a_weight)
  b_weight : Binds K t.d_weight ["stone"] []
  F_divided : Fun K "divided" "divided" s_divided t.a_divided t.d_divided
  m_divided : mg "divided" = some (.ref t.a_divided)
  b_divided : Binds K t.d_divided ["x", "y"] []
  F_common : Fun K "common" "common" s_common t.a_common t.d_common
  m_common : mg "common" = some (.ref t.a_common)
  b_common : Binds K t.d_common ["x", "y"] []
  F_turn_of_dial : Fun K "turn_of_dial" "turn_of_dial" s_turn_of_dial t.a_turn_of_dial t.d_turn_of_dial
  m_turn_of_dial : mg "turn_of_dial" = some (.ref t.a_turn_of_dial)
  b_turn_of_dial : Binds K t.d_turn_of_dial ["dial"] []
  F_makings : Fun K "makings" "makings" s_makings t.a_makings t.d_makings
  m_makings : mg "makings" = some (.ref t.a_makings)
  b_makings : Binds K t.d_makings ["one", "other"] []
  F_dial_stair : Fun K "dial_stair" "dial_stair" s_dial_stair t.a_dial_stair t.d_dial_stair
  m_dial_stair : mg "dial_stair" = some (.ref t.a_dial_stair)
  b_dial_stair : Binds K t.d_dial_stair ["dial"] []
  F_shared_grids : Fun K "shared_grids" "shared_grids" s_shared_grids t.a_shared_grids t.d_shared_grids
  m_shared_grids : mg "shared_grids" = some (.ref t.a_shared_grids)
  b_shared_grids : Binds K t.d_shared_grids ["m"] []
  F_law_cell_at : Fun K "_law_cell_at" "_law_cell_at" s_law_cell_at t.a_law_cell_at t.d_law_cell_at
  m_law_cell_at : mg "_law_cell_at" = some (.ref t.a_law_cell_at)
  b_law_cell_at : Binds K t.d_law_cell_at ["script", "k"] []
  F_law_quad : Fun K "_law_quad" "_law_quad" s_law_quad t.a_law_quad t.d_law_quad
  m_law_quad : mg "_law_quad" = some (.ref t.a_law_quad)
  b_law_quad : Binds K t.d_law_quad ["script"] []
  F_law_euclid : Fun K "_law_euclid" "_law_euclid" s_law_euclid t.a_law_euclid t.d_law_euclid
  m_law_euclid : mg "_law_euclid" = some (.ref t.a_law_euclid)
  b_law_euclid : Binds K t.d_law_euclid ["one", "other"] []
  F_law_led_back : Fun K "_law_led_back" "_law_led_back" s_law_led_back t.a_law_led_back t.d_law_led_back
  m_law_led_back : mg "_law_led_back" = some (.ref t.a_law_led_back)
  b_law_led_back : Binds K t.d_law_led_back ["rows", "bottom", "point"] []
  F_law : Fun K "law" "law" s_law t.a_law t.d_law
  m_law : mg "law" = some (.ref t.a_law)
  b_law : Binds K t.d_law ["script"] []
  z_abs : mg "abs" = none
  z_len : mg "len" = none
  z_list : mg "list" = none
  z_max : mg "max" = none
  z_min : mg "min" = none
  z_range : mg "range" = none
  z_sorted : mg "sorted" = none
  z_sum : mg "sum" = none
  z_tuple : mg "tuple" = none
  m_NOUGHT : mg "NOUGHT" = some t.u_NOUGHT
  c_NOUGHT : CstD K k_NOUGHT t.v_NOUGHT t.u_NOUGHT
  m_ONE : mg "ONE" = some t.u_ONE
  c_ONE : CstD K k_ONE t.v_ONE t.u_ONE
theorem loc_of {sc : Scope} {x : Str} (h : (sc.names.lookup x == some .local || sc.names.lookup x == some .cell) = true) : Loc sc x := by
  simp only [Bool.or_eq_true, beq_iff_eq] at h
  exact h
noncomputable def C_law_flat : Con := fun ds Φ => ∃ q : Q4, ds = [.lst [.int q.a, .int q.b, .int q.c, .int q.d]] ∧ Sm4 q ∧ Φ (.lst ((flatL q).map .int))
theorem mono_law_flat : Mono C_law_flat := fun ds Φ Ψ mo h0 => by
  obtain ⟨q, a, b, h⟩ := h0
  exact ⟨q, a, b, mo _ h⟩
noncomputable def b_law_flat_3 : S3 :=
  (sRet (dF (fCat (dVar 5) (dF (fLst (aCons (dOp (dI0 fun i j => .int (i + j)) (dOp (dI IntMulOk fun i j => .int (i * j)) (dOp (dI IntMulOk fun i j => .int (i * j)) (dC (.int 2)) (dVar 3)) (dVar 4)) (dOp (dI IntMulOk fun i j => .int (i * j)) (dOp (dI IntMulOk fun i j => .int (i * j)) (dC (.int 2)) (dVar 1)) (dVar 2))) (aCons (dOp (dI0 fun i j => .int (i + j)) (dOp (dI0 fun i j => .int (i - j)) (dOp (dI0 fun i j => .int (i - j)) (dOp (dI IntMulOk fun i j => .int (i * j)) (dVar 1) (dVar 1)) (dOp (dI IntMulOk fun i j => .int (i * j)) (dVar 2) (dVar 2))) (dOp (dI IntMulOk fun i j => .int (i * j)) (dVar 3) (dVar 3))) (dOp (dI IntMulOk fun i j => .int (i * j)) (dVar 4) (dVar 4))) (aCons (dOp (dI0 fun i j => .int (i + j)) (dOp (dI0 fun i j => .int (i + j)) (dOp (dI0 fun i j => .int (i + j)) (dOp (dI IntMulOk fun i j => .int (i * j)) (dVar 1) (dVar 1)) (dOp (dI IntMulOk fun i j => .int (i * j)) (dVar 2) (dVar 2))) (dOp (dI IntMulOk fun i j => .int (i * j)) (dVar 3) (dVar 3))) (dOp (dI IntMulOk fun i j => .int (i * j)) (dVar 4) (dVar 4))) aNil))))))))
noncomputable def b_law_flat_2 : S3 :=
  (sSeq (sSet 5 (dF (fCat (dVar 5) (dF (fLst (aCons (dOp (dI0 fun i j => .int (i - j)) (dOp (dI0 fun i j => .int (i + j)) (dOp (dI0 fun i j => .int (i - j)) (dOp (dI IntMulOk fun i j => .int (i * j)) (dVar 1) (dVar 1)) (dOp (dI IntMulOk fun i j => .int (i * j)) (dVar 2) (dVar 2))) (dOp (dI IntMulOk fun i j => .int (i * j)) (dVar 3) (dVar 3))) (dOp (dI IntMulOk fun i j => .int (i * j)) (dVar 4) (dVar 4))) (aCons (dOp (dI0 fun i j => .int (i - j)) (dOp (dI IntMulOk fun i j => .int (i * j)) (dOp (dI IntMulOk fun i j => .int (i * j)) (dC (.int 2)) (dVar 3)) (dVar 4)) (dOp (dI IntMulOk fun i j => .int (i * j)) (dOp (dI IntMulOk fun i j => .int (i * j)) (dC (.int 2)) (dVar 1)) (dVar 2))) (aCons (dOp (dI0 fun i j => .int (i - j)) (dOp (dI IntMulOk fun i j => .int (i * j)) (dOp (dI IntMulOk fun i j => .int (i * j)) (dC (.int 2)) (dVar 2)) (dVar 4)) (dOp (dI IntMulOk fun i j => .int (i * j)) (dOp (dI IntMulOk fun i j => .int (i * j)) (dC (.int 2)) (dVar 1)) (dVar 3))) aNil))))))))
  b_law_flat_3)
noncomputable def b_law_flat_1 : S3 :=
  (sSeq (sSet 5 (dF (fLst (aCons (dOp (dI0 fun i j => .int (i - j)) (dOp (dI0 fun i j => .int (i - j)) (dOp (dI0 fun i j => .int (i + j)) (dOp (dI IntMulOk fun i j => .int (i * j)) (dVar 1) (dVar 1)) (dOp (dI IntMulOk fun i j => .int (i * j)) (dVar 2) (dVar 2))) (dOp (dI IntMulOk fun i j => .int (i * j)) (dVar 3) (dVar 3))) (dOp (dI IntMulOk fun i j => .int (i * j)) (dVar 4) (dVar 4))) (aCons (dOp (dI0 fun i j => .int (i - j)) (dOp (dI IntMulOk fun i j => .int (i * j)) (dOp (dI IntMulOk fun i j => .int (i * j)) (dC (.int 2)) (dVar 2)) (dVar 3)) (dOp (dI IntMulOk fun i j => .int (i * j)) (dOp (dI IntMulOk fun i j => .int (i * j)) (dC (.int 2)) (dVar 1)) (dVar 4))) (aCons (dOp (dI0 fun i j => .int (i + j)) (dOp (dI IntMulOk fun i j => .int (i * j)) (dOp (dI IntMulOk fun i j => .int (i * j)) (dC (.int 2)) (dVar 2)) (dVar 4)) (dOp (dI IntMulOk fun i j => .int (i * j)) (dOp (dI IntMulOk fun i j => .int (i * j)) (dC (.int 2)) (dVar 1)) (dVar 3))) (aCons (dOp (dI0 fun i j => .int (i + j)) (dOp (dI IntMulOk fun i j => .int (i * j)) (dOp (dI IntMulOk fun i j => .int (i * j)) (dC (.int 2)) (dVar 2)) (dVar 3)) (dOp (dI IntMulOk fun i j => .int (i * j)) (dOp (dI IntMulOk fun i j => .int (i * j)) (dC (.int 2)) (dVar 1)) (dVar 4))) aNil)))))))
  b_law_flat_2)
noncomputable abbrev b_law_flat : S3 :=
  (sSeq (sAsg (dVar 0) (gLst3 4 (gCons3 (gN 1) (gCons3 (gN 2) (gCons3 (gN 3) (gCons3 (gN 4) gNil3))))))
  b_law_flat_1)
theorem rd_law_flat : ∀ (ds : List D) (Φ : D → Prop), ds.length = 1 → C_law_flat ds Φ → b_law_flat (finD Φ) (startD 6 ds) := by
  rintro ds Φ hl ⟨q, rfl, sm, h⟩
  have bq := sm.bq
  have mk : ∀ {x y : Int}, Bd 3 x → Bd 3 y → IntMulOk x y := fun hx hy => mulOk hx hy (by decide)
  have m2 : ∀ {x : Int}, IntMulOk 2 x := IntMulOk.of_left (by decide)
  have mm : ∀ {x y : Int}, Bd 3 x → Bd 3 y → IntMulOk (2 * x) y := fun hx hy => mulOk (bd_two hx) hy (by decide)
  have aa := mk bq.a bq.a; have bb := mk bq.b bq.b; have cc := mk bq.c bq.c; have dd := mk bq.d bq.d
  have ab := mm bq.a bq.b; have ac := mm bq.a bq.c; have ad := mm bq.a bq.d; have bc := mm bq.b bq.c; have bd := mm bq.b bq.d; have cd := mm bq.c bq.d
  refine ⟨rfl, ?_⟩
  show b_law_flat_1 (finD Φ) [.val (.lst [.int q.a, .int q.b, .int q.c, .int q.d]), .val (.int q.a), .val (.int q.b), .val (.int q.c), .val (.int q.d), .un]
  refine ⟨aa, bb, cc, dd, m2, bc, m2, ad, m2, bd, m2, ac, m2, bc, m2, ad, sl_le 4 rfl (by decide), ?_⟩
  refine ⟨aa, bb, cc, dd, m2, cd, m2, ab, m2, bd, m2, ac, sl_le 3 rfl (by decide), sl_le 7 rfl (by decide), ?_⟩
  exact ⟨m2, cd, m2, ab, aa, bb, cc, dd, aa, bb, cc, dd, sl_le 3 rfl (by decide), sl_le 10 rfl (by decide), h⟩
theorem ok_law_flat {P : Program} {w : World} {K : PySem.W.Frag} {mg : Str → Option Value} {base : Heap} {t : Ad} (T : Txt K mg t) : FnOk P w K mg base CX0 1 t.a_law_flat t.d_law_flat ["quad"] (spD K 1 C_law_flat) := by
  have sc := sc_law_flat
  refine fn_ok (k := 0) T.F_law_flat sc_law_flat (fun cdv A outer s H E hr => ⟨b_law_flat, (psd_cons (psd_asg (pd_var (pv 0)) (pgd_lst rfl (pgds_cons (pgd_name (i := 1) sc.nd rfl (loc_of rfl)) (pgds_cons (pgd_name (i := 2) sc.nd rfl (loc_of rfl)) (pgds_cons (pgd_name (i := 3) sc.nd rfl (loc_of rfl)) (pgds_cons (pgd_name (i := 4) sc.nd rfl (loc_of rfl)) pgds_nil))))))
  (psd_cons (psd_set (i := 5) sc.nd rfl (loc_of rfl) (pd_new (pf_lst (pad_cons (pd_op o_sub (pd_op o_sub (pd_op o_add (pd_op o_mul (pd_var (pv 1)) (pd_var (pv 1))) (pd_op o_mul (pd_var (pv 2)) (pd_var (pv 2)))) (pd_op o_mul (pd_var (pv 3)) (pd_var (pv 3)))) (pd_op o_mul (pd_var (pv 4)) (pd_var (pv 4)))) (pad_cons (pd_op o_sub (pd_op o_mul (pd_op o_mul pd_int (pd_var (pv 2))) (pd_var (pv 3))) (pd_op o_mul (pd_op o_mul pd_int (pd_var (pv 1))) (pd_var (pv 4)))) (pad_cons (pd_op o_add (pd_op o_mul (pd_op o_mul pd_int (pd_var (pv 2))) (pd_var (pv 4))) (pd_op o_mul (pd_op o_mul pd_int (pd_var (pv 1))) (pd_var (pv 3)))) (pad_cons (pd_op o_add (pd_op o_mul (pd_op o_mul pd_int (pd_var (pv 2))) (pd_var (pv 3))) (pd_op o_mul (pd_op o_mul pd_int (pd_var (pv 1))) (pd_var (pv 4)))) pad_nil)))))))
  (psd_cons (psd_set (i := 5) sc.nd rfl (loc_of rfl) (pd_new (pf_cat (pd_var (pv 5)) (pd_new (pf_lst (pad_cons (pd_op o_sub (pd_op o_add (pd_op o_sub (pd_op o_mul (pd_var (pv 1)) (pd_var (pv 1))) (pd_op o_mul (pd_var (pv 2)) (pd_var (pv 2)))) (pd_op o_mul (pd_var (pv 3)) (pd_var (pv 3)))) (pd_op o_mul (pd_var (pv 4)) (pd_var (pv 4)))) (pad_cons (pd_op o_sub (pd_op o_mul (pd_op o_mul pd_int (pd_var (pv 3))) (pd_var (pv 4))) (pd_op o_mul (pd_op o_mul pd_int (pd_var (pv 1))) (pd_var (pv 2)))) (pad_cons (pd_op o_sub (pd_op o_mul (pd_op o_mul pd_int (pd_var (pv 2))) (pd_var (pv 4))) (pd_op o_mul (pd_op o_mul pd_int (pd_var (pv 1))) (pd_var (pv 3)))) pad_nil))))))))
  (psd_one (psd_ret (pd_new (pf_cat (pd_var (pv 5)) (pd_new (pf_lst (pad_cons (pd_op o_add (pd_op o_mul (pd_op o_mul pd_int (pd_var (pv 3))) (pd_var (pv 4))) (pd_op o_mul (pd_op o_mul pd_int (pd_var (pv 1))) (pd_var (pv 2)))) (pad_cons (pd_op o_add (pd_op o_sub (pd_op o_sub (pd_op o_mul (pd_var (pv 1)) (pd_var (pv 1))) (pd_op o_mul (pd_var (pv 2)) (pd_var (pv 2)))) (pd_op o_mul (pd_var (pv 3)) (pd_var (pv 3)))) (pd_op o_mul (pd_var (pv 4)) (pd_var (pv 4)))) (pad_cons (pd_op o_add (pd_op o_add (pd_op o_add (pd_op o_mul (pd_var (pv 1)) (pd_var (pv 1))) (pd_op o_mul (pd_var (pv 2)) (pd_var (pv 2)))) (pd_op o_mul (pd_var (pv 3)) (pd_var (pv 3)))) (pd_op o_mul (pd_var (pv 4)) (pd_var (pv 4)))) pad_nil)))))))))))), rd_law_flat⟩)
noncomputable def C_roots_by_squares : Con := fun ds Φ => ∃ m : Int, ds = [.int m] ∧ 1 ≤ m ∧ m ≤ 98 ∧ ∀ ns rs, Roots m m.toNat ns rs → Φ (.lst [.lst (.bl false :: ns.map .int), .lst (rs.map tI)])
theorem mono_roots_by_squares : Mono C_roots_by_squares := fun ds Φ Ψ mo h0 => by
  obtain ⟨m, a, b, c, h⟩ := h0
  exact ⟨m, a, b, c, fun ns rs r => mo _ (h ns rs r)⟩
noncomputable def b_roots_by_squares_L1_1 : S3 :=
  (sDPutI 1 (dVar 3) (dOp dCatT (dDGetI 1 (dVar 3) (dTup aNil)) (dTup (aCons (dVar 2) aNil))))
noncomputable abbrev b_roots_by_squares_L1 : S3 :=
  (sSeq (sSet 3 (dOp (dI (fun _ j => j ≠ 0) fun i j => .int (i.fmod j)) (dOp (dI IntMulOk fun i j => .int (i * j)) (dVar 2) (dVar 2)) (dVar 0)))
  b_roots_by_squares_L1_1)
noncomputable def b_roots_by_squares_1 : A3 :=
  (nSeq (sFor (iR1 (aCons (dVar 0) aNil)) (gN 2)
  b_roots_by_squares_L1)
  (nDct 1))
noncomputable abbrev b_roots_by_squares : A3 :=
  (nSeq (sDNewI 1)
  b_roots_by_squares_1)
theorem rd_roots_by_squares : ∀ (ds : List D) (Φ : List D → Prop), ds.length = 1 → C_roots_by_squares ds (onM fun ks es => Φ [.lst ks, .lst es]) → b_roots_by_squares (startD 4 ds) Φ := by
  rintro ds Φ hl ⟨m, rfl, m1, m2, h⟩
  have mz : m ≠ 0 := by omega
  show (-(2 ^ 62) : Int) ≤ m ∧ m < 2 ^ 62 ∧ FOR (gN 2) b_roots_by_squares_L1 (ups 0 m.toNat) (thenN (nDct 1) Φ) [.val (.int m), .dct [.bl false] [], .un, .un]
  refine ⟨by omega, by omega, ?_⟩
  refine FOR_nat (fun i ρ => ∃ ns rs a b, Roots m i ns rs ∧ ρ = [.val (.int m), .dct (.bl false :: ns.map .int) (rs.map tI), a, b]) ⟨[], [], .un, .un, ⟨rfl, Nat.le_refl _, fun q => rfl⟩, rfl⟩ ?_ ?_
  · rintro i hi ρ ⟨ns, rs, a, b, hr, rfl⟩ c hc
    have bi : Bd 7 (i : Int) := bd_of 98 (by omega) (by decide)
    refine ⟨mulOk bi bi (by decide), mz, ?_⟩
    show b_roots_by_squares_L1_1 (loopS c (thenN (nDct 1) Φ)) [.val (.int m), .dct (.bl false :: ns.map .int) (rs.map tI), .val (.int i), .val (.int (((i : Int) * i).fmod m))]
    unfold b_roots_by_squares_L1_1
    have hstep := hr.step
    have gl := rootsOf_len m i (((i : Int) * i).fmod m)
    rw [← hr.get] at gl
    generalize ((i : Int) * i).fmod m = q at *
    refine ⟨sl_le 0 rfl (by decide), ?_⟩
    show (dTup (aCons (dVar 2) aNil)) _ fun y => dCatT (getDs (ns.map .int) (rs.map tI) q (.tup [])) y _
    rw [getDs_is hr.len]
    refine ⟨sl_le 1 rfl (by decide), ?_, ?_⟩
    · rw [List.length_map]
      exact small_le (by simp only [List.length_cons, List.length_nil]; omega)
    · refine ⟨?_, ?_⟩
      · rw [List.length_map]
        exact small1000 (by have := hr.few; omega)
      · have e : (getR ns rs q).map D.int ++ [.int (i : Int)] = (getR ns rs q ++ [(i : Int)]).map D.int := by rw [List.map_append]; rfl
        show c _ [.val (.int m), .dct (.bl false :: putKs (ns.map .int) q) (putDs (ns.map .int) (rs.map tI) q (.tup ((getR ns rs q).map D.int ++ [.int (i : Int)]))), .val (.int i), .val (.int q)]
        rw [e, putKs_is]
        show c _ [.val (.int m), .dct (.bl false :: (putN ns q).map .int) (putDs (ns.map .int) (rs.map tI) q (tI (getR ns rs q ++ [(i : Int)]))), .val (.int i), .val (.int q)]
        rw [putDs_is]
        exact hc _ ⟨_, _, _, _, hstep, rfl⟩
  · rintro ρ ⟨ns, rs, a, b, hr, rfl⟩
    exact h ns rs hr
theorem ok_roots_by_squares {P : Program} {w : World} {K : PySem.W.Frag} {mg : Str → Option Value} {base : Heap} {t : Ad} (T : Txt K mg t) : FnOk P w K mg base CX0 1 t.a_roots_by_squares t.d_roots_by_squares ["m"] (spM K 1 C_roots_by_squares) := by
  have sc := sc_roots_by_squares
  refine fnM_ok (mo := mono_roots_by_squares) (k := 0) T.F_roots_by_squares sc_roots_by_squares (fun cdv A outer s H E hr => ⟨b_roots_by_squares, (psm_cons (psd_dnewI (i := 1) sc.nd rfl (loc_of rfl))
  (psm_cons (psd_for PassesOwn.never rfl (pid_range1 rfl T.z_range (pad_cons (pd_var (pv 0)) pad_nil)) (pgd_name (i := 2) sc.nd rfl (loc_of rfl))
  (psd_cons (psd_set (i := 3) sc.nd rfl (loc_of rfl) (pd_op o_mod (pd_op o_mul (pd_var (pv 2)) (pd_var (pv 2))) (pd_var (pv 0))))
  (psd_one (psd_dputI (hu3 hr) (pv 1) (pd_var (pv 3)) (pd_op o_catT (pd_dgetI (hu3 hr) (pv 1) (pd_var (pv 3)) (pd_tup pad_nil) ⟨rfl, rfl, rfl, rfl⟩) (pd_tup (pad_cons (pd_var (pv 2)) pad_nil)))))))
  (psm_ret (pv 1)))), rd_roots_by_squares⟩)
noncomputable def C_rows_to_ask : Con := fun ds Φ => ∃ m : Int, ds = [.int m] ∧ 1 ≤ m ∧ m ≤ 98 ∧ Φ (.lst ((askTo m m.toNat).map pt))
theorem mono_rows_to_ask : Mono C_rows_to_ask := fun ds Φ Ψ mo h0 => by
  obtain ⟨m, a, b, c, h⟩ := h0
  exact ⟨m, a, b, c, mo _ h⟩
noncomputable def b_rows_to_ask_L2_1 : S3 :=
  (sExt 2 (fComp 1 (iT (dDGetI 1 (dVar 5) (dTup aNil))) (gN 0) (fun _ Φ => Φ true) (dTup (aCons (dVar 4) (aCons (dVar 5) (aCons (dVar 0) aNil))))))
noncomputable abbrev b_rows_to_ask_L2 : S3 :=
  (sSeq (sSet 5 (dOp (dI (fun _ j => j ≠ 0) fun i j => .int (i.fmod j)) (dU dNeg (dOp (dI0 fun i j => .int (i + j)) (dOp (dI IntMulOk fun i j => .int (i * j)) (dVar 3) (dVar 3)) (dOp (dI IntMulOk fun i j => .int (i * j)) (dVar 4) (dVar 4)))) (dVar 0)))
  b_rows_to_ask_L2_1)
noncomputable abbrev b_rows_to_ask_L1 : S3 :=
  (sIf (dT (dOp dEq (dOp (dI (fun _ j => j ≠ 0) fun i j => .int (i.fmod j)) (dVar 0) (dVar 3)) (dC (.int 0))))
  (sFor (iR1 (aCons (dVar 0) aNil)) (gN 4)
  b_rows_to_ask_L2)
  sNext)
noncomputable def b_rows_to_ask_3 : S3 :=
  (sFreeze 2 (sRet (dVar 2)))
noncomputable def b_rows_to_ask_2 : S3 :=
  (sSeq (sFor (iR2 (aCons (dC (.int 1)) (aCons (dOp (dI0 fun i j => .int (i + j)) (dVar 0) (dC (.int 1))) aNil))) (gN 3)
  b_rows_to_ask_L1)
  b_rows_to_ask_3)
noncomputable def b_rows_to_ask_1 : S3 :=
  (sSeq (sOwn 2 (fLst aNil))
  b_rows_to_ask_2)
noncomputable abbrev b_rows_to_ask : S3 :=
  (sSeq (sDCall 1 1 C_roots_by_squares (aCons (dVar 0) aNil))
  b_rows_to_ask_1)
theorem rd_rows_to_ask : ∀ (ds : List D) (Φ : D → Prop), ds.length = 1 → C_rows_to_ask ds Φ → b_rows_to_ask (finD Φ) (startD 6 ds) := by
  rintro ds Φ hl ⟨m, rfl, m1, m2, h⟩
  have mz : m ≠ 0 := by omega
  have mt : m.toNat ≤ 98 := by omega
  refine ⟨rfl, m, rfl, m1, m2, fun ns rs hr => ?_⟩
  refine ⟨sl_le 0 rfl (by decide), ?_⟩
  show b_rows_to_ask_2 (finD Φ) [.val (.int m), .dct (.bl false :: ns.map .int) (rs.map tI), .own [], .un, .un, .un]
  have em : (m + 1 - 1).toNat = m.toNat := by congr 1; omega
  have len : ∀ {n k : Nat} {xs : List D}, n ≤ 98 → k ≤ 98 → xs.length ≤ n * (98 * 98) + k * 98 → xs.length ≤ 1000000 := fun {n k xs} hn hk h => by
    have := Nat.mul_le_mul_right (98 * 98) hn
    have := Nat.mul_le_mul_right 98 hk
    omega
  have sz : (1000000 : Nat) + 98 ≤ sizeLine := by decide
  have M2 : m.toNat * m.toNat ≤ 98 * 98 := Nat.mul_le_mul mt mt
  unfold b_rows_to_ask_2
  show ((-(2 ^ 62) : Int) ≤ 1 ∧ (1 : Int) < 2 ^ 62 ∧ (-(2 ^ 62) : Int) ≤ m + 1 ∧ m + 1 < 2 ^ 62) ∧ FOR (gN 3) b_rows_to_ask_L1 (ups 1 (m + 1 - 1).toNat) (thenS b_rows_to_ask_3 (finD Φ)) [.val (.int m), .dct (.bl false :: ns.map .int) (rs.map tI), .own [], .un, .un, .un]
  refine ⟨⟨by decide, by decide, by omega, by omega⟩, ?_⟩
  rw [em]
  refine FOR_ups (fun i ρ => ∃ a b c, ρ = [.val (.int m), .dct (.bl false :: ns.map .int) (rs.map tI), .own ((askTo m i).map pt), a, b, c]) ⟨.un, .un, .un, rfl⟩ ?_ ?_
  · rintro i hi ρ ⟨a, b, c, rfl⟩ k hk
    have e1 : (1 + (i : Int)) = ((1 + i : Nat) : Int) := by omega
    refine ⟨show (1 + (i : Int)) ≠ 0 by omega, tst (fun hc => ?_) fun hc => ?_⟩
    · have hc : m.fmod (1 + (i : Int)) = 0 := of_decide_eq_true hc
      rw [e1] at hc
      show (-(2 ^ 62) : Int) ≤ m ∧ m < 2 ^ 62 ∧ FOR (gN 4) b_rows_to_ask_L2 (ups 0 m.toNat) (loopS k (thenS b_rows_to_ask_3 (finD Φ))) [.val (.int m), .dct (.bl false :: ns.map .int) (rs.map tI), .own ((askTo m i).map pt), .val (.int (1 + (i : Int))), b, c]
      rw [e1]
      refine ⟨by omega, by omega, ?_⟩
      refine FOR_nat (fun j ρ => ∃ b c, ρ = [.val (.int m), .dct (.bl false :: ns.map .int) (rs.map tI), .own ((askTo m i ++ askF m (1 + i) j).map pt), .val (.int ((1 + i : Nat) : Int)), b, c]) ⟨b, c, by rw [show askF m (1 + i) 0 = [] from rfl, List.append_nil]⟩ ?_ ?_
      · rintro j hj ρ ⟨b, c, rfl⟩ k' hk'
        have bf : Bd 7 ((1 + i : Nat) : Int) := bd_of 99 (by omega) (by decide)
        have bj : Bd 7 (j : Int) := bd_of 98 (by omega) (by decide)
        refine ⟨mulOk bf bf (by decide), mulOk bj bj (by decide), mz, ?_⟩
        show b_rows_to_ask_L2_1 (loopS k' (loopS k (thenS b_rows_to_ask_3 (finD Φ)))) [.val (.int m), .dct (.bl false :: ns.map .int) (rs.map tI), .own ((askTo m i ++ askF m (1 + i) j).map pt), .val (.int ((1 + i : Nat) : Int)), .val (.int j), .val (.int ((-(((1 + i : Nat) : Int) * ((1 + i : Nat) : Int) + (j : Int) * j)).fmod m))]
        unfold b_rows_to_ask_L2_1
        have eS : askS m (1 + i) j = (rootsOf m m.toNat ((-(((1 + i : Nat) : Int) * ((1 + i : Nat) : Int) + (j : Int) * j)).fmod m)).map fun t => ⟨((1 + i : Nat) : Int), j, t⟩ := rfl
        have gl := rootsOf_len m m.toNat ((-(((1 + i : Nat) : Int) * ((1 + i : Nat) : Int) + (j : Int) * j)).fmod m)
        generalize (-(((1 + i : Nat) : Int) * ((1 + i : Nat) : Int) + (j : Int) * j)).fmod m = q at *
        refine ⟨sl_le 0 rfl (by decide), ?_⟩
        show (match getDs (ns.map .int) (rs.map tI) q (.tup []) with | .tup ds => _ | _ => False)
        rw [getDs_is hr.len, hr.get]
        refine COMP_list D.int (fun t => pt ⟨((1 + i : Nat) : Int), j, t⟩) (rootsOf m m.toNat q) rfl (by omega) (fun t ht Ψ hΨ => ⟨sl_le 3 rfl (by decide), hΨ⟩) ⟨?_, ?_⟩
        · have l1 := askTo_len m i
          have l2 := askF_len m (1 + i) j
          have l3 : i * (m.toNat * m.toNat) ≤ i * (98 * 98) := Nat.mul_le_mul_left i M2
          have l4 : j * m.toNat ≤ j * 98 := Nat.mul_le_mul_left j mt
          have := len (n := i) (k := j) (xs := (askTo m i ++ askF m (1 + i) j).map pt) (by omega) (by omega) (by rw [List.length_map, List.length_append]; omega)
          rw [List.length_map (f := fun t => pt ⟨((1 + i : Nat) : Int), j, t⟩)]
          omega
        · refine hk' _ ⟨.val (.int j), .val (.int q), ?_⟩
          rw [askF_succ, eS, ← List.append_assoc, List.map_append (l₂ := List.map _ _), List.map_map]
          rfl
      · rintro ρ ⟨b, c, rfl⟩
        refine hk _ ⟨.val (.int ((1 + i : Nat) : Int)), b, c, ?_⟩
        rw [askTo_succ, if_pos hc]
    · have hc : ¬ m.fmod (1 + (i : Int)) = 0 := of_decide_eq_false hc
      rw [e1] at hc
      refine hk _ ⟨.val (.int (1 + (i : Int))), b, c, ?_⟩
      rw [askTo_succ, if_neg hc, List.append_nil]
      rfl
  · rintro ρ ⟨a, b, c, rfl⟩
    exact h
theorem ok_rows_to_ask {P : Program} {w : World} {K : PySem.W.Frag} {mg : Str → Option Value} {base : Heap} {t : Ad} (T : Txt K mg t) : FnOk P w K mg base CX0 2 t.a_rows_to_ask t.d_rows_to_ask ["m"] (spD K 1 C_rows_to_ask) := by
  have sc := sc_rows_to_ask
  refine fn_ok (k := 1) T.F_rows_to_ask sc_rows_to_ask (fun cdv A outer s H E hr => ⟨b_rows_to_ask, (psd_cons (psd_dcall (i := 1) (ok_roots_by_squares T) mono_roots_by_squares (hr.mono (by decide)) rfl T.m_roots_by_squares T.F_roots_by_squares.kp T.b_roots_by_squares sc.nd rfl (loc_of rfl) (pad_cons (pd_var (pv 0)) pad_nil))
  (psd_cons (psd_own (i := 2) sc.nd rfl (loc_of rfl) (pf_lst pad_nil))
  (psd_cons (psd_for PassesOwn.never rfl (pid_range2 rfl T.z_range (pad_cons pd_int (pad_cons (pd_op o_add (pd_var (pv 0)) pd_int) pad_nil))) (pgd_name (i := 3) sc.nd rfl (loc_of rfl))
  (psd_one (psd_if (pb_cmp o_eq (pd_op o_mod (pd_var (pv 0)) (pd_var (pv 3))) pd_int (nomark _))
  (psd_one (psd_for PassesOwn.never rfl (pid_range1 rfl T.z_range (pad_cons (pd_var (pv 0)) pad_nil)) (pgd_name (i := 4) sc.nd rfl (loc_of rfl))
  (psd_cons (psd_set (i := 5) sc.nd rfl (loc_of rfl) (pd_op o_mod (pd_neg (pd_op o_add (pd_op o_mul (pd_var (pv 3)) (pd_var (pv 3))) (pd_op o_mul (pd_var (pv 4)) (pd_var (pv 4))))) (pd_var (pv 0))))
  (psd_one (psd_extend (pv 2) (pf_comp (xs := ["third"]) (M := ["m", "roots", "found", "first", "second", "square"]) (n := 1) (by rfl) rfl rfl (pid_tup (pd_dgetI (hu3 hr) (pv 1) (pd_var (pv 5)) (pd_tup pad_nil) ⟨rfl, rfl, rfl, rfl⟩)) (fun _ _ _ _ => (pgn_name (i := 0) (by decide) (show List.Nodup (["third", "m", "roots", "found", "first", "second", "square"] : List Str) by decide +kernel) rfl (by first | exact Or.inl rfl | exact Or.inr rfl))) (fun _ _ _ _ => pbs_nil) (fun _ _ _ _ => (pd_tup (pad_cons (pd_var (pv 4)) (pad_cons (pd_var (pv 5)) (pad_cons (pd_var (pv 0)) pad_nil)))))))))))
  psd_nil)))
  (psd_freeze 2 (psd_one (psd_ret (pd_var (pv 2)))))))), rd_rows_to_ask⟩)
noncomputable def C_divisor_of_two : Con := fun ds Φ => ∃ a b : Int, ds = [.int a, .int b] ∧ Φ (.int (Int.gcd a b : Int))
theorem mono_divisor_of_two : Mono C_divisor_of_two := fun ds Φ Ψ mo h0 => by
  obtain ⟨a, b, e, h⟩ := h0
  exact ⟨a, b, e, mo _ h⟩
noncomputable def b_divisor_of_two_L1_2 : S3 :=
  (sSet 1 (dVar 2))
noncomputable def b_divisor_of_two_L1_1 : S3 :=
  (sSeq (sSet 0 (dVar 1))
  b_divisor_of_two_L1_2)
noncomputable abbrev b_divisor_of_two_L1 : S3 :=
  (sSeq (sSet 2 (dOp (dI (fun _ j => j ≠ 0) fun i j => .int (i.fmod j)) (dVar 0) (dVar 1)))
  b_divisor_of_two_L1_1)
noncomputable def b_divisor_of_two_1 : S3 :=
  (sRet (dB cAbs (aCons (dVar 0) aNil)))
noncomputable abbrev b_divisor_of_two : S3 :=
  (sSeq (sWhile (dT (dOp dNe (dVar 1) (dC (.int 0))))
  b_divisor_of_two_L1)
  b_divisor_of_two_1)
theorem rd_divisor_of_two : ∀ (ds : List D) (Φ : D → Prop), ds.length = 2 → C_divisor_of_two ds Φ → b_divisor_of_two (finD Φ) (startD 3 ds) := by
  rintro ds Φ hl ⟨a, b, rfl, h⟩
  refine while_inv (fun ρ => ∃ (x y : Int) (s : Sl), ρ = [.val (.int x), .val (.int y), s] ∧ Int.gcd x y = Int.gcd a b) (fun ρ => match ρ with | [_, .val (.int y), _] => y.natAbs | _ => 0) ⟨a, b, .un, rfl, rfl⟩ ?_
  rintro ρ ⟨x, y, s, rfl, e⟩
  refine tst (fun hc => ?_) (fun hc => ?_)
  · have hy : y ≠ 0 := by intro z; subst z; simp at hc
    refine ⟨hy, _, ?_, rfl, y, x.fmod y, _, rfl, by rw [gcd_step, e]⟩
    show (x.fmod y).natAbs < y.natAbs
    exact fmod_lt hy
  · have hy : y = 0 := by simpa using hc
    subst hy
    have e2 : (Int.gcd a b : Int) = x.natAbs := by rw [← e]; simp
    rw [e2] at h
    exact h
theorem ok_divisor_of_two {P : Program} {w : World} {K : PySem.W.Frag} {mg : Str → Option Value} {base : Heap} {t : Ad} (T : Txt K mg t) : FnOk P w K mg base CX0 1 t.a_divisor_of_two t.d_divisor_of_two ["one", "other"] (spD K 2 C_divisor_of_two) := by
  have sc := sc_divisor_of_two
  refine fn_ok (k := 0) T.F_divisor_of_two sc_divisor_of_two (fun cdv A outer s H E hr => ⟨b_divisor_of_two, (psd_cons (psd_while PassesOwn.never (pb_cmp o_ne (pd_var (pv 1)) pd_int (nomark _))
  (psd_cons (psd_set (i := 2) sc.nd rfl (loc_of rfl) (pd_op o_mod (pd_var (pv 0)) (pd_var (pv 1))))
  (psd_cons (psd_set (i := 0) sc.nd rfl (loc_of rfl) (pd_var (pv 1)))
  (psd_one (psd_set (i := 1) sc.nd rfl (loc_of rfl) (pd_var (pv 2)))))))
  (psd_one (psd_ret (pd_callB b_abs rfl T.z_abs bt_abs (pad_cons (pd_var (pv 0)) pad_nil))))), rd_divisor_of_two⟩)
noncomputable def C_divisor : Con := fun ds Φ => ∃ ms : List Int, (ds = [.lst (ms.map .int)] ∨ ds = [.tup (ms.map .int)]) ∧ Φ (.int (gcdL ms))
theorem mono_divisor : Mono C_divisor := fun ds Φ Ψ mo h0 => by
  obtain ⟨ms, e, h⟩ := h0
  exact ⟨ms, e, mo _ h⟩
theorem divisor_loop {Φ : D → Prop} {ms : List Int} {d0 : D} (h : Φ (.int (gcdL ms))) : ∀ (qs : List Int) (g : Int) (s : Sl), qs.foldl (fun g x => (Int.gcd g x : Int)) g = gcdL ms →
    FOR (gN 2) (sSet 1 (dCall 2 C_divisor_of_two (aCons (dVar 1) (aCons (dVar 2) aNil)))) (qs.map D.int) (thenS (sRet (dVar 1)) (finD Φ)) [.val d0, .val (.int g), s]
  | [], g, s, e => by
    show Φ (.int g)
    have e : g = gcdL ms := e
    rw [e]; exact h
  | q :: qs, g, s, e => ⟨rfl, g, q, rfl, divisor_loop h qs (Int.gcd g q) _ e⟩
noncomputable abbrev b_divisor_L1 : S3 :=
  (sSet 1 (dCall 2 C_divisor_of_two (aCons (dVar 1) (aCons (dVar 2) aNil))))
noncomputable def b_divisor_2 : S3 :=
  (sRet (dVar 1))
noncomputable def b_divisor_1 : S3 :=
  (sSeq (sFor (iLT (dVar 0)) (gN 2)
  b_divisor_L1)
  b_divisor_2)
noncomputable abbrev b_divisor : S3 :=
  (sSeq (sSet 1 (dC (.int 0)))
  b_divisor_1)
theorem rd_divisor : ∀ (ds : List D) (Φ : D → Prop), ds.length = 1 → C_divisor ds Φ → b_divisor (finD Φ) (startD 3 ds) := by
  rintro ds Φ hl ⟨ms, rfl | rfl, h⟩
  · exact divisor_loop h ms 0 .un rfl
  · exact divisor_loop h ms 0 .un rfl
theorem ok_divisor {P : Program} {w : World} {K : PySem.W.Frag} {mg : Str → Option Value} {base : Heap} {t : Ad} (T : Txt K mg t) : FnOk P w K mg base CX0 2 t.a_divisor t.d_divisor ["numbers"] (spD K 1 C_divisor) := by
  have sc := sc_divisor
  refine fn_ok (k := 1) T.F_divisor sc_divisor (fun cdv A outer s H E hr => ⟨b_divisor, (psd_cons (psd_set (i := 1) sc.nd rfl (loc_of rfl) pd_int)
  (psd_cons (psd_for PassesOwn.never rfl (pid_seq (pd_var (pv 0))) (pgd_name (i := 2) sc.nd rfl (loc_of rfl))
  (psd_one (psd_set (i := 1) sc.nd rfl (loc_of rfl) (pd_call (ok_divisor_of_two T) mono_divisor_of_two (hr.mono (by decide)) rfl T.m_divisor_of_two T.F_divisor_of_two.kp T.b_divisor_of_two (pad_cons (pd_var (pv 1)) (pad_cons (pd_var (pv 2)) pad_nil))))))
  (psd_one (psd_ret (pd_var (pv 1)))))), rd_divisor⟩)
noncomputable def dot3 (p q : P3) : Int := p.x * q.x + p.y * q.y + p.z * q.z
noncomputable def dot4 (p q : Q4) : Int := p.a * q.a + p.b * q.b + p.c * q.c + p.d * q.d
noncomputable def C_row_times : Con := fun ds Φ => (∃ (p q : P3) (k : Nat), ds = [pt p, pt q] ∧ k ≤ 60000000 ∧ Bp k p ∧ Bp k q ∧ Φ (.int (dot3 p q))) ∨ (∃ (p q : Q4) (k : Nat), ds = [qd p, qd q] ∧ k ≤ 60000000 ∧ Bq k p ∧ Bq k q ∧ Φ (.int (dot4 p q)))
theorem mono_row_times : Mono C_row_times := fun ds Φ Ψ mo h => by
  rcases h with ⟨p, q, k, a, b, c, d, h⟩ | ⟨p, q, k, a, b, c, d, h⟩
  · exact .inl ⟨p, q, k, a, b, c, d, mo _ h⟩
  · exact .inr ⟨p, q, k, a, b, c, d, mo _ h⟩
noncomputable abbrev b_row_times : S3 :=
  (sRet (dB cSum (aCons (dF (fComp 1 (iR1 (aCons (dB cLen (aCons (dVar 0) aNil)) aNil)) (gN 0) (fun _ Φ => Φ true) (dOp (dI IntMulOk fun i j => .int (i * j)) (dOp dIx (dVar 1) (dVar 0)) (dOp dIx (dVar 2) (dVar 0))))) aNil)))
theorem rd_row_times : ∀ (ds : List D) (Φ : D → Prop), ds.length = 2 → C_row_times ds Φ → b_row_times (finD Φ) (startD 2 ds) := by
  rintro ds Φ hl (⟨p, q, k, rfl, hk, hp, hq, h⟩ | ⟨p, q, k, rfl, hk, hp, hq, h⟩)
  · have mk : ∀ {x y : Int}, Bd k x → Bd k y → IntMulOk x y := fun hx hy => mulOk hx hy (by omega)
    have e : [p.x * q.x, p.y * q.y, p.z * q.z].sum = dot3 p q := by simp only [List.sum_cons, List.sum_nil, dot3]; omega
    refine ⟨show (-(2 ^ 62) : Int) ≤ 3 by decide, show (3 : Int) < 2 ^ 62 by decide, mk hp.x hq.x, sl_lt 0 rfl (by decide), mk hp.y hq.y, sl_lt 1 rfl (by decide), mk hp.z hq.z, sl_lt 2 rfl (by decide), [p.x * q.x, p.y * q.y, p.z * q.z], rfl, ?_⟩
    rw [e]; exact h
  · have mk : ∀ {x y : Int}, Bd k x → Bd k y → IntMulOk x y := fun hx hy => mulOk hx hy (by omega)
    have e : [p.a * q.a, p.b * q.b, p.c * q.c, p.d * q.d].sum = dot4 p q := by simp only [List.sum_cons, List.sum_nil, dot4]; omega
    refine ⟨show (-(2 ^ 62) : Int) ≤ 4 by decide, show (4 : Int) < 2 ^ 62 by decide, mk hp.a hq.a, sl_lt 0 rfl (by decide), mk hp.b hq.b, sl_lt 1 rfl (by decide), mk hp.c hq.c, sl_lt 2 rfl (by decide), mk hp.d hq.d, sl_lt 3 rfl (by decide), [p.a * q.a, p.b * q.b, p.c * q.c, p.d * q.d], rfl, ?_⟩
    rw [e]; exact h
theorem ok_row_times {P : Program} {w : World} {K : PySem.W.Frag} {mg : Str → Option Value} {base : Heap} {t : Ad} (T : Txt K mg t) : FnOk P w K mg base CX0 1 t.a_row_times t.d_row_times ["one", "other"] (spD K 2 C_row_times) := by
  have sc := sc_row_times
  refine fn_ok (k := 0) T.F_row_times sc_row_times (fun cdv A outer s H E hr => ⟨b_row_times, (psd_one (psd_ret (pd_callB (b_sum rfl) rfl T.z_sum bt_sum (pad_cons (pd_new (pf_comp (xs := ["place"]) (M := ["one", "other"]) (n := 1) (by rfl) rfl rfl (pid_range1 rfl T.z_range (pad_cons (pd_callB b_len rfl T.z_len bt_len (pad_cons (pd_var (pv 0)) pad_nil)) pad_nil)) (fun _ _ _ _ => (pgn_name (i := 0) (by decide) (show List.Nodup (["place", "one", "other"] : List Str) by decide +kernel) rfl (by first | exact Or.inl rfl | exact Or.inr rfl))) (fun _ _ _ _ => pbs_nil) (fun _ _ _ _ => (pd_op o_mul (pd_ix (pd_var (pv 1)) (pd_var (pv 0)) (fun _ _ => rfl)) (pd_ix (pd_var (pv 2)) (pd_var (pv 0)) (fun _ _ => rfl)))))) pad_nil)))), rd_row_times⟩)
noncomputable def C_has_turn : Con := fun ds Φ => ∃ (w : P3) (m : Int) (k : Nat), ds = [.tup [pt w, .int m]] ∧ 0 < m ∧ k ≤ 900 ∧ Bp k w ∧ Bd k m ∧ Φ (.bl (decide (HasT w m)))
theorem mono_has_turn : Mono C_has_turn := fun ds Φ Ψ mo h0 => by
  obtain ⟨w, m, k, a, b, c, d, e, h⟩ := h0
  exact ⟨w, m, k, a, b, c, d, e, mo _ h⟩
noncomputable def b_has_turn_2 : S3 :=
  (sRet (dAnd (dOp dEq (dOp (dI (fun _ j => j ≠ 0) fun i j => .int (i.fmod j)) (dVar 2) (dC (.int 2))) (dC (.int 1))) (dAnd (dOp dEq (dOp (dI (fun _ j => j ≠ 0) fun i j => .int (i.fmod j)) (dCall 2 C_row_times (aCons (dVar 1) (aCons (dVar 1) aNil))) (dVar 2)) (dC (.int 0))) (dOp dEq (dCall 1 C_divisor (aCons (dOp dCatT (dVar 1) (dTup (aCons (dVar 2) aNil))) aNil)) (dC (.int 1))))))
noncomputable def b_has_turn_1 : S3 :=
  (sSeq (sSet 2 (dOp dIx (dVar 0) (dC (.int 1))))
  b_has_turn_2)
noncomputable abbrev b_has_turn : S3 :=
  (sSeq (sSet 1 (dOp dIx (dVar 0) (dC (.int 0))))
  b_has_turn_1)
theorem rd_has_turn : ∀ (ds : List D) (Φ : D → Prop), ds.length = 1 → C_has_turn ds Φ → b_has_turn (finD Φ) (startD 3 ds) := by
  rintro ds Φ hl ⟨w, m, k, rfl, m0, hk, bw, bm, h⟩
  have mz : m ≠ 0 := by omega
  show b_has_turn_2 (finD Φ) [.val (.tup [pt w, .int m]), .val (pt w), .val (.int m)]
  unfold b_has_turn_2
  have no : ¬ HasT w m → Φ (.bl false) := fun n => by rw [decide_eq_false n] at h; exact h
  refine ⟨show (2 : Int) ≠ 0 by decide, ?_⟩
  refine tst (fun hc => ?_) (fun hc => ?_)
  · have hc : m.fmod 2 = 1 := of_decide_eq_true hc
    rw [fmod_pos (by decide)] at hc
    refine ⟨rfl, .inl ⟨w, w, k, rfl, by omega, bw, bw, mz, ?_⟩⟩
    refine tst (fun hd => ?_) (fun hd => ?_)
    · have hd : decide ((dot w w).fmod m = 0) = true := hd
      rw [dvd_dec m0] at hd
      have sq : m ∣ dot w w := of_decide_eq_true hd
      refine ⟨sl_le 1 rfl (by decide), sl_le 4 rfl (by decide), rfl, [w.x, w.y, w.z, m], .inr rfl, ?_⟩
      show Φ (.bl (decide (gcdL [w.x, w.y, w.z, m] = 1)))
      have e : decide (HasT w m) = decide (gcdL [w.x, w.y, w.z, m] = 1) := by
        congr 1
        exact propext ⟨fun z => z.2.1, fun z => ⟨hc, z, sq⟩⟩
      rw [← e]; exact h
    · have hd : decide ((dot w w).fmod m = 0) = false := hd
      rw [dvd_dec m0] at hd
      exact no fun z => of_decide_eq_false hd z.2.2
  · have hc : ¬ m.fmod 2 = 1 := of_decide_eq_false hc
    rw [fmod_pos (by decide)] at hc
    exact no fun z => hc z.1
theorem ok_has_turn {P : Program} {w : World} {K : PySem.W.Frag} {mg : Str → Option Value} {base : Heap} {t : Ad} (T : Txt K mg t) : FnOk P w K mg base CX0 3 t.a_has_turn t.d_has_turn ["dial"] (spD K 1 C_has_turn) := by
  have sc := sc_has_turn
  refine fn_ok (k := 2) T.F_has_turn sc_has_turn (fun cdv A outer s H E hr => ⟨b_has_turn, (psd_cons (psd_set (i := 1) sc.nd rfl (loc_of rfl) (pd_ix (pd_var (pv 0)) pd_int (fun _ _ => rfl)))
  (psd_cons (psd_set (i := 2) sc.nd rfl (loc_of rfl) (pd_ix (pd_var (pv 0)) pd_int (fun _ _ => rfl)))
  (psd_one (psd_ret (pd_and (pd_cmp o_eq (pd_op o_mod (pd_var (pv 2)) pd_int) pd_int (nomark _)) (pd_and (pd_cmp o_eq (pd_op o_mod (pd_call (ok_row_times T) mono_row_times (hr.mono (by decide)) rfl T.m_row_times T.F_row_times.kp T.b_row_times (pad_cons (pd_var (pv 1)) (pad_cons (pd_var (pv 1)) pad_nil))) (pd_var (pv 2))) pd_int (nomark _)) (pd_one (pd_cmp o_eq (pd_call (ok_divisor T) mono_divisor (hr.mono (by decide)) rfl T.m_divisor T.F_divisor.kp T.b_divisor (pad_cons (pd_op o_catT (pd_var (pv 1)) (pd_tup (pad_cons (pd_var (pv 2)) pad_nil))) pad_nil)) pd_int (nomark _))))))))), rd_has_turn⟩)
noncomputable def C_size : Con := fun ds Φ => ∃ (q : Q4) (k : Nat), ds = [qd q] ∧ k ≤ 60000000 ∧ Bq k q ∧ Φ (.int (qsize q))
theorem mono_size : Mono C_size := fun ds Φ Ψ mo h0 => by
  obtain ⟨q, k, a, b, c, h⟩ := h0
  exact ⟨q, k, a, b, c, mo _ h⟩
noncomputable abbrev b_size : S3 :=
  (sRet (dCall 2 C_row_times (aCons (dVar 0) (aCons (dVar 0) aNil))))
theorem rd_size : ∀ (ds : List D) (Φ : D → Prop), ds.length = 1 → C_size ds Φ → b_size (finD Φ) (startD 1 ds) := by
  rintro ds Φ hl ⟨q, k, rfl, hk, hq, h⟩
  exact ⟨rfl, .inr ⟨q, q, k, rfl, hk, hq, hq, h⟩⟩
theorem ok_size {P : Program} {w : World} {K : PySem.W.Frag} {mg : Str → Option Value} {base : Heap} {t : Ad} (T : Txt K mg t) : FnOk P w K mg base CX0 2 t.a_size t.d_size ["quad"] (spD K 1 C_size) := by
  have sc := sc_size
  refine fn_ok (k := 1) T.F_size sc_size (fun cdv A outer s H E hr => ⟨b_size, (psd_one (psd_ret (pd_call (ok_row_times T) mono_row_times (hr.mono (by decide)) rfl T.m_row_times T.F_row_times.kp T.b_row_times (pad_cons (pd_var (pv 0)) (pad_cons (pd_var (pv 0)) pad_nil))))), rd_size⟩)
noncomputable def C_rows_of : Con := fun ds Φ => ∃ (q : Q4) (k : Nat), ds = [qd q] ∧ k ≤ 4000 ∧ Bq k q ∧ Φ (tr (rawT q))
theorem mono_rows_of : Mono C_rows_of := fun ds Φ Ψ mo h0 => by
  obtain ⟨q, k, a, b, c, h⟩ := h0
  exact ⟨q, k, a, b, c, mo _ h⟩
theorem raw_alt (q : Q4) : D.tup [.tup [.int (q.a * q.a + q.b * q.b - q.c * q.c - q.d * q.d), .int (2 * q.b * q.c - 2 * q.a * q.d), .int (2 * q.b * q.d + 2 * q.a * q.c)],
    .tup [.int (2 * q.b * q.c + 2 * q.a * q.d), .int (q.a * q.a - q.b * q.b + q.c * q.c - q.d * q.d), .int (2 * q.c * q.d - 2 * q.a * q.b)],
    .tup [.int (2 * q.b * q.d - 2 * q.a * q.c), .int (2 * q.c * q.d + 2 * q.a * q.b), .int (q.a * q.a - q.b * q.b - q.c * q.c + q.d * q.d)]] = tr (rawT q) := by
  have e1 : 2 * q.b * q.c - 2 * q.a * q.d = 2 * (q.b * q.c - q.a * q.d) := by grind
  have e2 : 2 * q.b * q.d + 2 * q.a * q.c = 2 * (q.b * q.d + q.a * q.c) := by grind
  have e3 : 2 * q.b * q.c + 2 * q.a * q.d = 2 * (q.b * q.c + q.a * q.d) := by grind
  have e4 : 2 * q.c * q.d - 2 * q.a * q.b = 2 * (q.c * q.d - q.a * q.b) := by grind
  have e5 : 2 * q.b * q.d - 2 * q.a * q.c = 2 * (q.b * q.d - q.a * q.c) := by grind
  have e6 : 2 * q.c * q.d + 2 * q.a * q.b = 2 * (q.c * q.d + q.a * q.b) := by grind
  rw [e1, e2, e3, e4, e5, e6]; rfl
noncomputable def b_rows_of_4 : S3 :=
  (sRet (dTup (aCons (dTup (aCons (dOp (dI0 fun i j => .int (i - j)) (dOp (dI0 fun i j => .int (i - j)) (dOp (dI0 fun i j => .int (i + j)) (dOp (dI IntMulOk fun i j => .int (i * j)) (dVar 1) (dVar 1)) (dOp (dI IntMulOk fun i j => .int (i * j)) (dVar 2) (dVar 2))) (dOp (dI IntMulOk fun i j => .int (i * j)) (dVar 3) (dVar 3))) (dOp (dI IntMulOk fun i j => .int (i * j)) (dVar 4) (dVar 4))) (aCons (dOp (dI0 fun i j => .int (i - j)) (dOp (dI IntMulOk fun i j => .int (i * j)) (dOp (dI IntMulOk fun i j => .int (i * j)) (dC (.int 2)) (dVar 2)) (dVar 3)) (dOp (dI IntMulOk fun i j => .int (i * j)) (dOp (dI IntMulOk fun i j => .int (i * j)) (dC (.int 2)) (dVar 1)) (dVar 4))) (aCons (dOp (dI0 fun i j => .int (i + j)) (dOp (dI IntMulOk fun i j => .int (i * j)) (dOp (dI IntMulOk fun i j => .int (i * j)) (dC (.int 2)) (dVar 2)) (dVar 4)) (dOp (dI IntMulOk fun i j => .int (i * j)) (dOp (dI IntMulOk fun i j => .int (i * j)) (dC (.int 2)) (dVar 1)) (dVar 3))) aNil)))) (aCons (dTup (aCons (dOp (dI0 fun i j => .int (i + j)) (dOp (dI IntMulOk fun i j => .int (i * j)) (dOp (dI IntMulOk fun i j => .int (i * j)) (dC (.int 2)) (dVar 2)) (dVar 3)) (dOp (dI IntMulOk fun i j => .int (i * j)) (dOp (dI IntMulOk fun i j => .int (i * j)) (dC (.int 2)) (dVar 1)) (dVar 4))) (aCons (dOp (dI0 fun i j => .int (i - j)) (dOp (dI0 fun i j => .int (i + j)) (dOp (dI0 fun i j => .int (i - j)) (dOp (dI IntMulOk fun i j => .int (i * j)) (dVar 1) (dVar 1)) (dOp (dI IntMulOk fun i j => .int (i * j)) (dVar 2) (dVar 2))) (dOp (dI IntMulOk fun i j => .int (i * j)) (dVar 3) (dVar 3))) (dOp (dI IntMulOk fun i j => .int (i * j)) (dVar 4) (dVar 4))) (aCons (dOp (dI0 fun i j => .int (i - j)) (dOp (dI IntMulOk fun i j => .int (i * j)) (dOp (dI IntMulOk fun i j => .int (i * j)) (dC (.int 2)) (dVar 3)) (dVar 4)) (dOp (dI IntMulOk fun i j => .int (i * j)) (dOp (dI IntMulOk fun i j => .int (i * j)) (dC (.int 2)) (dVar 1)) (dVar 2))) aNil)))) (aCons (dTup (aCons (dOp (dI0 fun i j => .int (i - j)) (dOp (dI IntMulOk fun i j => .int (i * j)) (dOp (dI IntMulOk fun i j => .int (i * j)) (dC (.int 2)) (dVar 2)) (dVar 4)) (dOp (dI IntMulOk fun i j => .int (i * j)) (dOp (dI IntMulOk fun i j => .int (i * j)) (dC (.int 2)) (dVar 1)) (dVar 3))) (aCons (dOp (dI0 fun i j => .int (i + j)) (dOp (dI IntMulOk fun i j => .int (i * j)) (dOp (dI IntMulOk fun i j => .int (i * j)) (dC (.int 2)) (dVar 3)) (dVar 4)) (dOp (dI IntMulOk fun i j => .int (i * j)) (dOp (dI IntMulOk fun i j => .int (i * j)) (dC (.int 2)) (dVar 1)) (dVar 2))) (aCons (dOp (dI0 fun i j => .int (i + j)) (dOp (dI0 fun i j => .int (i - j)) (dOp (dI0 fun i j => .int (i - j)) (dOp (dI IntMulOk fun i j => .int (i * j)) (dVar 1) (dVar 1)) (dOp (dI IntMulOk fun i j => .int (i * j)) (dVar 2) (dVar 2))) (dOp (dI IntMulOk fun i j => .int (i * j)) (dVar 3) (dVar 3))) (dOp (dI IntMulOk fun i j => .int (i * j)) (dVar 4) (dVar 4))) aNil)))) aNil)))))
noncomputable def b_rows_of_3 : S3 :=
  (sSeq (sSet 4 (dOp dIx (dVar 0) (dC (.int 3))))
  b_rows_of_4)
noncomputable def b_rows_of_2 : S3 :=
  (sSeq (sSet 3 (dOp dIx (dVar 0) (dC (.int 2))))
  b_rows_of_3)
noncomputable def b_rows_of_1 : S3 :=
  (sSeq (sSet 2 (dOp dIx (dVar 0) (dC (.int 1))))
  b_rows_of_2)
noncomputable abbrev b_rows_of : S3 :=
  (sSeq (sSet 1 (dOp dIx (dVar 0) (dC (.int 0))))
  b_rows_of_1)
theorem rd_rows_of : ∀ (ds : List D) (Φ : D → Prop), ds.length = 1 → C_rows_of ds Φ → b_rows_of (finD Φ) (startD 5 ds) := by
  rintro ds Φ hl ⟨q, k, rfl, hk, bq, h⟩
  have mk : ∀ {x y : Int}, Bd k x → Bd k y → IntMulOk x y := fun hx hy => mulOk hx hy (by omega)
  have m2 : ∀ {x : Int}, IntMulOk 2 x := IntMulOk.of_left (by decide)
  have m3 : ∀ {x y : Int}, Bd k x → Bd k y → IntMulOk (2 * x) y := fun hx hy => mulOk (bd_two hx) hy (by omega)
  show b_rows_of_4 (finD Φ) [.val (qd q), .val (.int q.a), .val (.int q.b), .val (.int q.c), .val (.int q.d)]
  have aa := mk bq.a bq.a; have bb := mk bq.b bq.b; have cc := mk bq.c bq.c; have dd := mk bq.d bq.d
  have ab := m3 bq.a bq.b; have ac := m3 bq.a bq.c; have ad := m3 bq.a bq.d; have bc := m3 bq.b bq.c; have bd := m3 bq.b bq.d; have cd := m3 bq.c bq.d
  rw [← raw_alt] at h
  exact ⟨aa, bb, cc, dd, m2, bc, m2, ad, m2, bd, m2, ac, sl_le 3 rfl (by decide), m2, bc, m2, ad, aa, bb, cc, dd, m2, cd, m2, ab, sl_le 3 rfl (by decide), m2, bd, m2, ac, m2, cd, m2, ab, aa, bb, cc, dd, sl_le 3 rfl (by decide), sl_le 3 rfl (by decide), h⟩
theorem ok_rows_of {P : Program} {w : World} {K : PySem.W.Frag} {mg : Str → Option Value} {base : Heap} {t : Ad} (T : Txt K mg t) : FnOk P w K mg base CX0 1 t.a_rows_of t.d_rows_of ["quad"] (spD K 1 C_rows_of) := by
  have sc := sc_rows_of
  refine fn_ok (k := 0) T.F_rows_of sc_rows_of (fun cdv A outer s H E hr => ⟨b_rows_of, (psd_cons (psd_set (i := 1) sc.nd rfl (loc_of rfl) (pd_ix (pd_var (pv 0)) pd_int (fun _ _ => rfl)))
  (psd_cons (psd_set (i := 2) sc.nd rfl (loc_of rfl) (pd_ix (pd_var (pv 0)) pd_int (fun _ _ => rfl)))
  (psd_cons (psd_set (i := 3) sc.nd rfl (loc_of rfl) (pd_ix (pd_var (pv 0)) pd_int (fun _ _ => rfl)))
  (psd_cons (psd_set (i := 4) sc.nd rfl (loc_of rfl) (pd_ix (pd_var (pv 0)) pd_int (fun _ _ => rfl)))
  (psd_one (psd_ret (pd_tup (pad_cons (pd_tup (pad_cons (pd_op o_sub (pd_op o_sub (pd_op o_add (pd_op o_mul (pd_var (pv 1)) (pd_var (pv 1))) (pd_op o_mul (pd_var (pv 2)) (pd_var (pv 2)))) (pd_op o_mul (pd_var (pv 3)) (pd_var (pv 3)))) (pd_op o_mul (pd_var (pv 4)) (pd_var (pv 4)))) (pad_cons (pd_op o_sub (pd_op o_mul (pd_op o_mul pd_int (pd_var (pv 2))) (pd_var (pv 3))) (pd_op o_mul (pd_op o_mul pd_int (pd_var (pv 1))) (pd_var (pv 4)))) (pad_cons (pd_op o_add (pd_op o_mul (pd_op o_mul pd_int (pd_var (pv 2))) (pd_var (pv 4))) (pd_op o_mul (pd_op o_mul pd_int (pd_var (pv 1))) (pd_var (pv 3)))) pad_nil)))) (pad_cons (pd_tup (pad_cons (pd_op o_add (pd_op o_mul (pd_op o_mul pd_int (pd_var (pv 2))) (pd_var (pv 3))) (pd_op o_mul (pd_op o_mul pd_int (pd_var (pv 1))) (pd_var (pv 4)))) (pad_cons (pd_op o_sub (pd_op o_add (pd_op o_sub (pd_op o_mul (pd_var (pv 1)) (pd_var (pv 1))) (pd_op o_mul (pd_var (pv 2)) (pd_var (pv 2)))) (pd_op o_mul (pd_var (pv 3)) (pd_var (pv 3)))) (pd_op o_mul (pd_var (pv 4)) (pd_var (pv 4)))) (pad_cons (pd_op o_sub (pd_op o_mul (pd_op o_mul pd_int (pd_var (pv 3))) (pd_var (pv 4))) (pd_op o_mul (pd_op o_mul pd_int (pd_var (pv 1))) (pd_var (pv 2)))) pad_nil)))) (pad_cons (pd_tup (pad_cons (pd_op o_sub (pd_op o_mul (pd_op o_mul pd_int (pd_var (pv 2))) (pd_var (pv 4))) (pd_op o_mul (pd_op o_mul pd_int (pd_var (pv 1))) (pd_var (pv 3)))) (pad_cons (pd_op o_add (pd_op o_mul (pd_op o_mul pd_int (pd_var (pv 3))) (pd_var (pv 4))) (pd_op o_mul (pd_op o_mul pd_int (pd_var (pv 1))) (pd_var (pv 2)))) (pad_cons (pd_op o_add (pd_op o_sub (pd_op o_sub (pd_op o_mul (pd_var (pv 1)) (pd_var (pv 1))) (pd_op o_mul (pd_var (pv 2)) (pd_var (pv 2)))) (pd_op o_mul (pd_var (pv 3)) (pd_var (pv 3)))) (pd_op o_mul (pd_var (pv 4)) (pd_var (pv 4)))) pad_nil)))) pad_nil)))))))))), rd_rows_of⟩)
noncomputable def C_table_divisor : Con := fun ds Φ => ∃ (t : T9), ds = [tr t, .int t.n] ∧ Φ (.int (gcdL (tl t)))
theorem mono_table_divisor : Mono C_table_divisor := fun ds Φ Ψ mo h0 => by
  obtain ⟨t, a, h⟩ := h0
  exact ⟨t, a, mo _ h⟩
noncomputable abbrev b_table_divisor : S3 :=
  (sRet (dCall 1 C_divisor (aCons (dOp dCatT (dOp dCatT (dOp dCatT (dOp dIx (dVar 0) (dC (.int 0))) (dOp dIx (dVar 0) (dC (.int 1)))) (dOp dIx (dVar 0) (dC (.int 2)))) (dTup (aCons (dVar 1) aNil))) aNil)))
theorem rd_table_divisor : ∀ (ds : List D) (Φ : D → Prop), ds.length = 2 → C_table_divisor ds Φ → b_table_divisor (finD Φ) (startD 2 ds) := by
  rintro ds Φ hl ⟨t, rfl, h⟩
  exact ⟨sl_le 6 rfl (by decide), sl_le 9 rfl (by decide), sl_le 1 rfl (by decide), sl_le 10 rfl (by decide), rfl, tl t, .inr rfl, h⟩
theorem ok_table_divisor {P : Program} {w : World} {K : PySem.W.Frag} {mg : Str → Option Value} {base : Heap} {t : Ad} (T : Txt K mg t) : FnOk P w K mg base CX0 3 t.a_table_divisor t.d_table_divisor ["rows", "bottom"] (spD K 2 C_table_divisor) := by
  have sc := sc_table_divisor
  refine fn_ok (k := 2) T.F_table_divisor sc_table_divisor (fun cdv A outer s H E hr => ⟨b_table_divisor, (psd_one (psd_ret (pd_call (ok_divisor T) mono_divisor (hr.mono (by decide)) rfl T.m_divisor T.F_divisor.kp T.b_divisor (pad_cons (pd_op o_catT (pd_op o_catT (pd_op o_catT (pd_ix (pd_var (pv 0)) pd_int (fun _ _ => rfl)) (pd_ix (pd_var (pv 0)) pd_int (fun _ _ => rfl))) (pd_ix (pd_var (pv 0)) pd_int (fun _ _ => rfl))) (pd_tup (pad_cons (pd_var (pv 1)) pad_nil))) pad_nil)))), rd_table_divisor⟩)
noncomputable def C_row_over : Con := fun ds Φ => ∃ (ms : List Int) (n : Int) (k : Nat), ds = [.tup (ms.map .int), .int n] ∧ ms.length ≤ 100 ∧ n ≠ 0 ∧ k ≤ 9000 ∧ Bd k n ∧ Φ (.tup ((ms.map (·.fdiv n)).map .int))
theorem mono_row_over : Mono C_row_over := fun ds Φ Ψ mo h0 => by
  obtain ⟨ms, n, k, a, b, c, d, e, h⟩ := h0
  exact ⟨ms, n, k, a, b, c, d, e, mo _ h⟩
theorem over_loop {Φ : List D → Prop} {n : Int} {k : Nat} {d0 : D} (hn : n ≠ 0) (hk : k ≤ 9000) (bn : Bd k n) : ∀ (ms : List Int) (acc : List D), acc.length + ms.length ≤ 1000 → Φ (acc ++ (ms.map (·.fdiv n)).map .int) →
    COMP (gN 0) (fun _ Φ => Φ true) (dOp (dI CD fun i j => .int (i.fdiv j)) (dVar 0) (dVar 2)) [.un, .val d0, .val (.int n)] (ms.map .int) acc Φ
  | [], acc, _, h => by rw [List.map_nil, List.map_nil, List.append_nil] at h; exact h
  | m :: ms, acc, hl, h => by
    refine ⟨cd_of hn bn hk, small1000 (by simp only [List.length_cons] at hl; omega), ?_⟩
    refine over_loop hn hk bn ms (acc ++ [.int (m.fdiv n)]) (by simp only [List.length_cons, List.length_append, List.length_nil] at hl ⊢; omega) ?_
    rw [List.append_assoc, List.singleton_append]
    exact h
noncomputable abbrev b_row_over : S3 :=
  (sRet (dB cTuple (aCons (dF (fComp 1 (iLT (dVar 0)) (gN 0) (fun _ Φ => Φ true) (dOp (dI CD fun i j => .int (i.fdiv j)) (dVar 0) (dVar 2)))) aNil)))
theorem rd_row_over : ∀ (ds : List D) (Φ : D → Prop), ds.length = 2 → C_row_over ds Φ → b_row_over (finD Φ) (startD 2 ds) := by
  rintro ds Φ hl ⟨ms, n, k, rfl, hm, hn, hk, bn, h⟩
  exact over_loop hn hk bn ms [] (by simp only [List.length_nil]; omega) h
theorem ok_row_over {P : Program} {w : World} {K : PySem.W.Frag} {mg : Str → Option Value} {base : Heap} {t : Ad} (T : Txt K mg t) : FnOk P w K mg base CX0 1 t.a_row_over t.d_row_over ["row", "n"] (spD K 2 C_row_over) := by
  have sc := sc_row_over
  refine fn_ok (k := 0) T.F_row_over sc_row_over (fun cdv A outer s H E hr => ⟨b_row_over, (psd_one (psd_ret (pd_callTy b_tuple rfl T.z_tuple bt_tuple (pad_cons (pd_new (pf_comp (xs := ["number"]) (M := ["row", "n"]) (n := 1) (by rfl) rfl rfl (pid_seq (pd_var (pv 0))) (fun _ _ _ _ => (pgn_name (i := 0) (by decide) (show List.Nodup (["number", "row", "n"] : List Str) by decide +kernel) rfl (by first | exact Or.inl rfl | exact Or.inr rfl))) (fun _ _ _ _ => pbs_nil) (fun _ _ _ _ => (pd_op o_fdiv (pd_var (pv 0)) (pd_var (pv 2)))))) pad_nil)))), rd_row_over⟩)
noncomputable def C_turn_of : Con := fun ds Φ => ∃ (q : Q4) (k : Nat), ds = [qd q] ∧ q ≠ q0 ∧ k ≤ 4000 ∧ Bq k q ∧ Φ (tb (turnT q))
theorem mono_turn_of : Mono C_turn_of := fun ds Φ Ψ mo h0 => by
  obtain ⟨q, k, a, b, c, d, h⟩ := h0
  exact ⟨q, k, a, b, c, d, mo _ h⟩
noncomputable def b_turn_of_4 : S3 :=
  (sRet (dTup (aCons (dTup (aCons (dCall 2 C_row_over (aCons (dOp dIx (dVar 2) (dC (.int 0))) (aCons (dVar 3) aNil))) (aCons (dCall 2 C_row_over (aCons (dOp dIx (dVar 2) (dC (.int 1))) (aCons (dVar 3) aNil))) (aCons (dCall 2 C_row_over (aCons (dOp dIx (dVar 2) (dC (.int 2))) (aCons (dVar 3) aNil))) aNil)))) (aCons (dOp (dI CD fun i j => .int (i.fdiv j)) (dVar 1) (dVar 3)) aNil))))
noncomputable def b_turn_of_3 : S3 :=
  (sSeq (sSet 3 (dCall 2 C_table_divisor (aCons (dVar 2) (aCons (dVar 1) aNil))))
  b_turn_of_4)
noncomputable def b_turn_of_2 : S3 :=
  (sSeq (sSet 2 (dCall 1 C_rows_of (aCons (dVar 0) aNil)))
  b_turn_of_3)
noncomputable def b_turn_of_1 : S3 :=
  (sSeq (sIf (dT (dOp dEq (dVar 1) (dC (.int 0))))
  sNever
  sNext)
  b_turn_of_2)
noncomputable abbrev b_turn_of : S3 :=
  (sSeq (sSet 1 (dCall 1 C_size (aCons (dVar 0) aNil)))
  b_turn_of_1)
theorem rd_turn_of : ∀ (ds : List D) (Φ : D → Prop), ds.length = 1 → C_turn_of ds Φ → b_turn_of (finD Φ) (startD 4 ds) := by
  rintro ds Φ hl ⟨q, k, rfl, h0, hk, bq, h⟩
  have np := qsize_pos h0
  obtain ⟨gp, gb⟩ := gcdL_tl (by rw [rawT_n]; omega) (rawT_bd bq)
  have g0 : gcdL (tl (rawT q)) ≠ 0 := by omega
  refine ⟨rfl, q, k, rfl, by omega, bq, ?_⟩
  show b_turn_of_1 (finD Φ) [.val (qd q), .val (.int (qsize q)), .un, .un]
  unfold b_turn_of_1
  refine tF (decide_eq_false (by omega)) ?_
  refine ⟨rfl, q, k, rfl, hk, bq, rfl, rawT q, rfl, ?_⟩
  show b_turn_of_4 (finD Φ) [.val (qd q), .val (.int (qsize q)), .val (tr (rawT q)), .val (.int (gcdL (tl (rawT q))))]
  have h : Φ (tb (divT (rawT q) (gcdL (tl (rawT q))))) := h
  have hk9 : 2 * k + 3 ≤ 9000 := by omega
  generalize gcdL (tl (rawT q)) = g at *
  generalize hrw : rawT q = t at *
  have tn : qsize q = t.n := by rw [← hrw]; rfl
  rw [tn]
  refine ⟨rfl, [t.p.x, t.p.y, t.p.z], g, 2 * k + 3, rfl, (show 3 ≤ 100 by decide), g0, hk9, gb, ?_⟩
  refine ⟨rfl, [t.q.x, t.q.y, t.q.z], g, 2 * k + 3, rfl, (show 3 ≤ 100 by decide), g0, hk9, gb, ?_⟩
  refine ⟨rfl, [t.r.x, t.r.y, t.r.z], g, 2 * k + 3, rfl, (show 3 ≤ 100 by decide), g0, hk9, gb, ?_⟩
  exact ⟨sl_le 3 rfl (by decide), cd_of g0 gb hk9, sl_le 2 rfl (by decide), h⟩
theorem ok_turn_of {P : Program} {w : World} {K : PySem.W.Frag} {mg : Str → Option Value} {base : Heap} {t : Ad} (T : Txt K mg t) : FnOk P w K mg base CX0 4 t.a_turn_of t.d_turn_of ["quad"] (spD K 1 C_turn_of) := by
  have sc := sc_turn_of
  refine fn_ok (k := 3) T.F_turn_of sc_turn_of (fun cdv A outer s H E hr => ⟨b_turn_of, (psd_cons (psd_set (i := 1) sc.nd rfl (loc_of rfl) (pd_call (ok_size T) mono_size (hr.mono (by decide)) rfl T.m_size T.F_size.kp T.b_size (pad_cons (pd_var (pv 0)) pad_nil)))
  (psd_cons (psd_if (pb_cmp o_eq (pd_var (pv 1)) pd_int (nomark _))
  (psd_one psd_never)
  psd_nil)
  (psd_cons (psd_set (i := 2) sc.nd rfl (loc_of rfl) (pd_call (ok_rows_of T) mono_rows_of (hr.mono (by decide)) rfl T.m_rows_of T.F_rows_of.kp T.b_rows_of (pad_cons (pd_var (pv 0)) pad_nil)))
  (psd_cons (psd_set (i := 3) sc.nd rfl (loc_of rfl) (pd_call (ok_table_divisor T) mono_table_divisor (hr.mono (by decide)) rfl T.m_table_divisor T.F_table_divisor.kp T.b_table_divisor (pad_cons (pd_var (pv 2)) (pad_cons (pd_var (pv 1)) pad_nil))))
  (psd_one (psd_ret (pd_tup (pad_cons (pd_tup (pad_cons (pd_call (ok_row_over T) mono_row_over (hr.mono (by decide)) rfl T.m_row_over T.F_row_over.kp T.b_row_over (pad_cons (pd_ix (pd_var (pv 2)) pd_int (fun _ _ => rfl)) (pad_cons (pd_var (pv 3)) pad_nil))) (pad_cons (pd_call (ok_row_over T) mono_row_over (hr.mono (by decide)) rfl T.m_row_over T.F_row_over.kp T.b_row_over (pad_cons (pd_ix (pd_var (pv 2)) pd_int (fun _ _ => rfl)) (pad_cons (pd_var (pv 3)) pad_nil))) (pad_cons (pd_call (ok_row_over T) mono_row_over (hr.mono (by decide)) rfl T.m_row_over T.F_row_over.kp T.b_row_over (pad_cons (pd_ix (pd_var (pv 2)) pd_int (fun _ _ => rfl)) (pad_cons (pd_var (pv 3)) pad_nil))) pad_nil)))) (pad_cons (pd_op o_fdiv (pd_var (pv 1)) (pd_var (pv 3))) pad_nil))))))))), rd_turn_of⟩)
noncomputable def C_product : Con := fun ds Φ => ∃ (p q : Q4) (k : Nat), ds = [qd p, qd q] ∧ k ≤ 60000000 ∧ Bq k p ∧ Bq k q ∧ Φ (qd (qmul p q))
theorem mono_product : Mono C_product := fun ds Φ Ψ mo h0 => by
  obtain ⟨p, q, k, a, b, c, d, h⟩ := h0
  exact ⟨p, q, k, a, b, c, d, mo _ h⟩
noncomputable abbrev b_product : S3 :=
  (sRet (dTup (aCons (dOp (dI0 fun i j => .int (i - j)) (dOp (dI0 fun i j => .int (i - j)) (dOp (dI0 fun i j => .int (i - j)) (dOp (dI IntMulOk fun i j => .int (i * j)) (dOp dIx (dVar 0) (dC (.int 0))) (dOp dIx (dVar 1) (dC (.int 0)))) (dOp (dI IntMulOk fun i j => .int (i * j)) (dOp dIx (dVar 0) (dC (.int 1))) (dOp dIx (dVar 1) (dC (.int 1))))) (dOp (dI IntMulOk fun i j => .int (i * j)) (dOp dIx (dVar 0) (dC (.int 2))) (dOp dIx (dVar 1) (dC (.int 2))))) (dOp (dI IntMulOk fun i j => .int (i * j)) (dOp dIx (dVar 0) (dC (.int 3))) (dOp dIx (dVar 1) (dC (.int 3))))) (aCons (dOp (dI0 fun i j => .int (i - j)) (dOp (dI0 fun i j => .int (i + j)) (dOp (dI0 fun i j => .int (i + j)) (dOp (dI IntMulOk fun i j => .int (i * j)) (dOp dIx (dVar 0) (dC (.int 0))) (dOp dIx (dVar 1) (dC (.int 1)))) (dOp (dI IntMulOk fun i j => .int (i * j)) (dOp dIx (dVar 0) (dC (.int 1))) (dOp dIx (dVar 1) (dC (.int 0))))) (dOp (dI IntMulOk fun i j => .int (i * j)) (dOp dIx (dVar 0) (dC (.int 2))) (dOp dIx (dVar 1) (dC (.int 3))))) (dOp (dI IntMulOk fun i j => .int (i * j)) (dOp dIx (dVar 0) (dC (.int 3))) (dOp dIx (dVar 1) (dC (.int 2))))) (aCons (dOp (dI0 fun i j => .int (i + j)) (dOp (dI0 fun i j => .int (i + j)) (dOp (dI0 fun i j => .int (i - j)) (dOp (dI IntMulOk fun i j => .int (i * j)) (dOp dIx (dVar 0) (dC (.int 0))) (dOp dIx (dVar 1) (dC (.int 2)))) (dOp (dI IntMulOk fun i j => .int (i * j)) (dOp dIx (dVar 0) (dC (.int 1))) (dOp dIx (dVar 1) (dC (.int 3))))) (dOp (dI IntMulOk fun i j => .int (i * j)) (dOp dIx (dVar 0) (dC (.int 2))) (dOp dIx (dVar 1) (dC (.int 0))))) (dOp (dI IntMulOk fun i j => .int (i * j)) (dOp dIx (dVar 0) (dC (.int 3))) (dOp dIx (dVar 1) (dC (.int 1))))) (aCons (dOp (dI0 fun i j => .int (i + j)) (dOp (dI0 fun i j => .int (i - j)) (dOp (dI0 fun i j => .int (i + j)) (dOp (dI IntMulOk fun i j => .int (i * j)) (dOp dIx (dVar 0) (dC (.int 0))) (dOp dIx (dVar 1) (dC (.int 3)))) (dOp (dI IntMulOk fun i j => .int (i * j)) (dOp dIx (dVar 0) (dC (.int 1))) (dOp dIx (dVar 1) (dC (.int 2))))) (dOp (dI IntMulOk fun i j => .int (i * j)) (dOp dIx (dVar 0) (dC (.int 2))) (dOp dIx (dVar 1) (dC (.int 1))))) (dOp (dI IntMulOk fun i j => .int (i * j)) (dOp dIx (dVar 0) (dC (.int 3))) (dOp dIx (dVar 1) (dC (.int 0))))) aNil))))))
theorem rd_product : ∀ (ds : List D) (Φ : D → Prop), ds.length = 2 → C_product ds Φ → b_product (finD Φ) (startD 2 ds) := by
  rintro ds Φ hl ⟨p, q, k, rfl, hk, hp, hq, h⟩
  have mk : ∀ {x y : Int}, Bd k x → Bd k y → IntMulOk x y := fun hx hy => mulOk hx hy (by omega)
  exact ⟨mk hp.a hq.a, mk hp.b hq.b, mk hp.c hq.c, mk hp.d hq.d, mk hp.a hq.b, mk hp.b hq.a, mk hp.c hq.d, mk hp.d hq.c, mk hp.a hq.c, mk hp.b hq.d, mk hp.c hq.a, mk hp.d hq.b, mk hp.a hq.d, mk hp.b hq.c, mk hp.c hq.b, mk hp.d hq.a, sl_le 4 rfl (by decide), h⟩
theorem ok_product {P : Program} {w : World} {K : PySem.W.Frag} {mg : Str → Option Value} {base : Heap} {t : Ad} (T : Txt K mg t) : FnOk P w K mg base CX0 1 t.a_product t.d_product ["one", "other"] (spD K 2 C_product) := by
  have sc := sc_product
  refine fn_ok (k := 0) T.F_product sc_product (fun cdv A outer s H E hr => ⟨b_product, (psd_one (psd_ret (pd_tup (pad_cons (pd_op o_sub (pd_op o_sub (pd_op o_sub (pd_op o_mul (pd_ix (pd_var (pv 0)) pd_int (fun _ _ => rfl)) (pd_ix (pd_var (pv 1)) pd_int (fun _ _ => rfl))) (pd_op o_mul (pd_ix (pd_var (pv 0)) pd_int (fun _ _ => rfl)) (pd_ix (pd_var (pv 1)) pd_int (fun _ _ => rfl)))) (pd_op o_mul (pd_ix (pd_var (pv 0)) pd_int (fun _ _ => rfl)) (pd_ix (pd_var (pv 1)) pd_int (fun _ _ => rfl)))) (pd_op o_mul (pd_ix (pd_var (pv 0)) pd_int (fun _ _ => rfl)) (pd_ix (pd_var (pv 1)) pd_int (fun _ _ => rfl)))) (pad_cons (pd_op o_sub (pd_op o_add (pd_op o_add (pd_op o_mul (pd_ix (pd_var (pv 0)) pd_int (fun _ _ => rfl)) (pd_ix (pd_var (pv 1)) pd_int (fun _ _ => rfl))) (pd_op o_mul (pd_ix (pd_var (pv 0)) pd_int (fun _ _ => rfl)) (pd_ix (pd_var (pv 1)) pd_int (fun _ _ => rfl)))) (pd_op o_mul (pd_ix (pd_var (pv 0)) pd_int (fun _ _ => rfl)) (pd_ix (pd_var (pv 1)) pd_int (fun _ _ => rfl)))) (pd_op o_mul (pd_ix (pd_var (pv 0)) pd_int (fun _ _ => rfl)) (pd_ix (pd_var (pv 1)) pd_int (fun _ _ => rfl)))) (pad_cons (pd_op o_add (pd_op o_add (pd_op o_sub (pd_op o_mul (pd_ix (pd_var (pv 0)) pd_int (fun _ _ => rfl)) (pd_ix (pd_var (pv 1)) pd_int (fun _ _ => rfl))) (pd_op o_mul (pd_ix (pd_var (pv 0)) pd_int (fun _ _ => rfl)) (pd_ix (pd_var (pv 1)) pd_int (fun _ _ => rfl)))) (pd_op o_mul (pd_ix (pd_var (pv 0)) pd_int (fun _ _ => rfl)) (pd_ix (pd_var (pv 1)) pd_int (fun _ _ => rfl)))) (pd_op o_mul (pd_ix (pd_var (pv 0)) pd_int (fun _ _ => rfl)) (pd_ix (pd_var (pv 1)) pd_int (fun _ _ => rfl)))) (pad_cons (pd_op o_add (pd_op o_sub (pd_op o_add (pd_op o_mul (pd_ix (pd_var (pv 0)) pd_int (fun _ _ => rfl)) (pd_ix (pd_var (pv 1)) pd_int (fun _ _ => rfl))) (pd_op o_mul (pd_ix (pd_var (pv 0)) pd_int (fun _ _ => rfl)) (pd_ix (pd_var (pv 1)) pd_int (fun _ _ => rfl)))) (pd_op o_mul (pd_ix (pd_var (pv 0)) pd_int (fun _ _ => rfl)) (pd_ix (pd_var (pv 1)) pd_int (fun _ _ => rfl)))) (pd_op o_mul (pd_ix (pd_var (pv 0)) pd_int (fun _ _ => rfl)) (pd_ix (pd_var (pv 1)) pd_int (fun _ _ => rfl)))) pad_nil))))))), rd_product⟩)
noncomputable def C_stone_product : Con := fun ds Φ => ∃ (p q : Q4) (k : Nat), ds = [qd p, qd q] ∧ k ≤ 60000000 ∧ Bq k p ∧ Bq k q ∧ Φ (qd (smul p q))
theorem mono_stone_product : Mono C_stone_product := fun ds Φ Ψ mo h0 => by
  obtain ⟨p, q, k, a, b, c, d, h⟩ := h0
  exact ⟨p, q, k, a, b, c, d, mo _ h⟩
noncomputable abbrev b_stone_product : S3 :=
  (sRet (dCall 2 C_row_over (aCons (dCall 2 C_product (aCons (dVar 0) (aCons (dVar 1) aNil))) (aCons (dC (.int 2)) aNil))))
theorem rd_stone_product : ∀ (ds : List D) (Φ : D → Prop), ds.length = 2 → C_stone_product ds Φ → b_stone_product (finD Φ) (startD 2 ds) := by
  rintro ds Φ hl ⟨p, q, k, rfl, hk, hp, hq, h⟩
  exact ⟨rfl, p, q, k, rfl, hk, hp, hq, rfl, [(qmul p q).a, (qmul p q).b, (qmul p q).c, (qmul p q).d], 2, 2, rfl, (show 4 ≤ 100 by decide), by decide, by decide, bd_lit (by decide), h⟩
theorem ok_stone_product {P : Program} {w : World} {K : PySem.W.Frag} {mg : Str → Option Value} {base : Heap} {t : Ad} (T : Txt K mg t) : FnOk P w K mg base CX0 2 t.a_stone_product t.d_stone_product ["one", "other"] (spD K 2 C_stone_product) := by
  have sc := sc_stone_product
  refine fn_ok (k := 1) T.F_stone_product sc_stone_product (fun cdv A outer s H E hr => ⟨b_stone_product, (psd_one (psd_ret (pd_call (ok_row_over T) mono_row_over (hr.mono (by decide)) rfl T.m_row_over T.F_row_over.kp T.b_row_over (pad_cons (pd_call (ok_product T) mono_product (hr.mono (by decide)) rfl T.m_product T.F_product.kp T.b_product (pad_cons (pd_var (pv 0)) (pad_cons (pd_var (pv 1)) pad_nil))) (pad_cons pd_int pad_nil))))), rd_stone_product⟩)
noncomputable def C_row_mix : Con := fun ds Φ => (∃ (p q : P3) (t u : Int) (k : Nat), ds = [pt p, .int t, pt q, .int u] ∧ k ≤ 60000000 ∧ Bp k p ∧ Bp k q ∧ Bd k t ∧ Bd k u ∧ Φ (pt (mix3 t p u q))) ∨
  (∃ (p q : Q4) (t u : Int) (k : Nat), ds = [qd p, .int t, qd q, .int u] ∧ k ≤ 60000000 ∧ Bq k p ∧ Bq k q ∧ Bd k t ∧ Bd k u ∧ Φ (qd (mix4 t p u q)))
theorem mono_row_mix : Mono C_row_mix := fun ds Φ Ψ mo h => by
  rcases h with ⟨p, q, t, u, k, a, b, c, d, e, f, h⟩ | ⟨p, q, t, u, k, a, b, c, d, e, f, h⟩
  · exact .inl ⟨p, q, t, u, k, a, b, c, d, e, f, mo _ h⟩
  · exact .inr ⟨p, q, t, u, k, a, b, c, d, e, f, mo _ h⟩
noncomputable abbrev b_row_mix : S3 :=
  (sRet (dB cTuple (aCons (dF (fComp 1 (iR1 (aCons (dB cLen (aCons (dVar 0) aNil)) aNil)) (gN 0) (fun _ Φ => Φ true) (dOp (dI0 fun i j => .int (i + j)) (dOp (dI IntMulOk fun i j => .int (i * j)) (dVar 2) (dOp dIx (dVar 1) (dVar 0))) (dOp (dI IntMulOk fun i j => .int (i * j)) (dVar 4) (dOp dIx (dVar 3) (dVar 0)))))) aNil)))
theorem rd_row_mix : ∀ (ds : List D) (Φ : D → Prop), ds.length = 4 → C_row_mix ds Φ → b_row_mix (finD Φ) (startD 4 ds) := by
  rintro ds Φ hl (⟨p, q, t, u, k, rfl, hk, hp, hq, ht, hu, h⟩ | ⟨p, q, t, u, k, rfl, hk, hp, hq, ht, hu, h⟩)
  · have mk : ∀ {x y : Int}, Bd k x → Bd k y → IntMulOk x y := fun hx hy => mulOk hx hy (by omega)
    exact ⟨show (-(2 ^ 62) : Int) ≤ 3 by decide, show (3 : Int) < 2 ^ 62 by decide, mk ht hp.x, mk hu hq.x, sl_lt 0 rfl (by decide), mk ht hp.y, mk hu hq.y, sl_lt 1 rfl (by decide), mk ht hp.z, mk hu hq.z, sl_lt 2 rfl (by decide), h⟩
  · have mk : ∀ {x y : Int}, Bd k x → Bd k y → IntMulOk x y := fun hx hy => mulOk hx hy (by omega)
    exact ⟨show (-(2 ^ 62) : Int) ≤ 4 by decide, show (4 : Int) < 2 ^ 62 by decide, mk ht hp.a, mk hu hq.a, sl_lt 0 rfl (by decide), mk ht hp.b, mk hu hq.b, sl_lt 1 rfl (by decide), mk ht hp.c, mk hu hq.c, sl_lt 2 rfl (by decide), mk ht hp.d, mk hu hq.d, sl_lt 3 rfl (by decide), h⟩
theorem ok_row_mix {P : Program} {w : World} {K : PySem.W.Frag} {mg : Str → Option Value} {base : Heap} {t : Ad} (T : Txt K mg t) : FnOk P w K mg base CX0 1 t.a_row_mix t.d_row_mix ["one", "times", "other", "times_too"] (spD K 4 C_row_mix) := by
  have sc := sc_row_mix
  refine fn_ok (k := 0) T.F_row_mix sc_row_mix (fun cdv A outer s H E hr => ⟨b_row_mix, (psd_one (psd_ret (pd_callTy b_tuple rfl T.z_tuple bt_tuple (pad_cons (pd_new (pf_comp (xs := ["place"]) (M := ["one", "times", "other", "times_too"]) (n := 1) (by rfl) rfl rfl (pid_range1 rfl T.z_range (pad_cons (pd_callB b_len rfl T.z_len bt_len (pad_cons (pd_var (pv 0)) pad_nil)) pad_nil)) (fun _ _ _ _ => (pgn_name (i := 0) (by decide) (show List.Nodup (["place", "one", "times", "other", "times_too"] : List Str) by decide +kernel) rfl (by first | exact Or.inl rfl | exact Or.inr rfl))) (fun _ _ _ _ => pbs_nil) (fun _ _ _ _ => (pd_op o_add (pd_op o_mul (pd_var (pv 2)) (pd_ix (pd_var (pv 1)) (pd_var (pv 0)) (fun _ _ => rfl))) (pd_op o_mul (pd_var (pv 4)) (pd_ix (pd_var (pv 3)) (pd_var (pv 0)) (fun _ _ => rfl))))))) pad_nil)))), rd_row_mix⟩)
noncomputable def C_row_less : Con := fun ds Φ => (∃ (p q : P3) (t : Int) (k : Nat), ds = [pt p, pt q, .int t] ∧ 1 ≤ k ∧ k ≤ 60000000 ∧ Bp k p ∧ Bp k q ∧ Bd k t ∧ Φ (pt (mix3 1 p (-t) q))) ∨
  (∃ (p q : Q4) (t : Int) (k : Nat), ds = [qd p, qd q, .int t] ∧ 1 ≤ k ∧ k ≤ 60000000 ∧ Bq k p ∧ Bq k q ∧ Bd k t ∧ Φ (qd (mix4 1 p (-t) q)))
theorem mono_row_less : Mono C_row_less := fun ds Φ Ψ mo h => by
  rcases h with ⟨p, q, t, k, a, b, c, d, e, f, h⟩ | ⟨p, q, t, k, a, b, c, d, e, f, h⟩
  · exact .inl ⟨p, q, t, k, a, b, c, d, e, f, mo _ h⟩
  · exact .inr ⟨p, q, t, k, a, b, c, d, e, f, mo _ h⟩
theorem bd1 {k : Nat} (h : 1 ≤ k) : Bd k 1 := (show Bd 1 1 from bd_lit (by decide)).mono h
noncomputable abbrev b_row_less : S3 :=
  (sRet (dCall 4 C_row_mix (aCons (dVar 0) (aCons (dC (.int 1)) (aCons (dVar 1) (aCons (dU dNeg (dVar 2)) aNil))))))
theorem rd_row_less : ∀ (ds : List D) (Φ : D → Prop), ds.length = 3 → C_row_less ds Φ → b_row_less (finD Φ) (startD 3 ds) := by
  rintro ds Φ hl (⟨p, q, t, k, rfl, h1, hk, hp, hq, ht, h⟩ | ⟨p, q, t, k, rfl, h1, hk, hp, hq, ht, h⟩)
  · exact ⟨rfl, .inl ⟨p, q, 1, -t, k, rfl, hk, hp, hq, bd1 h1, ht.neg, h⟩⟩
  · exact ⟨rfl, .inr ⟨p, q, 1, -t, k, rfl, hk, hp, hq, bd1 h1, ht.neg, h⟩⟩
theorem ok_row_less {P : Program} {w : World} {K : PySem.W.Frag} {mg : Str → Option Value} {base : Heap} {t : Ad} (T : Txt K mg t) : FnOk P w K mg base CX0 2 t.a_row_less t.d_row_less ["row", "taken", "times"] (spD K 3 C_row_less) := by
  have sc := sc_row_less
  refine fn_ok (k := 1) T.F_row_less sc_row_less (fun cdv A outer s H E hr => ⟨b_row_less, (psd_one (psd_ret (pd_call (ok_row_mix T) mono_row_mix (hr.mono (by decide)) rfl T.m_row_mix T.F_row_mix.kp T.b_row_mix (pad_cons (pd_var (pv 0)) (pad_cons pd_int (pad_cons (pd_var (pv 1)) (pad_cons (pd_neg (pd_var (pv 2))) pad_nil))))))), rd_row_less⟩)
noncomputable def C_with_rest : Con := fun ds Φ => ∃ (x y k : Q4) (l : Nat), ds = [qd x, qd y, qd k] ∧ 1 ≤ l ∧ l ≤ 20000000 ∧ Bq l x ∧ Bq l y ∧ Bq l k ∧ Φ (.tup [qd k, qd (ssub x (smul y k))])
theorem mono_with_rest : Mono C_with_rest := fun ds Φ Ψ mo h0 => by
  obtain ⟨x, y, k, l, a, b, c, d, e, f, h⟩ := h0
  exact ⟨x, y, k, l, a, b, c, d, e, f, mo _ h⟩
noncomputable abbrev b_with_rest : S3 :=
  (sRet (dTup (aCons (dVar 2) (aCons (dCall 3 C_row_less (aCons (dVar 0) (aCons (dCall 2 C_stone_product (aCons (dVar 1) (aCons (dVar 2) aNil))) (aCons (dC (.int 1)) aNil)))) aNil))))
theorem rd_with_rest : ∀ (ds : List D) (Φ : D → Prop), ds.length = 3 → C_with_rest ds Φ → b_with_rest (finD Φ) (startD 3 ds) := by
  rintro ds Φ hl ⟨x, y, k, l, rfl, h1, h2, bx, by_, bk, h⟩
  have e1 : 1 ≤ 2 * l + 3 := Nat.le_trans (by decide) (Nat.le_add_left 3 _)
  have e2 : 2 * l + 3 ≤ 40000003 := Nat.add_le_add_right (Nat.mul_le_mul_left 2 h2) 3
  have e3 : l ≤ 2 * l + 3 := Nat.le_trans (Nat.le_mul_of_pos_left l (by decide)) (Nat.le_add_right _ 3)
  refine ⟨rfl, y, k, l, rfl, Nat.le_trans h2 (by decide), by_, bk, rfl, .inr ⟨x, smul y k, 1, 2 * l + 3, rfl, Nat.le_trans (by decide) (Nat.le_add_left 3 _), Nat.le_trans e2 (by decide), bx.mono e3, (by_.smul bk).mono (Nat.le_of_eq (by rw [Nat.two_mul])), bd1 e1, ?_⟩⟩
  rw [mix_sub]
  exact ⟨sl_le 2 rfl (by decide), h⟩
theorem ok_with_rest {P : Program} {w : World} {K : PySem.W.Frag} {mg : Str → Option Value} {base : Heap} {t : Ad} (T : Txt K mg t) : FnOk P w K mg base CX0 3 t.a_with_rest t.d_with_rest ["x", "y", "k"] (spD K 3 C_with_rest) := by
  have sc := sc_with_rest
  refine fn_ok (k := 2) T.F_with_rest sc_with_rest (fun cdv A outer s H E hr => ⟨b_with_rest, (psd_one (psd_ret (pd_tup (pad_cons (pd_var (pv 2)) (pad_cons (pd_call (ok_row_less T) mono_row_less (hr.mono (by decide)) rfl T.m_row_less T.F_row_less.kp T.b_row_less (pad_cons (pd_var (pv 0)) (pad_cons (pd_call (ok_stone_product T) mono_stone_product (hr.mono (by decide)) rfl T.m_stone_product T.F_stone_product.kp T.b_stone_product (pad_cons (pd_var (pv 1)) (pad_cons (pd_var (pv 2)) pad_nil))) (pad_cons pd_int pad_nil)))) pad_nil))))), rd_with_rest⟩)
noncomputable def C_mirrored : Con := fun ds Φ => ∃ (q : Q4), ds = [qd q] ∧ Φ (qd (qbar q))
theorem mono_mirrored : Mono C_mirrored := fun ds Φ Ψ mo h0 => by
  obtain ⟨q, a, h⟩ := h0
  exact ⟨q, a, mo _ h⟩
noncomputable abbrev b_mirrored : S3 :=
  (sRet (dTup (aCons (dOp dIx (dVar 0) (dC (.int 0))) (aCons (dU dNeg (dOp dIx (dVar 0) (dC (.int 1)))) (aCons (dU dNeg (dOp dIx (dVar 0) (dC (.int 2)))) (aCons (dU dNeg (dOp dIx (dVar 0) (dC (.int 3)))) aNil))))))
theorem rd_mirrored : ∀ (ds : List D) (Φ : D → Prop), ds.length = 1 → C_mirrored ds Φ → b_mirrored (finD Φ) (startD 1 ds) := by
  rintro ds Φ hl ⟨q, rfl, h⟩
  exact ⟨sl_le 4 rfl (by decide), h⟩
theorem ok_mirrored {P : Program} {w : World} {K : PySem.W.Frag} {mg : Str → Option Value} {base : Heap} {t : Ad} (T : Txt K mg t) : FnOk P w K mg base CX0 1 t.a_mirrored t.d_mirrored ["quad"] (spD K 1 C_mirrored) := by
  have sc := sc_mirrored
  refine fn_ok (k := 0) T.F_mirrored sc_mirrored (fun cdv A outer s H E hr => ⟨b_mirrored, (psd_one (psd_ret (pd_tup (pad_cons (pd_ix (pd_var (pv 0)) pd_int (fun _ _ => rfl)) (pad_cons (pd_neg (pd_ix (pd_var (pv 0)) pd_int (fun _ _ => rfl))) (pad_cons (pd_neg (pd_ix (pd_var (pv 0)) pd_int (fun _ _ => rfl))) (pad_cons (pd_neg (pd_ix (pd_var (pv 0)) pd_int (fun _ _ => rfl))) pad_nil))))))), rd_mirrored⟩)
noncomputable def C_even_stone_near : Con := fun ds Φ => ∃ (q : Q4) (w : Int) (k : Nat), ds = [qd q, .int w] ∧ 0 < w ∧ k ≤ 8000 ∧ Bd k w ∧ Φ (qd (evnQ q w))
theorem mono_even_stone_near : Mono C_even_stone_near := fun ds Φ Ψ mo h0 => by
  obtain ⟨q, w, k, a, b, c, d, h⟩ := h0
  exact ⟨q, w, k, a, b, c, d, mo _ h⟩
noncomputable abbrev b_even_stone_near : S3 :=
  (sRet (dB cTuple (aCons (dF (fComp 1 (iLT (dVar 0)) (gN 0) (fun _ Φ => Φ true) (dOp (dI IntMulOk fun i j => .int (i * j)) (dC (.int 2)) (dOp (dI CD fun i j => .int (i.fdiv j)) (dOp (dI0 fun i j => .int (i + j)) (dVar 0) (dVar 2)) (dOp (dI IntMulOk fun i j => .int (i * j)) (dC (.int 2)) (dVar 2)))))) aNil)))
theorem rd_even_stone_near : ∀ (ds : List D) (Φ : D → Prop), ds.length = 2 → C_even_stone_near ds Φ → b_even_stone_near (finD Φ) (startD 2 ds) := by
  rintro ds Φ hl ⟨q, w, k, rfl, hw, hk, bw, h⟩
  have m2 : ∀ {x : Int}, IntMulOk 2 x := IntMulOk.of_left (by decide)
  have cd : ∀ {x : Int}, CD x (2 * w) := cd_of (by omega) (bd_two' bw) (by omega)
  exact ⟨m2, cd, m2, sl_lt 0 rfl (by decide), m2, cd, m2, sl_lt 1 rfl (by decide), m2, cd, m2, sl_lt 2 rfl (by decide), m2, cd, m2, sl_lt 3 rfl (by decide), h⟩
theorem ok_even_stone_near {P : Program} {w : World} {K : PySem.W.Frag} {mg : Str → Option Value} {base : Heap} {t : Ad} (T : Txt K mg t) : FnOk P w K mg base CX0 1 t.a_even_stone_near t.d_even_stone_near ["aim", "bottom"] (spD K 2 C_even_stone_near) := by
  have sc := sc_even_stone_near
  refine fn_ok (k := 0) T.F_even_stone_near sc_even_stone_near (fun cdv A outer s H E hr => ⟨b_even_stone_near, (psd_one (psd_ret (pd_callTy b_tuple rfl T.z_tuple bt_tuple (pad_cons (pd_new (pf_comp (xs := ["number"]) (M := ["aim", "bottom"]) (n := 1) (by rfl) rfl rfl (pid_seq (pd_var (pv 0))) (fun _ _ _ _ => (pgn_name (i := 0) (by decide) (show List.Nodup (["number", "aim", "bottom"] : List Str) by decide +kernel) rfl (by first | exact Or.inl rfl | exact Or.inr rfl))) (fun _ _ _ _ => pbs_nil) (fun _ _ _ _ => (pd_op o_mul pd_int (pd_op o_fdiv (pd_op o_add (pd_var (pv 0)) (pd_var (pv 2))) (pd_op o_mul pd_int (pd_var (pv 2)))))))) pad_nil)))), rd_even_stone_near⟩)
noncomputable def C_odd_stone_near : Con := fun ds Φ => ∃ (q : Q4) (w : Int) (k : Nat), ds = [qd q, .int w] ∧ 0 < w ∧ k ≤ 8000 ∧ Bd k w ∧ Φ (qd (odnQ q w))
theorem mono_odd_stone_near : Mono C_odd_stone_near := fun ds Φ Ψ mo h0 => by
  obtain ⟨q, w, k, a, b, c, d, h⟩ := h0
  exact ⟨q, w, k, a, b, c, d, mo _ h⟩
noncomputable abbrev b_odd_stone_near : S3 :=
  (sRet (dB cTuple (aCons (dF (fComp 1 (iLT (dVar 0)) (gN 0) (fun _ Φ => Φ true) (dOp (dI0 fun i j => .int (i + j)) (dOp (dI IntMulOk fun i j => .int (i * j)) (dC (.int 2)) (dOp (dI CD fun i j => .int (i.fdiv j)) (dVar 0) (dOp (dI IntMulOk fun i j => .int (i * j)) (dC (.int 2)) (dVar 2)))) (dC (.int 1))))) aNil)))
theorem rd_odd_stone_near : ∀ (ds : List D) (Φ : D → Prop), ds.length = 2 → C_odd_stone_near ds Φ → b_odd_stone_near (finD Φ) (startD 2 ds) := by
  rintro ds Φ hl ⟨q, w, k, rfl, hw, hk, bw, h⟩
  have m2 : ∀ {x : Int}, IntMulOk 2 x := IntMulOk.of_left (by decide)
  have cd : ∀ {x : Int}, CD x (2 * w) := cd_of (by omega) (bd_two' bw) (by omega)
  exact ⟨m2, cd, m2, sl_lt 0 rfl (by decide), m2, cd, m2, sl_lt 1 rfl (by decide), m2, cd, m2, sl_lt 2 rfl (by decide), m2, cd, m2, sl_lt 3 rfl (by decide), h⟩
theorem ok_odd_stone_near {P : Program} {w : World} {K : PySem.W.Frag} {mg : Str → Option Value} {base : Heap} {t : Ad} (T : Txt K mg t) : FnOk P w K mg base CX0 1 t.a_odd_stone_near t.d_odd_stone_near ["aim", "bottom"] (spD K 2 C_odd_stone_near) := by
  have sc := sc_odd_stone_near
  refine fn_ok (k := 0) T.F_odd_stone_near sc_odd_stone_near (fun cdv A outer s H E hr => ⟨b_odd_stone_near, (psd_one (psd_ret (pd_callTy b_tuple rfl T.z_tuple bt_tuple (pad_cons (pd_new (pf_comp (xs := ["number"]) (M := ["aim", "bottom"]) (n := 1) (by rfl) rfl rfl (pid_seq (pd_var (pv 0))) (fun _ _ _ _ => (pgn_name (i := 0) (by decide) (show List.Nodup (["number", "aim", "bottom"] : List Str) by decide +kernel) rfl (by first | exact Or.inl rfl | exact Or.inr rfl))) (fun _ _ _ _ => pbs_nil) (fun _ _ _ _ => (pd_op o_add (pd_op o_mul pd_int (pd_op o_fdiv (pd_var (pv 0)) (pd_op o_mul pd_int (pd_var (pv 2))))) pd_int)))) pad_nil)))), rd_odd_stone_near⟩)
noncomputable def C_weight : Con := fun ds Φ => ∃ (q : Q4) (k : Nat), ds = [qd q] ∧ k ≤ 60000000 ∧ Bq k q ∧ Φ (.int (heavy q))
theorem mono_weight : Mono C_weight := fun ds Φ Ψ mo h0 => by
  obtain ⟨q, k, a, b, c, h⟩ := h0
  exact ⟨q, k, a, b, c, mo _ h⟩
noncomputable abbrev b_weight : S3 :=
  (sRet (dOp (dI CD fun i j => .int (i.fdiv j)) (dCall 1 C_size (aCons (dVar 0) aNil)) (dC (.int 4))))
theorem rd_weight : ∀ (ds : List D) (Φ : D → Prop), ds.length = 1 → C_weight ds Φ → b_weight (finD Φ) (startD 1 ds) := by
  rintro ds Φ hl ⟨q, k, rfl, hk, hq, h⟩
  exact ⟨rfl, q, k, rfl, hk, hq, cd_lit (by decide), h⟩
theorem ok_weight {P : Program} {w : World} {K : PySem.W.Frag} {mg : Str → Option Value} {base : Heap} {t : Ad} (T : Txt K mg t) : FnOk P w K mg base CX0 3 t.a_weight t.d_weight ["stone"] (spD K 1 C_weight) := by
  have sc := sc_weight
  refine fn_ok (k := 2) T.F_weight sc_weight (fun cdv A outer s H E hr => ⟨b_weight, (psd_one (psd_ret (pd_op o_fdiv (pd_call (ok_size T) mono_size (hr.mono (by decide)) rfl T.m_size T.F_size.kp T.b_size (pad_cons (pd_var (pv 0)) pad_nil)) pd_int))), rd_weight⟩)
noncomputable def C_divided : Con := fun ds Φ => ∃ (x y : Q4) (B : Nat), ds = [qd x, qd y] ∧ Stone x ∧ Stone y ∧ y ≠ q0 ∧ B ≤ 3000 ∧ Bq B x ∧ Bq B y ∧ ∀ k r : Q4, Stone k → Stone r → r = ssub x (smul y k) → 2 * heavy r ≤ heavy y → (∀ k0, Stone k0 → x = smul y k0 → r = q0) → Bq (2 * B + 7) k → Bq (3 * B + 12) r → Φ (.tup [qd k, qd r])
theorem mono_divided : Mono C_divided := fun ds Φ Ψ mo h0 => by
  obtain ⟨x, y, B, a, b, c, d, e, f, g, h⟩ := h0
  exact ⟨x, y, B, a, b, c, d, e, f, g, fun k r h1 h2 h3 h4 h5 h6 h7 => mo _ (h k r h1 h2 h3 h4 h5 h6 h7)⟩
noncomputable def b_divided_5 : S3 :=
  (sRet (dVar 4))
noncomputable def b_divided_4 : S3 :=
  (sSeq (sIf (dT (dOp (dI0 fun i j => .bl (decide (i ≤ j))) (dCall 1 C_weight (aCons (dOp dIx (dVar 3) (dC (.int 1))) aNil)) (dCall 1 C_weight (aCons (dOp dIx (dVar 4) (dC (.int 1))) aNil))))
  (sRet (dVar 3))
  sNext)
  b_divided_5)
noncomputable def b_divided_3 : S3 :=
  (sSeq (sSet 4 (dCall 3 C_with_rest (aCons (dVar 0) (aCons (dVar 1) (aCons (dCall 2 C_odd_stone_near (aCons (dVar 2) (aCons (dCall 1 C_weight (aCons (dVar 1) aNil)) aNil))) aNil)))))
  b_divided_4)
noncomputable def b_divided_2 : S3 :=
  (sSeq (sSet 3 (dCall 3 C_with_rest (aCons (dVar 0) (aCons (dVar 1) (aCons (dCall 2 C_even_stone_near (aCons (dVar 2) (aCons (dCall 1 C_weight (aCons (dVar 1) aNil)) aNil))) aNil)))))
  b_divided_3)
noncomputable def b_divided_1 : S3 :=
  (sSeq (sSet 2 (dCall 2 C_stone_product (aCons (dCall 1 C_mirrored (aCons (dVar 1) aNil)) (aCons (dVar 0) aNil))))
  b_divided_2)
noncomputable abbrev b_divided : S3 :=
  (sSeq (sIf (dT (dOp dEqS (dVar 1) (dC k_NOUGHT)))
  sNever
  sNext)
  b_divided_1)
theorem rd_divided : ∀ (ds : List D) (Φ : D → Prop), ds.length = 2 → C_divided ds Φ → b_divided (finD Φ) (startD 5 ds) := by
  rintro ds Φ hl ⟨x, y, B, rfl, sx, sy, h0, hB, bx, by_, h⟩
  have hw := heavy_pos sy h0
  have gB : B ≤ 60000000 := Nat.le_trans hB (by decide)
  have g2 : 2 * B ≤ 6000 := Nat.mul_le_mul_left 2 hB
  have g7 : 2 * B + 7 ≤ 20000000 := Nat.le_trans (Nat.add_le_add_right g2 7) (by decide)
  have e7 : 1 ≤ 2 * B + 7 := Nat.le_trans (by decide) (Nat.le_add_left 7 _)
  have d7 : B ≤ 2 * B + 7 := Nat.le_trans (Nat.le_mul_of_pos_left B (by decide)) (Nat.le_add_right _ 7)
  have g12 : 3 * B + 12 ≤ 60000000 := Nat.le_trans (Nat.add_le_add_right (Nat.mul_le_mul_left 3 hB) 12) (by decide)
  have ba : Bq (2 * B + 3) (smul (qbar y) x) := (by_.bar.smul bx).mono (Nat.le_of_eq (by rw [Nat.two_mul]))
  have bw : Bd (2 * B + 3) (heavy y) := heavy_bd by_
  have be := evnQ_bd ba bw hw
  have bo := odnQ_bd ba hw
  have se := evnQ_stone (smul (qbar y) x) (heavy y)
  have so := odnQ_stone (smul (qbar y) x) (heavy y)
  have half := rest_half sx sy h0 _ rfl
  have none := fun k0 (hk : Stone k0) (e : x = smul y k0) => rest_none sy h0 hk e _ rfl
  have sre := sx.sub (smul_two sy se).2
  have sro := sx.sub (smul_two sy so).2
  have bre : Bq (3 * B + 12) (ssub x (smul y (evnQ (smul (qbar y) x) (heavy y)))) := (bx.ssub (by_.smul be)).mono (by omega)
  have bro : Bq (3 * B + 12) (ssub x (smul y (odnQ (smul (qbar y) x) (heavy y)))) := (bx.ssub (by_.smul bo)).mono (by omega)
  unfold b_divided
  refine ⟨(show 1 ≤ 100 by decide), ?_⟩
  refine tF (by show eqD (qd y) (qd q0) = false; rw [eqD_q]; exact decide_eq_false h0) ?_
  show b_divided_1 (finD Φ) [.val (qd x), .val (qd y), .un, .un, .un]
  refine ⟨rfl, y, rfl, rfl, qbar y, x, B, rfl, gB, by_.bar, bx, ?_⟩
  show b_divided_2 (finD Φ) [.val (qd x), .val (qd y), .val (qd (smul (qbar y) x)), .un, .un]
  refine ⟨rfl, y, B, rfl, gB, by_, rfl, smul (qbar y) x, heavy y, 2 * B + 3, rfl, hw, Nat.le_trans (Nat.add_le_add_right g2 3) (by decide), bw, ?_⟩
  refine ⟨rfl, x, y, _, 2 * B + 7, rfl, e7, g7, bx.mono d7, by_.mono d7, be, ?_⟩
  show b_divided_3 (finD Φ) [.val (qd x), .val (qd y), .val (qd (smul (qbar y) x)), .val (.tup [qd (evnQ (smul (qbar y) x) (heavy y)), qd (ssub x (smul y (evnQ (smul (qbar y) x) (heavy y))))]), .un]
  refine ⟨rfl, y, B, rfl, gB, by_, rfl, smul (qbar y) x, heavy y, 2 * B + 3, rfl, hw, Nat.le_trans (Nat.add_le_add_right g2 3) (by decide), bw, ?_⟩
  refine ⟨rfl, x, y, _, 2 * B + 7, rfl, e7, g7, bx.mono d7, by_.mono d7, bo, ?_⟩
  show b_divided_4 (finD Φ) [.val (qd x), .val (qd y), .val (qd (smul (qbar y) x)), .val (.tup [qd (evnQ (smul (qbar y) x) (heavy y)), qd (ssub x (smul y (evnQ (smul (qbar y) x) (heavy y))))]), .val (.tup [qd (odnQ (smul (qbar y) x) (heavy y)), qd (ssub x (smul y (odnQ (smul (qbar y) x) (heavy y))))])]
  have ne := heavy_nn (ssub x (smul y (evnQ (smul (qbar y) x) (heavy y))))
  have no := heavy_nn (ssub x (smul y (odnQ (smul (qbar y) x) (heavy y))))
  have zero : ∀ {k k0 : Q4}, k = k0 → x = smul y k0 → heavy (ssub x (smul y k)) = 0 := fun e1 e2 => by
    rw [e1, ← e2]; simp only [ssub, Int.sub_self]; rfl
  have he := h _ _ se sre rfl
  have ho := h _ _ so sro rfl
  generalize evnQ (smul (qbar y) x) (heavy y) = ke at *
  generalize odnQ (smul (qbar y) x) (heavy y) = ko at *
  unfold b_divided_4
  refine ⟨rfl, _, 3 * B + 12, rfl, g12, bre, rfl, _, 3 * B + 12, rfl, g12, bro, ?_⟩
  refine tst (fun hc => ?_) (fun hc => ?_)
  · have hc : heavy (ssub x (smul y ke)) ≤ heavy (ssub x (smul y ko)) := of_decide_eq_true hc
    refine he (by omega) (fun k0 hk e => ?_) be bre
    rcases none k0 hk e with z | z
    · exact heavy_zero sre (zero z e)
    · exact heavy_zero sre (Int.le_antisymm (zero z e ▸ hc) ne)
  · have hc : ¬ heavy (ssub x (smul y ke)) ≤ heavy (ssub x (smul y ko)) := of_decide_eq_false hc
    refine ho (by omega) (fun k0 hk e => ?_) bo bro
    rcases none k0 hk e with z | z
    · have := zero z e; omega
    · exact heavy_zero sro (zero z e)
theorem ok_divided {P : Program} {w : World} {K : PySem.W.Frag} {mg : Str → Option Value} {base : Heap} {t : Ad} (T : Txt K mg t) : FnOk P w K mg base CX0 4 t.a_divided t.d_divided ["x", "y"] (spD K 2 C_divided) := by
  have sc := sc_divided
  refine fn_ok (k := 3) T.F_divided sc_divided (fun cdv A outer s H E hr => ⟨b_divided, (psd_cons (psd_if (pb_cmp (o_eqS (hu3 hr)) (pd_var (pv 1)) (pd_const rfl T.m_NOUGHT T.c_NOUGHT) (nomark _))
  (psd_one psd_never)
  psd_nil)
  (psd_cons (psd_set (i := 2) sc.nd rfl (loc_of rfl) (pd_call (ok_stone_product T) mono_stone_product (hr.mono (by decide)) rfl T.m_stone_product T.F_stone_product.kp T.b_stone_product (pad_cons (pd_call (ok_mirrored T) mono_mirrored (hr.mono (by decide)) rfl T.m_mirrored T.F_mirrored.kp T.b_mirrored (pad_cons (pd_var (pv 1)) pad_nil)) (pad_cons (pd_var (pv 0)) pad_nil))))
  (psd_cons (psd_set (i := 3) sc.nd rfl (loc_of rfl) (pd_call (ok_with_rest T) mono_with_rest (hr.mono (by decide)) rfl T.m_with_rest T.F_with_rest.kp T.b_with_rest (pad_cons (pd_var (pv 0)) (pad_cons (pd_var (pv 1)) (pad_cons (pd_call (ok_even_stone_near T) mono_even_stone_near (hr.mono (by decide)) rfl T.m_even_stone_near T.F_even_stone_near.kp T.b_even_stone_near (pad_cons (pd_var (pv 2)) (pad_cons (pd_call (ok_weight T) mono_weight (hr.mono (by decide)) rfl T.m_weight T.F_weight.kp T.b_weight (pad_cons (pd_var (pv 1)) pad_nil)) pad_nil))) pad_nil)))))
  (psd_cons (psd_set (i := 4) sc.nd rfl (loc_of rfl) (pd_call (ok_with_rest T) mono_with_rest (hr.mono (by decide)) rfl T.m_with_rest T.F_with_rest.kp T.b_with_rest (pad_cons (pd_var (pv 0)) (pad_cons (pd_var (pv 1)) (pad_cons (pd_call (ok_odd_stone_near T) mono_odd_stone_near (hr.mono (by decide)) rfl T.m_odd_stone_near T.F_odd_stone_near.kp T.b_odd_stone_near (pad_cons (pd_var (pv 2)) (pad_cons (pd_call (ok_weight T) mono_weight (hr.mono (by decide)) rfl T.m_weight T.F_weight.kp T.b_weight (pad_cons (pd_var (pv 1)) pad_nil)) pad_nil))) pad_nil)))))
  (psd_cons (psd_if (pb_cmp o_le (pd_call (ok_weight T) mono_weight (hr.mono (by decide)) rfl T.m_weight T.F_weight.kp T.b_weight (pad_cons (pd_ix (pd_var (pv 3)) pd_int (fun _ _ => rfl)) pad_nil)) (pd_call (ok_weight T) mono_weight (hr.mono (by decide)) rfl T.m_weight T.F_weight.kp T.b_weight (pad_cons (pd_ix (pd_var (pv 4)) pd_int (fun _ _ => rfl)) pad_nil)) (nomark _))
  (psd_one (psd_ret (pd_var (pv 3))))
  psd_nil)
  (psd_one (psd_ret (pd_var (pv 4))))))))), rd_divided⟩)
noncomputable def C_common : Con := fun ds Φ => ∃ (x y : Q4) (B : Nat), ds = [qd x, qd y] ∧ Stone x ∧ Stone y ∧ B ≤ 1000 ∧ Bq B x ∧ Bq B y ∧ ∀ s a b u v : Q4, Row x y s a b → Stone u → Stone v → x = smul s u → y = smul s v → (x = q0 → y = q0 → s = q0) → Bq (B + 1) s → Bq 30000000 a → Bq 30000000 b → Bq (2 * B + 9) u → Bq (2 * B + 9) v → Φ (.tup [qd s, qd a, qd b, qd u, qd v])
theorem mono_common : Mono C_common := fun ds Φ Ψ mo h0 => by
  obtain ⟨x, y, B, a, b, c, d, e, f, h⟩ := h0
  exact ⟨x, y, B, a, b, c, d, e, f, fun s a b u v h1 h2 h3 h4 h5 h6 h7 h8 h9 h10 h11 => mo _ (h s a b u v h1 h2 h3 h4 h5 h6 h7 h8 h9 h10 h11)⟩
structure CmI (x y : Q4) (B n : Nat) (s a b s' a' b' : Q4) : Prop where
  r : Row x y s a b
  r' : Row x y s' a' b'
  ix : In2 x s s'
  iy : In2 y s s'
  hs : heavy s < 2 ^ (2 * B)
  hs' : heavy s' * 2 ^ n < 2 ^ (2 * B)
  ba : Bq (n * (2 * B + 20) + 5) a
  bb : Bq (n * (2 * B + 20) + 5) b
  ba' : Bq (n * (2 * B + 20) + 5) a'
  bb' : Bq (n * (2 * B + 20) + 5) b'
  ne : s = q0 → s' = q0 → x = q0 ∧ y = q0
  nn : n ≤ 2 * B
theorem CmI.steps {x y s a b s' a' b' : Q4} {B n : Nat} (h : CmI x y B n s a b s' a' b') (h0 : s' ≠ q0) : n < 2 * B := by
  have p := heavy_pos h.r'.ss h0
  have := h.hs'
  apply Classical.byContradiction
  intro z
  have : (2 : Int) ^ (2 * B) ≤ 2 ^ n := by exact_mod_cast Nat.pow_le_pow_right (n := 2) (by decide) (by omega)
  have q : (1 : Int) * 2 ^ n ≤ heavy s' * 2 ^ n := Int.mul_le_mul_of_nonneg_right (by omega) (Int.pow_nonneg (by decide))
  omega
theorem CmI.small {x y s a b s' a' b' : Q4} {B n : Nat} (h : CmI x y B n s a b s' a' b') : heavy s' < 2 ^ (2 * B) := by
  have := h.hs'
  have n0 := heavy_nn s'
  have o1 : (1 : Int) ≤ 2 ^ n := by exact_mod_cast Nat.one_le_two_pow
  have q : heavy s' * 1 ≤ heavy s' * 2 ^ n := Int.mul_le_mul_of_nonneg_left o1 n0
  omega
theorem CmI.step {x y s a b s' a' b' k : Q4} {B n : Nat} (sx : Stone x) (sy : Stone y) (h : CmI x y B n s a b s' a' b') (h0 : s' ≠ q0) (sk : Stone k) (bk : Bq (2 * B + 9) k) (hh : 2 * heavy (ssub s (smul s' k)) ≤ heavy s') :
    CmI x y B (n + 1) s' a' b' (ssub s (smul s' k)) (ssub a (smul a' k)) (ssub b (smul b' k)) := by
  have e : (n + 1) * (2 * B + 20) + 5 = n * (2 * B + 20) + 5 + (2 * B + 20) := by grind
  refine ⟨h.r', h.r.step sx sy h.r' sk, h.ix.step h.r.ss h.r'.ss sk, h.iy.step h.r.ss h.r'.ss sk, h.small, ?_, ?_, ?_, ?_, ?_, fun z => absurd z h0, h.steps h0⟩
  · have := h.hs'
    have p : (0 : Int) < 2 ^ n := Int.pow_pos (by decide)
    have q : 2 * heavy (ssub s (smul s' k)) * 2 ^ n ≤ heavy s' * 2 ^ n := Int.mul_le_mul_of_nonneg_right hh (Int.le_of_lt p)
    have e2 : heavy (ssub s (smul s' k)) * 2 ^ (n + 1) = 2 * heavy (ssub s (smul s' k)) * 2 ^ n := by rw [Int.pow_succ]; grind
    omega
  · exact h.ba'.mono (by omega)
  · exact h.bb'.mono (by omega)
  · exact (h.ba.ssub (h.ba'.smul bk)).mono (by omega)
  · exact (h.bb.ssub (h.bb'.smul bk)).mono (by omega)
noncomputable def tup3 (s a b : Q4) : D := .tup [qd s, qd a, qd b]
theorem sub_zero {p q : Q4} (h : q0 = ssub p q) : p = q := by
  have a := congrArg Q4.a h; have b := congrArg Q4.b h; have c := congrArg Q4.c h; have d := congrArg Q4.d h
  simp only [ssub, q0] at a b c d
  apply Q4.eq <;> omega
theorem In2.one {z s : Q4} (h : In2 z s q0) : ∃ u, Stone u ∧ z = smul s u := by
  obtain ⟨u, v, su, sv, e⟩ := h
  rw [q0_smul, qadd_q0] at e
  exact ⟨u, su, e⟩
noncomputable def b_common_L1_3 : S3 :=
  (sSet 3 (dVar 5))
noncomputable def b_common_L1_2 : S3 :=
  (sSeq (sSet 2 (dVar 3))
  b_common_L1_3)
noncomputable def b_common_L1_1 : S3 :=
  (sSeq (sSet 5 (dB cTuple (aCons (dF (fComp 1 (iR1 (aCons (dC (.int 3)) aNil)) (gN 0) (fun _ Φ => Φ true) (dCall 3 C_row_less (aCons (dOp dIx (dVar 3) (dVar 0)) (aCons (dCall 2 C_stone_product (aCons (dOp dIx (dVar 4) (dVar 0)) (aCons (dVar 5) aNil))) (aCons (dC (.int 1)) aNil)))))) aNil)))
  b_common_L1_2)
noncomputable abbrev b_common_L1 : S3 :=
  (sSeq (sSet 4 (dOp dIx (dCall 2 C_divided (aCons (dOp dIx (dVar 2) (dC (.int 0))) (aCons (dOp dIx (dVar 3) (dC (.int 0))) aNil))) (dC (.int 0))))
  b_common_L1_1)
noncomputable def b_common_5 : S3 :=
  (sRet (dTup (aCons (dVar 6) (aCons (dOp dIx (dVar 2) (dC (.int 1))) (aCons (dOp dIx (dVar 2) (dC (.int 2))) (aCons (dOp dIx (dCall 2 C_divided (aCons (dVar 0) (aCons (dVar 6) aNil))) (dC (.int 0))) (aCons (dOp dIx (dCall 2 C_divided (aCons (dVar 1) (aCons (dVar 6) aNil))) (dC (.int 0))) aNil)))))))
noncomputable def b_common_4 : S3 :=
  (sSeq (sSet 6 (dOp dIx (dVar 2) (dC (.int 0))))
  b_common_5)
noncomputable def b_common_3 : S3 :=
  (sSeq (sWhile (dT (dOp dNeS (dOp dIx (dVar 3) (dC (.int 0))) (dC k_NOUGHT)))
  b_common_L1)
  b_common_4)
noncomputable def b_common_2 : S3 :=
  (sSeq (sSet 3 (dTup (aCons (dVar 1) (aCons (dC k_NOUGHT) (aCons (dC k_ONE) aNil)))))
  b_common_3)
noncomputable def b_common_1 : S3 :=
  (sSeq (sSet 2 (dTup (aCons (dVar 0) (aCons (dC k_ONE) (aCons (dC k_NOUGHT) aNil)))))
  b_common_2)
noncomputable abbrev b_common : S3 :=
  (sSeq (sIf (bAnd (dT (dOp dEqS (dVar 0) (dC k_NOUGHT))) (dT (dOp dEqS (dVar 1) (dC k_NOUGHT))))
  (sRet (dTup (aCons (dC k_NOUGHT) (aCons (dC k_NOUGHT) (aCons (dC k_NOUGHT) (aCons (dC k_NOUGHT) (aCons (dC k_NOUGHT) aNil)))))))
  sNext)
  b_common_1)
theorem rd_common : ∀ (ds : List D) (Φ : D → Prop), ds.length = 2 → C_common ds Φ → b_common (finD Φ) (startD 7 ds) := by
  rintro ds Φ hl ⟨x, y, B, rfl, sx, sy, hB, bx, by_, h⟩
  have f1 : B + 1 ≤ 1001 := Nat.add_le_add_right hB 1
  have f1' : B + 1 ≤ 3000 := Nat.le_trans f1 (by decide)
  have g2 : 2 * B ≤ 2000 := Nat.mul_le_mul_left 2 hB
  have f9 : 2 * B + 9 ≤ 2009 := Nat.add_le_add_right g2 9
  have f7 : 2 * (B + 1) + 7 = 2 * B + 9 := rfl
  have two5 : ∀ n : Nat, 2 ≤ n + 5 := fun n => Nat.le_trans (by decide) (Nat.le_add_left 5 n)
  have b01 : Bq 2 q0 := ⟨bd_lit (by decide), bd_lit (by decide), bd_lit (by decide), bd_lit (by decide)⟩
  have b11 : Bq 2 sone := ⟨bd_lit (by decide), bd_lit (by decide), bd_lit (by decide), bd_lit (by decide)⟩
  have main : ¬ (x = q0 ∧ y = q0) → b_common_1 (finD Φ) [.val (qd x), .val (qd y), .un, .un, .un, .un, .un] := fun hne => by
    refine ⟨sl_le 3 rfl (by decide), sl_le 3 rfl (by decide), ?_⟩
    show b_common_3 (finD Φ) [.val (qd x), .val (qd y), .val (tup3 x sone q0), .val (tup3 y q0 sone), .un, .un, .un]
    refine while_inv (fun ρ => ∃ (n : Nat) (s a b s' a' b' : Q4) (s4 s5 : Sl), ρ = [.val (qd x), .val (qd y), .val (tup3 s a b), .val (tup3 s' a' b'), s4, s5, .un] ∧ CmI x y B n s a b s' a' b')
      (fun ρ => match ρ with | [_, _, _, .val (.tup (.tup [.int a, .int b, .int c, .int d] :: _)), _, _, _] => (heavy ⟨a, b, c, d⟩).toNat | _ => 0) ?_ ?_
    · refine ⟨0, x, sone, q0, y, q0, sone, .un, .un, rfl, ⟨⟨sx, sone_stone, q0_stone, by rw [smul_one, smul_q0, qadd_q0]⟩, ⟨sy, q0_stone, sone_stone, by rw [smul_q0, smul_one, q0_qadd]⟩, ⟨sone, q0, sone_stone, q0_stone, by rw [smul_one, smul_q0, qadd_q0]⟩, ⟨q0, sone, q0_stone, sone_stone, by rw [smul_q0, smul_one, q0_qadd]⟩, heavy_lt sx bx, by rw [Int.pow_zero, Int.mul_one]; exact heavy_lt sy by_, b11.mono (two5 _), b01.mono (two5 _), b01.mono (two5 _), b11.mono (two5 _), fun h1 h2 => ⟨h1, h2⟩, Nat.zero_le _⟩⟩
    · rintro ρ ⟨n, s, a, b, s', a', b', s4, s5, rfl, c⟩
      refine ⟨(show 1 ≤ 100 by decide), tst (fun hc => ?_) (fun hc => ?_)⟩
      · have h0 : s' ≠ q0 := by
          have hc : (!eqD (qd s') (qd q0)) = true := hc
          rw [eqD_q] at hc
          simpa using hc
        have hn := c.steps h0
        have bs := bq_heavy c.r.ss c.hs
        have bs' := bq_heavy c.r'.ss c.small
        refine ⟨rfl, s, s', B + 1, rfl, c.r.ss, c.r'.ss, h0, f1', bs, bs', fun k r sk sr er hr hnone bk br => ?_⟩
        have bk : Bq (2 * B + 9) k := bk
        have nB : n * (2 * B + 20) + 5 ≤ 5000000 := Nat.le_trans (Nat.add_le_add_right (Nat.mul_le_mul (Nat.le_trans (Nat.le_of_lt hn) g2) (Nat.add_le_add_right g2 20)) 5) (by decide)
        subst er
        have st := c.step sx sy h0 sk bk hr
        show b_common_L1_1 (loopW _ _) [.val (qd x), .val (qd y), .val (tup3 s a b), .val (tup3 s' a' b'), .val (qd k), s5, .un]
        have c0 : (-(2 ^ 62) : Int) ≤ 3 := by decide
        have c1 : (3 : Int) < 2 ^ 62 := by decide
        have one : ∀ {p p' : Q4} (Ψ : D → Prop), Bq 5000000 p → Bq 5000000 p' → Ψ (qd (ssub p (smul p' k))) → C_stone_product [qd p', qd k] (fun d => [qd p, d, D.int 1].length = 3 ∧ C_row_less [qd p, d, .int 1] Ψ) := fun Ψ hp hp' hΨ =>
          ⟨_, k, 5000000, rfl, by decide, hp', bk.mono (Nat.le_trans f9 (by decide)), rfl, .inr ⟨_, _, 1, 10100000, rfl, by decide, by decide, hp.mono (by decide), (hp'.smul bk).mono (Nat.le_trans (Nat.add_le_add_right (Nat.add_le_add_left f9 _) 3) (by decide)), bd1 (by decide), by rw [mix_sub]; exact hΨ⟩⟩
        refine ⟨c0, c1, rfl, one _ (bs.mono (Nat.le_trans f1 (by decide))) (bs'.mono (Nat.le_trans f1 (by decide))) ⟨sl_lt 0 rfl (by decide), ?_⟩⟩
        refine ⟨rfl, one _ (c.ba.mono nB) (c.ba'.mono nB) ⟨sl_lt 1 rfl (by decide), ?_⟩⟩
        refine ⟨rfl, one _ (c.bb.mono nB) (c.bb'.mono nB) ⟨sl_lt 2 rfl (by decide), ?_⟩⟩
        refine ⟨_, ?_, rfl, n + 1, s', a', b', ssub s (smul s' k), ssub a (smul a' k), ssub b (smul b' k), _, _, rfl, st⟩
        show (heavy (ssub s (smul s' k))).toNat < (heavy s').toNat
        have := heavy_pos c.r'.ss h0
        omega
      · have h0 : s' = q0 := by
          have hc : (!eqD (qd s') (qd q0)) = false := hc
          rw [eqD_q] at hc
          simpa using hc
        subst h0
        have sne : s ≠ q0 := fun z => hne (c.ne z rfl)
        obtain ⟨u, su, ex⟩ := c.ix.one
        obtain ⟨v, sv, ey⟩ := c.iy.one
        have bs := bq_heavy c.r.ss c.hs
        show b_common_5 (finD Φ) [.val (qd x), .val (qd y), .val (tup3 s a b), .val (tup3 q0 a' b'), s4, s5, .val (qd s)]
        have big : n * (2 * B + 20) + 5 ≤ 30000000 := Nat.le_trans (Nat.add_le_add_right (Nat.mul_le_mul (Nat.le_trans c.nn g2) (Nat.add_le_add_right g2 20)) 5) (by decide)
        refine ⟨rfl, x, s, B + 1, rfl, sx, c.r.ss, sne, f1', bx.mono (Nat.le_succ B), bs, fun k r sk sr er hr hnone bk br => ?_⟩
        refine ⟨rfl, y, s, B + 1, rfl, sy, c.r.ss, sne, f1', by_.mono (Nat.le_succ B), bs, fun k' r' sk' sr' er' hr' hnone' bk' br' => ⟨sl_le 5 rfl (by decide), ?_⟩⟩
        have e1 := hnone u su ex
        have e2 := hnone' v sv ey
        subst e1 e2
        exact h s a b k k' c.r sk sk' (sub_zero er) (sub_zero er') (fun z1 z2 => absurd ⟨z1, z2⟩ hne) bs (c.ba.mono big) (c.bb.mono big) bk bk'
  unfold b_common
  refine ⟨(show 1 ≤ 100 by decide), tst (fun hx => ⟨(show 1 ≤ 100 by decide), tst (fun hy => ?_) (fun hy => ?_)⟩) (fun hx => ?_)⟩
  · have hx : eqD (qd x) (qd q0) = true := hx
    have hy : eqD (qd y) (qd q0) = true := hy
    rw [eqD_q] at hx hy
    have hx := of_decide_eq_true hx
    have hy := of_decide_eq_true hy
    subst hx hy
    exact ⟨sl_le 5 rfl (by decide), h q0 q0 q0 q0 q0 ⟨q0_stone, q0_stone, q0_stone, by rw [smul_q0]; rfl⟩ q0_stone q0_stone (by rw [smul_q0]) (by rw [smul_q0]) (fun _ _ => rfl) ((show Bq 1 q0 from ⟨bd_lit (by decide), bd_lit (by decide), bd_lit (by decide), bd_lit (by decide)⟩).mono (Nat.le_add_left 1 B)) (b01.mono (by decide)) (b01.mono (by decide)) (b01.mono (Nat.le_trans (by decide) (Nat.le_add_left 9 _))) (b01.mono (Nat.le_trans (by decide) (Nat.le_add_left 9 _)))⟩
  · have hy : eqD (qd y) (qd q0) = false := hy
    rw [eqD_q] at hy
    exact main fun z => of_decide_eq_false hy z.2
  · have hx : eqD (qd x) (qd q0) = false := hx
    rw [eqD_q] at hx
    exact main fun z => of_decide_eq_false hx z.1
theorem ok_common {P : Program} {w : World} {K : PySem.W.Frag} {mg : Str → Option Value} {base : Heap} {t : Ad} (T : Txt K mg t) : FnOk P w K mg base CX0 5 t.a_common t.d_common ["x", "y"] (spD K 2 C_common) := by
  have sc := sc_common
  refine fn_ok (k := 4) T.F_common sc_common (fun cdv A outer s H E hr => ⟨b_common, (psd_cons (psd_if (PWB.pb (pb_and (pb_cmp (o_eqS (hu3 hr)) (pd_var (pv 0)) (pd_const rfl T.m_NOUGHT T.c_NOUGHT) (nomark _)) (pb_and1 (pb_cmp (o_eqS (hu3 hr)) (pd_var (pv 1)) (pd_const rfl T.m_NOUGHT T.c_NOUGHT) (nomark _)))))
  (psd_one (psd_ret (pd_tup (pad_cons (pd_const rfl T.m_NOUGHT T.c_NOUGHT) (pad_cons (pd_const rfl T.m_NOUGHT T.c_NOUGHT) (pad_cons (pd_const rfl T.m_NOUGHT T.c_NOUGHT) (pad_cons (pd_const rfl T.m_NOUGHT T.c_NOUGHT) (pad_cons (pd_const rfl T.m_NOUGHT T.c_NOUGHT) pad_nil))))))))
  psd_nil)
  (psd_cons (psd_set (i := 2) sc.nd rfl (loc_of rfl) (pd_tup (pad_cons (pd_var (pv 0)) (pad_cons (pd_const rfl T.m_ONE T.c_ONE) (pad_cons (pd_const rfl T.m_NOUGHT T.c_NOUGHT) pad_nil)))))
  (psd_cons (psd_set (i := 3) sc.nd rfl (loc_of rfl) (pd_tup (pad_cons (pd_var (pv 1)) (pad_cons (pd_const rfl T.m_NOUGHT T.c_NOUGHT) (pad_cons (pd_const rfl T.m_ONE T.c_ONE) pad_nil)))))
  (psd_cons (psd_while PassesOwn.never (pb_cmp (o_neS (hu3 hr)) (pd_ix (pd_var (pv 3)) pd_int (fun _ _ => rfl)) (pd_const rfl T.m_NOUGHT T.c_NOUGHT) (nomark _))
  (psd_cons (psd_set (i := 4) sc.nd rfl (loc_of rfl) (pd_ix (pd_call (ok_divided T) mono_divided (hr.mono (by decide)) rfl T.m_divided T.F_divided.kp T.b_divided (pad_cons (pd_ix (pd_var (pv 2)) pd_int (fun _ _ => rfl)) (pad_cons (pd_ix (pd_var (pv 3)) pd_int (fun _ _ => rfl)) pad_nil))) pd_int (fun _ _ => rfl)))
  (psd_cons (psd_set (i := 5) sc.nd rfl (loc_of rfl) (pd_callTy b_tuple rfl T.z_tuple bt_tuple (pad_cons (pd_new (pf_comp (xs := ["place"]) (M := ["x", "y", "row", "below", "k", "rest", "s"]) (n := 1) (by rfl) rfl rfl (pid_range1 rfl T.z_range (pad_cons pd_int pad_nil)) (fun _ _ _ _ => (pgn_name (i := 0) (by decide) (show List.Nodup (["place", "x", "y", "row", "below", "k", "rest", "s"] : List Str) by decide +kernel) rfl (by first | exact Or.inl rfl | exact Or.inr rfl))) (fun _ _ _ _ => pbs_nil) (fun _ _ _ _ => (pd_call (ok_row_less T) mono_row_less (hr.mono (by decide)) rfl T.m_row_less T.F_row_less.kp T.b_row_less (pad_cons (pd_ix (pd_var (pv 3)) (pd_var (pv 0)) (fun _ _ => rfl)) (pad_cons (pd_call (ok_stone_product T) mono_stone_product (hr.mono (by decide)) rfl T.m_stone_product T.F_stone_product.kp T.b_stone_product (pad_cons (pd_ix (pd_var (pv 4)) (pd_var (pv 0)) (fun _ _ => rfl)) (pad_cons (pd_var (pv 5)) pad_nil))) (pad_cons pd_int pad_nil))))))) pad_nil)))
  (psd_cons (psd_set (i := 2) sc.nd rfl (loc_of rfl) (pd_var (pv 3)))
  (psd_one (psd_set (i := 3) sc.nd rfl (loc_of rfl) (pd_var (pv 5))))))))
  (psd_cons (psd_set (i := 6) sc.nd rfl (loc_of rfl) (pd_ix (pd_var (pv 2)) pd_int (fun _ _ => rfl)))
  (psd_one (psd_ret (pd_tup (pad_cons (pd_var (pv 6)) (pad_cons (pd_ix (pd_var (pv 2)) pd_int (fun _ _ => rfl)) (pad_cons (pd_ix (pd_var (pv 2)) pd_int (fun _ _ => rfl)) (pad_cons (pd_ix (pd_call (ok_divided T) mono_divided (hr.mono (by decide)) rfl T.m_divided T.F_divided.kp T.b_divided (pad_cons (pd_var (pv 0)) (pad_cons (pd_var (pv 6)) pad_nil))) pd_int (fun _ _ => rfl)) (pad_cons (pd_ix (pd_call (ok_divided T) mono_divided (hr.mono (by decide)) rfl T.m_divided T.F_divided.kp T.b_divided (pad_cons (pd_var (pv 1)) (pad_cons (pd_var (pv 6)) pad_nil))) pd_int (fun _ _ => rfl)) pad_nil))))))))))))), rd_common⟩)
noncomputable def C_turn_of_dial : Con := fun ds Φ => ∃ (w : P3) (m : Int) (k : Nat), ds = [.tup [pt w, .int m]] ∧ 0 < m ∧ m % 2 = 1 ∧ gcdL [w.x, w.y, w.z, m] = 1 ∧ m ∣ dot w w ∧ k ≤ 900 ∧ Bp k w ∧ Bd k m ∧ ∀ s : Q4, s ≠ q0 → Bq (k + 3) s → (turnT s).n = m → IsDial (turnT s) w → Φ (tb (turnT s))
theorem mono_turn_of_dial : Mono C_turn_of_dial := fun ds Φ Ψ mo h0 => by
  obtain ⟨w, m, k, a, b, c, d, e, f, g, i, h⟩ := h0
  exact ⟨w, m, k, a, b, c, d, e, f, g, i, fun s h1 h2 h3 h4 => mo _ (h s h1 h2 h3 h4)⟩
noncomputable def b_turn_of_dial_3 : S3 :=
  (sRet (dCall 1 C_turn_of (aCons (dOp dIx (dCall 2 C_common (aCons (dTup (aCons (dOp (dI IntMulOk fun i j => .int (i * j)) (dC (.int 2)) (dVar 2)) (aCons (dC (.int 0)) (aCons (dC (.int 0)) (aCons (dC (.int 0)) aNil))))) (aCons (dTup (aCons (dC (.int 0)) (aCons (dOp (dI IntMulOk fun i j => .int (i * j)) (dC (.int 2)) (dOp dIx (dVar 1) (dC (.int 0)))) (aCons (dOp (dI IntMulOk fun i j => .int (i * j)) (dC (.int 2)) (dOp dIx (dVar 1) (dC (.int 1)))) (aCons (dOp (dI IntMulOk fun i j => .int (i * j)) (dC (.int 2)) (dOp dIx (dVar 1) (dC (.int 2)))) aNil))))) aNil))) (dC (.int 0))) aNil)))
noncomputable def b_turn_of_dial_2 : S3 :=
  (sSeq (sIf (bNot (dT (dCall 1 C_has_turn (aCons (dVar 0) aNil))))
  sNever
  sNext)
  b_turn_of_dial_3)
noncomputable def b_turn_of_dial_1 : S3 :=
  (sSeq (sSet 2 (dOp dIx (dVar 0) (dC (.int 1))))
  b_turn_of_dial_2)
noncomputable abbrev b_turn_of_dial : S3 :=
  (sSeq (sSet 1 (dOp dIx (dVar 0) (dC (.int 0))))
  b_turn_of_dial_1)
theorem rd_turn_of_dial : ∀ (ds : List D) (Φ : D → Prop), ds.length = 1 → C_turn_of_dial ds Φ → b_turn_of_dial (finD Φ) (startD 3 ds) := by
  rintro ds Φ hl ⟨w, m, k, rfl, m0, odd, one, sq, hk, bw, bm, h⟩
  have mz : m ≠ 0 := by omega
  show b_turn_of_dial_2 (finD Φ) [.val (.tup [pt w, .int m]), .val (pt w), .val (.int m)]
  unfold b_turn_of_dial_2
  refine ⟨rfl, w, m, k, rfl, m0, hk, bw, bm, ?_⟩
  refine tF (by rw [decide_eq_true (show HasT w m from ⟨odd, one, sq⟩)]; rfl) ?_
  have m2 : ∀ {x : Int}, IntMulOk 2 x := IntMulOk.of_left (by decide)
  have z : Bd (k + 2) (2 * 0 : Int) := by
    have : Bd 1 (2 * 0 : Int) := bd_lit (by decide)
    exact this.mono (by omega)
  show b_turn_of_dial_3 (finD Φ) [.val (.tup [pt w, .int m]), .val (pt w), .val (.int m)]
  refine ⟨m2, sl_le 4 rfl (by decide), m2, m2, m2, sl_le 4 rfl (by decide), ?_⟩
  refine ⟨rfl, dbl (num m), dbl (pure3 w), k + 2, rfl, dbl_stone _, dbl_stone _, by omega, ⟨bd_two bm, z, z, z⟩, ⟨z, bd_two bw.x, bd_two bw.y, bd_two bw.z⟩, fun s a b u v r su sv ex ey _ bs _ _ _ _ => ?_⟩
  obtain ⟨s0, hn, dl⟩ := dial_turn m0 odd one sq r su sv ex ey
  exact ⟨rfl, s, k + 3, rfl, s0, by omega, bs, h s s0 bs hn dl⟩
theorem ok_turn_of_dial {P : Program} {w : World} {K : PySem.W.Frag} {mg : Str → Option Value} {base : Heap} {t : Ad} (T : Txt K mg t) : FnOk P w K mg base CX0 6 t.a_turn_of_dial t.d_turn_of_dial ["dial"] (spD K 1 C_turn_of_dial) := by
  have sc := sc_turn_of_dial
  refine fn_ok (k := 5) T.F_turn_of_dial sc_turn_of_dial (fun cdv A outer s H E hr => ⟨b_turn_of_dial, (psd_cons (psd_set (i := 1) sc.nd rfl (loc_of rfl) (pd_ix (pd_var (pv 0)) pd_int (fun _ _ => rfl)))
  (psd_cons (psd_set (i := 2) sc.nd rfl (loc_of rfl) (pd_ix (pd_var (pv 0)) pd_int (fun _ _ => rfl)))
  (psd_cons (psd_if (pb_not (pb_val (pd_call (ok_has_turn T) mono_has_turn (hr.mono (by decide)) rfl T.m_has_turn T.F_has_turn.kp T.b_has_turn (pad_cons (pd_var (pv 0)) pad_nil))))
  (psd_one psd_never)
  psd_nil)
  (psd_one (psd_ret (pd_call (ok_turn_of T) mono_turn_of (hr.mono (by decide)) rfl T.m_turn_of T.F_turn_of.kp T.b_turn_of (pad_cons (pd_ix (pd_call (ok_common T) mono_common (hr.mono (by decide)) rfl T.m_common T.F_common.kp T.b_common (pad_cons (pd_tup (pad_cons (pd_op o_mul pd_int (pd_var (pv 2))) (pad_cons pd_int (pad_cons pd_int (pad_cons pd_int pad_nil))))) (pad_cons (pd_tup (pad_cons pd_int (pad_cons (pd_op o_mul pd_int (pd_ix (pd_var (pv 1)) pd_int (fun _ _ => rfl))) (pad_cons (pd_op o_mul pd_int (pd_ix (pd_var (pv 1)) pd_int (fun _ _ => rfl))) (pad_cons (pd_op o_mul pd_int (pd_ix (pd_var (pv 1)) pd_int (fun _ _ => rfl))) pad_nil))))) pad_nil))) pd_int (fun _ _ => rfl)) pad_nil))))))), rd_turn_of_dial⟩)
noncomputable def C_makings : Con := fun ds Φ => ∃ (x y : Int), ds = [.int x, .int y] ∧ Bd 4000 x ∧ Bd 4000 y ∧ ∀ a b : Int, a * x + b * y = (Int.gcd x y : Int) → Bd 4010 a → Bd 4010 b → Φ (.tup [.int (Int.gcd x y : Int), .int a, .int b])
theorem mono_makings : Mono C_makings := fun ds Φ Ψ mo h0 => by
  obtain ⟨x, y, a, b, c, h⟩ := h0
  exact ⟨x, y, a, b, c, fun s t h1 h2 h3 => mo _ (h s t h1 h2 h3)⟩
structure MkI (x y r' a' b' r a b : Int) : Prop where
  e' : a' * x + b' * y = r'
  e : a * x + b * y = r
  g : Int.gcd r' r = Int.gcd x y
  br' : Bd 4000 r'
  br : Bd 4000 r
  ba' : Bd 4010 a'
  bb' : Bd 4010 b'
  ba : Bd 4010 a
  bb : Bd 4010 b
  p : (a' = 1 ∧ b' = 0 ∧ a = 0 ∧ b = 1 ∧ r' = x ∧ r = y) ∨ (Pot (x.natAbs + 4 * y.natAbs) a' r' a r ∧ Pot (x.natAbs + 4 * y.natAbs) b' r' b r)
theorem pow4003 : (2 : Nat) ^ 4003 = 8 * 2 ^ 4000 := by
  have := Nat.pow_add 2 4000 3
  omega
theorem bd_C {x y c : Int} (hx : Bd 4000 x) (hy : Bd 4000 y) (h : (c.natAbs : Int) ≤ x.natAbs + 4 * y.natAbs) : Bd 4010 c := by
  have : Bd 4003 c := by
    unfold Bd at *
    rw [pow4003]
    generalize 2 ^ 4000 = m at *
    omega
  exact this.mono (by decide)
theorem bd_fdiv {k : Nat} {r' r : Int} (h : Bd k r') (_ : r ≠ 0) : Bd (k + 1) (r'.fdiv r) := by
  unfold Bd at *
  have h1 := Int.natAbs_ediv_le_natAbs r' r
  rw [Int.fdiv_eq_ediv, Nat.pow_succ]
  generalize r' / r = q at *
  generalize 2 ^ k = m at *
  split <;> omega
theorem bd_fmod {k : Nat} {r' r : Int} (h : Bd k r) (hr : r ≠ 0) : Bd k (r'.fmod r) := Nat.lt_trans (fmod_lt hr) h
theorem mk_sub (a q b : Int) : 1 * a + -q * b = a - q * b := by rw [Int.one_mul, Int.neg_mul, Int.sub_eq_add_neg]
theorem mk_fmod (a r : Int) : 1 * a + -(a.fdiv r) * r = a.fmod r := by rw [mk_sub, fmod_def, Int.mul_comm r]
theorem MkI.step {x y r' a' b' r a b : Int} (hx : Bd 4000 x) (hy : Bd 4000 y) (m : MkI x y r' a' b' r a b) (hr : r ≠ 0) : MkI x y r a b (1 * r' + -(r'.fdiv r) * r) (1 * a' + -(r'.fdiv r) * a) (1 * b' + -(r'.fdiv r) * b) := by
  have er := mk_fmod r' r
  have ea := mk_sub a' (r'.fdiv r) a
  have eb := mk_sub b' (r'.fdiv r) b
  have pp : Pot (x.natAbs + 4 * y.natAbs) a r (a' - r'.fdiv r * a) (r'.fmod r) ∧ Pot (x.natAbs + 4 * y.natAbs) b r (b' - r'.fdiv r * b) (r'.fmod r) := by
    rcases m.p with ⟨rfl, rfl, rfl, rfl, rfl, rfl⟩ | ⟨h1, h2⟩
    · exact ⟨Pot.first hr (by decide) (by decide), Pot.first hr (by decide) (by decide)⟩
    · exact ⟨h1.step hr, h2.step hr⟩
  rw [er, ea, eb]
  refine ⟨m.e, ?_, ?_, m.br, bd_fmod m.br hr, m.ba, m.bb, bd_C hx hy (pp.1.a hr), bd_C hx hy (pp.2.a hr), .inr pp⟩
  · rw [fmod_def, ← m.e', ← m.e]; grind
  · rw [gcd_step, m.g]
noncomputable def b_makings_L1_2 : S3 :=
  (sSet 3 (dVar 4))
noncomputable def b_makings_L1_1 : S3 :=
  (sSeq (sSet 2 (dVar 3))
  b_makings_L1_2)
noncomputable abbrev b_makings_L1 : S3 :=
  (sSeq (sSet 4 (dCall 3 C_row_less (aCons (dVar 2) (aCons (dVar 3) (aCons (dOp (dI CD fun i j => .int (i.fdiv j)) (dOp dIx (dVar 2) (dC (.int 0))) (dOp dIx (dVar 3) (dC (.int 0)))) aNil)))))
  b_makings_L1_1)
noncomputable def b_makings_4 : S3 :=
  (sRet (dVar 2))
noncomputable def b_makings_3 : S3 :=
  (sSeq (sIf (dT (dOp (dI0 fun i j => .bl (decide (i < j))) (dOp dIx (dVar 2) (dC (.int 0))) (dC (.int 0))))
  (sRet (dTup (aCons (dU dNeg (dOp dIx (dVar 2) (dC (.int 0)))) (aCons (dU dNeg (dOp dIx (dVar 2) (dC (.int 1)))) (aCons (dU dNeg (dOp dIx (dVar 2) (dC (.int 2)))) aNil)))))
  sNext)
  b_makings_4)
noncomputable def b_makings_2 : S3 :=
  (sSeq (sWhile (dT (dOp dNe (dOp dIx (dVar 3) (dC (.int 0))) (dC (.int 0))))
  b_makings_L1)
  b_makings_3)
noncomputable def b_makings_1 : S3 :=
  (sSeq (sSet 3 (dTup (aCons (dVar 1) (aCons (dC (.int 0)) (aCons (dC (.int 1)) aNil)))))
  b_makings_2)
noncomputable abbrev b_makings : S3 :=
  (sSeq (sSet 2 (dTup (aCons (dVar 0) (aCons (dC (.int 1)) (aCons (dC (.int 0)) aNil)))))
  b_makings_1)
theorem rd_makings : ∀ (ds : List D) (Φ : D → Prop), ds.length = 2 → C_makings ds Φ → b_makings (finD Φ) (startD 5 ds) := by
  rintro ds Φ hl ⟨x, y, rfl, hx, hy, h⟩
  refine ⟨sl_le 3 rfl (by decide), sl_le 3 rfl (by decide), ?_⟩
  refine while_inv (fun ρ => ∃ (r' a' b' r a b : Int) (s : Sl), ρ = [.val (.int x), .val (.int y), .val (pt ⟨r', a', b'⟩), .val (pt ⟨r, a, b⟩), s] ∧ MkI x y r' a' b' r a b)
    (fun ρ => match ρ with | [_, _, _, .val (.tup (.int r :: _)), _] => r.natAbs | _ => 0) ?_ ?_
  · exact ⟨x, 1, 0, y, 0, 1, .un, rfl, ⟨by rw [Int.one_mul, Int.zero_mul, Int.add_zero], by rw [Int.zero_mul, Int.one_mul, Int.zero_add], rfl, hx, hy, bd_lit (by decide), bd_lit (by decide), bd_lit (by decide), bd_lit (by decide), .inl ⟨rfl, rfl, rfl, rfl, rfl, rfl⟩⟩⟩
  · rintro ρ ⟨r', a', b', r, a, b, s, rfl, m⟩
    refine tst (fun hc => ?_) (fun hc => ?_)
    · have hr : r ≠ 0 := by
        intro z; subst z; simp at hc
      have hq := bd_fdiv m.br' hr
      refine ⟨cd_of hr m.br (by decide), rfl, .inl ⟨⟨r', a', b'⟩, ⟨r, a, b⟩, r'.fdiv r, 4010, rfl, by decide, by decide, ⟨m.br'.mono (by decide), m.ba', m.bb'⟩, ⟨m.br.mono (by decide), m.ba, m.bb⟩, hq.mono (by decide), ?_⟩⟩
      refine ⟨_, ?_, rfl, r, a, b, _, _, _, _, rfl, m.step hx hy hr⟩
      show (1 * r' + -(r'.fdiv r) * r).natAbs < r.natAbs
      rw [mk_fmod]
      exact fmod_lt hr
    · have hr : r = 0 := by
        have : (!decide (r = 0)) = false := hc
        simpa using this
      subst hr
      have hg : (Int.gcd x y : Int) = r'.natAbs := by rw [← m.g]; simp
      refine tst (fun h0 => ?_) (fun h0 => ?_)
      · have h0 : r' < 0 := of_decide_eq_true h0
        refine ⟨sl_le 3 rfl (by decide), ?_⟩
        have e : (Int.gcd x y : Int) = -r' := hg.trans (Int.ofNat_natAbs_of_nonpos (Int.le_of_lt h0))
        have := h (-a') (-b') (by rw [e, ← m.e']; grind) m.ba'.neg m.bb'.neg
        rw [e] at this
        exact this
      · have h0 : ¬ r' < 0 := of_decide_eq_false h0
        have e : (Int.gcd x y : Int) = r' := hg.trans (Int.natAbs_of_nonneg (Int.not_lt.mp h0))
        have := h a' b' (by rw [e, ← m.e']) m.ba' m.bb'
        rw [e] at this
        exact this
theorem ok_makings {P : Program} {w : World} {K : PySem.W.Frag} {mg : Str → Option Value} {base : Heap} {t : Ad} (T : Txt K mg t) : FnOk P w K mg base CX0 3 t.a_makings t.d_makings ["one", "other"] (spD K 2 C_makings) := by
  have sc := sc_makings
  refine fn_ok (k := 2) T.F_makings sc_makings (fun cdv A outer s H E hr => ⟨b_makings, (psd_cons (psd_set (i := 2) sc.nd rfl (loc_of rfl) (pd_tup (pad_cons (pd_var (pv 0)) (pad_cons pd_int (pad_cons pd_int pad_nil)))))
  (psd_cons (psd_set (i := 3) sc.nd rfl (loc_of rfl) (pd_tup (pad_cons (pd_var (pv 1)) (pad_cons pd_int (pad_cons pd_int pad_nil)))))
  (psd_cons (psd_while PassesOwn.never (pb_cmp o_ne (pd_ix (pd_var (pv 3)) pd_int (fun _ _ => rfl)) pd_int (nomark _))
  (psd_cons (psd_set (i := 4) sc.nd rfl (loc_of rfl) (pd_call (ok_row_less T) mono_row_less (hr.mono (by decide)) rfl T.m_row_less T.F_row_less.kp T.b_row_less (pad_cons (pd_var (pv 2)) (pad_cons (pd_var (pv 3)) (pad_cons (pd_op o_fdiv (pd_ix (pd_var (pv 2)) pd_int (fun _ _ => rfl)) (pd_ix (pd_var (pv 3)) pd_int (fun _ _ => rfl))) pad_nil)))))
  (psd_cons (psd_set (i := 2) sc.nd rfl (loc_of rfl) (pd_var (pv 3)))
  (psd_one (psd_set (i := 3) sc.nd rfl (loc_of rfl) (pd_var (pv 4)))))))
  (psd_cons (psd_if (pb_cmp o_lt (pd_ix (pd_var (pv 2)) pd_int (fun _ _ => rfl)) pd_int (nomark _))
  (psd_one (psd_ret (pd_tup (pad_cons (pd_neg (pd_ix (pd_var (pv 2)) pd_int (fun _ _ => rfl))) (pad_cons (pd_neg (pd_ix (pd_var (pv 2)) pd_int (fun _ _ => rfl))) (pad_cons (pd_neg (pd_ix (pd_var (pv 2)) pd_int (fun _ _ => rfl))) pad_nil))))))
  psd_nil)
  (psd_one (psd_ret (pd_var (pv 2)))))))), rd_makings⟩)
noncomputable def C_dial_stair : Con := fun ds Φ => ∃ (w : P3) (m : Int) (k : Nat), ds = [.tup [pt w, .int m]] ∧ 0 < m ∧ k ≤ 4000 ∧ Bp k w ∧ Bd k m ∧ gcdL [w.x, w.y, w.z, m] = 1 ∧ ∀ s, DS w m s → Φ (stD s)
theorem mono_dial_stair : Mono C_dial_stair := fun ds Φ Ψ mo h0 => by
  obtain ⟨w, m, k, a, b, c, d, e, f, h⟩ := h0
  exact ⟨w, m, k, a, b, c, d, e, f, fun s hs => mo _ (h s hs)⟩
noncomputable def b_dial_stair_10 : S3 :=
  (sRet (dF (fLst (aCons (dTup (aCons (dVar 5) (aCons (dVar 8) (aCons (dVar 9) aNil)))) (aCons (dTup (aCons (dC (.int 0)) (aCons (dVar 6) (aCons (dVar 10) aNil)))) (aCons (dTup (aCons (dC (.int 0)) (aCons (dC (.int 0)) (aCons (dVar 7) aNil)))) aNil))))))
noncomputable def b_dial_stair_9 : S3 :=
  (sSeq (sSet 10 (dOp (dI (fun _ j => j ≠ 0) fun i j => .int (i.fmod j)) (dOp (dI IntMulOk fun i j => .int (i * j)) (dU dNeg (dOp (dI CD fun i j => .int (i.fdiv j)) (dOp (dI IntMulOk fun i j => .int (i * j)) (dOp dIx (dVar 1) (dC (.int 1))) (dVar 6)) (dOp dIx (dVar 3) (dC (.int 0))))) (dOp dIx (dVar 3) (dC (.int 1)))) (dVar 7)))
  b_dial_stair_10)
noncomputable def b_dial_stair_8 : S3 :=
  (sSeq (sSet 9 (dOp (dI (fun _ j => j ≠ 0) fun i j => .int (i.fmod j)) (dOp (dI IntMulOk fun i j => .int (i * j)) (dU dNeg (dOp (dI CD fun i j => .int (i.fdiv j)) (dOp (dI0 fun i j => .int (i + j)) (dOp (dI IntMulOk fun i j => .int (i * j)) (dOp dIx (dVar 1) (dC (.int 0))) (dVar 5)) (dOp (dI IntMulOk fun i j => .int (i * j)) (dOp dIx (dVar 1) (dC (.int 1))) (dVar 8))) (dOp dIx (dVar 3) (dC (.int 0))))) (dOp dIx (dVar 3) (dC (.int 1)))) (dVar 7)))
  b_dial_stair_9)
noncomputable def b_dial_stair_7 : S3 :=
  (sSeq (sSet 8 (dOp (dI (fun _ j => j ≠ 0) fun i j => .int (i.fmod j)) (dOp (dI IntMulOk fun i j => .int (i * j)) (dU dNeg (dOp dIx (dVar 1) (dC (.int 0)))) (dOp dIx (dVar 4) (dC (.int 1)))) (dVar 6)))
  b_dial_stair_8)
noncomputable def b_dial_stair_6 : S3 :=
  (sSeq (sSet 7 (dOp (dI CD fun i j => .int (i.fdiv j)) (dVar 2) (dOp dIx (dVar 3) (dC (.int 0)))))
  b_dial_stair_7)
noncomputable def b_dial_stair_5 : S3 :=
  (sSeq (sSet 6 (dOp (dI CD fun i j => .int (i.fdiv j)) (dOp dIx (dVar 3) (dC (.int 0))) (dOp dIx (dVar 4) (dC (.int 0)))))
  b_dial_stair_6)
noncomputable def b_dial_stair_4 : S3 :=
  (sSeq (sSet 5 (dOp dIx (dVar 4) (dC (.int 0))))
  b_dial_stair_5)
noncomputable def b_dial_stair_3 : S3 :=
  (sSeq (sSet 4 (dCall 2 C_makings (aCons (dOp dIx (dVar 1) (dC (.int 1))) (aCons (dOp dIx (dVar 3) (dC (.int 0))) aNil))))
  b_dial_stair_4)
noncomputable def b_dial_stair_2 : S3 :=
  (sSeq (sSet 3 (dCall 2 C_makings (aCons (dOp dIx (dVar 1) (dC (.int 2))) (aCons (dVar 2) aNil))))
  b_dial_stair_3)
noncomputable def b_dial_stair_1 : S3 :=
  (sSeq (sSet 2 (dOp dIx (dVar 0) (dC (.int 1))))
  b_dial_stair_2)
noncomputable abbrev b_dial_stair : S3 :=
  (sSeq (sSet 1 (dOp dIx (dVar 0) (dC (.int 0))))
  b_dial_stair_1)
theorem rd_dial_stair : ∀ (ds : List D) (Φ : D → Prop), ds.length = 1 → C_dial_stair ds Φ → b_dial_stair (finD Φ) (startD 11 ds) := by
  rintro ds Φ hl ⟨w, m, k, rfl, m0, hk, bw, bm, one, h⟩
  refine ⟨rfl, w.z, m, rfl, bw.z.mono hk, bm.mono hk, fun s t eg bs bt => ?_⟩
  have gz : (Int.gcd w.z m : Int) ∣ w.z := Int.gcd_dvd_left ..
  have gm : (Int.gcd w.z m : Int) ∣ m := Int.gcd_dvd_right ..
  have gpos : ∀ {a b : Int}, 0 < b → 0 < (Int.gcd a b : Int) := fun h => Int.natCast_pos.mpr (Int.gcd_pos_of_ne_zero_right _ (Int.ne_of_gt h))
  have g0 : 0 < (Int.gcd w.z m : Int) := gpos m0
  show b_dial_stair_3 (finD Φ) [.val (.tup [pt w, .int m]), .val (pt w), .val (.int m), .val (.tup [.int (Int.gcd w.z m : Int), .int s, .int t]), .un, .un, .un, .un, .un, .un, .un]
  have bg : Bd k (Int.gcd w.z m : Int) := Nat.lt_of_le_of_lt (abs_dvd m0 gm) bm
  generalize (Int.gcd w.z m : Int) = g at *
  refine ⟨rfl, w.y, g, rfl, bw.y.mono hk, bg.mono hk, fun u v eh bu bv => ?_⟩
  have hy : (Int.gcd w.y g : Int) ∣ w.y := Int.gcd_dvd_left ..
  have hg : (Int.gcd w.y g : Int) ∣ g := Int.gcd_dvd_right ..
  have h0 : 0 < (Int.gcd w.y g : Int) := gpos g0
  have bh : Bd k (Int.gcd w.y g : Int) := Nat.lt_of_le_of_lt (abs_dvd g0 hg) bg
  show b_dial_stair_4 (finD Φ) [.val (.tup [pt w, .int m]), .val (pt w), .val (.int m), .val (.tup [.int g, .int s, .int t]), .val (.tup [.int (Int.gcd w.y g : Int), .int u, .int v]), .un, .un, .un, .un, .un, .un]
  generalize (Int.gcd w.y g : Int) = e at *
  have dsf := ds_of m0 one eg gz gm g0 eh hy hg h0
  obtain ⟨⟨_, d0, f0, b0, b1, _, _, _, _⟩, _⟩ := id dsf
  have gz0 : g ≠ 0 := Int.ne_of_gt g0
  have ez0 : e ≠ 0 := Int.ne_of_gt h0
  have dz : g.fdiv e ≠ 0 := Int.ne_of_gt d0
  have fz : m.fdiv g ≠ 0 := Int.ne_of_gt f0
  have k1 : k + 1 ≤ 4001 := Nat.add_le_add_right hk 1
  have bd : Bd (k + 1) (g.fdiv e) := bd_fdiv bg ez0
  have bb : Bd (k + 1) ((-w.x * u).fmod (g.fdiv e)) := Nat.lt_of_le_of_lt (abs_le b0 (Int.le_of_lt b1)) bd
  have kk : k + (k + 1) ≤ 134217728 := Nat.le_trans (Nat.add_le_add hk k1) (by decide)
  have b9 : ∀ {x : Int}, Bd (2 * k + 3) x → Bd 4010 s → IntMulOk (-(x.fdiv g)) s := fun hx hs => mulOk ((bd_fdiv hx gz0).neg) hs (Nat.le_trans (Nat.add_le_add_right (Nat.add_le_add_right (Nat.add_le_add_right (Nat.mul_le_mul_left 2 hk) 3) 1) 4010) (by decide))
  have m1 : IntMulOk (-w.x) u := mulOk bw.x.neg bu (Nat.le_trans (Nat.add_le_add_right hk 4010) (by decide))
  have m2 : IntMulOk w.x e := mulOk bw.x bh (Nat.le_trans (Nat.add_le_add hk hk) (by decide))
  have m3 : IntMulOk w.y ((-w.x * u).fmod (g.fdiv e)) := mulOk bw.y bb kk
  have m4 : IntMulOk w.y (g.fdiv e) := mulOk bw.y bd kk
  have kk2 : k + (k + 1) = 2 * k + 1 := by rw [Nat.two_mul, Nat.add_assoc]
  have p4 : Bd (2 * k + 3) (w.y * g.fdiv e) := (bw.y.mul bd).mono (Nat.le_trans (Nat.le_of_eq kk2) (Nat.le_add_right _ 2))
  have p3 : Bd (2 * k + 3) (w.x * e + w.y * (-w.x * u).fmod (g.fdiv e)) := (((bw.x.mul bh).mono (show k + k ≤ 2 * k + 1 from Nat.le_trans (Nat.le_of_eq (Nat.two_mul k).symm) (Nat.le_succ _))).add ((bw.y.mul bb).mono (Nat.le_of_eq kk2))).mono (by rw [Nat.max_self]; exact Nat.le_succ _)
  have k9 : k ≤ 9000 := Nat.le_trans hk (by decide)
  have cg : ∀ x : Int, CD x g := fun x => cd_of gz0 bg k9
  have ce : ∀ x : Int, CD x e := fun x => cd_of ez0 bh k9
  have n1 := b9 p3 bs
  have n2 := b9 p4 bs
  have hh := h _ dsf
  refine ⟨ce _, cg _, m1, dz, ?_⟩
  show b_dial_stair_8 (finD Φ) [.val (.tup [pt w, .int m]), .val (pt w), .val (.int m), .val (.tup [.int g, .int s, .int t]), .val (.tup [.int e, .int u, .int v]), .val (.int e), .val (.int (g.fdiv e)), .val (.int (m.fdiv g)), .val (.int ((-w.x * u).fmod (g.fdiv e))), .un, .un]
  refine ⟨m2, m3, cg _, n1, fz, ?_⟩
  show b_dial_stair_9 (finD Φ) [.val (.tup [pt w, .int m]), .val (pt w), .val (.int m), .val (.tup [.int g, .int s, .int t]), .val (.tup [.int e, .int u, .int v]), .val (.int e), .val (.int (g.fdiv e)), .val (.int (m.fdiv g)), .val (.int ((-w.x * u).fmod (g.fdiv e))), .val (.int ((-((w.x * e + w.y * (-w.x * u).fmod (g.fdiv e)).fdiv g) * s).fmod (m.fdiv g))), .un]
  refine ⟨m4, cg _, n2, fz, ?_⟩
  exact ⟨sl_le 3 rfl (by decide), sl_le 3 rfl (by decide), sl_le 3 rfl (by decide), sl_le 3 rfl (by decide), hh⟩
theorem ok_dial_stair {P : Program} {w : World} {K : PySem.W.Frag} {mg : Str → Option Value} {base : Heap} {t : Ad} (T : Txt K mg t) : FnOk P w K mg base CX0 4 t.a_dial_stair t.d_dial_stair ["dial"] (spD K 1 C_dial_stair) := by
  have sc := sc_dial_stair
  refine fn_ok (k := 3) T.F_dial_stair sc_dial_stair (fun cdv A outer s H E hr => ⟨b_dial_stair, (psd_cons (psd_set (i := 1) sc.nd rfl (loc_of rfl) (pd_ix (pd_var (pv 0)) pd_int (fun _ _ => rfl)))
  (psd_cons (psd_set (i := 2) sc.nd rfl (loc_of rfl) (pd_ix (pd_var (pv 0)) pd_int (fun _ _ => rfl)))
  (psd_cons (psd_set (i := 3) sc.nd rfl (loc_of rfl) (pd_call (ok_makings T) mono_makings (hr.mono (by decide)) rfl T.m_makings T.F_makings.kp T.b_makings (pad_cons (pd_ix (pd_var (pv 1)) pd_int (fun _ _ => rfl)) (pad_cons (pd_var (pv 2)) pad_nil))))
  (psd_cons (psd_set (i := 4) sc.nd rfl (loc_of rfl) (pd_call (ok_makings T) mono_makings (hr.mono (by decide)) rfl T.m_makings T.F_makings.kp T.b_makings (pad_cons (pd_ix (pd_var (pv 1)) pd_int (fun _ _ => rfl)) (pad_cons (pd_ix (pd_var (pv 3)) pd_int (fun _ _ => rfl)) pad_nil))))
  (psd_cons (psd_set (i := 5) sc.nd rfl (loc_of rfl) (pd_ix (pd_var (pv 4)) pd_int (fun _ _ => rfl)))
  (psd_cons (psd_set (i := 6) sc.nd rfl (loc_of rfl) (pd_op o_fdiv (pd_ix (pd_var (pv 3)) pd_int (fun _ _ => rfl)) (pd_ix (pd_var (pv 4)) pd_int (fun _ _ => rfl))))
  (psd_cons (psd_set (i := 7) sc.nd rfl (loc_of rfl) (pd_op o_fdiv (pd_var (pv 2)) (pd_ix (pd_var (pv 3)) pd_int (fun _ _ => rfl))))
  (psd_cons (psd_set (i := 8) sc.nd rfl (loc_of rfl) (pd_op o_mod (pd_op o_mul (pd_neg (pd_ix (pd_var (pv 1)) pd_int (fun _ _ => rfl))) (pd_ix (pd_var (pv 4)) pd_int (fun _ _ => rfl))) (pd_var (pv 6))))
  (psd_cons (psd_set (i := 9) sc.nd rfl (loc_of rfl) (pd_op o_mod (pd_op o_mul (pd_neg (pd_op o_fdiv (pd_op o_add (pd_op o_mul (pd_ix (pd_var (pv 1)) pd_int (fun _ _ => rfl)) (pd_var (pv 5))) (pd_op o_mul (pd_ix (pd_var (pv 1)) pd_int (fun _ _ => rfl)) (pd_var (pv 8)))) (pd_ix (pd_var (pv 3)) pd_int (fun _ _ => rfl)))) (pd_ix (pd_var (pv 3)) pd_int (fun _ _ => rfl))) (pd_var (pv 7))))
  (psd_cons (psd_set (i := 10) sc.nd rfl (loc_of rfl) (pd_op o_mod (pd_op o_mul (pd_neg (pd_op o_fdiv (pd_op o_mul (pd_ix (pd_var (pv 1)) pd_int (fun _ _ => rfl)) (pd_var (pv 6))) (pd_ix (pd_var (pv 3)) pd_int (fun _ _ => rfl)))) (pd_ix (pd_var (pv 3)) pd_int (fun _ _ => rfl))) (pd_var (pv 7))))
  (psd_one (psd_ret (pd_new (pf_lst (pad_cons (pd_tup (pad_cons (pd_var (pv 5)) (pad_cons (pd_var (pv 8)) (pad_cons (pd_var (pv 9)) pad_nil)))) (pad_cons (pd_tup (pad_cons pd_int (pad_cons (pd_var (pv 6)) (pad_cons (pd_var (pv 10)) pad_nil)))) (pad_cons (pd_tup (pad_cons pd_int (pad_cons pd_int (pad_cons (pd_var (pv 7)) pad_nil)))) pad_nil))))))))))))))))), rd_dial_stair⟩)
noncomputable def C_shared_grids : Con := fun ds Φ => ∃ k : Nat, ds = [.int (1 + 2 * (k : Int))] ∧ k < 32 ∧ ∀ rows : List (S6 × T9), (rows.map Prod.fst).Perm ((keysC (1 + 2 * (k : Int))).map Prod.fst) → Φ (.lst (rows.map rowD))
theorem mono_shared_grids : Mono C_shared_grids := fun ds Φ Ψ mo h0 => by
  obtain ⟨k, a, b, h⟩ := h0
  exact ⟨k, a, b, fun rows h1 => mo _ (h rows h1)⟩
noncomputable abbrev b_shared_grids_L1 : S3 :=
  (sIf (dT (dCall 1 C_has_turn (aCons (dTup (aCons (dVar 2) (aCons (dVar 0) aNil))) aNil)))
  (sSetDef 1 (dB cTuple (aCons (dCall 1 C_dial_stair (aCons (dTup (aCons (dVar 2) (aCons (dVar 0) aNil))) aNil)) aNil)) (dVar 2))
  sNext)
noncomputable def b_shared_grids_2 : S3 :=
  (sRet (dF (fComp 1 (iLT (dF (fSortU 1))) (gN 0) (fun _ Φ => Φ true) (dTup (aCons (dF (fList (dVar 0))) (aCons (dCall 1 C_turn_of_dial (aCons (dTup (aCons (dDIxT 2 (dVar 0)) (aCons (dVar 1) aNil))) aNil)) aNil))))))
noncomputable def b_shared_grids_1 : S3 :=
  (sSeq (sFor (iLT (dCall 1 C_rows_to_ask (aCons (dVar 0) aNil))) (gN 2)
  b_shared_grids_L1)
  b_shared_grids_2)
noncomputable abbrev b_shared_grids : S3 :=
  (sSeq (sDNewT 1)
  b_shared_grids_1)
theorem rd_shared_grids : ∀ (ds : List D) (Φ : D → Prop), ds.length = 1 → C_shared_grids ds Φ → b_shared_grids (finD Φ) (startD 3 ds) := by
  rintro ds Φ hl ⟨k, rfl, hk, h⟩
  have ok := ok_of hk
  have m1 : 1 ≤ 1 + 2 * (k : Int) := by omega
  have m2 : 1 + 2 * (k : Int) ≤ 63 := by omega
  generalize 1 + 2 * (k : Int) = m at *
  have m0 : 0 < m := by omega
  have bm : Bd 10 m := bd_of 98 (by omega) (by decide)
  refine ⟨rfl, m, rfl, m1, by omega, ?_⟩
  have loop : ∀ (ws : List P3) (L : List (S6 × P3)) (sl : Sl), (∀ w ∈ ws, w ∈ askTo m m.toNat) → L.length + ws.length ≤ 1000000 → (∀ sl, b_shared_grids_2 (finD Φ) [.val (.int m), .dct (.bl true :: (ws.foldl (stepC m) L).map keyD) ((ws.foldl (stepC m) L).map fun p => pt p.2), sl]) →
      FOR (gN 2) b_shared_grids_L1 (ws.map pt) (thenS b_shared_grids_2 (finD Φ)) [.val (.int m), .dct (.bl true :: L.map keyD) (L.map fun p => pt p.2), sl] := by
    intro ws
    induction ws with
    | nil => intro L sl _ _ hf; exact hf sl
    | cons w ws ih =>
      intro L sl hw hlen hf
      have hw0 := hw w List.mem_cons_self
      have b := askTo_mem (by omega) (Nat.le_refl _) hw0
      have kk : ∀ {x : Int}, 0 ≤ x → x ≤ m → Bd 10 x := fun h1 h2 => bd_of 98 (by omega) (by decide)
      have bw : Bp 10 w := ⟨kk b.1 b.2.1, kk b.2.2.1 b.2.2.2.1, kk b.2.2.2.2.1 b.2.2.2.2.2⟩
      have next : ∀ L', stepC m L w = L' → L'.length ≤ L.length + 1 → ∀ sl, FOR (gN 2) b_shared_grids_L1 (ws.map pt) (thenS b_shared_grids_2 (finD Φ)) [.val (.int m), .dct (.bl true :: L'.map keyD) (L'.map fun p => pt p.2), sl] := fun L' e hL sl => by
        refine ih L' sl (fun v hv => hw v (List.mem_cons_of_mem _ hv)) (by simp only [List.length_cons] at hlen; omega) fun sl => ?_
        have := hf sl
        rw [List.foldl_cons, e] at this
        exact this
      refine FOR_cons ⟨sl_le 2 rfl (by decide), rfl, w, m, 10, rfl, m0, by decide, bw, bm, ?_⟩
      refine tst (fun hc => ?_) (fun hc => ?_)
      · have ht : HasT w m := of_decide_eq_true hc
        refine ⟨sl_le 2 rfl (by decide), rfl, w, m, 10, rfl, m0, by decide, bw, bm, ht.2.1, fun s hs => ?_⟩
        have es := ds_fix hs (ok.chk w hw0 ht)
        subst es
        refine ⟨kS (stairC w m), L.map fun p => kS p.1, rfl, by rw [List.map_map]; rfl, ?_, fun yes => ?_, fun no => ?_⟩
        · rw [List.length_map]
          have : (1000000 : Nat) < sizeLine := by decide
          omega
        · exact next L (by unfold stepC; rw [if_pos ht, if_pos yes]) (Nat.le_succ _) _
        · have := next (L ++ [(stairC w m, w)]) (by unfold stepC; rw [if_pos ht, if_neg no]) (by rw [List.length_append]; exact Nat.le_refl _) (.val (pt w))
          rw [List.map_append, List.map_append] at this
          exact this
      · have ht : ¬ HasT w m := of_decide_eq_false hc
        exact next L (by unfold stepC; rw [if_neg ht]) (Nat.le_succ _) _
  refine loop (askTo m m.toNat) [] .un (fun w h => h) ?_ fun sl => ?_
  · have l1 := askTo_len m m.toNat
    have a1 : m.toNat ≤ 98 := by omega
    have a2 : m.toNat * m.toNat ≤ 98 * 98 := Nat.mul_le_mul a1 a1
    have a3 : m.toNat * (m.toNat * m.toNat) ≤ 98 * (98 * 98) := Nat.mul_le_mul a1 a2
    have e : ([] : List (S6 × P3)).length = 0 := rfl
    omega
  show b_shared_grids_2 (finD Φ) [.val (.int m), .dct (.bl true :: (keysC m).map keyD) ((keysC m).map fun p => pt p.2), sl]
  unfold b_shared_grids_2
  obtain ⟨p, er, ep⟩ := ok.srt
  have pl0 := ep.length_eq
  rw [List.length_range] at pl0
  have l1 := ok.l1
  refine ⟨by rw [List.length_map]; omega, fun d hd z => ?_, p, by rw [List.length_map]; exact er, by rw [List.length_map]; exact pl0, fun i hi => ?_, ?_⟩
  · obtain ⟨p, _, rfl⟩ := List.mem_map.mp hd
    cases z
  · rw [List.length_map]
    exact List.mem_range.mp (ep.mem_iff.mp hi)
  have eg : p.filterMap (((keysC m).map keyD)[·]?) = (p.filterMap ((keysC m)[·]?)).map keyD := by
    rw [List.map_filterMap]
    congr 1
    funext i
    rw [List.getElem?_map]
  rw [eg]
  have pp := pick_perm ep
  refine COMP_rel keyD rowD Prod.fst Prod.fst (fun _ => True) (p.filterMap ((keysC m)[·]?)) [] (by rw [pp.length_eq]; simp only [List.length_nil]; omega) (fun p hp Ψ hΨ => ?_) fun rows er _ => h rows (by rw [er]; exact pp.map _)
  have hp0 : p ∈ keysC m := pp.mem_iff.mp hp
  obtain ⟨j, hj, ej⟩ := List.mem_iff_getElem.mp hp0
  have ej : (keysC m)[j]? = some p := by rw [List.getElem?_eq_getElem hj, ej]
  obtain ⟨hw0, ht, ep⟩ := keys_ok m p hp0
  have b := askTo_mem (by omega) (Nat.le_refl _) hw0
  have kk : ∀ {x : Int}, 0 ≤ x → x ≤ m → Bd 10 x := fun h1 h2 => bd_of 98 (by omega) (by decide)
  have bw : Bp 10 p.2 := ⟨kk b.1 b.2.1, kk b.2.2.1 b.2.2.2.1, kk b.2.2.2.2.1 b.2.2.2.2.2⟩
  refine ⟨kS p.1, j, pt p.2, rfl, ?_, ?_, sl_le 2 rfl (by decide), rfl, p.2, m, 10, rfl, m0, ht.1, ht.2.1, ht.2.2, by decide, bw, bm, fun q q0' bq hn dl => ?_⟩
  · show ((keysC m).map keyD)[j]? = some (keyD p)
    rw [List.getElem?_map, ej]; rfl
  · show ((keysC m).map fun p => pt p.2)[j]? = some (pt p.2)
    rw [List.getElem?_map, ej]; rfl
  · exact ⟨sl_le 2 rfl (by decide), hΨ (p.1, turnT q) rfl trivial⟩
theorem ok_shared_grids {P : Program} {w : World} {K : PySem.W.Frag} {mg : Str → Option Value} {base : Heap} {t : Ad} (T : Txt K mg t) : FnOk P w K mg base CX0 7 t.a_shared_grids t.d_shared_grids ["m"] (spD K 1 C_shared_grids) := by
  have sc := sc_shared_grids
  refine fn_ok (k := 6) T.F_shared_grids sc_shared_grids (fun cdv A outer s H E hr => ⟨b_shared_grids, (psd_cons (psd_dnewT (i := 1) sc.nd rfl (loc_of rfl))
  (psd_cons (psd_for PassesOwn.never rfl (pid_seq (pd_call (ok_rows_to_ask T) mono_rows_to_ask (hr.mono (by decide)) rfl T.m_rows_to_ask T.F_rows_to_ask.kp T.b_rows_to_ask (pad_cons (pd_var (pv 0)) pad_nil))) (pgd_name (i := 2) sc.nd rfl (loc_of rfl))
  (psd_one (psd_if (pb_val (pd_call (ok_has_turn T) mono_has_turn (hr.mono (by decide)) rfl T.m_has_turn T.F_has_turn.kp T.b_has_turn (pad_cons (pd_tup (pad_cons (pd_var (pv 2)) (pad_cons (pd_var (pv 0)) pad_nil))) pad_nil)))
  (psd_one (psd_setdef (hu3 hr) (pv 1) (pd_callTy b_tuple rfl T.z_tuple bt_tuple (pad_cons (pd_call (ok_dial_stair T) mono_dial_stair (hr.mono (by decide)) rfl T.m_dial_stair T.F_dial_stair.kp T.b_dial_stair (pad_cons (pd_tup (pad_cons (pd_var (pv 2)) (pad_cons (pd_var (pv 0)) pad_nil))) pad_nil)) pad_nil)) (pd_var (pv 2)) ⟨rfl, rfl, rfl, rfl⟩))
  psd_nil)))
  (psd_one (psd_ret (pd_new (pf_comp (xs := ["stair"]) (M := ["m", "rows", "w"]) (n := 1) (by rfl) rfl rfl (pid_seq (pd_new (pf_sortU rfl (hu3 hr) rfl T.z_sorted (pv 1)))) (fun _ _ _ _ => (pgn_name (i := 0) (by decide) (show List.Nodup (["stair", "m", "rows", "w"] : List Str) by decide +kernel) rfl (by first | exact Or.inl rfl | exact Or.inr rfl))) (fun _ _ _ _ => pbs_nil) (fun _ _ _ _ => (pd_tup (pad_cons (pd_new (pf_list (by rfl) T.z_list bt_list (pd_var (pv 0)))) (pad_cons (pd_call (ok_turn_of_dial T) mono_turn_of_dial (hr.mono (by decide)) rfl T.m_turn_of_dial T.F_turn_of_dial.kp T.b_turn_of_dial (pad_cons (pd_tup (pad_cons (pd_dixT (hu3 hr) (pv 2) (pd_var (pv 0)) (fun _ _ => rfl)) (pad_cons (pd_var (pv 1)) pad_nil))) pad_nil)) pad_nil)))))))))), rd_shared_grids⟩)
noncomputable def C_law_cell_at : Con := fun ds Φ => ∃ (ns : List Int) (k : Nat), ds = [.lst (ns.map .int), .int k] ∧ Φ (.int (ns.getD k 0))
theorem mono_law_cell_at : Mono C_law_cell_at := fun ds Φ Ψ m h0 => by
  obtain ⟨ns, k, a, h⟩ := h0
  exact ⟨ns, k, a, m _ h⟩
noncomputable def b_law_cell_at_1 : S3 :=
  (sRet (dC (.int 0)))
noncomputable abbrev b_law_cell_at : S3 :=
  (sSeq (sIf (dT (dOp (dI0 fun i j => .bl (decide (i < j))) (dVar 1) (dB cLen (aCons (dVar 0) aNil))))
  (sRet (dOp dIx (dVar 0) (dVar 1)))
  sNext)
  b_law_cell_at_1)
theorem rd_law_cell_at : ∀ (ds : List D) (Φ : D → Prop), ds.length = 2 → C_law_cell_at ds Φ → b_law_cell_at (finD Φ) (startD 2 ds) := by
  rintro ds Φ hl ⟨ns, k, rfl, h⟩
  rw [List.getD_eq_getElem?_getD] at h
  refine tst (fun hc => ?_) (fun hc => ?_)
  · have hk : k < ns.length := by
      have := of_decide_eq_true hc
      rw [List.length_map] at this
      omega
    rw [List.getElem?_eq_getElem hk] at h
    refine onS_of (d := D.int ns[k]) ?_ ?_
    · rw [atI_n, List.getElem?_map, List.getElem?_eq_getElem hk]; rfl
    · exact h
  · have hk : ¬ k < ns.length := by
      have := of_decide_eq_false hc
      rw [List.length_map] at this
      omega
    rw [List.getElem?_eq_none (by omega)] at h
    exact h
theorem ok_law_cell_at {P : Program} {w : World} {K : PySem.W.Frag} {mg : Str → Option Value} {base : Heap} {t : Ad} (T : Txt K mg t) : FnOk P w K mg base CX0 1 t.a_law_cell_at t.d_law_cell_at ["script", "k"] (spD K 2 C_law_cell_at) := by
  have sc := sc_law_cell_at
  refine fn_ok (k := 0) T.F_law_cell_at sc_law_cell_at (fun cdv A outer s H E hr => ⟨b_law_cell_at, (psd_cons (psd_if (pb_cmp o_lt (pd_var (pv 1)) (pd_callB b_len rfl T.z_len bt_len (pad_cons (pd_var (pv 0)) pad_nil)) (nomark _))
  (psd_one (psd_ret (pd_ix (pd_var (pv 0)) (pd_var (pv 1)) (fun _ _ => rfl))))
  psd_nil)
  (psd_one (psd_ret pd_int))), rd_law_cell_at⟩)
noncomputable def C_law_quad : Con := fun ds Φ => ∃ ns : List Int, ds = [.lst (ns.map .int)] ∧ ∀ q : Q4, q ≠ q0 → Sm4 q → Φ (.lst [.int q.a, .int q.b, .int q.c, .int q.d])
theorem mono_law_quad : Mono C_law_quad := fun ds Φ Ψ mo h0 => by
  obtain ⟨ns, a, h⟩ := h0
  exact ⟨ns, a, fun q h1 h2 => mo _ (h q h1 h2)⟩
noncomputable def clampC (m x : Int) : Int := if (if x < m then x else m) > -m then (if x < m then x else m) else -m
theorem clamp_le {m x : Int} (h2 : 2 ≤ m) (h4 : m ≤ 4) : -4 ≤ clampC m x ∧ clampC m x ≤ 4 := by
  unfold clampC
  split <;> split <;> omega
noncomputable abbrev b_law_quad_L1 : S3 :=
  (sSetIx 2 (dOp (dI (fun _ j => j ≠ 0) fun i j => .int (i.fmod j)) (dVar 3) (dC (.int 4))) (dOp (dI0 fun i j => .int (i - j)) (dOp (dI0 fun i j => .int (i + j)) (dIxO 2 (dOp (dI (fun _ j => j ≠ 0) fun i j => .int (i.fmod j)) (dVar 3) (dC (.int 4)))) (dOp (dI (fun _ j => j ≠ 0) fun i j => .int (i.fmod j)) (dOp dIx (dVar 0) (dVar 3)) (dC (.int 3)))) (dC (.int 1))))
noncomputable def b_law_quad_6 : S3 :=
  (sRet (dVar 2))
noncomputable def b_law_quad_5 : S3 :=
  (sFreeze 2 (sSeq (sIf (dT (dOp dEqS (dVar 2) (dF (fLst (aCons (dC (.int 0)) (aCons (dC (.int 0)) (aCons (dC (.int 0)) (aCons (dC (.int 0)) aNil))))))))
  (sRet (dF (fLst (aCons (dC (.int 1)) (aCons (dC (.int 1)) (aCons (dC (.int 1)) (aCons (dC (.int 0)) aNil)))))))
  sNext)
  b_law_quad_6))
noncomputable def b_law_quad_4 : S3 :=
  (sFreeze 2 (sSeq (sOwn 2 (fComp 1 (iLT (dVar 2)) (gN 0) (fun _ Φ => Φ true) (dB cMax (aCons (dU dNeg (dVar 2)) (aCons (dB cMin (aCons (dVar 2) (aCons (dVar 0) aNil))) aNil)))))
  b_law_quad_5))
noncomputable def b_law_quad_3 : S3 :=
  (sSeq (sFor (iR1 (aCons (dB cMin (aCons (dB cLen (aCons (dVar 0) aNil)) (aCons (dC (.int 60)) aNil))) aNil)) (gN 3)
  b_law_quad_L1)
  b_law_quad_4)
noncomputable def b_law_quad_2 : S3 :=
  (sSeq (sOwn 2 (fLst (aCons (dC (.int 0)) (aCons (dC (.int 0)) (aCons (dC (.int 0)) (aCons (dC (.int 0)) aNil))))))
  b_law_quad_3)
noncomputable def b_law_quad_1 : S3 :=
  (sSeq (sIf (dT (dOp dEq (dOp (dI (fun _ j => j ≠ 0) fun i j => .int (i.fmod j)) (dOp (dI CD fun i j => .int (i.fdiv j)) (dCall 2 C_law_cell_at (aCons (dVar 0) (aCons (dC (.int 0)) aNil))) (dC (.int 3))) (dC (.int 8))) (dC (.int 1))))
  (sSet 1 (dC (.int 4)))
  sNext)
  b_law_quad_2)
noncomputable abbrev b_law_quad : S3 :=
  (sSeq (sSet 1 (dC (.int 2)))
  b_law_quad_1)
theorem rd_law_quad : ∀ (ds : List D) (Φ : D → Prop), ds.length = 1 → C_law_quad ds Φ → b_law_quad (finD Φ) (startD 4 ds) := by
  rintro ds Φ hl ⟨ns, rfl, h⟩
  have n3 : (3 : Int) ≠ 0 := by decide
  have n4 : (4 : Int) ≠ 0 := by decide
  have go : ∀ most : Int, 2 ≤ most → most ≤ 4 → b_law_quad_2 (finD Φ) [.val (.lst (ns.map .int)), .val (.int most), .un, .un] := by
    intro most h2 h4
    unfold b_law_quad_2
    refine ⟨sl_le 4 rfl (by decide), ?_⟩
    have hlen : ((ns.map D.int).length : Int) = ns.length := by simp
    have fin : ∀ (a b c d : Int) (s : Sl), b_law_quad_4 (finD Φ) [.val (.lst (ns.map .int)), .val (.int most), .own [.int a, .int b, .int c, .int d], s] := by
      intro a b c d s
      unfold b_law_quad_4
      refine COMP_list D.int (fun x => .int (clampC most x)) [a, b, c, d] rfl (show 4 ≤ 1000 by decide) (fun x hx Ψ hΨ => hΨ) ?_
      show b_law_quad_5 (finD Φ) [.val (.lst (ns.map .int)), .val (.int most), .own [.int (clampC most a), .int (clampC most b), .int (clampC most c), .int (clampC most d)], s]
      have sm : Sm4 ⟨clampC most a, clampC most b, clampC most c, clampC most d⟩ := ⟨clamp_le h2 h4, clamp_le h2 h4, clamp_le h2 h4, clamp_le h2 h4⟩
      generalize clampC most a = a at *
      generalize clampC most b = b at *
      generalize clampC most c = c at *
      generalize clampC most d = d at *
      unfold b_law_quad_5
      refine ⟨sl_le 4 rfl (by decide), show dep (.lst [.int 0, .int 0, .int 0, .int 0]) ≤ 100 by decide, tst (fun hc => ?_) (fun hc => ?_)⟩
      · exact ⟨sl_le 4 rfl (by decide), h ⟨1, 1, 1, 0⟩ (by decide) ⟨by decide, by decide, by decide, by decide⟩⟩
      · refine h ⟨a, b, c, d⟩ (fun z => ?_) sm
        cases z
        exact absurd hc (by decide)
    let n : Int := if 60 < ((ns.map D.int).length : Int) then 60 else (ns.map D.int).length
    have n0 : 0 ≤ n := by show 0 ≤ (if _ then _ else _ : Int); split <;> omega
    have n1 : n ≤ 60 := by show (if _ then _ else _ : Int) ≤ 60; split <;> omega
    have n2 : n ≤ ns.length := by show (if _ then _ else _ : Int) ≤ _; split <;> omega
    refine ⟨show -(2 ^ 62 : Int) ≤ n by omega, show n < 2 ^ 62 by omega, ?_⟩
    show FOR (gN 3) b_law_quad_L1 (ups 0 n.toNat) (thenS b_law_quad_4 (finD Φ)) [.val (.lst (ns.map .int)), .val (.int most), .own [.int 0, .int 0, .int 0, .int 0], .un]
    generalize n = n at *
    refine FOR_inv (fun pre post ρ => pre ++ post = ups 0 n.toNat ∧ ∃ (a b c d : Int) (s : Sl), ρ = [.val (.lst (ns.map .int)), .val (.int most), .own [.int a, .int b, .int c, .int d], s]) ?_ ?_ _ [] _ ⟨rfl, 0, 0, 0, 0, .un, rfl⟩
    · rintro pre d post ρ ⟨hall, a, b, c, d, s, rfl⟩ k hk
      obtain ⟨rfl, hi⟩ := ups_at hall
      have hi : pre.length < ns.length := by omega
      have hall' : (pre ++ [D.int (0 + (pre.length : Nat))]) ++ post = ups 0 n.toNat := by rw [← hall]; simp
      have ec : atI (ns.map D.int) (0 + (pre.length : Nat)) = some (.int ns[pre.length]) := by
        rw [Int.zero_add, atI_n, List.getElem?_map, List.getElem?_eq_getElem hi]; rfl
      rcases mod4 pre.length with hj | hj | hj | hj
      · refine ⟨n4, onS_of (d := D.int a) (by rw [hj]; rfl) (onS_of ec ⟨n3, n4, onS_of (d := (0 : Nat)) (by rw [hj]; rfl) ?_⟩)⟩
        exact hk _ ⟨hall', _, b, c, d, _, rfl⟩
      · refine ⟨n4, onS_of (d := D.int b) (by rw [hj]; rfl) (onS_of ec ⟨n3, n4, onS_of (d := (1 : Nat)) (by rw [hj]; rfl) ?_⟩)⟩
        exact hk _ ⟨hall', a, _, c, d, _, rfl⟩
      · refine ⟨n4, onS_of (d := D.int c) (by rw [hj]; rfl) (onS_of ec ⟨n3, n4, onS_of (d := (2 : Nat)) (by rw [hj]; rfl) ?_⟩)⟩
        exact hk _ ⟨hall', a, b, _, d, _, rfl⟩
      · refine ⟨n4, onS_of (d := D.int d) (by rw [hj]; rfl) (onS_of ec ⟨n3, n4, onS_of (d := (3 : Nat)) (by rw [hj]; rfl) ?_⟩)⟩
        exact hk _ ⟨hall', a, b, c, _, _, rfl⟩
    · rintro pre ρ ⟨hall, a, b, c, d, s, rfl⟩
      exact fin a b c d s
  refine ⟨rfl, ns, 0, rfl, ?_⟩
  refine ⟨cd_lit (by decide), show (8 : Int) ≠ 0 by decide, tst (fun hc => ?_) (fun hc => ?_)⟩
  · exact go 4 (by decide) (by decide)
  · exact go 2 (by decide) (by decide)
theorem ok_law_quad {P : Program} {w : World} {K : PySem.W.Frag} {mg : Str → Option Value} {base : Heap} {t : Ad} (T : Txt K mg t) : FnOk P w K mg base CX0 2 t.a_law_quad t.d_law_quad ["script"] (spD K 1 C_law_quad) := by
  have sc := sc_law_quad
  refine fn_ok (k := 1) T.F_law_quad sc_law_quad (fun cdv A outer s H E hr => ⟨b_law_quad, (psd_cons (psd_set (i := 1) sc.nd rfl (loc_of rfl) pd_int)
  (psd_cons (psd_if (pb_cmp o_eq (pd_op o_mod (pd_op o_fdiv (pd_call (ok_law_cell_at T) mono_law_cell_at (hr.mono (by decide)) rfl T.m_law_cell_at T.F_law_cell_at.kp T.b_law_cell_at (pad_cons (pd_var (pv 0)) (pad_cons pd_int pad_nil))) pd_int) pd_int) pd_int (nomark _))
  (psd_one (psd_set (i := 1) sc.nd rfl (loc_of rfl) pd_int))
  psd_nil)
  (psd_cons (psd_own (i := 2) sc.nd rfl (loc_of rfl) (pf_lst (pad_cons pd_int (pad_cons pd_int (pad_cons pd_int (pad_cons pd_int pad_nil))))))
  (psd_cons (psd_for PassesOwn.never rfl (pid_range1 rfl T.z_range (pad_cons (pd_callB (b_min rfl) rfl T.z_min bt_min (pad_cons (pd_callB b_len rfl T.z_len bt_len (pad_cons (pd_var (pv 0)) pad_nil)) (pad_cons pd_int pad_nil))) pad_nil)) (pgd_name (i := 3) sc.nd rfl (loc_of rfl))
  (psd_one (psd_setIx (pv 2) (pd_op o_mod (pd_var (pv 3)) pd_int) (pd_op o_sub (pd_op o_add (pd_ixO (pv 2) (pd_op o_mod (pd_var (pv 3)) pd_int) (fun _ _ => rfl)) (pd_op o_mod (pd_ix (pd_var (pv 0)) (pd_var (pv 3)) (fun _ _ => rfl)) pd_int)) pd_int))))
  (psd_freeze 2 (psd_cons (psd_ownComp (i := 2) sc.nd rfl (loc_of rfl) (xs := ["number"]) (M := ["script", "most", "quad", "k"]) (n := 1) (by rfl) rfl rfl (pid_seq (pd_var (pv 2))) (fun _ _ _ _ => (pgn_name (i := 0) (by decide) (show List.Nodup (["number", "script", "most", "quad", "k"] : List Str) by decide +kernel) rfl (by first | exact Or.inl rfl | exact Or.inr rfl))) (fun _ _ _ _ => pbs_nil) (fun _ _ _ _ => (pd_callB (b_max rfl) rfl T.z_max bt_max (pad_cons (pd_neg (pd_var (pv 2))) (pad_cons (pd_callB (b_min rfl) rfl T.z_min bt_min (pad_cons (pd_var (pv 2)) (pad_cons (pd_var (pv 0)) pad_nil))) pad_nil)))))
  (psd_freeze 2 (psd_cons (psd_if (pb_cmp (o_eqS (hu3 hr)) (pd_var (pv 2)) (pd_new (pf_lst (pad_cons pd_int (pad_cons pd_int (pad_cons pd_int (pad_cons pd_int pad_nil)))))) (nomark _))
  (psd_one (psd_ret (pd_new (pf_lst (pad_cons pd_int (pad_cons pd_int (pad_cons pd_int (pad_cons pd_int pad_nil))))))))
  psd_nil)
  (psd_one (psd_ret (pd_var (pv 2)))))))))))), rd_law_quad⟩)
noncomputable def C_law_euclid : Con := fun ds Φ => ∃ a b : Int, ds = [.int a, .int b] ∧ Φ (.int (Int.gcd a b : Int))
theorem mono_law_euclid : Mono C_law_euclid := fun ds Φ Ψ mo h0 => by
  obtain ⟨a, b, e, h⟩ := h0
  exact ⟨a, b, e, mo _ h⟩
noncomputable abbrev b_law_euclid_L1 : S3 :=
  (sPar 0 1 (aCons (dVar 1) (aCons (dOp (dI (fun _ j => j ≠ 0) fun i j => .int (i.fmod j)) (dVar 0) (dVar 1)) aNil)))
noncomputable def b_law_euclid_3 : S3 :=
  (sRet (dVar 0))
noncomputable def b_law_euclid_2 : S3 :=
  (sSeq (sWhile (dT (dOp (dI0 fun i j => .bl (decide (j < i))) (dVar 1) (dC (.int 0))))
  b_law_euclid_L1)
  b_law_euclid_3)
noncomputable def b_law_euclid_1 : S3 :=
  (sSeq (sSet 1 (dB cAbs (aCons (dVar 1) aNil)))
  b_law_euclid_2)
noncomputable abbrev b_law_euclid : S3 :=
  (sSeq (sSet 0 (dB cAbs (aCons (dVar 0) aNil)))
  b_law_euclid_1)
theorem rd_law_euclid : ∀ (ds : List D) (Φ : D → Prop), ds.length = 2 → C_law_euclid ds Φ → b_law_euclid (finD Φ) (startD 2 ds) := by
  rintro ds Φ hl ⟨a, b, rfl, h⟩
  refine while_inv (fun ρ => ∃ (x y : Int), ρ = [.val (.int x), .val (.int y)] ∧ 0 ≤ x ∧ 0 ≤ y ∧ Int.gcd x y = Int.gcd a b) (fun ρ => match ρ with | [_, .val (.int y)] => y.natAbs | _ => 0) ⟨a.natAbs, b.natAbs, rfl, by omega, by omega, by simp [Int.gcd]⟩ ?_
  rintro ρ ⟨x, y, rfl, hx, hy, e⟩
  refine tst (fun hc => ?_) (fun hc => ?_)
  · have hy0 : 0 < y := of_decide_eq_true hc
    have hy1 : y ≠ 0 := by omega
    refine ⟨hy1, _, ?_, rfl, y, x.fmod y, rfl, hy, Int.fmod_nonneg_of_pos x hy0, by rw [gcd_step, e]⟩
    show (x.fmod y).natAbs < y.natAbs
    exact fmod_lt hy1
  · have hy0 : ¬ 0 < y := of_decide_eq_false hc
    have hy1 : y = 0 := by omega
    subst hy1
    have e2 : (Int.gcd a b : Int) = x := by rw [← e]; simp; omega
    rw [e2] at h
    exact h
theorem ok_law_euclid {P : Program} {w : World} {K : PySem.W.Frag} {mg : Str → Option Value} {base : Heap} {t : Ad} (T : Txt K mg t) : FnOk P w K mg base CX0 1 t.a_law_euclid t.d_law_euclid ["one", "other"] (spD K 2 C_law_euclid) := by
  have sc := sc_law_euclid
  refine fn_ok (k := 0) T.F_law_euclid sc_law_euclid (fun cdv A outer s H E hr => ⟨b_law_euclid, (psd_cons (psd_set (i := 0) sc.nd rfl (loc_of rfl) (pd_callB b_abs rfl T.z_abs bt_abs (pad_cons (pd_var (pv 0)) pad_nil)))
  (psd_cons (psd_set (i := 1) sc.nd rfl (loc_of rfl) (pd_callB b_abs rfl T.z_abs bt_abs (pad_cons (pd_var (pv 1)) pad_nil)))
  (psd_cons (psd_while PassesOwn.never (pb_cmp o_gt (pd_var (pv 1)) pd_int (nomark _))
  (psd_one (psd_par (i := 0) (j := 1) rfl sc.nd rfl rfl (by decide) rfl rfl (pad_cons (pd_var (pv 1)) (pad_cons (pd_op o_mod (pd_var (pv 0)) (pd_var (pv 1))) pad_nil)) (by rfl))))
  (psd_one (psd_ret (pd_var (pv 0))))))), rd_law_euclid⟩)
noncomputable def C_law_led_back : Con := fun ds Φ => ∃ (t : T9) (p : P3) (k : Nat), ds = [.lst [pl t.p, pl t.q, pl t.r], .int t.n, pt p] ∧ 0 < t.n ∧ k ≤ 4000 ∧ Bt k t ∧ Bp k p ∧ Φ (.bl (decide (Shr t p)))
theorem mono_law_led_back : Mono C_law_led_back := fun ds Φ Ψ mo h0 => by
  obtain ⟨t, p, k, a, b, c, d, e, h⟩ := h0
  exact ⟨t, p, k, a, b, c, d, e, mo _ h⟩
noncomputable def b_law_led_back_L1_2 : S3 :=
  (sIf (dT (dOp dNe (dOp (dI (fun _ j => j ≠ 0) fun i j => .int (i.fmod j)) (dVar 4) (dVar 1)) (dC (.int 0))))
  (sRet (dC (.bl false)))
  sNext)
noncomputable def b_law_led_back_L1_1 : S3 :=
  (sSeq (sSet 4 (dOp (dI0 fun i j => .int (i + j)) (dVar 4) (dOp (dI IntMulOk fun i j => .int (i * j)) (dOp dIx (dOp dIx (dVar 0) (dC (.int 2))) (dVar 3)) (dOp dIx (dVar 2) (dC (.int 2))))))
  b_law_led_back_L1_2)
noncomputable abbrev b_law_led_back_L1 : S3 :=
  (sSeq (sSet 4 (dOp (dI0 fun i j => .int (i + j)) (dOp (dI IntMulOk fun i j => .int (i * j)) (dOp dIx (dOp dIx (dVar 0) (dC (.int 0))) (dVar 3)) (dOp dIx (dVar 2) (dC (.int 0)))) (dOp (dI IntMulOk fun i j => .int (i * j)) (dOp dIx (dOp dIx (dVar 0) (dC (.int 1))) (dVar 3)) (dOp dIx (dVar 2) (dC (.int 1))))))
  b_law_led_back_L1_1)
noncomputable def b_law_led_back_1 : S3 :=
  (sRet (dC (.bl true)))
noncomputable abbrev b_law_led_back : S3 :=
  (sSeq (sFor (iR1 (aCons (dC (.int 3)) aNil)) (gN 3)
  b_law_led_back_L1)
  b_law_led_back_1)
theorem rd_law_led_back : ∀ (ds : List D) (Φ : D → Prop), ds.length = 3 → C_law_led_back ds Φ → b_law_led_back (finD Φ) (startD 5 ds) := by
  rintro ds Φ hl ⟨t, p, k, rfl, n0, hk, bt, bp, h⟩
  have mk : ∀ {x y : Int}, Bd k x → Bd k y → IntMulOk x y := fun hx hy => mulOk hx hy (Nat.le_trans (Nat.add_le_add hk hk) (by decide))
  have nz : t.n ≠ 0 := Int.ne_of_gt n0
  have yes : ∀ {x : Int}, (!decide (x.fmod t.n = 0)) = false → t.n ∣ x := fun {x} hx => by
    rw [dvd_dec n0, Bool.not_eq_false'] at hx; exact of_decide_eq_true hx
  have no : ∀ {x : Int}, (!decide (x.fmod t.n = 0)) = true → ¬ t.n ∣ x := fun {x} hx => by
    rw [dvd_dec n0, Bool.not_eq_true'] at hx; exact of_decide_eq_false hx
  have fls : ¬ Shr t p → Φ (.bl false) := fun z => by rw [decide_eq_false z] at h; exact h
  refine ⟨by decide, by decide, ?_⟩
  show FOR (gN 3) b_law_led_back_L1 [.int 0, .int 1, .int 2] (thenS b_law_led_back_1 (finD Φ)) [.val (.lst [pl t.p, pl t.q, pl t.r]), .val (.int t.n), .val (pt p), .un, .un]
  refine FOR_cons ⟨mk bt.p.x bp.x, mk bt.q.x bp.y, ?_⟩
  refine ⟨mk bt.r.x bp.z, nz, tst (fun hc => fls fun z => no hc z.1) (fun h1 => ?_)⟩
  refine FOR_cons ⟨mk bt.p.y bp.x, mk bt.q.y bp.y, ?_⟩
  refine ⟨mk bt.r.y bp.z, nz, tst (fun hc => fls fun z => no hc z.2.1) (fun h2 => ?_)⟩
  refine FOR_cons ⟨mk bt.p.z bp.x, mk bt.q.z bp.y, ?_⟩
  refine ⟨mk bt.r.z bp.z, nz, tst (fun hc => fls fun z => no hc z.2.2) (fun h3 => FOR_nil ?_)⟩
  rw [decide_eq_true (show Shr t p from ⟨yes h1, yes h2, yes h3⟩)] at h
  exact h
theorem ok_law_led_back {P : Program} {w : World} {K : PySem.W.Frag} {mg : Str → Option Value} {base : Heap} {t : Ad} (T : Txt K mg t) : FnOk P w K mg base CX0 1 t.a_law_led_back t.d_law_led_back ["rows", "bottom", "point"] (spD K 3 C_law_led_back) := by
  have sc := sc_law_led_back
  refine fn_ok (k := 0) T.F_law_led_back sc_law_led_back (fun cdv A outer s H E hr => ⟨b_law_led_back, (psd_cons (psd_for PassesOwn.never rfl (pid_range1 rfl T.z_range (pad_cons pd_int pad_nil)) (pgd_name (i := 3) sc.nd rfl (loc_of rfl))
  (psd_cons (psd_set (i := 4) sc.nd rfl (loc_of rfl) (pd_op o_add (pd_op o_mul (pd_ix (pd_ix (pd_var (pv 0)) pd_int (fun _ _ => rfl)) (pd_var (pv 3)) (fun _ _ => rfl)) (pd_ix (pd_var (pv 2)) pd_int (fun _ _ => rfl))) (pd_op o_mul (pd_ix (pd_ix (pd_var (pv 0)) pd_int (fun _ _ => rfl)) (pd_var (pv 3)) (fun _ _ => rfl)) (pd_ix (pd_var (pv 2)) pd_int (fun _ _ => rfl)))))
  (psd_cons (psd_set (i := 4) sc.nd rfl (loc_of rfl) (pd_op o_add (pd_var (pv 4)) (pd_op o_mul (pd_ix (pd_ix (pd_var (pv 0)) pd_int (fun _ _ => rfl)) (pd_var (pv 3)) (fun _ _ => rfl)) (pd_ix (pd_var (pv 2)) pd_int (fun _ _ => rfl)))))
  (psd_one (psd_if (pb_cmp o_ne (pd_op o_mod (pd_var (pv 4)) (pd_var (pv 1))) pd_int (nomark _))
  (psd_one (psd_ret pd_bl))
  psd_nil)))))
  (psd_one (psd_ret pd_bl))), rd_law_led_back⟩)
noncomputable abbrev C_law : Con := cLaw
noncomputable abbrev b_law_L1 : S3 :=
  (sSet 2 (dCall 2 C_law_euclid (aCons (dVar 2) (aCons (dVar 3) aNil))))
noncomputable def b_law_L2_1 : S3 :=
  (sIf (dT (dOp dEq (dB cLen (aCons (dVar 8) aNil)) (dC (.int 3))))
  (sSet 6 (dOp (dI0 fun i j => .int (i + j)) (dVar 6) (dC (.int 1))))
  sNext)
noncomputable abbrev b_law_L2 : S3 :=
  (sSeq (sSet 8 (dF (fComp 1 (iLT (dOp dIx (dVar 7) (dC (.int 0)))) (gN 0) (dT (dCall 3 C_law_led_back (aCons (dVar 6) (aCons (dVar 5) (aCons (dVar 0) aNil))))) (dVar 0))))
  b_law_L2_1)
noncomputable def b_law_8 : S3 :=
  (sRet (dOp dEq (dVar 6) (dC (.int 1))))
noncomputable def b_law_7 : S3 :=
  (sSeq (sFor (iLT (dCall 1 C_shared_grids (aCons (dVar 4) aNil))) (gN 7)
  b_law_L2)
  b_law_8)
noncomputable def b_law_6 : S3 :=
  (sSeq (sSet 6 (dC (.int 0)))
  b_law_7)
noncomputable def b_law_5 : S3 :=
  (sSeq (sSet 5 (dF (fLst (aCons (dF (fSl (dVar 1) (oSome (dC (.int 0))) (oSome (dC (.int 3))))) (aCons (dF (fSl (dVar 1) (oSome (dC (.int 3))) (oSome (dC (.int 6))))) (aCons (dF (fSl (dVar 1) (oSome (dC (.int 6))) (oSome (dC (.int 9))))) aNil))))))
  b_law_6)
noncomputable def b_law_4 : S3 :=
  (sSeq (sSet 4 (dOp dIx (dVar 1) (dC (.int 9))))
  b_law_5)
noncomputable def b_law_3 : S3 :=
  (sSeq (sSet 1 (dF (fComp 1 (iLT (dVar 1)) (gN 0) (fun _ Φ => Φ true) (dOp (dI CD fun i j => .int (i.fdiv j)) (dVar 0) (dVar 3)))))
  b_law_4)
noncomputable def b_law_2 : S3 :=
  (sSeq (sFor (iLT (dVar 1)) (gN 3)
  b_law_L1)
  b_law_3)
noncomputable def b_law_1 : S3 :=
  (sSeq (sSet 2 (dC (.int 0)))
  b_law_2)
noncomputable abbrev b_law : S3 :=
  (sSeq (sSet 1 (dCall 1 C_law_flat (aCons (dCall 1 C_law_quad (aCons (dVar 0) aNil)) aNil)))
  b_law_1)
theorem rd_law : ∀ (ds : List D) (Φ : D → Prop), ds.length = 1 → C_law ds Φ → b_law (finD Φ) (startD 9 ds) := by
  rintro ds Φ hl ⟨ns, rfl, hn, h⟩
  refine ⟨rfl, ns, rfl, fun q h0 sm => ⟨rfl, q, rfl, sm, ?_⟩⟩
  obtain ⟨k, hk, en⟩ := small_n h0 sm
  have lw := lowT_of (rawT_pos h0)
  have bt : Bt 9 (turnT q) := turnT_bd h0 sm.bq
  have ok := ok_of hk
  have one := just_one hk (turnT_is h0) (by rw [trT_turn]; exact turnT_is (qbar_ne h0)) en
  have gb := (gcdL_tl (Int.ne_of_gt (rawT_pos h0)) (rawT_bd sm.bq)).2
  have loop : ∀ (xs : List Int) (g : Int) (sl : Sl), (∀ sl, b_law_3 (finD Φ) [.val (.lst (ns.map .int)), .val (.lst ((flatL q).map .int)), .val (.int (xs.foldl (fun g x => (Int.gcd g x : Int)) g)), sl, .un, .un, .un, .un, .un]) →
      FOR (gN 3) b_law_L1 (xs.map .int) (thenS b_law_3 (finD Φ)) [.val (.lst (ns.map .int)), .val (.lst ((flatL q).map .int)), .val (.int g), sl, .un, .un, .un, .un, .un] := by
    intro xs
    induction xs with
    | nil => intro g sl hf; exact hf sl
    | cons x xs ih => intro g sl hf; exact FOR_cons ⟨rfl, g, x, rfl, ih _ _ hf⟩
  refine loop (flatL q) 0 .un fun sl => ?_
  have eg : (flatL q).foldl (fun g x => (Int.gcd g x : Int)) 0 = gcdL (tl (rawT q)) := by rw [flat_is]; rfl
  rw [eg, flat_is]
  have g0 : gcdL (tl (rawT q)) ≠ 0 := Int.ne_of_gt lw.g
  unfold b_law_3
  refine COMP_list D.int (fun x => .int (x.fdiv (gcdL (tl (rawT q))))) (tl (rawT q)) rfl (show 10 ≤ 1000 by decide) (fun x hx Ψ hΨ => ⟨cd_of g0 gb (by decide), hΨ⟩) ?_
  have n0 := turnT_pos h0
  have fin : ∀ t : T9, t = turnT q → b_law_4 (finD Φ) [.val (.lst (ns.map .int)), .val (.lst ((tl t).map .int)), .val (.int (gcdL (tl (rawT q)))), sl, .un, .un, .un, .un, .un] := by
    intro t et
    rw [← et] at bt one en n0
    unfold b_law_4
    show b_law_5 (finD Φ) [.val (.lst (ns.map .int)), .val (.lst ((tl t).map .int)), .val (.int (gcdL (tl (rawT q)))), sl, .val (.int t.n), .un, .un, .un, .un]
    refine ⟨sl_le 3 rfl (by decide), ?_⟩
    show b_law_6 (finD Φ) [.val (.lst (ns.map .int)), .val (.lst ((tl t).map .int)), .val (.int (gcdL (tl (rawT q)))), sl, .val (.int t.n), .val (.lst [pl t.p, pl t.q, pl t.r]), .un, .un, .un]
    show b_law_7 (finD Φ) [.val (.lst (ns.map .int)), .val (.lst ((tl t).map .int)), .val (.int (gcdL (tl (rawT q)))), sl, .val (.int t.n), .val (.lst [pl t.p, pl t.q, pl t.r]), .val (.int 0), .un, .un]
    unfold b_law_7
    refine ⟨rfl, k, by rw [en], hk, fun rows pr => ?_⟩
    have bm : Bd 10 (1 + 2 * (k : Int)) := bd_of 98 (by omega) (by decide)
    have good : ∀ r ∈ rows, Bp 10 (s1 r.1) ∧ Bp 10 (s2 r.1) ∧ Bp 10 (s3 r.1) := fun r hr => by
      obtain ⟨p, hp, ep⟩ := List.mem_map.mp (pr.mem_iff.mp (List.mem_map.mpr ⟨r, hr, rfl⟩))
      obtain ⟨hw, hT, es⟩ := keys_ok _ p hp
      have ck := ok.chk p.2 hw hT
      rw [← es, ep] at ck
      obtain ⟨⟨a0, d0, f0, b0, b1, c0, c1, e0, e1⟩, _, _, _, vol⟩ := ck
      exact st_bd ⟨a0, d0, f0, b0, b1, c0, c1, e0, e1⟩ vol bm
    have rloop : ∀ (rs : List (S6 × T9)) (m : Nat) (s7 s8 : Sl), (∀ r ∈ rs, Bp 10 (s1 r.1) ∧ Bp 10 (s2 r.1) ∧ Bp 10 (s3 r.1)) → m + (rs.map Prod.fst).countP (In3 t) = 1 →
        FOR (gN 7) b_law_L2 (rs.map rowD) (thenS b_law_8 (finD Φ)) [.val (.lst (ns.map .int)), .val (.lst ((tl t).map .int)), .val (.int (gcdL (tl (rawT q)))), sl, .val (.int t.n), .val (.lst [pl t.p, pl t.q, pl t.r]), .val (.int (m : Int)), s7, s8] := by
      intro rs
      induction rs with
      | nil =>
        intro m s7 s8 _ hm
        have hm : m = 1 := hm
        subst hm
        exact h
      | cons r rs ih =>
        intro m s7 s8 hg hm
        obtain ⟨b1, b2, b3⟩ := hg r List.mem_cons_self
        have up : ∀ {p : P3}, Bp 10 p → Bp 100 p := fun b => b.mono (by decide)
        refine FOR_cons ?_
        refine COMP_fil pt pt (fun p => decide (Shr t p)) [s1 r.1, s2 r.1, s3 r.1] rfl (show 3 ≤ 1000 by decide) (fun p hp Ψ hΨ => ?_) (fun p hp _ Ψ hΨ => hΨ) ?_
        · refine ⟨rfl, t, p, 100, rfl, n0, by decide, bt.mono (by decide), ?_, hΨ⟩
          simp only [List.mem_cons, List.not_mem_nil, or_false] at hp
          rcases hp with rfl | rfl | rfl
          · exact up b1
          · exact up b2
          · exact up b3
        · rw [List.map_cons, List.countP_cons] at hm
          show b_law_L2_1 _ _
          unfold b_law_L2_1
          have e3 := three (t := t) r.1
          refine tst (fun hc => ?_) (fun hc => ?_)
          · have hc : decide (((([s1 r.1, s2 r.1, s3 r.1].filter fun p => decide (Shr t p)).map pt).length : Int) = 3) = true := hc
            rw [List.length_map, e3] at hc
            rw [if_pos hc] at hm
            exact ih (m + 1) _ _ (fun x hx => hg x (List.mem_cons_of_mem _ hx)) (by omega)
          · have hc : decide (((([s1 r.1, s2 r.1, s3 r.1].filter fun p => decide (Shr t p)).map pt).length : Int) = 3) = false := hc
            rw [List.length_map, e3] at hc
            rw [if_neg (by rw [hc]; exact Bool.false_ne_true)] at hm
            exact ih m _ _ (fun x hx => hg x (List.mem_cons_of_mem _ hx)) (by omega)
    refine rloop rows 0 .un .un good ?_
    rw [Nat.zero_add, pr.countP_eq]
    exact one
  exact fin (turnT q) rfl
theorem ok_law {P : Program} {w : World} {K : PySem.W.Frag} {mg : Str → Option Value} {base : Heap} {t : Ad} (T : Txt K mg t) : FnOk P w K mg base CX0 8 t.a_law t.d_law ["script"] (spD K 1 C_law) := by
  have sc := sc_law
  refine fn_ok (k := 7) T.F_law sc_law (fun cdv A outer s H E hr => ⟨b_law, (psd_cons (psd_set (i := 1) sc.nd rfl (loc_of rfl) (pd_call (ok_law_flat T) mono_law_flat (hr.mono (by decide)) rfl T.m_law_flat T.F_law_flat.kp T.b_law_flat (pad_cons (pd_call (ok_law_quad T) mono_law_quad (hr.mono (by decide)) rfl T.m_law_quad T.F_law_quad.kp T.b_law_quad (pad_cons (pd_var (pv 0)) pad_nil)) pad_nil)))
  (psd_cons (psd_set (i := 2) sc.nd rfl (loc_of rfl) pd_int)
  (psd_cons (psd_for PassesOwn.never rfl (pid_seq (pd_var (pv 1))) (pgd_name (i := 3) sc.nd rfl (loc_of rfl))
  (psd_one (psd_set (i := 2) sc.nd rfl (loc_of rfl) (pd_call (ok_law_euclid T) mono_law_euclid (hr.mono (by decide)) rfl T.m_law_euclid T.F_law_euclid.kp T.b_law_euclid (pad_cons (pd_var (pv 2)) (pad_cons (pd_var (pv 3)) pad_nil))))))
  (psd_cons (psd_setComp (i := 1) sc.nd rfl (loc_of rfl) (xs := ["number"]) (M := ["script", "flat", "divides", "?number", "bottom", "rows", "many", "row", "inside"]) (n := 1) (by rfl) rfl rfl (pid_seq (pd_var (pv 1))) (fun _ _ _ _ => (pgn_name (i := 0) (by decide) (show List.Nodup (["number", "script", "flat", "divides", "?number", "bottom", "rows", "many", "row", "inside"] : List Str) by decide +kernel) rfl (by first | exact Or.inl rfl | exact Or.inr rfl))) (fun _ _ _ _ => pbs_nil) (fun _ _ _ _ => (pd_op o_fdiv (pd_var (pv 0)) (pd_var (pv 3)))))
  (psd_cons (psd_set (i := 4) sc.nd rfl (loc_of rfl) (pd_ix (pd_var (pv 1)) pd_int (fun _ _ => rfl)))
  (psd_cons (psd_set (i := 5) sc.nd rfl (loc_of rfl) (pd_new (pf_lst (pad_cons (pd_new (pf_slice (pd_var (pv 1)) (pod_some pd_int) (pod_some pd_int))) (pad_cons (pd_new (pf_slice (pd_var (pv 1)) (pod_some pd_int) (pod_some pd_int))) (pad_cons (pd_new (pf_slice (pd_var (pv 1)) (pod_some pd_int) (pod_some pd_int))) pad_nil))))))
  (psd_cons (psd_set (i := 6) sc.nd rfl (loc_of rfl) pd_int)
  (psd_cons (psd_for PassesOwn.never rfl (pid_seq (pd_call (ok_shared_grids T) mono_shared_grids (hr.mono (by decide)) rfl T.m_shared_grids T.F_shared_grids.kp T.b_shared_grids (pad_cons (pd_var (pv 4)) pad_nil))) (pgd_name (i := 7) sc.nd rfl (loc_of rfl))
  (psd_cons (psd_setComp (i := 8) sc.nd rfl (loc_of rfl) (xs := ["point"]) (M := ["script", "flat", "divides", "number", "bottom", "rows", "many", "row", "inside"]) (n := 1) (by rfl) rfl rfl (pid_seq (pd_ix (pd_var (pv 7)) pd_int (fun _ _ => rfl))) (fun _ _ _ _ => (pgn_name (i := 0) (by decide) (show List.Nodup (["point", "script", "flat", "divides", "number", "bottom", "rows", "many", "row", "inside"] : List Str) by decide +kernel) rfl (by first | exact Or.inl rfl | exact Or.inr rfl))) (fun _ _ _ _ => (pbs_one (pb_val (pd_call (ok_law_led_back T) mono_law_led_back (hr.mono (by decide)) rfl T.m_law_led_back T.F_law_led_back.kp T.b_law_led_back (pad_cons (pd_var (pv 6)) (pad_cons (pd_var (pv 5)) (pad_cons (pd_var (pv 0)) pad_nil))))))) (fun _ _ _ _ => (pd_var (pv 0))))
  (psd_one (psd_if (pb_cmp o_eq (pd_callB b_len rfl T.z_len bt_len (pad_cons (pd_var (pv 8)) pad_nil)) pd_int (nomark _))
  (psd_one (psd_set (i := 6) sc.nd rfl (loc_of rfl) (pd_op o_add (pd_var (pv 6)) pd_int)))
  psd_nil))))
  (psd_one (psd_ret (pd_cmp o_eq (pd_var (pv 6)) pd_int (nomark _)))))))))))), rd_law⟩)
theorem all_mk {l : PySem.W.OpenLaw} {w : World} {K : PySem.W.Frag} {h : Heap} {mg : Str → Option Value} {fa : Addr} (X : K.In h) (G : h.Ns mainGlobals mg) (hfa : mg "law" = some (.ref fa))
    {f0 : Addr} {od0 an0 : Option Addr} {sl0 : Array (Option Value)} {oc0 kV0 dc0 pm0 cd0 ct0 : Value}
    (a0 : PySem.W.nsIn K mainGlobals "_law_flat" = some (some (.ref f0))) (l0 : K.lookup f0 = some ⟨oc0, od0, .func (PySem.W.fnOf "_law_flat" "_law_flat" (defArgs s_law_flat) (defBody s_law_flat) (defScope s_law_flat) .none kV0 dc0 pm0 an0 cd0 ct0), sl0⟩) (c0 : PySem.W.codeIn K cd0 "_law_flat" = true) (k0 : PySem.W.keepIn K (.ref f0) = true)
    {f1 : Addr} {od1 an1 : Option Addr} {sl1 : Array (Option Value)} {oc1 kV1 dc1 pm1 cd1 ct1 : Value}
    (a1 : PySem.W.nsIn K mainGlobals "roots_by_squares" = some (some (.ref f1))) (l1 : K.lookup f1 = some ⟨oc1, od1, .func (PySem.W.fnOf "roots_by_squares" "roots_by_squares" (defArgs s_roots_by_squares) (defBody s_roots_by_squares) (defScope s_roots_by_squares) .none kV1 dc1 pm1 an1 cd1 ct1), sl1⟩) (c1 : PySem.W.codeIn K cd1 "roots_by_squares" = true) (k1 : PySem.W.keepIn K (.ref f1) = true)
    {f2 : Addr} {od2 an2 : Option Addr} {sl2 : Array (Option Value)} {oc2 kV2 dc2 pm2 cd2 ct2 : Value}
    (a2 : PySem.W.nsIn K mainGlobals "rows_to_ask" = some (some (.ref f2))) (l2 : K.lookup f2 = some ⟨oc2, od2, .func (PySem.W.fnOf "rows_to_ask" "rows_to_ask" (defArgs s_rows_to_ask) (defBody s_rows_to_ask) (defScope s_rows_to_ask) .none kV2 dc2 pm2 an2 cd2 ct2), sl2⟩) (c2 : PySem.W.codeIn K cd2 "rows_to_ask" = true) (k2 : PySem.W.keepIn K (.ref f2) = true)
    {f3 : Addr} {od3 an3 : Option Addr} {sl3 : Array (Option Value)} {oc3 kV3 dc3 pm3 cd3 ct3 : Value}
    (a3 : PySem.W.nsIn K mainGlobals "divisor_of_two" = some (some (.ref f3))) (l3 : K.lookup f3 = some ⟨oc3, od3, .func (PySem.W.fnOf "divisor_of_two" "divisor_of_two" (defArgs s_divisor_of_two) (defBody s_divisor_of_two) (defScope s_divisor_of_two) .none kV3 dc3 pm3 an3 cd3 ct3), sl3⟩) (c3 : PySem.W.codeIn K cd3 "divisor_of_two" = true) (k3 : PySem.W.keepIn K (.ref f3) = true)
    {f4 : Addr} {od4 an4 : Option Addr} {sl4 : Array (Option Value)} {oc4 kV4 dc4 pm4 cd4 ct4 : Value}
    (a4 : PySem.W.nsIn K mainGlobals "divisor" = some (some (.ref f4))) (l4 : K.lookup f4 = some ⟨oc4, od4, .func (PySem.W.fnOf "divisor" "divisor" (defArgs s_divisor) (defBody s_divisor) (defScope s_divisor) .none kV4 dc4 pm4 an4 cd4 ct4), sl4⟩) (c4 : PySem.W.codeIn K cd4 "divisor" = true) (k4 : PySem.W.keepIn K (.ref f4) = true)
    {f5 : Addr} {od5 an5 : Option Addr} {sl5 : Array (Option Value)} {oc5 kV5 dc5 pm5 cd5 ct5 : Value}
    (a5 : PySem.W.nsIn K mainGlobals "row_times" = some (some (.ref f5))) (l5 : K.lookup f5 = some ⟨oc5, od5, .func (PySem.W.fnOf "row_times" "row_times" (defArgs s_row_times) (defBody s_row_times) (defScope s_row_times) .none kV5 dc5 pm5 an5 cd5 ct5), sl5⟩) (c5 : PySem.W.codeIn K cd5 "row_times" = true) (k5 : PySem.W.keepIn K (.ref f5) = true)
    {f6 : Addr} {od6 an6 : Option Addr} {sl6 : Array (Option Value)} {oc6 kV6 dc6 pm6 cd6 ct6 : Value}
    (a6 : PySem.W.nsIn K mainGlobals "has_turn" = some (some (.ref f6))) (l6 : K.lookup f6 = some ⟨oc6, od6, .func (PySem.W.fnOf "has_turn" "has_turn" (defArgs s_has_turn) (defBody s_has_turn) (defScope s_has_turn) .none kV6 dc6 pm6 an6 cd6 ct6), sl6⟩) (c6 : PySem.W.codeIn K cd6 "has_turn" = true) (k6 : PySem.W.keepIn K (.ref f6) = true)
    {f7 : Addr} {od7 an7 : Option Addr} {sl7 : Array (Option Value)} {oc7 kV7 dc7 pm7 cd7 ct7 : Value}
    (a7 : PySem.W.nsIn K mainGlobals "size" = some (some (.ref f7))) (l7 : K.lookup f7 = some ⟨oc7, od7, .func (PySem.W.fnOf "size" "size" (defArgs s_size) (defBody s_size) (defScope s_size) .none kV7 dc7 pm7 an7 cd7 ct7), sl7⟩) (c7 : PySem.W.codeIn K cd7 "size" = true) (k7 : PySem.W.keepIn K (.ref f7) = true)
    {f8 : Addr} {od8 an8 : Option Addr} {sl8 : Array (Option Value)} {oc8 kV8 dc8 pm8 cd8 ct8 : Value}
    (a8 : PySem.W.nsIn K mainGlobals "rows_of" = some (some (.ref f8))) (l8 : K.lookup f8 = some ⟨oc8, od8, .func (PySem.W.fnOf "rows_of" "rows_of" (defArgs s_rows_of) (defBody s_rows_of) (defScope s_rows_of) .none kV8 dc8 pm8 an8 cd8 ct8), sl8⟩) (c8 : PySem.W.codeIn K cd8 "rows_of" = true) (k8 : PySem.W.keepIn K (.ref f8) = true)
    {f9 : Addr} {od9 an9 : Option Addr} {sl9 : Array (Option Value)} {oc9 kV9 dc9 pm9 cd9 ct9 : Value}
    (a9 : PySem.W.nsIn K mainGlobals "table_divisor" = some (some (.ref f9))) (l9 : K.lookup f9 = some ⟨oc9, od9, .func (PySem.W.fnOf "table_divisor" "table_divisor" (defArgs s_table_divisor) (defBody s_table_divisor) (defScope s_table_divisor) .none kV9 dc9 pm9 an9 cd9 ct9), sl9⟩) (c9 : PySem.W.codeIn K cd9 "table_divisor" = true) (k9 : PySem.W.keepIn K (.ref f9) = true)
    {f10 : Addr} {od10 an10 : Option Addr} {sl10 : Array (Option Value)} {oc10 kV10 dc10 pm10 cd10 ct10 : Value}
    (a10 : PySem.W.nsIn K mainGlobals "row_over" = some (some (.ref f10))) (l10 : K.lookup f10 = some ⟨oc10, od10, .func (PySem.W.fnOf "row_over" "row_over" (defArgs s_row_over) (defBody s_row_over) (defScope s_row_over) .none kV10 dc10 pm10 an10 cd10 ct10), sl10⟩) (c10 : PySem.W.codeIn K cd10 "row_over" = true) (k10 : PySem.W.keepIn K (.ref f10) = true)
    {f11 : Addr} {od11 an11 : Option Addr} {sl11 : Array (Option Value)} {oc11 kV11 dc11 pm11 cd11 ct11 : Value}
    (a11 : PySem.W.nsIn K mainGlobals "turn_of" = some (some (.ref f11))) (l11 : K.lookup f11 = some ⟨oc11, od11, .func (PySem.W.fnOf "turn_of" "turn_of" (defArgs s_turn_of) (defBody s_turn_of) (defScope s_turn_of) .none kV11 dc11 pm11 an11 cd11 ct11), sl11⟩) (c11 : PySem.W.codeIn K cd11 "turn_of" = true) (k11 : PySem.W.keepIn K (.ref f11) = true)
    {f12 : Addr} {od12 an12 : Option Addr} {sl12 : Array (Option Value)} {oc12 kV12 dc12 pm12 cd12 ct12 : Value}
    (a12 : PySem.W.nsIn K mainGlobals "product" = some (some (.ref f12))) (l12 : K.lookup f12 = some ⟨oc12, od12, .func (PySem.W.fnOf "product" "product" (defArgs s_product) (defBody s_product) (defScope s_product) .none kV12 dc12 pm12 an12 cd12 ct12), sl12⟩) (c12 : PySem.W.codeIn K cd12 "product" = true) (k12 : PySem.W.keepIn K (.ref f12) = true)
    {f13 : Addr} {od13 an13 : Option Addr} {sl13 : Array (Option Value)} {oc13 kV13 dc13 pm13 cd13 ct13 : Value}
    (a13 : PySem.W.nsIn K mainGlobals "stone_product" = some (some (.ref f13))) (l13 : K.lookup f13 = some ⟨oc13, od13, .func (PySem.W.fnOf "stone_product" "stone_product" (defArgs s_stone_product) (defBody s_stone_product) (defScope s_stone_product) .none kV13 dc13 pm13 an13 cd13 ct13), sl13⟩) (c13 : PySem.W.codeIn K cd13 "stone_product" = true) (k13 : PySem.W.keepIn K (.ref f13) = true)
    {f14 : Addr} {od14 an14 : Option Addr} {sl14 : Array (Option Value)} {oc14 kV14 dc14 pm14 cd14 ct14 : Value}
    (a14 : PySem.W.nsIn K mainGlobals "row_mix" = some (some (.ref f14))) (l14 : K.lookup f14 = some ⟨oc14, od14, .func (PySem.W.fnOf "row_mix" "row_mix" (defArgs s_row_mix) (defBody s_row_mix) (defScope s_row_mix) .none kV14 dc14 pm14 an14 cd14 ct14), sl14⟩) (c14 : PySem.W.codeIn K cd14 "row_mix" = true) (k14 : PySem.W.keepIn K (.ref f14) = true)
    {f15 : Addr} {od15 an15 : Option Addr} {sl15 : Array (Option Value)} {oc15 kV15 dc15 pm15 cd15 ct15 : Value}
    (a15 : PySem.W.nsIn K mainGlobals "row_less" = some (some (.ref f15))) (l15 : K.lookup f15 = some ⟨oc15, od15, .func (PySem.W.fnOf "row_less" "row_less" (defArgs s_row_less) (defBody s_row_less) (defScope s_row_less) .none kV15 dc15 pm15 an15 cd15 ct15), sl15⟩) (c15 : PySem.W.codeIn K cd15 "row_less" = true) (k15 : PySem.W.keepIn K (.ref f15) = true)
    {f16 : Addr} {od16 an16 : Option Addr} {sl16 : Array (Option Value)} {oc16 kV16 dc16 pm16 cd16 ct16 : Value}
    (a16 : PySem.W.nsIn K mainGlobals "with_rest" = some (some (.ref f16))) (l16 : K.lookup f16 = some ⟨oc16, od16, .func (PySem.W.fnOf "with_rest" "with_rest" (defArgs s_with_rest) (defBody s_with_rest) (defScope s_with_rest) .none kV16 dc16 pm16 an16 cd16 ct16), sl16⟩) (c16 : PySem.W.codeIn K cd16 "with_rest" = true) (k16 : PySem.W.keepIn K (.ref f16) = true)
    {f17 : Addr} {od17 an17 : Option Addr} {sl17 : Array (Option Value)} {oc17 kV17 dc17 pm17 cd17 ct17 : Value}
    (a17 : PySem.W.nsIn K mainGlobals "mirrored" = some (some (.ref f17))) (l17 : K.lookup f17 = some ⟨oc17, od17, .func (PySem.W.fnOf "mirrored" "mirrored" (defArgs s_mirrored) (defBody s_mirrored) (defScope s_mirrored) .none kV17 dc17 pm17 an17 cd17 ct17), sl17⟩) (c17 : PySem.W.codeIn K cd17 "mirrored" = true) (k17 : PySem.W.keepIn K (.ref f17) = true)
    {f18 : Addr} {od18 an18 : Option Addr} {sl18 : Array (Option Value)} {oc18 kV18 dc18 pm18 cd18 ct18 : Value}
    (a18 : PySem.W.nsIn K mainGlobals "even_stone_near" = some (some (.ref f18))) (l18 : K.lookup f18 = some ⟨oc18, od18, .func (PySem.W.fnOf "even_stone_near" "even_stone_near" (defArgs s_even_stone_near) (defBody s_even_stone_near) (defScope s_even_stone_near) .none kV18 dc18 pm18 an18 cd18 ct18), sl18⟩) (c18 : PySem.W.codeIn K cd18 "even_stone_near" = true) (k18 : PySem.W.keepIn K (.ref f18) = true)
    {f19 : Addr} {od19 an19 : Option Addr} {sl19 : Array (Option Value)} {oc19 kV19 dc19 pm19 cd19 ct19 : Value}
    (a19 : PySem.W.nsIn K mainGlobals "odd_stone_near" = some (some (.ref f19))) (l19 : K.lookup f19 = some ⟨oc19, od19, .func (PySem.W.fnOf "odd_stone_near" "odd_stone_near" (defArgs s_odd_stone_near) (defBody s_odd_stone_near) (defScope s_odd_stone_near) .none kV19 dc19 pm19 an19 cd19 ct19), sl19⟩) (c19 : PySem.W.codeIn K cd19 "odd_stone_near" = true) (k19 : PySem.W.keepIn K (.ref f19) = true)
    {f20 : Addr} {od20 an20 : Option Addr} {sl20 : Array (Option Value)} {oc20 kV20 dc20 pm20 cd20 ct20 : Value}
    (a20 : PySem.W.nsIn K mainGlobals "weight" = some (some (.ref f20))) (l20 : K.lookup f20 = some ⟨oc20, od20, .func (PySem.W.fnOf "weight" "weight" (defArgs s_weight) (defBody s_weight) (defScope s_weight) .none kV20 dc20 pm20 an20 cd20 ct20), sl20⟩) (c20 : PySem.W.codeIn K cd20 "weight" = true) (k20 : PySem.W.keepIn K (.ref f20) = true)
    {f21 : Addr} {od21 an21 : Option Addr} {sl21 : Array (Option Value)} {oc21 kV21 dc21 pm21 cd21 ct21 : Value}
    (a21 : PySem.W.nsIn K mainGlobals "divided" = some (some (.ref f21))) (l21 : K.lookup f21 = some ⟨oc21, od21, .func (PySem.W.fnOf "divided" "divided" (defArgs s_divided) (defBody s_divided) (defScope s_divided) .none kV21 dc21 pm21 an21 cd21 ct21), sl21⟩) (c21 : PySem.W.codeIn K cd21 "divided" = true) (k21 : PySem.W.keepIn K (.ref f21) = true)
    {f22 : Addr} {od22 an22 : Option Addr} {sl22 : Array (Option Value)} {oc22 kV22 dc22 pm22 cd22 ct22 : Value}
    (a22 : PySem.W.nsIn K mainGlobals "common" = some (some (.ref f22))) (l22 : K.lookup f22 = some ⟨oc22, od22, .func (PySem.W.fnOf "common" "common" (defArgs s_common) (defBody s_common) (defScope s_common) .none kV22 dc22 pm22 an22 cd22 ct22), sl22⟩) (c22 : PySem.W.codeIn K cd22 "common" = true) (k22 : PySem.W.keepIn K (.ref f22) = true)
    {f23 : Addr} {od23 an23 : Option Addr} {sl23 : Array (Option Value)} {oc23 kV23 dc23 pm23 cd23 ct23 : Value}
    (a23 : PySem.W.nsIn K mainGlobals "turn_of_dial" = some (some (.ref f23))) (l23 : K.lookup f23 = some ⟨oc23, od23, .func (PySem.W.fnOf "turn_of_dial" "turn_of_dial" (defArgs s_turn_of_dial) (defBody s_turn_of_dial) (defScope s_turn_of_dial) .none kV23 dc23 pm23 an23 cd23 ct23), sl23⟩) (c23 : PySem.W.codeIn K cd23 "turn_of_dial" = true) (k23 : PySem.W.keepIn K (.ref f23) = true)
    {f24 : Addr} {od24 an24 : Option Addr} {sl24 : Array (Option Value)} {oc24 kV24 dc24 pm24 cd24 ct24 : Value}
    (a24 : PySem.W.nsIn K mainGlobals "makings" = some (some (.ref f24))) (l24 : K.lookup f24 = some ⟨oc24, od24, .func (PySem.W.fnOf "makings" "makings" (defArgs s_makings) (defBody s_makings) (defScope s_makings) .none kV24 dc24 pm24 an24 cd24 ct24), sl24⟩) (c24 : PySem.W.codeIn K cd24 "makings" = true) (k24 : PySem.W.keepIn K (.ref f24) = true)
    {f25 : Addr} {od25 an25 : Option Addr} {sl25 : Array (Option Value)} {oc25 kV25 dc25 pm25 cd25 ct25 : Value}
    (a25 : PySem.W.nsIn K mainGlobals "dial_stair" = some (some (.ref f25))) (l25 : K.lookup f25 = some ⟨oc25, od25, .func (PySem.W.fnOf "dial_stair" "dial_stair" (defArgs s_dial_stair) (defBody s_dial_stair) (defScope s_dial_stair) .none kV25 dc25 pm25 an25 cd25 ct25), sl25⟩) (c25 : PySem.W.codeIn K cd25 "dial_stair" = true) (k25 : PySem.W.keepIn K (.ref f25) = true)
    {f26 : Addr} {od26 an26 : Option Addr} {sl26 : Array (Option Value)} {oc26 kV26 dc26 pm26 cd26 ct26 : Value}
    (a26 : PySem.W.nsIn K mainGlobals "shared_grids" = some (some (.ref f26))) (l26 : K.lookup f26 = some ⟨oc26, od26, .func (PySem.W.fnOf "shared_grids" "shared_grids" (defArgs s_shared_grids) (defBody s_shared_grids) (defScope s_shared_grids) .none kV26 dc26 pm26 an26 cd26 ct26), sl26⟩) (c26 : PySem.W.codeIn K cd26 "shared_grids" = true) (k26 : PySem.W.keepIn K (.ref f26) = true)
    {f27 : Addr} {od27 an27 : Option Addr} {sl27 : Array (Option Value)} {oc27 kV27 dc27 pm27 cd27 ct27 : Value}
    (a27 : PySem.W.nsIn K mainGlobals "_law_cell_at" = some (some (.ref f27))) (l27 : K.lookup f27 = some ⟨oc27, od27, .func (PySem.W.fnOf "_law_cell_at" "_law_cell_at" (defArgs s_law_cell_at) (defBody s_law_cell_at) (defScope s_law_cell_at) .none kV27 dc27 pm27 an27 cd27 ct27), sl27⟩) (c27 : PySem.W.codeIn K cd27 "_law_cell_at" = true) (k27 : PySem.W.keepIn K (.ref f27) = true)
    {f28 : Addr} {od28 an28 : Option Addr} {sl28 : Array (Option Value)} {oc28 kV28 dc28 pm28 cd28 ct28 : Value}
    (a28 : PySem.W.nsIn K mainGlobals "_law_quad" = some (some (.ref f28))) (l28 : K.lookup f28 = some ⟨oc28, od28, .func (PySem.W.fnOf "_law_quad" "_law_quad" (defArgs s_law_quad) (defBody s_law_quad) (defScope s_law_quad) .none kV28 dc28 pm28 an28 cd28 ct28), sl28⟩) (c28 : PySem.W.codeIn K cd28 "_law_quad" = true) (k28 : PySem.W.keepIn K (.ref f28) = true)
    {f29 : Addr} {od29 an29 : Option Addr} {sl29 : Array (Option Value)} {oc29 kV29 dc29 pm29 cd29 ct29 : Value}
    (a29 : PySem.W.nsIn K mainGlobals "_law_euclid" = some (some (.ref f29))) (l29 : K.lookup f29 = some ⟨oc29, od29, .func (PySem.W.fnOf "_law_euclid" "_law_euclid" (defArgs s_law_euclid) (defBody s_law_euclid) (defScope s_law_euclid) .none kV29 dc29 pm29 an29 cd29 ct29), sl29⟩) (c29 : PySem.W.codeIn K cd29 "_law_euclid" = true) (k29 : PySem.W.keepIn K (.ref f29) = true)
    {f30 : Addr} {od30 an30 : Option Addr} {sl30 : Array (Option Value)} {oc30 kV30 dc30 pm30 cd30 ct30 : Value}
    (a30 : PySem.W.nsIn K mainGlobals "_law_led_back" = some (some (.ref f30))) (l30 : K.lookup f30 = some ⟨oc30, od30, .func (PySem.W.fnOf "_law_led_back" "_law_led_back" (defArgs s_law_led_back) (defBody s_law_led_back) (defScope s_law_led_back) .none kV30 dc30 pm30 an30 cd30 ct30), sl30⟩) (c30 : PySem.W.codeIn K cd30 "_law_led_back" = true) (k30 : PySem.W.keepIn K (.ref f30) = true)
    {f31 : Addr} {od31 an31 : Option Addr} {sl31 : Array (Option Value)} {oc31 kV31 dc31 pm31 cd31 ct31 : Value}
    (a31 : PySem.W.nsIn K mainGlobals "law" = some (some (.ref f31))) (l31 : K.lookup f31 = some ⟨oc31, od31, .func (PySem.W.fnOf "law" "law" (defArgs s_law) (defBody s_law) (defScope s_law) .none kV31 dc31 pm31 an31 cd31 ct31), sl31⟩) (c31 : PySem.W.codeIn K cd31 "law" = true) (k31 : PySem.W.keepIn K (.ref f31) = true)
    (z_abs : PySem.W.nsIn K mainGlobals "abs" = some none)
    (z_len : PySem.W.nsIn K mainGlobals "len" = some none)
    (z_list : PySem.W.nsIn K mainGlobals "list" = some none)
    (z_max : PySem.W.nsIn K mainGlobals "max" = some none)
    (z_min : PySem.W.nsIn K mainGlobals "min" = some none)
    (z_range : PySem.W.nsIn K mainGlobals "range" = some none)
    (z_sorted : PySem.W.nsIn K mainGlobals "sorted" = some none)
    (z_sum : PySem.W.nsIn K mainGlobals "sum" = some none)
    (z_tuple : PySem.W.nsIn K mainGlobals "tuple" = some none)
    {f_NOUGHT : Addr} {od_NOUGHT : Option Addr} {n_NOUGHT : Nat} {sl_NOUGHT : Array (Option Value)} {tkNOUGHT0 tkNOUGHT1 tkNOUGHT2 tkNOUGHT3 : Tok}
    (a_NOUGHT : PySem.W.nsIn K mainGlobals "NOUGHT" = some (some (.ref f_NOUGHT))) (l_NOUGHT : K.lookup f_NOUGHT = some ⟨.type "tuple", od_NOUGHT, .seq #[.int 0 tkNOUGHT0, .int 0 tkNOUGHT1, .int 0 tkNOUGHT2, .int 0 tkNOUGHT3] n_NOUGHT, sl_NOUGHT⟩)
    {f_ONE : Addr} {od_ONE : Option Addr} {n_ONE : Nat} {sl_ONE : Array (Option Value)} {tkONE0 tkONE1 tkONE2 tkONE3 : Tok}
    (a_ONE : PySem.W.nsIn K mainGlobals "ONE" = some (some (.ref f_ONE))) (l_ONE : K.lookup f_ONE = some ⟨.type "tuple", od_ONE, .seq #[.int 2 tkONE0, .int 0 tkONE1, .int 0 tkONE2, .int 0 tkONE3] n_ONE, sl_ONE⟩)
    : ∃ fd : FuncData, (∀ (s : Shared) (v : Value), BindsTo s fd ⟨[v], []⟩ [("script", v)]) ∧ ∀ base : Heap, K.In base → base.Ns mainGlobals mg → FnOk l.prog w K mg base CX0 8 fa fd ["script"] (spD K 1 cLaw) := by
  have e := hfa.symm.trans (PySem.W.mg_of X G a31)
  cases e
  have F0 := fun_mk (st := s_law_flat) l0 c0 k0
  have b0 := F0.binds (ps := ["quad"]) fun _ _ _ _ _ _ us hl => len_1 us hl fun _ => rfl
  have F1 := fun_mk (st := s_roots_by_squares) l1 c1 k1
  have b1 := F1.binds (ps := ["m"]) fun _ _ _ _ _ _ us hl => len_1 us hl fun _ => rfl
  have F2 := fun_mk (st := s_rows_to_ask) l2 c2 k2
  have b2 := F2.binds (ps := ["m"]) fun _ _ _ _ _ _ us hl => len_1 us hl fun _ => rfl
  have F3 := fun_mk (st := s_divisor_of_two) l3 c3 k3
  have b3 := F3.binds (ps := ["one", "other"]) fun _ _ _ _ _ _ us hl => len_2 us hl fun _ _ => rfl
  have F4 := fun_mk (st := s_divisor) l4 c4 k4
  have b4 := F4.binds (ps := ["numbers"]) fun _ _ _ _ _ _ us hl => len_1 us hl fun _ => rfl
  have F5 := fun_mk (st := s_row_times) l5 c5 k5
  have b5 := F5.binds (ps := ["one", "other"]) fun _ _ _ _ _ _ us hl => len_2 us hl fun _ _ => rfl
  have F6 := fun_mk (st := s_has_turn) l6 c6 k6
  have b6 := F6.binds (ps := ["dial"]) fun _ _ _ _ _ _ us hl => len_1 us hl fun _ => rfl
  have F7 := fun_mk (st := s_size) l7 c7 k7
  have b7 := F7.binds (ps := ["quad"]) fun _ _ _ _ _ _ us hl => len_1 us hl fun _ => rfl
  have F8 := fun_mk (st := s_rows_of) l8 c8 k8
  have b8 := F8.binds (ps := ["quad"]) fun _ _ _ _ _ _ us hl => len_1 us hl fun _ => rfl
  have F9 := fun_mk (st := s_table_divisor) l9 c9 k9
  have b9 := F9.binds (ps := ["rows", "bottom"]) fun _ _ _ _ _ _ us hl => len_2 us hl fun _ _ => rfl
  have F10 := fun_mk (st := s_row_over) l10 c10 k10
  have b10 := F10.binds (ps := ["row", "n"]) fun _ _ _ _ _ _ us hl => len_2 us hl fun _ _ => rfl
  have F11 := fun_mk (st := s_turn_of) l11 c11 k11
  have b11 := F11.binds (ps := ["quad"]) fun _ _ _ _ _ _ us hl => len_1 us hl fun _ => rfl
  have F12 := fun_mk (st := s_product) l12 c12 k12
  have b12 := F12.binds (ps := ["one", "other"]) fun _ _ _ _ _ _ us hl => len_2 us hl fun _ _ => rfl
  have F13 := fun_mk (st := s_stone_product) l13 c13 k13
  have b13 := F13.binds (ps := ["one", "other"]) fun _ _ _ _ _ _ us hl => len_2 us hl fun _ _ => rfl
  have F14 := fun_mk (st := s_row_mix) l14 c14 k14
  have b14 := F14.binds (ps := ["one", "times", "other", "times_too"]) fun _ _ _ _ _ _ us hl => len_4 us hl fun _ _ _ _ => rfl
  have F15 := fun_mk (st := s_row_less) l15 c15 k15
  have b15 := F15.binds (ps := ["row", "taken", "times"]) fun _ _ _ _ _ _ us hl => len_3 us hl fun _ _ _ => rfl
  have F16 := fun_mk (st := s_with_rest) l16 c16 k16
  have b16 := F16.binds (ps := ["x", "y", "k"]) fun _ _ _ _ _ _ us hl => len_3 us hl fun _ _ _ => rfl
  have F17 := fun_mk (st := s_mirrored) l17 c17 k17
  have b17 := F17.binds (ps := ["quad"]) fun _ _ _ _ _ _ us hl => len_1 us hl fun _ => rfl
  have F18 := fun_mk (st := s_even_stone_near) l18 c18 k18
  have b18 := F18.binds (ps := ["aim", "bottom"]) fun _ _ _ _ _ _ us hl => len_2 us hl fun _ _ => rfl
  have F19 := fun_mk (st := s_odd_stone_near) l19 c19 k19
  have b19 := F19.binds (ps := ["aim", "bottom"]) fun _ _ _ _ _ _ us hl => len_2 us hl fun _ _ => rfl
  have F20 := fun_mk (st := s_weight) l20 c20 k20
  have b20 := F20.binds (ps := ["stone"]) fun _ _ _ _ _ _ us hl => len_1 us hl fun _ => rfl
  have F21 := fun_mk (st := s_divided) l21 c21 k21
  have b21 := F21.binds (ps := ["x", "y"]) fun _ _ _ _ _ _ us hl => len_2 us hl fun _ _ => rfl
  have F22 := fun_mk (st := s_common) l22 c22 k22
  have b22 := F22.binds (ps := ["x", "y"]) fun _ _ _ _ _ _ us hl => len_2 us hl fun _ _ => rfl
  have F23 := fun_mk (st := s_turn_of_dial) l23 c23 k23
  have b23 := F23.binds (ps := ["dial"]) fun _ _ _ _ _ _ us hl => len_1 us hl fun _ => rfl
  have F24 := fun_mk (st := s_makings) l24 c24 k24
  have b24 := F24.binds (ps := ["one", "other"]) fun _ _ _ _ _ _ us hl => len_2 us hl fun _ _ => rfl
  have F25 := fun_mk (st := s_dial_stair) l25 c25 k25
  have b25 := F25.binds (ps := ["dial"]) fun _ _ _ _ _ _ us hl => len_1 us hl fun _ => rfl
  have F26 := fun_mk (st := s_shared_grids) l26 c26 k26
  have b26 := F26.binds (ps := ["m"]) fun _ _ _ _ _ _ us hl => len_1 us hl fun _ => rfl
  have F27 := fun_mk (st := s_law_cell_at) l27 c27 k27
  have b27 := F27.binds (ps := ["script", "k"]) fun _ _ _ _ _ _ us hl => len_2 us hl fun _ _ => rfl
  have F28 := fun_mk (st := s_law_quad) l28 c28 k28
  have b28 := F28.binds (ps := ["script"]) fun _ _ _ _ _ _ us hl => len_1 us hl fun _ => rfl
  have F29 := fun_mk (st := s_law_euclid) l29 c29 k29
  have b29 := F29.binds (ps := ["one", "other"]) fun _ _ _ _ _ _ us hl => len_2 us hl fun _ _ => rfl
  have F30 := fun_mk (st := s_law_led_back) l30 c30 k30
  have b30 := F30.binds (ps := ["rows", "bottom", "point"]) fun _ _ _ _ _ _ us hl => len_3 us hl fun _ _ _ => rfl
  have F31 := fun_mk (st := s_law) l31 c31 k31
  have b31 := F31.binds (ps := ["script"]) fun _ _ _ _ _ _ us hl => len_1 us hl fun _ => rfl
  have T : Txt K mg ⟨_, _, _, _, _, _, _, _, _, _, _, _, _, _, _, _, _, _, _, _, _, _, _, _, _, _, _, _, _, _, _, _, _, _, _, _, _, _, _, _, _, _, _, _, _, _, _, _, _, _, _, _, _, _, _, _, _, _, _, _, _, _, _, _, _, _, _, _⟩ := ⟨F0, PySem.W.mg_of X G a0, b0, F1, PySem.W.mg_of X G a1, b1, F2, PySem.W.mg_of X G a2, b2, F3, PySem.W.mg_of X G a3, b3, F4, PySem.W.mg_of X G a4, b4, F5, PySem.W.mg_of X G a5, b5, F6, PySem.W.mg_of X G a6, b6, F7, PySem.W.mg_of X G a7, b7, F8, PySem.W.mg_of X G a8, b8, F9, PySem.W.mg_of X G a9, b9, F10, PySem.W.mg_of X G a10, b10, F11, PySem.W.mg_of X G a11, b11, F12, PySem.W.mg_of X G a12, b12, F13, PySem.W.mg_of X G a13, b13, F14, PySem.W.mg_of X G a14, b14, F15, PySem.W.mg_of X G a15, b15, F16, PySem.W.mg_of X G a16, b16, F17, PySem.W.mg_of X G a17, b17, F18, PySem.W.mg_of X G a18, b18, F19, PySem.W.mg_of X G a19, b19, F20, PySem.W.mg_of X G a20, b20, F21, PySem.W.mg_of X G a21, b21, F22, PySem.W.mg_of X G a22, b22, F23, PySem.W.mg_of X G a23, b23, F24, PySem.W.mg_of X G a24, b24, F25, PySem.W.mg_of X G a25, b25, F26, PySem.W.mg_of X G a26, b26, F27, PySem.W.mg_of X G a27, b27, F28, PySem.W.mg_of X G a28, b28, F29, PySem.W.mg_of X G a29, b29, F30, PySem.W.mg_of X G a30, b30, F31, PySem.W.mg_of X G a31, b31, PySem.W.mg_none_of X G z_abs, PySem.W.mg_none_of X G z_len, PySem.W.mg_none_of X G z_list, PySem.W.mg_none_of X G z_max, PySem.W.mg_none_of X G z_min, PySem.W.mg_none_of X G z_range, PySem.W.mg_none_of X G z_sorted, PySem.W.mg_none_of X G z_sum, PySem.W.mg_none_of X G z_tuple, PySem.W.mg_of X G a_NOUGHT, cst_tup (ns := [0, 0, 0, 0]) l_NOUGHT (show 4 ≤ sizeLine by decide) (vals_int (vals_int (vals_int (vals_int vals_nil)))), PySem.W.mg_of X G a_ONE, cst_tup (ns := [2, 0, 0, 0]) l_ONE (show 4 ≤ sizeLine by decide) (vals_int (vals_int (vals_int (vals_int vals_nil))))⟩
  exact ⟨_, fun s v => .of_eq rfl, fun base _ _ => ok_law T⟩
end My
open PySem PySem.W PyProof.Rows
set_option maxRecDepth 100000 in
set_option maxHeartbeats 0 in
theorem PySem.Challenge.cw_turngrid_k50_whole_none_left_out_holds : PySem.Challenge.rw_turngrid_k50_whole_none_left_out.Holds := by
  w_on; o_law; k_head; (case hw => w_witness2)
  k_fill
  refine D3.walk (l := PySem.Challenge.rw_turngrid_k50_whole_none_left_out) (k := 8) rfl rfl ⟨rfl, by decide, by decide⟩ (fun w h Y => PySem.W.kIn_of Y) ?F
  case F =>
    intro w mg fa h KX G hmg
    refine' My.all_mk KX G hmg ?a0 ?l0 ?c0 ?k0 ?a1 ?l1 ?c1 ?k1 ?a2 ?l2 ?c2 ?k2 ?a3 ?l3 ?c3 ?k3 ?a4 ?l4 ?c4 ?k4 ?a5 ?l5 ?c5 ?k5 ?a6 ?l6 ?c6 ?k6 ?a7 ?l7 ?c7 ?k7 ?a8 ?l8 ?c8 ?k8 ?a9 ?l9 ?c9 ?k9 ?a10 ?l10 ?c10 ?k10 ?a11 ?l11 ?c11 ?k11 ?a12 ?l12 ?c12 ?k12 ?a13 ?l13 ?c13 ?k13 ?a14 ?l14 ?c14 ?k14 ?a15 ?l15 ?c15 ?k15 ?a16 ?l16 ?c16 ?k16 ?a17 ?l17 ?c17 ?k17 ?a18 ?l18 ?c18 ?k18 ?a19 ?l19 ?c19 ?k19 ?a20 ?l20 ?c20 ?k20 ?a21 ?l21 ?c21 ?k21 ?a22 ?l22 ?c22 ?k22 ?a23 ?l23 ?c23 ?k23 ?a24 ?l24 ?c24 ?k24 ?a25 ?l25 ?c25 ?k25 ?a26 ?l26 ?c26 ?k26 ?a27 ?l27 ?c27 ?k27 ?a28 ?l28 ?c28 ?k28 ?a29 ?l29 ?c29 ?k29 ?a30 ?l30 ?c30 ?k30 ?a31 ?l31 ?c31 ?k31 ?z_abs ?z_len ?z_list ?z_max ?z_min ?z_range ?z_sorted ?z_sum ?z_tuple ?a_NOUGHT ?l_NOUGHT ?a_ONE ?l_ONE
    (case a0 => k_is)
    (case l0 => k_is)
    (case c0 => k_is)
    (case k0 => k_is)
    (case a1 => k_is)
    (case l1 => k_is)
    (case c1 => k_is)
    (case k1 => k_is)
    (case a2 => k_is)
    (case l2 => k_is)
    (case c2 => k_is)
    (case k2 => k_is)
    (case a3 => k_is)
    (case l3 => k_is)
    (case c3 => k_is)
    (case k3 => k_is)
    (case a4 => k_is)
    (case l4 => k_is)
    (case c4 => k_is)
    (case k4 => k_is)
    (case a5 => k_is)
    (case l5 => k_is)
    (case c5 => k_is)
    (case k5 => k_is)
    (case a6 => k_is)
    (case l6 => k_is)
    (case c6 => k_is)
    (case k6 => k_is)
    (case a7 => k_is)
    (case l7 => k_is)
    (case c7 => k_is)
    (case k7 => k_is)
    (case a8 => k_is)
    (case l8 => k_is)
    (case c8 => k_is)
    (case k8 => k_is)
    (case a9 => k_is)
    (case l9 => k_is)
    (case c9 => k_is)
    (case k9 => k_is)
    (case a10 => k_is)
    (case l10 => k_is)
    (case c10 => k_is)
    (case k10 => k_is)
    (case a11 => k_is)
    (case l11 => k_is)
    (case c11 => k_is)
    (case k11 => k_is)
    (case a12 => k_is)
    (case l12 => k_is)
    (case c12 => k_is)
    (case k12 => k_is)
    (case a13 => k_is)
    (case l13 => k_is)
    (case c13 => k_is)
    (case k13 => k_is)
    (case a14 => k_is)
    (case l14 => k_is)
    (case c14 => k_is)
    (case k14 => k_is)
    (case a15 => k_is)
    (case l15 => k_is)
    (case c15 => k_is)
    (case k15 => k_is)
    (case a16 => k_is)
    (case l16 => k_is)
    (case c16 => k_is)
    (case k16 => k_is)
    (case a17 => k_is)
    (case l17 => k_is)
    (case c17 => k_is)
    (case k17 => k_is)
    (case a18 => k_is)
    (case l18 => k_is)
    (case c18 => k_is)
    (case k18 => k_is)
    (case a19 => k_is)
    (case l19 => k_is)
    (case c19 => k_is)
    (case k19 => k_is)
    (case a20 => k_is)
    (case l20 => k_is)
    (case c20 => k_is)
    (case k20 => k_is)
    (case a21 => k_is)
    (case l21 => k_is)
    (case c21 => k_is)
    (case k21 => k_is)
    (case a22 => k_is)
    (case l22 => k_is)
    (case c22 => k_is)
    (case k22 => k_is)
    (case a23 => k_is)
    (case l23 => k_is)
    (case c23 => k_is)
    (case k23 => k_is)
    (case a24 => k_is)
    (case l24 => k_is)
    (case c24 => k_is)
    (case k24 => k_is)
    (case a25 => k_is)
    (case l25 => k_is)
    (case c25 => k_is)
    (case k25 => k_is)
    (case a26 => k_is)
    (case l26 => k_is)
    (case c26 => k_is)
    (case k26 => k_is)
    (case a27 => k_is)
    (case l27 => k_is)
    (case c27 => k_is)
    (case k27 => k_is)
    (case a28 => k_is)
    (case l28 => k_is)
    (case c28 => k_is)
    (case k28 => k_is)
    (case a29 => k_is)
    (case l29 => k_is)
    (case c29 => k_is)
    (case k29 => k_is)
    (case a30 => k_is)
    (case l30 => k_is)
    (case c30 => k_is)
    (case k30 => k_is)
    (case a31 => k_is)
    (case l31 => k_is)
    (case c31 => k_is)
    (case k31 => k_is)
    (case z_abs => k_is)
    (case z_len => k_is)
    (case z_list => k_is)
    (case z_max => k_is)
    (case z_min => k_is)
    (case z_range => k_is)
    (case z_sorted => k_is)
    (case z_sum => k_is)
    (case z_tuple => k_is)
    (case a_NOUGHT => k_is)
    (case l_NOUGHT => k_is)
    (case a_ONE => k_is)
    (case l_ONE => k_is)

