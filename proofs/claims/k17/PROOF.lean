import PyProof.Rows.All
import Wide.All
import OpenK.AllK
import Wide.FinOn
import Lean
import PyProof.EqAt
import PyProof.EqKinds
import PyProof.TupleCall
import PyProof.NeKinds
import KE.KRevIter
import PySem.Challenge.RW_turngrid_k17_turns_of_the_cube
set_option Elab.async false
set_option linter.all false
set_option maxRecDepth 100000
set_option Elab.async false
set_option linter.all false
set_option maxRecDepth 100000
namespace L2
open PySem PySem.Spec PyProof.Rows

noncomputable abbrev Key := Sum Int Str
noncomputable def keyIs : Key → Value → Bool
  | .inl k, v => Value.isInt k v
  | .inr x, v => Value.isStrOf x v
noncomputable def keyH (w : World) : Key → Int
  | .inl k => hashInt k
  | .inr x => hashStr w x
theorem keyIs_shape : ∀ {k : Key} {v : Value}, keyIs k v = true → (∃ i t, k = Sum.inl i ∧ v = Value.int i t) ∨ (∃ x t, k = Sum.inr x ∧ v = Value.str x t)
  | .inl i, v, h => by
    obtain ⟨t, e⟩ := Value.isInt_shape (k := i) (v := v) h
    exact .inl ⟨i, t, rfl, e⟩
  | .inr x, v, h => by
    obtain ⟨t, e⟩ := Value.isStrOf_shape (x := x) (v := v) h
    exact .inr ⟨x, t, rfl, e⟩
theorem key_ll (a b : Int) : decide ((Sum.inl a : Key) = Sum.inl b) = (a == b) := by
  by_cases e : a = b
  · subst e; simp
  · have h : ¬ (Sum.inl a : Key) = Sum.inl b := fun q => e (Sum.inl.inj q)
    rw [decide_eq_false h]
    exact (beq_eq_false_iff_ne.mpr e).symm
theorem key_rr (a b : Str) : decide ((Sum.inr a : Key) = Sum.inr b) = decide (a = b) := by
  by_cases e : a = b
  · subst e; simp
  · have h : ¬ (Sum.inr a : Key) = Sum.inr b := fun q => e (Sum.inr.inj q)
    rw [decide_eq_false h, decide_eq_false e]
theorem key_lr (a : Int) (b : Str) : decide ((Sum.inl a : Key) = Sum.inr b) = false := decide_eq_false (fun q => by cases q)
theorem key_rl (a : Str) (b : Int) : decide ((Sum.inr a : Key) = Sum.inl b) = false := decide_eq_false (fun q => by cases q)

noncomputable def mixKind (prog : Program) (w : World) : PySem.KeyKind prog w Key where
  is := keyIs
  hash := keyH w
  inj := fun v a b ha hb => by
    rcases keyIs_shape ha with ⟨i, t, rfl, rfl⟩ | ⟨x, t, rfl, rfl⟩
    · rcases keyIs_shape hb with ⟨j, u, rfl, e⟩ | ⟨y, u, rfl, e⟩
      · injection e with e1 _; rw [e1]
      · exact by cases e
    · rcases keyIs_shape hb with ⟨j, u, rfl, e⟩ | ⟨y, u, rfl, e⟩
      · exact by cases e
      · injection e with e1 _; rw [e1]
  byValue := fun k v h => by
    rcases keyIs_shape h with ⟨i, t, rfl, rfl⟩ | ⟨x, t, rfl, rfl⟩ <;> rfl
  pyHash := fun hv h => by
    rcases keyIs_shape hv with ⟨i, t, rfl, rfl⟩ | ⟨x, t, rfl, rfl⟩
    · exact wpAny_pyHash_int h
    · exact wpAny_pyHash_str h
  eqBool := fun hu hv h => by
    rcases keyIs_shape hu with ⟨i, t, rfl, rfl⟩ | ⟨x, t, rfl, rfl⟩
    · rcases keyIs_shape hv with ⟨j, u, rfl, rfl⟩ | ⟨y, u, rfl, rfl⟩
      · rw [key_ll] at h; exact wpAny_eqBool_int h
      · rw [key_lr] at h; exact SeqAt.EqAt.int_str i t y u _ _ _ _ h
    · rcases keyIs_shape hv with ⟨j, u, rfl, rfl⟩ | ⟨y, u, rfl, rfl⟩
      · rw [key_rl] at h; exact SeqAt.EqAt.str_int x t j u _ _ _ _ h
      · rw [key_rr] at h; exact wpAny_eqBool_str h
  «strs» := fun k x t v h => by
    rcases keyIs_shape h with ⟨i, u, rfl, e⟩ | ⟨y, u, rfl, e⟩
    · exact by cases e
    · injection e with e1 _
      subst e1
      cases v <;> rfl

end L2

namespace L2
open PySem PySem.Spec PyProof.Rows

inductive V where
  | non | bl (b : Bool) | int (i : Int) | str (x : Str) | byt (b : Array UInt8) | flt (b : UInt64) | ref (a : Addr) | ty (n : String)
  deriving DecidableEq

noncomputable def RelV : V → Value → Prop
  | .non, u => u = Value.none
  | .bl b, u => u = Value.bool b
  | .int i, u => ∃ t, u = Value.int i t
  | .str x, u => ∃ t, u = Value.str x t
  | .byt b, u => ∃ t, u = Value.bytes b t
  | .flt b, u => ∃ t, u = Value.float b t
  | .ref a, u => u = Value.ref a
  | .ty n, u => u = Value.type n

noncomputable abbrev Vals : List V → List Value → Prop := Paired RelV
theorem Vals.length {xs : List V} {us : List Value} (r : Vals xs us) : xs.length = us.length := Paired.length r
theorem Vals.get : ∀ {xs : List V} {us : List Value} {i : Nat} {x : V}, Vals xs us → xs[i]? = some x → ∃ u, us[i]? = some u ∧ RelV x u
  | _, _, _, _, .nil, e => by simp at e
  | _, _, 0, _, .cons r _, e => by simp at e; subst e; exact ⟨_, rfl, r⟩
  | _, _, i + 1, x, .cons _ t, e => by
    obtain ⟨u, h1, h2⟩ := Vals.get (i := i) (x := x) t (by simpa using e)
    exact ⟨u, by simpa using h1, h2⟩
theorem Vals.set {x : V} {u : Value} (r : RelV x u) : ∀ {xs : List V} {us : List Value} (i : Nat), Vals xs us → Vals (xs.set i x) (us.set i u)
  | _, _, _, .nil => .nil
  | _, _, 0, .cons _ t => .cons r t
  | _, _, i + 1, .cons q t => .cons q (Vals.set r i t)
theorem Vals.append : ∀ {xs ys : List V} {us ws : List Value}, Vals xs us → Vals ys ws → Vals (xs ++ ys) (us ++ ws)
  | _, _, _, _, .nil, s => s
  | _, _, _, _, .cons r t, s => .cons r (Vals.append t s)
theorem Vals.take : ∀ {xs : List V} {us : List Value} (n : Nat), Vals xs us → Vals (xs.take n) (us.take n)
  | _, _, 0, _ => .nil
  | _, _, _ + 1, .nil => .nil
  | _, _, n + 1, .cons r t => .cons r (Vals.take n t)
theorem Vals.drop : ∀ {xs : List V} {us : List Value} (n : Nat), Vals xs us → Vals (xs.drop n) (us.drop n)
  | _, _, 0, r => r
  | _, _, _ + 1, .nil => .nil
  | _, _, n + 1, .cons _ t => Vals.drop n t
theorem Vals.none_of : ∀ {xs : List V} {us : List Value} {i : Nat}, Vals xs us → xs[i]? = none → us[i]? = none := fun {xs us i} r e => by
  have h1 := r.length
  have h2 : xs.length ≤ i := List.getElem?_eq_none_iff.mp e
  exact List.getElem?_eq_none_iff.mpr (by omega)

noncomputable def RelO : Option V → Option Value → Prop
  | some v, some u => RelV v u
  | none, none => True
  | _, _ => False
noncomputable def KV {κ : Type} : List (κ × V) → List (κ × Value) → Prop := Paired fun (p : κ × V) (q : κ × Value) => p.1 = q.1 ∧ RelV p.2 q.2

noncomputable def kV : Key → V
  | .inl i => .int i
  | .inr x => .str x

inductive HO where
  /-- a list -/
  | lst (xs : List V)
  /-- a tuple (never changes) -/
  | tup (xs : List V)
  /-- a dict whose keys are ints and texts; one whose keys are tuples of ints and texts (the empty one is both) -/
  | dK (kvs : List (Key × V)) | dT (kvs : List (List Key × V))
  /-- a set of ints: its members, its size -/
  | set (S : Int → Bool) (n : Nat)
  /-- an instance of the class at C, its dict at dx, its attributes -/
  | ins (C dx : Addr) (fs : List (Str × V))
  /-- the dict of the instance at x -/
  | own (x : Addr)
  /-- the dict of an exception -/
  | xd (fs : List (Str × V))
  /-- a bound method, f of x -/
  | met (f x : Addr)
  /-- a range object lo, lo + 1, .. below hi -/
  | rng (lo hi : Int)
  /-- a thing that is known to the object (the script; a dict while a loop walks it): read, never written while it is so -/
  | frz (o : Obj) (u : HO)
  /-- a code object's table -/
  | tbl (ps : Array Value)
  /-- any other thing, by what is true of its one object (a def of one's own: SetO a S n := HO.ext fun h => ..) -/
  | ext (φ : Heap → Prop)

noncomputable abbrev Hp := Addr → Option HO
noncomputable def upd (H : Hp) (a : Addr) (o : HO) : Hp := fun b => if b = a then some o else H b
theorem upd_same {H : Hp} {a : Addr} {o : HO} : upd H a o a = some o := by unfold upd; rw [if_pos rfl]
theorem upd_ne {H : Hp} {a b : Addr} {o : HO} (h : b ≠ a) : upd H a o b = H b := by unfold upd; rw [if_neg h]
theorem ne_of {H : Hp} {a b : Addr} {o u : HO} (h : H a = some o) (h' : H b = some u) (d : o ≠ u) : a ≠ b := by
  intro e; subst e; rw [h] at h'; exact d (Option.some.inj h')
theorem ne_of_none {H : Hp} {a b : Addr} {o : HO} (h : H a = some o) (h' : H b = none) : a ≠ b := by
  intro e; subst e; rw [h] at h'; cases h'

section
variable (P : Program) (w : World)
noncomputable def ObjOk (H : Hp) (h : Heap) (a : Addr) : HO → Prop
  | .lst xs => xs.length ≤ sizeLine ∧ ∃ (its : List Value) (n : Nat), Vals xs its ∧ h.get? a = some { cls := .type "list", data := .seq its.toArray n }
  | .tup xs => xs.length ≤ sizeLine ∧ ∃ its : List Value, Vals xs its ∧ IsTup h a its.toArray
  | .dK kvs => kvs.length ≤ sizeLine ∧ (a == sysModules) = false ∧ ∃ vs, KV kvs vs ∧ h.DictOf (mixKind P w) a vs
  | .dT kvs => kvs.length ≤ sizeLine ∧ (a == sysModules) = false ∧ ∃ xs : List (List Key × Addr × Value),
      Paired (fun (p : List Key × V) (q : List Key × Addr × Value) => p.1 = q.1 ∧ H q.2.1 = some (.tup (p.1.map kV)) ∧ RelV p.2 q.2.2) kvs xs ∧
      ∃ o es ep, h.get? a = some o ∧ o.ExactDict ∧ o.data = .dict es ep ∧ es.toList = xs.map (entryOfKey (tupleKind (mixKind P w))) ∧ (xs.map (·.1)).Nodup
  | .set S n => h.SetOf (intKind P w) a S n
  | .ins C dx fs => H dx = some (.own a) ∧ fs.length ≤ 1000 ∧ dx ≠ a ∧ h.get? a = some (PySem.W.instObj C dx) ∧
      ∃ mA, h.Ns1 dx mA ∧ (∀ f, RelO (fs.lookup f) (mA f)) ∧ PySem.Within mA (fs.map (·.1))
  | .own _ => ∃ o, h.get? a = some o
  | .xd fs => ∃ mA, h.Ns1 a mA ∧ ∀ f, RelO (fs.lookup f) (mA f)
  | .rng lo hi => ∃ t u v, h.get? a = some { cls := .type "range", data := .fields #[.int lo t, .int hi u, .int 1 v] }
  | .frz o u => h.get? a = some o ∧ ObjOk H h a u
  | .tbl ps => h.get? a = some { cls := .none, data := .fields ps }
  | .met f x => h.get? a = some (PySem.W.methodObj (.ref f) (.ref x))
  | .ext φ => φ h ∧ (∃ o, h.get? a = some o) ∧ ∀ h1 h2 : Heap, φ h1 → (∀ o, h1.get? a = some o → h2.get? a = some o) → φ h2
noncomputable def HOk (H : Hp) (h : Heap) : Prop := ∀ a o, H a = some o → ObjOk P w H h a o
end

section
variable {P : Program} {w : World} {H H' : Hp} {h h' : Heap} {a : Addr} {o : HO}
theorem ObjOk.lt (x : ObjOk P w H h a o) : a < h.objs.size := by
  cases o with
  | lst xs => obtain ⟨_, _, _, _, e⟩ := x; exact Heap.lt_size e
  | tup xs => obtain ⟨_, _, _, p⟩ := x; exact p.lt
  | dK kvs => obtain ⟨_, _, _, _, o, _, _, e, _⟩ := x; exact Heap.lt_size e
  | dT kvs => obtain ⟨_, _, _, _, o, _, _, e, _⟩ := x; exact Heap.lt_size e
  | set S n => obtain ⟨o, _, _, _, e, _⟩ := x; exact Heap.lt_size e
  | ins C dx fs => obtain ⟨_, _, _, e, _⟩ := x; exact Heap.lt_size e
  | own y => obtain ⟨_, e⟩ := x; exact Heap.lt_size e
  | xd fs => obtain ⟨_, ⟨_, _, _, e, _⟩, _⟩ := x; exact Heap.lt_size e
  | rng lo hi => obtain ⟨_, _, _, e⟩ := x; exact Heap.lt_size e
  | frz ob u => obtain ⟨e, _⟩ := x; exact Heap.lt_size e
  | tbl ps => exact Heap.lt_size (show h.get? a = some _ from x)
  | met f y => exact Heap.lt_size (show h.get? a = some _ from x)
  | ext φ => obtain ⟨_, ⟨_, e⟩, _⟩ := x; exact Heap.lt_size e
theorem Paired.mapP {α β : Type} {F G : α → β → Prop} : ∀ {l₁ : List α} {l₂ : List β}, Paired F l₁ l₂ → (∀ a b, F a b → G a b) → Paired G l₁ l₂
  | _, _, .nil, _ => .nil
  | _, _, .cons r t, f => .cons (f _ _ r) (Paired.mapP t f)
theorem ObjOk.stay (x : ObjOk P w H h a o) (k : ∀ b u, (b = a ∨ H b = some (.own a)) → h.get? b = some u → h'.get? b = some u)
    (ho : ∀ b, H b = some (.own a) → H' b = some (.own a)) (ht : ∀ b xs, H b = some (.tup xs) → H' b = some (.tup xs)) : ObjOk P w H' h' a o := by
  induction o with
  | lst xs => obtain ⟨z, its, n, r, e⟩ := x; exact ⟨z, its, n, r, k _ _ (.inl rfl) e⟩
  | tup xs => obtain ⟨z, its, r, ob, e, c⟩ := x; exact ⟨z, its, r, ob, k _ _ (.inl rfl) e, c⟩
  | dK kvs => obtain ⟨z, y, vs, r, ob, es, ep, e, c⟩ := x; exact ⟨z, y, vs, r, ob, es, ep, k _ _ (.inl rfl) e, c⟩
  | dT kvs =>
    obtain ⟨z, y, xs, r, ob, es, ep, e, c⟩ := x
    exact ⟨z, y, xs, Paired.mapP r fun p q z => ⟨z.1, ht _ _ z.2.1, z.2.2⟩, ob, es, ep, k _ _ (.inl rfl) e, c⟩
  | set S n => obtain ⟨ob, es, ep, t, e, c⟩ := x; exact ⟨ob, es, ep, t, k _ _ (.inl rfl) e, c⟩
  | ins C dx fs =>
    obtain ⟨d, z, ne, e, mA, ⟨od, es, ep, e2, c⟩, r⟩ := x
    exact ⟨ho _ d, z, ne, k _ _ (.inl rfl) e, mA, ⟨od, es, ep, k _ _ (.inr d) e2, c⟩, r⟩
  | own y => obtain ⟨ob, e⟩ := x; exact ⟨ob, k _ _ (.inl rfl) e⟩
  | xd fs => obtain ⟨mA, ⟨od, es, ep, e, c⟩, r⟩ := x; exact ⟨mA, ⟨od, es, ep, k _ _ (.inl rfl) e, c⟩, r⟩
  | rng lo hi => obtain ⟨t, u, v, e⟩ := x; exact ⟨t, u, v, k _ _ (.inl rfl) e⟩
  | frz ob u ih => obtain ⟨e, q⟩ := x; exact ⟨k _ _ (.inl rfl) e, ih q⟩
  | tbl ps =>
    have e : h.get? a = some { cls := .none, data := .fields ps } := x
    show h'.get? a = some { cls := .none, data := .fields ps }
    exact k a _ (.inl rfl) e
  | met f y =>
    have e : h.get? a = some (PySem.W.methodObj (.ref f) (.ref y)) := x
    show h'.get? a = some (PySem.W.methodObj (.ref f) (.ref y))
    exact k a _ (.inl rfl) e
  | ext φ => obtain ⟨p, ⟨o, e⟩, st⟩ := x; exact ⟨st _ _ p fun o q => k _ _ (.inl rfl) q, ⟨o, k _ _ (.inl rfl) e⟩, st⟩
theorem HOk.lt (x : HOk P w H h) (e : H a = some o) : a < h.objs.size := (x a o e).lt
theorem HOk.fresh (x : HOk P w H h) (e : h.objs.size ≤ a) : H a = none := by
  cases q : H a with
  | none => rfl
  | some u => exact absurd (Nat.lt_of_lt_of_le (x.lt q) e) (Nat.lt_irrefl _)
theorem HOk.kept (x : HOk P w H h) (k : ∀ b u, h.get? b = some u → h'.get? b = some u) : HOk P w H h' := fun a o e =>
  (x a o e).stay (fun b u _ q => k b u q) (fun _ q => q) fun _ _ q => q
theorem HOk.laid (x : HOk P w H h) (k : ∀ b u, h.get? b = some u → h'.get? b = some u) (hp : h.objs.size ≤ a) (new : ObjOk P w (upd H a o) h' a o) : HOk P w (upd H a o) h' := fun b u e => by
  have hn := x.fresh hp
  by_cases hb : b = a
  · subst hb; rw [upd_same] at e; cases e; exact new
  · rw [upd_ne hb] at e
    exact (x b u e).stay (fun c v _ q => k c v q) (fun c q => by rw [upd_ne (ne_of_none q hn)]; exact q) fun c xs q => by rw [upd_ne (ne_of_none q hn)]; exact q
end

noncomputable def Rd (H : Hp) (a : Addr) (u : HO) : Prop := H a = some u ∨ ∃ o, H a = some (.frz o u)
theorem Rd.of {H : Hp} {a : Addr} {u : HO} (h : H a = some u) : Rd H a u := .inl h
theorem Rd.ok {P : Program} {w : World} {H : Hp} {h : Heap} {a : Addr} {u : HO} (r : Rd H a u) (x : HOk P w H h) : ObjOk P w H h a u := by
  rcases r with r | ⟨o, r⟩
  · exact x a u r
  · obtain ⟨_, q⟩ := x a _ r
    exact q
noncomputable def Mut : Option HO → Prop
  | some (.lst _) => True
  | some (.dK _) => True
  | some (.dT _) => True
  | some (.set _ _) => True
  | some (.ins _ _ _) => True
  | some (.ext _) => True
  | _ => False
section
variable {P : Program} {w : World} {H : Hp} {h h' : Heap} {x e : Addr} {o' : HO}
theorem HOk.write (ok : HOk P w H h) (mu : Mut (H x)) (he : e = x ∨ H e = some (.own x)) (k : ∀ b u, b ≠ e → h.get? b = some u → h'.get? b = some u) (heo : ∃ u, h'.get? e = some u)
    (new : ObjOk P w (upd H x o') h' x o') : HOk P w (upd H x o') h' := fun b u q => by
  have nown : ∀ c y, H c = some (.own y) → c ≠ x := fun c y r z => by subst z; rw [r] at mu; exact mu
  have ntup : ∀ c xs, H c = some (.tup xs) → c ≠ x := fun c xs r z => by subst z; rw [r] at mu; exact mu
  by_cases hb : b = x
  · subst hb; rw [upd_same] at q; cases q; exact new
  · rw [upd_ne hb] at q
    by_cases hbe : b = e
    · have q' : H b = some (.own x) := by
        rcases he with z | z
        · exact absurd (hbe.trans z) hb
        · rw [hbe]; exact z
      rw [q] at q'; cases q'
      obtain ⟨v, hv⟩ := heo
      exact ⟨v, by rw [hbe]; exact hv⟩
    · refine (ok b u q).stay (fun c v hc r => k c v ?_ r) (fun c r => by rw [upd_ne (nown c b r)]; exact r) fun c xs r => by rw [upd_ne (ntup c xs r)]; exact r
      rcases hc with rfl | hc
      · exact hbe
      · rintro rfl
        rcases he with z | z
        · exact nown c b hc z
        · rw [hc] at z; cases z; exact hb rfl
end

structure Un (fs ex : List Addr) (H H' : Hp) (h h' : Heap) : Prop where
  keep : ∀ b o, h.get? b = some o → H b = none → b ∉ fs → b ∉ ex → h'.get? b = some o
  slot : ∀ b o, h.get? b = some o → H b = none → b ∈ fs → b ∉ ex → ∃ sl, h'.get? b = some { o with slots := sl }
  free : ∀ b o, h.get? b = some o → H b = none → b ∉ ex → H' b = none
  there : ∀ b o, h.get? b = some o → b ∉ ex → ∃ o', h'.get? b = some o'
  tups : ∀ b xs, H b = some (.tup xs) → H' b = some (.tup xs)
  frzs : ∀ b o u, H b = some (.frz o u) → H' b = some (.frz o u)
  tbls : ∀ b ps, H b = some (.tbl ps) → ∃ more, H' b = some (.tbl (ps ++ more))
section
variable {fs fs' ex ex' : List Addr} {H H1 H2 : Hp} {h h1 h2 h' : Heap} {a x e : Addr} {o : HO}
theorem Un.any (u : Un fs ex H H1 h h1) {b : Addr} {ob : Obj} (q : h.get? b = some ob) (n : H b = none) (hx : b ∉ ex) : ∃ sl, h1.get? b = some { ob with slots := sl } := by
  by_cases hb : b ∈ fs
  · exact u.slot b ob q n hb hx
  · exact ⟨ob.slots, u.keep b ob q n hb hx⟩
theorem Un.trans (a : Un fs ex H H1 h h1) (b : Un fs ex H1 H2 h1 h2) : Un fs ex H H2 h h2 where
  keep := fun c ob q n hc hx => b.keep c ob (a.keep c ob q n hc hx) (a.free c ob q n hx) hc hx
  slot := fun c ob q n hc hx => by
    obtain ⟨sl, e1⟩ := a.slot c ob q n hc hx
    obtain ⟨sl', e2⟩ := b.slot c _ e1 (a.free c ob q n hx) hc hx
    exact ⟨sl', e2⟩
  free := fun c ob q n hx => by
    obtain ⟨o', e1⟩ := a.there c ob q hx
    exact b.free c o' e1 (a.free c ob q n hx) hx
  there := fun c ob q hx => by
    obtain ⟨o', e1⟩ := a.there c ob q hx
    exact b.there c o' e1 hx
  tups := fun c xs q => b.tups c xs (a.tups c xs q)
  frzs := fun c ob xs q => b.frzs c ob xs (a.frzs c ob xs q)
  tbls := fun c ps q => by
    obtain ⟨m1, e1⟩ := a.tbls c ps q
    obtain ⟨m2, e2⟩ := b.tbls c _ e1
    exact ⟨m1 ++ m2, by rw [e2, Array.append_assoc]⟩
theorem Un.kept (k : ∀ b u, h.get? b = some u → h'.get? b = some u) : Un fs ex H H h h' :=
  ⟨fun b ob q _ _ _ => k b ob q, fun b ob q _ _ _ => ⟨ob.slots, k b ob q⟩, fun _ _ _ n _ => n, fun b ob q _ => ⟨ob, k b ob q⟩, fun _ _ q => q, fun _ _ _ q => q, fun _ ps q => ⟨#[], by rw [q]; simp⟩⟩
theorem Un.refl : Un fs ex H H h h := Un.kept fun _ _ q => q
theorem Un.laid (k : ∀ b u, h.get? b = some u → h'.get? b = some u) (hp : h.objs.size ≤ a) (hn : H a = none) : Un fs ex H (upd H a o) h h' where
  keep := fun b u q _ _ _ => k b u q
  slot := fun b u q _ _ _ => ⟨u.slots, k b u q⟩
  free := fun b u q n _ => by rw [upd_ne (Nat.ne_of_lt (Nat.lt_of_lt_of_le (Heap.lt_size q) hp))]; exact n
  there := fun b u q _ => ⟨u, k b u q⟩
  tups := fun b xs q => by rw [upd_ne (ne_of_none q hn)]; exact q
  frzs := fun b u xs q => by rw [upd_ne (ne_of_none q hn)]; exact q
  tbls := fun b ps q => ⟨#[], by rw [upd_ne (ne_of_none q hn), q]; simp⟩
theorem Un.write (mu : Mut (H x)) (he : e = x ∨ H e = some (.own x)) (k : ∀ b u, b ≠ e → h.get? b = some u → h'.get? b = some u) (heo : ∃ u, h'.get? e = some u) : Un fs ex H (upd H x o) h h' := by
  have hx : ∀ b, H b = none → b ≠ x := fun b n z => by subst z; rw [n] at mu; exact mu
  have hb : ∀ b, H b = none → b ≠ e := fun b n z => by
    subst z
    rcases he with r | r
    · exact hx b n r
    · rw [n] at r; cases r
  have hm : ∀ b u, H b = some u → ¬ Mut (some u) → b ≠ x := fun b u q nm z => by subst z; rw [q] at mu; exact nm mu
  refine ⟨fun b u q n _ _ => k b u (hb b n) q, fun b u q n _ _ => ⟨u.slots, k b u (hb b n) q⟩, fun b u q n _ => by rw [upd_ne (hx b n)]; exact n, fun b u q _ => ?_,
    fun b xs q => by rw [upd_ne (hm b _ q fun z => z)]; exact q, fun b u xs q => by rw [upd_ne (hm b _ q fun z => z)]; exact q, fun b ps q => ⟨#[], by rw [upd_ne (hm b _ q fun z => z), q]; simp⟩⟩
  by_cases hbe : b = e
  · subst hbe; exact heo
  · exact ⟨u, k b u hbe q⟩
theorem Un.mono (u : Un fs ex H H1 h h1) (hs : ∀ b ∈ fs, b ∈ fs') (hx : ∀ b ∈ ex, b ∈ ex') : Un fs' ex' H H1 h h1 :=
  ⟨fun b ob q n hb he => u.keep b ob q n (fun z => hb (hs b z)) fun z => he (hx b z), fun _ _ q n _ he => u.any q n fun z => he (hx _ z), fun b ob q n he => u.free b ob q n fun z => he (hx b z), fun b ob q he => u.there b ob q fun z => he (hx b z), u.tups, u.frzs, u.tbls⟩
end

noncomputable def trk (h : Heap) (H : Hp) : List Addr := (List.range h.objs.size).filter fun a => (H a).isSome
noncomputable def hidT (h : Heap) (H : Hp) : Heap := PySem.W.hideAll h (trk h H)
theorem hidT_size (h : Heap) (H : Hp) : (hidT h H).objs.size = h.objs.size := PySem.W.hideAll_size _ _
theorem hidT_get {h : Heap} {H : Hp} {b : Addr} {o : Obj} (e : h.get? b = some o) (n : H b = none) : (hidT h H).get? b = some o :=
  PySem.W.hideAll_get _ e fun hm => by
    have q : (H b).isSome = true := (List.mem_filter.mp hm).2
    rw [n] at q; simp at q
theorem of_hidT {h : Heap} {H : Hp} {b : Addr} {o : Obj} (e : (hidT h H).get? b = some o) : h.get? b = some o ∧ H b = none := by
  have e' : h.get? b = some o := PySem.W.of_hideAll (trk h H) e
  refine ⟨e', ?_⟩
  cases q : H b with
  | none => rfl
  | some x =>
    have hm : b ∈ trk h H := List.mem_filter.mpr ⟨List.mem_range.mpr (Heap.lt_size e'), by simp [q]⟩
    have z : (hidT h H).get? b = none := PySem.W.hideAll_none (trk h H) hm
    rw [z] at e; cases e

noncomputable def allNews (g h : Heap) (L : Addr) : List (Addr × Obj) := (List.range h.objs.size).filterMap fun a => if a = L ∨ (g.get? a).isSome = true then none else (h.get? a).map fun o => (a, o)
noncomputable def rest (g h : Heap) (L d : Addr) : List (Addr × Obj) := (allNews g h L).filter fun p => decide (p.1 ≠ d)
end L2

namespace L2
open PySem PySem.Spec PyProof.Rows

structure Mod (K : PySem.W.Frag) (mg : Str → Option Value) (base : Heap) : Prop where
  kin : K.In base
  glob : base.Ns mainGlobals mg
  blt : ∃ mb, base.Ns builtinsNs mb ∧ ∀ x : Str, x ≠ "__name__" → mb x = bootBuiltins x
  nolimit : base.NoLimit

structure Cx where
  prog : Program
  w : World
  K : PySem.W.Frag
  mg : Str → Option Value
  base : Heap
  A : Around
  N : List Str
  s₀ : Shared
  H₀ : Hp
  env : Env
  outer : List Env
  stack : List Env
  ex : List Addr
  fn : Str → Bool
  calm : Bool
  pn : List (Addr × Obj)
  xe : Value → Shared → Prop
noncomputable def frs (l : List Env) : List Addr := l.filterMap (·.frame)
noncomputable abbrev Cx.fs (X : Cx) : List Addr := frs X.outer

noncomputable def Vis (sc : Scope) (x : Str) : Prop := sc.names.lookup x = some .local ∨ sc.names.lookup x = some .cell ∨ sc.names.lookup x = some .free
noncomputable def Loc (sc : Scope) (x : Str) : Prop := sc.names.lookup x = some .local ∨ sc.names.lookup x = some .cell
noncomputable def Look (env : Env) (h : Heap) (m : Str → Option Value) (x : Str) (u : Value) : Prop :=
  (env.kindOf x = some .local ∧ m x = some u) ∨ ((env.kindOf x = some .cell ∨ env.kindOf x = some .free) ∧ ∃ c, env.cells.lookup x = some c ∧ h.IsCell c (some u))

structure Cx.Ok (X : Cx) : Prop where
  mod : Mod X.K X.mg X.base
  kind : X.env.scope.kind = .function
  glob : X.env.globals = mainGlobals
  blt : X.env.builtins = builtinsNs
  above : X.s₀.heap.objs.size ≤ X.env.locals
  inj : ∀ x y c, X.env.cells.lookup x = some c → X.env.cells.lookup y = some c → x = y
  has : ∀ x, (X.env.kindOf x = some .cell ∨ X.env.kindOf x = some .free) → ∃ c, X.env.cells.lookup x = some c
  cab : ∀ x c, X.fn x = true → X.env.cells.lookup x = some c → X.s₀.heap.objs.size ≤ c
  hd : X.calm = true → X.A.handled = none
  frames : X.A.frames = some X.stack
  stk : X.stack = X.outer ∨ (X.stack = X.env :: X.outer ∧ X.env.frame = some X.env.locals)
  exf : ∀ b ∈ X.ex, b ≠ X.env.locals ∧ ∀ x c, X.env.cells.lookup x = some c → c ≠ b
  bs : ∀ b o, X.base.get? b = some o → X.s₀.heap.get? b = some o ∧ X.H₀ b = none
  bsz : X.base.objs.size ≤ X.s₀.heap.objs.size
  noex : ∀ b o, X.base.get? b = some o → b ∉ X.ex
  exfs : ∀ b ∈ X.ex, b ∉ X.fs
  funs : X.s₀.heap.FunFrames X.base X.outer
  frf : ∀ b ∈ X.fs, X.H₀ b = none

structure Inv (X : Cx) (pins : List (Addr × Obj)) (σ : List (Option V)) (H : Hp) (s : Shared) : Prop where
  ok : X.Ok
  os : s.os = X.s₀.os
  bare : AllBare s.gens
  base : Un X.fs X.ex X.H₀ H X.s₀.heap s.heap
  loc : ∃ m, s.heap.Ns X.env.locals m ∧ ∀ (i : Nat) (x : Str) (v : V), X.N[i]? = some x → σ[i]? = some (some v) → Vis X.env.scope x → ∃ u, RelV v u ∧ Look X.env s.heap m x u
  cell : ∀ x c, X.env.cells.lookup x = some c → ∃ v, s.heap.IsCell c v
  free : H X.env.locals = none
  freeC : ∀ x c, X.env.cells.lookup x = some c → H c = none
  pin : ∀ p ∈ X.pn ++ pins, s.heap.get? p.1 = some p.2 ∧ H p.1 = none ∧ p.1 ≠ X.env.locals ∧ p.1 ∉ X.fs ∧ ∀ v, p.2.data ≠ .cell v
  hok : HOk X.prog X.w H s.heap
  len : σ.length = X.N.length

section
variable {X : Cx} {pins : List (Addr × Obj)} {σ : List (Option V)} {H H' : Hp} {s : Shared} {h' : Heap}

theorem Cx.Ok.nofr (ok : X.Ok) {b : Addr} {o : Obj} (e : X.base.get? b = some o) : b ∉ X.fs := fun hb => by
  have := (ok.funs.mem hb).1
  rw [e] at this; cases this
theorem Inv.bs (I : Inv X pins σ H s) : ∀ b o, X.base.get? b = some o → s.heap.get? b = some o ∧ H b = none := fun b o e =>
  ⟨I.base.keep b o (I.ok.bs b o e).1 (I.ok.bs b o e).2 (I.ok.nofr e) (I.ok.noex b o e), I.base.free b o (I.ok.bs b o e).1 (I.ok.bs b o e).2 (I.ok.noex b o e)⟩
theorem Inv.bk (I : Inv X pins σ H s) : ∀ b o, X.base.get? b = some o → s.heap.get? b = some o := fun b o e => (I.bs b o e).1
theorem Inv.mod (I : Inv X pins σ H s) : Mod X.K X.mg X.base := I.ok.mod
theorem Inv.kIn (I : Inv X pins σ H s) : X.K.In s.heap := I.ok.mod.kin.keeps I.bk
theorem Inv.nolimit (I : Inv X pins σ H s) : s.heap.NoLimit := I.ok.mod.nolimit.keeps I.bk
theorem Inv.lt (I : Inv X pins σ H s) : X.env.locals < s.heap.objs.size := let ⟨_, hn, _⟩ := I.loc; hn.lt
theorem Inv.sz (I : Inv X pins σ H s) : X.s₀.heap.objs.size ≤ s.heap.objs.size := Nat.le_trans I.ok.above (Nat.le_of_lt I.lt)
theorem Inv.nofs (I : Inv X pins σ H s) {a : Addr} (h : s.heap.objs.size ≤ a) : a ∉ X.fs := fun hb => by
  obtain ⟨_, o, ho, _⟩ := I.ok.funs.mem hb
  exact absurd (Nat.lt_of_lt_of_le (Heap.lt_size ho) (Nat.le_trans I.sz h)) (Nat.lt_irrefl _)
theorem Inv.cne (I : Inv X pins σ H s) : ∀ x c, X.env.cells.lookup x = some c → c ≠ X.env.locals := fun x c e z => by
  obtain ⟨v, o, ho, hd⟩ := I.cell x c e
  obtain ⟨m, ⟨o', es, ep, ho', hd', _⟩, _⟩ := I.loc
  rw [z, ho'] at ho; cases ho; rw [hd'] at hd; cases hd
theorem Inv.funs (I : Inv X pins σ H s) : s.heap.FunFrames X.base X.outer := by
  have all : ∀ (l : List Env), (∀ b ∈ frs l, b ∈ X.fs) → X.s₀.heap.FunFrames X.base l → s.heap.FunFrames X.base l := by
    intro l
    induction l with
    | nil => intro _ _; trivial
    | cons env r ih =>
      intro hs hl
      obtain ⟨hk, ⟨L, o, hf, hn, ho, hd⟩, hr⟩ := hl
      have hL : L ∈ X.fs := hs L (by unfold frs; rw [List.filterMap_cons, hf]; exact List.mem_cons_self)
      obtain ⟨sl, e⟩ := I.base.slot L o ho (I.ok.frf L hL) hL fun z => I.ok.exfs L z hL
      exact ⟨hk, ⟨L, _, hf, hn, e, hd⟩, ih (fun b hb => hs b (by unfold frs; rw [List.filterMap_cons, hf]; exact List.mem_cons_of_mem _ hb)) hr⟩
  exact all X.outer (fun _ hb => hb) I.ok.funs

theorem Inv.stack (I : Inv X pins σ H s) : s.heap.FunFrames X.base X.stack := by
  rcases I.ok.stk with e | ⟨e, hf⟩
  · rw [e]; exact I.funs
  · rw [e]
    obtain ⟨m, hn, _⟩ := I.loc
    refine .cons (by rw [I.ok.kind]; decide) hf hn ?_ I.funs
    exact Heap.get?_none_of_le (Nat.le_trans I.ok.bsz I.ok.above)
theorem Inv.stkSub (I : Inv X pins σ H s) : ∀ b ∈ frs X.stack, b ∈ X.env.locals :: X.fs := fun b hb => by
  rcases I.ok.stk with e | ⟨e, hf⟩
  · rw [e] at hb; exact List.mem_cons_of_mem _ hb
  · rw [e] at hb
    unfold frs at hb
    rw [List.filterMap_cons, hf] at hb
    exact hb
theorem Inv.stkFree (I : Inv X pins σ H s) : ∀ b ∈ frs X.stack, H b = none := fun b hb => by
  rcases List.mem_cons.mp (I.stkSub b hb) with e | hb
  · rw [e]; exact I.free
  · obtain ⟨_, o, ho, _⟩ := I.ok.funs.mem hb
    exact I.base.free b o ho (I.ok.frf b hb) fun z => I.ok.exfs b z hb

theorem Inv.step {g' : Array GenState} {t' : Nat} {d' : Drawn} {ch : List Addr} (I : Inv X pins σ H s)
    (hch : ∀ b ∈ ch, (b ∈ X.ex ∨ X.s₀.heap.objs.size ≤ b) ∧ b ≠ X.env.locals ∧ (∀ x c, X.env.cells.lookup x = some c → c ≠ b) ∧ ∀ p ∈ X.pn ++ pins, p.1 ≠ b)
    (keep : ∀ b o, b ≠ X.env.locals → b ∉ X.fs → b ∉ ch → s.heap.get? b = some o → H b = none → h'.get? b = some o)
    (slot : ∀ b o, b ≠ X.env.locals → b ∈ X.fs → b ∉ ch → s.heap.get? b = some o → H b = none → ∃ sl, h'.get? b = some { o with slots := sl }) (free : ∀ b o, b ∉ ch → s.heap.get? b = some o → H b = none → H' b = none)
    (there : ∀ b o, b ∉ ch → s.heap.get? b = some o → ∃ o', h'.get? b = some o')
    (tups : ∀ b xs, H b = some (.tup xs) → H' b = some (.tup xs)) (frzs : ∀ b o u, H b = some (.frz o u) → H' b = some (.frz o u)) (tbls : ∀ b ps, H b = some (.tbl ps) → ∃ more, H' b = some (.tbl (ps ++ more)))
    (ns : ∀ m, s.heap.Ns X.env.locals m → h'.Ns X.env.locals m) (hok : HOk X.prog X.w H' h') (hg : AllBare g') :
    Inv X pins σ H' { s with heap := h', gens := g', drawn := d', toks := t' } := by
  have neL : ∀ b o, X.s₀.heap.get? b = some o → b ≠ X.env.locals := fun b o e => Nat.ne_of_lt (Nat.lt_of_lt_of_le (Heap.lt_size e) I.ok.above)
  have neC : ∀ b o, X.s₀.heap.get? b = some o → b ∉ X.ex → b ∉ ch := fun b o e hx hb => by
    rcases (hch b hb).1 with z | z
    · exact hx z
    · exact absurd (Nat.lt_of_lt_of_le (Heap.lt_size e) z) (Nat.lt_irrefl _)
  have cellK : ∀ x c, X.env.cells.lookup x = some c → ∀ v, s.heap.IsCell c v → h'.IsCell c v := fun x c e v ⟨o, ho, hd⟩ => by
    have nch : c ∉ ch := fun z => (hch c z).2.2.1 x c e rfl
    by_cases hc : c ∈ X.fs
    · obtain ⟨sl, q⟩ := slot c o (I.cne x c e) hc nch ho (I.freeC x c e)
      exact ⟨_, q, hd⟩
    · exact ⟨o, keep c o (I.cne x c e) hc nch ho (I.freeC x c e), hd⟩
  refine ⟨I.ok, I.os, hg, ⟨fun b o e n hb hx => ?_, fun b o e n hb hx => ?_, fun b o e n hx => ?_, fun b o e hx => ?_, fun b xs e => tups b xs (I.base.tups b xs e), fun b o xs e => frzs b o xs (I.base.frzs b o xs e), fun b ps e => ?_⟩, ?_, fun x c e => ?_, ?_, fun x c e => ?_, fun p hp => ?_, hok, I.len⟩
  · exact keep b o (neL b o e) hb (neC b o e hx) (I.base.keep b o e n hb hx) (I.base.free b o e n hx)
  · obtain ⟨sl, e1⟩ := I.base.slot b o e n hb hx
    obtain ⟨sl', e2⟩ := slot b _ (neL b o e) hb (neC b o e hx) e1 (I.base.free b o e n hx)
    exact ⟨sl', e2⟩
  · obtain ⟨o', e1⟩ := I.base.there b o e hx
    exact free b o' (neC b o e hx) e1 (I.base.free b o e n hx)
  · obtain ⟨o', e1⟩ := I.base.there b o e hx
    exact there b o' (neC b o e hx) e1
  · obtain ⟨m1, e1⟩ := I.base.tbls b ps e
    obtain ⟨m2, e2⟩ := tbls b _ e1
    exact ⟨m1 ++ m2, by rw [e2, Array.append_assoc]⟩
  · obtain ⟨m, hn, hl⟩ := I.loc
    refine ⟨m, ns m hn, fun i x v e1 e2 e3 => ?_⟩
    obtain ⟨u, r, l⟩ := hl i x v e1 e2 e3
    refine ⟨u, r, ?_⟩
    rcases l with l | ⟨k, c, e, z⟩
    · exact .inl l
    · exact .inr ⟨k, c, e, cellK x c e _ z⟩
  · obtain ⟨v, z⟩ := I.cell x c e
    exact ⟨v, cellK x c e v z⟩
  · obtain ⟨m, ⟨o, _, _, ho, _⟩, _⟩ := I.loc
    exact free _ o (fun z => (hch _ z).2.1 rfl) ho I.free
  · obtain ⟨v, o, ho, hd⟩ := I.cell x c e
    exact free c o (fun z => (hch c z).2.2.1 x c e rfl) ho (I.freeC x c e)
  · obtain ⟨e, n, ne, nf, d⟩ := I.pin p hp
    have nch : p.1 ∉ ch := fun z => (hch p.1 z).2.2.2 p hp rfl
    exact ⟨keep p.1 p.2 ne nf nch e n, free p.1 p.2 nch e n, ne, nf, d⟩
theorem Inv.un {t' : Nat} (I : Inv X pins σ H s) (u : Un X.fs [] H H' s.heap h') (hok : HOk X.prog X.w H' h') : Inv X pins σ H' { s with heap := h', toks := t' } := by
  obtain ⟨m, ⟨o, es, ep, ho, r⟩, _⟩ := id I.loc
  obtain ⟨sl, hL⟩ := u.any ho I.free (by simp)
  exact I.step (g' := s.gens) (d' := s.drawn) (ch := []) (fun _ z => by cases z) (fun b o _ hb _ e n => u.keep b o e n hb (by simp)) (fun b o _ hb _ e n => u.slot b o e n hb (by simp)) (fun b o _ e n => u.free b o e n (by simp)) (fun b o _ e => u.there b o e (by simp)) u.tups u.frzs u.tbls (fun m' hm => by
    obtain ⟨o', es', ep', ho', r'⟩ := hm
    rw [ho] at ho'; cases ho'
    exact ⟨_, es', ep', hL, r'⟩) hok I.bare
theorem Inv.call {g' : Array GenState} {t' : Nat} {d' : Drawn} {ch : List Addr} (I : Inv X pins σ H s) (u : Un (frs X.stack) ch H H' s.heap h') (hok : HOk X.prog X.w H' h') (hg : AllBare g')
    (hch : ∀ b ∈ ch, (b ∈ X.ex ∨ X.s₀.heap.objs.size ≤ b) ∧ b ≠ X.env.locals ∧ (∀ x c, X.env.cells.lookup x = some c → c ≠ b) ∧ ∀ p ∈ X.pn ++ pins, p.1 ≠ b) :
    Inv X pins σ H' { s with heap := h', gens := g', drawn := d', toks := t' } := by
  obtain ⟨m, ⟨o, es, ep, ho, r⟩, _⟩ := id I.loc
  obtain ⟨sl, hL⟩ := u.any ho I.free fun z => (hch _ z).2.1 rfl
  exact I.step (ch := ch) hch (fun b o hL hb hc e n => u.keep b o e n (fun z => (List.mem_cons.mp (I.stkSub b z)).elim hL hb) hc) (fun b o _ _ hc e n => u.any e n hc) (fun b o hc e n => u.free b o e n hc) (fun b o hc e => u.there b o e hc) u.tups u.frzs u.tbls (fun m' hm => by
    obtain ⟨o', es', ep', ho', r'⟩ := hm
    rw [ho] at ho'; cases ho'
    exact ⟨_, es', ep', hL, r'⟩) hok hg
theorem Inv.turned {t' : Nat} {it : Addr} (I : Inv X pins σ H s) (k : ∀ b o, b ≠ it → s.heap.get? b = some o → h'.get? b = some o) (hn : H it = none) (hL : it ≠ X.env.locals)
    (h1 : it ∈ X.ex ∨ X.s₀.heap.objs.size ≤ it) (h2 : ∀ x c, X.env.cells.lookup x = some c → c ≠ it) (h3 : ∀ p ∈ X.pn ++ pins, p.1 ≠ it) : Inv X pins σ H { s with heap := h', toks := t' } := by
  have nit : ∀ b u, H b = some u → b ≠ it := fun b u e z => by rw [z, hn] at e; cases e
  refine I.step (g' := s.gens) (d' := s.drawn) (ch := [it]) (fun b hb => ?_) (fun b o _ _ hc e _ => k b o (fun z => hc (by simp [z])) e) (fun b o _ _ hc e _ => ⟨o.slots, k b o (fun z => hc (by simp [z])) e⟩) (fun _ _ _ _ n => n)
    (fun b o hc e => ⟨o, k b o (fun z => hc (by simp [z])) e⟩) (fun _ _ e => e) (fun _ _ _ e => e) (fun b ps e => ⟨#[], by rw [e]; simp⟩) (fun m hm => ?_) (fun b u e => ?_) I.bare
  · have e : b = it := by simpa using hb
    subst e
    exact ⟨h1, hL, h2, h3⟩
  · obtain ⟨o, es, ep, ho, r⟩ := hm
    exact ⟨o, es, ep, k _ o (Ne.symm hL) ho, r⟩
  · refine (I.hok b u e).stay (fun c v hc q => k c v ?_ q) (fun _ q => q) fun _ _ q => q
    rcases hc with z | z
    · rw [z]; exact nit b u e
    · exact nit c _ z
theorem Inv.tok (I : Inv X pins σ H s) (t : Nat) : Inv X pins σ H { s with toks := t } := I.un (h' := s.heap) (t' := t) Un.refl I.hok
theorem Inv.kept {t' : Nat} (I : Inv X pins σ H s) (k : ∀ b u, s.heap.get? b = some u → h'.get? b = some u) : Inv X pins σ H { s with heap := h', toks := t' } := I.un (Un.kept k) (I.hok.kept k)
theorem Inv.laid {a : Addr} {o : HO} {t' : Nat} (I : Inv X pins σ H s) (k : ∀ b u, s.heap.get? b = some u → h'.get? b = some u) (hp : s.heap.objs.size ≤ a) (new : ObjOk X.prog X.w (upd H a o) h' a o) :
    Inv X pins σ (upd H a o) { s with heap := h', toks := t' } := I.un (Un.laid k hp (I.hok.fresh hp)) (I.hok.laid k hp new)
theorem Inv.write {x e : Addr} {o : HO} {t' : Nat} (I : Inv X pins σ H s) (mu : Mut (H x)) (he : e = x ∨ H e = some (.own x)) (k : ∀ b u, b ≠ e → s.heap.get? b = some u → h'.get? b = some u) (heo : ∃ u, h'.get? e = some u)
    (new : ObjOk X.prog X.w (upd H x o) h' x o) : Inv X pins σ (upd H x o) { s with heap := h', toks := t' } := I.un (Un.write mu he k heo) (I.hok.write mu he k heo new)
theorem Inv.weak {σ' : List (Option V)} (I : Inv X pins σ H s) (hl : σ'.length = σ.length) (w : ∀ (i : Nat) v, σ'[i]? = some (some v) → σ[i]? = some (some v)) : Inv X pins σ' H s :=
  ⟨I.ok, I.os, I.bare, I.base, let ⟨m, hn, hl'⟩ := I.loc; ⟨m, hn, fun i x v e1 e2 e3 => hl' i x v e1 (w i v e2) e3⟩, I.cell, I.free, I.freeC, I.pin, I.hok, hl.trans I.len⟩
theorem Inv.pins_of {pins' : List (Addr × Obj)} (I : Inv X pins σ H s) (h : ∀ p ∈ pins', s.heap.get? p.1 = some p.2 ∧ H p.1 = none ∧ p.1 ≠ X.env.locals ∧ p.1 ∉ X.fs ∧ ∀ v, p.2.data ≠ .cell v) : Inv X pins' σ H s :=
  ⟨I.ok, I.os, I.bare, I.base, I.loc, I.cell, I.free, I.freeC, fun p hp => (List.mem_append.mp hp).elim (fun z => I.pin p (List.mem_append_left _ z)) (h p), I.hok, I.len⟩

theorem nodup_ix {N : List Str} (hN : N.Nodup) {i j : Nat} {x : Str} (a : N[i]? = some x) (b : N[j]? = some x) : i = j := by
  obtain ⟨h1, e1⟩ := List.getElem?_eq_some_iff.mp a
  obtain ⟨h2, e2⟩ := List.getElem?_eq_some_iff.mp b
  exact (List.getElem_inj hN).mp (e1.trans e2.symm)

theorem store_ok2 {M : Model} {A : Around} {E : Value → Shared → Prop} {i : Nat} {x : Str} {v : V} {u : Value} {Q : Unit → Shared → Prop} (I : Inv X pins σ H s) (hN : X.N.Nodup) (hi : X.N[i]? = some x) (hx : Loc X.env.scope x) (r : RelV v u)
    (h : ∀ s', Inv X pins (σ.set i (some v)) H s' → (∃ a, Heap.SameBut a s.heap s'.heap ∧ (a = X.env.locals ∨ X.env.cells.lookup x = some a)) → Q () s') (hf : X.fn x = true ∨ X.env.scope.names.lookup x = some .local := by first | exact .inl rfl | exact .inr rfl | assumption) : wpAny M A (storeName X.env x u) Q E s := by
  obtain ⟨m, hn, hl⟩ := id I.loc
  have hcls : (X.env.scope.kind == .class || (X.env.scope.kind == .module && X.env.locals != X.env.globals)) = false := by rw [I.ok.kind]; rfl
  have hiσ : i < σ.length := by rw [I.len]; exact (List.getElem?_eq_some_iff.mp hi).1
  have cne := I.cne
  have tracked : ∀ {a : Addr} {h' : Heap}, (∃ o, s.heap.get? a = some o ∧ H a = none) → Heap.SameBut a s.heap h' → HOk X.prog X.w H h' := fun {a h'} ha hs b ob e => by
    obtain ⟨_, _, hfree⟩ := ha
    refine (I.hok b ob e).stay (fun c w' hc q => (hs.2 c ?_).trans q) (fun _ q => q) fun _ _ q => q
    rintro rfl
    rcases hc with rfl | hc
    · rw [hfree] at e; cases e
    · rw [hfree] at hc; cases hc
  rcases hx with hk | hk
  · refine wpAny_storeName_local hk hn (fun h' hn' hs => ?_) hcls
    obtain ⟨oL, _, _, hoL, _⟩ := id hn
    refine h _ ⟨I.ok, I.os, I.bare, ⟨fun b o e n hb hx => ?_, fun b o e n hb hx => ?_, I.base.free, fun b o e hx => ?_, I.base.tups, I.base.frzs, I.base.tbls⟩, ⟨_, hn', fun j y v' e1 e2 e3 => ?_⟩, fun y c e => ?_, I.free, I.freeC, fun p hp => ?_, tracked ⟨oL, hoL, I.free⟩ hs, by simpa using I.len⟩ ⟨_, hs, .inl rfl⟩
    · exact (hs.2 b (Nat.ne_of_lt (Nat.lt_of_lt_of_le (Heap.lt_size e) I.ok.above))).trans (I.base.keep b o e n hb hx)
    · obtain ⟨sl, e1⟩ := I.base.slot b o e n hb hx
      exact ⟨sl, (hs.2 b (Nat.ne_of_lt (Nat.lt_of_lt_of_le (Heap.lt_size e) I.ok.above))).trans e1⟩
    · obtain ⟨o', e1⟩ := I.base.there b o e hx
      exact ⟨o', (hs.2 b (Nat.ne_of_lt (Nat.lt_of_lt_of_le (Heap.lt_size e) I.ok.above))).trans e1⟩
    · by_cases hj : j = i
      · subst hj
        rw [hi] at e1; cases e1
        rw [List.getElem?_set_self hiσ] at e2
        cases e2
        exact ⟨u, r, .inl ⟨hk, by simp⟩⟩
      · rw [List.getElem?_set_ne (Ne.symm hj)] at e2
        obtain ⟨u', r', q⟩ := hl j y v' e1 e2 e3
        refine ⟨u', r', ?_⟩
        rcases q with ⟨k, e⟩ | ⟨k, c, e, z⟩
        · refine .inl ⟨k, ?_⟩
          have : y ≠ x := fun e => hj (nodup_ix hN e1 (e ▸ hi))
          simp [this, e]
        · exact .inr ⟨k, c, e, z.sameBut hs (cne y c e)⟩
    · obtain ⟨w', z⟩ := I.cell y c e
      exact ⟨w', z.sameBut hs (cne y c e)⟩
    · obtain ⟨e, n, ne, nf, d⟩ := I.pin p hp
      exact ⟨(hs.2 p.1 ne).trans e, n, ne, nf, d⟩
  · have hfn : X.fn x = true := by
      rcases hf with z | z
      · exact z
      · rw [z] at hk; cases hk
    obtain ⟨c, hc⟩ := I.ok.has x (.inl hk)
    obtain ⟨w', z⟩ := I.cell x c hc
    refine wpAny_storeName_cell I.ok.kind hk hc z (fun h' hc' hs => ?_)
    obtain ⟨oc, hoc, hocd⟩ := id z
    refine h { s with heap := h' } ⟨I.ok, I.os, I.bare, ⟨fun b o e n hb hx => ?_, fun b o e n hb hx => ?_, I.base.free, fun b o e hx => ?_, I.base.tups, I.base.frzs, I.base.tbls⟩, ⟨m, hn.sameBut hs (Ne.symm (cne x c hc)), fun j y v' e1 e2 e3 => ?_⟩, fun y c' e => ?_, I.free, I.freeC, fun p hp => ?_, tracked ⟨oc, hoc, I.freeC x c hc⟩ hs, by simpa using I.len⟩ ⟨c, hs, .inr hc⟩
    · exact (hs.2 b (Nat.ne_of_lt (Nat.lt_of_lt_of_le (Heap.lt_size e) (I.ok.cab x c hfn hc)))).trans (I.base.keep b o e n hb hx)
    · obtain ⟨sl, e1⟩ := I.base.slot b o e n hb hx
      exact ⟨sl, (hs.2 b (Nat.ne_of_lt (Nat.lt_of_lt_of_le (Heap.lt_size e) (I.ok.cab x c hfn hc)))).trans e1⟩
    · obtain ⟨o', e1⟩ := I.base.there b o e hx
      exact ⟨o', (hs.2 b (Nat.ne_of_lt (Nat.lt_of_lt_of_le (Heap.lt_size e) (I.ok.cab x c hfn hc)))).trans e1⟩
    · by_cases hj : j = i
      · subst hj
        rw [hi] at e1; cases e1
        rw [List.getElem?_set_self hiσ] at e2
        cases e2
        exact ⟨u, r, .inr ⟨.inl hk, c, hc, hc'⟩⟩
      · rw [List.getElem?_set_ne (Ne.symm hj)] at e2
        obtain ⟨u', r', q⟩ := hl j y v' e1 e2 e3
        refine ⟨u', r', ?_⟩
        rcases q with q | ⟨k, c', e, z'⟩
        · exact .inl q
        · refine .inr ⟨k, c', e, z'.sameBut hs ?_⟩
          rintro rfl
          exact hj (nodup_ix hN e1 (I.ok.inj _ _ _ e hc ▸ hi))
    · by_cases hcc : c' = c
      · subst hcc; exact ⟨_, hc'⟩
      · obtain ⟨w2, z2⟩ := I.cell y c' e
        exact ⟨w2, z2.sameBut hs hcc⟩
    · obtain ⟨e, n, ne, nf, d⟩ := I.pin p hp
      refine ⟨(hs.2 p.1 ?_).trans e, n, ne, nf, d⟩
      intro q
      rw [q, hoc] at e
      have q' : oc = p.2 := Option.some.inj e
      exact d w' (by rw [← q']; exact hocd)
theorem store_ok {M : Model} {A : Around} {E : Value → Shared → Prop} {i : Nat} {x : Str} {v : V} {u : Value} {Q : Unit → Shared → Prop} (I : Inv X pins σ H s) (hN : X.N.Nodup) (hi : X.N[i]? = some x) (hx : Loc X.env.scope x) (r : RelV v u)
    (h : ∀ s', Inv X pins (σ.set i (some v)) H s' → Q () s') (hf : X.fn x = true ∨ X.env.scope.names.lookup x = some .local := by first | exact .inl rfl | exact .inr rfl | assumption) : wpAny M A (storeName X.env x u) Q E s :=
  store_ok2 I hN hi hx r (fun s' I' _ => h s' I') hf
theorem Inv.call' {s' : Shared} {ch : List Addr} (I : Inv X pins σ H s) (ho : s'.os = s.os) (u : Un (frs X.stack) ch H H' s.heap s'.heap) (hok : HOk X.prog X.w H' s'.heap) (hg : AllBare s'.gens)
    (hch : ∀ b ∈ ch, (b ∈ X.ex ∨ X.s₀.heap.objs.size ≤ b) ∧ b ≠ X.env.locals ∧ (∀ x c, X.env.cells.lookup x = some c → c ≠ b) ∧ ∀ p ∈ X.pn ++ pins, p.1 ≠ b) : Inv X pins σ H' s' := by
  obtain ⟨h', g', d', t', o'⟩ := s'
  have e : o' = s.os := ho
  subst e
  exact I.call (g' := g') (t' := t') (d' := d') u hok hg hch
end

noncomputable abbrev XK := Value → Option Addr → Hp → Prop
noncomputable abbrev St := List (Option V)
noncomputable abbrev VK := V → Hp → Prop
noncomputable abbrev TE := St → Hp → VK → Prop
noncomputable abbrev TT := St → Hp → (Bool → Hp → Prop) → Prop
noncomputable abbrev TA := St → Hp → (List V → Hp → Prop) → Prop
structure Ends where
  nx : St → Hp → Prop
  rt : VK
  bk : St → Hp → Prop := fun _ _ => False
  ct : St → Hp → Prop := fun _ _ => False
noncomputable abbrev TS := Ends → St → Hp → Prop

noncomputable def EP (X : Cx) (pins : List (Addr × Obj)) (σ : St) (Q : VK) (u : Value) (s' : Shared) : Prop := ∃ v H', Inv X pins σ H' s' ∧ RelV v u ∧ Q v H'
noncomputable def TP (X : Cx) (pins : List (Addr × Obj)) (σ : St) (Q : Bool → Hp → Prop) (b : Bool) (s' : Shared) : Prop := ∃ H', Inv X pins σ H' s' ∧ Q b H'
noncomputable def AP (X : Cx) (pins : List (Addr × Obj)) (σ : St) (Q : List V → Hp → Prop) (us : List Value) (s' : Shared) : Prop := ∃ vs H', Inv X pins σ H' s' ∧ Vals vs us ∧ Q vs H'
noncomputable def SP (X : Cx) (pins : List (Addr × Obj)) (D : Ends) (f : Flow) (s' : Shared) : Prop :=
  match f with
  | .next => ∃ σ' H', Inv X pins σ' H' s' ∧ D.nx σ' H'
  | .brk => ∃ σ' H', Inv X pins σ' H' s' ∧ D.bk σ' H'
  | .cont => ∃ σ' H', Inv X pins σ' H' s' ∧ D.ct σ' H'
  | .ret u => ∃ v σ' H', Inv X pins σ' H' s' ∧ RelV v u ∧ D.rt v H'

noncomputable def PE (X : Cx) (e : Expr) (t : TE) : Prop :=
  ∀ (pins : List (Addr × Obj)) (s : Shared) (σ : St) (H : Hp) (Q : VK), Inv X pins σ H s → t σ H Q → wpAny (model X.prog X.w) X.A (eval e X.env) (EP X pins σ Q) X.xe s
noncomputable def PT (X : Cx) (e : Expr) (t : TT) : Prop :=
  ∀ (pins : List (Addr × Obj)) (s : Shared) (σ : St) (H : Hp) (Q : Bool → Hp → Prop), Inv X pins σ H s → t σ H Q → wpAny (model X.prog X.w) X.A (isTrue e X.env (eval e X.env)) (TP X pins σ Q) X.xe s
noncomputable def PW (X : Cx) (e : Expr) (t : TT) : Prop :=
  ∀ (whole : Sem Value) (pins : List (Addr × Obj)) (s : Shared) (σ : St) (H : Hp) (Q : Bool → Hp → Prop), Inv X pins σ H s → t σ H Q → wpAny (model X.prog X.w) X.A (isTrue e X.env whole) (TP X pins σ Q) X.xe s
theorem PW.pt {X : Cx} {e : Expr} {t : TT} (h : PW X e t) : PT X e t := h _
noncomputable def PA (X : Cx) (es : List Expr) (t : TA) : Prop :=
  ∀ (pos : Pos) (pins : List (Addr × Obj)) (s : Shared) (σ : St) (H : Hp) (Q : List V → Hp → Prop), Inv X pins σ H s → t σ H Q → wpAny (model X.prog X.w) X.A (spliced (backTo pos (starEach es X.env))) (AP X pins σ Q) X.xe s
noncomputable def PS (X : Cx) (st : Stmt) (t : TS) : Prop :=
  ∀ (pins : List (Addr × Obj)) (s : Shared) (σ : St) (H : Hp) (D : Ends), Inv X pins σ H s → t D σ H → wpAny (model X.prog X.w) X.A (exec st X.env) (SP X pins D) X.xe s
noncomputable def PSs (X : Cx) (st : List Stmt) (t : TS) : Prop :=
  ∀ (pins : List (Addr × Obj)) (s : Shared) (σ : St) (H : Hp) (D : Ends), Inv X pins σ H s → t D σ H → wpAny (model X.prog X.w) X.A (execs st X.env) (SP X pins D) X.xe s
theorem thn {α : Type} {t : Sem α} {Q Q' : α → Shared → Prop} {M : Model} {A : Around} {E : Value → Shared → Prop} {s : Shared} (h : wpAny M A t Q E s) (hQ : ∀ a s, Q a s → Q' a s) : wpAny M A t Q' E s := wpAny_mono h hQ fun _ _ x => x
end L2

namespace L2
open PySem PySem.Spec PyProof.Rows
section
variable {X : Cx}

noncomputable def tVar (i : Nat) : TE := fun σ H Q => ∃ v, σ[i]? = some (some v) ∧ Q v H
noncomputable def tC (v : V) : TE := fun _ H Q => Q v H
theorem pe_var {i : Nat} {x : Str} {pos : Pos} (hN : X.N[i]? = some x) (hv : Vis X.env.scope x) (hd : (x == ("__debug__" : Str)) = false := by decide) (hcd : (x == ("__classdict__" : Str)) = false := by decide) : PE X (.Name x pos) (tVar i) := by
  intro pins s σ H Q I h
  obtain ⟨v, e, h⟩ := h
  obtain ⟨m, hn, hl⟩ := I.loc
  obtain ⟨u, r, l⟩ := hl i x v hN e hv
  have fin : EP X pins σ Q u s := ⟨v, H, I, r, h⟩
  rcases l with ⟨hk, hm⟩ | ⟨hk, c, hc, hcell⟩
  · exact wpAny_Name (wpAny_loadName_local I.ok.kind hk hn hm fin) hd
  · rcases hk with hk | hk
    · exact wpAny_Name (wpAny_loadName_cell I.ok.kind hk hc hcell fin) hd
    · exact wpAny_Name (wpAny_loadName_free I.ok.kind hk hc hcell fin hcd) hd
theorem pe_int {i j pos} : PE X (.Constant (.int i) j pos) (tC (.int i)) := fun _ _ _ H _ I h => wpAny_Constant_int ⟨.int i, H, I.tok _, ⟨_, rfl⟩, h⟩
theorem pe_bl {b j pos} : PE X (.Constant (.bool b) j pos) (tC (.bl b)) := fun _ _ _ H _ I h => Constant_bool ⟨.bl b, H, I, rfl, h⟩
noncomputable def Gl (X : Cx) (x : Str) : Prop := X.env.kindOf x = some .globalImplicit
theorem ld_glob {E : Value → Shared → Prop} {pins : List (Addr × Obj)} {s : Shared} {σ : St} {H : Hp} {x : Str} {u : Value} {pos : Pos} {Q : Value → Shared → Prop} (I : Inv X pins σ H s) (hg : Gl X x) (hm : X.mg x = some u) (h : Q u s)
    (hd : (x == ("__debug__" : Str)) = false := by decide) : wpAny (model X.prog X.w) X.A (eval (.Name x pos) X.env) Q E s :=
  Calls.Name_function_global I.ok.kind hg (Calls.loadGlobal_global (by rw [I.ok.glob]; exact I.mod.glob.keeps I.bk) hm h) hd
theorem ld_blt {E : Value → Shared → Prop} {pins : List (Addr × Obj)} {s : Shared} {σ : St} {H : Hp} {x : Str} {u : Value} {pos : Pos} {Q : Value → Shared → Prop} (I : Inv X pins σ H s) (hg : Gl X x) (hm : X.mg x = none) (hv : bootBuiltins x = some u) (h : Q u s)
    (hn : x ≠ "__name__" := by decide) (hd : (x == ("__debug__" : Str)) = false := by decide) : wpAny (model X.prog X.w) X.A (eval (.Name x pos) X.env) Q E s := by
  obtain ⟨mb, h1, h2⟩ := I.mod.blt
  exact Calls.Name_function_global I.ok.kind hg (Calls.loadGlobal_builtin (by rw [I.ok.glob]; exact I.mod.glob.keeps I.bk) hm (by rw [I.ok.blt]; exact h1.keeps I.bk) ((h2 x hn).trans hv) h) hd
theorem pe_glob {x : Str} {v : V} {u : Value} {pos : Pos} (hg : Gl X x) (hm : X.mg x = some u) (r : RelV v u) (hd : (x == ("__debug__" : Str)) = false := by decide) : PE X (.Name x pos) (tC v) :=
  fun _ _ _ H _ I h => ld_glob I hg hm ⟨v, H, I, r, h⟩ hd
theorem pe_bltn {x : Str} {v : V} {u : Value} {pos : Pos} (hg : Gl X x) (hm : X.mg x = none) (hv : bootBuiltins x = some u) (r : RelV v u) (hn : x ≠ "__name__" := by decide) (hd : (x == ("__debug__" : Str)) = false := by decide) : PE X (.Name x pos) (tC v) :=
  fun _ _ _ H _ I h => ld_blt I hg hm hv ⟨v, H, I, r, h⟩ hn hd

variable {a b : Expr} {ta tb : TE} {pos : Pos}
noncomputable def tB (t : TE) : TT := fun σ H Q => t σ H fun x H1 => ∃ c, x = .bl c ∧ Q c H1
theorem pt_val {e : Expr} {t : TE} (h : PE X e t) (he : ∀ whole, isTrue e X.env whole = (do let v ← whole; standAt e.pos; holding [v] (truthy v)) := by intro _; rfl) : PT X e (tB t) := by
  intro pins s σ H Q I hw
  refine isTrue_plain (thn (h pins s σ H _ I hw) fun v s1 qZ => ?_) (he _)
  obtain ⟨x, H1, I1, r1, q1⟩ := qZ
  obtain ⟨d, rfl, q⟩ := q1
  cases r1
  exact wpAny_truthy_bool ⟨H1, I1, q⟩

variable {tA tB' : TT} {rest : List Expr}
noncomputable def tAnd (t u : TT) : TT := fun σ H Q => t σ H fun c H1 => if c = true then u σ H1 Q else Q false H1
noncomputable def tOr (t u : TT) : TT := fun σ H Q => t σ H fun c H1 => if c = true then Q true H1 else u σ H1 Q
noncomputable def tNot (t : TT) : TT := fun σ H Q => t σ H fun c H1 => Q (!c) H1
theorem pw_and1 (ha : PT X a tA) : PW X (.BoolOp .And [a] pos) tA := by
  intro wh pins s σ H Q I h
  refine isTrue_and (thn (ha pins s σ H Q I h) fun c s1 e => ?_)
  cases c with
  | true => exact isTrue_and_nil e
  | false => exact e
theorem pw_or1 (ha : PT X a tA) : PW X (.BoolOp .Or [a] pos) tA := by
  intro wh pins s σ H Q I h
  refine isTrue_or (thn (ha pins s σ H Q I h) fun c s1 e => ?_)
  cases c with
  | false => exact isTrue_or_nil e
  | true => exact e
theorem pw_and (ha : PT X a tA) (hb : PW X (.BoolOp .And (b :: rest) pos) tB') : PW X (.BoolOp .And (a :: b :: rest) pos) (tAnd tA tB') := by
  intro wh pins s σ H Q I h
  refine isTrue_and (thn (ha pins s σ H _ I h) fun c s1 qZ => ?_)
  obtain ⟨H1, I1, q1⟩ := qZ
  cases c with
  | true => exact hb wh pins s1 σ H1 Q I1 q1
  | false => exact ⟨H1, I1, q1⟩
theorem pw_or (ha : PT X a tA) (hb : PW X (.BoolOp .Or (b :: rest) pos) tB') : PW X (.BoolOp .Or (a :: b :: rest) pos) (tOr tA tB') := by
  intro wh pins s σ H Q I h
  refine isTrue_or (thn (ha pins s σ H _ I h) fun c s1 qZ => ?_)
  obtain ⟨H1, I1, q1⟩ := qZ
  cases c with
  | true => exact ⟨H1, I1, q1⟩
  | false => exact hb wh pins s1 σ H1 Q I1 q1
theorem pt_not (ha : PT X a tA) : PT X (.UnaryOp .Not a pos) (tNot tA) := by
  intro pins s σ H Q I h
  exact isTrue_not (ha pins s σ H (fun c H1 => Q (!c) H1) I h)
noncomputable def tAndV (ta tb : TE) : TE := fun σ H Q => ta σ H fun x H1 => ∃ c, x = .bl c ∧ if c = true then tb σ H1 Q else Q (.bl false) H1
noncomputable def tNotV (ta : TE) : TE := fun σ H Q => ta σ H fun x H1 => ∃ c, x = .bl c ∧ Q (.bl (!c)) H1
theorem pe_one {op} {t : TE} (h : PE X a t) : PE X (.BoolOp op [a] pos) t := fun pins s σ H Q I hw => BoolOp_one (h pins s σ H Q I hw)
theorem pe_and (ha : PE X a ta) (hb : PE X (.BoolOp .And (b :: rest) pos) tb) : PE X (.BoolOp .And (a :: b :: rest) pos) (tAndV ta tb) := by
  intro pins s σ H Q I h
  refine BoolOp_and (thn (ha pins s σ H _ I h) fun v s1 qZ => ?_)
  obtain ⟨x, H1, I1, r1, q1⟩ := qZ
  obtain ⟨c, rfl, q1⟩ := q1
  cases r1
  refine wpAny_truthy_bool ?_
  cases c with
  | true => exact hb pins s1 σ H1 Q I1 q1
  | false => exact ⟨.bl false, H1, I1, rfl, q1⟩
theorem pe_not (ha : PE X a ta) : PE X (.UnaryOp .Not a pos) (tNotV ta) := by
  intro pins s σ H Q I h
  refine UnaryOp_ (thn (ha pins s σ H _ I h) fun v s1 qZ => ?_)
  obtain ⟨x, H1, I1, r1, q1⟩ := qZ
  obtain ⟨c, rfl, q1⟩ := q1
  cases r1
  exact not_of (wpAny_truthy_bool ⟨.bl (!c), H1, I1, rfl, q1⟩)
end
end L2

namespace L2
open PySem PySem.Spec PyProof.Rows

noncomputable def SqL (K : PySem.W.Frag) (H : Hp) (a : Addr) (xs : List V) : Prop :=
  Rd H a (.lst xs) ∨
    ∃ (o : Obj) (its : Array Value) (n : Nat), K.lookup a = some o ∧ o.cls = .type "list" ∧ o.dict = none ∧ o.data = .seq its n ∧ its.size ≤ sizeLine ∧ Vals xs its.toList
noncomputable def SqT (K : PySem.W.Frag) (H : Hp) (a : Addr) (xs : List V) : Prop :=
  Rd H a (.tup xs) ∨
    ∃ (o : Obj) (its : Array Value) (n : Nat), K.lookup a = some o ∧ o.cls = .type "tuple" ∧ o.data = .seq its n ∧ its.size ≤ sizeLine ∧ Vals xs its.toList
noncomputable def absV : Value → Option V
  | .none => some .non
  | .bool b => some (.bl b)
  | .int i _ => some (.int i)
  | .str x _ => some (.str x)
  | .bytes b _ => some (.byt b)
  | .float b _ => some (.flt b)
  | .ref a => some (.ref a)
  | .type n => some (.ty n)
  | _ => none
theorem RelV.abs {x : V} {u : Value} (r : RelV x u) : absV u = some x := by
  cases x with
  | non => cases r; rfl
  | bl _ => cases r; rfl
  | int _ => obtain ⟨t, rfl⟩ := r; rfl
  | str _ => obtain ⟨t, rfl⟩ := r; rfl
  | byt _ => obtain ⟨t, rfl⟩ := r; rfl
  | flt _ => obtain ⟨t, rfl⟩ := r; rfl
  | ref _ => cases r; rfl
  | ty _ => cases r; rfl
theorem RelV.inj {x y : V} {u : Value} (r : RelV x u) (q : RelV y u) : x = y := Option.some.inj (r.abs.symm.trans q.abs)
theorem Vals.inj : ∀ {xs ys : List V} {us : List Value}, Vals xs us → Vals ys us → xs = ys
  | _, _, _, .nil, .nil => rfl
  | _, _, _, .cons r t, .cons r' t' => by rw [r.inj r', Vals.inj t t']
section
variable {X : Cx} {pins : List (Addr × Obj)} {σ : St} {H : Hp} {s : Shared} {a : Addr} {xs ys : List V}
theorem SqL.of {K : PySem.W.Frag} (h : H a = some (.lst xs)) : SqL K H a xs := .inl (.inl h)
theorem SqT.of {K : PySem.W.Frag} (h : H a = some (.tup xs)) : SqT K H a xs := .inl (.inl h)
theorem Inv.list (I : Inv X pins σ H s) (h : SqL X.K H a xs) : ∃ its : List Value, Vals xs its ∧ PlainL s.heap a its.toArray ∧ xs.length ≤ sizeLine := by
  rcases h with h | ⟨o, its, n, hk, hc, hd, hs, hz, r⟩
  · obtain ⟨z, its, n, r, e⟩ := h.ok I.hok
    exact ⟨its, r, ⟨_, n, e, rfl, rfl, rfl⟩, z⟩
  · refine ⟨its.toList, r, ⟨o, n, I.kIn a o hk, hc, hd, by simpa using hs⟩, ?_⟩
    have e := r.length
    simp only [Array.length_toList] at e
    omega
theorem Inv.tuple (I : Inv X pins σ H s) (h : SqT X.K H a xs) : ∃ its : List Value, Vals xs its ∧ IsTup s.heap a its.toArray ∧ xs.length ≤ sizeLine := by
  rcases h with h | ⟨o, its, n, hk, hc, hs, hz, r⟩
  · obtain ⟨z, its, r, p⟩ := h.ok I.hok
    exact ⟨its, r, p, z⟩
  · refine ⟨its.toList, r, ⟨o, I.kIn a o hk, hc, n, by simpa using hs⟩, ?_⟩
    have e := r.length
    simp only [Array.length_toList] at e
    omega
theorem Inv.list_inj (I : Inv X pins σ H s) (h : SqL X.K H a xs) (h' : SqL X.K H a ys) : xs = ys := by
  obtain ⟨its, r, ⟨o, n, e, _, _, d⟩, _⟩ := I.list h
  obtain ⟨its', r', ⟨o', n', e', _, _, d'⟩, _⟩ := I.list h'
  rw [e] at e'; cases e'
  rw [d] at d'
  injection d' with d1 _
  have : its = its' := by simpa using congrArg Array.toList d1
  subst this
  exact r.inj r'
theorem Inv.tuple_inj (I : Inv X pins σ H s) (h : SqT X.K H a xs) (h' : SqT X.K H a ys) : xs = ys := by
  obtain ⟨its, r, ⟨o, e, _, n, d⟩, _⟩ := I.tuple h
  obtain ⟨its', r', ⟨o', e', _, n', d'⟩, _⟩ := I.tuple h'
  rw [e] at e'; cases e'
  rw [d] at d'
  injection d' with d1 _
  have : its = its' := by simpa using congrArg Array.toList d1
  subst this
  exact r.inj r'
end

noncomputable abbrev Cx.wish (X : Cx) (E : Value → Shared → Prop) : Cx := { X with xe := E }
noncomputable abbrev Cx.nox (X : Cx) : Cx := X.wish fun _ _ => False
theorem Cx.Ok.wish {X : Cx} (ok : X.Ok) (E : Value → Shared → Prop) : (X.wish E).Ok :=
  ⟨ok.mod, ok.kind, ok.glob, ok.blt, ok.above, ok.inj, ok.has, ok.cab, ok.hd, ok.frames, ok.stk, ok.exf, ok.bs, ok.bsz, ok.noex, ok.exfs, ok.funs, ok.frf⟩
theorem Cx.Ok.unwish {X : Cx} {E : Value → Shared → Prop} (ok : (X.wish E).Ok) : X.Ok :=
  ⟨ok.mod, ok.kind, ok.glob, ok.blt, ok.above, ok.inj, ok.has, ok.cab, ok.hd, ok.frames, ok.stk, ok.exf, ok.bs, ok.bsz, ok.noex, ok.exfs, ok.funs, ok.frf⟩
section
variable {X : Cx} {pins : List (Addr × Obj)} {σ : St} {H : Hp} {s : Shared} {E : Value → Shared → Prop}
theorem Inv.wish (I : Inv X pins σ H s) (E : Value → Shared → Prop) : Inv (X.wish E) pins σ H s := ⟨I.ok.wish E, I.os, I.bare, I.base, I.loc, I.cell, I.free, I.freeC, I.pin, I.hok, I.len⟩
theorem Inv.unwish (I : Inv (X.wish E) pins σ H s) : Inv X pins σ H s := ⟨I.ok.unwish, I.os, I.bare, I.base, I.loc, I.cell, I.free, I.freeC, I.pin, I.hok, I.len⟩
theorem SP.unwish {D : Ends} {f : Flow} {s' : Shared} (h : SP (X.wish E) pins D f s') : SP X pins D f s' := by
  cases f with
  | next => obtain ⟨σ', H', I, q⟩ := h; exact ⟨σ', H', I.unwish, q⟩
  | brk => obtain ⟨σ', H', I, q⟩ := h; exact ⟨σ', H', I.unwish, q⟩
  | cont => obtain ⟨σ', H', I, q⟩ := h; exact ⟨σ', H', I.unwish, q⟩
  | ret u => obtain ⟨v, σ', H', I, r, q⟩ := h; exact ⟨v, σ', H', I.unwish, r, q⟩
theorem PE.nox {e : Expr} {t : TE} (h : PE X.nox e t) : PE X e t := fun pins s σ H Q I hw =>
  wpAny_mono (h pins s σ H Q (I.wish _) hw) (fun _ _ ⟨v, H', I', r, q⟩ => ⟨v, H', I'.unwish, r, q⟩) fun _ _ z => False.elim z
theorem PT.nox {e : Expr} {t : TT} (h : PT X.nox e t) : PT X e t := fun pins s σ H Q I hw =>
  wpAny_mono (h pins s σ H Q (I.wish _) hw) (fun _ _ ⟨H', I', q⟩ => ⟨H', I'.unwish, q⟩) fun _ _ z => False.elim z
theorem PSs.nox {st : List Stmt} {t : TS} (h : PSs X.nox st t) : PSs X st t := fun pins s σ H D I hw =>
  wpAny_mono (h pins s σ H D (I.wish _) hw) (fun _ _ q => q.unwish) fun _ _ z => False.elim z
end

section
variable {X : Cx} {st : Stmt} {rest : List Stmt} {t u : TS} {e : Expr} {te : TE} {pos : Pos}
noncomputable def tNext : TS := fun D σ H => D.nx σ H
noncomputable def tSeq (t u : TS) : TS := fun D σ H => t { D with nx := u D } σ H
theorem pss_nil : PSs X [] tNext := fun _ _ σ H _ I h => wpAny_execs_nil ⟨σ, H, I, h⟩
theorem pss_cons (h1 : PS X st t) (h2 : PSs X rest u) : PSs X (st :: rest) (tSeq t u) := by
  intro pins s σ H D I h
  refine wpAny_execs_cons (thn (h1 pins s σ H { D with nx := u D } I h) fun f s1 q => ?_)
  cases f with
  | next =>
    obtain ⟨σ', H', I', q⟩ := q
    exact h2 pins s1 σ' H' D I' q
  | ret v => exact q
  | brk => exact q
  | cont => exact q
theorem pss_one (h1 : PS X st t) : PSs X [st] t := by
  intro pins s σ H D I h
  refine wpAny_execs_cons (thn (h1 pins s σ H D I h) fun f s1 q => ?_)
  cases f with
  | next => exact wpAny_execs_nil q
  | ret v => exact q
  | brk => exact q
  | cont => exact q
theorem Inv.quiet {pins : List (Addr × Obj)} {σ : St} {H : Hp} {s : Shared} (I : Inv X pins σ H s) : interactive X.env = false := by simp [interactive, I.ok.kind]
noncomputable def tDrop (te : TE) : TS := fun D σ H => te σ H fun _ H1 => D.nx σ H1
theorem ps_expr (he : PE X e te) (hs : swapsWith e none pos.line X.env = pure false := by rfl) : PS X (.Expr e pos) (tDrop te) := by
  intro pins s σ H D I h
  exact wpAny_Expr_any (thn (he pins s σ H _ I h) fun v s1 ⟨x, H1, I1, r1, q1⟩ => ⟨σ, H1, I1, q1⟩) I.quiet hs
noncomputable def tRet (te : TE) : TS := fun D σ H => te σ H D.rt
theorem ps_ret (he : PE X e te) : PS X (.Return (some e) pos) (tRet te) := by
  intro pins s σ H D I h
  exact wpAny_Return_some (thn (he pins s σ H _ I h) fun v s1 ⟨x, H1, I1, r1, q1⟩ => ⟨x, σ, H1, I1, r1, q1⟩)
noncomputable def tIfS (c : TT) (t u : TS) : TS := fun D σ H => c σ H fun b H1 => if b = true then t D σ H1 else u D σ H1
theorem ps_if {c : Expr} {a b : List Stmt} {tc : TT} (hc : PT X c tc) (ha : PSs X a t) (hb : PSs X b u) : PS X (.If c a b pos) (tIfS tc t u) := by
  intro pins s σ H D I h
  refine wpAny_If (thn (hc pins s σ H _ I h) fun d s1 qZ => ?_)
  obtain ⟨H1, I1, q1⟩ := qZ
  cases d with
  | true => exact ha pins s1 σ H1 D I1 q1
  | false => exact hb pins s1 σ H1 D I1 q1
noncomputable def tNever : TS := fun _ _ _ => False
theorem ps_never : PS X st tNever := fun _ _ _ _ _ _ h => h.elim
end

noncomputable abbrev TG := V → St → Hp → (St → Hp → Prop) → Prop
noncomputable abbrev TGs := List V → St → Hp → (St → Hp → Prop) → Prop
noncomputable def PG (X : Cx) (target : Expr) (t : TG) : Prop :=
  ∀ (pins : List (Addr × Obj)) (s : Shared) (σ : St) (H : Hp) (v : V) (u : Value) (Q : St → Hp → Prop), Inv X pins σ H s → RelV v u → t v σ H Q →
    wpAny (model X.prog X.w) X.A (assign target X.env u) (fun _ s' => ∃ σ' H', Inv X pins σ' H' s' ∧ Q σ' H') X.xe s
noncomputable def PGs (X : Cx) (ts : List Expr) (t : TGs) : Prop :=
  ∀ (pins : List (Addr × Obj)) (s : Shared) (σ : St) (H : Hp) (vs : List V) (us : List Value) (Q : St → Hp → Prop), Inv X pins σ H s → Vals vs us → t vs σ H Q →
    wpAny (model X.prog X.w) X.A (assignInOrder ((assignEach ts X.env).map (·.2)) us) (fun _ s' => ∃ σ' H', Inv X pins σ' H' s' ∧ Q σ' H') X.xe s
noncomputable abbrev TSet := V → V → V → Hp → (Hp → Prop) → Prop
noncomputable def PSet (X : Cx) (t : TSet) : Prop :=
  ∀ (pins : List (Addr × Obj)) (s : Shared) (σ : St) (H : Hp) (o i v : V) (ov iv u : Value) (Q : Hp → Prop), Inv X pins σ H s → RelV o ov → RelV i iv → RelV v u → t o i v H Q →
    wpAny (model X.prog X.w) X.A (setItem ov iv u) (fun _ s' => ∃ H', Inv X pins σ H' s' ∧ Q H') X.xe s
section
variable {X : Cx} {pos : Pos}
noncomputable def gName (i : Nat) : TG := fun v σ H Q => Q (σ.set i (some v)) H
theorem pg_name {i : Nat} {x : Str} (hN : X.N.Nodup) (hi : X.N[i]? = some x) (hx : Loc X.env.scope x) (hf : X.fn x = true ∨ X.env.scope.names.lookup x = some .local := by first | exact .inl rfl | exact .inr rfl | assumption) : PG X (.Name x pos) (gName i) := by
  intro pins s σ H v u Q I r h
  exact wpAny_assign_Name (store_ok I hN hi hx r (fun s' I' => ⟨_, H, I', h⟩) hf)
noncomputable def gNil : TGs := fun vs σ H Q => vs = [] ∧ Q σ H
noncomputable def gCons (t : TG) (u : TGs) : TGs := fun vs σ H Q => ∃ v r, vs = v :: r ∧ t v σ H fun σ' H' => u r σ' H' Q
theorem pgs_nil : PGs X [] gNil := by
  intro pins s σ H vs us Q I r h
  obtain ⟨e, h⟩ := h
  subst e
  cases r
  exact assignInOrder_nil ⟨σ, H, I, h⟩
theorem pgs_cons {e : Expr} {es : List Expr} {t : TG} {u : TGs} (h1 : PG X e t) (h2 : PGs X es u)
    (hs : (assignEach (e :: es) X.env).map (·.2) = assign e X.env :: (assignEach es X.env).map (·.2) := by rfl) : PGs X (e :: es) (gCons t u) := by
  intro pins s σ H vs us Q I r h
  obtain ⟨v, vr, e1, h⟩ := h
  subst e1
  cases r with
  | cons r rr =>
    rw [hs]
    refine assignInOrder_cons (thn (h1 pins s σ H _ _ _ I r h) fun _ s1 qZ => ?_)
    obtain ⟨σ1, H1, I1, q1⟩ := qZ
    exact h2 pins s1 σ1 H1 _ _ Q I1 rr q1
noncomputable def gTup (K : PySem.W.Frag) (n : Nat) (t : TGs) : TG := fun v σ H Q => ∃ a xs, v = .ref a ∧ SqT K H a xs ∧ xs.length = n ∧ t xs σ H Q
theorem pg_tup {es : List Expr} {k : Nat} {t : TGs} {n : Nat} (hc : X.calm = true) (h : PGs X es t)
    (hn : (assignEach es X.env).length = n := by rfl) (hst : (assignEach es X.env).findIdx? (·.1) = none := by rfl) : PG X (.Tuple es k pos) (gTup X.K n t) := by
  intro pins s σ H v u Q I r hw
  obtain ⟨a, xs, e1, hq, hl, hw⟩ := hw
  subst e1
  cases r
  obtain ⟨its, rv, ht, hz⟩ := I.tuple hq
  refine assign_Tuple_tuple (I.ok.hd hc) ht (by simp [hn, ← hl, rv.length]) hst fun h' hx => ?_
  have I1 : Inv X pins σ H { s with heap := h' } := I.kept (t' := s.toks) fun b o e => hx b o (Nat.ne_of_lt (Heap.lt_size e)) e
  exact h pins _ σ H xs _ Q I1 (by simpa using rv) hw
noncomputable def gSub (to ti : TE) (t : TSet) : TG := fun v σ H Q => to σ H fun o H1 => ti σ H1 fun i H2 => t o i v H2 fun H3 => Q σ H3
theorem pg_sub {o i : Expr} {to ti : TE} {t : TSet} (ho : PE X o to) (hi : PE X i ti) (hs : PSet X t)
    (ha : ∀ v, assign (.Subscript o i pos) X.env v = (do
      let ov ← holding [v] (eval o X.env)
      let iv ← holding [v, ov] (eval i X.env)
      standAt pos
      holding [v, ov, iv] (setItem ov iv v)
      release [v, ov, iv] []) := by intro _; rfl) : PG X (.Subscript o i pos) (gSub to ti t) := by
  intro pins s σ H v u Q I r h
  rw [ha]
  refine wpAny_bind (wpAny_holding (thn (ho pins s σ H _ I h) fun ov s1 qZ => ?_))
  obtain ⟨x, H1, I1, r1, q1⟩ := qZ
  refine wpAny_bind (wpAny_holding (thn (hi pins s1 σ H1 _ I1 q1) fun iv s2 qZ => ?_))
  obtain ⟨y, H2, I2, r2, q2⟩ := qZ
  refine wpAny_bind (wpAny_standAt (wpAny_bind (wpAny_holding (thn (hs pins s2 σ H2 x y v ov iv u _ I2 r1 r2 r q2) fun _ s3 qZ => ?_))))
  obtain ⟨H3, I3, q3⟩ := qZ
  exact wpAny_release ⟨σ, H3, I3, q3⟩
noncomputable def tAsg (te : TE) (g : TG) : TS := fun D σ H => te σ H fun x H1 => g x σ H1 D.nx
theorem ps_asg {tg e : Expr} {te : TE} {g : TG} (he : PE X e te) (hg : PG X tg g) (hs : swapsWithSole [tg] e pos.line X.env = pure false := by rfl) (hw : swappedStores [tg] e X.env = pure none := by rfl)
    (h1 : (assignEach [tg] X.env).map (·.2) = [assign tg X.env] := by rfl) : PS X (.Assign [tg] e pos) (tAsg te g) := by
  intro pins s σ H D I h
  refine wpAny_Assign_stores (thn (he pins s σ H _ I h) fun v s1 qZ => ?_) hs hw
  obtain ⟨x, H1, I1, r1, q1⟩ := qZ
  rw [h1]
  exact thn (hg pins s1 σ H1 x v _ I1 r1 q1) fun _ s2 q => q
theorem ps_set {i : Nat} {x : Str} {e : Expr} {te : TE} {pos' : Pos} (hN : X.N.Nodup) (hi : X.N[i]? = some x) (hx : Loc X.env.scope x) (he : PE X e te) (hs : swapsWith e (some (.Name x pos')) pos.line X.env = pure false := by rfl) (hf : X.fn x = true ∨ X.env.scope.names.lookup x = some .local := by first | exact .inl rfl | exact .inr rfl | assumption) :
    PS X (.Assign [.Name x pos'] e pos) (tAsg te (gName i)) := by
  intro pins s σ H D I h
  refine wpAny_Assign_Name (thn (he pins s σ H _ I h) fun v s1 qZ => ?_) hs
  obtain ⟨y, H1, I1, r1, q1⟩ := qZ
  exact store_ok I1 hN hi hx r1 (fun s2 I2 => ⟨_, H1, I2, q1⟩) hf
noncomputable def tPar (i j : Nat) (ta : TA) : TS := fun D σ H => ta σ H fun vs H1 => ∃ v w, vs = [v, w] ∧ D.nx ((σ.set i (some v)).set j (some w)) H1
theorem ps_par {i j : Nat} {x y : Str} {a b : Expr} {ta : TA} {px py pt : Pos} {kt k2 pt2} (hc : X.calm = true) (hN : X.N.Nodup) (hi : X.N[i]? = some x) (hj : X.N[j]? = some y) (hij : i ≠ j)
    (hx : X.env.scope.names.lookup x = some .local) (hy : X.env.scope.names.lookup y = some .local) (ha : PA X [a, b] ta)
    (hw : swappedStores [.Tuple [.Name x px, .Name y py] kt pt] (.Tuple [a, b] k2 pt2) X.env = pure (some [x, y]))
    (hs : swapsWithSole [.Tuple [.Name x px, .Name y py] kt pt] (.Tuple [a, b] k2 pt2) pos.line X.env = pure false := by rfl) :
    PS X (.Assign [.Tuple [.Name x px, .Name y py] kt pt] (.Tuple [a, b] k2 pt2) pos) (tPar i j ta) := by
  intro pins s σ H D I h
  rw [exec_Assign_arm]
  refine wpAny_bind (wpAny_standAt ?_)
  rw [hs]
  refine wpAny_bind (wpAny_pure ?_)
  rw [if_neg (by decide)]
  refine wpAny_bind (Tuple_ (thn (ha _ pins s σ H _ I h) fun us s1 qZ => ?_))
  obtain ⟨vs, H1, I1, r1, q1⟩ := qZ
  obtain ⟨v, w, e1, q1⟩ := q1
  subst e1
  obtain ⟨u1, u2, rfl, rv, rw'⟩ : ∃ u1 u2, us = [u1, u2] ∧ RelV v u1 ∧ RelV w u2 := by
    cases r1 with
    | cons p q =>
      cases q with
      | cons p' q' =>
        cases q'
        exact ⟨_, _, rfl, p, p'⟩
  refine wpAny_newObj_type ?_ (by show 2 ≤ sizeLine; decide)
  have I2 : Inv X pins σ H1 { s1 with heap := s1.heap.push { cls := .type "tuple", data := .seq [u1, u2].toArray } } := I1.kept (t' := s1.toks) fun b o e => Heap.get?_push_of_some _ e
  rw [hw]
  refine wpAny_bind (wpAny_pure ?_)
  show wpAny (model X.prog X.w) X.A (do rule "assign.swapped-stores"; let items ← unpackItems (.ref s1.heap.objs.size) 2 none; assignInOrder [fun v => bindName X.env y v, fun v => bindName X.env x v] items.reverse; pure Flow.next) _ _ _
  refine wpAny_bind (wpAny_rule (wpAny_bind (unpackItems_tuple (items := #[u1, u2]) (I.ok.hd hc) (IsTup.new s1.heap _) fun h' hx' => ?_)))
  have I3 := I2.kept (h' := h') (t' := s1.toks) fun b o e => hx' b o (Nat.ne_of_lt (Heap.lt_size e)) e
  show wpAny _ _ (assignInOrder [fun v => bindName X.env y v, fun v => bindName X.env x v] [u2, u1] >>= fun _ => pure Flow.next) _ _ _
  refine wpAny_bind (assignInOrder_cons (wpAny_bindName (store_ok I3 hN hj (.inl hy) rw' (fun s2 I4 => ?_) (.inr hy))))
  refine assignInOrder_cons (wpAny_bindName (store_ok I4 hN hi (.inl hx) rv (fun s3 I5 => assignInOrder_nil (wpAny_pure ?_)) (.inr hx)))
  rw [List.set_comm _ _ (Ne.symm hij)] at I5
  exact ⟨_, H1, I5, q1⟩
end

section
variable {X : Cx} {pos : Pos}
noncomputable def tWhile (c : TT) (tb : TS) : TS := fun D σ H => ∃ W : Nat → St → Hp → Prop, (∃ m, W m σ H) ∧ ∀ m σ H, W m σ H →
  c σ H fun b H1 => if b = true then ∃ N : St → Hp → Prop, (∀ σ' H', N σ' H' → ∃ m', m' < m ∧ W m' σ' H') ∧ tb { D with nx := N, ct := N, bk := D.nx } σ H1 else D.nx σ H1
theorem ps_while {c : Expr} {body : List Stmt} {tc : TT} {tb : TS} (hp : PassesOwn (model X.prog X.w) X.A X.env X.xe) (hc : PT X c tc) (hb : PSs X body tb) : PS X (.While c body [] pos) (tWhile tc tb) := by
  intro pins s σ H D I h
  obtain ⟨W, ⟨m0, w0⟩, turn⟩ := h
  refine wpAny_While (codeAny_whileLoop (fun n s' => ∃ σ' H', Inv X pins σ' H' s' ∧ W n σ' H') ?_ m0 ⟨σ, H, I, w0⟩)
  rintro n s1 ⟨σ1, H1, I1, w1⟩
  refine wpAny_passesOwn hp (thn (hc pins s1 σ1 H1 _ I1 (turn n σ1 H1 w1)) fun b s2 qZ => ?_)
  obtain ⟨H2, I2, q2⟩ := qZ
  cases b with
  | true =>
    obtain ⟨N, hN, q2⟩ := q2
    rw [if_pos rfl]
    refine wpAny_passesOwn hp (thn (hb pins s2 σ1 H2 _ I2 q2) fun f s3 q3 => ?_)
    cases f with
    | next =>
      obtain ⟨σ3, H3, I3, n3⟩ := q3
      obtain ⟨m', hm, w3⟩ := hN σ3 H3 n3
      exact ⟨m', hm, σ3, H3, I3, w3⟩
    | cont =>
      obtain ⟨σ3, H3, I3, n3⟩ := q3
      obtain ⟨m', hm, w3⟩ := hN σ3 H3 n3
      exact ⟨m', hm, σ3, H3, I3, w3⟩
    | brk => exact q3
    | ret v => exact q3
  | false =>
    rw [if_neg Bool.false_ne_true]
    exact wpAny_execs_nil ⟨σ1, H2, I2, q2⟩
end

structure It where
  go : Nat → Hp → Prop
  yld : Nat → Hp → V → Hp → Prop
  stop : Nat → Hp → Prop
noncomputable def FpOk (X : Cx) (pins : List (Addr × Obj)) (H : Hp) (b : Addr) : Prop :=
  H b = none ∧ b ≠ X.env.locals ∧ b ∉ X.fs ∧ (b ∈ X.ex ∨ X.s₀.heap.objs.size ≤ b) ∧ (∀ x c, X.env.cells.lookup x = some c → c ≠ b) ∧ ∀ p ∈ X.pn ++ pins, p.1 ≠ b
theorem Inv.fpOk {X : Cx} {pins : List (Addr × Obj)} {σ : St} {H H' : Hp} {s : Shared} {b : Addr} (I : Inv X pins σ H s) (hb : s.heap.objs.size ≤ b) (hn : H' b = none) : FpOk X pins H' b := by
  refine ⟨hn, Nat.ne_of_gt (Nat.lt_of_lt_of_le I.lt hb), I.nofs hb, .inr (Nat.le_trans I.sz hb), fun x c e z => ?_, fun p hp z => ?_⟩
  · obtain ⟨v, q⟩ := I.cell x c e
    exact absurd (Nat.lt_of_lt_of_le q.lt (by rw [z]; exact hb)) (Nat.lt_irrefl _)
  · exact absurd (Nat.lt_of_lt_of_le (Heap.lt_size (I.pin p hp).1) (by rw [z]; exact hb)) (Nat.lt_irrefl _)
structure Turn (P : Program) (w : World) (K : PySem.W.Frag) (tg : Expr) (J : It) (fp : List Addr) (it : Addr) (tn : Nat → Heap → Prop) : Prop where
  mem : it ∈ fp
  obj : ∀ i h, tn i h → ∀ b ∈ fp, ∃ o, h.get? b = some o ∧ ∀ v, o.data ≠ .cell v
  keep : ∀ i h h', tn i h → (∀ b ∈ fp, ∀ o, h.get? b = some o → h'.get? b = some o) → tn i h'
  item : ∀ (X : Cx), X.prog = P → X.w = w → X.K = K → X.calm = true → ∀ (i : Nat) (pins : List (Addr × Obj)) (s : Shared) (σ : St) (H : Hp) (E : Value → Shared → Prop), Inv X pins σ H s → (∀ b ∈ fp, FpOk X pins H b) → tn i s.heap → J.go i H →
    wpAny (model P w) X.A (pyNext (.ref it)) (fun r s1 => ∃ u, r = some u ∧
      wpAny (model P w) X.A (letOwnedTupleGo tg (.ref it) u) (fun _ s2 => ∃ x H', Inv X pins σ H' s2 ∧ RelV x u ∧ J.yld i H x H' ∧ tn (i + 1) s2.heap ∧ ∀ b ∈ fp, H' b = none) E s1) E s
  done : ∀ (X : Cx), X.prog = P → X.w = w → X.K = K → X.calm = true → ∀ (i : Nat) (pins : List (Addr × Obj)) (s : Shared) (σ : St) (H : Hp) (E : Value → Shared → Prop), Inv X pins σ H s → (∀ b ∈ fp, FpOk X pins H b) → tn i s.heap → J.stop i H →
    wpAny (model P w) X.A (pyNext (.ref it)) (fun r s1 => r = none ∧ Inv X pins σ H s1) E s
  self : ∀ (A : Around) (i : Nat) (s : Shared) (Q : Value → Shared → Prop) (E : Value → Shared → Prop), tn i s.heap → Q (.ref it) s → wpAny (model P w) A (pyIter (.ref it)) Q E s
noncomputable abbrev TI := St → Hp → (It → Hp → Prop) → Prop
noncomputable def PIE (X : Cx) (pins : List (Addr × Obj)) (σ : St) (tg : Expr) (R : It → Hp → Prop) (itv : Value) (s2 : Shared) : Prop :=
  ∃ (it : Addr) (fp : List Addr) (tn : Nat → Heap → Prop) (J : It) (H' : Hp), itv = .ref it ∧ Inv X pins σ H' s2 ∧ Turn X.prog X.w X.K tg J fp it tn ∧ tn 0 s2.heap ∧ (∀ b ∈ fp, FpOk X pins H' b) ∧ R J H'
noncomputable def PI (X : Cx) (tg iter : Expr) (wi : TI) : Prop :=
  ∀ (pins : List (Addr × Obj)) (s : Shared) (σ : St) (H : Hp) (R : It → Hp → Prop), Inv X pins σ H s → wi σ H R →
    wpAny (model X.prog X.w) X.A (eval iter X.env) (fun v s1 => wpAny (model X.prog X.w) X.A (pyIter v) (PIE X pins σ tg R) X.xe s1) X.xe s

theorem go_of {M : Model} {A : Around} {E : Value → Shared → Prop} {s : Shared} {tg : Expr} {it : Addr} {u : Value} {o : Obj} {n : String} {vs : Array Value} {Q : Unit → Shared → Prop} (ho : s.heap.get? it = some o) (hc : o.cls = .type n) (hd : o.data = .fields vs)
    (hn : ["enumerate", "zip", "dict_itemiterator", "dict_reverseitemiterator", "odict_iterator", "itertools.zip_longest", "itertools.pairwise"].contains n = false) (hQ : Q () s) : wpAny M A (letOwnedTupleGo tg (.ref it) u) Q E s := by
  unfold letOwnedTupleGo
  cases tg <;> first
    | exact wpAny_pure hQ
    | (cases u <;> first
        | exact wpAny_pure hQ
        | (refine wpAny_bind (wpAny_load ho ?_)
           rw [hc, hd]
           show wpAny M A (if (["enumerate", "zip", "dict_itemiterator", "dict_reverseitemiterator", "odict_iterator", "itertools.zip_longest", "itertools.pairwise"].contains n && vs[0]? == some (rawInt _)) = true then _ else _) Q E s
           rw [if_neg (by intro h; rw [hn, Bool.false_and] at h; cases h)]
           exact wpAny_pure hQ))

noncomputable def Itl (K : PySem.W.Frag) (a : Addr) : It :=
  ⟨fun i H => ∃ xs x, SqL K H a xs ∧ xs[i]? = some x, fun i H x H' => H' = H ∧ ∀ xs, SqL K H a xs → xs[i]? = some x, fun i H => ∃ xs, SqL K H a xs ∧ xs.length ≤ i⟩
noncomputable def Itt (K : PySem.W.Frag) (a : Addr) : It :=
  ⟨fun i H => ∃ xs x, SqT K H a xs ∧ xs[i]? = some x, fun i H x H' => H' = H ∧ ∀ xs, SqT K H a xs → xs[i]? = some x, fun i H => ∃ xs, SqT K H a xs ∧ xs.length ≤ i⟩
noncomputable def Itr (lo : Int) (n : Nat) : It := ⟨fun i _ => i < n, fun i H x H' => H' = H ∧ x = .int (lo + i), fun i _ => n ≤ i⟩
theorem turn_list {P : Program} {w : World} {K : PySem.W.Frag} {tg : Expr} (a it : Addr) : Turn P w K tg (Itl K a) [it] it (fun i h => h.IsListIter it a i) where
  mem := by simp
  obj := fun i h st b hb => by
    have e : b = it := by simpa using hb
    subst e
    obtain ⟨o, e, c, d⟩ := st
    exact ⟨o, e, fun v z => by rw [d] at z; cases z⟩
  keep := fun i h h' st k => st.at fun o e => k it (by simp) o e
  item := by
    intro X hP hw hK hc i pins s σ H E I hf st hg
    subst hP hw hK
    obtain ⟨xs, x, hq, hx⟩ := hg
    obtain ⟨its, rv, p, hz⟩ := I.list hq
    obtain ⟨u, hu, ru⟩ := rv.get hx
    obtain ⟨f0, f1, f2, f3, f4, f5⟩ := hf it (by simp)
    refine wpAny_pyNext_list_item st p.isList (x := u) (by simpa using hu) fun h' st' sb => ?_
    have I1 : Inv X pins σ H { s with heap := h' } := I.turned (t' := s.toks) (fun b o hb e => (sb.2 b hb).trans e) f0 f1 f3 f4 f5
    obtain ⟨o, e, c, d⟩ := id st'
    exact ⟨u, rfl, go_of (s := { s with heap := h' }) e c d (by decide) ⟨x, H, I1, ru, ⟨rfl, fun ys hy => by rw [I.list_inj hy hq]; exact hx⟩, st', fun b hb => (hf b hb).1⟩⟩
  done := by
    intro X hP hw hK hc i pins s σ H E I hf st hg
    subst hP hw hK
    obtain ⟨xs, hq, hx⟩ := hg
    obtain ⟨its, rv, p, hz⟩ := I.list hq
    obtain ⟨f0, f1, f2, f3, f4, f5⟩ := hf it (by simp)
    have hl := rv.length
    exact wpAny_pyNext_list_end (I.ok.hd hc) st p.isList (by simp; omega) fun h' eb => ⟨rfl, I.turned (t' := s.toks) (fun b o hb e => eb b o hb e) f0 f1 f3 f4 f5⟩
  self := fun _ _ _ _ _ st h => wpAny_pyIter_listiter st h
theorem turn_tuple {P : Program} {w : World} {K : PySem.W.Frag} {tg : Expr} (a it : Addr) : Turn P w K tg (Itt K a) [it] it (fun i h => h.IsTupleIter it a i) where
  mem := by simp
  obj := fun i h st b hb => by
    have e : b = it := by simpa using hb
    subst e
    obtain ⟨o, e, c, d⟩ := st
    exact ⟨o, e, fun v z => by rw [d] at z; cases z⟩
  keep := fun i h h' st k => st.at fun o e => k it (by simp) o e
  item := by
    intro X hP hw hK hc i pins s σ H E I hf st hg
    subst hP hw hK
    obtain ⟨xs, x, hq, hx⟩ := hg
    obtain ⟨its, rv, p, hz⟩ := I.tuple hq
    obtain ⟨u, hu, ru⟩ := rv.get hx
    obtain ⟨f0, f1, f2, f3, f4, f5⟩ := hf it (by simp)
    refine wpAny_pyNext_tuple_item st (show s.heap.IsTuple a its.toArray from p) (x := u) (by simpa using hu) fun h' st' sb => ?_
    have I1 : Inv X pins σ H { s with heap := h' } := I.turned (t' := s.toks) (fun b o hb e => (sb.2 b hb).trans e) f0 f1 f3 f4 f5
    obtain ⟨o, e, c, d⟩ := id st'
    exact ⟨u, rfl, go_of (s := { s with heap := h' }) e c d (by decide) ⟨x, H, I1, ru, ⟨rfl, fun ys hy => by rw [I.tuple_inj hy hq]; exact hx⟩, st', fun b hb => (hf b hb).1⟩⟩
  done := by
    intro X hP hw hK hc i pins s σ H E I hf st hg
    subst hP hw hK
    obtain ⟨xs, hq, hx⟩ := hg
    obtain ⟨its, rv, p, hz⟩ := I.tuple hq
    obtain ⟨f0, f1, f2, f3, f4, f5⟩ := hf it (by simp)
    have hl := rv.length
    exact wpAny_pyNext_tuple_end (I.ok.hd hc) st (show s.heap.IsTuple a its.toArray from p) (by simp; omega) fun h' eb => ⟨rfl, I.turned (t' := s.toks) (fun b o hb e => eb b o hb e) f0 f1 f3 f4 f5⟩
  self := fun _ _ _ _ _ st h => wpAny_pyIter_tupleiter st h
theorem turn_range {P : Program} {w : World} {K : PySem.W.Frag} {tg : Expr} (it : Addr) (lo : Int) (n : Nat) : Turn P w K tg (Itr lo n) [it] it (fun i h => IsRangeIter h it (lo + (i : Nat) * 1) ((n : Int) - (i : Nat)) 1) where
  mem := by simp
  obj := fun i h st b hb => by
    have e : b = it := by simpa using hb
    subst e
    exact ⟨_, st, fun v z => by
      have z' : Data.fields _ = Data.cell v := z
      cases z'⟩
  keep := fun i h h' st k => k it (by simp) _ st
  item := by
    intro X hP hw hK hc i pins s σ H E I hf st hg
    subst hP hw hK
    obtain ⟨f0, f1, f2, f3, f4, f5⟩ := hf it (by simp)
    have W := Walks.range (prog := X.prog) (w := X.w) (I.ok.hd hc) it lo 1 n
    refine W.item i s _ _ hg st fun v h' tk hv st' kk => ?_
    obtain ⟨t, rfl⟩ := hv
    have I1 : Inv X pins σ H { s with heap := h', toks := tk } := I.turned (fun b o hb e => kk b o (by simpa using hb) e) f0 f1 f3 f4 f5
    refine ⟨_, rfl, go_of (s := { s with heap := h', toks := tk }) (n := "range_iterator") st' rfl rfl (by decide) ⟨.int (lo + i), H, I1, ⟨t, ?_⟩, ⟨rfl, rfl⟩, st', fun b hb => (hf b hb).1⟩⟩
    rw [Int.mul_one]
  done := by
    intro X hP hw hK hc i pins s σ H E I hf st hg
    subst hP hw hK
    obtain ⟨f0, f1, f2, f3, f4, f5⟩ := hf it (by simp)
    exact wpAny_pyNext_range_end (I.ok.hd hc) st (by have : n ≤ i := hg; omega) fun h' eb => ⟨rfl, I.turned (t' := s.toks) (fun b o hb e => eb b o hb e) f0 f1 f3 f4 f5⟩
  self := fun _ _ _ _ _ st h => wpAny_pyIter_rangeiter st h
end L2

namespace L2
open PySem PySem.Spec PyProof.Rows
section
variable {X : Cx} {tg : Expr}
noncomputable def iTup (K : PySem.W.Frag) (tl : TE) : TI := fun σ H R => tl σ H fun x H1 => ∃ a, x = .ref a ∧ (∃ xs, SqT K H1 a xs) ∧ R (Itt K a) H1
theorem pi_tup {l : Expr} {tl : TE} (hl : PE X l tl) : PI X tg l (iTup X.K tl) := by
  intro pins s σ H R I h
  refine thn (hl pins s σ H _ I h) fun v s1 qZ => ?_
  obtain ⟨x, H1, I1, r1, q1⟩ := qZ
  obtain ⟨a, e, ⟨xs, hq⟩, q⟩ := q1
  subst e
  cases r1
  obtain ⟨its, rv, p, hz⟩ := I1.tuple hq
  refine wpAny_pyIter_tuple (show s1.heap.IsTuple a its.toArray from p) ?_
  refine ⟨s1.heap.objs.size, [s1.heap.objs.size], _, _, H1, rfl, I1.kept (t' := s1.toks) fun b o e => Heap.get?_push_of_some _ e, turn_tuple a _, ⟨_, Heap.get?_push_size _ rfl, rfl, rfl⟩, fun b hb => ?_, q⟩
  have e : b = s1.heap.objs.size := by simpa using hb
  subst e
  exact I1.fpOk (Nat.le_refl _) (I1.hok.fresh (Nat.le_refl _))
theorem range_it {pins : List (Addr × Obj)} {σ : St} {H : Hp} {s : Shared} {R : It → Hp → Prop} {E : Value → Shared → Prop} {lo hi : Int} {t u v : Tok} {tk : Nat} (I : Inv X pins σ H s) (h1 : -(2 ^ 62) ≤ lo) (h2 : lo < 2 ^ 62) (h3 : -(2 ^ 62) ≤ hi) (h4 : hi < 2 ^ 62)
    (q : R (Itr lo (hi - lo).toNat) H) : wpAny (model X.prog X.w) X.A (pyIter (.ref s.heap.objs.size)) (PIE X pins σ tg R) E { s with heap := s.heap.push { cls := .type "range", data := .fields #[.int lo t, .int hi u, .int 1 v] }, toks := tk } := by
  refine wpAny_pyIter_range (IsRange.new ..) (small_one h1 h2 h3 h4) ?_
  have I1 : Inv X pins σ H { s with heap := s.heap.push { cls := .type "range", data := .fields #[.int lo t, .int hi u, .int 1 v] }, toks := tk } := I.kept fun b o e => Heap.get?_push_of_some _ e
  refine ⟨(s.heap.push { cls := .type "range", data := .fields #[.int lo t, .int hi u, .int 1 v] }).objs.size, [(s.heap.push { cls := .type "range", data := .fields #[.int lo t, .int hi u, .int 1 v] }).objs.size], _, _, H, rfl,
    I1.kept (t' := tk) fun b o e => Heap.get?_push_of_some _ e, turn_range _ lo (hi - lo).toNat, ?_, fun b hb => ?_, q⟩
  · have e1 : lo + ((0 : Nat) : Int) * 1 = lo := by simp
    have e2 : (((hi - lo).toNat : Nat) : Int) - ((0 : Nat) : Int) = Builtin.Range.rangeSize lo hi 1 := by rw [rangeSize_one]; split <;> omega
    show IsRangeIter _ _ (lo + ((0 : Nat) : Int) * 1) ((((hi - lo).toNat : Nat) : Int) - ((0 : Nat) : Int)) 1
    rw [e1, e2]
    exact Heap.get?_push_size _ rfl
  · have e : b = (s.heap.push { cls := .type "range", data := .fields #[.int lo t, .int hi u, .int 1 v] }).objs.size := by simpa using hb
    subst e
    exact I1.fpOk (Nat.le_refl _) (I1.hok.fresh (Nat.le_refl _))
noncomputable def iRng1 (ta : TA) : TI := fun σ H R => ta σ H fun vs H1 => ∃ j : Int, vs = [.int j] ∧ -(2 ^ 62) ≤ j ∧ j < 2 ^ 62 ∧ R (Itr 0 j.toNat) H1
theorem pi_range1 {a : Expr} {ta : TA} {p pos : Pos} (hg : Gl X "range") (hm : X.mg "range" = none) (ha : PA X [a] ta) (hs : starEach [a] X.env = [(false, eval a X.env)] := by rfl) : PI X tg (.Call (.Name "range" p) [a] [] pos) (iRng1 ta) := by
  intro pins s σ H R I h
  refine Call_ (ld_blt I hg hm boot_range (PyProof.Rows.callWith_type1 (thn (ha pos pins s σ H _ I h) fun us s1 qZ => ?_) hs rfl))
  obtain ⟨vs, H1, I1, r1, q1⟩ := qZ
  obtain ⟨j, e, q1, q2, q⟩ := q1
  subst e
  cases r1 with
  | cons r rr =>
    cases rr
    obtain ⟨t, rfl⟩ := r
    exact call_range_1 (range_it I1 (by omega) (by omega) q1 q2 (by simpa using q))
noncomputable def tFor (wi : TI) (g : TG) (tb : TS) : TS := fun D σ H => wi σ H fun J H1 => ∃ W : Nat → Nat → St → Hp → Prop, (∃ m, W 0 m σ H1) ∧ ∀ i m σ H, W i m σ H →
  (J.stop i H ∧ D.nx σ H) ∨ (J.go i H ∧ ∃ N : St → Hp → Prop, (∀ σ' H', N σ' H' → ∃ m', m' < m ∧ W (i + 1) m' σ' H') ∧ ∀ x H', J.yld i H x H' → g x σ H' fun σ2 H2 => tb { D with nx := N, ct := N, bk := D.nx } σ2 H2)
noncomputable def pinsAt (fp : List Addr) (h : Heap) : List (Addr × Obj) := fp.filterMap fun b => (h.get? b).map fun o => (b, o)
theorem mem_pinsAt {fp : List Addr} {h : Heap} {b : Addr} {o : Obj} (hb : b ∈ fp) (e : h.get? b = some o) : (b, o) ∈ pinsAt fp h := List.mem_filterMap.mpr ⟨b, hb, by rw [e]; rfl⟩
theorem of_pinsAt {fp : List Addr} {h : Heap} {p : Addr × Obj} (hp : p ∈ pinsAt fp h) : p.1 ∈ fp ∧ h.get? p.1 = some p.2 := by
  obtain ⟨b, hb, e⟩ := List.mem_filterMap.mp hp
  cases q : h.get? b with
  | none => rw [q] at e; cases e
  | some o =>
    rw [q] at e
    have e' : (b, o) = p := Option.some.inj e
    subst e'
    exact ⟨hb, q⟩
theorem Inv.pinned {pins : List (Addr × Obj)} {σ : St} {H : Hp} {s : Shared} {fp : List Addr} (I : Inv X pins σ H s) (hf : ∀ b ∈ fp, FpOk X pins H b) (ho : ∀ b ∈ fp, ∃ o, s.heap.get? b = some o ∧ ∀ v, o.data ≠ .cell v) : Inv X (pins ++ pinsAt fp s.heap) σ H s :=
  I.pins_of fun p hp => (List.mem_append.mp hp).elim (fun z => I.pin p (List.mem_append_right _ z)) fun z => by
    obtain ⟨hb, e⟩ := of_pinsAt z
    obtain ⟨f0, f1, f2, _⟩ := hf p.1 hb
    obtain ⟨o, e', d⟩ := ho p.1 hb
    rw [e] at e'; cases e'
    exact ⟨e, f0, f1, f2, d⟩
theorem Inv.unpinned {pins pl : List (Addr × Obj)} {σ : St} {H : Hp} {s : Shared} (I : Inv X (pins ++ pl) σ H s) : Inv X pins σ H s := I.pins_of fun p hp => I.pin p (List.mem_append_right _ (List.mem_append_left _ hp))
theorem ps_for {iter : Expr} {body : List Stmt} {wi : TI} {g : TG} {tb : TS} {pos : Pos} (hp : PassesOwn (model X.prog X.w) X.A X.env X.xe) (hc : X.calm = true) (hi : PI X tg iter wi) (hg : PG X tg g) (hb : PSs X body tb)
    (hs : ∀ x, foldedSetIterable iter X.env x = pure x := by intro _; rfl) : PS X (.For tg iter body [] pos) (tFor wi g tb) := by
  intro pins s σ H D I h
  refine wpAny_For (thn (hi pins s σ H _ I h) fun v s1 h1 => thn h1 fun itv s2 h2 => ?_) hs
  obtain ⟨it, fp, tn, J, H2, e, I2, T, st2, f2, W, ⟨m0, w0⟩, turn⟩ := h2
  subst e
  -- what stays true of the iterator's objects through the loop
  have stat : ∀ {H' : Hp}, (∀ b ∈ fp, H' b = none) → ∀ b ∈ fp, FpOk X pins H' b := fun hn b hb => ⟨hn b hb, (f2 b hb).2⟩
  refine codeAny_forLoop_any (fun n s' => ∃ i σ' H', Inv X pins σ' H' s' ∧ tn i s'.heap ∧ (∀ b ∈ fp, H' b = none) ∧ W i n σ' H') ?_ m0 ⟨0, σ, H2, I2, st2, fun b hb => (f2 b hb).1, w0⟩
  rintro n s3 ⟨i, σ3, H3, I3, st3, fr3, w3⟩
  rcases turn i n σ3 H3 w3 with ⟨stop, qn⟩ | ⟨go, N, hN, step⟩
  · refine wpAny_passesOwn hp (thn (T.done X rfl rfl rfl hc i pins s3 σ3 H3 X.xe I3 (stat fr3) st3 stop) fun r s4 qZ => ?_)
    obtain ⟨hr, I4⟩ := qZ
    subst hr
    exact wpAny_execs_nil ⟨σ3, H3, I4, qn⟩
  · refine wpAny_passesOwn hp (thn (T.item X rfl rfl rfl hc i pins s3 σ3 H3 X.xe I3 (stat fr3) st3 go) fun r s4 qZ => ?_)
    obtain ⟨u, hr, h4⟩ := qZ
    subst hr
    refine wpAny_passesOwn hp (thn h4 fun _ s5 qZ => ?_)
    obtain ⟨x, H5, I5, r5, y5, st5, fr5⟩ := qZ
    have I5' := I5.pinned (stat fr5) (T.obj _ _ st5)
    refine wpAny_passesOwn hp (thn (hg _ s5 σ3 H5 x u _ I5' r5 (step x H5 y5)) fun _ s6 qZ => ?_)
    obtain ⟨σ6, H6, I6, q6⟩ := qZ
    refine wpAny_passesOwn hp (thn (hb _ s6 σ6 H6 _ I6 q6) fun f s7 q7 => ?_)
    have again : ∀ {σ7 : St} {H7 : Hp}, Inv X (pins ++ pinsAt fp s5.heap) σ7 H7 s7 → N σ7 H7 → ∃ m, m < n ∧ ∃ i σ' H', Inv X pins σ' H' s7 ∧ tn i s7.heap ∧ (∀ b ∈ fp, H' b = none) ∧ W i m σ' H' := fun {σ7 H7} I7 n7 => by
      obtain ⟨m', hm, w7⟩ := hN σ7 H7 n7
      refine ⟨m', hm, i + 1, σ7, H7, I7.unpinned, T.keep _ _ _ st5 fun b hb o e => (I7.pin (b, o) (List.mem_append_right _ (List.mem_append_right _ (mem_pinsAt hb e)))).1, fun b hb => ?_, w7⟩
      obtain ⟨o, e, d⟩ := T.obj _ _ st5 b hb
      exact (I7.pin (b, o) (List.mem_append_right _ (List.mem_append_right _ (mem_pinsAt hb e)))).2.1
    cases f with
    | next => obtain ⟨σ7, H7, I7, n7⟩ := q7; exact again I7 n7
    | cont => obtain ⟨σ7, H7, I7, n7⟩ := q7; exact again I7 n7
    | brk => obtain ⟨σ7, H7, I7, q7⟩ := q7; exact ⟨σ7, H7, I7.unpinned, q7⟩
    | ret v => obtain ⟨x7, σ7, H7, I7, r7, q7⟩ := q7; exact ⟨x7, σ7, H7, I7.unpinned, r7, q7⟩
end

end L2

namespace L2
open PySem PySem.Spec PyProof.Rows

noncomputable abbrev R2 := V → V → Hp → VK → Prop
noncomputable def OpR (X : Cx) (f : Value → Value → Sem Value) (r : R2) : Prop :=
  ∀ (pins : List (Addr × Obj)) (s : Shared) (σ : St) (H : Hp) (x y : V) (v u : Value) (Q : VK), Inv X pins σ H s → RelV x v → RelV y u → r x y H Q →
    wpAny (model X.prog X.w) X.A (f v u) (EP X pins σ Q) X.xe s
noncomputable def UnR (X : Cx) (f : Value → Sem Value) (r : V → Hp → VK → Prop) : Prop :=
  ∀ (pins : List (Addr × Obj)) (s : Shared) (σ : St) (H : Hp) (x : V) (v : Value) (Q : VK), Inv X pins σ H s → RelV x v → r x H Q →
    wpAny (model X.prog X.w) X.A (f v) (EP X pins σ Q) X.xe s
noncomputable def CallR (X : Cx) (f : Value) (r : List V → Hp → VK → Prop) : Prop :=
  ∀ (pins : List (Addr × Obj)) (s : Shared) (σ : St) (H : Hp) (xs : List V) (us : List Value) (Q : VK), Inv X pins σ H s → Vals xs us → r xs H Q →
    wpAny (model X.prog X.w) X.A (call f us) (EP X pins σ Q) X.xe s
noncomputable def tOp (r : R2) (ta tb : TE) : TE := fun σ H Q => ta σ H fun x H1 => tb σ H1 fun y H2 => r x y H2 Q
noncomputable def tUn (r : V → Hp → VK → Prop) (ta : TE) : TE := fun σ H Q => ta σ H fun x H1 => r x H1 Q
noncomputable def rI (C : Int → Int → Prop) (g : Int → Int → V) : R2 := fun x y H Q => ∃ i j, x = .int i ∧ y = .int j ∧ C i j ∧ Q (g i j) H
noncomputable def rI0 (g : Int → Int → V) : R2 := fun x y H Q => ∃ i j, x = .int i ∧ y = .int j ∧ Q (g i j) H
noncomputable def rU (g : Int → V) : V → Hp → VK → Prop := fun x H Q => ∃ i, x = .int i ∧ Q (g i) H

section
variable {X : Cx} {a b c : Expr} {ta tb tc : TE} {pos : Pos}

theorem binT (ha : PE X a ta) (hb : PE X b tb) {pins : List (Addr × Obj)} {s : Shared} {σ : St} {H : Hp} {R : V → V → Hp → Prop} (I : Inv X pins σ H s)
    (h : ta σ H fun x H1 => tb σ H1 fun y H2 => R x y H2) {Q : Value → Shared → Prop} {f : Value → Value → Sem Value}
    (hf : ∀ v u s2 x y H2, Inv X pins σ H2 s2 → RelV x v → RelV y u → R x y H2 → wpAny (model X.prog X.w) X.A (f v u) Q X.xe s2) :
    wpAny (model X.prog X.w) X.A (eval a X.env) (fun v s₁ => wpAny (model X.prog X.w) X.A (eval b X.env) (fun u s₂ => wpAny (model X.prog X.w) X.A (f v u) Q X.xe s₂) X.xe s₁) X.xe s := by
  refine thn (ha pins s σ H _ I h) fun v s1 qZ => ?_
  obtain ⟨x, H1, I1, r1, q1⟩ := qZ
  refine thn (hb pins s1 σ H1 _ I1 q1) fun u s2 qZ => ?_
  obtain ⟨y, H2, I2, r2, q2⟩ := qZ
  exact hf v u s2 x y H2 I2 r1 r2 q2

theorem pe_op {op : Operator} {r : R2} (ho : OpR X (binaryOp op) r) (ha : PE X a ta) (hb : PE X b tb) : PE X (.BinOp a op b pos) (tOp r ta tb) := by
  intro pins s σ H Q I h
  exact wpAny_BinOp (binT ha hb I h fun v u s2 x y H2 I2 rx ry q => ho pins s2 σ H2 x y v u Q I2 rx ry q)
theorem pe_un {op : UnaryOp} {r : V → Hp → VK → Prop} (ho : UnR X (unaryOp op) r) (ha : PE X a ta) : PE X (.UnaryOp op a pos) (tUn r ta) := by
  intro pins s σ H Q I h
  exact UnaryOp_ (thn (ha pins s σ H _ I h) fun v s1 ⟨x, H1, I1, r1, q1⟩ => ho pins s1 σ H1 x v Q I1 r1 q1)
theorem opI {f : Value → Value → Sem Value} {C : Int → Int → Prop} {g : Int → Int → Int}
    (rule : ∀ (i j : Int) (t u : Tok) (s : Shared) (Q : Value → Shared → Prop) (E : Value → Shared → Prop), C i j → Q (.int (g i j) s.toks) { s with toks := s.toks + 1 } → wpAny (model X.prog X.w) X.A (f (.int i t) (.int j u)) Q E s) :
    OpR X f (rI C fun i j => .int (g i j)) := by
  intro pins s σ H x y v u Q I rx ry h
  obtain ⟨i, j, rfl, rfl, hc, q⟩ := h
  obtain ⟨t, rfl⟩ := rx
  obtain ⟨t', rfl⟩ := ry
  exact rule i j t t' s _ _ hc ⟨.int (g i j), H, I.tok _, ⟨_, rfl⟩, q⟩
theorem opI0 {f : Value → Value → Sem Value} {g : Int → Int → Int}
    (rule : ∀ (i j : Int) (t u : Tok) (s : Shared) (Q : Value → Shared → Prop) (E : Value → Shared → Prop), Q (.int (g i j) s.toks) { s with toks := s.toks + 1 } → wpAny (model X.prog X.w) X.A (f (.int i t) (.int j u)) Q E s) :
    OpR X f (rI0 fun i j => .int (g i j)) := by
  intro pins s σ H x y v u Q I rx ry h
  obtain ⟨i, j, rfl, rfl, q⟩ := h
  obtain ⟨t, rfl⟩ := rx
  obtain ⟨t', rfl⟩ := ry
  exact rule i j t t' s _ _ ⟨.int (g i j), H, I.tok _, ⟨_, rfl⟩, q⟩
theorem opB0 {f : Value → Value → Sem Value} {g : Int → Int → Bool}
    (rule : ∀ (i j : Int) (t u : Tok) (s : Shared) (Q : Value → Shared → Prop) (E : Value → Shared → Prop), Q (.bool (g i j)) s → wpAny (model X.prog X.w) X.A (f (.int i t) (.int j u)) Q E s) :
    OpR X f (rI0 fun i j => .bl (g i j)) := by
  intro pins s σ H x y v u Q I rx ry h
  obtain ⟨i, j, rfl, rfl, q⟩ := h
  obtain ⟨t, rfl⟩ := rx
  obtain ⟨t', rfl⟩ := ry
  exact rule i j t t' s _ _ ⟨.bl (g i j), H, I, rfl, q⟩

noncomputable def CMul (i j : Int) : Prop := (-(2 ^ 64) < i ∧ i < 2 ^ 64) ∨ (-(2 ^ 64) < j ∧ j < 2 ^ 64)
theorem CMul.ok {i j : Int} (h : CMul i j) : IntMulOk i j := by
  rcases h with ⟨h1, h2⟩ | ⟨h1, h2⟩
  · exact .of_left (intBits_le_64 h1 h2)
  · exact .of_right (intBits_le_64 h1 h2)
theorem op_add : OpR X (binaryOp .Add) (rI0 fun i j => .int (i + j)) := opI0 fun _ _ _ _ _ _ _ q => add_int q
theorem op_sub : OpR X (binaryOp .Sub) (rI0 fun i j => .int (i - j)) := opI0 fun _ _ _ _ _ _ _ q => sub_int q
theorem op_modN : OpR X (binaryOp .Mod) (rI (fun _ j => j ≠ 0) fun i j => .int (i.fmod j)) := opI fun _ _ _ _ _ _ _ hc q => mod_int' hc q
theorem op_and : OpR X (binaryOp .BitAnd) (rI0 fun i j => .int (Builtin.bitAnd i j)) := opI0 fun _ _ _ _ _ _ _ q => and_int q
theorem unI {f : Value → Sem Value} {g : Int → Int}
    (rule : ∀ (i : Int) (t : Tok) (s : Shared) (Q : Value → Shared → Prop) (E : Value → Shared → Prop), Q (.int (g i) s.toks) { s with toks := s.toks + 1 } → wpAny (model X.prog X.w) X.A (f (.int i t)) Q E s) :
    UnR X f (rU fun i => .int (g i)) := by
  intro pins s σ H x v Q I rx h
  obtain ⟨i, rfl, q⟩ := h
  obtain ⟨t, rfl⟩ := rx
  exact rule i t s _ _ ⟨.int (g i), H, I.tok _, ⟨_, rfl⟩, q⟩
theorem un_neg : UnR X (unaryOp .USub) (rU fun i => .int (-i)) := unI fun _ _ _ _ _ q => neg_int q
end

noncomputable def scal : V → V → Bool
  | .non, .non => true | .non, .int _ => true | .int _, .non => true | .non, .bl _ => true | .bl _, .non => true | .non, .str _ => true | .str _, .non => true
  | .int _, .int _ => true | .bl _, .bl _ => true | .str _, .str _ => true | .byt _, .byt _ => true
  | .int _, .str _ => true | .str _, .int _ => true | .bl _, .str _ => true | .str _, .bl _ => true
  | _, _ => false
noncomputable def rEq : R2 := fun x y H Q => scal x y = true ∧ Q (.bl (decide (x = y))) H
noncomputable def rNe : R2 := fun x y H Q => scal x y = true ∧ Q (.bl (!decide (x = y))) H

theorem dec_int {i j : Int} : decide (V.int i = V.int j) = (i == j) := by
  rw [Bool.eq_iff_iff]
  simp
theorem dec_bl {i j : Bool} : decide (V.bl i = V.bl j) = (i == j) := by
  rw [Bool.eq_iff_iff]
  simp
theorem dec_str {i j : Str} : decide (V.str i = V.str j) = (i == j) := by
  rw [Bool.eq_iff_iff]
  simp
theorem dec_byt {i j : Array UInt8} : decide (V.byt i = V.byt j) = (i.toList == j.toList) := by
  rw [Bool.eq_iff_iff]
  cases i
  cases j
  simp

section
variable {X : Cx} {a b c : Expr} {ta tb tc : TE} {pos : Pos}
theorem fin_bl {pins : List (Addr × Obj)} {σ : St} {H : Hp} {s : Shared} {Q : VK} {k k' : Bool} (I : Inv X pins σ H s) (q : Q (.bl k) H) (e : k = k') : EP X pins σ Q (.bool k') s := by
  subst e
  exact ⟨.bl k, H, I, rfl, q⟩
theorem op_eq : OpR X (compareOp .Eq) rEq := by
  intro pins s σ H x y v u Q I rx ry h
  obtain ⟨hs, q⟩ := h
  cases x with
  | non =>
    cases rx
    cases y with
    | non => cases ry; exact PySem.EqNone.eq_none_none (fin_bl I q (by simp))
    | bl j => cases ry; exact PySem.EqNone.eq_none_bool (fin_bl I q (by simp))
    | int j => obtain ⟨t', rfl⟩ := ry; exact PySem.EqNone.eq_none_int (fin_bl I q (by simp))
    | str j => obtain ⟨t', rfl⟩ := ry; exact PySem.EqNone.eq_none_str (fin_bl I q (by simp))
    | _ => exact absurd (show false = true from hs) Bool.false_ne_true
  | bl i =>
    cases rx
    cases y with
    | non => cases ry; exact PySem.EqNone.eq_bool_none (fin_bl I q (by simp))
    | bl j => cases ry; exact eq_bool (fin_bl I q dec_bl)
    | str j => obtain ⟨t', rfl⟩ := ry; exact PySem.EqMixed.eq_bool_str (fin_bl I q (by simp))
    | _ => exact absurd (show false = true from hs) Bool.false_ne_true
  | int i =>
    obtain ⟨t, rfl⟩ := rx
    cases y with
    | non => cases ry; exact PySem.EqNone.eq_int_none (fin_bl I q (by simp))
    | int j => obtain ⟨t', rfl⟩ := ry; exact eq_int (fin_bl I q dec_int)
    | str j => obtain ⟨t', rfl⟩ := ry; exact PySem.EqMixed.eq_int_str (fin_bl I q (by simp))
    | _ => exact absurd (show false = true from hs) Bool.false_ne_true
  | str i =>
    obtain ⟨t, rfl⟩ := rx
    cases y with
    | non => cases ry; exact PySem.EqNone.eq_str_none (fin_bl I q (by simp))
    | bl j => cases ry; exact PySem.EqMixed.eq_str_bool (fin_bl I q (by simp))
    | int j => obtain ⟨t', rfl⟩ := ry; exact PySem.EqMixed.eq_str_int (fin_bl I q (by simp))
    | str j => obtain ⟨t', rfl⟩ := ry; exact eq_str (fin_bl I q dec_str)
    | _ => exact absurd (show false = true from hs) Bool.false_ne_true
  | byt i =>
    obtain ⟨t, rfl⟩ := rx
    cases y with
    | byt j => obtain ⟨t', rfl⟩ := ry; exact PySem.W.eq_bytes (fin_bl I q dec_byt)
    | _ => exact absurd (show false = true from hs) Bool.false_ne_true
  | _ => cases y <;> exact absurd (show false = true from hs) Bool.false_ne_true
theorem op_ne : OpR X (compareOp .NotEq) rNe := by
  intro pins s σ H x y v u Q I rx ry h
  obtain ⟨hs, q⟩ := h
  cases x with
  | non =>
    cases rx
    cases y with
    | non => cases ry; exact PySem.EqNone.ne_none_none (fin_bl I q (by simp))
    | bl j => cases ry; exact PySem.EqNone.ne_none_bool (fin_bl I q (by simp))
    | int j => obtain ⟨t', rfl⟩ := ry; exact PySem.EqNone.ne_none_int (fin_bl I q (by simp))
    | str j => obtain ⟨t', rfl⟩ := ry; exact PySem.EqNone.ne_none_str (fin_bl I q (by simp))
    | _ => exact absurd (show false = true from hs) Bool.false_ne_true
  | bl i =>
    cases rx
    cases y with
    | non => cases ry; exact PySem.EqNone.ne_bool_none (fin_bl I q (by simp))
    | bl j => cases ry; exact ne_bool (fin_bl I q (congrArg not dec_bl))
    | str j => obtain ⟨t', rfl⟩ := ry; exact PySem.EqMixed.ne_bool_str (fin_bl I q (by simp))
    | _ => exact absurd (show false = true from hs) Bool.false_ne_true
  | int i =>
    obtain ⟨t, rfl⟩ := rx
    cases y with
    | non => cases ry; exact PySem.EqNone.ne_int_none (fin_bl I q (by simp))
    | int j => obtain ⟨t', rfl⟩ := ry; exact ne_int (fin_bl I q (congrArg not dec_int))
    | str j => obtain ⟨t', rfl⟩ := ry; exact PySem.EqMixed.ne_int_str (fin_bl I q (by simp))
    | _ => exact absurd (show false = true from hs) Bool.false_ne_true
  | str i =>
    obtain ⟨t, rfl⟩ := rx
    cases y with
    | non => cases ry; exact PySem.EqNone.ne_str_none (fin_bl I q (by simp))
    | bl j => cases ry; exact PySem.EqMixed.ne_str_bool (fin_bl I q (by simp))
    | int j => obtain ⟨t', rfl⟩ := ry; exact PySem.EqMixed.ne_str_int (fin_bl I q (by simp))
    | str j => obtain ⟨t', rfl⟩ := ry; exact ne_str (fin_bl I q (congrArg not dec_str))
    | _ => exact absurd (show false = true from hs) Bool.false_ne_true
  | byt i =>
    obtain ⟨t, rfl⟩ := rx
    cases y with
    | byt j => obtain ⟨t', rfl⟩ := ry; exact PySem.W.ne_bytes (fin_bl I q (congrArg not dec_byt))
    | _ => exact absurd (show false = true from hs) Bool.false_ne_true
  | _ => cases y <;> exact absurd (show false = true from hs) Bool.false_ne_true

theorem op_lt : OpR X (compareOp .Lt) (rI0 fun i j => .bl (decide (i < j))) := opB0 fun _ _ _ _ _ _ _ q => lt_int q
theorem op_gt : OpR X (compareOp .Gt) (rI0 fun i j => .bl (decide (j < i))) := opB0 fun _ _ _ _ _ _ _ q => gt_int q
theorem OpR.or {f : Value → Value → Sem Value} {r r' : R2} (h : OpR X f r) (h' : OpR X f r') : OpR X f (fun x y H Q => r x y H Q ∨ r' x y H Q) := by
  intro pins s σ H x y v u Q I rx ry q
  rcases q with q | q
  · exact h pins s σ H x y v u Q I rx ry q
  · exact h' pins s σ H x y v u Q I rx ry q

theorem nomark (b : Expr) {op : CmpOp} (h : op ≠ .In := by decide) (h2 : op ≠ .NotIn := by decide) : behindInMarks op b = false := by
  have e1 : (op == CmpOp.In) = false := by cases op <;> first | rfl | exact absurd rfl h
  have e2 : (op == CmpOp.NotIn) = false := by cases op <;> first | rfl | exact absurd rfl h2
  cases b <;> simp [behindInMarks, e1, e2]
theorem pe_cmpR {op : CmpOp} {r : R2} (ho : OpR X (compareOp op) r) (ha : PE X a ta) (hb : PE X b tb) (hm : behindInMarks op b = false) : PE X (.Compare a [op] [b] pos) (tOp r ta tb) := by
  intro pins s σ H Q I h
  exact wpAny_Compare1 (binT ha hb I h fun v u s2 x y H2 I2 rx ry q => ho pins s2 σ H2 x y v u Q I2 rx ry q) hm
noncomputable def tTest (t : TE) : TT := fun σ H Q => t σ H fun x H' => ∃ k, x = .bl k ∧ Q k H'
theorem pt_cmpR {op : CmpOp} {r : R2} (ho : OpR X (compareOp op) r) (ha : PE X a ta) (hb : PE X b tb) (hm : behindInMarks op b = false) : PT X (.Compare a [op] [b] pos) (tTest (tOp r ta tb)) := by
  intro pins s σ H Q I h
  refine wpAny_isTrue_Compare1 (thn (ha pins s σ H _ I h) fun v s1 ⟨x, H1, I1, r1, q1⟩ => thn (hb pins s1 σ H1 _ I1 q1) fun u s2 ⟨y, H2, I2, r2, q2⟩ =>
    thn (ho pins s2 σ H2 x y v u _ I2 r1 r2 q2) fun c s3 ⟨z, H3, I3, r3, k, e, q3⟩ => ?_) hm
  subst e
  cases r3
  exact wpAny_truthy_bool ⟨H3, I3, q3⟩
theorem line63 : (sizeLine : Nat) < 2 ^ 63 := by rw [sizeLine_eq]; decide
theorem vals1 {x : V} {us : List Value} (r : Vals [x] us) : ∃ u, us = [u] ∧ RelV x u := by
  cases r with
  | cons r1 r2 => cases r2; exact ⟨_, rfl, r1⟩
theorem vals2 {x y : V} {us : List Value} (r : Vals [x, y] us) : ∃ u w', us = [u, w'] ∧ RelV x u ∧ RelV y w' := by
  cases r with
  | cons r1 r2 =>
    cases r2 with
    | cons r3 r4 => cases r4; exact ⟨_, _, rfl, r1, r3⟩
theorem call_abs : CallR X (.builtin "abs") (fun xs H Q => ∃ i, xs = [.int i] ∧ Q (.int (if i < 0 then -i else i)) H) := by
  intro pins s σ H xs us Q I r h
  obtain ⟨i, rfl, q⟩ := h
  obtain ⟨u, rfl, t, rfl⟩ := vals1 r
  exact call_abs_int fun u tk => ⟨.int (if i < 0 then -i else i), H, I.tok _, ⟨_, rfl⟩, q⟩
theorem call_int1 : CallR X (.type "int") (fun xs H Q => (∃ i, xs = [.int i] ∧ Q (.int i) H) ∨ ∃ k, xs = [.bl k] ∧ Q (.int (if k then 1 else 0)) H) := by
  intro pins s σ H xs us Q I r h
  rcases h with ⟨i, rfl, q⟩ | ⟨k, rfl, q⟩
  · obtain ⟨u, rfl, t, rfl⟩ := vals1 r
    exact call_int_int ⟨.int i, H, I, ⟨_, rfl⟩, q⟩
  · obtain ⟨u, rfl, r1⟩ := vals1 r
    cases r1
    exact call_int_bool ⟨.int (if k then 1 else 0), H, I.tok _, ⟨_, rfl⟩, q⟩
end
end L2

namespace L2
open PySem PySem.Spec PyProof.Rows

structure ObjM (h : Heap) (x dx C : Addr) (mA : Str → Option Value) : Prop where
  obj : h.get? x = some (PySem.W.instObj C dx)
  ns : h.Ns1 dx mA
  ne : dx ≠ x

theorem lookIn_ns {h : Heap} {dx : Addr} {mA : Str → Option Value} (n : h.Ns1 dx mA) : ∃ od, h.get? dx = some od ∧ ∀ name, PySem.W.lookIn name od = some (mA name) := by
  obtain ⟨o, es, ep, ho, hd, hk, _, hm⟩ := n
  refine ⟨o, ho, fun name => ?_⟩
  have e := hm name
  unfold nsFind findBy at e
  rw [← Array.find?_toList] at e
  unfold PySem.W.lookIn
  rw [hd]
  dsimp only
  split
  · rename_i y q
    rw [q] at e
    exact congrArg some e
  · rename_i q
    rw [q] at e
    have a : es.toList.any (·.refKey) = false := by
      rw [List.any_eq_false]
      intro y hy
      obtain ⟨z, t, hkey⟩ := hk y (Array.mem_toList_iff.mp hy)
      simp [DictEntry.refKey, hkey]
    have a' : ¬ es.toList.any (·.refKey) = true := by rw [a]; exact Bool.false_ne_true
    rw [if_neg a']
    exact congrArg some e

theorem ObjM.look {h : Heap} {x dx C : Addr} {mA : Str → Option Value} (I : ObjM h x dx C mA) : ∃ od, PySem.W.InstAt h x (PySem.W.instObj C dx) C (some od) ∧ ∀ name, PySem.W.lookIn name od = some (mA name) :=
  let ⟨od, ho, hl⟩ := lookIn_ns I.ns
  ⟨od, ⟨I.obj, rfl, rfl, ho⟩, hl⟩

section
variable {prog : Program} {w : World} {A : Around} {E : Value → Shared → Prop} {s : Shared} {K : PySem.W.Frag} {x dx C f : Addr} {mA : Str → Option Value} {name : Str} {v : Value}

end

theorem RelO.none_of {o : Option Value} (r : RelO none o) : o = none := by
  cases o with
  | none => rfl
  | some u => exact (show False from r).elim
section
variable {P : Program} {w : World} {H H' : Hp} {h h' : Heap} {a C dx : Addr} {fs fs' : List (Str × V)}
theorem ins_get (hok : HOk P w H h) (e : H a = some (.ins C dx fs)) : ∃ mA, ObjM h a dx C mA ∧ (∀ f, RelO (fs.lookup f) (mA f)) ∧ PySem.Within mA (fs.map (·.1)) ∧ fs.length ≤ 1000 ∧ H dx = some (.own a) := by
  obtain ⟨d, z, ne, ob, mA, n, r, q⟩ := (show ObjOk P w H h a (.ins C dx fs) from hok a _ e)
  exact ⟨mA, ⟨ob, n, ne⟩, r, q, z, d⟩
end

structure Cls (K : PySem.W.Frag) (C : Addr) : Prop where
  pg : PySem.W.plainGet K C Str.empty = true
  hd : PySem.W.hasDictIn K C = true
  po : PySem.W.plainOver K C = true
  sa : PySem.W.findIn K (.ref C) "__setattr__" = some (some (.builtin "object.__setattr__"))
theorem Cls.get {K : PySem.W.Frag} {C : Addr} (c : Cls K C) (f : Str) : PySem.W.plainGet K C f = true := c.pg
structure Con (K : PySem.W.Frag) (C : Addr) (f : Str) (v : V) (u : Value) : Prop where
  at_ : PySem.W.findIn K (.ref C) f = some (some u)
  rel : RelV v u
  get : PySem.W.specialIn K u "__get__" = some none
  cp : PySem.W.copiedNames.contains f = false
section
variable {X : Cx} {pins : List (Addr × Obj)} {σ : St} {H : Hp} {s : Shared} {a C dx : Addr} {fs : List (Str × V)} {f : Str} {v : V} {A : Around} {E : Value → Shared → Prop}

end

section
variable {X : Cx} {o e value : Expr} {f : Str} {pos pos' tpos : Pos} {ta tv : TE}
end

section
variable {X : Cx} {pins : List (Addr × Obj)} {σ : St} {H : Hp} {s : Shared} {A : Around} {E : Value → Shared → Prop} {Q : Value → Shared → Prop} {c : Value} {b : Bool}
inductive TyOf (K : PySem.W.Frag) (H : Hp) : V → Value → Prop where
  | non : TyOf K H .non (.type "NoneType")
  | bl (x : Bool) : TyOf K H (.bl x) (.type "bool")
  | int (i : Int) : TyOf K H (.int i) (.type "int")
  | str (x : Str) : TyOf K H (.str x) (.type "str")
  | flt (x : UInt64) : TyOf K H (.flt x) (.type "float")
  | lst {a : Addr} {xs : List V} (e : H a = some (.lst xs)) : TyOf K H (.ref a) (.type "list")
  | frz {a : Addr} {o : Obj} {xs : List V} (e : H a = some (.frz o (.lst xs))) : TyOf K H (.ref a) (.type "list")
  | tup {a : Addr} {xs : List V} (e : H a = some (.tup xs)) : TyOf K H (.ref a) (.type "tuple")
  | dK {a : Addr} {kvs : List (Key × V)} (e : H a = some (.dK kvs)) : TyOf K H (.ref a) (.type "dict")
  | dT {a : Addr} {kvs : List (List Key × V)} (e : H a = some (.dT kvs)) : TyOf K H (.ref a) (.type "dict")
  | ins {a C dx : Addr} {fs : List (Str × V)} (e : H a = some (.ins C dx fs)) (cl : Cls K C) (ha : PySem.W.findIn K (.ref C) "__class__" = some (some (.builtin "object.__class__")))
      (hn : PySem.W.specialIn K (.builtin "object.__class__") "__get__" = some (some (.builtin "getset_descriptor.__get__"))) (htk : PySem.W.takesIn K (.builtin "object.__class__") = some true)
      (hm : PySem.W.mroIn K C (.type "object") = some true) : TyOf K H (.ref a) (.ref C)
theorem isinst_ok {x : V} {u t : Value} (I : Inv X pins σ H s) (rx : RelV x u) (ty : TyOf X.K H x t) (e : PySem.W.kitOne X.K t c = some b) (h : ∀ tk, Q (.bool b) { s with toks := tk }) :
    wpAny (model X.prog X.w) A (call (.builtin "isinstance") [u, c]) Q E s := by
  cases ty with
  | non => cases (show u = Value.none from rx); exact PySem.W.kia_one PySem.W.kitx_none I.kIn True.intro e (fun z => by cases z) h
  | bl y => cases (show u = Value.bool y from rx); exact PySem.W.kia_one PySem.W.kitx_bool I.kIn True.intro e (fun z => by cases z) h
  | int i => obtain ⟨t, q⟩ := (show ∃ t, u = Value.int i t from rx); cases q; exact PySem.W.kia_one PySem.W.kitx_int I.kIn True.intro e (fun z => by cases z) h
  | str y => obtain ⟨t, q⟩ := (show ∃ t, u = Value.str y t from rx); cases q; exact PySem.W.kia_one PySem.W.kitx_str I.kIn True.intro e (fun z => by cases z) h
  | flt y => obtain ⟨t, q⟩ := (show ∃ t, u = Value.float y t from rx); cases q; exact PySem.W.kia_one PySem.W.kitx_float I.kIn True.intro e (fun z => by cases z) h
  | @lst a xs ea =>
    cases (show u = Value.ref a from rx)
    obtain ⟨_, _, n, _, h1⟩ := (show ObjOk X.prog X.w H s.heap a (.lst xs) from I.hok a _ ea)
    exact PySem.W.kia_one PySem.W.kitx_list I.kIn ⟨_, h1, rfl⟩ e (fun z => by cases z) h
  | @frz a ob xs ea =>
    cases (show u = Value.ref a from rx)
    obtain ⟨_, _, _, n, _, h1⟩ := (show ObjOk X.prog X.w H s.heap a (.frz ob (.lst xs)) from I.hok a _ ea)
    exact PySem.W.kia_one PySem.W.kitx_list I.kIn ⟨_, h1, rfl⟩ e (fun z => by cases z) h
  | @tup a xs ea =>
    cases (show u = Value.ref a from rx)
    obtain ⟨_, _, _, p⟩ := (show ObjOk X.prog X.w H s.heap a (.tup xs) from I.hok a _ ea)
    obtain ⟨o, h1, h2, _⟩ := p
    exact PySem.W.kia_one PySem.W.kitx_tuple I.kIn ⟨o, h1, h2⟩ e (fun z => by cases z) h
  | @dK a kvs ea =>
    cases (show u = Value.ref a from rx)
    obtain ⟨_, _, vs, _, p⟩ := (show ObjOk X.prog X.w H s.heap a (.dK kvs) from I.hok a _ ea)
    obtain ⟨o, es, ep, h1, h2, _⟩ := p
    exact PySem.W.kia_one PySem.W.kitx_dict I.kIn ⟨o, h1, h2.1⟩ e (fun z => by cases z) h
  | @dT a kvs ea =>
    cases (show u = Value.ref a from rx)
    obtain ⟨_, _, xs, _, o, es, ep, h1, h2, _⟩ := (show ObjOk X.prog X.w H s.heap a (.dT kvs) from I.hok a _ ea)
    exact PySem.W.kia_one PySem.W.kitx_dict I.kIn ⟨o, h1, h2.1⟩ e (fun z => by cases z) h
  | @ins a C dx fs ea cl ha hn htk hm =>
    cases (show u = Value.ref a from rx)
    obtain ⟨mA, O, _⟩ := ins_get I.hok ea
    obtain ⟨od, J, _⟩ := O.look
    exact PySem.W.kia_one (PySem.W.kitx_own (cl.get _) cl.hd ha hn htk hm) I.kIn J e (fun z => by cases z) h
end
end L2

namespace L2
open PySem PySem.Spec PyProof.Rows

structure Room (k : Nat) (A : Around) : Prop where
  hd : A.handled = none
  dp : A.depth + 3 * k + 5 < recursionLimit
  un : A.units + 16 * k + 200 < cLine
theorem Room.mono {j k : Nat} {A : Around} (r : Room k A) (h : j ≤ k) : Room j A := ⟨r.hd, by have := r.dp; omega, by have := r.un; omega⟩
theorem Room.deeper {k : Nat} {A : Around} (r : Room (k + 1) A) (env : Env) : Room k (A.deeper env) :=
  ⟨r.hd, by have := r.dp; show A.depth + 1 + 3 * k + 5 < _; omega, by have := r.un; show A.units + 3 + 16 * k + 200 < _; omega⟩
theorem Room.in1 {k : Nat} {A : Around} (r : Room (k + 1) A) : Room k A.in1 :=
  ⟨r.hd, by have := r.dp; show A.depth + 3 * k + 5 < _; omega, by have := r.un; show A.units + 1 + 16 * k + 200 < _; omega⟩
theorem Room.depth {k : Nat} {A : Around} (r : Room k A) : A.depth < recursionLimit := by have := r.dp; omega
theorem Room.units {k : Nat} {A : Around} (r : Room k A) : A.units + 64 < cLine := by have := r.un; omega
noncomputable def tNil : TA := fun _ H Q => Q [] H
noncomputable def tCons (ta : TE) (tr : TA) : TA := fun σ H Q => ta σ H fun x H1 => tr σ H1 fun xs H2 => Q (x :: xs) H2
section
variable {X : Cx} {e : Expr} {es : List Expr} {te : TE} {t : TA} {pos : Pos}
theorem pa_nil : PA X [] tNil := fun _ _ _ _ H Q I h => Calls.spliced_nil ⟨[], H, I, .nil, h⟩
theorem pa_cons (ha : PE X e te) (hr : PA X es t) (hs : starEach (e :: es) X.env = (false, eval e X.env) :: starEach es X.env := by rfl) : PA X (e :: es) (tCons te t) := by
  intro pos pins s σ H Q I h
  rw [hs]
  show wpAny _ _ (spliced ((false, eval e X.env) :: backTo pos (starEach es X.env))) _ _ s
  refine Calls.spliced_cons (thn (ha pins s σ H _ I h) fun u s1 qZ => ?_)
  obtain ⟨x, H1, I1, r1, q1⟩ := qZ
  exact thn (hr pos pins s1 σ H1 _ I1 q1) fun us s2 ⟨xs, H2, I2, r2, q2⟩ => ⟨x :: xs, H2, I2, .cons r1 r2, q2⟩

noncomputable def tTup (t : TA) : TE := fun σ H Q => t σ H fun xs H1 => xs.length ≤ sizeLine ∧ ∀ p, H1 p = none → Q (.ref p) (upd H1 p (.tup xs))
noncomputable def tLst (t : TA) : TE := fun σ H Q => t σ H fun xs H1 => xs.length ≤ sizeLine ∧ ∀ p, H1 p = none → Q (.ref p) (upd H1 p (.lst xs))
theorem pe_tup {x1} (h : PA X es t) : PE X (.Tuple es x1 pos) (tTup t) := by
  intro pins s σ H Q I hq
  refine wpAny_Tuple_spliced (thn (h pos pins s σ H _ I hq) fun us s1 ⟨xs, H1, I1, r, z, q⟩ => ⟨by rw [← r.length]; exact z, ?_⟩)
  have hf : H1 s1.heap.objs.size = none := I1.hok.fresh (Nat.le_refl _)
  refine ⟨.ref s1.heap.objs.size, upd H1 s1.heap.objs.size (.tup xs), I1.laid (t' := s1.toks) (fun b u e => Heap.get?_push_of_some _ e) (Nat.le_refl _) ?_, rfl, q _ hf⟩
  exact ⟨z, us, r, ⟨_, Heap.get?_push_size _ rfl, rfl, _, rfl⟩⟩
theorem pe_lst (h : PA X es t) : PE X (.List es pos) (tLst t) := by
  intro pins s σ H Q I hq
  refine wpAny_List_spliced (thn (h pos pins s σ H _ I hq) fun us s1 ⟨xs, H1, I1, r, z, q⟩ => ⟨by rw [← r.length]; exact z, ?_⟩)
  have hf : H1 s1.heap.objs.size = none := I1.hok.fresh (Nat.le_refl _)
  refine ⟨.ref s1.heap.objs.size, upd H1 s1.heap.objs.size (.lst xs), I1.laid (t' := s1.toks) (fun b u e => Heap.get?_push_of_some _ e) (Nat.le_refl _) ?_, rfl, q _ hf⟩
  exact ⟨z, us, 0, r, Heap.get?_push_size _ rfl⟩
end

noncomputable abbrev Sp := List V → Hp → VK → XK → Prop
noncomputable abbrev CXT := List Env → Hp → Shared → XK → Value → Shared → Prop

structure Env0 (P : Program) (w : World) (K : PySem.W.Frag) (mg : Str → Option Value) (base : Heap) (A : Around) (outer : List Env) (s : Shared) (H : Hp) : Prop where
  frames : A.frames = some outer
  mod : Mod K mg base
  bs : ∀ b o, base.get? b = some o → s.heap.get? b = some o ∧ H b = none
  bsz : base.objs.size ≤ s.heap.objs.size
  funs : s.heap.FunFrames base outer
  frf : ∀ b ∈ frs outer, H b = none
  hok : HOk P w H s.heap
  bare : AllBare s.gens
noncomputable def CE (outer : List Env) (P : Program) (w : World) (H : Hp) (s : Shared) (Q : VK) (u : Value) (s' : Shared) : Prop :=
  ∃ v H', s'.os = s.os ∧ AllBare s'.gens ∧ Un (frs outer) [] H H' s.heap s'.heap ∧ HOk P w H' s'.heap ∧ RelV v u ∧ Q v H'
noncomputable def CR (CX : CXT) (outer : List Env) (P : Program) (w : World) (H : Hp) (s : Shared) (Q : VK) (E : XK) (r : Result) (s' : Shared) : Prop :=
  match r with
  | .ok (.ret u) => CE outer P w H s Q u s'
  | .ok _ => False
  | .error e => CX outer H s E e s'
structure FnOk (P : Program) (w : World) (K : PySem.W.Frag) (mg : Str → Option Value) (base : Heap) (CX : CXT) (k : Nat) (f : Addr) (fd : FuncData) (ps : List Str) (sp : Sp) : Prop where
  len : ∀ vs H Q E, sp vs H Q E → vs.length = ps.length
  run : ∀ (A : Around) (outer : List Env) (s : Shared) (H : Hp) (args : Args) (us : List Value) (vs : List V) (Q : VK) (E : XK), Room k A → Env0 P w K mg base A outer s H → BindsTo s fd args (ps.zip us) → Vals vs us → sp vs H Q E →
    codeAny (model P w) A (.call (.ref f) args) (CR CX outer P w H s Q E) s
theorem FnOk.mono {P : Program} {w : World} {K : PySem.W.Frag} {mg : Str → Option Value} {base : Heap} {CX : CXT} {j k : Nat} {f : Addr} {fd : FuncData} {ps : List Str} {sp : Sp} (F : FnOk P w K mg base CX j f fd ps sp) (h : j ≤ k) :
    FnOk P w K mg base CX k f fd ps sp := ⟨F.len, fun A outer s H args us vs Q E hr => F.run A outer s H args us vs Q E (hr.mono h)⟩
theorem Env0.in1 {P : Program} {w : World} {K : PySem.W.Frag} {mg : Str → Option Value} {base : Heap} {A : Around} {outer : List Env} {s : Shared} {H : Hp} (e : Env0 P w K mg base A outer s H) :
    Env0 P w K mg base A.in1 outer s H := ⟨e.frames, e.mod, e.bs, e.bsz, e.funs, e.frf, e.hok, e.bare⟩

section
variable {X : Cx} {pins : List (Addr × Obj)} {σ : St} {H : Hp} {s s' : Shared}
theorem Inv.env0 (I : Inv X pins σ H s) : Env0 X.prog X.w X.K X.mg X.base X.A X.stack s H :=
  ⟨I.ok.frames, I.ok.mod, I.bs, Nat.le_trans I.ok.bsz I.sz, I.stack, I.stkFree, I.hok, I.bare⟩
theorem Inv.after {Q : VK} {u : Value} (I : Inv X pins σ H s) (h : CE X.stack X.prog X.w H s Q u s') : EP X pins σ Q u s' := by
  obtain ⟨v, H', os, bare, un, hok, r, q⟩ := h
  obtain ⟨hh, g, d, t, os'⟩ := s'
  obtain rfl : os' = s.os := os
  exact ⟨v, H', I.call (h' := hh) (g' := g) (d' := d) (t' := t) (ch := []) un hok bare (fun b z => absurd z (by simp)), r, q⟩
end

noncomputable def tCall (sp : Sp) (dvs : List V) (E : XK) (t : TA) : TE := fun σ H Q => t σ H fun vs H1 => sp (vs ++ dvs) H1 Q E
noncomputable def Binds (K : PySem.W.Frag) (fd : FuncData) (ps : List Str) (ds : List Value) : Prop :=
  ∀ (s : Shared) (us : List Value), K.In s.heap → (us ++ ds).length = ps.length → BindsTo s fd ⟨us, []⟩ (ps.zip (us ++ ds))
theorem Binds.all {K : PySem.W.Frag} {fd : FuncData} {ps : List Str} (h : ∀ us : List Value, us.length = ps.length → bindArgs fd ⟨us, []⟩ = pure (ps.zip us)) : Binds K fd ps [] := fun s us _ hl => by
  rw [List.append_nil] at hl ⊢
  exact .of_eq (h us hl)

noncomputable def Passes (CX : CXT) (X : Cx) (E : XK) : Prop := ∀ (pins : List (Addr × Obj)) (σ : St) (H : Hp) (s : Shared) (e : Value) (s' : Shared), Inv X pins σ H s → CX X.stack H s E e s' → X.xe e s'

section
variable {X : Cx} {CX : CXT} {k : Nat} {f C : Addr} {fd : FuncData} {ps : List Str} {sp : Sp} {dvs : List V} {ds : List Value} {E : XK} {x m : Str} {p pos apos : Pos} {e o : Expr} {es : List Expr} {ta : TE} {t : TA}

theorem run_fn {pins : List (Addr × Obj)} {σ : St} {H : Hp} {s : Shared} {Q : VK} {us : List Value} {vs : List V} (F : FnOk X.prog X.w X.K X.mg X.base CX k f fd ps sp) (hr : Room k X.A) (hb : Binds X.K fd ps ds) (hd : Vals dvs ds) (hx : Passes CX X E)
    (I : Inv X pins σ H s) (r : Vals vs us) (h : sp (vs ++ dvs) H Q E) : wpAny (model X.prog X.w) X.A (call (.ref f) us) (EP X pins σ Q) X.xe s := by
  have r2 : Vals (vs ++ dvs) (us ++ ds) := r.append hd
  have hl : (us ++ ds).length = ps.length := by rw [← r2.length]; exact F.len _ _ _ _ h
  refine wpAny_call (codeAny_mono (F.run X.A X.stack s H ⟨us, []⟩ (us ++ ds) (vs ++ dvs) Q E hr I.env0 (hb s us I.kIn hl) r2 h) fun r s' hq => ?_)
  cases r with
  | error e => exact hx pins σ H s e s' I hq
  | ok fl =>
    cases fl with
    | ret u => exact I.after hq
    | next => exact False.elim hq
    | brk => exact False.elim hq
    | cont => exact False.elim hq

theorem pe_call (F : FnOk X.prog X.w X.K X.mg X.base CX k f fd ps sp) (hr : Room k X.A) (hg : Gl X x) (hm : X.mg x = some (.ref f)) (hk : PySem.W.keepIn X.K (.ref f) = true) (hb : Binds X.K fd ps ds) (hd : Vals dvs ds) (hx : Passes CX X E)
    (ha : PA X (e :: es) t) (hdb : (x == ("__debug__" : Str)) = false := by decide) (he : starEach (e :: es) X.env = (false, eval e X.env) :: starEach es X.env := by rfl) (hpl : (backTo pos (starEach es X.env)).any (·.1) = false := by rfl) :
    PE X (.Call (.Name x p) (e :: es) [] pos) (tCall sp dvs E t) := by
  intro pins s σ H Q I h
  refine wpAny_Call_Name_kw (ld_glob I hg hm ?_ hdb)
  refine PySem.W.callWith_K (h₀ := X.base) I.ok.mod.kin hk (thn (ha pos pins s σ H _ I h) fun us s1 ⟨vs, H1, I1, r, q⟩ => ⟨I1.kIn, ?_⟩) he hpl
  exact run_fn F hr hb hd hx I1 r q
theorem pe_call0 (F : FnOk X.prog X.w X.K X.mg X.base CX k f fd ps sp) (hr : Room k X.A) (hg : Gl X x) (hm : X.mg x = some (.ref f)) (hk : PySem.W.keepIn X.K (.ref f) = true) (hb : Binds X.K fd ps ds) (hd : Vals dvs ds) (hx : Passes CX X E)
    (hdb : (x == ("__debug__" : Str)) = false := by decide) : PE X (.Call (.Name x p) [] [] pos) (tCall sp dvs E tNil) := by
  intro pins s σ H Q I h
  refine wpAny_Call_Name_kw (ld_glob I hg hm ?_ hdb)
  exact PySem.W.callWith_K0 I.kIn hk (run_fn (us := []) F hr hb hd hx I .nil h)

end

noncomputable def PK (X : Cx) (kws : List Keyword) (t : TA) : Prop :=
  ∀ (pos : Pos) (pins : List (Addr × Obj)) (s : Shared) (σ : St) (H : Hp) (Q : List V → Hp → Prop), Inv X pins σ H s → t σ H Q → wpAny (model X.prog X.w) X.A (evalAll ((backToKw pos (keywordEach kws X.env)).map (·.2))) (AP X pins σ Q) X.xe s
section
variable {X : Cx} {CX : CXT} {k : Nat} {f C : Addr} {fd : FuncData} {ps ks : List Str} {sp : Sp} {E : XK} {x m : Str} {p pos apos kpos : Pos} {e o : Expr} {es : List Expr} {kws : List Keyword} {te ta : TE} {t tk : TA} {nm : Option Str}
theorem pk_nil : PK X [] tNil := fun _ _ _ _ H Q I h => wpAny_evalAll_nil ⟨[], H, I, .nil, h⟩
theorem pk_cons (ha : PE X e te) (hr : PK X kws t) : PK X (⟨nm, e, kpos⟩ :: kws) (tCons te t) := by
  intro pos pins s σ H Q I h
  show wpAny _ _ (evalAll ((do let v ← eval e X.env; standAt pos; pure v) :: (backToKw pos (keywordEach kws X.env)).map (·.2))) _ _ s
  refine wpAny_evalAll_cons (wpAny_bind (thn (ha pins s σ H _ I h) fun u s1 ⟨x, H1, I1, r1, q1⟩ => wpAny_bind (wpAny_standAt (wpAny_pure ?_))))
  exact thn (hr pos pins s1 σ H1 _ I1 q1) fun us s2 ⟨xs, H2, I2, r2, q2⟩ => ⟨x :: xs, H2, I2, .cons r1 r2, q2⟩

variable {g : List Value → List Value → List Value} {gV : List V → List V → List V}
end

structure FnScope (N P : List Str) (sc : Scope) : Prop where
  kind : sc.kind = .function
  co : sc.isCoroutine = false
  gen : sc.isGenerator = false
  nd : N.Nodup
  pre : N.take P.length = P
  par : ∀ x ∈ P, sc.names.lookup x = some .local ∨ sc.names.lookup x = some .cell
  nofree : ∀ y ∈ sc.names, y.2 ≠ .free

theorem bindL_out {kindOf : Str → Option NameKind} {x : Str} : ∀ {binds : List (Str × Value)} {m : Str → Option Value}, (∀ v, (x, v) ∉ binds) → bindL kindOf binds m x = m x
  | [], _, _ => rfl
  | (n, v) :: r, m, h => by
    unfold bindL
    rw [bindL_out fun w hw => h w (List.mem_cons_of_mem _ hw)]
    split
    · have : x ≠ n := by rintro rfl; exact h v List.mem_cons_self
      simp [this]
    · rfl
theorem bindC_out {kindOf : Str → Option NameKind} {x : Str} : ∀ {binds : List (Str × Value)} {m : Str → Option Value}, (∀ v, (x, v) ∉ binds) → bindC kindOf binds m x = m x
  | [], _, _ => rfl
  | (n, v) :: r, m, h => by
    unfold bindC
    rw [bindC_out fun w hw => h w (List.mem_cons_of_mem _ hw)]
    split
    · rfl
    · have : x ≠ n := by rintro rfl; exact h v List.mem_cons_self
      simp [this]
theorem bindL_get {kindOf : Str → Option NameKind} {x : Str} {v : Value} : ∀ {P : List Str} {vs : List Value} {i : Nat} {m : Str → Option Value}, P.Nodup → P[i]? = some x → vs[i]? = some v → kindOf x = some .local →
    bindL kindOf (P.zip vs) m x = some v
  | [], _, _, _, _, h, _, _ => by simp at h
  | _ :: _, [], _, _, _, _, h, _ => by simp at h
  | p :: P, w :: vs, 0, m, nd, h1, h2, hk => by
    simp at h1 h2; subst h1; subst h2
    show bindL kindOf ((p, w) :: P.zip vs) m p = _
    unfold bindL
    rw [bindL_out fun v hv => (List.nodup_cons.mp nd).1 (List.of_mem_zip hv).1, if_pos hk]
    simp
  | p :: P, w :: vs, i + 1, m, nd, h1, h2, hk => by
    show bindL kindOf ((p, w) :: P.zip vs) m x = _
    unfold bindL
    exact bindL_get (i := i) (List.nodup_cons.mp nd).2 (by simpa using h1) (by simpa using h2) hk
theorem bindC_get {kindOf : Str → Option NameKind} {x : Str} {v : Value} : ∀ {P : List Str} {vs : List Value} {i : Nat} {m : Str → Option Value}, P.Nodup → P[i]? = some x → vs[i]? = some v → kindOf x ≠ some .local →
    bindC kindOf (P.zip vs) m x = some v
  | [], _, _, _, _, h, _, _ => by simp at h
  | _ :: _, [], _, _, _, _, h, _ => by simp at h
  | p :: P, w :: vs, 0, m, nd, h1, h2, hk => by
    simp at h1 h2; subst h1; subst h2
    show bindC kindOf ((p, w) :: P.zip vs) m p = _
    unfold bindC
    rw [bindC_out fun v hv => (List.nodup_cons.mp nd).1 (List.of_mem_zip hv).1, if_neg hk]
    simp
  | p :: P, w :: vs, i + 1, m, nd, h1, h2, hk => by
    show bindC kindOf ((p, w) :: P.zip vs) m x = _
    unfold bindC
    exact bindC_get (i := i) (List.nodup_cons.mp nd).2 (by simpa using h1) (by simpa using h2) hk

noncomputable def start (N : List Str) (vs : List V) : St := vs.map some ++ List.replicate (N.length - vs.length) none

noncomputable def cxOf (CX : CXT) (P : Program) (w : World) (K : PySem.W.Frag) (mg : Str → Option Value) (base : Heap) (N : List Str) (qual : Str) (scope : Scope) (f : Addr) (cd : Value) (A : Around) (outer : List Env) (s : Shared) (H : Hp) (E : XK) : Cx where
  prog := P
  w := w
  K := K
  mg := mg
  base := base
  A := A.deeper (envOfC qual scope s.heap.objs.size f cd)
  N := N
  s₀ := s
  H₀ := H
  env := envOfC qual scope s.heap.objs.size f cd
  outer := outer
  stack := envOfC qual scope s.heap.objs.size f cd :: outer
  ex := []
  calm := true
  fn := fun _ => true
  pn := []
  xe := fun e s' => wpAny (model P w) (A.deeper (envOfC qual scope s.heap.objs.size f cd)) (leaving (envOfC qual scope s.heap.objs.size f cd) e) (fun _ s'' => CX outer H s E e s'') (fun e' s'' => CX outer H s E e' s'') s'

theorem cell_has {sc : Scope} {n : Nat} {x : Str} (h : sc.names.lookup x = some .cell) : ∃ c, (cellsFrom n sc.names []).lookup x = some c := by
  have q := PySem.W.cellsFrom_some sc.names n [] (.inl h)
  exact Option.isSome_iff_exists.mp q

theorem inv_start {CX : CXT} {P : Program} {w : World} {K : PySem.W.Frag} {mg : Str → Option Value} {base : Heap} {N ps : List Str} {qual : Str} {scope : Scope} {f : Addr} {cd : Value} {A : Around} {outer : List Env} {s s1 : Shared} {H : Hp} {E : XK} {us : List Value} {vs : List V}
    (S : FnScope N ps scope) (hd : A.handled = none) (e0 : Env0 P w K mg base A outer s H) (hl : vs.length = ps.length) (r : Vals vs us)
    (x : InCallC s s.heap.objs.size (bindL (envOfC qual scope s.heap.objs.size f cd).kindOf (ps.zip us) fun _ => none) (cellsFrom (s.heap.objs.size + 1) scope.names []) (bindC (envOfC qual scope s.heap.objs.size f cd).kindOf (ps.zip us) fun _ => none) s1) :
    Inv (cxOf CX P w K mg base N qual scope f cd A outer s H E) [] (start N vs) H s1 := by
  have hpl : ps.length ≤ N.length := by have := congrArg List.length S.pre; rw [List.length_take] at this; omega
  obtain ⟨h1, tk, rfl, hk⟩ := x.done
  have noA : ∀ b : Addr, b ∉ (cxOf CX P w K mg base N qual scope f cd A outer s H E).ex := fun b z => absurd (show b ∈ ([] : List Addr) from z) (by simp)
  refine ⟨⟨e0.mod, S.kind, rfl, rfl, Nat.le_refl _, fun y z c h1 h2 => ?_, fun y hy => ?_, fun y c _ h => ?_, fun _ => hd, Around.frames_deeper e0.frames, .inr ⟨rfl, rfl⟩, fun b z => absurd z (noA b), e0.bs, e0.bsz, fun b _ _ => noA b, fun b z => absurd z (noA b), e0.funs, e0.frf⟩,
    rfl, e0.bare, Un.kept hk, ⟨_, x.toInCall.ns, fun i y v h1 h2 h3 => ?_⟩, fun y c h => ⟨_, x.cell y c h⟩, e0.hok.fresh (Nat.le_refl _), fun y c h => ?_, fun p hp => absurd (show p ∈ ([] : List (Addr × Obj)) from hp) (by simp), e0.hok.kept hk, ?_⟩
  · exact name_of_addr x.apart (PySem.mem_of_lookup h1) (PySem.mem_of_lookup h2)
  · have hy : scope.names.lookup y = some .cell ∨ scope.names.lookup y = some .free := hy
    rcases hy with hy | hy
    · exact cell_has hy
    · exact absurd rfl (S.nofree _ (PySem.mem_of_lookup hy))
  · exact Nat.le_of_lt (x.above y c (PySem.mem_of_lookup h))
  · have hi : i < vs.length := by
      unfold start at h2
      by_cases hi : i < vs.length
      · exact hi
      · rw [List.getElem?_append_right (by simpa using hi)] at h2
        rw [List.getElem?_replicate] at h2
        split at h2 <;> cases h2
    have ha : vs[i]? = some v := by
      unfold start at h2
      rw [List.getElem?_append_left (by simpa using hi), List.getElem?_map] at h2
      cases e : vs[i]? with
      | none => rw [e] at h2; cases h2
      | some a => rw [e] at h2; cases h2; rfl
    obtain ⟨u, hu, rv⟩ := r.get ha
    have hp : ps[i]? = some y := by
      rw [← S.pre, List.getElem?_take_of_lt (by omega)]; exact h1
    have ndP : ps.Nodup := by rw [← S.pre]; exact S.nd.sublist (List.take_sublist _ _)
    refine ⟨u, rv, ?_⟩
    rcases S.par y (List.mem_of_getElem? hp) with k | k
    · exact .inl ⟨k, bindL_get ndP hp hu k⟩
    · obtain ⟨c, e⟩ := cell_has (n := s.heap.objs.size + 1) k
      refine .inr ⟨.inl k, c, e, ?_⟩
      have q := x.cell y c e
      rw [bindC_get ndP hp hu (by show scope.names.lookup y ≠ _; rw [k]; decide)] at q
      exact q
  · exact e0.hok.fresh (Nat.le_of_lt (x.above y c (PySem.mem_of_lookup h)))
  · unfold start
    show _ = N.length
    rw [List.length_append, List.length_map, List.length_replicate]
    omega

theorem fn_of {CX : CXT} {P : Program} {w : World} {K : PySem.W.Frag} {mg : Str → Option Value} {base : Heap} {k : Nat} {f : Addr} {name qual : Str} {params : Arguments} {body : List Stmt} {scope : Scope} {dV kV doc pm cdv ct oc : Value} {an od : Option Addr}
    {osl : Array (Option Value)} {N ps : List Str} {sp : Sp} (lk : K.lookup f = some ⟨oc, od, .func (PySem.W.fnOf name qual params body scope dV kV doc pm an cdv ct), osl⟩) (hcd : PySem.W.codeIn K cdv qual = true) (S : FnScope N ps scope)
    (len : ∀ vs H Q E, sp vs H Q E → vs.length = ps.length)
    (hbody : ∀ (A : Around) (outer : List Env) (s : Shared) (H : Hp) (vs : List V) (Q : VK) (E : XK), Room k (A.deeper (envOfC qual scope s.heap.objs.size f cdv)) → sp vs H Q E →
      ∃ t, PSs (cxOf CX P w K mg base N qual scope f cdv A outer s H E) body t ∧ t { nx := fun _ H' => Q .non H', rt := Q } (start N vs) H) :
    FnOk P w K mg base CX (k + 1) f (PySem.W.fnOf name qual params body scope dV kV doc pm an cdv ct) ps sp := by
  refine ⟨len, fun A outer s H args us vs Q E hr e0 hb r hsp => ?_⟩
  have hl := len _ _ _ _ hsp
  have KX : K.In s.heap := e0.mod.kin.keeps fun b o e => (e0.bs b o e).1
  have lim : s.heap.NoLimit := e0.mod.nolimit.keeps fun b o e => (e0.bs b o e).1
  have hkind : ∀ y ∈ ps.zip us, scope.names.lookup y.1 = some .local ∨ (scope.names.lookup y.1 = some .cell ∧ ((cellsFrom (s.heap.objs.size + 1) scope.names []).lookup y.1).isSome = true) := fun ⟨n, v⟩ hy => by
    rcases S.par n (List.of_mem_zip hy).1 with q | q
    · exact .inl q
    · exact .inr ⟨q, PySem.W.cellsFrom_some _ _ _ (.inl q)⟩
  refine codeAny_call_function hr.depth (KX _ _ lk) rfl S.co S.gen rfl (PySem.W.codeRec_of KX hcd) (hb _ _ _ _ ?_)
  refine wpAny_newFunctionEnv_cells S.kind hkind fun env he s1 x => ?_
  subst he
  refine ⟨lim.keeps x.toInCall.keep, codeAny_func ?_⟩
  obtain ⟨t, ht, hq⟩ := hbody A outer s H vs Q E (hr.deeper _) hsp
  have I : Inv (cxOf CX P w K mg base N qual scope f cdv A outer s H E) [] (start N vs) H s1 := inv_start S hr.hd e0 hl r x
  refine wpAny_mono (ht [] s1 (start N vs) H _ I hq) (fun fl s' hs => ?_) fun e s' hs => hs
  have fin : ∀ {σ' : St} {H' : Hp} {v : V} {u : Value}, Inv (cxOf CX P w K mg base N qual scope f cdv A outer s H E) [] σ' H' s' → RelV v u → Q v H' → CE outer P w H s Q u s' :=
    fun {σ' H' v u} J rv q => ⟨v, H', J.os, J.bare, J.base, J.hok, rv, q⟩
  cases fl with
  | ret u =>
    obtain ⟨v, σ', H', J, rv, q⟩ := hs
    exact fin J rv q
  | next =>
    obtain ⟨σ', H', J, q⟩ := hs
    exact fin (v := V.non) (u := Value.none) J rfl q
  | brk =>
    obtain ⟨_, _, _, q⟩ := hs
    exact False.elim q
  | cont =>
    obtain ⟨_, _, _, q⟩ := hs
    exact False.elim q
end L2

namespace L2
open PySem PySem.Spec PyProof.Rows
section
variable {X : Cx} {x : Str} {p pos : Pos} {e : Expr} {es : List Expr} {t : TA} {id T : String} {r : List V → Hp → VK → Prop}

noncomputable def tCB (r : List V → Hp → VK → Prop) (t : TA) : TE := fun σ H Q => t σ H fun vs H1 => r vs H1 Q
theorem pe_callB (hc : CallR X (.builtin id) r) (hg : Gl X x) (hm : X.mg x = none) (hv : bootBuiltins x = some (.builtin id)) (ha : PA X (e :: es) t) (hn : x ≠ "__name__" := by decide) (hdb : (x == ("__debug__" : Str)) = false := by decide)
    (he : starEach (e :: es) X.env = (false, eval e X.env) :: starEach es X.env := by rfl) (hpl : (backTo pos (starEach es X.env)).any (·.1) = false := by rfl) : PE X (.Call (.Name x p) (e :: es) [] pos) (tCB r t) := by
  intro pins s σ H Q I h
  refine wpAny_Call_Name_kw (ld_blt I hg hm hv ?_ hn hdb)
  exact PyProof.Rows.callWith_builtin1 (thn (ha pos pins s σ H _ I h) fun us s1 ⟨vs, H1, I1, r1, q1⟩ => hc pins s1 σ H1 vs us Q I1 r1 q1) he hpl
theorem pe_callTy (hc : CallR X (.type T) r) (hg : Gl X x) (hm : X.mg x = none) (hv : bootBuiltins x = some (.type T)) (ha : PA X (e :: es) t) (hn : x ≠ "__name__" := by decide) (hdb : (x == ("__debug__" : Str)) = false := by decide)
    (he : starEach (e :: es) X.env = (false, eval e X.env) :: starEach es X.env := by rfl) (hpl : (backTo pos (starEach es X.env)).any (·.1) = false := by rfl) : PE X (.Call (.Name x p) (e :: es) [] pos) (tCB r t) := by
  intro pins s σ H Q I h
  refine wpAny_Call_Name_kw (ld_blt I hg hm hv ?_ hn hdb)
  exact PyProof.Rows.callWith_type1 (thn (ha pos pins s σ H _ I h) fun us s1 ⟨vs, H1, I1, r1, q1⟩ => hc pins s1 σ H1 vs us Q I1 r1 q1) he hpl
end
end L2

namespace HT
open PySem PyProof.Rows

noncomputable def lexLt : List Int → List Int → Bool
  | [], [] => false
  | [], _ :: _ => true
  | _ :: _, [] => false
  | x :: xs, y :: ys => if x = y then lexLt xs ys else decide (x < y)
theorem lexLt_cons (x y : Int) (xs ys : List Int) : lexLt (x :: xs) (y :: ys) = if x = y then lexLt xs ys else decide (x < y) := rfl
theorem lexLt_nil_nil : lexLt [] [] = false := rfl
theorem lexLt_nil_cons (y : Int) (ys : List Int) : lexLt [] (y :: ys) = true := rfl
theorem lexLt_cons_nil (x : Int) (xs : List Int) : lexLt (x :: xs) [] = false := rfl

theorem eqAt_int (A : Around) (s : Shared) (a : Int) (t : Tok) (c : Int) (u : Tok) : ∃ e, SeqAt.EqAt A s (.int a t) (.int c u) e ∧ (e = true ↔ a = c) :=
  ⟨(a == c), SeqAt.EqAt.int_int a t c u, by simp⟩
theorem rcLt_int (A : Around) (s : Shared) (a : Int) (t : Tok) (c : Int) (u : Tok) (prog : Program) (w : World) (E : Value → Shared → Prop) (Q : Value → Shared → Prop) (h : Q (.bool (decide (a < c))) s) :
    wpAny (model prog w) A (richCompare .Lt (.int a t) (.int c u)) Q E s :=
  (PyProof.Rows.lt_int h : wpAny (model prog w) A (compareOp .Lt (.int a t) (.int c u)) Q E s)

section
open PySem.SeqAt
open PySem.AutoSeq1 (wpAny_loadPart')
open PySem.MeetsSeq PySem.MeetsSeq2 PySem.MeetsSeq3

theorem tuple_lt_ints (l b : Addr) (items items2 : Array Value) (n n2 : Nat) (dd dd2 : Option Addr) (sl sl2 : Array (Option Value)) (ns ms : List Int) (hi : IntsAre items.toList ns) (hj : IntsAre items2.toList ms) :
    Meets (Builtin.«tuple.__lt__» ⟨[.ref l, .ref b], []⟩)
      (fun _ R s => s.heap.get? l = some { cls := .type "tuple", dict := dd, data := .seq items n, slots := sl } ∧ s.heap.get? b = some { cls := .type "tuple", dict := dd2, data := .seq items2 n2, slots := sl2 } ∧
        R (.ok (.ret (.bool (lexLt ns ms)))) s) :=
  .of_wp fun prog w A R s h => by
    obtain ⟨hp, g, d, tk, os⟩ := s; obtain ⟨hl, hb, h⟩ := h
    have f2 := AutoSeq1.sub_tuple_tuple
    have z1 : items.size = ns.length := by rw [← hi.length]; simp
    have z2 : items2.size = ms.length := by rw [← hj.length]; simp
    wp_walk using wpAny_loadPart' hl, wpAny_loadPart' hb, wpAny_forIn_list _ (fun rest b s' => b.1 = none ∧ s' = ⟨hp, g, d, tk, os⟩ ∧ ∃ (vs ws : List Value) (ns' ms' : List Int), rest = vs.zip ws ∧
      IntsAre vs ns' ∧ IntsAre ws ms' ∧ ns'.length + items2.size = ms'.length + items.size ∧ R (.ok (.ret (.bool (lexLt ns' ms')))) ⟨hp, g, d, tk, os⟩) _
    case turn =>
      rintro ⟨y, x⟩ rest b s' ⟨hb', rfl, vs, ws, ns', ms', hz, hvi, hwi, hlen, hR⟩
      cases hvi with
      | nil => rw [List.zip_nil_left] at hz; cases hz
      | cons a t hvi' =>
        cases hwi with
        | nil => rw [List.zip_nil_right] at hz; cases hz
        | cons c u hwi' =>
          rw [List.zip_cons_cons] at hz
          injection hz with hyx hrest
          injection hyx with hy hx
          subst hy hx
          rw [lexLt_cons] at hR
          simp only [List.length_cons] at hlen
          obtain ⟨e, he, hiff⟩ := eqAt_int A.in1 ⟨hp, g, d, tk, os⟩ a t c u
          refine wpAny_bind (he prog w _ _ ?_)
          cases e with
          | true =>
            rw [if_pos (hiff.mp rfl)] at hR
            wp_walk
            exact ⟨rfl, rfl, _, _, _, _, hrest, hvi', hwi', by omega, hR⟩
          | false =>
            rw [if_neg (fun q => absurd (hiff.mpr q) Bool.false_ne_true)] at hR
            have hri := rcLt_int A.in1 ⟨hp, g, d, tk, os⟩ a t c u prog w
            wp_walk using hri
            exact ⟨_, rfl, by simpa using hR⟩
    case fin =>
      rintro ⟨b1, b2⟩ s' ⟨hb', rfl, vs, ws, ns', ms', hz, hvi, hwi, hlen, hR⟩
      simp only at hb'
      subst hb'
      have hv : lexLt ns' ms' = decide (items.size < items2.size) := by
        cases hvi with
        | nil =>
          cases hwi with
          | nil =>
            simp only [List.length_nil] at hlen
            rw [lexLt_nil_nil]
            exact (decide_eq_false (by omega)).symm
          | cons c u hw =>
            simp only [List.length_nil, List.length_cons] at hlen
            rw [lexLt_nil_cons]
            exact (decide_eq_true (by omega)).symm
        | cons a t hv =>
          cases hwi with
          | nil =>
            simp only [List.length_nil, List.length_cons] at hlen
            rw [lexLt_cons_nil]
            exact (decide_eq_false (by omega)).symm
          | cons c u hw =>
            rw [List.zip_cons_cons] at hz
            cases hz
      rw [hv] at hR
      wp_walk
      exact ⟨_, rfl, by simpa [Builtin.Tuple.tupleCompareSizes] using hR⟩
    case h =>
      exact ⟨rfl, rfl, items.toList, items2.toList, ns, ms, rfl, hi, hj, by omega, h⟩
end

section
variable {prog : Program} {w : World} {A : Around} {E : Value → Shared → Prop} {s : Shared}

theorem lt_tupInts {l b : Addr} {items items2 : Array Value} {ns ms : List Int} {Q : Value → Shared → Prop} (hl : IsTup s.heap l items) (hb : IsTup s.heap b items2) (hi : IntsAre items.toList ns) (hj : IntsAre items2.toList ms)
    (hu : A.units < cLine) (h : Q (.bool (lexLt ns ms)) s) : wpAny (model prog w) A (compareOp .Lt (.ref l) (.ref b)) Q E s := by
  obtain ⟨⟨cls, dd, data, sl⟩, ho, hc, n, hd⟩ := id hl
  obtain ⟨⟨cls2, dd2, data2, sl2⟩, ho2, hc2, n2, hd2⟩ := id hb
  simp only at hc hd hc2 hd2
  subst hc hd hc2 hd2
  exact richCompare_meets_room (op := .Lt) ⟨_, ho, rfl⟩ ⟨_, ho2, rfl⟩ PySem.F.slot_tuple_lt PySem.F.entry_tuple_lt (PySem.F.args_tuple_lt_2 _ _) (tuple_lt_ints l b items items2 n n2 dd dd2 sl sl2 ns ms hi hj)
    ⟨ho, ho2, show Value.bool (lexLt ns ms) ≠ Value.notImplemented ∧ Q (.bool (lexLt ns ms)) s from ⟨(fun x => by cases x), h⟩⟩ hu

theorem cat_tup {t b : Addr} {vs ws : List Value} {Q : Value → Shared → Prop} (ht : IsTup s.heap t vs.toArray) (hb : IsTup s.heap b ws.toArray) (hv : vs ≠ [])
    (h1 : ws = [] → Q (.ref t) s) (h2 : ws ≠ [] → Q (.ref s.heap.objs.size) { s with heap := s.heap.push { cls := .type "tuple", data := .seq (vs ++ ws).toArray } })
    (hsz : vs.length + ws.length ≤ sizeLine) : wpAny (model prog w) A (binaryOp .Add (.ref t) (.ref b)) Q E s := by
  obtain ⟨⟨cls, dd, data, sl⟩, ho, hc, n, hd⟩ := id ht
  obtain ⟨⟨cls2, dd2, data2, sl2⟩, ho2, hc2, n2, hd2⟩ := id hb
  simp only at hc hd hc2 hd2
  subst hc hd hc2 hd2
  have e : vs.toArray ++ ws.toArray = (vs ++ ws).toArray := by simp
  by_cases hw : ws = []
  · exact concat_meets ⟨_, ho, rfl⟩ ⟨_, ho2, rfl⟩ noFill_tuple_add seq_tuple_add PySem.F.slot_tuple_add PySem.F.entry_tuple_add (PySem.F.args_tuple_add_2 _ _)
      (tuple_addW1 t b vs.toArray ws.toArray n n2 dd dd2 sl sl2 (by simpa using hv) (by simp [hw])) ⟨ho, ho2, h1 hw⟩
  · refine concat_meets ⟨_, ho, rfl⟩ ⟨_, ho2, rfl⟩ noFill_tuple_add seq_tuple_add PySem.F.slot_tuple_add PySem.F.entry_tuple_add (PySem.F.args_tuple_add_2 _ _)
      (tuple_addW2 t b vs.toArray ws.toArray n n2 dd dd2 sl sl2 (by simpa using hv) (by simpa using hw) (by rw [List.size_toArray, List.size_toArray]; exact hsz)) ⟨ho, ho2, ?_⟩
    rw [e]
    exact h2 hw

noncomputable def sIx (n d : Nat) : Option Int → Nat
  | none => d
  | some v => if v < 0 then (v + (n : Int)).toNat else min v.toNat n
end
end HT

namespace L2
open PySem PySem.Spec PyProof.Rows

noncomputable abbrev TO := St → Hp → (Option Int → Hp → Prop) → Prop
noncomputable def PO (X : Cx) (e : Option Expr) (t : TO) : Prop :=
  ∀ (pins : List (Addr × Obj)) (s : Shared) (σ : St) (H : Hp) (Q : Option Int → Hp → Prop), Inv X pins σ H s → t σ H Q →
    wpAny (model X.prog X.w) X.A (evalPart e X.env) (fun u s' => ∃ o H', Inv X pins σ H' s' ∧ IsPart u o ∧ Q o H') X.xe s
noncomputable def tPart (t : TE) : TO := fun σ H Q => t σ H fun x H1 => ∃ i, x = .int i ∧ Q (some i) H1

theorem intsAre_of {ns : List Int} : ∀ {us : List Value}, Vals (ns.map V.int) us → IntsAre us ns := by
  induction ns with
  | nil => intro us r; rw [List.map_nil] at r; cases r; exact .nil
  | cons n ns ih =>
    intro us r
    rw [List.map_cons] at r
    cases r with
    | cons r1 r2 =>
      obtain ⟨t, e⟩ := r1
      subst e
      exact .cons n t (ih r2)

section
variable {X : Cx} {e : Expr} {te : TE} {lo hi : Option Expr} {tl th : TO} {pos p2 : Pos}

theorem po_some (h : PE X e te) : PO X (some e) (tPart te) := by
  intro pins s σ H Q I hw
  rw [evalPart_some]
  refine thn (h pins s σ H _ I hw) fun u s1 qZ => ?_
  obtain ⟨x, H1, I1, r1, q1⟩ := qZ
  obtain ⟨i, rfl, q⟩ := q1
  obtain ⟨t, rfl⟩ := r1
  exact ⟨some i, H1, I1, .int i t, q⟩

noncomputable def SlR (X : Cx) (r : V → Option Int → Option Int → Hp → VK → Prop) : Prop :=
  ∀ (pins : List (Addr × Obj)) (s : Shared) (σ : St) (H : Hp) (x : V) (v vl vu : Value) (lo hi : Option Int) (sl : Addr) (Q : VK), Inv X pins σ H s → RelV x v → s.heap.IsSliceOf sl vl vu .none → IsPart vl lo → IsPart vu hi → r x lo hi H Q →
    ∃ T id, typeLookup (.type T) "__getitem__" = pure (some (.builtin id)) ∧ s.TypeIs v T ∧ wpAny (model X.prog X.w) X.A (getItem v (.ref sl)) (EP X pins σ Q) X.xe s
theorem SlR.or {r r' : V → Option Int → Option Int → Hp → VK → Prop} (h : SlR X r) (h' : SlR X r') : SlR X (fun x lo hi H Q => r x lo hi H Q ∨ r' x lo hi H Q) := by
  intro pins s σ H x v vl vu lo hi sl Q I rx hs pl pu q
  rcases q with q | q
  · exact h pins s σ H x v vl vu lo hi sl Q I rx hs pl pu q
  · exact h' pins s σ H x v vl vu lo hi sl Q I rx hs pl pu q
noncomputable def tSl (r : V → Option Int → Option Int → Hp → VK → Prop) (te : TE) (tl th : TO) : TE := fun σ H Q => te σ H fun x H1 => tl σ H1 fun l H2 => th σ H2 fun u H3 => r x l u H3 Q
theorem pe_slice {r : V → Option Int → Option Int → Hp → VK → Prop} (hr : SlR X r) (he : PE X e te) (hl : PO X lo tl) (hu : PO X hi th) : PE X (.Subscript e (.Slice lo hi none p2) pos) (tSl r te tl th) := by
  intro pins s σ H Q I h
  refine Subscript_ (thn (he pins s σ H _ I h) fun v s1 qZ => ?_)
  obtain ⟨x, H1, I1, r1, q1⟩ := qZ
  refine wpAny_Slice (thn (hl pins s1 σ H1 _ I1 q1) fun vl s2 ⟨l, H2, I2, pl, q2⟩ => thn (hu pins s2 σ H2 _ I2 q2) fun vu s3 qZ => ?_)
  obtain ⟨u, H3, I3, pu, q3⟩ := qZ
  rw [evalPart_none]
  refine wpAny_pure ?_
  have I4 : Inv X pins σ H3 { s3 with heap := s3.heap.push { cls := .type "slice", data := .fields #[vl, vu, .none] } } := I3.kept (t' := s3.toks) fun b ob q => Heap.get?_push_of_some _ q
  obtain ⟨T, id, hT, ht, hg⟩ := hr pins { s3 with heap := s3.heap.push { cls := .type "slice", data := .fields #[vl, vu, .none] } } σ H3 x v vl vu l u s3.heap.objs.size Q I4 r1 (Heap.IsSliceOf.new ..) pl pu q3
  show wpAny (model X.prog X.w) X.A (subscriptTail e (.Slice lo hi none p2) v (.ref s3.heap.objs.size)) (EP X pins σ Q) X.xe { s3 with heap := s3.heap.push { cls := .type "slice", data := .fields #[vl, vu, .none] } }
  exact tail_any (ops := [.ref s3.heap.objs.size, v]) ht hT hg (by with_unfolding_all rfl)

noncomputable def cutV (xs : List V) (lo hi : Option Int) : List V := (xs.drop (HT.sIx xs.length 0 lo)).take (HT.sIx xs.length xs.length hi - HT.sIx xs.length 0 lo)
theorem cutV_length (xs : List V) (lo hi : Option Int) : (cutV xs lo hi).length ≤ xs.length := by
  unfold cutV
  rw [List.length_take, List.length_drop]
  omega
noncomputable def rLtT (K : PySem.W.Frag) : R2 := fun x y H Q => ∃ a b ns ms, x = .ref a ∧ y = .ref b ∧ SqT K H a (ns.map V.int) ∧ SqT K H b (ms.map V.int) ∧ Q (.bl (HT.lexLt ns ms)) H
theorem op_ltT (hu : X.A.units < cLine) : OpR X (compareOp .Lt) (rLtT X.K) := by
  intro pins s σ H x y v u Q I rx ry h
  obtain ⟨a, b, ns, ms, rfl, rfl, ha, hb, q⟩ := h
  cases rx
  cases ry
  obtain ⟨its, r1, p1, _⟩ := I.tuple ha
  obtain ⟨its2, r2, p2, _⟩ := I.tuple hb
  have i1 : IntsAre its.toArray.toList ns := intsAre_of r1
  have i2 : IntsAre its2.toArray.toList ms := intsAre_of r2
  exact HT.lt_tupInts p1 p2 i1 i2 hu ⟨.bl (HT.lexLt ns ms), H, I, rfl, q⟩
noncomputable def rCatT (K : PySem.W.Frag) : R2 := fun x y H Q => ∃ a b xs ys, x = .ref a ∧ y = .ref b ∧ SqT K H a xs ∧ SqT K H b ys ∧ xs ≠ [] ∧ xs.length + ys.length ≤ sizeLine ∧
  (ys = [] → Q (.ref a) H) ∧ (ys ≠ [] → ∀ p, H p = none → Q (.ref p) (upd H p (.tup (xs ++ ys))))
theorem Vals.nil_iff {xs : List V} {us : List Value} (r : Vals xs us) : us = [] ↔ xs = [] := by
  cases r with
  | nil => simp
  | cons _ _ => simp
theorem op_catT : OpR X (binaryOp .Add) (rCatT X.K) := by
  intro pins s σ H x y v u Q I rx ry h
  obtain ⟨a, b, xs, ys, rfl, rfl, ha, hb, hx, hz, q1, q2⟩ := h
  cases rx
  cases ry
  obtain ⟨its, r1, p1, _⟩ := I.tuple ha
  obtain ⟨its2, r2, p2, _⟩ := I.tuple hb
  refine HT.cat_tup p1 p2 (fun z => hx (r1.nil_iff.mp z)) (fun z => ⟨.ref a, H, I, rfl, q1 (r2.nil_iff.mp z)⟩) (fun z => ?_) (by rw [← r1.length, ← r2.length]; exact hz)
  refine ⟨.ref s.heap.objs.size, _, I.laid (t' := s.toks) (o := .tup (xs ++ ys)) (fun b ob q => Heap.get?_push_of_some _ q) (Nat.le_refl _) ?_, rfl, q2 (fun w => z (r2.nil_iff.mpr w)) _ (I.hok.fresh (Nat.le_refl _))⟩
  exact ⟨by rw [List.length_append]; exact hz, _, r1.append r2, IsTup.new _ _⟩
end
end L2

namespace L2
open PySem PySem.Spec PyProof.Rows

noncomputable def ixN (n : Nat) (i : Int) : Option Nat := if 0 ≤ i then (if i < n then some i.toNat else none) else if -(n : Int) ≤ i then some (i + n).toNat else none
noncomputable def atI {α : Type} (xs : List α) (i : Int) : Option α := (ixN xs.length i).bind fun j => xs[j]?
theorem ixN_seq {n : Nat} {i : Int} {j : Nat} (h : ixN n i = some j) : seqIndex? i n = some j ∧ j < n ∧ -(n : Int) ≤ i ∧ i < n := by
  unfold ixN at h
  by_cases h0 : 0 ≤ i
  · rw [if_pos h0] at h
    by_cases h1 : i < n
    · rw [if_pos h1] at h
      have e : i.toNat = j := Option.some.inj h
      exact ⟨by rw [seqIndex_of h0 h1, e], by omega, by omega, h1⟩
    · rw [if_neg h1] at h; cases h
  · rw [if_neg h0] at h
    by_cases h1 : -(n : Int) ≤ i
    · rw [if_pos h1] at h
      have e : (i + n).toNat = j := Option.some.inj h
      exact ⟨by rw [seqIndex_neg (by omega) h1, e], by omega, h1, by omega⟩
    · rw [if_neg h1] at h; cases h
theorem atI_get {α : Type} {xs : List α} {i : Int} {v : α} (h : atI xs i = some v) : ∃ j, seqIndex? i xs.length = some j ∧ xs[j]? = some v ∧ j < xs.length ∧ -(xs.length : Int) ≤ i ∧ i < xs.length := by
  unfold atI at h
  cases e : ixN xs.length i with
  | none => rw [e] at h; cases h
  | some j =>
    rw [e] at h
    obtain ⟨h1, h2, h3, h4⟩ := ixN_seq e
    exact ⟨j, h1, h, h2, h3, h4⟩
theorem atI_nat {α : Type} {xs : List α} {j : Nat} {v : α} (h : xs[j]? = some v) : atI xs (j : Int) = some v := by
  have hj : j < xs.length := (List.getElem?_eq_some_iff.mp h).1
  have e : ixN xs.length (j : Int) = some j := by
    unfold ixN
    rw [if_pos (by omega), if_pos (by omega)]; simp
  unfold atI; rw [e]; exact h
noncomputable def PlainIx (b : Expr) : Prop := ∀ o i, subscripted b false o i = operate [o, i] (getItem o i)
noncomputable def IxR (X : Cx) (r : R2) : Prop :=
  ∀ (value slice : Expr) (pins : List (Addr × Obj)) (s : Shared) (σ : St) (H : Hp) (x y : V) (v u : Value) (Q : VK), Inv X pins σ H s → RelV x v → RelV y u → r x y H Q →
    subscripted slice false v u = operate [v, u] (getItem v u) → wpAny (model X.prog X.w) X.A (subscriptTail value slice v u) (EP X pins σ Q) X.xe s
noncomputable def MtR (X : Cx) (id : String) (r : V → List V → Hp → VK → Prop) : Prop :=
  ∀ (pins : List (Addr × Obj)) (s : Shared) (σ : St) (H : Hp) (x : V) (xs : List V) (v : Value) (us : List Value) (Q : VK), Inv X pins σ H s → RelV x v → Vals xs us → r x xs H Q →
    wpAny (model X.prog X.w) X.A (call (.builtin id) (v :: us)) (EP X pins σ Q) X.xe s
section
variable {X : Cx} {a b : Expr} {ta tb : TE} {pos : Pos}
theorem IxR.or {r r' : R2} (h : IxR X r) (h' : IxR X r') : IxR X (fun x y H Q => r x y H Q ∨ r' x y H Q) := by
  intro value slice pins s σ H x y v u Q I rx ry q hs
  rcases q with q | q
  · exact h value slice pins s σ H x y v u Q I rx ry q hs
  · exact h' value slice pins s σ H x y v u Q I rx ry q hs
theorem MtR.or {id : String} {r r' : V → List V → Hp → VK → Prop} (h : MtR X id r) (h' : MtR X id r') : MtR X id (fun x xs H Q => r x xs H Q ∨ r' x xs H Q) := by
  intro pins s σ H x xs v us Q I rx rs q
  rcases q with q | q
  · exact h pins s σ H x xs v us Q I rx rs q
  · exact h' pins s σ H x xs v us Q I rx rs q
theorem pe_ix {r : R2} (hr : IxR X r) (ha : PE X a ta) (hb : PE X b tb) (hs : PlainIx b) : PE X (.Subscript a b pos) (tOp r ta tb) := by
  intro pins s σ H Q I h
  exact Subscript_ (binT ha hb I h fun v u s2 x y H2 I2 rx ry q => hr a b pins s2 σ H2 x y v u Q I2 rx ry q (hs _ _))

noncomputable def rIxL (K : PySem.W.Frag) : R2 := fun x y H Q => ∃ p xs i v, x = .ref p ∧ y = .int i ∧ SqL K H p xs ∧ atI xs i = some v ∧ Q v H
noncomputable def rIxT (K : PySem.W.Frag) : R2 := fun x y H Q => ∃ p xs i v, x = .ref p ∧ y = .int i ∧ SqT K H p xs ∧ atI xs i = some v ∧ Q v H
theorem ix_list : IxR X (rIxL X.K) := by
  intro value slice pins s σ H x y v u Q I rx ry h hs
  obtain ⟨p, xs, i, z, rfl, rfl, hq, he, q⟩ := h
  cases rx
  obtain ⟨t, rfl⟩ := ry
  obtain ⟨its, r, pl, hz⟩ := I.list hq
  obtain ⟨j, h1, h2, h3, h4, h5⟩ := atI_get he
  obtain ⟨w, ew, rw'⟩ := r.get h2
  have hl := r.length
  have hn := line63
  have fin : EP X pins σ Q w s := ⟨z, H, I, rw', q⟩
  by_cases h0 : 0 ≤ i
  · have hj : i.toNat = j := by
      rw [seqIndex_of h0 h5] at h1
      exact Option.some.inj h1
    exact item_listR pl.isList h0 (by omega) (by rw [hj]; simpa using ew) fin hs
  · have hj : (i + (its.toArray.size : Int)).toNat = j := by
      rw [seqIndex_neg (by omega) h4] at h1
      rw [List.size_toArray, ← hl]
      exact Option.some.inj h1
    exact subscriptTail_builtinR (x := w) pl.isList.typeIs slot_list_getitem.lookup
      (wpAny_getItem_list_neg (Q := fun r s' => r = w ∧ EP X pins σ Q r s') pl.isList (by omega) (by rw [List.size_toArray] <;> omega) (by omega) (by rw [hj]; simpa using ew) ⟨rfl, fin⟩) hs
theorem ix_tup : IxR X (rIxT X.K) := by
  intro value slice pins s σ H x y v u Q I rx ry h hs
  obtain ⟨p, xs, i, z, rfl, rfl, hq, he, q⟩ := h
  cases rx
  obtain ⟨t, rfl⟩ := ry
  obtain ⟨its, r, pl, hz⟩ := I.tuple hq
  obtain ⟨j, h1, h2, h3, h4, h5⟩ := atI_get he
  obtain ⟨w, ew, rw'⟩ := r.get h2
  have hl := r.length
  have hn := line63
  have fin : EP X pins σ Q w s := ⟨z, H, I, rw', q⟩
  exact subscriptTail_builtinR (x := w) pl.typeIs slot_tuple_getitem.lookup
    (getItem_tuple (j := j) (Q := fun r s' => r = w ∧ EP X pins σ Q r s') pl (by omega) (by omega) (by rw [List.size_toArray, ← hl]; exact h1) (by simpa using ew) ⟨rfl, fin⟩) hs
theorem mapSeq_set (its : List Value) (n j : Nat) (u : Value) : Obj.mapSeq (·.setIfInBounds j u) { cls := .type "list", data := .seq its.toArray n } = { cls := .type "list", data := .seq (its.set j u).toArray n } := by
  simp [Obj.mapSeq]
theorem Inv.lst {pins : List (Addr × Obj)} {σ : St} {H : Hp} {s : Shared} {p : Addr} {xs : List V} (I : Inv X pins σ H s) (h : H p = some (.lst xs)) :
    ∃ (its : List Value) (n : Nat), Vals xs its ∧ s.heap.get? p = some { cls := .type "list", data := .seq its.toArray n } ∧ xs.length ≤ sizeLine := by
  obtain ⟨z, its, n, r, e⟩ := I.hok p _ h
  exact ⟨its, n, r, e, z⟩
theorem Inv.lstUpd {pins : List (Addr × Obj)} {σ : St} {H : Hp} {s : Shared} {p : Addr} {xs ys : List V} {its its' : List Value} {n n' : Nat} {f : Obj → Obj} (I : Inv X pins σ H s) (h : H p = some (.lst xs))
    (ho : s.heap.get? p = some { cls := .type "list", data := .seq its.toArray n }) (hf : f { cls := .type "list", data := .seq its.toArray n } = { cls := .type "list", data := .seq its'.toArray n' }) (r : Vals ys its') (hz : ys.length ≤ sizeLine) (t : Nat) :
    Inv X pins σ (upd H p (.lst ys)) { s with heap := s.heap.update p f, toks := t } := by
  have e : (s.heap.update p f).get? p = some { cls := .type "list", data := .seq its'.toArray n' } := by
    rw [Heap.get?_update_self f ho (by rw [hf] <;> rfl), hf]
  refine I.write (x := p) (e := p) (by rw [h]; trivial) (.inl rfl) (fun b u hb q => (Heap.get?_update_other _ _ (Ne.symm hb)).trans q) ⟨_, e⟩ ?_
  exact ⟨hz, its', n', r, e⟩
noncomputable def rSetL : V → V → V → Hp → (Hp → Prop) → Prop := fun o i v H Q => ∃ p xs k j, o = .ref p ∧ i = .int k ∧ H p = some (.lst xs) ∧ ixN xs.length k = some j ∧ Q (upd H p (.lst (xs.set j v)))
theorem set_list : PSet X rSetL := by
  intro pins s σ H o i v ov iv u Q I ro ri rv h
  obtain ⟨p, xs, k, j, rfl, rfl, hp, hj, q⟩ := h
  cases ro
  obtain ⟨t, rfl⟩ := ri
  obtain ⟨its, n, r, ho, hz⟩ := I.lst hp
  obtain ⟨h1, h2, h3, h4⟩ := ixN_seq hj
  have hl := r.length
  have hn := line63
  have I' : Inv X pins σ (upd H p (.lst (xs.set j v))) { s with heap := s.heap.update p (Obj.mapSeq (·.setIfInBounds j u)) } :=
    I.lstUpd hp ho (mapSeq_set its n j u) (r.set rv j) (by rw [List.length_set]; exact hz) s.toks
  by_cases h0 : 0 ≤ k
  · have hk : k.toNat = j := by
      rw [seqIndex_of h0 h4] at h1
      exact Option.some.inj h1
    exact PySem.W.ki_setAt ho h0 (by omega) (by rw [List.size_toArray, ← hl]; exact h4) (by rw [hk]; exact ⟨_, I', q⟩)
  · have hk : (k + (its.toArray.size : Int)).toNat = j := by
      rw [seqIndex_neg (by omega) h3] at h1
      rw [List.size_toArray, ← hl]
      exact Option.some.inj h1
    exact PySem.W.ki_setBack ho (by omega) (by rw [List.size_toArray, ← hl]; exact h3) (by omega) (by rw [hk]; exact ⟨_, I', q⟩)

theorem slice_bounds (lo hi : Option Int) (n : Nat) : (sliceBounds lo hi none n).1 = ((HT.sIx n 0 lo : Nat) : Int) ∧ (sliceBounds lo hi none n).2.1 = ((HT.sIx n n hi : Nat) : Int) ∧ (sliceBounds lo hi none n).2.2 = 1 := by
  refine ⟨?_, ?_, rfl⟩
  · cases lo with
    | none => simp [sliceBounds, HT.sIx]
    | some i =>
      simp only [sliceBounds, HT.sIx, Option.getD_none, show (1 : Int) > 0 by decide, if_true]
      by_cases h : i < 0
      · simp only [h, if_true] <;> omega
      · simp only [h, if_false] <;> omega
  · cases hi with
    | none => simp [sliceBounds, HT.sIx]
    | some i =>
      simp only [sliceBounds, HT.sIx, Option.getD_none, show (1 : Int) > 0 by decide, if_true]
      by_cases h : i < 0
      · simp only [h, if_true] <;> omega
      · simp only [h, if_false] <;> omega
theorem slicePick_cut (its : List Value) (lo hi : Option Int) : slicePick its.toArray lo hi none = ((its.drop (HT.sIx its.length 0 lo)).take (HT.sIx its.length its.length hi - HT.sIx its.length 0 lo)).toArray := by
  obtain ⟨h1, h2, h3⟩ := slice_bounds lo hi its.toArray.size
  unfold slicePick
  rw [h1, h2, h3]
  simp only [sliceRange_one, pick_run, List.size_toArray] <;> rfl
noncomputable def rSlL (K : PySem.W.Frag) : V → Option Int → Option Int → Hp → VK → Prop := fun x lo hi H Q => ∃ a xs, x = .ref a ∧ SqL K H a xs ∧ ∀ p, H p = none → Q (.ref p) (upd H p (.lst (cutV xs lo hi)))
theorem sl_list : SlR X (rSlL X.K) := by
  intro pins s σ H x v vl vu lo hi sl Q I rx hs pl pu h
  obtain ⟨a, xs, rfl, hx, q⟩ := h
  cases rx
  obtain ⟨its, r, ht, hz⟩ := I.list hx
  have hlen := r.length
  refine ⟨"list", _, slot_list_getitem.lookup, ht.isList.typeIs, ?_⟩
  refine wpAny_getItem_list_slice ht.isList hs pl pu .none (by simp) ?_ (by rw [List.size_toArray] <;> omega)
  rw [slicePick_cut, ← hlen]
  refine ⟨.ref s.heap.objs.size, _, I.laid (t' := s.toks) (o := .lst (cutV xs lo hi)) (fun b ob q => Heap.get?_push_of_some _ q) (Nat.le_refl _) ?_, rfl, q _ (I.hok.fresh (Nat.le_refl _))⟩
  exact ⟨Nat.le_trans (cutV_length xs lo hi) hz, _, 0, (r.drop (HT.sIx xs.length 0 lo)).take (HT.sIx xs.length xs.length hi - HT.sIx xs.length 0 lo), Heap.get?_push_size _ rfl⟩

theorem call_len_seq : CallR X (.builtin "len") (fun xs H Q => ∃ p ys, xs = [.ref p] ∧ (SqL X.K H p ys ∨ SqT X.K H p ys) ∧ Q (.int ys.length) H) := by
  intro pins s σ H xs us Q I r h
  obtain ⟨p, ys, rfl, hq, q⟩ := h
  obtain ⟨u, rfl, rx⟩ := vals1 r
  cases rx
  have hn := line63
  rcases hq with hq | hq
  · obtain ⟨its, r', pl, hz⟩ := I.list hq
    have hlen := r'.length
    exact Calls.call_len_list pl.isList (by simp only [List.size_toArray] <;> omega) ⟨.int ys.length, H, I.tok _, ⟨s.toks + 1, by rw [List.size_toArray, hlen]⟩, q⟩
  · obtain ⟨its, r', pl, hz⟩ := I.tuple hq
    have hlen := r'.length
    exact len_tuple pl (by simp only [List.size_toArray] <;> omega) ⟨.int ys.length, H, I.tok _, ⟨s.toks + 1, by rw [List.size_toArray, hlen]⟩, q⟩
theorem CallR.or {f : Value} {r r' : List V → Hp → VK → Prop} (h : CallR X f r) (h' : CallR X f r') : CallR X f (fun xs H Q => r xs H Q ∨ r' xs H Q) := by
  intro pins s σ H xs us Q I rs q
  rcases q with q | q
  · exact h pins s σ H xs us Q I rs q
  · exact h' pins s σ H xs us Q I rs q
theorem call_list_of : CallR X (.type "list") (fun xs H Q => ∃ p ys, xs = [.ref p] ∧ (SqL X.K H p ys ∨ SqT X.K H p ys) ∧ ∀ l, H l = none → Q (.ref l) (upd H l (.lst ys))) := by
  intro pins s σ H xs us Q I r h
  obtain ⟨p, ys, rfl, hq, q⟩ := h
  obtain ⟨u, rfl, rx⟩ := vals1 r
  cases rx
  have fin : ∀ (its : List Value), Vals ys its → ys.length ≤ sizeLine → ∀ (h' : Heap) (c' : Nat), (∀ b o', s.heap.get? b = some o' → h'.get? b = some o') →
      h'.get? s.heap.objs.size = some { cls := .type "list", dict := none, data := .seq its.toArray c', slots := #[] } → EP X pins σ Q (.ref s.heap.objs.size) { s with heap := h' } := fun its r' hz h' c' kp e =>
    ⟨.ref s.heap.objs.size, _, I.laid (t' := s.toks) kp (Nat.le_refl _) (show ObjOk X.prog X.w _ h' _ (.lst ys) from ⟨hz, its, c', r', e⟩), rfl, q _ (I.hok.fresh (Nat.le_refl _))⟩
  rcases hq with hq | hq
  · obtain ⟨its, r', pl, hz⟩ := I.list hq
    have hlen := r'.length
    obtain ⟨o, ho, hc, n, hd⟩ := pl.isList
    exact call_list_seq p (.inl rfl) ho hc hd (fun h' c' kp e => fin its r' hz h' c' kp e) (by simp only [List.size_toArray] <;> omega)
  · obtain ⟨its, r', pl, hz⟩ := I.tuple hq
    have hlen := r'.length
    obtain ⟨o, ho, hc, n, hd⟩ := pl
    exact call_list_seq p (.inr rfl) ho hc hd (fun h' c' kp e => fin its r' hz h' c' kp e) (by simp only [List.size_toArray] <;> omega)
theorem call_tuple_of : CallR X (.type "tuple") (fun xs H Q => ∃ p ys, xs = [.ref p] ∧ ((SqL X.K H p ys ∧ ∀ l, H l = none → Q (.ref l) (upd H l (.tup ys))) ∨ (SqT X.K H p ys ∧ Q (.ref p) H))) := by
  intro pins s σ H xs us Q I r h
  obtain ⟨p, ys, rfl, h⟩ := h
  obtain ⟨u, rfl, rx⟩ := vals1 r
  cases rx
  rcases h with ⟨hq, q⟩ | ⟨hq, q⟩
  · obtain ⟨its, r', pl, hz⟩ := I.list hq
    have hlen := r'.length
    refine call_tuple_list pl.isList (fun h' kp => ?_) (by simp only [List.size_toArray] <;> omega)
    have I1 : Inv X pins σ H { s with heap := h' } := I.kept (t' := s.toks) kp
    have I2 : Inv X pins σ (upd H h'.objs.size (.tup ys)) { s with heap := h'.push { cls := .type "tuple", data := .seq its.toArray } } :=
      I1.laid (t' := s.toks) (fun b o e => Heap.get?_push_of_some _ e) (Nat.le_refl _) (show ObjOk X.prog X.w _ _ _ (.tup ys) from ⟨hz, its, r', IsTup.new _ _⟩)
    exact ⟨.ref h'.objs.size, _, I2, rfl, q _ (I1.hok.fresh (Nat.le_refl _))⟩
  · obtain ⟨its, r', pl, hz⟩ := I.tuple hq
    exact call_tuple_same pl ⟨.ref p, H, I, rfl, q⟩

noncomputable def tyV (K : PySem.W.Frag) (T : String) (x : V) (H : Hp) : Prop := match x with
  | .str _ => T = "str"
  | .int _ => T = "int"
  | .ref p => (T = "list" ∧ ∃ xs, SqL K H p xs) ∨ (T = "tuple" ∧ ∃ o, K.lookup p = some o ∧ o.cls = .type "tuple" ∧ o.dict = none) ∨
      (T = "dict" ∧ ((∃ kvs, H p = some (.dK kvs)) ∨ ∃ kvs, H p = some (.dT kvs))) ∨ (T = "set" ∧ ∃ S n, H p = some (.set S n))
  | _ => False
theorem tyV_is {pins : List (Addr × Obj)} {σ : St} {H : Hp} {s : Shared} {T : String} {x : V} {v : Value} (I : Inv X pins σ H s) (r : RelV x v) (ty : tyV X.K T x H) :
    s.TypeIs v T ∧ ∀ a, v = .ref a → ∃ ob, s.heap.get? a = some ob ∧ ob.dict = none := by
  cases x with
  | str z =>
    obtain ⟨t, rfl⟩ := r
    cases (show T = "str" from ty)
    exact ⟨typeIs_str s z t, fun _ e => by cases e⟩
  | int i =>
    obtain ⟨t, rfl⟩ := r
    cases (show T = "int" from ty)
    exact ⟨typeIs_int s i t, fun _ e => by cases e⟩
  | ref p =>
    cases r
    rcases ty with ⟨rfl, xs, hq⟩ | ⟨rfl, o, hk, hc, hd⟩ | ⟨rfl, hk⟩ | ⟨rfl, S, n, hk⟩
    · obtain ⟨its, _, pl, _⟩ := I.list hq
      refine ⟨pl.isList.typeIs, fun a e => ?_⟩
      cases e
      obtain ⟨o, n, e, c, hd, _⟩ := pl
      exact ⟨o, e, hd⟩
    · refine ⟨⟨o, I.kIn p o hk, hc⟩, fun a e => ?_⟩
      cases e
      exact ⟨o, I.kIn _ o hk, hd⟩
    · have z : ∃ o, s.heap.get? p = some o ∧ o.ExactDict := by
        rcases hk with ⟨kvs, hk⟩ | ⟨kvs, hk⟩
        · obtain ⟨_, _, _, _, o, _, _, e, ex, _⟩ := I.hok p _ hk
          exact ⟨o, e, ex⟩
        · obtain ⟨_, _, _, _, o, _, _, e, ex, _⟩ := I.hok p _ hk
          exact ⟨o, e, ex⟩
      obtain ⟨o, e, ex⟩ := z
      refine ⟨⟨o, e, ex.1⟩, fun a e2 => ?_⟩
      cases e2
      exact ⟨o, e, ex.2.1⟩
    · obtain ⟨o, _, _, _, e, ex, _⟩ := I.hok p _ hk
      refine ⟨⟨o, e, ex.1⟩, fun a e2 => ?_⟩
      cases e2
      exact ⟨o, e, ex.2.1⟩
  | _ => exact False.elim ty
noncomputable def tBM (K : PySem.W.Frag) (T : String) (r : V → List V → Hp → VK → Prop) (to : TE) (t : TA) : TE := fun σ H Q => to σ H fun x H1 => tyV K T x H1 ∧ t σ H1 fun xs H2 => r x xs H2 Q
variable {o e : Expr} {es : List Expr} {to : TE} {t : TA} {name : Str} {apos cpos : Pos} {T id : String} {r : V → List V → Hp → VK → Prop}
theorem pe_bm (pa : PlainAttrs T) (slot : Slot T name id) (hty : typeOf (.builtin id) = pure (.type "method_descriptor")) (hm : MtR X id r) (ho : PE X o to) (ha : PA X (e :: es) t)
    (hbase : attributeBase o name X.env (eval o X.env) = eval o X.env := by rfl)
    (hfew : ((backTo cpos (starEach (e :: es) X.env)).all (fun x => !x.1) && (backToKw cpos (keywordEach [] X.env)).all (fun x => x.1.isSome)
      && decide ((e :: es).length + ([] : List Keyword).length + (if ([] : List Keyword).isEmpty then 0 else 1) < 30)) = true := by rfl)
    (hline : (apos.endLine == cpos.line) = true := by rfl) (hs : starEach (e :: es) X.env = (false, eval e X.env) :: starEach es X.env := by rfl) (hplain : (backTo cpos (starEach es X.env)).any (·.1) = false := by rfl) :
    PE X (.Call (.Attribute o name apos) (e :: es) [] cpos) (tBM X.K T r to t) := by
  intro pins s σ H Q I h
  refine wpAny_Call_method_late hbase hfew hline rfl (thn (ho pins s σ H _ I h) fun v s1 qZ => ?_)
  obtain ⟨x, H1, I1, r1, ty, q1⟩ := qZ
  obtain ⟨h1, h2⟩ := tyV_is I1 r1 ty
  refine ⟨T, id, pa, slot, hty, h1, h2, ?_⟩
  have hA := ha cpos pins s1 σ H1 _ I1 q1
  rw [hs] at hA ⊢
  refine Calls.callWith_builtin (by show (false || (backTo cpos (starEach es X.env)).any (·.1)) = false; rw [hplain] <;> rfl) (Calls.evalArgs_plain ?_)
  exact thn hA fun us s2 ⟨vs, H2, I2, r2, q2⟩ => hm pins s2 σ H2 x vs v us Q I2 r1 r2 q2
/- xs.append(e), list.index on a module's tuple .. are MtR facts of 06m -/
end
end L2

namespace L2
open PySem PySem.Spec PyProof.Rows

noncomputable def MtM (X : Cx) (id : String) (r : V → List V → Hp → VK → Prop) : Prop :=
  ∀ (pins : List (Addr × Obj)) (s : Shared) (σ : St) (H : Hp) (x : V) (xs : List V) (v : Value) (us : List Value) (Q : VK), Inv X pins σ H s → RelV x v → Vals xs us → r x xs H Q →
    wpAny (model X.prog X.w) X.A (call (.builtin id) (v :: us)) (EP X pins σ Q) X.xe s

theorem Vals.one : ∀ {x : V} {us : List Value}, Vals [x] us → ∃ u, us = [u] ∧ RelV x u
  | _, _, .cons r .nil => ⟨_, rfl, r⟩
theorem Vals.zero : ∀ {us : List Value}, Vals [] us → us = []
  | _, .nil => rfl
theorem Vals.reverse {xs : List V} {us : List Value} (h : Vals xs us) : Vals xs.reverse us.reverse := by
  induction h with
  | nil => exact .nil
  | cons r t ih => rw [List.reverse_cons, List.reverse_cons]; exact Vals.append ih (.cons r .nil)
section
variable {X : Cx} {pins : List (Addr × Obj)} {σ : St} {H : Hp} {s : Shared} {l b : Addr} {xs ys zs : List V}

theorem Inv.lset {its its' : List Value} {n : Nat} {f : Array Value → Array Value} {t' : Nat} (I : Inv X pins σ H s) (hH : H l = some (.lst xs))
    (e : s.heap.get? l = some { cls := .type "list", data := .seq its.toArray n }) (hf : f its.toArray = its'.toArray) (hv : Vals ys its') (hz : ys.length ≤ sizeLine) :
    Inv X pins σ (upd H l (.lst ys)) { s with heap := s.heap.update l (Obj.mapSeq f), toks := t' } := by
  have q := PySem.IsL.update e f
  rw [hf] at q
  refine I.write (x := l) (e := l) (by rw [hH]; exact trivial) (.inl rfl) (fun b' u hb hu => (Heap.get?_update_other s.heap (Obj.mapSeq f) (Ne.symm hb)).trans hu) ⟨_, q⟩ ?_
  exact ⟨hz, its', _, hv, q⟩
theorem Inv.lnew {its : List Value} {t' : Nat} (I : Inv X pins σ H s) (hv : Vals ys its) (hz : ys.length ≤ sizeLine) :
    Inv X pins σ (upd H s.heap.objs.size (.lst ys)) { s with heap := s.heap.push { cls := .type "list", data := .seq its.toArray }, toks := t' } :=
  I.laid (fun _ _ q => Heap.get?_push_of_some _ q) (Nat.le_refl _) ⟨hz, its, 0, hv, Heap.get?_push_size _ rfl⟩
theorem Inv.fresh (I : Inv X pins σ H s) : H s.heap.objs.size = none := I.hok.fresh (Nat.le_refl _)
theorem Inv.lstM (I : Inv X pins σ H s) (hH : H l = some (.lst xs)) : xs.length ≤ sizeLine ∧ ∃ (its : List Value) (n : Nat), Vals xs its ∧ xs.length = its.length ∧ s.heap.get? l = some { cls := .type "list", data := .seq its.toArray n } := by
  obtain ⟨z, its, n, r, e⟩ := I.hok l _ hH
  exact ⟨z, its, n, r, r.length, e⟩

theorem notLongL {n : Nat} (h : n ≤ sizeLine) : Builtin.List.listTooLong n = false := by
  unfold Builtin.List.listTooLong
  exact decide_eq_false (by omega)
end

section
variable {X : Cx}

noncomputable def rAppend : V → List V → Hp → VK → Prop := fun x vs H Q => ∃ l xs y, x = .ref l ∧ vs = [y] ∧ H l = some (.lst xs) ∧ xs.length < sizeLine ∧ Q .non (upd H l (.lst (xs ++ [y])))
theorem mt_append : MtM X "list.append" rAppend := by
  intro pins s σ H x vs v us Q I rx rv h
  obtain ⟨l, xs, y, rfl, rfl, hH, hz, q⟩ := h
  cases rx
  obtain ⟨u, rfl, ru⟩ := rv.one
  obtain ⟨z, its, n, r, hl, e⟩ := I.lstM hH
  refine call_meets F.slot_list_append ⟨_, e, rfl⟩ F.entry_list_append (F.args_list_append_2 _ _) (PySem.list_append l its.toArray n u (by rw [List.size_toArray]; omega)) ⟨e, ?_⟩
  refine ⟨.non, _, I.lset (its' := its ++ [u]) hH e (by simp) (r.append (.cons ru .nil)) ?_, rfl, q⟩
  rw [List.length_append, List.length_singleton]
  omega

noncomputable def rExtend : V → List V → Hp → VK → Prop := fun x vs H Q => ∃ l b xs zs, x = .ref l ∧ vs = [.ref b] ∧ H l = some (.lst xs) ∧ H b = some (.lst zs) ∧ xs.length + zs.length ≤ sizeLine ∧ Q .non (upd H l (.lst (xs ++ zs)))
theorem mt_extend : MtM X "list.extend" rExtend := by
  intro pins s σ H x vs v us Q I rx rv h
  obtain ⟨l, b, xs, zs, rfl, rfl, hH, hB, hz, q⟩ := h
  cases rx
  obtain ⟨u, rfl, ru⟩ := rv.one
  cases ru
  obtain ⟨z, its, n, r, hl, e⟩ := I.lstM hH
  obtain ⟨z2, its2, n2, r2, hl2, e2⟩ := I.lstM hB
  have hsz : its.toArray.size + its2.toArray.size ≤ sizeLine := by rw [List.size_toArray, List.size_toArray]; omega
  have hlong : ¬ (!its.toArray.isEmpty && Builtin.List.listTooLong (its.toArray.size + its2.toArray.size)) = true := by
    rw [notLongL hsz, Bool.and_false]
    exact Bool.false_ne_true
  refine call_meets F.slot_list_extend ⟨_, e, rfl⟩ F.entry_list_extend (F.args_list_extend_2 _ _)
    (AutoSeq1.list_extend_list_list_0 l its.toArray n b its2.toArray n2 hlong (by rw [List.size_toArray]; omega) (by omega)) ⟨e, e2, ?_⟩
  refine ⟨.non, _, I.lset (its' := its ++ its2) hH e (by simp) (r.append r2) ?_, rfl, q⟩
  rw [List.length_append]
  omega

end

section
variable {prog : Program} {w : World} {A : Around} {E : Value → Shared → Prop} {s : Shared}
set_option maxRecDepth 100000 in
end

section
variable {X : Cx}
end
end L2

namespace Att
open PySem PySem.W PySem.Calls PyProof.Rows

theorem ints_of_wellAll {P : Params} {h : Heap} : ∀ (ns : List Int) (vs : List Value), WellAll P h vs (ns.map WData.int) → IntsAre vs ns := by
  intro ns
  induction ns with
  | nil =>
    intro vs w
    rw [List.map_nil] at w
    cases w
    exact .nil
  | cons n ns ih =>
    intro vs w
    rw [List.map_cons] at w
    cases w with
    | cons a b =>
      cases a
      exact .cons _ _ (ih _ b)

theorem script_of {l : OpenLaw} {n : Nat} (hn : l.most = some n) {P : Params} {h : Heap} {args : List WData} {vals : List Value}
    (hpre : l.row.toRowW.claim.pre args = true) (hwl : WellAll P h vals args) :
    ∃ a vs ns, vals = [Value.ref a] ∧ args = [WData.list (ns.map WData.int)] ∧ h.get? a = some { cls := .type "list", data := .seq vs.toArray } ∧ IntsAre vs ns ∧ ns.length ≤ n := by
  have hsh : WShape.hasAll [] args [.list .int] = true := (pre_splitW hpre).1
  have hc : l.pre.holds [] { args := args } = true := (pre_splitW hpre).2
  obtain ⟨d, r, rfl, h1, h2⟩ := hasAllW_cons hsh
  obtain rfl := hasAllW_nil h2
  obtain ⟨xs, rfl, h3⟩ := hasW_list h1
  obtain ⟨ns, rfl⟩ := items_int h3
  have hlen : ns.length ≤ n := by
    unfold OpenLaw.pre at hc
    have h4 : (WTm.not (.lt (.lit (.int (n : Int))) (.len (.arg 0)))).holds [] { args := [.list (ns.map .int)] } = true := by
      have h4 := (holds_andW hc).1
      rw [hn] at h4
      exact h4
    have h5 := condW_of h4 (w_not (w_lt w_lit (w_len_list (w_arg rfl))))
    rw [List.length_map] at h5
    refine Nat.le_of_not_lt fun q => ?_
    have q' : (n : Int) < ((ns.length : Nat) : Int) := by omega
    first
      | (rw [decide_eq_true q'] at h5; exact absurd h5 (by decide))
      | (simp at h5; omega)
  cases hwl with
  | cons w1 w2 =>
    cases w2
    cases w1 with
    | list ho hall => exact ⟨_, _, ns, rfl, rfl, ho, ints_of_wellAll ns _ hall, hlen⟩

theorem post_true (l : OpenLaw) (args : List WData) : l.row.toRowW.claim.post args (.bool true) args = true :=
  postW_of (r := l.row.toRowW) (X := (true == true))
    (show WShape.has [] (.bool true) .bool = true by first | rfl | decide | simp [WShape.has, WShape.arms, WShape.armsAll])
    (show (WTm.eq .res (.lit (.bool true))).value [] { args := args, res := some (.bool true), after := args } = some (.bool (true == true)) from w_eq_bool (w_res rfl) w_lit) rfl

theorem attach_call {l : OpenLaw} {n : Nat} {q : Program} {loose : List Str} {XP : (Str → Option Value) → Heap → Prop} {YP : World → Heap → Prop} {d : DefRec}
    (hn : l.most = some n) (hdf : d.params.defaults = [])
    (call : ∀ (w : World) (s₀ s₁ : Shared) (mg mb : Str → Option Value) (fa : Addr) (o : Obj) (pm cd doc : Value) (a : Addr) (vs : List Value) (ns : List Int),
      Ground q loose [] XP w s₀ mg mb s₁.heap → YP w s₁.heap →
      s₁.heap.get? fa = some o → o.data = .func (docDef d.name d.params d.body d.scope pm cd doc) → s₁.heap.CodeRec cd d.name → mg d.name = some (.ref fa) →
      s₁.heap.get? a = some { cls := .type "list", data := .seq vs.toArray } → IntsAre vs ns → ns.length ≤ n → s₁.gens = #[] →
      codeAny (model l.prog w) callerA (.call (.ref fa) ⟨[.ref a], []⟩) (fun r s' => r = .ok (.ret (.bool true)) ∧ OldK s₁.heap s'.heap ∧ s'.os = s₁.os ∧ AllBare s'.gens) s₁) :
    WalkO q loose XP YP l.row.toRowW d [] (fun f vs => PySem.call f vs) := by
  intro w s₀ s₁ mg mb G Y fa o pm cd doc dV kV ho hd hcd hD hmg hg args vals as hpre hlay hrd hwl hlo
  obtain rfl : dV = .none := Dflts.none hD hdf
  obtain rfl : kV = .none := Dflts.noKw hD
  obtain ⟨a, vs, ns, rfl, rfl, hobj, hints, hlen⟩ := script_of hn hpre hwl
  refine enter_call (codeAny_mono (call w s₀ s₁ mg mb fa o pm cd doc a vs ns G Y ho (fd_plain hd) hcd hmg hobj hints hlen hg) fun r s' hq => ?_)
  obtain ⟨rfl, h2, h3, h4⟩ := hq
  exact ⟨.inl ⟨.bool true, .bool true, [], rfl, fun _ => rfl, .bool true, post_true l _, fun _ => ⟨List.Pairwise.nil, fun _ hm => (by cases hm)⟩⟩, h2, h3, h4⟩

section
variable {prog : Program} {w : World} {A : Around} {E : Value → Shared → Prop} {s : Shared} {K : Frag}

end
end Att

namespace L2
open PySem PySem.Spec PyProof.Rows

theorem vals_ints : ∀ {vs : List Value} {ns : List Int}, IntsAre vs ns → Vals (ns.map V.int) vs
  | _, _, .nil => .nil
  | _, _, .cons n t h => .cons ⟨t, rfl⟩ (vals_ints h)

noncomputable def Only (H : Hp) : Prop := ∀ b, H b = none ∨ ∃ o xs, H b = some (.frz o (.lst xs))

theorem law_call {P : Program} {w : World} {K : PySem.W.Frag} {mg mb : Str → Option Value} {CX : CXT} {k : Nat} {fa a : Addr} {fd : FuncData} {x : Str} {sp : Sp} {s₁ : Shared} {vs : List Value} {ns : List Int}
    (KX : K.In s₁.heap) (hns : s₁.heap.Ns mainGlobals mg) (hb : s₁.heap.Ns builtinsNs mb) (hbb : ∀ x : Str, x ≠ "__name__" → mb x = bootBuiltins x) (hlim : s₁.heap.NoLimit) (hg : s₁.gens = #[])
    (ha : s₁.heap.get? a = some { cls := .type "list", data := .seq vs.toArray }) (hi : IntsAre vs ns) (hl : ns.length ≤ sizeLine) (hr : Room k callerA)
    (F : ∀ base : Heap, K.In base → base.Ns mainGlobals mg → FnOk P w K mg base CX k fa fd [x] sp) (hbind : ∀ (s : Shared) (u : Value), BindsTo s fd ⟨[u], []⟩ [(x, u)])
    (hsp : ∀ H : Hp, Only H → SqL K H a (ns.map V.int) → sp [.ref a] H (fun v _ => v = .bl true) fun _ _ _ => False)
    (hCX : ∀ H e s', CX [] H s₁ (fun _ _ _ => False) e s' → False) :
    codeAny (model P w) callerA (.call (.ref fa) ⟨[.ref a], []⟩) (fun r s' => r = .ok (.ret (.bool true)) ∧ OldK s₁.heap s'.heap ∧ s'.os = s₁.os ∧ AllBare s'.gens) s₁ := by
  have rv := vals_ints hi
  have lenV := hi.length
  -- from an abstract heap in which nothing but the script may be tracked
  have core : ∀ H : Hp, Only H → SqL K H a (ns.map V.int) → HOk P w H s₁.heap → (∀ b, H b ≠ none → b = a) → (H a ≠ none → K.lookup a = none) →
      codeAny (model P w) callerA (.call (.ref fa) ⟨[.ref a], []⟩) (fun r s' => r = .ok (.ret (.bool true)) ∧ OldK s₁.heap s'.heap ∧ s'.os = s₁.os ∧ AllBare s'.gens) s₁ := by
    intro H hO hS hok hA hK
    have base_of : ∀ {b : Addr} {o : Obj}, s₁.heap.get? b = some o → H b = none → (hidT s₁.heap H).get? b = some o := fun e n => hidT_get e n
    have noA : ∀ {b : Addr} {o : Obj} {es : Array DictEntry} {ep : Nat}, s₁.heap.get? b = some o → o.data = .dict es ep → H b = none := fun {b o es ep} e d => by
      cases q : H b with
      | none => rfl
      | some u =>
        have e' : b = a := hA b (by rw [q]; simp)
        subst e'
        rw [ha] at e; cases e
        have d' : Data.seq vs.toArray _ = Data.dict es ep := d
        cases d'
    have nsK : ∀ {b : Addr} {m : Str → Option Value}, s₁.heap.Ns b m → (hidT s₁.heap H).Ns b m := fun {b m} ⟨o, es, ep, e, d, r⟩ => ⟨o, es, ep, base_of e (noA e d), d, r⟩
    have hKb : K.In (hidT s₁.heap H) := fun b o e => base_of (KX b o e) (by
      cases q : H b with
      | none => rfl
      | some u =>
        have e' : b = a := hA b (by rw [q]; simp)
        subst e'
        rw [hK (by rw [q]; simp)] at e; cases e)
    have hM : Mod K mg (hidT s₁.heap H) := ⟨hKb, nsK hns, ⟨mb, nsK hb, hbb⟩, let ⟨mc, h1, h2⟩ := hlim; ⟨mc, nsK h1, h2⟩⟩
    have e0 : Env0 P w K mg (hidT s₁.heap H) callerA [] s₁ H := ⟨rfl, hM, fun b o e => of_hidT e, Nat.le_of_eq (hidT_size _ _), trivial, fun b hb => absurd (show b ∈ ([] : List Addr) from hb) (by simp), hok, .of_eq hg⟩
    refine codeAny_mono ((F _ hKb (nsK hns)).run callerA [] s₁ H ⟨[.ref a], []⟩ [.ref a] [.ref a] _ _ hr e0 (hbind s₁ (.ref a)) (.cons rfl .nil) (hsp H hO hS)) fun r s' h => ?_
    cases r with
    | error e => exact (hCX H e s' h).elim
    | ok fl =>
      cases fl with
      | next => exact False.elim h
      | brk => exact False.elim h
      | cont => exact False.elim h
      | ret u =>
        obtain ⟨v, H', os, bare, un, hok', r', q⟩ := h
        have q' : v = .bl true := q
        subst q'
        obtain rfl : u = Value.bool true := r'
        refine ⟨rfl, OldK.of_keep fun b o e => ?_, os, bare⟩
        cases q : H b with
        | none => exact un.keep b o e q (by intro z; exact absurd (show b ∈ ([] : List Addr) from z) (by simp)) (by simp)
        | some u =>
          rcases hO b with z | ⟨ob, xs, z⟩
          · rw [q] at z; cases z
          · have z2 := un.frzs b ob _ z
            obtain ⟨e1, _⟩ := hok b _ z
            obtain ⟨e2, _⟩ := hok' b _ z2
            rw [e] at e1; cases e1
            exact e2
  cases hk : K.lookup a with
  | some o =>
    -- the script is one of the module's own objects
    have e := KX a o hk
    rw [ha] at e
    cases e
    refine core (fun _ => none) (fun _ => .inl rfl) (.inr ⟨_, vs.toArray, _, hk, rfl, rfl, rfl, by rw [List.size_toArray, lenV]; exact hl, by simpa using rv⟩) (fun b u z => by have z' : (none : Option HO) = some u := z; cases z') (fun b z => absurd rfl z) fun z => absurd rfl z
  | none =>
    refine core (fun b => if b = a then some (.frz { cls := .type "list", data := .seq vs.toArray } (.lst (ns.map V.int))) else none) (fun b => ?_) (.inl (.inr ⟨{ cls := .type "list", data := .seq vs.toArray }, if_pos rfl⟩)) (fun b u z => ?_) (fun b z => ?_) fun _ => hk
    · by_cases hb : b = a
      · exact .inr ⟨_, _, if_pos hb⟩
      · exact .inl (if_neg hb)
    · by_cases hb : b = a
      · have z' := (if_pos hb).symm.trans z
        cases z'
        subst hb
        exact ⟨ha, by rw [List.length_map]; exact hl, vs, _, rv, ha⟩
      · have z' := (if_neg hb).symm.trans z
        cases z'
    · by_cases hb : b = a
      · exact hb
      · exact absurd (if_neg hb) z
end L2

namespace L2
open PySem PySem.Spec PyProof.Rows

theorem walk_of {l : PySem.W.OpenLaw} {n k : Nat} {q : Program} {loose : List Str} {XP : (Str → Option Value) → Heap → Prop} {YP : World → Heap → Prop} {d : DefRec} {K : Params → PySem.W.Frag} {CX : World → CXT} {sp : World → Sp} {x : Str}
    (hn : l.most = some n) (hn2 : n ≤ sizeLine) (hdf : d.params.defaults = []) (hr : Room k callerA)
    (hY : ∀ (w : World) (h : Heap), YP w h → (K w.params).In h)
    (F : ∀ (w : World) (mg : Str → Option Value) (fa : Addr) (h : Heap), (K w.params).In h → h.Ns mainGlobals mg → mg d.name = some (.ref fa) →
      ∃ fd : FuncData, (∀ (s : Shared) (u : Value), BindsTo s fd ⟨[u], []⟩ [(x, u)]) ∧
        ∀ base : Heap, (K w.params).In base → base.Ns mainGlobals mg → FnOk l.prog w (K w.params) mg base (CX w) k fa fd [x] (sp w))
    (hsp : ∀ (w : World) (H : Hp) (a : Addr) (ns : List Int), ns.length ≤ n → Only H → SqL (K w.params) H a (ns.map V.int) → sp w [.ref a] H (fun v _ => v = .bl true) fun _ _ _ => False)
    (hCX : ∀ (w : World) (H : Hp) (s : Shared) (e : Value) (s' : Shared), CX w [] H s (fun _ _ _ => False) e s' → False) :
    PySem.W.WalkO q loose XP YP l.row.toRowW d [] (fun f vs => PySem.call f vs) := by
  refine Att.attach_call hn hdf fun w s₀ s₁ mg mb fa o pm cd doc a vs ns G Y ho hd hcd hmg hobj hints hlen hg => ?_
  have KX := hY w _ Y
  obtain ⟨fd, hb, hF⟩ := F w mg fa _ KX G.T.g hmg
  exact law_call KX G.T.g G.T.b G.T.builtins G.T.nolimit hg hobj hints (Nat.le_trans hlen hn2) hr hF hb (fun H hO hS => hsp w H a ns hlen hO hS) fun H e s' => hCX w H s₁ e s'
end L2



namespace L2
open PySem PySem.Spec PyProof.Rows

noncomputable def defArgs (s : Stmt) : Arguments := match s with
  | .FunctionDef _ a _ _ _ _ _ _ _ _ => a
  | _ => { posonlyargs := [], args := [], vararg := none, kwonlyargs := [], kw_defaults := [], kwarg := none, defaults := [] }
noncomputable def defBody (s : Stmt) : List Stmt := match s with
  | .FunctionDef _ _ b _ _ _ _ _ _ _ => b
  | _ => []
noncomputable def defScope (s : Stmt) : Scope := match s with
  | .FunctionDef _ _ _ _ _ _ sc _ _ _ => sc
  | _ => { kind := .function, names := [], isGenerator := false, isCoroutine := false }

noncomputable abbrev CX0 : CXT := fun _ _ _ _ _ _ => False
noncomputable abbrev E0 : XK := fun _ _ _ => False
theorem pass0 {X : Cx} : Passes CX0 X E0 := fun _ _ _ _ _ _ _ h => h.elim

structure Fun (K : PySem.W.Frag) (x qual : Str) (st : Stmt) (f : Addr) (fd : FuncData) : Prop where
  ex : ∃ (oc : Value) (od : Option Addr) (kV doc pm : Value) (an : Option Addr) (cdv ct : Value) (osl : Array (Option Value)),
    fd = PySem.W.fnOf x qual (defArgs st) (defBody st) (defScope st) .none kV doc pm an cdv ct ∧ K.lookup f = some ⟨oc, od, .func fd, osl⟩ ∧ PySem.W.codeIn K cdv qual = true
  kp : PySem.W.keepIn K (.ref f) = true
section
variable {P : Program} {w : World} {K : PySem.W.Frag} {mg : Str → Option Value} {base : Heap}
theorem Fun.ok {x qual : Str} {st : Stmt} {f : Addr} {fd : FuncData} {N ps : List Str} {k : Nat} {sp : Sp} (F : Fun K x qual st f fd) (S : FnScope N ps (defScope st)) (len : ∀ vs H Q E, sp vs H Q E → vs.length = ps.length)
    (hbody : ∀ (cdv : Value) (A : Around) (outer : List Env) (s : Shared) (H : Hp) (vs : List V) (Q : VK) (E : XK), Room k (A.deeper (envOfC qual (defScope st) s.heap.objs.size f cdv)) → sp vs H Q E →
      ∃ t, PSs (cxOf CX0 P w K mg base N qual (defScope st) f cdv A outer s H E).nox (defBody st) t ∧ t { nx := fun _ H' => Q .non H', rt := Q } (start N vs) H) : FnOk P w K mg base CX0 (k + 1) f fd ps sp := by
  obtain ⟨oc, od, kV, doc, pm, an, cdv, ct, osl, rfl, lk, hcd⟩ := F.ex
  refine fn_of lk hcd S len fun A outer s H vs Q E hr hsp => ?_
  obtain ⟨t, h, q⟩ := hbody cdv A outer s H vs Q E hr hsp
  exact ⟨t, h.nox, q⟩
theorem Fun.binds {x qual : Str} {st : Stmt} {f : Addr} {fd : FuncData} {ps : List Str} (F : Fun K x qual st f fd)
    (h : ∀ (kV doc pm : Value) (an : Option Addr) (cdv ct : Value) (us : List Value), us.length = ps.length → bindArgs (PySem.W.fnOf x qual (defArgs st) (defBody st) (defScope st) .none kV doc pm an cdv ct) ⟨us, []⟩ = pure (ps.zip us)) : Binds K fd ps [] := by
  obtain ⟨oc, od, kV, doc, pm, an, cdv, ct, osl, rfl, lk, hcd⟩ := F.ex
  exact .all (h kV doc pm an cdv ct)
theorem fun_mk {x qual : Str} {st : Stmt} {f : Addr} {oc : Value} {od an : Option Addr} {osl : Array (Option Value)} {kV doc pm cdv ct : Value} (l : K.lookup f = some ⟨oc, od, .func (PySem.W.fnOf x qual (defArgs st) (defBody st) (defScope st) .none kV doc pm an cdv ct), osl⟩)
    (c : PySem.W.codeIn K cdv qual = true) (k : PySem.W.keepIn K (.ref f) = true) : Fun K x qual st f (PySem.W.fnOf x qual (defArgs st) (defBody st) (defScope st) .none kV doc pm an cdv ct) := ⟨⟨oc, od, kV, doc, pm, an, cdv, ct, osl, rfl, l, c⟩, k⟩
end
theorem small1000 {n : Nat} (h : n ≤ 1000) : n < sizeLine := Nat.lt_of_le_of_lt h (by decide)

section
variable {X : Cx}
theorem pv (i : Nat) {x : Str} {pos : Pos} (hN : X.N[i]? = some x := by rfl) (hv : Vis X.env.scope x := by first | exact Or.inl rfl | exact Or.inr (Or.inl rfl) | exact Or.inr (Or.inr rfl)) (hd : (x == ("__debug__" : Str)) = false := by decide)
    (hcd : (x == ("__classdict__" : Str)) = false := by decide) : PE X (.Name x pos) (tVar i) := pe_var hN hv hd hcd
end

noncomputable def Same (H H' : Hp) : Prop := ∀ b o, H b = some o → H' b = some o
theorem Same.refl (H : Hp) : Same H H := fun _ _ h => h
theorem Same.trans {H H1 H2 : Hp} (a : Same H H1) (b : Same H1 H2) : Same H H2 := fun c o h => b c o (a c o h)
theorem Same.free {H H' : Hp} (e : Same H H') {l : Addr} (h : H' l = Option.none) : H l = Option.none := by
  cases q : H l with
  | none => rfl
  | some o =>
    rw [e l o q] at h
    cases h
theorem Same.seq {K : PySem.W.Frag} {H H' : Hp} {a : Addr} {xs : List V} (e : Same H H') (h : SqL K H a xs) : SqL K H' a xs := by
  rcases h with (h | ⟨o, h⟩) | h
  · exact .inl (.inl (e _ _ h))
  · exact .inl (.inr ⟨o, e _ _ h⟩)
  · exact .inr h

end L2

set_option Elab.async false
set_option linter.all false
set_option maxRecDepth 100000
set_option maxHeartbeats 4000000
namespace D3
open PySem PySem.Spec PyProof.Rows L2

inductive D where
  | non | bl (b : Bool) | int (i : Int) | str (x : Str) | tup (ds : List D) | lst (ds : List D)

noncomputable def KL (K : PySem.W.Frag) (a : Addr) (xs : List V) : Prop :=
  ∃ (o : Obj) (its : Array Value) (n : Nat), K.lookup a = some o ∧ o.cls = .type "list" ∧ o.dict = none ∧ o.data = .seq its n ∧ its.size ≤ sizeLine ∧ Vals xs its.toList
noncomputable def LR (K : PySem.W.Frag) (S : Addr → Prop) (H : Hp) (a : Addr) (xs : List V) : Prop := (¬ S a ∧ Rd H a (.lst xs)) ∨ KL K a xs
theorem LR.sq {K : PySem.W.Frag} {S : Addr → Prop} {H : Hp} {a : Addr} {xs : List V} (h : LR K S H a xs) : SqL K H a xs := h.elim (fun x => .inl x.2) .inr

mutual
noncomputable def Rep (K : PySem.W.Frag) (S : Addr → Prop) (H : Hp) : D → V → Prop
  | .non, v => v = .non
  | .bl b, v => v = .bl b
  | .int i, v => v = .int i
  | .str x, v => v = .str x
  | .tup ds, v => ∃ a xs, v = .ref a ∧ SqT K H a xs ∧ Reps K S H ds xs
  | .lst ds, v => ∃ a xs, v = .ref a ∧ LR K S H a xs ∧ Reps K S H ds xs
noncomputable def Reps (K : PySem.W.Frag) (S : Addr → Prop) (H : Hp) : List D → List V → Prop
  | [], xs => xs = []
  | d :: ds, xs => ∃ x r, xs = x :: r ∧ Rep K S H d x ∧ Reps K S H ds r
end

section
variable {K : PySem.W.Frag} {S S' : Addr → Prop} {H H' : Hp}
mutual
theorem Rep.map (hT : ∀ b xs, SqT K H b xs → SqT K H' b xs) (hL : ∀ b xs, LR K S H b xs → LR K S' H' b xs) : ∀ (d : D) (v : V), Rep K S H d v → Rep K S' H' d v
  | .non, v, h => by simpa only [Rep] using h
  | .bl b, v, h => by simpa only [Rep] using h
  | .int i, v, h => by simpa only [Rep] using h
  | .str x, v, h => by simpa only [Rep] using h
  | .tup ds, v, h => by
    simp only [Rep] at h ⊢
    obtain ⟨a, xs, e, q, r⟩ := h
    exact ⟨a, xs, e, hT a xs q, Reps.map hT hL ds xs r⟩
  | .lst ds, v, h => by
    simp only [Rep] at h ⊢
    obtain ⟨a, xs, e, q, r⟩ := h
    exact ⟨a, xs, e, hL a xs q, Reps.map hT hL ds xs r⟩
theorem Reps.map (hT : ∀ b xs, SqT K H b xs → SqT K H' b xs) (hL : ∀ b xs, LR K S H b xs → LR K S' H' b xs) : ∀ (ds : List D) (vs : List V), Reps K S H ds vs → Reps K S' H' ds vs
  | [], vs, h => by simpa only [Reps] using h
  | d :: ds, vs, h => by
    simp only [Reps] at h ⊢
    obtain ⟨x, r, e, q, t⟩ := h
    exact ⟨x, r, e, Rep.map hT hL d x q, Reps.map hT hL ds r t⟩
end
theorem same_tup (h : Same H H') : ∀ b xs, SqT K H b xs → SqT K H' b xs := fun b xs q => by
  rcases q with (q | ⟨o, q⟩) | q
  · exact .inl (.inl (h _ _ q))
  · exact .inl (.inr ⟨o, h _ _ q⟩)
  · exact .inr q
theorem same_lr (h : Same H H') : ∀ b xs, LR K S H b xs → LR K S H' b xs := fun b xs q => by
  rcases q with ⟨n, q | ⟨o, q⟩⟩ | q
  · exact .inl ⟨n, .inl (h _ _ q)⟩
  · exact .inl ⟨n, .inr ⟨o, h _ _ q⟩⟩
  · exact .inr q
theorem Rep.same {d : D} {v : V} (h : Same H H') (r : Rep K S H d v) : Rep K S H' d v := Rep.map (same_tup h) (same_lr h) d v r
theorem Reps.same {d : List D} {v : List V} (h : Same H H') (r : Reps K S H d v) : Reps K S H' d v := Reps.map (same_tup h) (same_lr h) d v r
theorem sub_lr (hs : ∀ a, S' a → S a) : ∀ b xs, LR K S H b xs → LR K S' H b xs := fun b xs q => q.elim (fun x => .inl ⟨fun z => x.1 (hs _ z), x.2⟩) .inr
theorem Rep.sub {d : D} {v : V} (hs : ∀ a, S' a → S a) (r : Rep K S H d v) : Rep K S' H d v := Rep.map (fun _ _ x => x) (sub_lr hs) d v r
theorem Reps.sub {d : List D} {v : List V} (hs : ∀ a, S' a → S a) (r : Reps K S H d v) : Reps K S' H d v := Reps.map (fun _ _ x => x) (sub_lr hs) d v r

theorem Reps.nil : Reps K S H [] [] := by simp only [Reps]
theorem Reps.cons {d : D} {ds : List D} {v : V} {vs : List V} (h : Rep K S H d v) (t : Reps K S H ds vs) : Reps K S H (d :: ds) (v :: vs) := by
  simp only [Reps]; exact ⟨v, vs, rfl, h, t⟩
theorem Reps.len : ∀ {ds : List D} {vs : List V}, Reps K S H ds vs → ds.length = vs.length
  | [], vs, h => by simp only [Reps] at h; subst h; rfl
  | d :: ds, vs, h => by
    simp only [Reps] at h
    obtain ⟨x, r, e, _, t⟩ := h
    subst e
    simp only [List.length_cons, Reps.len t]
theorem Reps.get : ∀ {ds : List D} {vs : List V} {i : Nat} {d : D}, Reps K S H ds vs → ds[i]? = some d → ∃ v, vs[i]? = some v ∧ Rep K S H d v
  | [], vs, i, d, h, e => by simp at e
  | c :: ds, vs, 0, d, h, e => by
    simp only [Reps] at h
    obtain ⟨x, r, rfl, q, t⟩ := h
    simp at e; subst e
    exact ⟨x, rfl, q⟩
  | c :: ds, vs, i + 1, d, h, e => by
    simp only [Reps] at h
    obtain ⟨x, r, rfl, q, t⟩ := h
    exact Reps.get t (i := i) (by simpa using e)
theorem Reps.getV : ∀ {ds : List D} {vs : List V} {i : Nat} {v : V}, Reps K S H ds vs → vs[i]? = some v → ∃ d, ds[i]? = some d ∧ Rep K S H d v := fun {ds vs i v} h e => by
  have hl := h.len
  have hi : i < ds.length := by rw [hl]; exact (List.getElem?_eq_some_iff.mp e).1
  obtain ⟨v', e', r⟩ := h.get (i := i) (d := ds[i]) (by simp [hi])
  rw [e] at e'; cases e'
  exact ⟨ds[i], by simp [hi], r⟩
theorem Reps.app : ∀ {ds es : List D} {vs us : List V}, Reps K S H ds vs → Reps K S H es us → Reps K S H (ds ++ es) (vs ++ us)
  | [], es, vs, us, h, h2 => by simp only [Reps] at h; subst h; exact h2
  | d :: ds, es, vs, us, h, h2 => by
    simp only [Reps] at h
    obtain ⟨x, r, rfl, q, t⟩ := h
    exact Reps.cons q (Reps.app t h2)
theorem Reps.drop : ∀ {ds : List D} {vs : List V} (n : Nat), Reps K S H ds vs → Reps K S H (ds.drop n) (vs.drop n)
  | ds, vs, 0, h => h
  | [], vs, n + 1, h => by simp only [Reps] at h; subst h; exact Reps.nil
  | d :: ds, vs, n + 1, h => by
    simp only [Reps] at h
    obtain ⟨x, r, rfl, q, t⟩ := h
    exact Reps.drop n t
theorem Reps.take : ∀ {ds : List D} {vs : List V} (n : Nat), Reps K S H ds vs → Reps K S H (ds.take n) (vs.take n)
  | ds, vs, 0, h => Reps.nil
  | [], vs, n + 1, h => by simp only [Reps] at h; subst h; exact Reps.nil
  | d :: ds, vs, n + 1, h => by
    simp only [Reps] at h
    obtain ⟨x, r, rfl, q, t⟩ := h
    exact Reps.cons q (Reps.take n t)
theorem Reps.set : ∀ {ds : List D} {vs : List V} {d : D} {v : V} (n : Nat), Reps K S H ds vs → Rep K S H d v → Reps K S H (ds.set n d) (vs.set n v)
  | [], vs, d, v, n, h, q => by simp only [Reps] at h; subst h; exact Reps.nil
  | c :: ds, vs, d, v, 0, h, q => by
    simp only [Reps] at h
    obtain ⟨x, r, rfl, _, t⟩ := h
    exact Reps.cons q t
  | c :: ds, vs, d, v, n + 1, h, q => by
    simp only [Reps] at h
    obtain ⟨x, r, rfl, p, t⟩ := h
    exact Reps.cons p (Reps.set n t q)
theorem Reps.rev {ds : List D} {vs : List V} (h : Reps K S H ds vs) : Reps K S H ds.reverse vs.reverse := by
  induction ds generalizing vs with
  | nil => simp only [Reps] at h; subst h; exact Reps.nil
  | cons d ds ih =>
    simp only [Reps] at h
    obtain ⟨x, r, rfl, q, t⟩ := h
    rw [List.reverse_cons, List.reverse_cons]
    exact Reps.app (ih t) (Reps.cons q Reps.nil)
theorem Reps.ints (ns : List Int) : Reps K S H (ns.map D.int) (ns.map V.int) := by
  induction ns with
  | nil => exact Reps.nil
  | cons n ns ih => exact Reps.cons (by simp only [Rep]) ih
theorem Reps.intsV : ∀ {ns : List Int} {vs : List V}, Reps K S H (ns.map D.int) vs → vs = ns.map V.int
  | [], vs, h => by simpa only [List.map_nil, Reps] using h
  | n :: ns, vs, h => by
    simp only [List.map_cons, Reps, Rep] at h
    obtain ⟨x, r, rfl, rfl, t⟩ := h
    rw [Reps.intsV t, List.map_cons]

theorem rep_int {i : Int} {v : V} (h : Rep K S H (.int i) v) : v = .int i := by simpa only [Rep] using h
theorem rep_bl {i : Bool} {v : V} (h : Rep K S H (.bl i) v) : v = .bl i := by simpa only [Rep] using h
theorem rep_str {i : Str} {v : V} (h : Rep K S H (.str i) v) : v = .str i := by simpa only [Rep] using h
theorem rep_non {v : V} (h : Rep K S H .non v) : v = .non := by simpa only [Rep] using h
theorem Rep.int {i : Int} : Rep K S H (.int i) (.int i) := by simp only [Rep]
theorem Rep.bl {i : Bool} : Rep K S H (.bl i) (.bl i) := by simp only [Rep]
theorem Rep.str {i : Str} : Rep K S H (.str i) (.str i) := by simp only [Rep]
theorem Rep.non : Rep K S H .non .non := by simp only [Rep]
theorem rep_tup {ds : List D} {v : V} (h : Rep K S H (.tup ds) v) : ∃ a xs, v = .ref a ∧ SqT K H a xs ∧ Reps K S H ds xs := by simpa only [Rep] using h
theorem rep_lst {ds : List D} {v : V} (h : Rep K S H (.lst ds) v) : ∃ a xs, v = .ref a ∧ LR K S H a xs ∧ Reps K S H ds xs := by simpa only [Rep] using h
theorem Rep.tup {ds : List D} {a : Addr} {xs : List V} (h : SqT K H a xs) (r : Reps K S H ds xs) : Rep K S H (.tup ds) (.ref a) := by simp only [Rep]; exact ⟨a, xs, rfl, h, r⟩
theorem Rep.lst {ds : List D} {a : Addr} {xs : List V} (h : LR K S H a xs) (r : Reps K S H ds xs) : Rep K S H (.lst ds) (.ref a) := by simp only [Rep]; exact ⟨a, xs, rfl, h, r⟩
theorem same_new {p : Addr} {o : HO} (h : H p = none) : Same H (upd H p o) := fun b u e => by rw [upd_ne (ne_of_none e h)]; exact e
noncomputable def SOk (S : Addr → Prop) (H : Hp) : Prop := ∀ a, S a → ∃ o, H a = some o
theorem SOk.same (h : SOk S H) (e : Same H H') : SOk S H' := fun a q => let ⟨o, x⟩ := h a q; ⟨o, e _ _ x⟩
theorem SOk.free {p : Addr} (h : SOk S H) (e : H p = none) : ¬ S p := fun q => by obtain ⟨o, x⟩ := h p q; rw [e] at x; cases x
theorem Rep.newTup {p : Addr} {ds : List D} {xs : List V} (h : H p = none) (r : Reps K S H ds xs) : Rep K S (upd H p (.tup xs)) (.tup ds) (.ref p) := Rep.tup (SqT.of upd_same) (r.same (same_new h))
theorem Rep.newLst {p : Addr} {ds : List D} {xs : List V} (s : SOk S H) (h : H p = none) (r : Reps K S H ds xs) : Rep K S (upd H p (.lst xs)) (.lst ds) (.ref p) := Rep.lst (.inl ⟨s.free h, .of upd_same⟩) (r.same (same_new h))
end

inductive Sl where
  | un | val (d : D) | own (ds : List D)
noncomputable abbrev Fr3 := List Sl
structure Bs where
  S0 : Addr → Prop
  H0 : Hp
  gh : List (D × V)
structure ER (K : PySem.W.Frag) (B : Bs) (S : Addr → Prop) (H : Hp) (σ : L2.St) (ρ : Fr3) : Prop where
  len : σ.length = ρ.length
  same : Same B.H0 H
  sub : ∀ a, B.S0 a → S a
  ok0 : SOk B.S0 B.H0
  ok : SOk S H
  val : ∀ (i : Nat) d, ρ[i]? = some (.val d) → ∃ v, σ[i]? = some (some v) ∧ Rep K S H d v
  own : ∀ (i : Nat) ds, ρ[i]? = some (.own ds) → ∃ a xs, σ[i]? = some (some (.ref a)) ∧ S a ∧ B.H0 a = none ∧ H a = some (.lst xs) ∧ Reps K S H ds xs
  uq : ∀ (i j : Nat) a ds es, ρ[i]? = some (.own ds) → ρ[j]? = some (.own es) → σ[i]? = some (some (.ref a)) → σ[j]? = some (some (.ref a)) → i = j
  gh : ∀ p ∈ B.gh, Rep K S H p.1 p.2
theorem ER.go {K : PySem.W.Frag} {B : Bs} {S : Addr → Prop} {H H' : Hp} {σ : L2.St} {ρ : Fr3} (e : ER K B S H σ ρ) (h : Same H H') : ER K B S H' σ ρ where
  len := e.len
  same := e.same.trans h
  sub := e.sub
  ok0 := e.ok0
  ok := e.ok.same h
  val := fun i d q => let ⟨v, a, r⟩ := e.val i d q; ⟨v, a, r.same h⟩
  own := fun i ds q => let ⟨a, xs, x, y, z, u, r⟩ := e.own i ds q; ⟨a, xs, x, y, z, h _ _ u, r.same h⟩
  uq := e.uq
  gh := fun p hp => (e.gh p hp).same h

noncomputable abbrev E3 := Fr3 → (D → Prop) → Prop
noncomputable abbrev B3 := Fr3 → (Bool → Prop) → Prop
noncomputable abbrev A3 := Fr3 → (List D → Prop) → Prop
inductive F3 where
  | nx (ρ : Fr3) | rt (d : D) | bk (ρ : Fr3) | ct (ρ : Fr3)
noncomputable abbrev S3 := (F3 → Prop) → Fr3 → Prop
noncomputable def Hand (K : PySem.W.Frag) (S : Addr → Prop) (H : Hp) (Φ : D → Prop) (Q : VK) : Prop := ∀ d v H', Φ d → Same H H' → Rep K S H' d v → Q v H'
noncomputable def PD (X : Cx) (e : Expr) (t : E3) : Prop := ∃ t2, PE X e t2 ∧ ∀ B S H σ ρ Φ Q, ER X.K B S H σ ρ → t ρ Φ → Hand X.K S H Φ Q → t2 σ H Q
noncomputable def PB (X : Cx) (e : Expr) (t : B3) : Prop := ∃ t2, PT X e t2 ∧ ∀ B S H σ ρ Φ (Q : Bool → Hp → Prop), ER X.K B S H σ ρ → t ρ Φ → (∀ b H', Φ b → Same H H' → Q b H') → t2 σ H Q
noncomputable def PWB (X : Cx) (e : Expr) (t : B3) : Prop := ∃ t2, PW X e t2 ∧ ∀ B S H σ ρ Φ (Q : Bool → Hp → Prop), ER X.K B S H σ ρ → t ρ Φ → (∀ b H', Φ b → Same H H' → Q b H') → t2 σ H Q
noncomputable def PAD (X : Cx) (es : List Expr) (t : A3) : Prop := ∃ t2, PA X es t2 ∧ ∀ B S H σ ρ Φ (Q : List V → Hp → Prop), ER X.K B S H σ ρ → t ρ Φ → (∀ ds vs H', Φ ds → Same H H' → Reps X.K S H' ds vs → Q vs H') → t2 σ H Q
structure EndOk (K : PySem.W.Frag) (B : Bs) (Φ : F3 → Prop) (D' : Ends) : Prop where
  nx : ∀ ρ S H σ, Φ (.nx ρ) → ER K B S H σ ρ → D'.nx σ H
  bk : ∀ ρ S H σ, Φ (.bk ρ) → ER K B S H σ ρ → D'.bk σ H
  ct : ∀ ρ S H σ, Φ (.ct ρ) → ER K B S H σ ρ → D'.ct σ H
  rt : ∀ d v H, Φ (.rt d) → Same B.H0 H → Rep K B.S0 H d v → D'.rt v H
noncomputable def PSD (X : Cx) (st : Stmt) (t : S3) : Prop := ∃ t2, PS X st t2 ∧ ∀ B S H σ ρ Φ D', ER X.K B S H σ ρ → t Φ ρ → EndOk X.K B Φ D' → t2 D' σ H
noncomputable def PSDs (X : Cx) (st : List Stmt) (t : S3) : Prop := ∃ t2, PSs X st t2 ∧ ∀ B S H σ ρ Φ D', ER X.K B S H σ ρ → t Φ ρ → EndOk X.K B Φ D' → t2 D' σ H
end D3

set_option Elab.async false
set_option linter.all false
set_option maxRecDepth 100000
set_option maxHeartbeats 4000000
namespace D3
open PySem PySem.Spec PyProof.Rows L2
section
variable {X : Cx} {a b c e : Expr} {ta tb tc te : E3} {pos : Pos}
theorem Hand.go {K : PySem.W.Frag} {S : Addr → Prop} {H H1 : Hp} {Φ : D → Prop} {Q : VK} (h : Hand K S H Φ Q) (s : Same H H1) : Hand K S H1 Φ Q := fun d v H' p q r => h d v H' p (s.trans q) r

noncomputable abbrev dVar (i : Nat) : E3 := fun ρ Φ => match ρ[i]? with | some (.val d) => Φ d | _ => False
theorem pd_var {i : Nat} (h : PE X e (tVar i)) : PD X e (dVar i) := ⟨_, h, fun B S H σ ρ Φ Q er h hd => by
  unfold dVar at h
  split at h
  · rename_i d q
    obtain ⟨v, a, r⟩ := er.val i d q
    exact ⟨v, a, hd d v H h (Same.refl _) r⟩
  · exact h.elim⟩
noncomputable abbrev dC (d : D) : E3 := fun _ Φ => Φ d
theorem pd_int {i j pos} : PD X (.Constant (.int i) j pos) (dC (.int i)) := ⟨_, pe_int, fun _ _ H _ _ _ _ _ h hd => hd _ _ H h (Same.refl _) Rep.int⟩
theorem pd_bl {i j pos} : PD X (.Constant (.bool i) j pos) (dC (.bl i)) := ⟨_, pe_bl, fun _ _ H _ _ _ _ _ h hd => hd _ _ H h (Same.refl _) Rep.bl⟩
noncomputable abbrev R3 := D → D → (D → Prop) → Prop
noncomputable def OpD (X : Cx) (f : Value → Value → Sem Value) (r3 : R3) : Prop :=
  ∃ r, OpR X f r ∧ ∀ S H x y u v Φ Q, SOk S H → Rep X.K S H x u → Rep X.K S H y v → r3 x y Φ → Hand X.K S H Φ Q → r u v H Q
noncomputable abbrev dOp (r : R3) (ta tb : E3) : E3 := fun ρ Φ => ta ρ fun x => tb ρ fun y => r x y Φ
theorem two {r : R3} {r2 : R2} {ta2 tb2 : TE} (wa : ∀ B S H σ ρ Φ Q, ER X.K B S H σ ρ → ta ρ Φ → Hand X.K S H Φ Q → ta2 σ H Q) (wb : ∀ B S H σ ρ Φ Q, ER X.K B S H σ ρ → tb ρ Φ → Hand X.K S H Φ Q → tb2 σ H Q)
    (wr : ∀ S H x y u v Φ Q, SOk S H → Rep X.K S H x u → Rep X.K S H y v → r x y Φ → Hand X.K S H Φ Q → r2 u v H Q) :
    ∀ B S H σ ρ Φ Q, ER X.K B S H σ ρ → dOp r ta tb ρ Φ → Hand X.K S H Φ Q → tOp r2 ta2 tb2 σ H Q := fun B S H σ ρ Φ Q er h hd =>
  wa B S H σ ρ _ _ er h fun x u H1 hx s1 rx => wb B S H1 σ ρ _ _ (er.go s1) hx fun y v H2 hy s2 ry =>
    wr S H2 x y u v Φ Q ((er.ok.same s1).same s2) (rx.same s2) ry hy (hd.go (s1.trans s2))
theorem pd_op {op : Operator} {r : R3} (ho : OpD X (binaryOp op) r) (ha : PD X a ta) (hb : PD X b tb) : PD X (.BinOp a op b pos) (dOp r ta tb) := by
  obtain ⟨r2, ho, wr⟩ := ho; obtain ⟨ta2, ha, wa⟩ := ha; obtain ⟨tb2, hb, wb⟩ := hb
  exact ⟨_, pe_op ho ha hb, two wa wb wr⟩
theorem pd_cmp {op : CmpOp} {r : R3} (ho : OpD X (compareOp op) r) (ha : PD X a ta) (hb : PD X b tb) (hm : behindInMarks op b = false) : PD X (.Compare a [op] [b] pos) (dOp r ta tb) := by
  obtain ⟨r2, ho, wr⟩ := ho; obtain ⟨ta2, ha, wa⟩ := ha; obtain ⟨tb2, hb, wb⟩ := hb
  exact ⟨_, pe_cmpR ho ha hb hm, two wa wb wr⟩
noncomputable abbrev dT (t : E3) : B3 := fun ρ Φ => t ρ fun d => match d with | .bl k => Φ k | _ => False
theorem toTest {t2 : TE} {t : E3} (w : ∀ B S H σ ρ Φ Q, ER X.K B S H σ ρ → t ρ Φ → Hand X.K S H Φ Q → t2 σ H Q) :
    ∀ B S H σ ρ Φ (Q : Bool → Hp → Prop), ER X.K B S H σ ρ → dT t ρ Φ → (∀ b H', Φ b → Same H H' → Q b H') → tTest t2 σ H Q := fun B S H σ ρ Φ Q er h hd =>
  w B S H σ ρ _ _ er h fun d v H' p s r => by
    cases d with
    | bl k => exact ⟨k, rep_bl r, hd k H' p s⟩
    | non => exact p.elim
    | int _ => exact p.elim
    | str _ => exact p.elim
    | tup _ => exact p.elim
    | lst _ => exact p.elim
theorem pb_cmp {op : CmpOp} {r : R3} (ho : OpD X (compareOp op) r) (ha : PD X a ta) (hb : PD X b tb) (hm : behindInMarks op b = false) : PB X (.Compare a [op] [b] pos) (dT (dOp r ta tb)) := by
  obtain ⟨r2, ho, wr⟩ := ho; obtain ⟨ta2, ha, wa⟩ := ha; obtain ⟨tb2, hb, wb⟩ := hb
  exact ⟨_, pt_cmpR ho ha hb hm, toTest (two wa wb wr)⟩
theorem pb_val (h : PD X e te) (he : ∀ whole, isTrue e X.env whole = (do let v ← whole; standAt e.pos; holding [v] (truthy v)) := by intro _; rfl) : PB X e (dT te) := by
  obtain ⟨t2, h, w⟩ := h
  exact ⟨_, pt_val h he, toTest w⟩

noncomputable abbrev dI (C : Int → Int → Prop) (g : Int → Int → D) : R3
  | .int i, .int j, Φ => C i j ∧ Φ (g i j)
  | _, _, _ => False
noncomputable abbrev dI0 (g : Int → Int → D) : R3
  | .int i, .int j, Φ => Φ (g i j)
  | _, _, _ => False
theorem opd {f : Value → Value → Sem Value} {C : Int → Int → Prop} {g : Int → Int → V} {g3 : Int → Int → D} (h : OpR X f (rI C g)) (hg : ∀ K S H i j, Rep K S H (g3 i j) (g i j)) : OpD X f (dI C g3) :=
  ⟨_, h, fun S H x y u v Φ Q so rx ry hr hd => by
    cases x <;> cases y <;> first | exact hr.elim | skip
    rename_i i j
    exact ⟨i, j, rep_int rx, rep_int ry, hr.1, hd _ _ H hr.2 (Same.refl _) (hg ..)⟩⟩
theorem opd0 {f : Value → Value → Sem Value} {g : Int → Int → V} {g3 : Int → Int → D} (h : OpR X f (rI0 g)) (hg : ∀ K S H i j, Rep K S H (g3 i j) (g i j)) : OpD X f (dI0 g3) :=
  ⟨_, h, fun S H x y u v Φ Q so rx ry hr hd => by
    cases x <;> cases y <;> first | exact hr.elim | skip
    rename_i i j
    exact ⟨i, j, rep_int rx, rep_int ry, hd _ _ H hr (Same.refl _) (hg ..)⟩⟩
noncomputable def CD (_ j : Int) : Prop := j ≠ 0 ∧ j.natAbs.log2 < 9000
theorem op_mulA : OpR X (binaryOp .Mult) (rI IntMulOk fun i j => .int (i * j)) := opI fun _ _ _ _ _ _ _ hc q => mul_int q hc
theorem op_fdivA : OpR X (binaryOp .FloorDiv) (rI CD fun i j => .int (i.fdiv j)) := opI fun _ _ _ _ _ _ _ hc q => floordiv_int hc.1 q (.inl (PyProof.noPylong_of_log2 hc.2))
theorem o_add : OpD X (binaryOp .Add) (dI0 fun i j => .int (i + j)) := opd0 op_add fun _ _ _ _ _ => Rep.int
theorem o_sub : OpD X (binaryOp .Sub) (dI0 fun i j => .int (i - j)) := opd0 op_sub fun _ _ _ _ _ => Rep.int
theorem o_mul : OpD X (binaryOp .Mult) (dI IntMulOk fun i j => .int (i * j)) := opd op_mulA fun _ _ _ _ _ => Rep.int
theorem o_fdiv : OpD X (binaryOp .FloorDiv) (dI CD fun i j => .int (i.fdiv j)) := opd op_fdivA fun _ _ _ _ _ => Rep.int
theorem o_mod : OpD X (binaryOp .Mod) (dI (fun _ j => j ≠ 0) fun i j => .int (i.fmod j)) := opd op_modN fun _ _ _ _ _ => Rep.int
theorem o_and : OpD X (binaryOp .BitAnd) (dI0 fun i j => .int (Builtin.bitAnd i j)) := opd0 op_and fun _ _ _ _ _ => Rep.int
theorem o_lt : OpD X (compareOp .Lt) (dI0 fun i j => .bl (decide (i < j))) := opd0 op_lt fun _ _ _ _ _ => Rep.bl
theorem o_gt : OpD X (compareOp .Gt) (dI0 fun i j => .bl (decide (j < i))) := opd0 op_gt fun _ _ _ _ _ => Rep.bl
noncomputable abbrev dEq : R3
  | .int i, .int j, Φ => Φ (.bl (decide (i = j)))
  | .bl i, .bl j, Φ => Φ (.bl (decide (i = j)))
  | .str i, .str j, Φ => Φ (.bl (decide (i = j)))
  | .non, .non, Φ => Φ (.bl true)
  | .non, .int _, Φ => Φ (.bl false)
  | .int _, .non, Φ => Φ (.bl false)
  | _, _, _ => False
noncomputable abbrev dNe : R3
  | .int i, .int j, Φ => Φ (.bl (!decide (i = j)))
  | .bl i, .bl j, Φ => Φ (.bl (!decide (i = j)))
  | .str i, .str j, Φ => Φ (.bl (!decide (i = j)))
  | .non, .non, Φ => Φ (.bl false)
  | .non, .int _, Φ => Φ (.bl true)
  | .int _, .non, Φ => Φ (.bl true)
  | _, _, _ => False
theorem dec_inj {α : Type} [DecidableEq α] {f : α → V} (hf : ∀ a b, f a = f b → a = b) (i j : α) : decide (f i = f j) = decide (i = j) := by
  by_cases h : i = j
  · subst h; simp
  · rw [decide_eq_false h, decide_eq_false fun q => h (hf _ _ q)]
theorem o_eq : OpD X (compareOp .Eq) dEq := ⟨_, op_eq, fun S H x y u v Φ Q so rx ry hr hd => by
  cases x <;> cases y <;> first | exact hr.elim | skip
  · cases rep_non rx; cases rep_non ry; exact ⟨rfl, hd _ _ H hr (Same.refl _) Rep.bl⟩
  · cases rep_non rx; cases rep_int ry; exact ⟨rfl, hd _ _ H hr (Same.refl _) Rep.bl⟩
  · rename_i i j
    cases rep_bl rx; cases rep_bl ry; refine ⟨rfl, hd _ _ H hr (Same.refl _) ?_⟩
    rw [dec_inj (fun a b q => V.bl.inj q)]; exact Rep.bl
  · cases rep_int rx; cases rep_non ry; exact ⟨rfl, hd _ _ H hr (Same.refl _) Rep.bl⟩
  · rename_i i j
    cases rep_int rx; cases rep_int ry; refine ⟨rfl, hd _ _ H hr (Same.refl _) ?_⟩
    rw [dec_inj (fun a b q => V.int.inj q)]; exact Rep.bl
  · rename_i i j
    cases rep_str rx; cases rep_str ry; refine ⟨rfl, hd _ _ H hr (Same.refl _) ?_⟩
    rw [dec_inj (fun a b q => V.str.inj q)]; exact Rep.bl⟩
theorem o_ne : OpD X (compareOp .NotEq) dNe := ⟨_, op_ne, fun S H x y u v Φ Q so rx ry hr hd => by
  cases x <;> cases y <;> first | exact hr.elim | skip
  · cases rep_non rx; cases rep_non ry; exact ⟨rfl, hd _ _ H hr (Same.refl _) Rep.bl⟩
  · cases rep_non rx; cases rep_int ry; exact ⟨rfl, hd _ _ H hr (Same.refl _) Rep.bl⟩
  · rename_i i j
    cases rep_bl rx; cases rep_bl ry; refine ⟨rfl, hd _ _ H hr (Same.refl _) ?_⟩
    rw [dec_inj (fun a b q => V.bl.inj q)]; exact Rep.bl
  · cases rep_int rx; cases rep_non ry; exact ⟨rfl, hd _ _ H hr (Same.refl _) Rep.bl⟩
  · rename_i i j
    cases rep_int rx; cases rep_int ry; refine ⟨rfl, hd _ _ H hr (Same.refl _) ?_⟩
    rw [dec_inj (fun a b q => V.int.inj q)]; exact Rep.bl
  · rename_i i j
    cases rep_str rx; cases rep_str ry; refine ⟨rfl, hd _ _ H hr (Same.refl _) ?_⟩
    rw [dec_inj (fun a b q => V.str.inj q)]; exact Rep.bl⟩
noncomputable abbrev dU (r : D → (D → Prop) → Prop) (ta : E3) : E3 := fun ρ Φ => ta ρ fun x => r x Φ
noncomputable abbrev dNeg : D → (D → Prop) → Prop
  | .int i, Φ => Φ (.int (-i))
  | _, _ => False
theorem pd_neg (ha : PD X a ta) : PD X (.UnaryOp .USub a pos) (dU dNeg ta) := by
  obtain ⟨ta2, ha, wa⟩ := ha
  refine ⟨_, pe_un un_neg ha, fun B S H σ ρ Φ Q er h hd => wa B S H σ ρ _ _ er h fun x u H1 hx s1 rx => ?_⟩
  cases x <;> first | exact hx.elim | skip
  exact ⟨_, rep_int rx, hd _ _ H1 hx s1 Rep.int⟩
variable {tA tB' : B3} {rest : List Expr}
noncomputable abbrev bAnd (t u : B3) : B3 := fun ρ Φ => t ρ fun k => if k = true then u ρ Φ else Φ false
noncomputable abbrev bOr (t u : B3) : B3 := fun ρ Φ => t ρ fun k => if k = true then Φ true else u ρ Φ
noncomputable abbrev bNot (t : B3) : B3 := fun ρ Φ => t ρ fun k => Φ (!k)
theorem PWB.pb {e : Expr} {t : B3} (h : PWB X e t) : PB X e t := let ⟨t2, h, w⟩ := h; ⟨t2, h.pt, w⟩
theorem pb_and1 (ha : PB X a tA) : PWB X (.BoolOp .And [a] pos) tA := let ⟨t2, h, w⟩ := ha; ⟨t2, pw_and1 h, w⟩
theorem pb_or1 (ha : PB X a tA) : PWB X (.BoolOp .Or [a] pos) tA := let ⟨t2, h, w⟩ := ha; ⟨t2, pw_or1 h, w⟩
theorem pb_and (ha : PB X a tA) (hb : PWB X (.BoolOp .And (b :: rest) pos) tB') : PWB X (.BoolOp .And (a :: b :: rest) pos) (bAnd tA tB') := by
  obtain ⟨t2, h, w⟩ := ha; obtain ⟨u2, g, z⟩ := hb
  refine ⟨_, pw_and h g, fun B S H σ ρ Φ Q er q hd => w B S H σ ρ _ _ er q fun k H1 hk s1 => ?_⟩
  cases k with
  | true =>
    have hk : tB' ρ Φ := by simpa using hk
    simp only [if_true]
    exact z B S H1 σ ρ _ _ (er.go s1) hk fun k2 H2 h2 s2 => hd k2 H2 h2 (s1.trans s2)
  | false =>
    have hk : Φ false := by simpa using hk
    simp only [Bool.false_eq_true, if_false]
    exact hd false H1 hk s1
theorem pb_or (ha : PB X a tA) (hb : PWB X (.BoolOp .Or (b :: rest) pos) tB') : PWB X (.BoolOp .Or (a :: b :: rest) pos) (bOr tA tB') := by
  obtain ⟨t2, h, w⟩ := ha; obtain ⟨u2, g, z⟩ := hb
  refine ⟨_, pw_or h g, fun B S H σ ρ Φ Q er q hd => w B S H σ ρ _ _ er q fun k H1 hk s1 => ?_⟩
  cases k with
  | true =>
    have hk : Φ true := by simpa using hk
    simp only [if_true]
    exact hd true H1 hk s1
  | false =>
    have hk : tB' ρ Φ := by simpa using hk
    simp only [Bool.false_eq_true, if_false]
    exact z B S H1 σ ρ _ _ (er.go s1) hk fun k2 H2 h2 s2 => hd k2 H2 h2 (s1.trans s2)
theorem pb_not (ha : PB X a tA) : PB X (.UnaryOp .Not a pos) (bNot tA) := by
  obtain ⟨t2, h, w⟩ := ha
  exact ⟨_, pt_not h, fun B S H σ ρ Φ Q er q hd => w B S H σ ρ _ _ er q fun k H1 hk s1 => hd _ H1 hk s1⟩
noncomputable abbrev dAnd (ta tb : E3) : E3 := fun ρ Φ => dT ta ρ fun k => if k = true then tb ρ Φ else Φ (.bl false)
noncomputable abbrev dNot (ta : E3) : E3 := fun ρ Φ => dT ta ρ fun k => Φ (.bl (!k))
theorem pd_one {op} {t : E3} (h : PD X a t) : PD X (.BoolOp op [a] pos) t := let ⟨t2, h, w⟩ := h; ⟨t2, pe_one h, w⟩
theorem pd_and (ha : PD X a ta) (hb : PD X (.BoolOp .And (b :: rest) pos) tb) : PD X (.BoolOp .And (a :: b :: rest) pos) (dAnd ta tb) := by
  obtain ⟨t2, h, w⟩ := ha; obtain ⟨u2, g, z⟩ := hb
  refine ⟨_, pe_and h g, fun B S H σ ρ Φ Q er q hd => w B S H σ ρ _ _ er q fun d v H1 hk s1 r => ?_⟩
  cases d <;> first | exact hk.elim | skip
  rename_i k
  refine ⟨k, rep_bl r, ?_⟩
  cases k with
  | true =>
    have hk : tb ρ Φ := by simpa using hk
    simp only [if_true]
    exact z B S H1 σ ρ _ _ (er.go s1) hk (hd.go s1)
  | false =>
    have hk : Φ (.bl false) := by simpa using hk
    simp only [Bool.false_eq_true, if_false]
    exact hd _ _ H1 hk s1 Rep.bl
theorem pd_not (ha : PD X a ta) : PD X (.UnaryOp .Not a pos) (dNot ta) := by
  obtain ⟨t2, h, w⟩ := ha
  refine ⟨_, pe_not h, fun B S H σ ρ Φ Q er q hd => w B S H σ ρ _ _ er q fun d v H1 hk s1 r => ?_⟩
  cases d <;> first | exact hk.elim | skip
  exact ⟨_, rep_bl r, hd _ _ H1 hk s1 Rep.bl⟩
variable {es : List Expr} {tr : A3}
noncomputable abbrev aNil : A3 := fun _ Φ => Φ []
noncomputable abbrev aCons (ta : E3) (tr : A3) : A3 := fun ρ Φ => ta ρ fun x => tr ρ fun xs => Φ (x :: xs)
theorem pad_nil : PAD X [] aNil := ⟨_, pa_nil, fun B S H σ ρ Φ Q er h hd => hd [] [] H h (Same.refl _) Reps.nil⟩
theorem pad_cons (ha : PD X e te) (hr : PAD X es tr) (hs : starEach (e :: es) X.env = (false, eval e X.env) :: starEach es X.env := by rfl) : PAD X (e :: es) (aCons te tr) := by
  obtain ⟨t2, h, w⟩ := ha; obtain ⟨u2, g, z⟩ := hr
  exact ⟨_, pa_cons h g hs, fun B S H σ ρ Φ Q er q hd => w B S H σ ρ _ _ er q fun d v H1 hk s1 r => z B S H1 σ ρ _ _ (er.go s1) hk fun ds vs H2 h2 s2 r2 => hd _ _ H2 h2 (s1.trans s2) (Reps.cons (r.same s2) r2)⟩
noncomputable abbrev dTup (t : A3) : E3 := fun ρ Φ => t ρ fun ds => ds.length ≤ sizeLine ∧ Φ (.tup ds)
theorem pd_tup {x1} (h : PAD X es tr) : PD X (.Tuple es x1 pos) (dTup tr) := by
  obtain ⟨t2, h, w⟩ := h
  exact ⟨_, pe_tup h, fun B S H σ ρ Φ Q er q hd => w B S H σ ρ _ _ er q fun ds vs H1 hk s1 r => ⟨by rw [← r.len]; exact hk.1, fun p hp => hd _ _ _ hk.2 (s1.trans (same_new hp)) (Rep.newTup hp r)⟩⟩
noncomputable abbrev onS {α : Type} (o : Option α) (Φ : α → Prop) : Prop := match o with | some d => Φ d | none => False
theorem onS_of {α : Type} {o : Option α} {d : α} {Φ : α → Prop} (e : o = some d) (h : Φ d) : onS o Φ := by subst e; exact h
theorem of_onS {α : Type} {o : Option α} {Φ : α → Prop} (h : onS o Φ) : ∃ d, o = some d ∧ Φ d := by
  cases o with
  | none => exact h.elim
  | some d => exact ⟨d, rfl, h⟩
noncomputable abbrev dIx : R3
  | .tup ds, .int i, Φ => onS (atI ds i) Φ
  | .lst ds, .int i, Φ => onS (atI ds i) Φ
  | _, _, _ => False
theorem atI_rep {K : PySem.W.Frag} {S : Addr → Prop} {H : Hp} {ds : List D} {vs : List V} {i : Int} {d : D} (r : Reps K S H ds vs) (h : atI ds i = some d) : ∃ v, atI vs i = some v ∧ Rep K S H d v := by
  unfold atI at h ⊢
  rw [r.len] at h
  cases q : ixN vs.length i with
  | none => rw [q] at h; cases h
  | some j =>
    rw [q] at h
    exact r.get h
theorem pd_ix (ha : PD X a ta) (hb : PD X b tb) (hs : PlainIx b) : PD X (.Subscript a b pos) (dOp dIx ta tb) := by
  obtain ⟨t2, h, w⟩ := ha; obtain ⟨u2, g, z⟩ := hb
  refine ⟨_, pe_ix (ix_list.or ix_tup) h g hs, two w z fun S H x y u v Φ Q so rx ry hr hd => ?_⟩
  cases x <;> cases y <;> first | exact hr.elim | skip
  · rename_i ds i
    obtain ⟨p, xs, rfl, q, rs⟩ := rep_tup rx
    obtain ⟨d, e, hr⟩ := of_onS (show onS (atI ds i) Φ from hr)
    obtain ⟨w, ew, rw'⟩ := atI_rep rs e
    exact .inr ⟨p, xs, i, w, rfl, rep_int ry, q, ew, hd _ _ H hr (Same.refl _) rw'⟩
  · rename_i ds i
    obtain ⟨p, xs, rfl, q, rs⟩ := rep_lst rx
    obtain ⟨d, e, hr⟩ := of_onS (show onS (atI ds i) Φ from hr)
    obtain ⟨w, ew, rw'⟩ := atI_rep rs e
    exact .inl ⟨p, xs, i, w, rfl, rep_int ry, q.sq, ew, hd _ _ H hr (Same.refl _) rw'⟩
end
end D3

set_option Elab.async false
set_option linter.all false
set_option maxRecDepth 100000
set_option maxHeartbeats 4000000
namespace D3
open PySem PySem.Spec PyProof.Rows L2
section
variable {X : Cx} {st : Stmt} {rest : List Stmt} {t u : S3} {a b e : Expr} {te ta tb : E3} {pos : Pos}
noncomputable abbrev sNext : S3 := fun Φ ρ => Φ (.nx ρ)
noncomputable abbrev thenS (u : (F3 → Prop) → Fr3 → Prop) (Φ : F3 → Prop) : F3 → Prop
  | .nx ρ => u Φ ρ
  | .rt d => Φ (.rt d)
  | .bk ρ => Φ (.bk ρ)
  | .ct ρ => Φ (.ct ρ)
noncomputable abbrev sSeq (t u : S3) : S3 := fun Φ ρ => t (thenS u Φ) ρ
theorem psd_nil : PSDs X [] sNext := ⟨_, pss_nil, fun B S H σ ρ Φ D' er h ok => ok.nx ρ S H σ h er⟩
theorem psd_cons (h1 : PSD X st t) (h2 : PSDs X rest u) : PSDs X (st :: rest) (sSeq t u) := by
  obtain ⟨t2, h, w⟩ := h1; obtain ⟨u2, g, z⟩ := h2
  refine ⟨_, pss_cons h g, fun B S H σ ρ Φ D' er q ok => w B S H σ ρ _ _ er q ⟨fun ρ' S' H' σ' p er' => z B S' H' σ' ρ' Φ D' er' p ok, ok.bk, ok.ct, ok.rt⟩⟩
theorem psd_one (h1 : PSD X st t) : PSDs X [st] t := let ⟨t2, h, w⟩ := h1; ⟨_, pss_one h, w⟩
noncomputable abbrev sNever : S3 := fun _ _ => False
theorem psd_never : PSD X st sNever := ⟨_, ps_never, fun _ _ _ _ _ _ _ _ h _ => h⟩
noncomputable abbrev sRet (te : E3) : S3 := fun Φ ρ => te ρ fun d => Φ (.rt d)
theorem psd_ret (he : PD X e te) : PSD X (.Return (some e) pos) (sRet te) := by
  obtain ⟨t2, h, w⟩ := he
  exact ⟨_, ps_ret h, fun B S H σ ρ Φ D' er q ok => w B S H σ ρ _ _ er q fun d v H1 p s r => ok.rt d v H1 p (er.same.trans s) (r.sub er.sub)⟩
noncomputable abbrev sIf (c : B3) (t u : S3) : S3 := fun Φ ρ => c ρ fun k => if k = true then t Φ ρ else u Φ ρ
theorem psd_if {c : Expr} {as bs : List Stmt} {tc : B3} (hc : PB X c tc) (ha : PSDs X as t) (hb : PSDs X bs u) : PSD X (.If c as bs pos) (sIf tc t u) := by
  obtain ⟨c2, h, w⟩ := hc; obtain ⟨t2, ha, wa⟩ := ha; obtain ⟨u2, hb, wb⟩ := hb
  refine ⟨_, ps_if h ha hb, fun B S H σ ρ Φ D' er q ok => w B S H σ ρ _ _ er q fun k H1 hk s1 => ?_⟩
  cases k with
  | true =>
    have hk : t Φ ρ := by simpa using hk
    simp only [if_true]
    exact wa B S H1 σ ρ _ _ (er.go s1) hk ok
  | false =>
    have hk : u Φ ρ := by simpa using hk
    simp only [Bool.false_eq_true, if_false]
    exact wb B S H1 σ ρ _ _ (er.go s1) hk ok
theorem ER.put {K : PySem.W.Frag} {B : Bs} {S : Addr → Prop} {H : Hp} {σ : L2.St} {ρ : Fr3} {i : Nat} {d : D} {v : V} (er : ER K B S H σ ρ) (r : Rep K S H d v) : ER K B S H (σ.set i (some v)) (ρ.set i (.val d)) where
  len := by rw [List.length_set, List.length_set]; exact er.len
  same := er.same
  sub := er.sub
  ok0 := er.ok0
  ok := er.ok
  val := fun j c q => by
    rw [List.getElem?_set] at q
    split at q
    · rename_i hij
      subst hij
      split at q
      · rename_i hl
        cases q
        exact ⟨v, by rw [List.getElem?_set_self (by rw [er.len]; exact hl)], r⟩
      · cases q
    · rename_i hij
      obtain ⟨w, e, r'⟩ := er.val j c q
      exact ⟨w, by rw [List.getElem?_set_ne hij]; exact e, r'⟩
  own := fun j c q => by
    rw [List.getElem?_set] at q
    split at q
    · split at q <;> cases q
    · rename_i hij
      obtain ⟨a, xs, e, r'⟩ := er.own j c q
      exact ⟨a, xs, by rw [List.getElem?_set_ne hij]; exact e, r'⟩
  uq := fun j k a ds es q1 q2 e1 e2 => by
    rw [List.getElem?_set] at q1 q2
    split at q1
    · split at q1 <;> cases q1
    · split at q2
      · split at q2 <;> cases q2
      · rename_i h1 h2
        rw [List.getElem?_set_ne h1] at e1
        rw [List.getElem?_set_ne h2] at e2
        exact er.uq j k a ds es q1 q2 e1 e2
  gh := er.gh
noncomputable abbrev sSet (i : Nat) (te : E3) : S3 := fun Φ ρ => te ρ fun d => Φ (.nx (ρ.set i (.val d)))
theorem psd_set {i : Nat} {x : Str} {pos' : Pos} (hN : X.N.Nodup) (hi : X.N[i]? = some x) (hx : Loc X.env.scope x) (he : PD X e te) (hs : swapsWith e (some (.Name x pos')) pos.line X.env = pure false := by rfl)
    (hf : X.fn x = true ∨ X.env.scope.names.lookup x = some .local := by first | exact .inl rfl | exact .inr rfl | assumption) : PSD X (.Assign [.Name x pos'] e pos) (sSet i te) := by
  obtain ⟨t2, h, w⟩ := he
  exact ⟨_, ps_set hN hi hx h hs hf, fun B S H σ ρ Φ D' er q ok => w B S H σ ρ _ _ er q fun d v H1 p s r => ok.nx _ S H1 _ p ((er.go s).put r)⟩
end
noncomputable abbrev Con := List D → (D → Prop) → Prop
noncomputable def Mono (C : Con) : Prop := ∀ ds (Φ Ψ : D → Prop), (∀ d, Φ d → Ψ d) → C ds Φ → C ds Ψ
noncomputable def spD (K : PySem.W.Frag) (n : Nat) (C : Con) : Sp := fun vs H Q _ => ∃ ds S, ds.length = n ∧ Reps K S H ds vs ∧ SOk S H ∧ C ds fun d => ∀ v H', Same H H' → Rep K S H' d v → Q v H'
noncomputable abbrev dCall (n : Nat) (C : Con) (ta : A3) : E3 := fun ρ Φ => ta ρ fun ds => ds.length = n ∧ C ds Φ
section
variable {X : Cx} {k : Nat} {f : Addr} {fd : FuncData} {ps : List Str} {C : Con} {x : Str} {p pos : Pos} {e : Expr} {es : List Expr} {ta : A3}
theorem pd_call (F : FnOk X.prog X.w X.K X.mg X.base CX0 k f fd ps (spD X.K ps.length C)) (mo : Mono C) (hr : Room k X.A) (hg : Gl X x) (hm : X.mg x = some (.ref f)) (hk : PySem.W.keepIn X.K (.ref f) = true) (hb : Binds X.K fd ps [])
    (ha : PAD X (e :: es) ta) (hdb : (x == ("__debug__" : Str)) = false := by decide) (he : starEach (e :: es) X.env = (false, eval e X.env) :: starEach es X.env := by rfl) (hpl : (backTo pos (starEach es X.env)).any (·.1) = false := by rfl) :
    PD X (.Call (.Name x p) (e :: es) [] pos) (dCall ps.length C ta) := by
  obtain ⟨t2, h, w⟩ := ha
  refine ⟨_, pe_call F hr hg hm hk hb .nil pass0 h hdb he hpl, fun B S H σ ρ Φ Q er q hd => w B S H σ ρ _ _ er q fun ds vs H1 hc s1 r => ?_⟩
  rw [List.append_nil]
  exact ⟨ds, S, hc.1, r, er.ok.same s1, mo ds Φ _ (fun d hΦ v H' s r' => hd d v H' hΦ (s1.trans s) r') hc.2⟩
end
noncomputable abbrev finD (Φ : D → Prop) : F3 → Prop
  | .nx _ => Φ .non
  | .rt d => Φ d
  | _ => False
noncomputable def startD (n : Nat) (ds : List D) : Fr3 := ds.map .val ++ List.replicate (n - ds.length) .un
theorem er_start {K : PySem.W.Frag} {S : Addr → Prop} {H : Hp} {ds : List D} {vs : List V} {N : List Str} (r : Reps K S H ds vs) (so : SOk S H) : ER K ⟨S, H, []⟩ S H (L2.start N vs) (startD N.length ds) where
  len := by
    unfold L2.start startD
    rw [List.length_append, List.length_append, List.length_map, List.length_map, List.length_replicate, List.length_replicate, r.len]
  same := Same.refl _
  sub := fun _ h => h
  ok0 := so
  ok := so
  val := fun i d q => by
    unfold startD at q
    rw [List.getElem?_append] at q
    split at q
    · rename_i hl
      rw [List.length_map] at hl
      rw [List.getElem?_map] at q
      cases e : ds[i]? with
      | none => rw [e] at q; cases q
      | some c =>
        rw [e] at q
        cases q
        obtain ⟨v, ev, rv⟩ := r.get e
        refine ⟨v, ?_, rv⟩
        unfold L2.start
        rw [List.getElem?_append_left (by rw [List.length_map, ← r.len]; exact hl), List.getElem?_map, ev]
        rfl
    · rw [List.getElem?_replicate] at q
      split at q <;> cases q
  own := fun i d q => by
    unfold startD at q
    rw [List.getElem?_append] at q
    split at q
    · rw [List.getElem?_map] at q
      cases e : ds[i]? with
      | none => rw [e] at q; cases q
      | some c => rw [e] at q; cases q
    · rw [List.getElem?_replicate] at q
      split at q <;> cases q
  uq := fun i j a d es q _ _ _ => by
    unfold startD at q
    rw [List.getElem?_append] at q
    split at q
    · rw [List.getElem?_map] at q
      cases e : ds[i]? with
      | none => rw [e] at q; cases q
      | some c => rw [e] at q; cases q
    · rw [List.getElem?_replicate] at q
      split at q <;> cases q
  gh := fun p hp => by cases hp
section
variable {P : Program} {w : World} {K : PySem.W.Frag} {mg : Str → Option Value} {base : Heap}
theorem fn_ok {x qual : Str} {st : Stmt} {f : Addr} {fd : FuncData} {N ps : List Str} {k : Nat} {C : Con} (F : Fun K x qual st f fd) (S : FnScope N ps (defScope st))
    (body : ∀ (cdv : Value) (A : Around) (outer : List Env) (s : Shared) (H : Hp) (E : XK), Room k (A.deeper (envOfC qual (defScope st) s.heap.objs.size f cdv)) →
      ∃ t, PSDs (cxOf CX0 P w K mg base N qual (defScope st) f cdv A outer s H E).nox (defBody st) t ∧ ∀ ds Φ, ds.length = ps.length → C ds Φ → t (finD Φ) (startD N.length ds)) :
    FnOk P w K mg base CX0 (k + 1) f fd ps (spD K ps.length C) := by
  refine F.ok S (fun vs H Q E h => ?_) (fun cdv A outer s H vs Q E hr h => ?_)
  · obtain ⟨ds, S, hl, r, _⟩ := h
    rw [← r.len]; exact hl
  · obtain ⟨t, ⟨t2, ht, wt⟩, rd⟩ := body cdv A outer s H E hr
    obtain ⟨ds, S, hl, r, so, hc⟩ := h
    refine ⟨t2, ht, wt ⟨S, H, []⟩ S H (L2.start N vs) (startD N.length ds) (finD fun d => ∀ v H', Same H H' → Rep K S H' d v → Q v H') _ (er_start r so) (rd ds _ hl hc) ⟨?_, ?_, ?_, ?_⟩⟩
    · intro ρ S' H' σ' h er
      exact h .non H' er.same Rep.non
    · intro ρ S' H' σ' h er
      exact h.elim
    · intro ρ S' H' σ' h er
      exact h.elim
    · intro d v H' h s r'
      exact h v H' s r'
end
noncomputable def cLaw : Con := fun ds Φ => ∃ ns : List Int, ds = [.lst (ns.map .int)] ∧ ns.length ≤ 63 ∧ Φ (.bl true)
theorem law_sp {K : PySem.W.Frag} {H : Hp} {a : Addr} {ns : List Int} (hl : ns.length ≤ 63) (h : SqL K H a (ns.map V.int)) : spD K 1 cLaw [.ref a] H (fun v _ => v = .bl true) fun _ _ _ => False := by
  refine ⟨[.lst (ns.map .int)], fun _ => False, rfl, Reps.cons (Rep.lst ?_ (Reps.ints ns)) Reps.nil, fun a h => h.elim, ns, rfl, hl, fun v H' s r => rep_bl r⟩
  exact h.elim (fun x => .inl ⟨id, x⟩) .inr
theorem walk {l : PySem.W.OpenLaw} {q : Program} {k : Nat} {loose : List Str} {XP : (Str → Option Value) → Heap → Prop} {YP : World → Heap → Prop} {d : DefRec} {K : Params → PySem.W.Frag} (hn : l.most = some 63) (hdf : d.params.defaults = []) (hr : Room k callerA)
    (hY : ∀ (w : World) (h : Heap), YP w h → (K w.params).In h)
    (F : ∀ (w : World) (mg : Str → Option Value) (fa : Addr) (h : Heap), (K w.params).In h → h.Ns mainGlobals mg → mg d.name = some (.ref fa) →
      ∃ fd : FuncData, (∀ (s : Shared) (u : Value), BindsTo s fd ⟨[u], []⟩ [("script", u)]) ∧ ∀ base : Heap, (K w.params).In base → base.Ns mainGlobals mg → FnOk l.prog w (K w.params) mg base CX0 k fa fd ["script"] (spD (K w.params) 1 cLaw)) :
    PySem.W.WalkO q loose XP YP l.row.toRowW d [] (fun f vs => PySem.call f vs) :=
  L2.walk_of (n := 63) (k := k) (x := "script") (CX := fun _ => CX0) (sp := fun w => spD (K w.params) 1 cLaw) hn (by decide) hdf hr hY F (fun _ _ a ns hl _ hS => law_sp hl hS) fun _ _ _ _ _ z => z
end D3

set_option Elab.async false
set_option linter.all false
set_option maxRecDepth 100000
set_option maxHeartbeats 4000000
namespace D3
open PySem PySem.Spec PyProof.Rows L2
noncomputable abbrev G3 := D → Fr3 → (Fr3 → Prop) → Prop
noncomputable abbrev Gs3 := List D → Fr3 → (Fr3 → Prop) → Prop
noncomputable def PGD (X : Cx) (tg : Expr) (g : G3) : Prop := ∃ g2, PG X tg g2 ∧ ∀ B S H σ ρ d v Ψ (Q : L2.St → Hp → Prop), ER X.K B S H σ ρ → Rep X.K S H d v → g d ρ Ψ → (∀ ρ' σ', Ψ ρ' → ER X.K B S H σ' ρ' → Q σ' H) → g2 v σ H Q
noncomputable def PGDs (X : Cx) (tg : List Expr) (g : Gs3) : Prop := ∃ g2, PGs X tg g2 ∧ ∀ B S H σ ρ d v Ψ (Q : L2.St → Hp → Prop), ER X.K B S H σ ρ → Reps X.K S H d v → g d ρ Ψ → (∀ ρ' σ', Ψ ρ' → ER X.K B S H σ' ρ' → Q σ' H) → g2 v σ H Q
section
variable {X : Cx} {e : Expr} {es : List Expr} {pos : Pos} {te : E3}
noncomputable abbrev gN (i : Nat) : G3 := fun d ρ Ψ => Ψ (ρ.set i (.val d))
theorem pgd_name {i : Nat} {x : Str} (hN : X.N.Nodup) (hi : X.N[i]? = some x) (hx : Loc X.env.scope x) (hf : X.fn x = true ∨ X.env.scope.names.lookup x = some .local := by first | exact .inl rfl | exact .inr rfl | assumption) : PGD X (.Name x pos) (gN i) :=
  ⟨_, pg_name hN hi hx hf, fun B S H σ ρ d v Ψ Q er r h k => k _ _ h (er.put r)⟩
noncomputable abbrev gNil3 : Gs3
  | [], ρ, Ψ => Ψ ρ
  | _ :: _, _, _ => False
noncomputable abbrev gCons3 (g : G3) (gs : Gs3) : Gs3
  | d :: ds, ρ, Ψ => g d ρ fun ρ' => gs ds ρ' Ψ
  | [], _, _ => False
theorem pgds_nil : PGDs X [] gNil3 := ⟨_, pgs_nil, fun B S H σ ρ d v Ψ Q er r h k => by
  cases d with
  | nil => simp only [Reps] at r; subst r; exact ⟨rfl, k ρ σ h er⟩
  | cons _ _ => exact h.elim⟩
theorem pgds_cons {g : G3} {gs : Gs3} (h1 : PGD X e g) (h2 : PGDs X es gs) (hs : (assignEach (e :: es) X.env).map (·.2) = assign e X.env :: (assignEach es X.env).map (·.2) := by rfl) : PGDs X (e :: es) (gCons3 g gs) := by
  obtain ⟨g2, h1, w1⟩ := h1; obtain ⟨u2, h2, w2⟩ := h2
  refine ⟨_, pgs_cons h1 h2 hs, fun B S H σ ρ d v Ψ Q er r h k => ?_⟩
  cases d with
  | nil => exact h.elim
  | cons c cs =>
    simp only [Reps] at r
    obtain ⟨x, y, rfl, rx, ry⟩ := r
    exact ⟨x, y, rfl, w1 B S H σ ρ c x _ _ er rx h fun ρ' σ' p er' => w2 B S H σ' ρ' cs y Ψ Q er' ry p k⟩
noncomputable abbrev gTup3 (n : Nat) (gs : Gs3) : G3
  | .tup ds, ρ, Ψ => ds.length = n ∧ gs ds ρ Ψ
  | _, _, _ => False
theorem pgd_tup {k : Nat} {gs : Gs3} {n : Nat} (hc : X.calm = true) (h : PGDs X es gs) (hn : (assignEach es X.env).length = n := by rfl) (hst : (assignEach es X.env).findIdx? (·.1) = none := by rfl) : PGD X (.Tuple es k pos) (gTup3 n gs) := by
  obtain ⟨g2, h, w⟩ := h
  refine ⟨_, pg_tup hc h hn hst, fun B S H σ ρ d v Ψ Q er r h k => ?_⟩
  cases d <;> first | exact h.elim | skip
  obtain ⟨a, xs, rfl, q, rs⟩ := rep_tup r
  exact ⟨a, xs, rfl, q, by rw [← rs.len]; exact h.1, w B S H σ ρ _ _ Ψ Q er rs h.2 k⟩
noncomputable abbrev sAsg (te : E3) (g : G3) : S3 := fun Φ ρ => te ρ fun d => g d ρ fun ρ' => Φ (.nx ρ')
theorem psd_asg {tg : Expr} {g : G3} (he : PD X e te) (hg : PGD X tg g) (hs : swapsWithSole [tg] e pos.line X.env = pure false := by rfl) (hw : swappedStores [tg] e X.env = pure none := by rfl)
    (h1 : (assignEach [tg] X.env).map (·.2) = [assign tg X.env] := by rfl) : PSD X (.Assign [tg] e pos) (sAsg te g) := by
  obtain ⟨t2, h, w⟩ := he; obtain ⟨g2, hg, wg⟩ := hg
  exact ⟨_, ps_asg h hg hs hw h1, fun B S H σ ρ Φ D' er q ok => w B S H σ ρ _ _ er q fun d v H1 p s r => wg B S H1 σ ρ d v _ _ (er.go s) r p fun ρ' σ' p' er' => ok.nx ρ' S H1 σ' p' er'⟩
noncomputable abbrev sPar (i j : Nat) (ta : A3) : S3 := fun Φ ρ => ta ρ fun ds => match ds with
  | [c, d] => Φ (.nx ((ρ.set i (.val c)).set j (.val d)))
  | _ => False
theorem psd_par {i j : Nat} {x y : Str} {a b : Expr} {ta : A3} {px py pt : Pos} {kt k2 pt2} (hc : X.calm = true) (hN : X.N.Nodup) (hi : X.N[i]? = some x) (hj : X.N[j]? = some y) (hij : i ≠ j)
    (hx : X.env.scope.names.lookup x = some .local) (hy : X.env.scope.names.lookup y = some .local) (ha : PAD X [a, b] ta)
    (hw : swappedStores [.Tuple [.Name x px, .Name y py] kt pt] (.Tuple [a, b] k2 pt2) X.env = pure (some [x, y]))
    (hs : swapsWithSole [.Tuple [.Name x px, .Name y py] kt pt] (.Tuple [a, b] k2 pt2) pos.line X.env = pure false := by rfl) :
    PSD X (.Assign [.Tuple [.Name x px, .Name y py] kt pt] (.Tuple [a, b] k2 pt2) pos) (sPar i j ta) := by
  obtain ⟨t2, h, w⟩ := ha
  refine ⟨_, ps_par hc hN hi hj hij hx hy h hw hs, fun B S H σ ρ Φ D' er q ok => w B S H σ ρ _ _ er q fun ds vs H1 p s r => ?_⟩
  match ds, p with
  | [c, d], p =>
    simp only [Reps] at r
    obtain ⟨u, _, rfl, ru, v, _, rfl, rv, rfl⟩ := r
    exact ⟨u, v, rfl, ok.nx _ S H1 _ p (((er.go s).put ru).put rv)⟩
end
noncomputable abbrev loopS (k : (F3 → Prop) → Fr3 → Prop) (Φ : F3 → Prop) : F3 → Prop
  | .nx ρ => k Φ ρ
  | .ct ρ => k Φ ρ
  | .bk ρ => Φ (.nx ρ)
  | .rt d => Φ (.rt d)
noncomputable def FOR (g : G3) (tb : S3) : List D → (F3 → Prop) → Fr3 → Prop
  | [], Φ, ρ => Φ (.nx ρ)
  | d :: ds, Φ, ρ => g d ρ fun ρ1 => tb (loopS (FOR g tb ds) Φ) ρ1
noncomputable def Wlk (K : PySem.W.Frag) (J : It) (d : D) (v : V) (ds : List D) : Prop := ∀ S H, Rep K S H d v → J.stop ds.length H ∧ ∀ (i : Nat), i < ds.length → J.go i H ∧ ∀ x H', J.yld i H x H' → H' = H ∧ ∃ e, ds[i]? = some e ∧ Rep K S H e x
noncomputable def WlkL (K : PySem.W.Frag) (J : It) (hs : List (D × V)) (ds : List D) : Prop := ∀ S H, (∀ p ∈ hs, Rep K S H p.1 p.2) → J.stop ds.length H ∧ ∀ (i : Nat), i < ds.length → J.go i H ∧ ∀ x H', J.yld i H x H' → Same H H' ∧ ∃ e, ds[i]? = some e ∧ Rep K S H' e x
theorem Wlk.l {K : PySem.W.Frag} {J : It} {d : D} {v : V} {ds : List D} (h : Wlk K J d v ds) : WlkL K J [(d, v)] ds := fun S H r => by
  obtain ⟨a, b⟩ := h S H (r (d, v) (by simp))
  refine ⟨a, fun i hi => ⟨(b i hi).1, fun x H' y => ?_⟩⟩
  obtain ⟨rfl, e, ee, re⟩ := (b i hi).2 x H' y
  exact ⟨Same.refl _, e, ee, re⟩
noncomputable def PID (X : Cx) (tg iter : Expr) (t : A3) : Prop := ∃ wi, PI X tg iter wi ∧ ∀ B S H σ ρ Φ (R : It → Hp → Prop), ER X.K B S H σ ρ → t ρ Φ → (∀ ds J hs H1, Φ ds → Same H H1 → (∀ p ∈ hs, Rep X.K S H1 p.1 p.2) → WlkL X.K J hs ds → R J H1) → wi σ H R
theorem PID.one {X : Cx} {tg iter : Expr} {t : A3} (h : ∃ wi, PI X tg iter wi ∧ ∀ B S H σ ρ Φ (R : It → Hp → Prop), ER X.K B S H σ ρ → t ρ Φ → (∀ ds J d v H1, Φ ds → Same H H1 → Rep X.K S H1 d v → Wlk X.K J d v ds → R J H1) → wi σ H R) : PID X tg iter t := by
  obtain ⟨wi, hi, ww⟩ := h
  refine ⟨wi, hi, fun B S H σ ρ Φ R er q k => ww B S H σ ρ Φ R er q fun ds J d v H1 hΦ s r w => k ds J [(d, v)] H1 hΦ s (fun p hp => ?_) w.l⟩
  have e : p = (d, v) := by simpa using hp
  subst e
  exact r
theorem ER.holds {K : PySem.W.Frag} {B : Bs} {S : Addr → Prop} {H : Hp} {σ : L2.St} {ρ : Fr3} {hs : List (D × V)} (er : ER K B S H σ ρ) (r : ∀ p ∈ hs, Rep K S H p.1 p.2) : ER K { B with gh := hs ++ B.gh } S H σ ρ :=
  ⟨er.len, er.same, er.sub, er.ok0, er.ok, er.val, er.own, er.uq, fun p hp => by
    rcases List.mem_append.mp hp with hp | hp
    · exact r p hp
    · exact er.gh p hp⟩
theorem ER.unholds {K : PySem.W.Frag} {B : Bs} {S : Addr → Prop} {H : Hp} {σ : L2.St} {ρ : Fr3} {hs : List (D × V)} (er : ER K { B with gh := hs ++ B.gh } S H σ ρ) : ER K B S H σ ρ :=
  ⟨er.len, er.same, er.sub, er.ok0, er.ok, er.val, er.own, er.uq, fun q hq => er.gh q (List.mem_append_right _ hq)⟩
section
variable {X : Cx} {tg iter e : Expr} {body : List Stmt} {ti : A3} {g : G3} {tb : S3} {te : E3} {pos : Pos}
noncomputable abbrev sFor (ti : A3) (g : G3) (tb : S3) : S3 := fun Φ ρ => ti ρ fun ds => FOR g tb ds Φ ρ
theorem psd_for (hp : PassesOwn (model X.prog X.w) X.A X.env X.xe) (hc : X.calm = true) (hi : PID X tg iter ti) (hg : PGD X tg g) (hb : PSDs X body tb)
    (hfs : ∀ x, foldedSetIterable iter X.env x = pure x := by intro _; rfl) : PSD X (.For tg iter body [] pos) (sFor ti g tb) := by
  obtain ⟨wi, hi, ww⟩ := hi; obtain ⟨g2, hg, wg⟩ := hg; obtain ⟨b2, hb, wb⟩ := hb
  refine ⟨_, ps_for hp hc hi hg hb hfs, fun B S H σ ρ Φ D' er q ok => ww B S H σ ρ _ _ er q fun ds J hs H1 hΦ s1 rv wk => ?_⟩
  refine ⟨fun i m σ' H' => m = ds.length - i ∧ i ≤ ds.length ∧ ∃ S' ρ', ER X.K { B with gh := hs ++ B.gh } S' H' σ' ρ' ∧ FOR g tb (ds.drop i) Φ ρ', ⟨_, rfl, Nat.zero_le _, S, ρ, (er.go s1).holds rv, hΦ⟩, ?_⟩
  rintro i m σ' H' ⟨rfl, hi, S', ρ', er', hf⟩
  have rg := fun p (hp : p ∈ hs) => er'.gh p (List.mem_append_left _ hp)
  obtain ⟨wstop, wgo⟩ := wk S' H' rg
  by_cases hlt : i < ds.length
  · obtain ⟨go, yl⟩ := wgo i hlt
    rw [List.drop_eq_getElem_cons hlt] at hf
    refine .inr ⟨go, fun σ2 H2 => ∃ S2 ρ2, ER X.K { B with gh := hs ++ B.gh } S2 H2 σ2 ρ2 ∧ FOR g tb (ds.drop (i + 1)) Φ ρ2, fun σ2 H2 h2 => ⟨_, by omega, rfl, hlt, h2⟩, fun x H2 y => ?_⟩
    obtain ⟨sy, e', ee, re⟩ := yl x H2 y
    rw [List.getElem?_eq_getElem hlt] at ee
    cases ee
    refine wg _ S' _ σ' ρ' _ x _ _ (er'.go sy) re hf fun ρ1 σ1 h1 er1 => wb _ S' _ σ1 ρ1 _ _ er1 h1 ⟨fun ρ2 S2 H2 σ2 p er2 => ⟨S2, ρ2, er2, p⟩, fun ρ2 S2 H2 σ2 p er2 => ok.nx ρ2 S2 H2 σ2 p er2.unholds, fun ρ2 S2 H2 σ2 p er2 => ⟨S2, ρ2, er2, p⟩, fun c u H2 p s2 r2 => ok.rt c u H2 p s2 r2⟩
  · have hi' : i = ds.length := by omega
    subst hi'
    rw [List.drop_length] at hf
    exact .inl ⟨wstop, ok.nx ρ' S' H' σ' hf er'.unholds⟩
noncomputable abbrev iT (te : E3) : A3 := fun ρ Φ => te ρ fun d => match d with | .tup ds => Φ ds | _ => False
theorem pid_tup (he : PD X e te) : PID X tg e (iT te) := by
  obtain ⟨t2, h, w⟩ := he
  refine PID.one ⟨_, pi_tup h, fun B S H σ ρ Φ R er q k => w B S H σ ρ _ _ er q fun d v H1 p s r => ?_⟩
  cases d <;> first | exact p.elim | skip
  rename_i ds
  obtain ⟨a, xs, rfl, lr, rs⟩ := rep_tup r
  refine ⟨a, rfl, ⟨xs, lr⟩, k ds _ _ _ H1 p s r fun S2 H2 r2 => ?_⟩
  obtain ⟨a2, xs2, e2, lr2, rs2⟩ := rep_tup r2
  cases e2
  refine ⟨⟨xs2, lr2, by rw [rs2.len]; exact Nat.le_refl _⟩, fun i hi => ?_⟩
  have hi2 : i < xs2.length := by rw [← rs2.len]; exact hi
  refine ⟨⟨xs2, xs2[i], lr2, by simp [hi2]⟩, fun x H' y => ?_⟩
  obtain ⟨rfl, y⟩ := y
  obtain ⟨c, ec, rc⟩ := rs2.getV (y xs2 lr2)
  exact ⟨rfl, c, ec, rc⟩
noncomputable def ups (lo : Int) (n : Nat) : List D := (List.range n).map fun (i : Nat) => D.int (lo + (i : Int))
theorem ups_length (lo : Int) (n : Nat) : (ups lo n).length = n := by simp [ups]
theorem wlk_range (K : PySem.W.Frag) (lo : Int) (n : Nat) : Wlk K (Itr lo n) .non .non (ups lo n) := fun S H _ => by
  refine ⟨by show n ≤ _; rw [ups_length]; exact Nat.le_refl _, fun i hi => ⟨by rw [ups_length] at hi; exact hi, fun x H' y => ?_⟩⟩
  obtain ⟨rfl, rfl⟩ := y
  refine ⟨rfl, .int (lo + i), ?_, Rep.int⟩
  rw [ups_length] at hi
  simp [ups, hi]
noncomputable abbrev iR1 (ta : A3) : A3 := fun ρ Φ => ta ρ fun ds => match ds with | [.int j] => -(2 ^ 62) ≤ j ∧ j < 2 ^ 62 ∧ Φ (ups 0 j.toNat) | _ => False
theorem pid_range1 {a : Expr} {ta : A3} {p pos : Pos} (hg : Gl X "range") (hm : X.mg "range" = none) (ha : PAD X [a] ta) (hs : starEach [a] X.env = [(false, eval a X.env)] := by rfl) : PID X tg (.Call (.Name "range" p) [a] [] pos) (iR1 ta) := by
  obtain ⟨t2, h, w⟩ := ha
  refine PID.one ⟨_, pi_range1 hg hm h hs, fun B S H σ ρ Φ R er q k => w B S H σ ρ _ _ er q fun ds vs H1 p s r => ?_⟩
  match ds, p with
  | [.int j], p =>
    simp only [Reps, Rep] at r
    obtain ⟨u, _, rfl, rfl, rfl⟩ := r
    exact ⟨j, rfl, p.1, p.2.1, k _ _ .non .non H1 p.2.2 s Rep.non (wlk_range _ _ _)⟩
noncomputable abbrev loopW (N : Fr3 → Prop) (Φ : F3 → Prop) : F3 → Prop
  | .nx ρ => N ρ
  | .ct ρ => N ρ
  | .bk ρ => Φ (.nx ρ)
  | .rt d => Φ (.rt d)
noncomputable def sWhile (tc : B3) (tb : S3) : S3 := fun Φ ρ => ∃ W : Nat → Fr3 → Prop, (∃ m, W m ρ) ∧ ∀ m ρ, W m ρ → tc ρ fun k => if k = true then tb (loopW (fun ρ' => ∃ m', m' < m ∧ W m' ρ') Φ) ρ else Φ (.nx ρ)
theorem psd_while {c : Expr} {tc : B3} (hp : PassesOwn (model X.prog X.w) X.A X.env X.xe) (hc : PB X c tc) (hb : PSDs X body tb) : PSD X (.While c body [] pos) (sWhile tc tb) := by
  obtain ⟨c2, hc, wc⟩ := hc; obtain ⟨b2, hb, wb⟩ := hb
  refine ⟨_, ps_while hp hc hb, fun B S H σ ρ Φ D' er ⟨W, ⟨m0, w0⟩, turn⟩ ok => ?_⟩
  refine ⟨fun m σ' H' => ∃ S' ρ', ER X.K B S' H' σ' ρ' ∧ W m ρ', ⟨m0, S, ρ, er, w0⟩, ?_⟩
  rintro m σ' H' ⟨S', ρ', er', w'⟩
  refine wc B S' H' σ' ρ' _ _ er' (turn m ρ' w') fun k H1 hk s1 => ?_
  cases k with
  | true =>
    have hk : tb (loopW (fun ρ' => ∃ m', m' < m ∧ W m' ρ') Φ) ρ' := by simpa using hk
    simp only [if_true]
    refine ⟨fun σ2 H2 => ∃ S2 ρ2 m', m' < m ∧ ER X.K B S2 H2 σ2 ρ2 ∧ W m' ρ2, fun σ2 H2 ⟨S2, ρ2, m', lt, er2, w2⟩ => ⟨m', lt, S2, ρ2, er2, w2⟩, ?_⟩
    exact wb B S' H1 σ' ρ' _ _ (er'.go s1) hk ⟨fun ρ2 S2 H2 σ2 ⟨m', lt, w2⟩ er2 => ⟨S2, ρ2, m', lt, er2, w2⟩, fun ρ2 S2 H2 σ2 p er2 => ok.nx ρ2 S2 H2 σ2 p er2, fun ρ2 S2 H2 σ2 ⟨m', lt, w2⟩ er2 => ⟨S2, ρ2, m', lt, er2, w2⟩, ok.rt⟩
  | false =>
    have hk : Φ (.nx ρ') := by simpa using hk
    simp only [Bool.false_eq_true, if_false]
    exact ok.nx ρ' S' H1 σ' hk (er'.go s1)
theorem while_inv {tc : B3} {tb : S3} {Φ : F3 → Prop} {ρ : Fr3} (I : Fr3 → Prop) (μ : Fr3 → Nat) (h0 : I ρ)
    (hs : ∀ ρ, I ρ → tc ρ fun k => if k = true then tb (loopW (fun ρ' => ∃ m', m' < μ ρ ∧ m' = μ ρ' ∧ I ρ') Φ) ρ else Φ (.nx ρ)) : sWhile tc tb Φ ρ :=
  ⟨fun m ρ => m = μ ρ ∧ I ρ, ⟨_, rfl, h0⟩, fun m ρ ⟨e, p⟩ => by subst e; exact hs ρ p⟩
theorem FOR_inv {g : G3} {tb : S3} {Φ : F3 → Prop} (I : List D → List D → Fr3 → Prop) (hs : ∀ pre d post ρ, I pre (d :: post) ρ → ∀ k : (F3 → Prop) → Fr3 → Prop, (∀ ρ', I (pre ++ [d]) post ρ' → k Φ ρ') → g d ρ fun ρ1 => tb (loopS k Φ) ρ1)
    (hd : ∀ pre ρ, I pre [] ρ → Φ (.nx ρ)) : ∀ (post pre : List D) (ρ : Fr3), I pre post ρ → FOR g tb post Φ ρ
  | [], pre, ρ, h => hd pre ρ h
  | d :: post, pre, ρ, h => hs pre d post ρ h (FOR g tb post) fun ρ' h' => FOR_inv I hs hd post (pre ++ [d]) ρ' h'
end
end D3

set_option Elab.async false
set_option linter.all false
set_option maxRecDepth 100000
set_option maxHeartbeats 4000000
namespace D3
open PySem PySem.Spec PyProof.Rows L2
section
open PySem.MeetsSeq PySem.AutoSeq1
theorem list_add_gen (l : Addr) (items : Array Value) (n : Nat) (b : Addr) (items2 : Array Value) (n2 : Nat) (dd dd2 : Option Addr) (sl sl2 : Array (Option Value)) (hc0 : items.size + items2.size ≤ sizeLine) :
    Meets (Builtin.«list.__add__» ⟨[.ref l, .ref b], []⟩) (fun _ R s => s.heap.get? l = some { cls := .type "list", dict := dd, data := .seq items n, slots := sl } ∧ s.heap.get? b = some { cls := .type "list", dict := dd2, data := .seq items2 n2, slots := sl2 } ∧ R (.ok (.ret (Value.ref s.heap.objs.size))) { s with heap := s.heap.push { cls := Value.type "list", data := Data.seq (items ++ items2) }, toks := s.toks }) :=
  .of_wp fun prog w A R s h => by obtain ⟨hp, g, d, tk, os⟩ := s; obtain ⟨hl, hb, h⟩ := h; have f1 := AutoSeq1.idx_int; have f2 := AutoSeq1.sub_tuple_tuple; have f3 := AutoSeq1.sub_list_list; have f4 := AutoSeq1.sub_tuple_list; have f5 := AutoSeq1.sub_list_tuple; wp_walk using wpAny_loadPart' hl, wpAny_loadPart' hb; exact ⟨_, rfl, h⟩
theorem add_list_gen {prog : Program} {w : World} {A : Around} {E : Value → Shared → Prop} {s : Shared} {l b : Addr} {items items2 : Array Value} {Q : Value → Shared → Prop} (hl : PlainL s.heap l items) (hb : PlainL s.heap b items2)
    (h : Q (.ref s.heap.objs.size) { s with heap := s.heap.push { cls := .type "list", data := .seq (items ++ items2) } }) (hsz : items.size + items2.size ≤ sizeLine) : wpAny (model prog w) A (binaryOp .Add (.ref l) (.ref b)) Q E s := by
  obtain ⟨o, n, e, hc, hd, hq⟩ := hl
  obtain ⟨o2, n2, e2, hc2, hd2, hq2⟩ := hb
  obtain ⟨c, dd, da, sl⟩ := o
  obtain ⟨c2, dd2, da2, sl2⟩ := o2
  subst hc hd hq hc2 hd2 hq2
  exact concat_meets ⟨_, e, rfl⟩ ⟨_, e2, rfl⟩ noFill_list_add seq_list_add F.slot_list_add F.entry_list_add (F.args_list_add_2 _ _) (list_add_gen l items n b items2 n2 none none sl sl2 hsz) ⟨e, e2, h⟩
end
noncomputable def HandN (K : PySem.W.Frag) (S : Addr → Prop) (H : Hp) (Φ : List D → Prop) (Q : VK) : Prop := ∀ ds xs p H1, Φ ds → Same H H1 → H1 p = none → Reps K S H1 ds xs → Q (.ref p) (upd H1 p (.lst xs))
noncomputable def PF (X : Cx) (e : Expr) (t : A3) : Prop := ∃ t2, PE X e t2 ∧ ∀ B S H σ ρ Φ Q, ER X.K B S H σ ρ → t ρ Φ → HandN X.K S H Φ Q → t2 σ H Q
noncomputable abbrev dF (t : A3) : E3 := fun ρ Φ => t ρ fun ds => Φ (.lst ds)
section
variable {X : Cx} {a b c e : Expr} {ta tb tc te : E3} {tr tf : A3} {es : List Expr} {pos : Pos}
theorem pd_new (h : PF X e tf) : PD X e (dF tf) := by
  obtain ⟨t2, h, w⟩ := h
  exact ⟨_, h, fun B S H σ ρ Φ Q er q hd => w B S H σ ρ _ _ er q fun ds xs p H1 hΦ s1 hp r => hd _ _ _ hΦ (s1.trans (same_new hp)) (Rep.newLst (er.ok.same s1) hp r)⟩
noncomputable abbrev fLst (t : A3) : A3 := fun ρ Φ => t ρ fun ds => ds.length ≤ sizeLine ∧ Φ ds
theorem pf_lst (h : PAD X es tr) : PF X (.List es pos) (fLst tr) := by
  obtain ⟨t2, h, w⟩ := h
  exact ⟨_, pe_lst h, fun B S H σ ρ Φ Q er q hd => w B S H σ ρ _ _ er q fun ds vs H1 hk s1 r => ⟨by rw [← r.len]; exact hk.1, fun p hp => hd _ _ p H1 hk.2 s1 hp r⟩⟩
noncomputable abbrev O3 := Fr3 → (Option Int → Prop) → Prop
noncomputable def POD (X : Cx) (e : Option Expr) (t : O3) : Prop := ∃ t2, PO X e t2 ∧ ∀ B S H σ ρ Φ (Q : Option Int → Hp → Prop), ER X.K B S H σ ρ → t ρ Φ → (∀ o H', Φ o → Same H H' → Q o H') → t2 σ H Q
noncomputable abbrev oSome (te : E3) : O3 := fun ρ Φ => te ρ fun d => match d with | .int i => Φ (some i) | _ => False
theorem pod_some (h : PD X e te) : POD X (some e) (oSome te) := by
  obtain ⟨t2, h, w⟩ := h
  refine ⟨_, po_some h, fun B S H σ ρ Φ Q er q hd => w B S H σ ρ _ _ er q fun d v H1 hk s1 r => ?_⟩
  cases d <;> first | exact hk.elim | skip
  exact ⟨_, rep_int r, hd _ H1 hk s1⟩
noncomputable def cutD {α : Type} (xs : List α) (lo hi : Option Int) : List α := (xs.drop (HT.sIx xs.length 0 lo)).take (HT.sIx xs.length xs.length hi - HT.sIx xs.length 0 lo)
noncomputable abbrev fSl (te : E3) (tl th : O3) : A3 := fun ρ Φ => te ρ fun d => tl ρ fun lo => th ρ fun hi => match d with | .lst ds => Φ (cutD ds lo hi) | _ => False
theorem pf_slice {lo hi : Option Expr} {tl th : O3} {p2 : Pos} (he : PD X e te) (hl : POD X lo tl) (hu : POD X hi th) : PF X (.Subscript e (.Slice lo hi none p2) pos) (fSl te tl th) := by
  obtain ⟨t2, h, w⟩ := he; obtain ⟨l2, hl, wl⟩ := hl; obtain ⟨u2, hu, wu⟩ := hu
  refine ⟨_, pe_slice sl_list h hl hu, fun B S H σ ρ Φ Q er q hd => w B S H σ ρ _ _ er q fun d v H1 p1 s1 r1 => wl B S H1 σ ρ _ _ (er.go s1) p1 fun l H2 p2 s2 => wu B S H2 σ ρ _ _ ((er.go s1).go s2) p2 fun u H3 p3 s3 => ?_⟩
  cases d <;> first | exact p3.elim | skip
  obtain ⟨a, xs, rfl, lr, rs⟩ := rep_lst ((r1.same s2).same s3)
  refine ⟨a, xs, rfl, lr.sq, fun p hp => hd _ _ p H3 p3 ((s1.trans s2).trans s3) hp ?_⟩
  unfold cutD cutV
  rw [← rs.len]
  exact (rs.drop _).take _
noncomputable abbrev fCat (ta tb : E3) : A3 := fun ρ Φ => ta ρ fun x => tb ρ fun y => match x, y with | .lst ds, .lst es => ds.length + es.length ≤ sizeLine ∧ Φ (ds ++ es) | _, _ => False
noncomputable def rCatA (K : PySem.W.Frag) : R2 := fun x y H Q => ∃ l b xs zs, x = .ref l ∧ y = .ref b ∧ SqL K H l xs ∧ SqL K H b zs ∧ xs.length + zs.length ≤ sizeLine ∧ ∀ p, H p = none → Q (.ref p) (upd H p (.lst (xs ++ zs)))
theorem op_catA : OpR X (binaryOp .Add) (rCatA X.K) := by
  intro pins s σ H x y v u Q I rx ry h
  obtain ⟨l, b, xs, zs, rfl, rfl, hH, hB, hz, q⟩ := h
  cases rx
  cases ry
  obtain ⟨its, r, pl, hl⟩ := I.list hH
  obtain ⟨its2, r2, pl2, hl2⟩ := I.list hB
  have e1 := r.length
  have e2 := r2.length
  refine add_list_gen pl pl2 ?_ (by rw [List.size_toArray, List.size_toArray]; omega)
  have ea : its.toArray ++ its2.toArray = (its ++ its2).toArray := by simp
  rw [ea]
  exact ⟨.ref _, _, I.lnew (t' := s.toks) (r.append r2) (by rw [List.length_append]; omega), rfl, q _ I.fresh⟩
theorem pf_cat (ha : PD X a ta) (hb : PD X b tb) : PF X (.BinOp a .Add b pos) (fCat ta tb) := by
  obtain ⟨t2, h, w⟩ := ha; obtain ⟨u2, g, z⟩ := hb
  refine ⟨_, pe_op op_catA h g, fun B S H σ ρ Φ Q er q hd => w B S H σ ρ _ _ er q fun x u H1 p1 s1 r1 => z B S H1 σ ρ _ _ (er.go s1) p1 fun y v H2 p2 s2 r2 => ?_⟩
  match x, y, p2 with
  | .lst ds, .lst es, p2 =>
    obtain ⟨a, xs, rfl, lr, rs⟩ := rep_lst (r1.same s2)
    obtain ⟨a', xs', rfl, lr', rs'⟩ := rep_lst r2
    exact ⟨a, a', xs, xs', rfl, rfl, lr.sq, lr'.sq, by rw [← rs.len, ← rs'.len]; exact p2.1, fun p hp => hd _ _ p H2 p2.2 (s1.trans s2) hp (rs.app rs')⟩
end
noncomputable def CallD (X : Cx) (f : Value) (r3 : Con) : Prop := ∃ r, CallR X f r ∧ ∀ S H ds vs Φ Q, SOk S H → Reps X.K S H ds vs → r3 ds Φ → Hand X.K S H Φ Q → r vs H Q
noncomputable abbrev dB (r : Con) (t : A3) : E3 := fun ρ Φ => t ρ fun ds => r ds Φ
section
variable {X : Cx} {x : Str} {p pos : Pos} {e : Expr} {es : List Expr} {t tr : A3} {te tb : E3} {id T : String} {r : Con}
theorem pd_callB (hc : CallD X (.builtin id) r) (hg : Gl X x) (hm : X.mg x = none) (hv : bootBuiltins x = some (.builtin id)) (ha : PAD X (e :: es) t) (hn : x ≠ "__name__" := by decide) (hdb : (x == ("__debug__" : Str)) = false := by decide)
    (he : starEach (e :: es) X.env = (false, eval e X.env) :: starEach es X.env := by rfl) (hpl : (backTo pos (starEach es X.env)).any (·.1) = false := by rfl) : PD X (.Call (.Name x p) (e :: es) [] pos) (dB r t) := by
  obtain ⟨r2, hc, wc⟩ := hc; obtain ⟨t2, h, w⟩ := ha
  exact ⟨_, pe_callB hc hg hm hv h hn hdb he hpl, fun B S H σ ρ Φ Q er q hd => w B S H σ ρ _ _ er q fun ds vs H1 p1 s1 r1 => wc S H1 ds vs Φ Q (er.ok.same s1) r1 p1 (hd.go s1)⟩
theorem pd_callTy (hc : CallD X (.type T) r) (hg : Gl X x) (hm : X.mg x = none) (hv : bootBuiltins x = some (.type T)) (ha : PAD X (e :: es) t) (hn : x ≠ "__name__" := by decide) (hdb : (x == ("__debug__" : Str)) = false := by decide)
    (he : starEach (e :: es) X.env = (false, eval e X.env) :: starEach es X.env := by rfl) (hpl : (backTo pos (starEach es X.env)).any (·.1) = false := by rfl) : PD X (.Call (.Name x p) (e :: es) [] pos) (dB r t) := by
  obtain ⟨r2, hc, wc⟩ := hc; obtain ⟨t2, h, w⟩ := ha
  exact ⟨_, pe_callTy hc hg hm hv h hn hdb he hpl, fun B S H σ ρ Φ Q er q hd => w B S H σ ρ _ _ er q fun ds vs H1 p1 s1 r1 => wc S H1 ds vs Φ Q (er.ok.same s1) r1 p1 (hd.go s1)⟩
noncomputable abbrev cLen : Con
  | [.lst ds], Φ => Φ (.int ds.length)
  | [.tup ds], Φ => Φ (.int ds.length)
  | _, _ => False
theorem b_len : CallD X (.builtin "len") cLen := ⟨_, call_len_seq, fun S H ds vs Φ Q so r h hd => by
  match ds, h with
  | [.lst ds], h =>
    simp only [Reps] at r
    obtain ⟨v, _, rfl, rv, rfl⟩ := r
    obtain ⟨a, xs, rfl, lr, rs⟩ := rep_lst rv
    exact ⟨a, xs, rfl, .inl lr.sq, hd _ _ H h (Same.refl _) (by rw [rs.len]; exact Rep.int)⟩
  | [.tup ds], h =>
    simp only [Reps] at r
    obtain ⟨v, _, rfl, rv, rfl⟩ := r
    obtain ⟨a, xs, rfl, lr, rs⟩ := rep_tup rv
    exact ⟨a, xs, rfl, .inr lr, hd _ _ H h (Same.refl _) (by rw [rs.len]; exact Rep.int)⟩⟩
noncomputable abbrev cAbs : Con
  | [.int i], Φ => Φ (.int (i.natAbs : Int))
  | _, _ => False
theorem b_abs : CallD X (.builtin "abs") cAbs := ⟨_, call_abs, fun S H ds vs Φ Q so r h hd => by
  match ds, h with
  | [.int i], h =>
    simp only [Reps, Rep] at r
    obtain ⟨v, _, rfl, rfl, rfl⟩ := r
    have e : (if i < 0 then -i else i) = (i.natAbs : Int) := by split <;> omega
    exact ⟨i, rfl, hd _ _ H h (Same.refl _) (by rw [e]; exact Rep.int)⟩⟩
noncomputable abbrev cTuple : Con
  | [.lst ds], Φ => Φ (.tup ds)
  | [.tup ds], Φ => Φ (.tup ds)
  | _, _ => False
theorem b_tuple : CallD X (.type "tuple") cTuple := ⟨_, call_tuple_of, fun S H ds vs Φ Q so r h hd => by
  match ds, h with
  | [.lst ds], h =>
    simp only [Reps] at r
    obtain ⟨v, _, rfl, rv, rfl⟩ := r
    obtain ⟨a, xs, rfl, lr, rs⟩ := rep_lst rv
    exact ⟨a, xs, rfl, .inl ⟨lr.sq, fun l hl => hd _ _ _ h (same_new hl) (Rep.newTup hl rs)⟩⟩
  | [.tup ds], h =>
    simp only [Reps] at r
    obtain ⟨v, _, rfl, rv, rfl⟩ := r
    obtain ⟨a, xs, rfl, lr, rs⟩ := rep_tup rv
    exact ⟨a, xs, rfl, .inr ⟨lr, hd _ _ _ h (Same.refl _) (Rep.tup lr rs)⟩⟩⟩
noncomputable abbrev fList (te : E3) : A3 := fun ρ Φ => te ρ fun d => match d with | .lst ds => Φ ds | .tup ds => Φ ds | _ => False
theorem pf_list (hg : Gl X x) (hm : X.mg x = none) (hv : bootBuiltins x = some (.type "list")) (ha : PD X e te) (hn : x ≠ "__name__" := by decide) (hdb : (x == ("__debug__" : Str)) = false := by decide)
    (he : starEach [e] X.env = [(false, eval e X.env)] := by rfl) : PF X (.Call (.Name x p) [e] [] pos) (fList te) := by
  obtain ⟨t2, h, w⟩ := ha
  refine ⟨_, pe_callTy call_list_of hg hm hv (pa_cons h pa_nil he) hn hdb he rfl, fun B S H σ ρ Φ Q er q hd => w B S H σ ρ _ _ er q fun d v H1 p1 s1 r1 => ?_⟩
  cases d <;> first | exact p1.elim | skip
  · obtain ⟨a, xs, rfl, lr, rs⟩ := rep_tup r1
    exact ⟨a, xs, rfl, .inr lr, fun l hl => hd _ _ l H1 p1 s1 hl rs⟩
  · obtain ⟨a, xs, rfl, lr, rs⟩ := rep_lst r1
    exact ⟨a, xs, rfl, .inl lr.sq, fun l hl => hd _ _ l H1 p1 s1 hl rs⟩
noncomputable def isInt : D → Bool
  | .int _ => true
  | .bl _ => true
  | _ => false
noncomputable def isBool : D → Bool
  | .bl _ => true
  | _ => false
noncomputable def isTup : D → Bool
  | .tup _ => true
  | _ => false
noncomputable def isLst : D → Bool
  | .lst _ => true
  | _ => false
noncomputable def tyD : D → String
  | .non => "NoneType"
  | .bl _ => "bool"
  | .int _ => "int"
  | .str _ => "str"
  | .tup _ => "tuple"
  | .lst _ => "list"
theorem isinst_D {pins : List (Addr × Obj)} {σ : L2.St} {H : Hp} {s : Shared} {A : Around} {E : Value → Shared → Prop} {Q : Value → Shared → Prop} {c : Value} {b : Bool} {S : Addr → Prop} {d : D} {x : V} {u : Value} (I : Inv X pins σ H s) (rx : RelV x u) (rd : Rep X.K S H d x)
    (e : PySem.W.kitOne X.K (.type (tyD d)) c = some b) (h : ∀ tk, Q (.bool b) { s with toks := tk }) : wpAny (model X.prog X.w) A (call (.builtin "isinstance") [u, c]) Q E s := by
  cases d with
  | non => cases rep_non rd; exact isinst_ok I rx .non e h
  | bl k => cases rep_bl rd; exact isinst_ok I rx (.bl k) e h
  | int k => cases rep_int rd; exact isinst_ok I rx (.int k) e h
  | str k => cases rep_str rd; exact isinst_ok I rx (.str k) e h
  | tup ds =>
    obtain ⟨a, xs, rfl, lr, rs⟩ := rep_tup rd
    cases (show u = Value.ref a from rx)
    obtain ⟨its, r', pl, hz⟩ := I.tuple lr
    obtain ⟨o, h1, h2, _⟩ := pl
    exact PySem.W.kia_one PySem.W.kitx_tuple I.kIn ⟨o, h1, h2⟩ e (fun z => by cases z) h
  | lst ds =>
    obtain ⟨a, xs, rfl, lr, rs⟩ := rep_lst rd
    cases (show u = Value.ref a from rx)
    obtain ⟨its, r', pl, hz⟩ := I.list lr.sq
    obtain ⟨o, n, h1, h2, _⟩ := pl
    exact PySem.W.kia_one PySem.W.kitx_list I.kIn ⟨o, h1, h2⟩ e (fun z => by cases z) h
noncomputable def TyFn (T : String) (f : D → Bool) : Prop := ∀ (K : PySem.W.Frag) (d : D), PySem.W.kitOne K (.type (tyD d)) (.type T) = some (f d)
theorem ty_int : TyFn "int" isInt := fun K d => by cases d <;> rfl
theorem ty_bool : TyFn "bool" isBool := fun K d => by cases d <;> rfl
theorem ty_tuple : TyFn "tuple" isTup := fun K d => by cases d <;> rfl
theorem ty_list : TyFn "list" isLst := fun K d => by cases d <;> rfl
noncomputable abbrev dIsT (f : D → Bool) (te : E3) : E3 := fun ρ Φ => te ρ fun d => Φ (.bl (f d))
theorem pd_isinst {f : D → Bool} {y : Str} {py : Pos} (hT : TyFn T f) (hg : Gl X x) (hm : X.mg x = none) (hv : bootBuiltins x = some (.builtin "isinstance")) (hgy : Gl X y) (hmy : X.mg y = none) (hvy : bootBuiltins y = some (.type T)) (ha : PD X e te)
    (hn : x ≠ "__name__" := by decide) (hdb : (x == ("__debug__" : Str)) = false := by decide) (hny : y ≠ "__name__" := by decide) (hdy : (y == ("__debug__" : Str)) = false := by decide)
    (he : starEach [e, .Name y py] X.env = [(false, eval e X.env), (false, eval (.Name y py) X.env)] := by rfl) (he2 : starEach [.Name y py] X.env = [(false, eval (.Name y py) X.env)] := by rfl) :
    PD X (.Call (.Name x p) [e, .Name y py] [] pos) (dIsT f te) := by
  obtain ⟨t2, h, w⟩ := ha
  have cr : CallR X (.builtin "isinstance") (fun xs H Q => ∃ S d v, xs = [v, .ty T] ∧ Rep X.K S H d v ∧ Q (.bl (f d)) H) := fun pins s σ H xs us Q I rs ⟨S, d, v, e1, rd, q⟩ => by
    subst e1
    obtain ⟨u, u2, rfl, r1, r2⟩ := vals2 rs
    cases (show u2 = Value.type T from r2)
    exact isinst_D I r1 rd (hT X.K d) fun tk => ⟨.bl _, H, I.tok tk, rfl, q⟩
  refine ⟨_, pe_callB cr hg hm hv (pa_cons h (pa_cons (pe_bltn hgy hmy hvy (show RelV (.ty T) (.type T) from rfl) hny hdy) pa_nil he2) (by rw [he, he2])) hn hdb (by rw [he, he2]) (by rw [he2]; rfl), fun B S H σ ρ Φ Q er q hd => w B S H σ ρ _ _ er q fun d v H1 p1 s1 r1 => ?_⟩
  exact ⟨S, d, v, rfl, r1, hd _ _ H1 p1 s1 Rep.bl⟩
end
end D3

set_option Elab.async false
set_option linter.all false
set_option maxRecDepth 100000
set_option maxHeartbeats 4000000
namespace D3
open PySem PySem.Spec PyProof.Rows L2
section
variable {K : PySem.W.Frag} {B : Bs} {S : Addr → Prop} {H : Hp} {σ : L2.St} {ρ : Fr3} {i : Nat} {d : D} {ds es : List D} {v : V} {a p : Addr} {xs ys : List V}
theorem ER.take (er : ER K B S H σ ρ) (hp : H p = none) (r : Reps K S H ds xs) : ER K B (fun b => S b ∨ b = p) (upd H p (.lst xs)) (σ.set i (some (.ref p))) (ρ.set i (.own ds)) := by
  have sm := same_new (o := .lst xs) hp
  have hL : ∀ b ys, LR K S H b ys → LR K (fun b => S b ∨ b = p) (upd H p (.lst xs)) b ys := fun b ys q => by
    rcases q with ⟨n, q⟩ | q
    · have hb : b ≠ p := by
        rintro rfl
        rcases q with q | ⟨o, q⟩ <;> rw [hp] at q <;> cases q
      refine .inl ⟨fun z => z.elim n hb, ?_⟩
      rcases q with q | ⟨o, q⟩
      · exact .inl (sm _ _ q)
      · exact .inr ⟨o, sm _ _ q⟩
    · exact .inr q
  have mv : ∀ {c : D} {w : V}, Rep K S H c w → Rep K (fun b => S b ∨ b = p) (upd H p (.lst xs)) c w := fun {c w} q => Rep.map (same_tup sm) hL c w q
  have mvs : ∀ {c : List D} {w : List V}, Reps K S H c w → Reps K (fun b => S b ∨ b = p) (upd H p (.lst xs)) c w := fun {c w} q => Reps.map (same_tup sm) hL c w q
  have h0 : B.H0 p = none := er.same.free hp
  exact {
    len := by rw [List.length_set, List.length_set]; exact er.len
    same := er.same.trans sm
    sub := fun b h => .inl (er.sub b h)
    ok0 := er.ok0
    ok := fun b h => by
      by_cases hb : b = p
      · subst hb; exact ⟨_, upd_same⟩
      · obtain ⟨o, e⟩ := er.ok b (h.resolve_right hb)
        exact ⟨o, sm _ _ e⟩
    val := fun j c q => by
      rw [List.getElem?_set] at q
      split at q
      · first | cases q | (split at q <;> cases q)
      · rename_i hij
        obtain ⟨w, e, r'⟩ := er.val j c q
        exact ⟨w, by rw [List.getElem?_set_ne hij]; exact e, mv r'⟩
    own := fun j c q => by
      rw [List.getElem?_set] at q
      split at q
      · rename_i hij
        subst hij
        split at q
        · rename_i hl
          cases q
          exact ⟨p, xs, by rw [List.getElem?_set_self (by rw [er.len]; exact hl)], .inr rfl, h0, upd_same, mvs r⟩
        · cases q
      · rename_i hij
        obtain ⟨b, zs, e, hs, hz, hl, r'⟩ := er.own j c q
        exact ⟨b, zs, by rw [List.getElem?_set_ne hij]; exact e, .inl hs, hz, sm _ _ hl, mvs r'⟩
    uq := fun j k b c c' q1 q2 e1 e2 => by
      rw [List.getElem?_set] at q1 q2
      split at q1
      · rename_i h1
        subst h1
        split at q1
        · rename_i hl
          rw [List.getElem?_set_self (by rw [er.len]; exact hl)] at e1
          cases e1
          split at q2
          · rename_i h2; exact h2
          · rename_i h2
            obtain ⟨b, zs, e, hs, hz, hl', r'⟩ := er.own k c' q2
            rw [List.getElem?_set_ne h2, e] at e2
            cases e2
            rw [hp] at hl'; cases hl'
        · cases q1
      · rename_i h1
        split at q2
        · rename_i h2
          subst h2
          split at q2
          · rename_i hl
            rw [List.getElem?_set_self (by rw [er.len]; exact hl)] at e2
            cases e2
            obtain ⟨b, zs, e, hs, hz, hl', r'⟩ := er.own j c q1
            rw [List.getElem?_set_ne h1, e] at e1
            cases e1
            rw [hp] at hl'; cases hl'
          · cases q2
        · rename_i h2
          rw [List.getElem?_set_ne h1] at e1
          rw [List.getElem?_set_ne h2] at e2
          exact er.uq j k b c c' q1 q2 e1 e2
    gh := fun q hq => mv (er.gh q hq) }
theorem ER.change (er : ER K B S H σ ρ) (ho : ρ[i]? = some (.own ds)) (ha : σ[i]? = some (some (.ref a))) (hs : S a) (h0 : B.H0 a = none) (hl : H a = some (.lst xs)) (r : Reps K S H es ys) : ER K B S (upd H a (.lst ys)) σ (ρ.set i (.own es)) := by
  have hT : ∀ b zs, SqT K H b zs → SqT K (upd H a (.lst ys)) b zs := fun b zs q => by
    rcases q with (q | ⟨o, q⟩) | q
    · exact .inl (.inl (by rw [upd_ne (ne_of q hl (fun z => by cases z))]; exact q))
    · exact .inl (.inr ⟨o, by rw [upd_ne (ne_of q hl (fun z => by cases z))]; exact q⟩)
    · exact .inr q
  have hL : ∀ b zs, LR K S H b zs → LR K S (upd H a (.lst ys)) b zs := fun b zs q => by
    rcases q with ⟨n, q⟩ | q
    · have hb : b ≠ a := fun z => n (z ▸ hs)
      refine .inl ⟨n, ?_⟩
      rcases q with q | ⟨o, q⟩
      · exact .inl (by rw [upd_ne hb]; exact q)
      · exact .inr ⟨o, by rw [upd_ne hb]; exact q⟩
    · exact .inr q
  have mv : ∀ {c : D} {w : V}, Rep K S H c w → Rep K S (upd H a (.lst ys)) c w := fun {c w} q => Rep.map hT hL c w q
  have mvs : ∀ {c : List D} {w : List V}, Reps K S H c w → Reps K S (upd H a (.lst ys)) c w := fun {c w} q => Reps.map hT hL c w q
  have hi : i < ρ.length := (List.getElem?_eq_some_iff.mp ho).1
  exact {
    len := by rw [List.length_set]; exact er.len
    same := fun b o e => by
      have hb : b ≠ a := ne_of_none e h0
      rw [upd_ne hb]; exact er.same b o e
    sub := er.sub
    ok0 := er.ok0
    ok := fun b h => by
      by_cases hb : b = a
      · subst hb; exact ⟨_, upd_same⟩
      · obtain ⟨o, e⟩ := er.ok b h
        exact ⟨o, by rw [upd_ne hb]; exact e⟩
    val := fun j c q => by
      rw [List.getElem?_set] at q
      split at q
      · first | cases q | (split at q <;> cases q)
      · obtain ⟨w, e, r'⟩ := er.val j c q
        exact ⟨w, e, mv r'⟩
    own := fun j c q => by
      rw [List.getElem?_set] at q
      split at q
      · rename_i hij
        subst hij
        try rw [if_pos hi] at q
        cases q
        exact ⟨a, ys, ha, hs, h0, upd_same, mvs r⟩
      · rename_i hij
        obtain ⟨b, zs, e, hsb, hz, hlb, r'⟩ := er.own j c q
        have hb : b ≠ a := fun z => hij (er.uq i j a ds c ho q ha (z ▸ e))
        exact ⟨b, zs, e, hsb, hz, by rw [upd_ne hb]; exact hlb, mvs r'⟩
    uq := fun j k b c c' q1 q2 e1 e2 => by
      have back : ∀ {m : Nat} {c : List D}, (ρ.set i (Sl.own es))[m]? = some (.own c) → ∃ c', ρ[m]? = some (.own c') := fun {m c} q => by
        rw [List.getElem?_set] at q
        split at q
        · rename_i h; subst h; exact ⟨_, ho⟩
        · exact ⟨_, q⟩
      obtain ⟨c1, q1⟩ := back q1
      obtain ⟨c2, q2⟩ := back q2
      exact er.uq j k b c1 c2 q1 q2 e1 e2
    gh := fun q hq => mv (er.gh q hq) }
theorem ER.freeze (er : ER K B S H σ ρ) (ho : ρ[i]? = some (.own ds)) : ∃ S', ER K B S' H σ (ρ.set i (.val (.lst ds))) := by
  obtain ⟨a, xs, ea, hs, h0, hl, r⟩ := er.own i ds ho
  have hi : i < ρ.length := (List.getElem?_eq_some_iff.mp ho).1
  have sb : ∀ b, (S b ∧ b ≠ a) → S b := fun b h => h.1
  refine ⟨fun b => S b ∧ b ≠ a, ?_⟩
  exact {
    len := by rw [List.length_set]; exact er.len
    same := er.same
    sub := fun b h => ⟨er.sub b h, fun z => by subst z; obtain ⟨o, e⟩ := er.ok0 b h; rw [h0] at e; cases e⟩
    ok0 := er.ok0
    ok := fun b h => er.ok b h.1
    val := fun j c q => by
      rw [List.getElem?_set] at q
      split at q
      · rename_i hij
        subst hij
        try rw [if_pos hi] at q
        cases q
        exact ⟨.ref a, ea, Rep.lst (.inl ⟨fun z => z.2 rfl, .inl hl⟩) (r.sub sb)⟩
      · obtain ⟨w, e, r'⟩ := er.val j c q
        exact ⟨w, e, r'.sub sb⟩
    own := fun j c q => by
      rw [List.getElem?_set] at q
      split at q
      · first | cases q | (split at q <;> cases q)
      · rename_i hij
        obtain ⟨b, zs, e, hsb, hz, hlb, r'⟩ := er.own j c q
        have hb : b ≠ a := fun z => hij (er.uq i j a ds c ho q ea (z ▸ e))
        exact ⟨b, zs, e, ⟨hsb, hb⟩, hz, hlb, r'.sub sb⟩
    uq := fun j k b c c' q1 q2 e1 e2 => by
      rw [List.getElem?_set] at q1 q2
      split at q1
      · first | cases q1 | (split at q1 <;> cases q1)
      · split at q2
        · first | cases q2 | (split at q2 <;> cases q2)
        · exact er.uq j k b c c' q1 q2 e1 e2
    gh := fun q hq => (er.gh q hq).sub sb }
end
section
variable {X : Cx} {e b : Expr} {te tb : E3} {tf : A3} {pos : Pos} {sts : List Stmt} {t : S3}
noncomputable abbrev sOwn (i : Nat) (tf : A3) : S3 := fun Φ ρ => tf ρ fun ds => Φ (.nx (ρ.set i (.own ds)))
theorem psd_own {i : Nat} {x : Str} {pos' : Pos} (hN : X.N.Nodup) (hi : X.N[i]? = some x) (hx : Loc X.env.scope x) (he : PF X e tf) (hs : swapsWith e (some (.Name x pos')) pos.line X.env = pure false := by rfl)
    (hf : X.fn x = true ∨ X.env.scope.names.lookup x = some .local := by first | exact .inl rfl | exact .inr rfl | assumption) : PSD X (.Assign [.Name x pos'] e pos) (sOwn i tf) := by
  obtain ⟨t2, h, w⟩ := he
  exact ⟨_, ps_set hN hi hx h hs hf, fun B S H σ ρ Φ D' er q ok => w B S H σ ρ _ _ er q fun ds xs p H1 hΦ s hp r => ok.nx _ _ _ _ hΦ ((er.go s).take hp r)⟩
noncomputable abbrev sFreeze (i : Nat) (t : S3) : S3 := fun Φ ρ => match ρ[i]? with | some (.own ds) => t Φ (ρ.set i (.val (.lst ds))) | _ => t Φ ρ
theorem psd_freeze (i : Nat) (h : PSDs X sts t) : PSDs X sts (sFreeze i t) := by
  obtain ⟨t2, h, w⟩ := h
  refine ⟨_, h, fun B S H σ ρ Φ D' er q ok => ?_⟩
  unfold sFreeze at q
  split at q
  · rename_i ds e
    obtain ⟨S', er'⟩ := er.freeze e
    exact w B S' H σ _ Φ D' er' q ok
  · exact w B S H σ ρ Φ D' er q ok
noncomputable abbrev sApp (i : Nat) (te : E3) : S3 := fun Φ ρ => match ρ[i]? with | some (.own ds) => te ρ fun d => ds.length < sizeLine ∧ Φ (.nx (ρ.set i (.own (ds ++ [d])))) | _ => False
theorem psd_append {o : Expr} {i : Nat} {apos cpos : Pos} (ho : PE X o (tVar i)) (he : PD X e te)
    (hbase : attributeBase o "append" X.env (eval o X.env) = eval o X.env := by rfl)
    (hfew : ((backTo cpos (starEach [e] X.env)).all (fun x => !x.1) && (backToKw cpos (keywordEach [] X.env)).all (fun x => x.1.isSome)
      && decide (([e] : List Expr).length + ([] : List Keyword).length + (if ([] : List Keyword).isEmpty then 0 else 1) < 30)) = true := by rfl)
    (hline : (apos.endLine == cpos.line) = true := by rfl) (hst : starEach [e] X.env = [(false, eval e X.env)] := by rfl)
    (hs : swapsWith (.Call (.Attribute o "append" apos) [e] [] cpos) none pos.line X.env = pure false := by rfl) : PSD X (.Expr (.Call (.Attribute o "append" apos) [e] [] cpos) pos) (sApp i te) := by
  obtain ⟨t2, h, w⟩ := he
  refine ⟨_, ps_expr (pe_bm PySem.F.plainAttrs_list PySem.F.slot_list_append PySem.F.type_list_append mt_append ho (pa_cons h pa_nil hst) hbase hfew hline hst rfl) hs, fun B S H σ ρ Φ D' er q ok => ?_⟩
  unfold sApp at q
  split at q
  · rename_i ds e'
    obtain ⟨a, xs, ea, hsa, h0, hl, r⟩ := er.own i ds e'
    refine ⟨.ref a, ea, .inl ⟨rfl, xs, SqL.of hl⟩, w B S H σ ρ _ _ er q fun d v H1 p s rv => ?_⟩
    exact ⟨a, xs, v, rfl, rfl, s _ _ hl, by rw [← r.len]; exact p.1, ok.nx _ _ _ _ p.2 ((er.go s).change e' ea hsa h0 (s _ _ hl) ((r.same s).app (Reps.cons rv Reps.nil)))⟩
  · exact q.elim
noncomputable abbrev sSetIx (i : Nat) (ti te : E3) : S3 := fun Φ ρ => te ρ fun d => match ρ[i]? with
  | some (.own ds) => ti ρ fun k => match k with
    | .int j => onS (ixN ds.length j) fun m => Φ (.nx (ρ.set i (.own (ds.set m d))))
    | _ => False
  | _ => False
theorem psd_setIx {o k : Expr} {i : Nat} {tk : E3} {p2 : Pos} (ho : PE X o (tVar i)) (hk : PD X k tk) (he : PD X e te)
    (ha : ∀ v, assign (.Subscript o k p2) X.env v = (do
      let ov ← holding [v] (eval o X.env)
      let iv ← holding [v, ov] (eval k X.env)
      standAt p2
      holding [v, ov, iv] (setItem ov iv v)
      release [v, ov, iv] []) := by intro _; rfl)
    (hs : swapsWithSole [.Subscript o k p2] e pos.line X.env = pure false := by rfl) (hw : swappedStores [.Subscript o k p2] e X.env = pure none := by rfl)
    (h1 : (assignEach [.Subscript o k p2] X.env).map (·.2) = [assign (.Subscript o k p2) X.env] := by rfl) : PSD X (.Assign [.Subscript o k p2] e pos) (sSetIx i tk te) := by
  obtain ⟨t2, h, w⟩ := he; obtain ⟨k2, hk, wk⟩ := hk
  refine ⟨_, ps_asg h (pg_sub ho hk set_list ha) hs hw h1, fun B S H σ ρ Φ D' er q ok => w B S H σ ρ _ _ er q fun d v H1 p1 s1 r1 => ?_⟩
  cases e0 : ρ[i]? with
  | none => rw [e0] at p1; exact p1.elim
  | some sl =>
    rw [e0] at p1
    cases sl with
    | un => exact p1.elim
    | val _ => exact p1.elim
    | own ds =>
      obtain ⟨a, xs, ea, hsa, h0, hl, r⟩ := (er.go s1).own i ds e0
      refine ⟨.ref a, ea, wk B S H1 σ ρ _ _ (er.go s1) p1 fun c u H2 p2 s2 r2 => ?_⟩
      cases c <;> first | exact p2.elim | skip
      rename_i j
      obtain ⟨m, e1, p2⟩ := of_onS (show onS (ixN ds.length j) _ from p2)
      · refine ⟨a, xs, j, m, rfl, rep_int r2, s2 _ _ hl, by rw [← r.len]; exact e1, ok.nx _ _ _ _ p2 (((er.go s1).go s2).change e0 ea hsa h0 (s2 _ _ hl) ((r.same s2).set m (r1.same s2)))⟩
noncomputable abbrev dIxO (i : Nat) (tk : E3) : E3 := fun ρ Φ => match ρ[i]? with
  | some (.own ds) => tk ρ fun k => match k with
    | .int j => onS (atI ds j) Φ
    | _ => False
  | _ => False
theorem pd_ixO {o k : Expr} {i : Nat} {tk : E3} (ho : PE X o (tVar i)) (hk : PD X k tk) (hs : PlainIx k) : PD X (.Subscript o k pos) (dIxO i tk) := by
  obtain ⟨k2, hk, wk⟩ := hk
  refine ⟨_, pe_ix ix_list ho hk hs, fun B S H σ ρ Φ Q er q hd => ?_⟩
  unfold dIxO at q
  split at q
  · rename_i ds e0
    obtain ⟨a, xs, ea, hsa, h0, hl, r⟩ := er.own i ds e0
    refine ⟨.ref a, ea, wk B S H σ ρ _ _ er q fun c u H2 p2 s2 r2 => ?_⟩
    cases c <;> first | exact p2.elim | skip
    rename_i j
    obtain ⟨d, e1, p2⟩ := of_onS (show onS (atI ds j) Φ from p2)
    · obtain ⟨w, ew, rw'⟩ := atI_rep (r.same s2) e1
      exact ⟨a, xs, j, w, rfl, rep_int r2, SqL.of (s2 _ _ hl), ew, hd _ _ H2 p2 s2 rw'⟩
  · exact q.elim
end
end D3

set_option Elab.async false
set_option linter.all false
set_option maxRecDepth 100000
set_option maxHeartbeats 4000000
namespace D3
open PySem PySem.Spec PyProof.Rows L2
noncomputable def clOf (env : Env) : List (Str × NameKind) → List (Str × Addr) → List (Str × Addr)
  | [], cs => cs
  | (n, k) :: r, cs => if (k == .free) = true then (match env.cells.lookup n with | some c => clOf env r ((n, c) :: cs) | none => clOf env r cs) else clOf env r cs
theorem closure_of {scope : Scope} {env : Env} (h : ∀ p ∈ scope.names, p.2 = .free → ∃ c, env.cells.lookup p.1 = some c) : closureFor scope env = pure (clOf env scope.names []) := by
  unfold closureFor
  have key : ∀ (l : List (Str × NameKind)) (cs : List (Str × Addr)), (∀ p ∈ l, p.2 = .free → ∃ c, env.cells.lookup p.1 = some c) →
      (forIn l cs fun x r => match x with | (name, kind) => if (kind == NameKind.free) = true then (do let a ← cellOf env name; pure (ForInStep.yield ((name, a) :: r))) else pure (ForInStep.yield r) : Sem (List (Str × Addr))) = pure (clOf env l cs) := by
    intro l
    induction l with
    | nil => intro cs _; rfl
    | cons p r ih =>
      intro cs hl
      obtain ⟨n, k⟩ := p
      rw [List.forIn_cons]
      have hr := fun cs' => ih cs' fun q hq => hl q (List.mem_cons_of_mem _ hq)
      unfold clOf
      by_cases hk : (k == NameKind.free) = true
      · obtain ⟨c, hc⟩ := hl (n, k) List.mem_cons_self (by simpa using hk)
        have hc' : List.lookup n env.cells = some c := hc
        simp only [hk, if_true, hc', cellOf, pure_bind]
        exact hr _
      · simp only [hk, Bool.false_eq_true, if_false, pure_bind]
        exact hr _
  have := key scope.names [] h
  exact (bind_pure _).trans this
theorem clOf_sub {env : Env} : ∀ {l : List (Str × NameKind)} {cs : List (Str × Addr)} {y : Str} {c : Addr}, (∀ y c, cs.lookup y = some c → env.cells.lookup y = some c) → (clOf env l cs).lookup y = some c → env.cells.lookup y = some c
  | [], cs, y, c, h, e => h y c e
  | (n, k) :: r, cs, y, c, h, e => by
    unfold clOf at e
    split at e
    · split at e
      · rename_i c' hc
        refine clOf_sub (l := r) (fun z d q => ?_) e
        rw [List.lookup_cons] at q
        split at q
        · rename_i hz
          cases q
          have : z = n := by simpa using hz
          rw [this]; exact hc
        · exact h z d q
      · exact clOf_sub h e
    · exact clOf_sub h e
theorem clOf_keep {env : Env} : ∀ {l : List (Str × NameKind)} {cs : List (Str × Addr)} {y : Str}, (∃ c, cs.lookup y = some c) → ∃ c, (clOf env l cs).lookup y = some c
  | [], cs, y, h => h
  | (n, k) :: r, cs, y, h => by
    unfold clOf
    split
    · split
      · rename_i c' hc
        refine clOf_keep (l := r) ?_
        rw [List.lookup_cons]
        split
        · exact ⟨_, rfl⟩
        · exact h
      · exact clOf_keep h
    · exact clOf_keep h
theorem clOf_has {env : Env} : ∀ {l : List (Str × NameKind)} {cs : List (Str × Addr)} {y : Str}, (y, NameKind.free) ∈ l → (∃ c, env.cells.lookup y = some c) → ∃ c, (clOf env l cs).lookup y = some c
  | [], cs, y, h, _ => by cases h
  | (n, k) :: r, cs, y, h, he => by
    rcases List.mem_cons.mp h with q | q
    · cases q
      obtain ⟨c, hc⟩ := he
      unfold clOf
      rw [if_pos (by rfl), hc]
      refine clOf_keep ⟨c, ?_⟩
      rw [List.lookup_cons]
      simp
    · unfold clOf
      split
      · split
        · exact clOf_has q he
        · exact clOf_has q he
      · exact clOf_has q he
noncomputable def cmpOk (scope : Scope) (env : Env) (xs M N : List Str) : Bool :=
  scope.kind == .function && scope.names.all (fun p => p.2 != .cell || scope.names.lookup p.1 == some .cell) && scope.names.all (fun p => p.2 != .free || env.kindOf p.1 == some .cell) &&
  scope.names.all (fun p => p.2 != .local || scope.names.lookup p.1 == some .local) && scope.names.all (fun p => p.2 == .local || p.2 == .free || p.2 == .globalImplicit || p.2 == .cell) &&
  xs.all (fun x => scope.names.lookup x == some .local || scope.names.lookup x == some .cell) && M.all (fun y => scope.names.lookup y == none || scope.names.lookup y == some .free || scope.names.lookup y == some .globalImplicit) && M.length == N.length && (M.zip N).all (fun p => p.1 == p.2 || scope.names.lookup p.1 == none)
noncomputable def cmpCx (X : Cx) (xs M : List Str) (scope : Scope) (C : Addr) (s : Shared) (H : Hp) (fp : List Addr) : Cx :=
  { X with N := xs ++ M, s₀ := s, H₀ := H, env := compEnvC scope (cellsFrom (C + 1) scope.names (clOf X.env scope.names [])) C X.env, outer := X.stack, ex := fp, fn := fun y => scope.names.lookup y == some .cell, pn := [], xe := fun _ _ => False }
theorem mem_of_lookup {α : Type} : ∀ {l : List (Str × α)} {y : Str} {k : α}, l.lookup y = some k → (y, k) ∈ l
  | [], y, k, h => by cases h
  | (n, j) :: r, y, k, h => by
    rw [List.lookup_cons] at h
    split at h
    · rename_i hz
      cases h
      have : y = n := by simpa using hz
      rw [this]; exact List.mem_cons_self
    · exact List.mem_cons_of_mem _ (mem_of_lookup h)
theorem lookup_relabel {env : Env} : ∀ {names : List (Str × NameKind)} {x : Str} {k : NameKind},
    (names.map fun (n, k) => if (k == NameKind.free && env.scope.kind == .function && env.kindOf n == some .cell) then (n, NameKind.cell) else (n, k)).lookup x = some k → ∃ j, names.lookup x = some j ∧ (j = k ∨ (j = .free ∧ k = .cell))
  | [], _, _, h => by simp at h
  | (n, j) :: r, x, k, h => by
    have ih := @lookup_relabel env r x k
    change List.lookup x ((if (j == NameKind.free && env.scope.kind == .function && env.kindOf n == some .cell) = true then (n, NameKind.cell) else (n, j)) :: _) = _ at h
    rw [List.lookup_cons]
    cases hx : x == n with
    | true =>
      by_cases hc : (j == NameKind.free && env.scope.kind == .function && env.kindOf n == some .cell) = true
      · rw [if_pos hc, List.lookup_cons] at h
        simp only [hx] at h
        cases h
        refine ⟨j, rfl, .inr ⟨?_, rfl⟩⟩
        have := (Bool.and_eq_true _ _ ▸ (Bool.and_eq_true _ _ ▸ hc).1).1
        simpa using this
      · rw [if_neg hc, List.lookup_cons] at h
        simp only [hx] at h
        cases h
        exact ⟨j, rfl, .inl rfl⟩
    | false =>
      by_cases hc : (j == NameKind.free && env.scope.kind == .function && env.kindOf n == some .cell) = true
      · rw [if_pos hc, List.lookup_cons] at h
        simp only [hx] at h
        exact ih h
      · rw [if_neg hc, List.lookup_cons] at h
        simp only [hx] at h
        exact ih h
structure CmpOk (X : Cx) (xs M : List Str) (scope : Scope) : Prop where
  kind : scope.kind = .function
  cells : ∀ p ∈ scope.names, p.2 = .cell → scope.names.lookup p.1 = some .cell
  free : ∀ p ∈ scope.names, p.2 = .free → X.env.kindOf p.1 = some .cell
  loc : ∀ p ∈ scope.names, p.2 = .local → scope.names.lookup p.1 = some .local
  xs : ∀ x ∈ xs, scope.names.lookup x = some .local ∨ scope.names.lookup x = some .cell
  around : ∀ y ∈ M, scope.names.lookup y = none ∨ scope.names.lookup y = some .free ∨ scope.names.lookup y = some .globalImplicit
  len : M.length = X.N.length
  same : ∀ (i : Nat) y, M[i]? = some y → X.N[i]? = some y ∨ scope.names.lookup y = none
theorem cmp_of {X : Cx} {xs M : List Str} {scope : Scope} (h : cmpOk scope X.env xs M X.N = true) : CmpOk X xs M scope := by
  unfold cmpOk at h
  simp only [Bool.and_eq_true, List.all_eq_true, Bool.or_eq_true, beq_iff_eq, bne_iff_ne, ne_eq] at h
  obtain ⟨⟨⟨⟨⟨⟨⟨⟨h1, h2⟩, h3⟩, h4⟩, h5⟩, h6⟩, h7⟩, h8⟩, h9⟩ := h
  exact ⟨h1, fun p hp e => (h2 p hp).resolve_left fun z => z e, fun p hp e => (h3 p hp).resolve_left fun z => z e, fun p hp e => (h4 p hp).resolve_left fun z => z e, h6, fun y hy => by
    rcases h7 y hy with (a | a) | a
    · exact .inl a
    · exact .inr (.inl a)
    · exact .inr (.inr a), h8, fun i y e => by
      have hi : i < M.length := (List.getElem?_eq_some_iff.mp e).1
      have hi2 : i < X.N.length := by rw [← h8]; exact hi
      have em : M[i] = y := (List.getElem?_eq_some_iff.mp e).2
      have hz : (M[i], X.N[i]) ∈ M.zip X.N := by
        have : (M.zip X.N)[i]? = some (M[i], X.N[i]) := by rw [List.getElem?_zip_eq_some]; exact ⟨by simp, by simp⟩
        exact List.mem_of_getElem? this
      rcases h9 _ hz with q | q
      · left
        have q' : M[i] = X.N[i] := q
        rw [← em, q']; simp
      · right; rw [← em]; exact q⟩
theorem cf_app : ∀ (names : List (Str × NameKind)) (n : Nat) (acc : List (Str × Addr)), cellsFrom n names acc = cellsFrom n names [] ++ acc
  | [], n, acc => rfl
  | (x, k) :: r, n, acc => by
    unfold cellsFrom
    split
    · rw [cf_app r (n + 1) ((x, n) :: acc), cf_app r (n + 1) [(x, n)], List.append_assoc]; rfl
    · exact cf_app r n acc
theorem cf_mem : ∀ {names : List (Str × NameKind)} {n : Nat} {acc : List (Str × Addr)} {y : Str} {c : Addr}, (y, c) ∈ cellsFrom n names acc → (y, c) ∈ acc ∨ ((y, NameKind.cell) ∈ names ∧ n ≤ c)
  | [], n, acc, y, c, h => .inl h
  | (x, k) :: r, n, acc, y, c, h => by
    unfold cellsFrom at h
    split at h
    · rename_i hk
      have hk : k = .cell := by simpa using hk
      rcases cf_mem h with z | z
      · rcases List.mem_cons.mp z with z | z
        · cases z; subst hk; exact .inr ⟨List.mem_cons_self, Nat.le_refl _⟩
        · exact .inl z
      · exact .inr ⟨List.mem_cons_of_mem _ z.1, Nat.le_of_succ_le z.2⟩
    · rcases cf_mem h with z | z
      · exact .inl z
      · exact .inr ⟨List.mem_cons_of_mem _ z.1, z.2⟩
theorem cf_keep : ∀ {names : List (Str × NameKind)} {n : Nat} {acc : List (Str × Addr)} {y : Str}, (∃ c, acc.lookup y = some c) → ∃ c, (cellsFrom n names acc).lookup y = some c
  | [], n, acc, y, h => h
  | (x, k) :: r, n, acc, y, h => by
    unfold cellsFrom
    split
    · refine cf_keep (names := r) ?_
      rw [List.lookup_cons]
      split
      · exact ⟨_, rfl⟩
      · exact h
    · exact cf_keep h
theorem cf_has : ∀ {names : List (Str × NameKind)} {n : Nat} {acc : List (Str × Addr)} {y : Str}, (y, NameKind.cell) ∈ names → ∃ c, (cellsFrom n names acc).lookup y = some c
  | [], n, acc, y, h => by cases h
  | (x, k) :: r, n, acc, y, h => by
    rcases List.mem_cons.mp h with q | q
    · cases q
      unfold cellsFrom
      rw [if_pos (by rfl)]
      refine cf_keep ⟨n, ?_⟩
      rw [List.lookup_cons]
      simp
    · unfold cellsFrom
      split
      · exact cf_has q
      · exact cf_has q
theorem cf_apart : ∀ {names : List (Str × NameKind)} {n : Nat} {acc : List (Str × Addr)}, (∀ p ∈ acc, p.2 < n) → (acc.Pairwise fun x y => x.2 ≠ y.2) → (cellsFrom n names acc).Pairwise fun x y => x.2 ≠ y.2
  | [], n, acc, _, h => h
  | (x, k) :: r, n, acc, hl, h => by
    unfold cellsFrom
    split
    · refine cf_apart (names := r) (fun p hp => ?_) (List.pairwise_cons.mpr ⟨fun p hp e => ?_, h⟩)
      · rcases List.mem_cons.mp hp with z | z
        · rw [z]; exact Nat.lt_succ_self _
        · exact Nat.lt_succ_of_lt (hl p z)
      · have e : n = p.2 := e
        exact absurd (hl p hp) (by rw [← e]; exact Nat.lt_irrefl _)
    · exact cf_apart hl h
theorem cf_cases {names : List (Str × NameKind)} {n : Nat} {cl : List (Str × Addr)} {y : Str} {c : Addr} (h : (cellsFrom n names cl).lookup y = some c) : (cellsFrom n names []).lookup y = some c ∨ ((cellsFrom n names []).lookup y = none ∧ cl.lookup y = some c) := by
  rw [cf_app, List.lookup_append] at h
  cases e : (cellsFrom n names []).lookup y with
  | some a => rw [e] at h; left; simpa using h
  | none => rw [e] at h; right; exact ⟨rfl, by simpa using h⟩
theorem cf_own {names : List (Str × NameKind)} {n : Nat} {y : Str} {c : Addr} (h : (cellsFrom n names []).lookup y = some c) : (y, NameKind.cell) ∈ names ∧ n ≤ c := by
  rcases cf_mem (PySem.mem_of_lookup h) with z | z
  · cases z
  · exact z
theorem cf_none {names : List (Str × NameKind)} {n : Nat} {cl : List (Str × Addr)} {y : Str} (h : ∀ k, (y, k) ∈ names → k ≠ NameKind.cell) : (cellsFrom n names cl).lookup y = cl.lookup y := by
  rw [cf_app, List.lookup_append]
  cases e : (cellsFrom n names []).lookup y with
  | some a => exact absurd rfl (h _ (cf_own e).1)
  | none => simp
section
variable {X : Cx} {pins : List (Addr × Obj)} {σ : L2.St} {H : Hp} {s : Shared} {xs M : List Str} {scope : Scope} {C : Addr} {fp : List Addr}
theorem cmp_cells (I : Inv X pins σ H s) (c : CmpOk X xs M scope) : ∀ p ∈ scope.names, p.2 = .free → ∃ a, X.env.cells.lookup p.1 = some a := fun p hp e => I.ok.has p.1 (.inl (c.free p hp e))
theorem cmp_sub {y : Str} {a : Addr} (e : (clOf X.env scope.names []).lookup y = some a) : X.env.cells.lookup y = some a := clOf_sub (fun _ _ q => by simp at q) e
theorem cmp_ok (I : Inv X pins σ H s) (c : CmpOk X xs M scope) (hC : s.heap.objs.size ≤ C) (hf : ∀ b ∈ fp, FpOk X pins H b) (hlt : ∀ b ∈ fp, b < s.heap.objs.size) : (cmpCx X xs M scope C s H fp).Ok where
  mod := I.ok.mod
  kind := c.kind
  glob := I.ok.glob
  blt := I.ok.blt
  above := hC
  inj := fun x y a e1 e2 => by
    have lt : ∀ z, (clOf X.env scope.names []).lookup z = some a → a < s.heap.objs.size := fun z e => by
      obtain ⟨v, q⟩ := I.cell z a (cmp_sub e); exact q.lt
    rcases cf_cases e1 with z1 | z1 <;> rcases cf_cases e2 with z2 | z2
    · exact name_of_addr (cf_apart (acc := []) (fun p hp => by cases hp) List.Pairwise.nil) (PySem.mem_of_lookup z1) (PySem.mem_of_lookup z2)
    · exact absurd (lt y z2.2) (Nat.not_lt.mpr (Nat.le_trans hC (Nat.le_of_succ_le (cf_own z1).2)))
    · exact absurd (lt x z1.2) (Nat.not_lt.mpr (Nat.le_trans hC (Nat.le_of_succ_le (cf_own z2).2)))
    · exact I.ok.inj x y a (cmp_sub z1.2) (cmp_sub z2.2)
  has := fun x h => by
    have hx : ∃ j, scope.names.lookup x = some j ∧ (j = .free ∨ j = .cell) := by
      rcases h with h | h
      · obtain ⟨j, hj, e⟩ := lookup_relabel h
        rcases e with e | e
        · exact ⟨j, hj, .inr e⟩
        · exact ⟨j, hj, .inl e.1⟩
      · obtain ⟨j, hj, e⟩ := lookup_relabel h
        rcases e with e | e
        · exact ⟨j, hj, .inl e⟩
        · exact ⟨j, hj, .inl e.1⟩
    obtain ⟨j, hj, rfl | rfl⟩ := hx
    · exact cf_keep (clOf_has (mem_of_lookup hj) (cmp_cells I c _ (mem_of_lookup hj) rfl))
    · exact cf_has (mem_of_lookup hj)
  cab := fun x a h e => by
    have hj : scope.names.lookup x = some .cell := by simpa [cmpCx] using h
    rcases cf_cases e with z | z
    · exact Nat.le_trans hC (Nat.le_of_succ_le (cf_own z).2)
    · obtain ⟨a', ha'⟩ := cf_has (n := C + 1) (acc := []) (mem_of_lookup hj)
      rw [z.1] at ha'; cases ha'
  hd := I.ok.hd
  frames := I.ok.frames
  stk := .inl rfl
  exf := fun b hb => ⟨Nat.ne_of_lt (Nat.lt_of_lt_of_le (hlt b hb) hC), fun x a e => by
    rcases cf_cases e with z | z
    · exact Nat.ne_of_gt (Nat.lt_of_lt_of_le (hlt b hb) (Nat.le_trans hC (Nat.le_of_succ_le (cf_own z).2)))
    · exact (hf b hb).2.2.2.2.1 x a (cmp_sub z.2)⟩
  bs := I.bs
  bsz := Nat.le_trans I.ok.bsz I.sz
  noex := fun b o e hb => by
    rcases (hf b hb).2.2.2.1 with z | z
    · exact I.ok.noex b o e z
    · exact absurd (Nat.lt_of_lt_of_le (Heap.lt_size e) (Nat.le_trans I.ok.bsz z)) (Nat.lt_irrefl _)
  exfs := fun b hb z => by
    rcases List.mem_cons.mp (I.stkSub b z) with q | q
    · exact (hf b hb).2.1 q
    · exact (hf b hb).2.2.1 q
  funs := I.stack
  frf := I.stkFree
end
end D3

set_option Elab.async false
set_option linter.all false
set_option maxRecDepth 100000
set_option maxHeartbeats 4000000
namespace D3
open PySem PySem.Spec PyProof.Rows L2
section
variable {prog : Program} {w : World} {A : Around} {R : Result → Shared → Prop} {s : Shared}
theorem comp_loop {elt target iter : Expr} {ifs : List Expr} {scope : Scope} {pos : Pos} {it acc : Value} {env : Env} (I : Nat → Shared → Prop)
    (turn : ∀ n s, I n s → wpAny (model prog w) A (pyNext it) (fun r s₁ => match r with
      | none => R (.ok .next) s₁
      | some v => wpAny (model prog w) A (letOwnedTupleGo target it v) (fun _ s1' => wpAny (model prog w) A (assign target env v) (fun _ s₂ =>
          wpAny (model prog w) A (forIn ifs true fun c r => if r = true then do let ok ← isTrue c env (eval c env); pure (ForInStep.yield ok) else pure (ForInStep.yield r)) (fun ok s₃ =>
            if ok = true then wpAny (model prog w) A (eval elt env) (fun x s₄ =>
              wpAny (model prog w) A (call (.builtin "list.append") [acc, x]) (fun _ s₅ => ∃ m, m < n ∧ I m s₅) (fun _ _ => False) s₄) (fun _ _ => False) s₃
            else ∃ m, m < n ∧ I m s₃) (fun _ _ => False) s₂) (fun _ _ => False) s1') (fun _ _ => False) s₁) (fun _ _ => False) s)
    (n : Nat) (h : I n s) :
    codeAny (model prog w) A (.compLoop (.ListComp elt [⟨target, iter, ifs, 0⟩] scope pos) 0 it acc env) R s := by
  refine codeAny_loop rfl I (fun n s hI => ?_) n h
  show wpAny _ A ((compTurn (.ListComp elt [⟨target, iter, ifs, 0⟩] scope pos) 0 it acc env).onRaise (fun x => do noteFrame x env; theTreesLotGoes x)) _ _ s
  refine wpAny_noted ?_
  rw [compTurn_list]
  refine wpAny_bind (wpAny_standAt (wpAny_bind (wpAny_mono (turn n s hI) (fun r s₁ h₁ => ?_) fun _ _ h' => h'.elim)))
  cases r with
  | none => exact wpAny_pure h₁
  | some v =>
    refine wpAny_bind (wpAny_mono h₁ (fun _ s1' h1' => ?_) fun _ _ h' => h'.elim)
    refine wpAny_bind (wpAny_mono h1' (fun _ s₂ h₂ => wpAny_bind (wpAny_mono h₂ (fun ok s₃ h₃ => ?_) fun _ _ h' => h'.elim)) fun _ _ h' => h'.elim)
    cases ok with
    | false => exact wpAny_pure ⟨rfl, h₃⟩
    | true =>
      exact wpAny_bind (wpAny_bind (wpAny_mono h₃ (fun x s₄ h₄ => wpAny_bind (wpAny_mono h₄ (fun _ s₅ h₅ => wpAny_pure (wpAny_pure ⟨rfl, h₅⟩)) fun _ _ h' => h'.elim)) fun _ _ h' => h'.elim))
end
noncomputable def PTs (X : Cx) (ifs : List Expr) (t : TT) : Prop := (ifs = [] ∧ t = fun _ H Q => Q true H) ∨ ∃ c, ifs = [c] ∧ PT X c t
theorem PTs.run {X : Cx} {ifs : List Expr} {t : TT} (h : PTs X ifs t) {pins : List (Addr × Obj)} {s : Shared} {σ : L2.St} {H : Hp} {Q : Bool → Hp → Prop} (I : Inv X pins σ H s) (q : t σ H Q) :
    wpAny (model X.prog X.w) X.A (forIn ifs true fun c r => if r = true then do let ok ← isTrue c X.env (eval c X.env); pure (ForInStep.yield ok) else pure (ForInStep.yield r)) (TP X pins σ Q) X.xe s := by
  rcases h with ⟨rfl, rfl⟩ | ⟨c, rfl, h⟩
  · exact wpAny_tests_nil ⟨H, I, q⟩
  · exact wpAny_tests_one (h pins s σ H Q I q)
theorem newEnv_cells {M : Model} {A : Around} {E : Value → Shared → Prop} {s : Shared} {scope : Scope} {globals : Addr} {closure : List (Str × Addr)} {qual : Str} {env : Env} {Q : Env → Shared → Prop}
    (h : Q (newEnv scope s.heap.objs.size globals (cellsFrom (s.heap.objs.size + 1) scope.names closure) qual none .none (some env) builtinsNs) { s with heap := pushCells (s.heap.push { cls := .type "dict", data := .dict #[] }) scope.names }) :
    wpAny M A (newFunctionEnv scope globals closure [] qual none .none (some env)) Q E s := by
  simp only [newFunctionEnv, Option.isSome_some, if_true]
  refine wpAny_bind (wpAny_alloc ?_)
  refine wpAny_bind (wpAny_layCells _ (fun name kind cells => by cases hkc : kind == NameKind.cell <;> simp [hkc]) _ _ _ _ ?_)
  rw [show ({ s with heap := s.heap.push { cls := .type "dict", data := .dict #[] } } : Shared).heap.objs.size = s.heap.objs.size + 1 from Heap.size_push ..]
  rw [List.forIn_nil]
  exact wpAny_bind (wpAny_pure (wpAny_pure h))
noncomputable def lcW (n : Nat) (J : It) (g : TG) (tt : TT) (te : TE) (σ : L2.St) (D : Addr) (Fin : List V → Hp → Prop) (H : Hp) : Prop :=
  ∃ W : Nat → Nat → List V → Hp → Prop, (∃ m, W 0 m [] H) ∧ ∀ i m ys H, W i m ys H → H D = some (.lst ys) ∧
    ((J.stop i H ∧ Fin ys H) ∨ (J.go i H ∧ ∀ x H', J.yld i H x H' → g x (List.replicate n none ++ σ) H' fun σ1 H1 => (σ1.length = n + σ.length ∧ ∀ j, σ1[n + j]? = σ[j]?) ∧ tt σ1 H1 fun k H2 =>
      if k = true then te σ1 H2 fun y H3 => H3 D = some (.lst ys) ∧ ys.length < sizeLine ∧ ∃ m', m' < m ∧ W (i + 1) m' (ys ++ [y]) (upd H3 D (.lst (ys ++ [y]))) else ∃ m', m' < m ∧ W (i + 1) m' ys H2))
section
variable {X : Cx} {pins : List (Addr × Obj)} {σ : L2.St} {H : Hp} {s : Shared} {xs M : List Str} {scope : Scope} {target elt iter : Expr} {ifs : List Expr} {pos : Pos} {g : Addr → TG} {tt : Addr → TT} {te : Addr → TE} {it : Addr} {fp : List Addr} {tn : Nat → Heap → Prop} {J : It} {n : Nat}
theorem comp_run {RR : Value → Addr → Result → Shared → Prop} {Fin : Addr → List V → Hp → Prop} (c : CmpOk X xs M scope) (hn : xs.length = n) (hc : X.calm = true) (I : Inv X pins σ H s) (T : Turn X.prog X.w X.K target J fp it tn) (t0 : tn 0 s.heap) (hf : ∀ b ∈ fp, FpOk X pins H b)
    (hg : ∀ C, PG (cmpCx X xs M scope C s H fp) target (g C)) (ht : ∀ C, PTs (cmpCx X xs M scope C s H fp) ifs (tt C)) (he : ∀ C, PE (cmpCx X xs M scope C s H fp) elt (te C))
    (hw : ∀ D C, H D = none → lcW n J (g C) (tt C) (te C) σ D (Fin D) (upd H D (.lst [])))
    (hR : ∀ D C ys H' s', H D = none → s.heap.objs.size ≤ C → H' D = some (.lst ys) → Fin D ys H' → Inv (cmpCx X xs M scope C s H fp) [] (List.replicate n none ++ σ) H' s' → RR (.ref D) C (.ok .next) s') :
    wpAny (model X.prog X.w) X.A (newList []) (fun acc s₃ => wpAny (model X.prog X.w) X.A (newFunctionEnv scope X.env.globals (clOf X.env scope.names []) [] X.env.qual none .none (some X.env)) (fun cenv s₄ =>
      codeAny (model X.prog X.w) X.A (.compStart (.ListComp elt [⟨target, iter, ifs, 0⟩] scope pos) 0 (.ref it) acc { cenv with scope := relabel scope X.env }) (RR acc cenv.locals) s₄) X.xe s₃) X.xe s := by
  refine wpAny_newObj_type (newEnv_cells ?_)
  dsimp only
  generalize hH2 : s.heap.push { cls := .type "list", dict := none, data := .seq ([] : List Value).toArray } = H2
  have hns₁ := (Heap.Ns.new H2 (.type "dict")).keeps (pushCells_keeps scope.names _)
  have cok := cellsFrom_ok scope.names (H2.push { cls := .type "dict", data := .dict #[] }) (H2.objs.size + 1) [] ⟨fun _ _ hm => (by cases hm), List.Pairwise.nil⟩ (by rw [Heap.size_push]; exact Nat.le_refl _)
  rw [Heap.size_push] at cok
  have keep₁ := pushCells_keeps scope.names (H2.push { cls := .type "dict", data := .dict #[] })
  generalize pushCells (H2.push { cls := .type "dict", data := .dict #[] }) scope.names = h₁ at hns₁ cok keep₁ ⊢
  have hC : H2.objs.size = s.heap.objs.size + 1 := by rw [← hH2, Heap.size_push]
  have hDC : s.heap.objs.size ≠ H2.objs.size := by rw [hC]; exact Nat.ne_of_lt (Nat.lt_succ_self _)
  have hle : s.heap.objs.size ≤ H2.objs.size := by rw [hC]; exact Nat.le_succ _
  have old : ∀ b o, s.heap.get? b = some o → h₁.get? b = some o := fun b o e => keep₁ b o (Heap.get?_push_of_some _ (hH2 ▸ Heap.get?_push_of_some _ e))
  have hacc : h₁.get? s.heap.objs.size = some { cls := .type "list", dict := none, data := .seq ([] : List Value).toArray } := keep₁ _ _ (Heap.get?_push_of_some _ (hH2 ▸ Heap.get?_push_size _ rfl))
  have hD : H s.heap.objs.size = none := I.hok.fresh (Nat.le_refl _)
  have hlt : ∀ b ∈ fp, b < s.heap.objs.size := fun b hb => by obtain ⟨o, e, _⟩ := T.obj 0 _ t0 b hb; exact Heap.lt_size e
  have new : ObjOk X.prog X.w (upd H s.heap.objs.size (.lst [])) h₁ s.heap.objs.size (.lst []) := ⟨Nat.zero_le _, [], 0, .nil, hacc⟩
  have ok : (cmpCx X xs M scope H2.objs.size s H fp).Ok := cmp_ok I c hle hf hlt
  have I4 : Inv (cmpCx X xs M scope H2.objs.size s H fp) [] (List.replicate n none ++ σ) (upd H s.heap.objs.size (.lst [])) { s with heap := h₁ } := by
    refine ⟨ok, rfl, I.bare, Un.laid old (Nat.le_refl _) hD, ⟨_, hns₁, fun i y v e1 e2 e3 => ?_⟩, fun y a e => ?_, ?_, fun y a e => ?_, (fun p hp => by cases hp), I.hok.laid old (Nat.le_refl _) new, ?_⟩
    · have hi : n ≤ i := by
        apply Nat.le_of_not_lt
        intro hi
        rw [List.getElem?_append_left (by rw [List.length_replicate]; exact hi), List.getElem?_replicate, if_pos hi] at e2
        cases e2
      have e0' : M[i - n]? = some y := by
        have : (xs ++ M)[i]? = some y := e1
        rw [List.getElem?_append_right (by rw [hn]; exact hi), hn] at this
        exact this
      have e2' : σ[i - n]? = some (some v) := by
        rw [List.getElem?_append_right (by rw [List.length_replicate]; exact hi), List.length_replicate] at e2
        exact e2
      have hy : y ∈ M := List.mem_of_getElem? e0'
      have hl : scope.names.lookup y = some .free := by
        have hv : ∃ j, scope.names.lookup y = some j ∧ (j = .local ∨ j = .cell ∨ j = .free) := by
          rcases e3 with e3 | e3 | e3
          · obtain ⟨j, hj, e⟩ := lookup_relabel e3
            rcases e with e | e
            · exact ⟨j, hj, .inl e⟩
            · exact ⟨j, hj, .inr (.inr e.1)⟩
          · obtain ⟨j, hj, e⟩ := lookup_relabel e3
            rcases e with e | e
            · exact ⟨j, hj, .inr (.inl e)⟩
            · exact ⟨j, hj, .inr (.inr e.1)⟩
          · obtain ⟨j, hj, e⟩ := lookup_relabel e3
            rcases e with e | e
            · exact ⟨j, hj, .inr (.inr e)⟩
            · exact ⟨j, hj, .inr (.inr e.1)⟩
        obtain ⟨j, hj, hk⟩ := hv
        rcases c.around y hy with z | z | z
        · rw [z] at hj; cases hj
        · exact z
        · rw [z] at hj; cases hj
          rcases hk with hk | hk | hk <;> cases hk
      have hcell := c.free _ (mem_of_lookup hl) rfl
      have e1' : X.N[i - n]? = some y := (c.same _ _ e0').resolve_right fun z => by rw [hl] at z; cases z
      obtain ⟨m, hm, hloc⟩ := I.loc
      obtain ⟨u, r, lk⟩ := hloc (i - n) y v e1' e2' (.inr (.inl hcell))
      refine ⟨u, r, .inr ⟨?_, ?_⟩⟩
      · rcases e3 with e3 | e3 | e3
        · obtain ⟨j, hj, e⟩ := lookup_relabel e3
          rw [hl] at hj; cases hj
          rcases e with e | e
          · cases e
          · cases e.2
        · exact .inl e3
        · exact .inr e3
      · rcases lk with ⟨hk, _⟩ | ⟨_, a, ha, z⟩
        · have hk' : X.env.kindOf y = some .local := hk
          rw [hcell] at hk'; cases hk'
        · obtain ⟨a', ha'⟩ := clOf_has (cs := []) (mem_of_lookup hl) ⟨a, ha⟩
          have : a' = a := by have q := cmp_sub ha'; rw [ha] at q; exact (Option.some.inj q).symm
          subst this
          obtain ⟨o, ho, hd⟩ := z
          refine ⟨a', ?_, o, old _ _ ho, hd⟩
          show (cellsFrom (H2.objs.size + 1) scope.names (clOf X.env scope.names [])).lookup y = some a'
          rw [cf_none fun k hk e => ?_]
          · exact ha'
          · subst e
            have := c.cells _ hk rfl
            rw [hl] at this; cases this
    · rcases cf_cases e with z | z
      · exact ⟨none, (cok.empty _ _ (PySem.mem_of_lookup z)).1⟩
      · obtain ⟨v, o, ho, hd⟩ := I.cell y a (cmp_sub z.2)
        exact ⟨v, o, old _ _ ho, hd⟩
    · show upd H s.heap.objs.size (.lst []) H2.objs.size = none
      rw [upd_ne (Ne.symm hDC)]
      exact I.hok.fresh hle
    · rcases cf_cases e with z | z
      · have hge := (cf_own z).2
        have hne : a ≠ s.heap.objs.size := Nat.ne_of_gt (Nat.lt_of_lt_of_le (Nat.lt_succ_of_le hle) hge)
        rw [upd_ne hne]
        exact I.hok.fresh (Nat.le_trans hle (Nat.le_of_succ_le hge))
      · have ha := cmp_sub z.2
        have hne : a ≠ s.heap.objs.size := by obtain ⟨v, q⟩ := I.cell y a ha; exact Nat.ne_of_lt q.lt
        rw [upd_ne hne]
        exact I.freeC y a ha
    · show (List.replicate n none ++ σ).length = (xs ++ M).length
      rw [List.length_append, List.length_append, List.length_replicate, hn, I.len, c.len]
  have t1 : tn 0 h₁ := T.keep 0 _ _ t0 fun b hb o e => old b o e
  have fpn : ∀ b ∈ fp, (upd H s.heap.objs.size (.lst [])) b = none := fun b hb => by rw [upd_ne (Nat.ne_of_lt (hlt b hb))]; exact (hf b hb).1
  have stat : ∀ {H' : Hp}, (∀ b ∈ fp, H' b = none) → ∀ b ∈ fp, FpOk (cmpCx X xs M scope H2.objs.size s H fp) [] H' b := fun hn b hb =>
    ⟨hn b hb, (ok.exf b hb).1, ok.exfs b hb, .inl hb, (ok.exf b hb).2, (fun p hp => by cases hp)⟩
  obtain ⟨W, ⟨m0, w0⟩, turn⟩ := hw _ H2.objs.size hD
  have loop : codeAny (model X.prog X.w) X.A (.compLoop (.ListComp elt [⟨target, iter, ifs, 0⟩] scope pos) 0 (.ref it) (.ref s.heap.objs.size) (compEnvC scope (cellsFrom (H2.objs.size + 1) scope.names (clOf X.env scope.names [])) H2.objs.size X.env)) (RR (.ref s.heap.objs.size) H2.objs.size) { s with heap := h₁ } := by
    refine comp_loop (fun m s' => ∃ i ys H', Inv (cmpCx X xs M scope H2.objs.size s H fp) [] (List.replicate n none ++ σ) H' s' ∧ tn i s'.heap ∧ (∀ b ∈ fp, H' b = none) ∧ W i m ys H') ?_ m0 ⟨0, [], _, I4, t1, fpn, w0⟩
    rintro m s3 ⟨i, ys, H3, I3, t3, f3, w3⟩
    obtain ⟨hD3, alt⟩ := turn i m ys H3 w3
    rcases alt with ⟨stop, fin⟩ | ⟨go, step⟩
    · refine thn (T.done (cmpCx X xs M scope H2.objs.size s H fp) rfl rfl rfl hc i [] s3 _ H3 _ I3 (stat f3) t3 stop) fun r s4 qZ => ?_
      obtain ⟨hr, I5⟩ := qZ
      subst hr
      exact hR _ _ ys H3 s4 hD hle hD3 fin I5
    · refine thn (T.item (cmpCx X xs M scope H2.objs.size s H fp) rfl rfl rfl hc i [] s3 _ H3 _ I3 (stat f3) t3 go) fun r s4 qZ => ?_
      obtain ⟨u, hr, h4⟩ := qZ
      subst hr
      refine thn h4 fun _ s5 qZ => ?_
      obtain ⟨x, H5, I5, r5, y5, t5, f5⟩ := qZ
      have I5' := I5.pinned (stat f5) (T.obj _ _ t5)
      refine thn (hg H2.objs.size _ s5 _ H5 x u _ I5' r5 (step x H5 y5)) fun _ s6 qZ => ?_
      obtain ⟨σ6, H6, I6, ⟨la, lb⟩, q6⟩ := qZ
      refine thn (PTs.run (ht H2.objs.size) I6 q6) fun k s7 qZ => ?_
      obtain ⟨H7, I7, q7⟩ := qZ
      have again : ∀ {H8 : Hp} {s8 : Shared} {ys' : List V}, Inv (cmpCx X xs M scope H2.objs.size s H fp) ([] ++ pinsAt fp s5.heap) σ6 H8 s8 → (∃ m', m' < m ∧ W (i + 1) m' ys' H8) → ∃ m', m' < m ∧ ∃ i ys H', Inv (cmpCx X xs M scope H2.objs.size s H fp) [] (List.replicate n none ++ σ) H' s8 ∧ tn i s8.heap ∧ (∀ b ∈ fp, H' b = none) ∧ W i m' ys H' := by
        intro H8 s8 ys' I8 ⟨m', lt, w8⟩
        have pin8 : ∀ b ∈ fp, ∀ o, s5.heap.get? b = some o → s8.heap.get? b = some o ∧ H8 b = none := fun b hb o e =>
          have z := I8.pin (b, o) (List.mem_append_right _ (List.mem_append_right _ (mem_pinsAt hb e)))
          ⟨z.1, z.2.1⟩
        refine ⟨m', lt, i + 1, ys', H8, ?_, T.keep _ _ _ t5 fun b hb o e => (pin8 b hb o e).1, fun b hb => ?_, w8⟩
        · refine I8.unpinned.weak (by rw [List.length_append, List.length_replicate, la]) fun j v e => ?_
          by_cases hj : j < n
          · rw [List.getElem?_append_left (by rw [List.length_replicate]; exact hj), List.getElem?_replicate, if_pos hj] at e
            cases e
          · rw [List.getElem?_append_right (by rw [List.length_replicate]; omega), List.length_replicate] at e
            have := lb (j - n)
            rw [show n + (j - n) = j by omega] at this
            rw [this]; exact e
        · obtain ⟨o, e, d⟩ := T.obj _ _ t5 b hb
          exact (pin8 b hb o e).2
      cases k with
      | false =>
        simp only [Bool.false_eq_true, if_false] at q7 ⊢
        exact again I7 q7
      | true =>
        simp only [if_true] at q7 ⊢
        refine thn (he H2.objs.size _ s7 _ H7 _ I7 q7) fun y s8 qZ => ?_
        obtain ⟨v8, H8, I8, r8, e8, l8, w8⟩ := qZ
        refine thn (mt_append (X := cmpCx X xs M scope H2.objs.size s H fp) _ s8 _ H8 (.ref s.heap.objs.size) [v8] _ [y] (fun v H9 => ∃ m', m' < m ∧ W (i + 1) m' (ys ++ [v8]) H9) I8 rfl (.cons r8 .nil) ⟨_, ys, v8, rfl, rfl, e8, l8, w8⟩) fun _ s9 ⟨v9, H9, I9, _, w9⟩ => again I9 w9
  exact codeAny_compStart_list loop (T.self _ 0 _ _ _ t1 loop)
end
end D3

set_option Elab.async false
set_option linter.all false
set_option maxRecDepth 100000
set_option maxHeartbeats 4000000
namespace D3
open PySem PySem.Spec PyProof.Rows L2
section
variable {X : Cx} {pins : List (Addr × Obj)} {σ σ' : L2.St} {H H' : Hp} {s s' : Shared} {xs M : List Str} {scope : Scope} {target elt iter : Expr} {ifs : List Expr} {pos : Pos} {g : Addr → Shared → Hp → List Addr → TG} {tt : Addr → Shared → Hp → List Addr → TT} {te : Addr → Shared → Hp → List Addr → TE} {fp : List Addr} {n : Nat} {C : Addr} {wi : TI}
theorem cmp_back {h' : Heap} (I : Inv X pins σ H s) (I' : Inv (cmpCx X xs M scope C s H fp) [] σ' H' s') (hf : ∀ b ∈ fp, FpOk X pins H b) (hC : s.heap.objs.size ≤ C) (sb : Heap.SameBut C s'.heap h') : Inv X pins σ H' { s' with heap := h' } := by
  have hCn : H' C = none := I'.free
  have u := I'.base
  have ne : ∀ b o, s.heap.get? b = some o → b ≠ C := fun b o e => Nat.ne_of_lt (Nat.lt_of_lt_of_le (Heap.lt_size e) hC)
  have u' : Un (frs X.stack) fp H H' s.heap h' :=
    ⟨fun b o e n hb hx => sb.extBut b o (ne b o e) (u.keep b o e n hb hx), fun b o e n hb hx => let ⟨sl, q⟩ := u.slot b o e n hb hx; ⟨sl, sb.extBut b _ (ne b o e) q⟩, fun b o e n hx => u.free b o e n hx,
      fun b o e hx => let ⟨o', q⟩ := u.there b o e hx; ⟨o', sb.extBut b _ (ne b o e) q⟩, u.tups, u.frzs, u.tbls⟩
  have hok : HOk X.prog X.w H' h' := fun b o e => (I'.hok b o e).stay (fun c v hc q => sb.extBut c v (fun z => by
    subst z
    rcases hc with z | z
    · rw [← z, hCn] at e; cases e
    · rw [hCn] at z; cases z) q) (fun _ q => q) fun _ _ q => q
  exact I.call' (ch := fp) (s' := { s' with heap := h' }) I'.os u' hok I'.bare fun b hb => ⟨(hf b hb).2.2.2.1, (hf b hb).2.1, (hf b hb).2.2.2.2.1, (hf b hb).2.2.2.2.2⟩
noncomputable def tLc (n : Nat) (wi : TI) (g : Addr → Shared → Hp → List Addr → TG) (tt : Addr → Shared → Hp → List Addr → TT) (te : Addr → Shared → Hp → List Addr → TE) : TE := fun σ H Q => wi σ H fun J H1 => ∀ D C s fp, H1 D = none → lcW n J (g C s H1 fp) (tt C s H1 fp) (te C s H1 fp) σ D (fun _ H' => Q (.ref D) H') (upd H1 D (.lst []))
theorem pe_comp (hk : cmpOk scope X.env xs M X.N = true) (hn : xs.length = n) (hc : X.calm = true) (hi : PI X target iter wi)
    (hg : ∀ C s H fp, PG (cmpCx X xs M scope C s H fp) target (g C s H fp)) (ht : ∀ C s H fp, PTs (cmpCx X xs M scope C s H fp) ifs (tt C s H fp)) (he : ∀ C s H fp, PE (cmpCx X xs M scope C s H fp) elt (te C s H fp))
    (hs : ∀ x, foldedSetIterable iter X.env x = pure x := by intro _; rfl) : PE X (.ListComp elt [⟨target, iter, ifs, 0⟩] scope pos) (tLc n wi g tt te) := by
  intro pins s σ H Q I h
  have c := cmp_of hk
  rw [eval_ListComp]
  refine wpAny_comprehension_free (use := none) rfl hs (closure_of (cmp_cells I c)) c.kind c.loc (thn (hi pins s σ H _ I h) fun v s1 h1 => thn h1 fun itv s2 h2 => ?_)
  obtain ⟨it, fp, tn, J, H2, e, I2, T, st2, f2, rd⟩ := h2
  subst e
  refine comp_run (RR := compPost (model X.prog X.w) X.A X.xe none (EP X pins σ Q)) (Fin := fun D _ H' => Q (.ref D) H') c hn hc I2 T st2 f2 (fun C => hg C _ _ _) (fun C => ht C _ _ _) (fun C => he C _ _ _) (fun D C hD => rd D C s2 fp hD) ?_
  intro D C ys H' s' hD hC hys fin I'
  obtain ⟨m, hm, _⟩ := I'.loc
  exact ⟨m, hm, fun h' sb => ⟨.ref D, H', cmp_back I2 I' f2 hC sb, rfl, fin⟩⟩
end
end D3

set_option Elab.async false
set_option linter.all false
set_option maxRecDepth 100000
set_option maxHeartbeats 4000000
namespace D3
open PySem PySem.Spec PyProof.Rows L2
noncomputable def PGN (X : Cx) (n : Nat) (tg : Expr) (g : G3) : Prop := ∃ g2, PG X tg g2 ∧ ∀ B S H σ ρ d v Ψ (Q : L2.St → Hp → Prop), ER X.K B S H σ ρ → Rep X.K S H d v → g d ρ Ψ →
  (∀ ρ' σ', Ψ ρ' → ER X.K B S H σ' ρ' → σ'.length = σ.length → (∀ j, σ'[n + j]? = σ[n + j]?) → Q σ' H) → g2 v σ H Q
section
variable {X : Cx} {e : Expr} {es : List Expr} {pos : Pos} {n : Nat}
theorem pgn_name {i : Nat} {x : Str} (hin : i < n) (hN : X.N.Nodup) (hi : X.N[i]? = some x) (hx : Loc X.env.scope x) (hf : X.fn x = true ∨ X.env.scope.names.lookup x = some .local := by first | exact .inl rfl | exact .inr rfl | assumption) : PGN X n (.Name x pos) (gN i) :=
  ⟨_, pg_name hN hi hx hf, fun B S H σ ρ d v Ψ Q er r h k => k _ _ h (er.put r) (by rw [List.length_set]) fun j => by rw [List.getElem?_set_ne (by omega)]⟩
end
noncomputable def PBs (X : Cx) (ifs : List Expr) (t : B3) : Prop := (ifs = [] ∧ t = fun _ Φ => Φ true) ∨ ∃ c, ifs = [c] ∧ PB X c t
theorem pbs_nil {X : Cx} : PBs X [] (fun _ Φ => Φ true) := .inl ⟨rfl, rfl⟩
theorem pbs_one {X : Cx} {c : Expr} {t : B3} (h : PB X c t) : PBs X [c] t := .inr ⟨c, rfl, h⟩
theorem PBs.ex {X : Cx} {ifs : List Expr} {t : B3} (h : PBs X ifs t) : ∃ t2, PTs X ifs t2 ∧ ∀ B S H σ ρ Φ (Q : Bool → Hp → Prop), ER X.K B S H σ ρ → t ρ Φ → (∀ b H', Φ b → Same H H' → Q b H') → t2 σ H Q := by
  rcases h with ⟨rfl, rfl⟩ | ⟨c, rfl, t2, h, w⟩
  · exact ⟨_, .inl ⟨rfl, rfl⟩, fun B S H σ ρ Φ Q er q hd => hd true H q (Same.refl _)⟩
  · exact ⟨t2, .inr ⟨c, rfl, h⟩, w⟩
noncomputable def COMP (g : G3) (tt : B3) (te : E3) (ρ : Fr3) : List D → List D → (List D → Prop) → Prop
  | [], acc, Φ => Φ acc
  | d :: ds, acc, Φ => g d ρ fun ρ1 => tt ρ1 fun k => if k = true then te ρ1 fun y => acc.length < sizeLine ∧ COMP g tt te ρ ds (acc ++ [y]) Φ else COMP g tt te ρ ds acc Φ
noncomputable abbrev fComp (n : Nat) (ti : A3) (g : G3) (tt : B3) (te : E3) : A3 := fun ρ Φ => ti ρ fun ds => COMP g tt te (List.replicate n .un ++ ρ) ds [] Φ
section
variable {K : PySem.W.Frag} {B : Bs} {S : Addr → Prop} {H : Hp} {σ : L2.St} {ρ : Fr3}
theorem ER.shift (er : ER K B S H σ ρ) (n : Nat) : ER K B S H (List.replicate n none ++ σ) (List.replicate n .un ++ ρ) := by
  have sh : ∀ {i : Nat} {x : Sl}, x ≠ .un → (List.replicate n Sl.un ++ ρ)[i]? = some x → n ≤ i ∧ ρ[i - n]? = some x := fun {i x} hx e => by
    by_cases hi : i < n
    · rw [List.getElem?_append_left (by rw [List.length_replicate]; exact hi), List.getElem?_replicate, if_pos hi] at e
      exact absurd (Option.some.inj e).symm hx
    · rw [List.getElem?_append_right (by rw [List.length_replicate]; omega), List.length_replicate] at e
      exact ⟨by omega, e⟩
  have bk : ∀ {i : Nat}, n ≤ i → (List.replicate n (none : Option V) ++ σ)[i]? = σ[i - n]? := fun {i} hi => by
    rw [List.getElem?_append_right (by rw [List.length_replicate]; omega), List.length_replicate]
  exact {
    len := by rw [List.length_append, List.length_append, List.length_replicate, List.length_replicate, er.len]
    same := er.same
    sub := er.sub
    ok0 := er.ok0
    ok := er.ok
    val := fun i d q => by
      obtain ⟨hi, q⟩ := sh (x := .val d) (fun z => by cases z) q
      obtain ⟨v, e, r⟩ := er.val _ d q
      exact ⟨v, (bk hi).trans e, r⟩
    own := fun i d q => by
      obtain ⟨hi, q⟩ := sh (x := .own d) (fun z => by cases z) q
      obtain ⟨a, xs, e, r⟩ := er.own _ d q
      exact ⟨a, xs, (bk hi).trans e, r⟩
    uq := fun i j a ds es q1 q2 e1 e2 => by
      obtain ⟨h1, q1⟩ := sh (x := .own ds) (fun z => by cases z) q1
      obtain ⟨h2, q2⟩ := sh (x := .own es) (fun z => by cases z) q2
      rw [bk h1] at e1
      rw [bk h2] at e2
      have := er.uq _ _ a ds es q1 q2 e1 e2
      omega
    gh := er.gh }
theorem ER.gather {p : Addr} {xs : List V} (er : ER K B S H σ ρ) (hp : H p = none) : ER K B (fun b => S b ∨ b = p) (upd H p (.lst xs)) σ ρ := by
  have sm := same_new (o := .lst xs) hp
  have hL : ∀ b ys, LR K S H b ys → LR K (fun b => S b ∨ b = p) (upd H p (.lst xs)) b ys := fun b ys q => by
    rcases q with ⟨n, q⟩ | q
    · have hb : b ≠ p := by
        rintro rfl
        rcases q with q | ⟨o, q⟩ <;> rw [hp] at q <;> cases q
      refine .inl ⟨fun z => z.elim n hb, ?_⟩
      rcases q with q | ⟨o, q⟩
      · exact .inl (sm _ _ q)
      · exact .inr ⟨o, sm _ _ q⟩
    · exact .inr q
  have mv : ∀ {c : D} {w : V}, Rep K S H c w → Rep K (fun b => S b ∨ b = p) (upd H p (.lst xs)) c w := fun {c w} q => Rep.map (same_tup sm) hL c w q
  have mvs : ∀ {c : List D} {w : List V}, Reps K S H c w → Reps K (fun b => S b ∨ b = p) (upd H p (.lst xs)) c w := fun {c w} q => Reps.map (same_tup sm) hL c w q
  exact {
    len := er.len
    same := er.same.trans sm
    sub := fun b h => .inl (er.sub b h)
    ok0 := er.ok0
    ok := fun b h => by
      by_cases hb : b = p
      · subst hb; exact ⟨_, upd_same⟩
      · obtain ⟨o, e⟩ := er.ok b (h.resolve_right hb)
        exact ⟨o, sm _ _ e⟩
    val := fun j c q => let ⟨w, e, r'⟩ := er.val j c q; ⟨w, e, mv r'⟩
    own := fun j c q => let ⟨b, zs, e, hs, hz, hl, r'⟩ := er.own j c q; ⟨b, zs, e, .inl hs, hz, sm _ _ hl, mvs r'⟩
    uq := er.uq
    gh := fun q hq => mv (er.gh q hq) }
theorem turn_at {p : Addr} {xs ys : List V} (hs : S p) (hl : H p = some (.lst xs)) : (∀ b zs, SqT K H b zs → SqT K (upd H p (.lst ys)) b zs) ∧ (∀ b zs, LR K S H b zs → LR K S (upd H p (.lst ys)) b zs) := by
  refine ⟨fun b zs q => ?_, fun b zs q => ?_⟩
  · rcases q with (q | ⟨o, q⟩) | q
    · exact .inl (.inl (by rw [upd_ne (ne_of q hl (fun z => by cases z))]; exact q))
    · exact .inl (.inr ⟨o, by rw [upd_ne (ne_of q hl (fun z => by cases z))]; exact q⟩)
    · exact .inr q
  · rcases q with ⟨n, q⟩ | q
    · have hb : b ≠ p := fun z => n (z ▸ hs)
      refine .inl ⟨n, ?_⟩
      rcases q with q | ⟨o, q⟩
      · exact .inl (by rw [upd_ne hb]; exact q)
      · exact .inr ⟨o, by rw [upd_ne hb]; exact q⟩
    · exact .inr q
theorem ER.grow {p : Addr} {xs ys : List V} (er : ER K B S H σ ρ) (hs : S p) (h0 : B.H0 p = none) (hl : H p = some (.lst xs)) (hno : ∀ (i : Nat) ds, ρ[i]? = some (.own ds) → σ[i]? ≠ some (some (.ref p))) : ER K B S (upd H p (.lst ys)) σ ρ := by
  obtain ⟨hT, hL⟩ := turn_at (K := K) (ys := ys) hs hl
  have mv : ∀ {c : D} {w : V}, Rep K S H c w → Rep K S (upd H p (.lst ys)) c w := fun {c w} q => Rep.map hT hL c w q
  have mvs : ∀ {c : List D} {w : List V}, Reps K S H c w → Reps K S (upd H p (.lst ys)) c w := fun {c w} q => Reps.map hT hL c w q
  exact {
    len := er.len
    same := fun b o e => by rw [upd_ne (ne_of_none e h0)]; exact er.same b o e
    sub := er.sub
    ok0 := er.ok0
    ok := fun b h => by
      by_cases hb : b = p
      · subst hb; exact ⟨_, upd_same⟩
      · obtain ⟨o, e⟩ := er.ok b h
        exact ⟨o, by rw [upd_ne hb]; exact e⟩
    val := fun j c q => let ⟨w, e, r'⟩ := er.val j c q; ⟨w, e, mv r'⟩
    own := fun j c q => by
      obtain ⟨b, zs, e, hsb, hz, hlb, r'⟩ := er.own j c q
      have hb : b ≠ p := fun z => hno j c q (z ▸ e)
      exact ⟨b, zs, e, hsb, hz, by rw [upd_ne hb]; exact hlb, mvs r'⟩
    uq := er.uq
    gh := fun q hq => mv (er.gh q hq) }
end
section
variable {X : Cx} {xs M : List Str} {scope : Scope} {target elt iter : Expr} {ifs : List Expr} {pos : Pos} {ti : A3} {g : G3} {tt : B3} {te : E3} {n : Nat}
theorem comp_lcW {g2 : TG} {tt2 : TT} {te2 : TE} {K : PySem.W.Frag} (wg : ∀ B S H σ ρ d v Ψ (Q : L2.St → Hp → Prop), ER K B S H σ ρ → Rep K S H d v → g d ρ Ψ → (∀ ρ' σ', Ψ ρ' → ER K B S H σ' ρ' → σ'.length = σ.length → (∀ j, σ'[n + j]? = σ[n + j]?) → Q σ' H) → g2 v σ H Q)
    (wt : ∀ B S H σ ρ Φ (Q : Bool → Hp → Prop), ER K B S H σ ρ → tt ρ Φ → (∀ b H', Φ b → Same H H' → Q b H') → tt2 σ H Q) (we : ∀ B S H σ ρ Φ Q, ER K B S H σ ρ → te ρ Φ → Hand K S H Φ Q → te2 σ H Q)
    {B : Bs} {S : Addr → Prop} {H : Hp} {σ : L2.St} {ρ : Fr3} {Φ : List D → Prop} {J : It} {hs : List (D × V)} {ds : List D} {p : Addr} {Q : VK} {Fin : List V → Hp → Prop} (er : ER K B S H σ ρ) (rv : ∀ p ∈ hs, Rep K S H p.1 p.2) (wk : WlkL K J hs ds) (hp : H p = none)
    (h : COMP g tt te (List.replicate n .un ++ ρ) ds [] Φ) (hd : HandN K S H Φ Q) (hF : ∀ ys H', Q (.ref p) H' → Fin ys H') : lcW n J g2 tt2 te2 σ p Fin (upd H p (.lst [])) := by
  have hno : ∀ (i : Nat) es, ρ[i]? = some (.own es) → σ[i]? ≠ some (some (.ref p)) := fun i es q z => by
    obtain ⟨a, zs, e, _, _, hl, _⟩ := er.own i es q
    rw [e] at z; cases z
    rw [hp] at hl; cases hl
  have h0 : B.H0 p = none := er.same.free hp
  refine ⟨fun i m ys H1 => m = ds.length - i ∧ i ≤ ds.length ∧ H1 p = some (.lst ys) ∧ (∀ b o, H b = some o → H1 b = some o) ∧ ∃ acc, ER K { B with gh := hs ++ B.gh } (fun b => S b ∨ b = p) H1 σ ρ ∧ Reps K (fun b => S b ∨ b = p) H1 acc ys ∧ COMP g tt te (List.replicate n .un ++ ρ) (ds.drop i) acc Φ,
    ⟨_, rfl, Nat.zero_le _, upd_same, same_new hp, [], (er.holds rv).gather hp, Reps.nil, h⟩, ?_⟩
  rintro i m ys H1 ⟨rfl, hi, hl, sm, acc, er1, ra, hc⟩
  refine ⟨hl, ?_⟩
  obtain ⟨wstop, wgo⟩ := wk _ H1 (fun p hp => er1.gh p (List.mem_append_left _ hp))
  by_cases hlt : i < ds.length
  · obtain ⟨go, yl⟩ := wgo i hlt
    rw [List.drop_eq_getElem_cons hlt] at hc
    refine .inr ⟨go, fun x H2 y => ?_⟩
    obtain ⟨sy, e', ee, re⟩ := yl x H2 y
    rw [List.getElem?_eq_getElem hlt] at ee
    cases ee
    have er1 := er1.go sy
    have hl := sy _ _ hl
    have sm : ∀ b o, H b = some o → H2 b = some o := fun b o e => sy _ _ (sm b o e)
    have ra := ra.same sy
    have er1' := er1.shift n
    refine wg _ _ _ _ _ _ x _ _ er1' re hc fun ρ1 σ1 h1 er2 l1 l2 => ⟨⟨by rw [l1, List.length_append, List.length_replicate], fun j => ?_⟩, wt _ _ _ _ _ _ _ er2 h1 fun k H3 hk s3 => ?_⟩
    · rw [l2 j, List.getElem?_append_right (by rw [List.length_replicate]; omega), List.length_replicate, Nat.add_sub_cancel_left]
    · cases k with
      | false =>
        simp only [Bool.false_eq_true, if_false] at hk ⊢
        exact ⟨_, by omega, rfl, hlt, s3 _ _ hl, fun b o e => s3 _ _ (sm b o e), acc, er1.go s3, ra.same s3, hk⟩
      | true =>
        simp only [if_true] at hk ⊢
        refine we _ _ _ _ _ _ _ (er2.go s3) hk fun y u H4 hy s4 ry => ?_
        have s34 := s3.trans s4
        have hl4 := s34 _ _ hl
        have er4 := er1.go s34
        refine ⟨hl4, by rw [← ra.len]; exact hy.1, _, by omega, rfl, hlt, upd_same, fun b o e => ?_, acc ++ [y], er4.grow (.inr rfl) h0 hl4 hno, ?_, hy.2⟩
        · have hb : b ≠ p := ne_of_none e hp
          rw [upd_ne hb]
          exact s34 _ _ (sm b o e)
        · obtain ⟨hT, hL⟩ := turn_at (K := K) (S := fun b => S b ∨ b = p) (ys := ys ++ [u]) (.inr rfl) hl4
          exact Reps.map hT hL _ _ ((ra.same s34).app (Reps.cons ry Reps.nil))
  · have hi' : i = ds.length := by omega
    subst hi'
    rw [List.drop_length] at hc
    refine .inl ⟨wstop, hF ys H1 ?_⟩
    -- the heap without the gathered list
    have eH : upd (fun b => if b = p then none else H1 b) p (.lst ys) = H1 := by
      funext b
      by_cases hb : b = p
      · subst hb; rw [upd_same, hl]
      · rw [upd_ne hb]; simp only [hb, if_false]
    have hT : ∀ b zs, SqT K H1 b zs → SqT K (fun b => if b = p then none else H1 b) b zs := fun b zs q => by
      rcases q with (q | ⟨o, q⟩) | q
      · exact .inl (.inl (by simp only [ne_of q hl (fun z => by cases z), if_false]; exact q))
      · exact .inl (.inr ⟨o, by simp only [ne_of q hl (fun z => by cases z), if_false]; exact q⟩)
      · exact .inr q
    have hL : ∀ b zs, LR K (fun b => S b ∨ b = p) H1 b zs → LR K S (fun b => if b = p then none else H1 b) b zs := fun b zs q => by
      rcases q with ⟨n, q⟩ | q
      · have hb : b ≠ p := fun z => n (.inr z)
        refine .inl ⟨fun z => n (.inl z), ?_⟩
        rcases q with q | ⟨o, q⟩
        · exact .inl (by simp only [hb, if_false]; exact q)
        · exact .inr ⟨o, by simp only [hb, if_false]; exact q⟩
      · exact .inr q
    have := hd acc ys p (fun b => if b = p then none else H1 b) hc (fun b o e => by simp only [ne_of_none e hp, if_false]; exact sm b o e) (by simp) (Reps.map hT hL _ _ ra)
    rw [eH] at this
    exact this
theorem pf_comp (hk : cmpOk scope X.env xs M X.N = true) (hn : xs.length = n) (hc : X.calm = true) (hi : PID X target iter ti)
    (hg : ∀ C s H fp, PGN (cmpCx X xs M scope C s H fp) n target g) (ht : ∀ C s H fp, PBs (cmpCx X xs M scope C s H fp) ifs tt) (he : ∀ C s H fp, PD (cmpCx X xs M scope C s H fp) elt te)
    (hs : ∀ x, foldedSetIterable iter X.env x = pure x := by intro _; rfl) : PF X (.ListComp elt [⟨target, iter, ifs, 0⟩] scope pos) (fComp n ti g tt te) := by
  obtain ⟨wi, hi, ww⟩ := hi
  have ht' := fun C s H fp => (ht C s H fp).ex
  refine ⟨_, pe_comp hk hn hc hi (fun C s H fp => (hg C s H fp).choose_spec.1) (fun C s H fp => (ht' C s H fp).choose_spec.1) (fun C s H fp => (he C s H fp).choose_spec.1) hs, fun B S H σ ρ Φ Q er q hd => ?_⟩
  refine ww B S H σ ρ _ _ er q fun ds J hs H1 hΦ s1 rv wk D C s fp hD => ?_
  exact comp_lcW (hg C s H1 fp).choose_spec.2 (ht' C s H1 fp).choose_spec.2 (he C s H1 fp).choose_spec.2 (er.go s1) rv wk hD hΦ (Q := Q) (fun es zs p H2 p1 s2 hp r => hd es zs p H2 p1 (s1.trans s2) hp r) fun _ _ z => z
end
end D3

set_option Elab.async false
set_option linter.all false
set_option maxRecDepth 100000
set_option maxHeartbeats 4000000
namespace D3
open PySem PySem.Spec PyProof.Rows L2
theorem bt_len : bootBuiltins "len" = some (.builtin "len") := by decide +kernel
theorem bt_abs : bootBuiltins "abs" = some (.builtin "abs") := by decide +kernel
theorem bt_max : bootBuiltins "max" = some (.builtin "max") := by decide +kernel
theorem bt_sum : bootBuiltins "sum" = some (.builtin "sum") := by decide +kernel
theorem bt_all : bootBuiltins "all" = some (.builtin "all") := by decide +kernel
theorem bt_isinstance : bootBuiltins "isinstance" = some (.builtin "isinstance") := by decide +kernel
theorem bt_int : bootBuiltins "int" = some (.type "int") := by decide +kernel
theorem bt_bool : bootBuiltins "bool" = some (.type "bool") := by decide +kernel
theorem bt_list : bootBuiltins "list" = some (.type "list") := by decide +kernel
theorem bt_tuple : bootBuiltins "tuple" = some (.type "tuple") := by decide +kernel
theorem atI_n {α : Type} (xs : List α) (n : Nat) : atI xs (n : Int) = xs[n]? := by
  cases h : xs[n]? with
  | some v => exact atI_nat h
  | none =>
    have h' := List.getElem?_eq_none_iff.mp h
    unfold atI ixN
    rw [if_pos (by omega), if_neg (by omega)]
    rfl
theorem fmod_pos {i j : Int} (h : 0 < j) : i.fmod j = i % j := Int.fmod_eq_emod_of_nonneg i (Int.le_of_lt h)
theorem small_le {n : Nat} (h : n ≤ 1000) : n ≤ sizeLine := Nat.le_of_lt (small1000 h)
noncomputable def Bd (k : Nat) (i : Int) : Prop := i.natAbs < 2 ^ k
theorem Bd.mono {k l : Nat} {i : Int} (h : Bd k i) (hl : k ≤ l) : Bd l i := Nat.lt_of_lt_of_le h (Nat.pow_le_pow_right (by decide) hl)
theorem Bd.neg {k : Nat} {i : Int} (h : Bd k i) : Bd k (-i) := by unfold Bd; rw [Int.natAbs_neg]; exact h
theorem Bd.add {k l : Nat} {i j : Int} (h : Bd k i) (g : Bd l j) : Bd (max k l + 1) (i + j) := by
  unfold Bd at *
  have h1 : i.natAbs < 2 ^ max k l := Nat.lt_of_lt_of_le h (Nat.pow_le_pow_right (by decide) (Nat.le_max_left ..))
  have h2 : j.natAbs < 2 ^ max k l := Nat.lt_of_lt_of_le g (Nat.pow_le_pow_right (by decide) (Nat.le_max_right ..))
  have h3 := Int.natAbs_add_le i j
  rw [Nat.pow_succ]
  omega
theorem Bd.sub {k l : Nat} {i j : Int} (h : Bd k i) (g : Bd l j) : Bd (max k l + 1) (i - j) := by rw [Int.sub_eq_add_neg]; exact h.add g.neg
theorem Bd.mul {k l : Nat} {i j : Int} (h : Bd k i) (g : Bd l j) : Bd (k + l) (i * j) := by
  unfold Bd at *
  rw [Int.natAbs_mul, Nat.pow_add]
  exact Nat.mul_lt_mul_of_lt_of_lt h g
theorem Bd.bits {k : Nat} {i : Int} (h : Bd k i) : Builtin.Int.intBits i ≤ k := by
  unfold Builtin.Int.intBits
  split
  · exact Nat.zero_le _
  · rename_i hz
    have h0 : i.natAbs ≠ 0 := by
      intro z
      apply hz
      have : i = 0 := Int.natAbs_eq_zero.mp z
      simp [this]
    exact (Nat.log2_lt h0).mpr h
theorem mulOk {k l : Nat} {i j : Int} (h : Bd k i) (g : Bd l j) (hk : k + l ≤ 134217728) : IntMulOk i j := IntMulOk.of_le h.bits g.bits hk
theorem cd_of {k : Nat} {i j : Int} (h0 : j ≠ 0) (h : Bd k j) (hk : k ≤ 9000) : CD i j := by
  refine ⟨h0, ?_⟩
  have hz : j.natAbs ≠ 0 := fun z => h0 (Int.natAbs_eq_zero.mp z)
  exact Nat.lt_of_lt_of_le ((Nat.log2_lt hz).mpr h) hk
theorem bd_of {k : Nat} {i : Int} (n : Nat) (h : i.natAbs ≤ n) (hn : n < 2 ^ k) : Bd k i := Nat.lt_of_le_of_lt h hn
theorem cd_lit {i j : Int} (h : decide (j ≠ 0 ∧ j.natAbs < 1073741824) = true) : CD i j := by
  have h := of_decide_eq_true h
  exact cd_of (k := 30) h.1 h.2 (by decide)
end D3

set_option Elab.async false
set_option linter.all false
set_option maxRecDepth 100000
set_option maxHeartbeats 4000000
namespace D3
open PySem PySem.Spec PyProof.Rows L2
section
variable {X : Cx} {tg : Expr}
theorem call_sumL (hc : X.calm = true) : CallR X (.builtin "sum") (fun xs H Q => ∃ (p : Addr) (ns : List Int), xs = [.ref p] ∧ SqL X.K H p (ns.map V.int) ∧ Q (.int ns.sum) H) := by
  intro pins s σ H xs us Q I r h
  obtain ⟨p, ns, rfl, hq, q⟩ := h
  obtain ⟨u, rfl, rx⟩ := vals1 r
  cases rx
  obtain ⟨its, r', pl, hz⟩ := I.list hq
  have hi : IntsAre its ns := intsAre_of r'
  obtain ⟨xs, hxs⟩ := hi.allInts.items
  have hl := pl.isList
  have e1 : (numsOf its).sum = ns.sum := by rw [hi.numsOf]
  rw [hxs] at hl
  have e2 : numsOf its = numsOf (intItems xs).toList := by rw [← hxs]
  refine sum_intListG (I.ok.hd hc) hl fun h' tk t' kp => ⟨.int ns.sum, H, I.kept kp, ⟨t', ?_⟩, q⟩
  rw [preSum_eq, List.take_of_length_le (by simp), ← e1, e2, nums_intItems]
noncomputable abbrev cSum : Con
  | [.lst ds], Φ => ∃ ns : List Int, ds = ns.map .int ∧ Φ (.int ns.sum)
  | _, _ => False
theorem b_sum (hc : X.calm = true) : CallD X (.builtin "sum") cSum := ⟨_, call_sumL hc, fun S H ds vs Φ Q so r h hd => by
  match ds, h with
  | [.lst ds], ⟨ns, e, h⟩ =>
    subst e
    simp only [Reps] at r
    obtain ⟨v, _, rfl, rv, rfl⟩ := r
    obtain ⟨a, xs, rfl, lr, rs⟩ := rep_lst rv
    have := rs.intsV
    subst this
    exact ⟨a, ns, rfl, lr.sq, hd _ _ H h (Same.refl _) Rep.int⟩⟩
theorem bd_lit {k : Nat} {i : Int} (h : decide (i.natAbs < 2 ^ k) = true) : Bd k i := by unfold Bd; exact of_decide_eq_true h
theorem sl_le {n : Nat} (k : Nat) (h : n = k) (hk : k ≤ 1000) : n ≤ sizeLine := by subst h; exact small_le hk
theorem sl_lt {n : Nat} (k : Nat) (h : n = k) (hk : k ≤ 1000) : n < sizeLine := by subst h; exact small1000 hk
theorem tst {A B : Prop} {b : Bool} (h1 : b = true → A) (h2 : b = false → B) : if b = true then A else B := by
  cases b with
  | true => rw [if_pos rfl]; exact h1 rfl
  | false => rw [if_neg Bool.false_ne_true]; exact h2 rfl
theorem tF {A B : Prop} {b : Bool} (h : b = false) (a : B) : if b = true then A else B := by subst h; rw [if_neg Bool.false_ne_true]; exact a
end
end D3

set_option Elab.async false
set_option linter.all false
set_option maxRecDepth 100000
set_option maxHeartbeats 4000000
namespace D3
open PySem PySem.Spec PyProof.Rows L2
mutual
noncomputable def eqD : D → D → Bool
  | .non, .non => true
  | .bl a, .bl b => a == b
  | .bl a, .int b => (if a then 1 else 0) == b
  | .int a, .bl b => a == (if b then 1 else 0)
  | .int a, .int b => a == b
  | .str a, .str b => a == b
  | .tup xs, .tup ys => eqDs xs ys
  | .lst xs, .lst ys => eqDs xs ys
  | _, _ => false
noncomputable def eqDs : List D → List D → Bool
  | [], [] => true
  | x :: xs, y :: ys => eqD x y && eqDs xs ys
  | _, _ => false
end
mutual
noncomputable def dep : D → Nat
  | .tup xs => deps xs + 1
  | .lst xs => deps xs + 1
  | _ => 0
noncomputable def deps : List D → Nat
  | [] => 0
  | x :: xs => max (dep x) (deps xs)
end
theorem deps_le {n : Nat} : ∀ {ds : List D}, (∀ d ∈ ds, dep d ≤ n) → deps ds ≤ n
  | [], _ => Nat.zero_le _
  | d :: ds, h => by
    simp only [deps]
    exact Nat.max_le.mpr ⟨h d List.mem_cons_self, deps_le fun e he => h e (List.mem_cons_of_mem _ he)⟩
theorem le_deps : ∀ {ds : List D} {i : Nat} {d : D}, ds[i]? = some d → dep d ≤ deps ds
  | [], i, d, h => by simp at h
  | c :: ds, 0, d, h => by simp at h; subst h; simp only [deps]; exact Nat.le_max_left _ _
  | c :: ds, i + 1, d, h => by simp only [deps]; exact Nat.le_trans (le_deps (i := i) (by simpa using h)) (Nat.le_max_right _ _)
mutual
theorem eqD_refl : ∀ d : D, eqD d d = true
  | .non => by simp only [eqD]
  | .bl b => by simp [eqD]
  | .int i => by simp [eqD]
  | .str x => by simp [eqD]
  | .tup ds => by simp only [eqD]; exact eqDs_refl ds
  | .lst ds => by simp only [eqD]; exact eqDs_refl ds
theorem eqDs_refl : ∀ ds : List D, eqDs ds ds = true
  | [] => by simp only [eqDs]
  | d :: ds => by simp only [eqDs, eqD_refl d, eqDs_refl ds, Bool.and_self]
end
theorem eqDs_len : ∀ {xs ys : List D}, xs.length ≠ ys.length → eqDs xs ys = false
  | [], [], h => absurd rfl h
  | [], _ :: _, _ => by simp only [eqDs]
  | _ :: _, [], _ => by simp only [eqDs]
  | x :: xs, y :: ys, h => by
    simp only [eqDs]
    rw [eqDs_len (xs := xs) (ys := ys) (by simpa using h), Bool.and_false]
theorem eqDs_range : ∀ {xs ys : List D}, xs.length = ys.length → (List.range xs.length).all (fun j => eqD (xs.getD j .non) (ys.getD j .non)) = eqDs xs ys
  | [], [], _ => by simp [eqDs]
  | x :: xs, y :: ys, h => by
    rw [List.length_cons, List.range_succ_eq_map, List.all_cons, List.all_map]
    simp only [eqDs]
    rw [← eqDs_range (xs := xs) (ys := ys) (by simpa using h)]
    rfl
section
variable {X : Cx} {pins : List (Addr × Obj)} {σ : L2.St} {H : Hp} {s : Shared} {S : Addr → Prop}
theorem not_both {a : Addr} {xs ys : List V} (I : Inv X pins σ H s) (h : SqT X.K H a xs) (h' : SqL X.K H a ys) : False := by
  obtain ⟨its, _, p, _⟩ := I.tuple h
  obtain ⟨its2, _, p2, _⟩ := I.list h'
  obtain ⟨o, e, c, _⟩ := p
  obtain ⟨o2, n2, e2, c2, _⟩ := p2
  rw [e] at e2; cases e2
  rw [c] at c2
  exact absurd c2 (by decide)
mutual
theorem rep_inj (I : Inv X pins σ H s) : ∀ (d d' : D) (v : V), Rep X.K S H d v → Rep X.K S H d' v → d = d'
  | .non, d', v, h, h' => by cases rep_non h; cases d' <;> simp [Rep] at h' ⊢
  | .bl b, d', v, h, h' => by cases rep_bl h; cases d' <;> simp [Rep] at h' ⊢; exact h'
  | .int b, d', v, h, h' => by cases rep_int h; cases d' <;> simp [Rep] at h' ⊢; exact h'
  | .str b, d', v, h, h' => by cases rep_str h; cases d' <;> simp [Rep] at h' ⊢; exact h'
  | .tup ds, d', v, h, h' => by
    obtain ⟨a, xs, rfl, q, rs⟩ := rep_tup h
    cases d' with
    | tup es =>
      obtain ⟨a', xs', e, q', rs'⟩ := rep_tup h'
      cases e
      have := I.tuple_inj q q'
      subst this
      rw [reps_inj I ds es xs rs rs']
    | lst es =>
      obtain ⟨a', xs', e, q', rs'⟩ := rep_lst h'
      cases e
      exact (not_both I q q'.sq).elim
    | _ => simp [Rep] at h'
  | .lst ds, d', v, h, h' => by
    obtain ⟨a, xs, rfl, q, rs⟩ := rep_lst h
    cases d' with
    | lst es =>
      obtain ⟨a', xs', e, q', rs'⟩ := rep_lst h'
      cases e
      have := I.list_inj q.sq q'.sq
      subst this
      rw [reps_inj I ds es xs rs rs']
    | tup es =>
      obtain ⟨a', xs', e, q', rs'⟩ := rep_tup h'
      cases e
      exact (not_both I q' q.sq).elim
    | _ => simp [Rep] at h'
theorem reps_inj (I : Inv X pins σ H s) : ∀ (d d' : List D) (v : List V), Reps X.K S H d v → Reps X.K S H d' v → d = d'
  | [], d', v, h, h' => by
    simp only [Reps] at h; subst h
    cases d' with
    | nil => rfl
    | cons c cs => simp [Reps] at h'
  | c :: cs, d', v, h, h' => by
    simp only [Reps] at h
    obtain ⟨x, r, rfl, q, t⟩ := h
    cases d' with
    | nil => simp [Reps] at h'
    | cons e es =>
      simp only [Reps] at h'
      obtain ⟨x', r', e', q', t'⟩ := h'
      cases e'
      rw [rep_inj I c e x q q', reps_inj I cs es r t t']
end
noncomputable def RcQ (ne : Bool) (A : Around) (s : Shared) (u v : Value) (b : Bool) : Prop := if ne then SeqAt.RcNeAt A s u v (!b) else SeqAt.RcAt A s u v b
theorem items_eq {A : Around} (its its2 : List Value) (xs ys : List V) (ds es : List D) (r1 : Vals xs its) (r2 : Vals ys its2) (rs : Reps X.K S H ds xs) (rs' : Reps X.K S H es ys)
    (ih : ∀ (j : Nat) (x y : D) (v v' : V) (u u' : Value), ds[j]? = some x → Rep X.K S H x v → Rep X.K S H y v' → RelV v u → RelV v' u' → SeqAt.EqAt A s u u' (eqD x y)) :
    ∀ j (h1 : j < its.toArray.size) (h2 : j < its2.toArray.size), SeqAt.EqAt A s its.toArray[j] its2.toArray[j] (eqD (ds.getD j .non) (es.getD j .non)) := by
  intro j h1 h2
  have k1 : j < ds.length := by rw [rs.len, r1.length]; simpa using h1
  have k2 : j < es.length := by rw [rs'.len, r2.length]; simpa using h2
  obtain ⟨v, ev, rv⟩ := rs.get (i := j) (d := ds[j]) (by simp [k1])
  obtain ⟨v', ev', rv'⟩ := rs'.get (i := j) (d := es[j]) (by simp [k2])
  obtain ⟨u, eu, ru⟩ := r1.get ev
  obtain ⟨u', eu', ru'⟩ := r2.get ev'
  have w1 : its.toArray[j] = u := by
    have : its[j]? = some its.toArray[j] := by simp at h1 ⊢
    rw [eu] at this; exact (Option.some.inj this).symm
  have w2 : its2.toArray[j] = u' := by
    have : its2[j]? = some its2.toArray[j] := by simp at h2 ⊢
    rw [eu'] at this; exact (Option.some.inj this).symm
  have w3 : ds.getD j .non = ds[j] := by rw [List.getD_eq_getElem?_getD]; simp [k1]
  have w4 : es.getD j .non = es[j] := by rw [List.getD_eq_getElem?_getD]; simp [k2]
  rw [w1, w2, w3, w4]
  exact ih j ds[j] es[j] v v' u u' (by simp [k1]) rv rv' ru ru'
theorem rc_lists {ne : Bool} {A : Around} {ds es : List D} {a b : Addr} {xs ys : List V} (I : Inv X pins σ H s) (hu : A.units < cLine) (q : SqL X.K H a xs) (q' : SqL X.K H b ys) (rs : Reps X.K S H ds xs) (rs' : Reps X.K S H es ys)
    (ih : ∀ (j : Nat) (x y : D) (v v' : V) (u u' : Value), ds[j]? = some x → Rep X.K S H x v → Rep X.K S H y v' → RelV v u → RelV v' u' → SeqAt.EqAt A.in1 s u u' (eqD x y)) : RcQ ne A s (.ref a) (.ref b) (eqDs ds es) := by
  obtain ⟨its, r1, p1, _⟩ := I.list q
  obtain ⟨its2, r2, p2, _⟩ := I.list q'
  have hl1 : its.toArray.size = ds.length := by rw [rs.len, r1.length]; simp
  have hl2 : its2.toArray.size = es.length := by rw [rs'.len, r2.length]; simp
  unfold RcQ
  by_cases hlen : ds.length = es.length
  · have it := items_eq its its2 xs ys ds es r1 r2 rs rs' ih
    have e1 : (List.range its.toArray.size).all (fun j => eqD (ds.getD j .non) (es.getD j .non)) = eqDs ds es := by rw [hl1]; exact eqDs_range hlen
    cases ne with
    | false =>
      have := SeqAt.RcAt.lists p1.isList p2.isList (by rw [hl1, hl2, hlen]) hu it
      rw [e1] at this
      exact this
    | true =>
      have := SeqAt.RcNeAt.lists p1.isList p2.isList (by rw [hl1, hl2, hlen]) hu it
      rw [e1] at this
      exact this
  · rw [eqDs_len hlen]
    have hz : (its.toArray.size != its2.toArray.size) = true := by rw [hl1, hl2]; simpa using hlen
    cases ne with
    | false => exact SeqAt.RcAt.lists_lengths p1.isList p2.isList hz hu
    | true => exact SeqAt.RcNeAt.lists_lengths p1.isList p2.isList hz hu
theorem rc_tuples {ne : Bool} {A : Around} {ds es : List D} {a b : Addr} {xs ys : List V} (I : Inv X pins σ H s) (hu : A.units < cLine) (q : SqT X.K H a xs) (q' : SqT X.K H b ys) (rs : Reps X.K S H ds xs) (rs' : Reps X.K S H es ys)
    (ih : ∀ (j : Nat) (x y : D) (v v' : V) (u u' : Value), ds[j]? = some x → Rep X.K S H x v → Rep X.K S H y v' → RelV v u → RelV v' u' → SeqAt.EqAt A.in1 s u u' (eqD x y)) : RcQ ne A s (.ref a) (.ref b) (eqDs ds es) := by
  obtain ⟨its, r1, p1, _⟩ := I.tuple q
  obtain ⟨its2, r2, p2, _⟩ := I.tuple q'
  have hl1 : its.toArray.size = ds.length := by rw [rs.len, r1.length]; simp
  have hl2 : its2.toArray.size = es.length := by rw [rs'.len, r2.length]; simp
  have it := items_eq its its2 xs ys ds es r1 r2 rs rs' ih
  have e1 : ((List.range (min its.toArray.size its2.toArray.size)).all (fun j => eqD (ds.getD j .non) (es.getD j .non)) && its.toArray.size == its2.toArray.size) = eqDs ds es := by
    rw [hl1, hl2]
    by_cases hlen : ds.length = es.length
    · rw [← hlen, Nat.min_self, eqDs_range hlen]; simp
    · rw [eqDs_len hlen]
      have : (ds.length == es.length) = false := by simpa using hlen
      rw [this, Bool.and_false]
  unfold RcQ
  cases ne with
  | false =>
    have := SeqAt.RcAt.tuples p1 p2 hu it
    rw [e1] at this
    exact this
  | true =>
    have := SeqAt.RcNeAt.tuples p1 p2 hu it
    rw [e1] at this
    exact this
theorem eqAt_D (I : Inv X pins σ H s) : ∀ (n : Nat) (x y : D) (v v' : V) (u u' : Value) (A : Around), dep x ≤ n → A.units + n < cLine → Rep X.K S H x v → Rep X.K S H y v' → RelV v u → RelV v' u' → SeqAt.EqAt A s u u' (eqD x y) := by
  intro n
  induction n with
  | zero =>
    intro x y v v' u u' A hd hu rx ry ru ru'
    cases x with
    | tup ds => simp only [dep] at hd; omega
    | lst ds => simp only [dep] at hd; omega
    | non =>
      cases rep_non rx
      cases (show u = Value.none from ru)
      cases y with
      | non => cases rep_non ry; cases (show u' = Value.none from ru'); simp only [eqD]; exact SeqAt.EqAt.same _
      | bl b => cases rep_bl ry; cases (show u' = Value.bool b from ru'); simp only [eqD]; exact SeqAt.EqAt.none_bool b
      | int b => cases rep_int ry; obtain ⟨t, rfl⟩ := ru'; simp only [eqD]; exact SeqAt.EqAt.none_int b t
      | str b => cases rep_str ry; obtain ⟨t, rfl⟩ := ru'; simp only [eqD]; exact SeqAt.EqAt.none_str b t
      | tup es =>
        obtain ⟨a, xs, rfl, q, rs⟩ := rep_tup ry
        cases (show u' = Value.ref a from ru')
        obtain ⟨its, r1, p1, _⟩ := I.tuple q
        simp only [eqD]; exact SeqAt.EqAt.none_tuple p1 (by omega)
      | lst es =>
        obtain ⟨a, xs, rfl, q, rs⟩ := rep_lst ry
        cases (show u' = Value.ref a from ru')
        obtain ⟨its, r1, p1, _⟩ := I.list q.sq
        simp only [eqD]; exact SeqAt.EqAt.none_list p1.isList (by omega)
    | bl a0 =>
      cases rep_bl rx
      cases (show u = Value.bool a0 from ru)
      cases y with
      | non => cases rep_non ry; cases (show u' = Value.none from ru'); simp only [eqD]; exact SeqAt.EqAt.bool_none a0
      | bl b => cases rep_bl ry; cases (show u' = Value.bool b from ru'); simp only [eqD]; exact SeqAt.EqAt.bool_bool a0 b
      | int b => cases rep_int ry; obtain ⟨t, rfl⟩ := ru'; simp only [eqD]; exact SeqAt.EqAt.bool_int a0 b t
      | str b => cases rep_str ry; obtain ⟨t, rfl⟩ := ru'; simp only [eqD]; exact SeqAt.EqAt.bool_str a0 b t
      | tup es =>
        obtain ⟨a, xs, rfl, q, rs⟩ := rep_tup ry
        cases (show u' = Value.ref a from ru')
        obtain ⟨its, r1, p1, _⟩ := I.tuple q
        simp only [eqD]; exact SeqAt.EqAt.bool_tuple a0 p1 (by omega)
      | lst es =>
        obtain ⟨a, xs, rfl, q, rs⟩ := rep_lst ry
        cases (show u' = Value.ref a from ru')
        obtain ⟨its, r1, p1, _⟩ := I.list q.sq
        simp only [eqD]; exact SeqAt.EqAt.bool_list a0 p1.isList (by omega)
    | int a0 =>
      cases rep_int rx
      obtain ⟨t0, rfl⟩ := ru
      cases y with
      | non => cases rep_non ry; cases (show u' = Value.none from ru'); simp only [eqD]; exact SeqAt.EqAt.int_none a0 t0
      | bl b => cases rep_bl ry; cases (show u' = Value.bool b from ru'); simp only [eqD]; exact SeqAt.EqAt.int_bool a0 t0 b
      | int b => cases rep_int ry; obtain ⟨t, rfl⟩ := ru'; simp only [eqD]; exact SeqAt.EqAt.int_int a0 t0 b t
      | str b => cases rep_str ry; obtain ⟨t, rfl⟩ := ru'; simp only [eqD]; exact SeqAt.EqAt.int_str a0 t0 b t
      | tup es =>
        obtain ⟨a, xs, rfl, q, rs⟩ := rep_tup ry
        cases (show u' = Value.ref a from ru')
        obtain ⟨its, r1, p1, _⟩ := I.tuple q
        simp only [eqD]; exact SeqAt.EqAt.int_tuple a0 t0 p1 (by omega)
      | lst es =>
        obtain ⟨a, xs, rfl, q, rs⟩ := rep_lst ry
        cases (show u' = Value.ref a from ru')
        obtain ⟨its, r1, p1, _⟩ := I.list q.sq
        simp only [eqD]; exact SeqAt.EqAt.int_list a0 t0 p1.isList (by omega)
    | str a0 =>
      cases rep_str rx
      obtain ⟨t0, rfl⟩ := ru
      cases y with
      | non => cases rep_non ry; cases (show u' = Value.none from ru'); simp only [eqD]; exact SeqAt.EqAt.str_none a0 t0
      | bl b => cases rep_bl ry; cases (show u' = Value.bool b from ru'); simp only [eqD]; exact SeqAt.EqAt.str_bool a0 t0 b
      | int b => cases rep_int ry; obtain ⟨t, rfl⟩ := ru'; simp only [eqD]; exact SeqAt.EqAt.str_int a0 t0 b t
      | str b => cases rep_str ry; obtain ⟨t, rfl⟩ := ru'; simp only [eqD]; exact SeqAt.EqAt.str_str a0 t0 b t
      | tup es =>
        obtain ⟨a, xs, rfl, q, rs⟩ := rep_tup ry
        cases (show u' = Value.ref a from ru')
        obtain ⟨its, r1, p1, _⟩ := I.tuple q
        simp only [eqD]; exact SeqAt.EqAt.str_tuple a0 t0 p1 (by omega)
      | lst es =>
        obtain ⟨a, xs, rfl, q, rs⟩ := rep_lst ry
        cases (show u' = Value.ref a from ru')
        obtain ⟨its, r1, p1, _⟩ := I.list q.sq
        simp only [eqD]; exact SeqAt.EqAt.str_list a0 t0 p1.isList (by omega)
  | succ n ih =>
    intro x y v v' u u' A hd hu rx ry ru ru'
    by_cases hx : dep x = 0
    · exact (show ∀ m, dep x ≤ m → A.units + m < cLine → (∀ (x y : D) (v v' : V) (u u' : Value) (A : Around), dep x ≤ m → A.units + m < cLine → Rep X.K S H x v → Rep X.K S H y v' → RelV v u → RelV v' u' → SeqAt.EqAt A s u u' (eqD x y)) → SeqAt.EqAt A s u u' (eqD x y) from fun m h1 h2 ih => ih x y v v' u u' A h1 h2 rx ry ru ru') n (by omega) (by omega) ih
    · cases x with
      | non => exact absurd (by simp only [dep]) hx
      | bl b => exact absurd (by simp only [dep]) hx
      | int b => exact absurd (by simp only [dep]) hx
      | str b => exact absurd (by simp only [dep]) hx
      | tup ds =>
        have hds : deps ds ≤ n := by simp only [dep] at hd; omega
        have ih' : ∀ (j : Nat) (x y : D) (v v' : V) (u u' : Value), ds[j]? = some x → Rep X.K S H x v → Rep X.K S H y v' → RelV v u → RelV v' u' → SeqAt.EqAt A.in1 s u u' (eqD x y) :=
          fun j x y v v' u u' e r1 r2 q1 q2 => ih x y v v' u u' A.in1 (Nat.le_trans (le_deps e) hds) (by show A.units + 1 + n < cLine; omega) r1 r2 q1 q2
        have rx0 := rx
        obtain ⟨a, xs, rfl, q, rs⟩ := rep_tup rx
        cases (show u = Value.ref a from ru)
        cases y with
        | non => cases rep_non ry; cases (show u' = Value.none from ru'); obtain ⟨its, r1, p1, _⟩ := I.tuple q; simp only [eqD]; exact SeqAt.EqAt.tuple_none p1 (by omega)
        | bl b => cases rep_bl ry; cases (show u' = Value.bool b from ru'); obtain ⟨its, r1, p1, _⟩ := I.tuple q; simp only [eqD]; exact SeqAt.EqAt.tuple_bool b p1 (by omega)
        | int b => cases rep_int ry; obtain ⟨t, rfl⟩ := ru'; obtain ⟨its, r1, p1, _⟩ := I.tuple q; simp only [eqD]; exact SeqAt.EqAt.tuple_int b t p1 (by omega)
        | str b => cases rep_str ry; obtain ⟨t, rfl⟩ := ru'; obtain ⟨its, r1, p1, _⟩ := I.tuple q; simp only [eqD]; exact SeqAt.EqAt.tuple_str b t p1 (by omega)
        | tup es =>
          have ry0 := ry
          obtain ⟨a', xs', rfl, q', rs'⟩ := rep_tup ry
          cases (show u' = Value.ref a' from ru')
          by_cases haa : a = a'
          · subst haa
            rw [rep_inj I _ _ _ ry0 rx0, eqD_refl]
            exact SeqAt.EqAt.same _
          · simp only [eqD]
            exact SeqAt.EqAt.of_refs haa (rc_tuples (ne := false) I (by omega) q q' rs rs' ih')
        | lst es =>
          obtain ⟨a', xs', rfl, q', rs'⟩ := rep_lst ry
          cases (show u' = Value.ref a' from ru')
          obtain ⟨its, r1, p1, _⟩ := I.tuple q
          obtain ⟨its2, r2, p2, _⟩ := I.list q'.sq
          simp only [eqD]; exact SeqAt.EqAt.tuple_list p1 p2.isList (by omega)
      | lst ds =>
        have hds : deps ds ≤ n := by simp only [dep] at hd; omega
        have ih' : ∀ (j : Nat) (x y : D) (v v' : V) (u u' : Value), ds[j]? = some x → Rep X.K S H x v → Rep X.K S H y v' → RelV v u → RelV v' u' → SeqAt.EqAt A.in1 s u u' (eqD x y) :=
          fun j x y v v' u u' e r1 r2 q1 q2 => ih x y v v' u u' A.in1 (Nat.le_trans (le_deps e) hds) (by show A.units + 1 + n < cLine; omega) r1 r2 q1 q2
        have rx0 := rx
        obtain ⟨a, xs, rfl, q, rs⟩ := rep_lst rx
        cases (show u = Value.ref a from ru)
        cases y with
        | non => cases rep_non ry; cases (show u' = Value.none from ru'); obtain ⟨its, r1, p1, _⟩ := I.list q.sq; simp only [eqD]; exact SeqAt.EqAt.list_none p1.isList (by omega)
        | bl b => cases rep_bl ry; cases (show u' = Value.bool b from ru'); obtain ⟨its, r1, p1, _⟩ := I.list q.sq; simp only [eqD]; exact SeqAt.EqAt.list_bool b p1.isList (by omega)
        | int b => cases rep_int ry; obtain ⟨t, rfl⟩ := ru'; obtain ⟨its, r1, p1, _⟩ := I.list q.sq; simp only [eqD]; exact SeqAt.EqAt.list_int b t p1.isList (by omega)
        | str b => cases rep_str ry; obtain ⟨t, rfl⟩ := ru'; obtain ⟨its, r1, p1, _⟩ := I.list q.sq; simp only [eqD]; exact SeqAt.EqAt.list_str b t p1.isList (by omega)
        | lst es =>
          have ry0 := ry
          obtain ⟨a', xs', rfl, q', rs'⟩ := rep_lst ry
          cases (show u' = Value.ref a' from ru')
          by_cases haa : a = a'
          · subst haa
            rw [rep_inj I _ _ _ ry0 rx0, eqD_refl]
            exact SeqAt.EqAt.same _
          · simp only [eqD]
            exact SeqAt.EqAt.of_refs haa (rc_lists (ne := false) I (by omega) q.sq q'.sq rs rs' ih')
        | tup es =>
          obtain ⟨a', xs', rfl, q', rs'⟩ := rep_tup ry
          cases (show u' = Value.ref a' from ru')
          obtain ⟨its, r1, p1, _⟩ := I.list q.sq
          obtain ⟨its2, r2, p2, _⟩ := I.tuple q'
          simp only [eqD]; exact SeqAt.EqAt.list_tuple p1.isList p2 (by omega)
theorem rcQ_D {ne : Bool} (I : Inv X pins σ H s) (n : Nat) (x y : D) (v v' : V) (u u' : Value) (A : Around) (hd : dep x ≤ n) (hu : A.units + n < cLine) (rx : Rep X.K S H x v) (ry : Rep X.K S H y v') (ru : RelV v u) (ru' : RelV v' u') : RcQ ne A s u u' (eqD x y) := by
  cases x with
  | non =>
    cases rep_non rx
    cases (show u = Value.none from ru)
    cases y with
    | non => cases rep_non ry; cases (show u' = Value.none from ru'); simp only [eqD]; cases ne; exact SeqAt.RcAt.none_none; exact SeqAt.RcNeAt.none_none
    | bl b => cases rep_bl ry; cases (show u' = Value.bool b from ru'); simp only [eqD]; cases ne; exact SeqAt.RcAt.none_bool b; exact SeqAt.RcNeAt.none_bool b
    | int b => cases rep_int ry; obtain ⟨t, rfl⟩ := ru'; simp only [eqD]; cases ne; exact SeqAt.RcAt.none_int b t; exact SeqAt.RcNeAt.none_int b t
    | str b => cases rep_str ry; obtain ⟨t, rfl⟩ := ru'; simp only [eqD]; cases ne; exact SeqAt.RcAt.none_str b t; exact SeqAt.RcNeAt.none_str b t
    | tup es =>
      obtain ⟨a, xs, rfl, q, rs⟩ := rep_tup ry
      cases (show u' = Value.ref a from ru')
      obtain ⟨its, r1, p1, _⟩ := I.tuple q
      simp only [eqD]; cases ne; exact SeqAt.RcAt.none_tuple p1 (by omega); exact SeqAt.RcNeAt.none_tuple p1 (by omega)
    | lst es =>
      obtain ⟨a, xs, rfl, q, rs⟩ := rep_lst ry
      cases (show u' = Value.ref a from ru')
      obtain ⟨its, r1, p1, _⟩ := I.list q.sq
      simp only [eqD]; cases ne; exact SeqAt.RcAt.none_list p1.isList (by omega); exact SeqAt.RcNeAt.none_list p1.isList (by omega)
  | bl a0 =>
    cases rep_bl rx
    cases (show u = Value.bool a0 from ru)
    cases y with
    | non => cases rep_non ry; cases (show u' = Value.none from ru'); simp only [eqD]; cases ne; exact SeqAt.RcAt.bool_none a0; exact SeqAt.RcNeAt.bool_none a0
    | bl b => cases rep_bl ry; cases (show u' = Value.bool b from ru'); simp only [eqD]; cases ne; exact SeqAt.RcAt.bool_bool a0 b; exact SeqAt.RcNeAt.bool_bool a0 b
    | int b => cases rep_int ry; obtain ⟨t, rfl⟩ := ru'; simp only [eqD]; cases ne; exact SeqAt.RcAt.bool_int a0 b t; exact SeqAt.RcNeAt.bool_int a0 b t
    | str b => cases rep_str ry; obtain ⟨t, rfl⟩ := ru'; simp only [eqD]; cases ne; exact SeqAt.RcAt.bool_str a0 b t; exact SeqAt.RcNeAt.bool_str a0 b t
    | tup es =>
      obtain ⟨a, xs, rfl, q, rs⟩ := rep_tup ry
      cases (show u' = Value.ref a from ru')
      obtain ⟨its, r1, p1, _⟩ := I.tuple q
      simp only [eqD]; cases ne; exact SeqAt.RcAt.bool_tuple a0 p1 (by omega); exact SeqAt.RcNeAt.bool_tuple a0 p1 (by omega)
    | lst es =>
      obtain ⟨a, xs, rfl, q, rs⟩ := rep_lst ry
      cases (show u' = Value.ref a from ru')
      obtain ⟨its, r1, p1, _⟩ := I.list q.sq
      simp only [eqD]; cases ne; exact SeqAt.RcAt.bool_list a0 p1.isList (by omega); exact SeqAt.RcNeAt.bool_list a0 p1.isList (by omega)
  | int a0 =>
    cases rep_int rx
    obtain ⟨t0, rfl⟩ := ru
    cases y with
    | non => cases rep_non ry; cases (show u' = Value.none from ru'); simp only [eqD]; cases ne; exact SeqAt.RcAt.int_none a0 t0; exact SeqAt.RcNeAt.int_none a0 t0
    | bl b => cases rep_bl ry; cases (show u' = Value.bool b from ru'); simp only [eqD]; cases ne; exact SeqAt.RcAt.int_bool a0 t0 b; exact SeqAt.RcNeAt.int_bool a0 t0 b
    | int b => cases rep_int ry; obtain ⟨t, rfl⟩ := ru'; simp only [eqD]; cases ne; exact SeqAt.RcAt.int_int a0 t0 b t; exact SeqAt.RcNeAt.int_int a0 t0 b t
    | str b => cases rep_str ry; obtain ⟨t, rfl⟩ := ru'; simp only [eqD]; cases ne; exact SeqAt.RcAt.int_str a0 t0 b t; exact SeqAt.RcNeAt.int_str a0 t0 b t
    | tup es =>
      obtain ⟨a, xs, rfl, q, rs⟩ := rep_tup ry
      cases (show u' = Value.ref a from ru')
      obtain ⟨its, r1, p1, _⟩ := I.tuple q
      simp only [eqD]; cases ne; exact SeqAt.RcAt.int_tuple a0 t0 p1 (by omega); exact SeqAt.RcNeAt.int_tuple a0 t0 p1 (by omega)
    | lst es =>
      obtain ⟨a, xs, rfl, q, rs⟩ := rep_lst ry
      cases (show u' = Value.ref a from ru')
      obtain ⟨its, r1, p1, _⟩ := I.list q.sq
      simp only [eqD]; cases ne; exact SeqAt.RcAt.int_list a0 t0 p1.isList (by omega); exact SeqAt.RcNeAt.int_list a0 t0 p1.isList (by omega)
  | str a0 =>
    cases rep_str rx
    obtain ⟨t0, rfl⟩ := ru
    cases y with
    | non => cases rep_non ry; cases (show u' = Value.none from ru'); simp only [eqD]; cases ne; exact SeqAt.RcAt.str_none a0 t0; exact SeqAt.RcNeAt.str_none a0 t0
    | bl b => cases rep_bl ry; cases (show u' = Value.bool b from ru'); simp only [eqD]; cases ne; exact SeqAt.RcAt.str_bool a0 t0 b; exact SeqAt.RcNeAt.str_bool a0 t0 b
    | int b => cases rep_int ry; obtain ⟨t, rfl⟩ := ru'; simp only [eqD]; cases ne; exact SeqAt.RcAt.str_int a0 t0 b t; exact SeqAt.RcNeAt.str_int a0 t0 b t
    | str b => cases rep_str ry; obtain ⟨t, rfl⟩ := ru'; simp only [eqD]; cases ne; exact SeqAt.RcAt.str_str a0 t0 b t; exact SeqAt.RcNeAt.str_str a0 t0 b t
    | tup es =>
      obtain ⟨a, xs, rfl, q, rs⟩ := rep_tup ry
      cases (show u' = Value.ref a from ru')
      obtain ⟨its, r1, p1, _⟩ := I.tuple q
      simp only [eqD]; cases ne; exact SeqAt.RcAt.str_tuple a0 t0 p1 (by omega); exact SeqAt.RcNeAt.str_tuple a0 t0 p1 (by omega)
    | lst es =>
      obtain ⟨a, xs, rfl, q, rs⟩ := rep_lst ry
      cases (show u' = Value.ref a from ru')
      obtain ⟨its, r1, p1, _⟩ := I.list q.sq
      simp only [eqD]; cases ne; exact SeqAt.RcAt.str_list a0 t0 p1.isList (by omega); exact SeqAt.RcNeAt.str_list a0 t0 p1.isList (by omega)
  | tup ds =>
    obtain ⟨m, rfl⟩ : ∃ m, n = m + 1 := ⟨n - 1, by simp only [dep] at hd; omega⟩
    have hds : deps ds ≤ m := by simp only [dep] at hd; omega
    have ih' : ∀ (j : Nat) (x y : D) (v v' : V) (u u' : Value), ds[j]? = some x → Rep X.K S H x v → Rep X.K S H y v' → RelV v u → RelV v' u' → SeqAt.EqAt A.in1 s u u' (eqD x y) :=
      fun j x y v v' u u' e r1 r2 q1 q2 => eqAt_D I m x y v v' u u' A.in1 (Nat.le_trans (le_deps e) hds) (by show A.units + 1 + m < cLine; omega) r1 r2 q1 q2
    obtain ⟨a, xs, rfl, q, rs⟩ := rep_tup rx
    cases (show u = Value.ref a from ru)
    cases y with
    | non => cases rep_non ry; cases (show u' = Value.none from ru'); obtain ⟨its, r1, p1, _⟩ := I.tuple q; simp only [eqD]; cases ne; exact SeqAt.RcAt.tuple_none p1 (by omega); exact SeqAt.RcNeAt.tuple_none p1 (by omega)
    | bl b => cases rep_bl ry; cases (show u' = Value.bool b from ru'); obtain ⟨its, r1, p1, _⟩ := I.tuple q; simp only [eqD]; cases ne; exact SeqAt.RcAt.tuple_bool b p1 (by omega); exact SeqAt.RcNeAt.tuple_bool b p1 (by omega)
    | int b => cases rep_int ry; obtain ⟨t, rfl⟩ := ru'; obtain ⟨its, r1, p1, _⟩ := I.tuple q; simp only [eqD]; cases ne; exact SeqAt.RcAt.tuple_int b t p1 (by omega); exact SeqAt.RcNeAt.tuple_int b t p1 (by omega)
    | str b => cases rep_str ry; obtain ⟨t, rfl⟩ := ru'; obtain ⟨its, r1, p1, _⟩ := I.tuple q; simp only [eqD]; cases ne; exact SeqAt.RcAt.tuple_str b t p1 (by omega); exact SeqAt.RcNeAt.tuple_str b t p1 (by omega)
    | tup es =>
      obtain ⟨a', xs', rfl, q', rs'⟩ := rep_tup ry
      cases (show u' = Value.ref a' from ru')
      simp only [eqD]
      exact rc_tuples I (by omega) q q' rs rs' ih'
    | lst es =>
      obtain ⟨a', xs', rfl, q', rs'⟩ := rep_lst ry
      cases (show u' = Value.ref a' from ru')
      obtain ⟨its, r1, p1, _⟩ := I.tuple q
      obtain ⟨its2, r2, p2, _⟩ := I.list q'.sq
      simp only [eqD]; cases ne; exact SeqAt.RcAt.tuple_list p1 p2.isList (by omega); exact SeqAt.RcNeAt.tuple_list p1 p2.isList (by omega)
  | lst ds =>
    obtain ⟨m, rfl⟩ : ∃ m, n = m + 1 := ⟨n - 1, by simp only [dep] at hd; omega⟩
    have hds : deps ds ≤ m := by simp only [dep] at hd; omega
    have ih' : ∀ (j : Nat) (x y : D) (v v' : V) (u u' : Value), ds[j]? = some x → Rep X.K S H x v → Rep X.K S H y v' → RelV v u → RelV v' u' → SeqAt.EqAt A.in1 s u u' (eqD x y) :=
      fun j x y v v' u u' e r1 r2 q1 q2 => eqAt_D I m x y v v' u u' A.in1 (Nat.le_trans (le_deps e) hds) (by show A.units + 1 + m < cLine; omega) r1 r2 q1 q2
    obtain ⟨a, xs, rfl, q, rs⟩ := rep_lst rx
    cases (show u = Value.ref a from ru)
    cases y with
    | non => cases rep_non ry; cases (show u' = Value.none from ru'); obtain ⟨its, r1, p1, _⟩ := I.list q.sq; simp only [eqD]; cases ne; exact SeqAt.RcAt.list_none p1.isList (by omega); exact SeqAt.RcNeAt.list_none p1.isList (by omega)
    | bl b => cases rep_bl ry; cases (show u' = Value.bool b from ru'); obtain ⟨its, r1, p1, _⟩ := I.list q.sq; simp only [eqD]; cases ne; exact SeqAt.RcAt.list_bool b p1.isList (by omega); exact SeqAt.RcNeAt.list_bool b p1.isList (by omega)
    | int b => cases rep_int ry; obtain ⟨t, rfl⟩ := ru'; obtain ⟨its, r1, p1, _⟩ := I.list q.sq; simp only [eqD]; cases ne; exact SeqAt.RcAt.list_int b t p1.isList (by omega); exact SeqAt.RcNeAt.list_int b t p1.isList (by omega)
    | str b => cases rep_str ry; obtain ⟨t, rfl⟩ := ru'; obtain ⟨its, r1, p1, _⟩ := I.list q.sq; simp only [eqD]; cases ne; exact SeqAt.RcAt.list_str b t p1.isList (by omega); exact SeqAt.RcNeAt.list_str b t p1.isList (by omega)
    | lst es =>
      obtain ⟨a', xs', rfl, q', rs'⟩ := rep_lst ry
      cases (show u' = Value.ref a' from ru')
      simp only [eqD]
      exact rc_lists I (by omega) q.sq q'.sq rs rs' ih'
    | tup es =>
      obtain ⟨a', xs', rfl, q', rs'⟩ := rep_tup ry
      cases (show u' = Value.ref a' from ru')
      obtain ⟨its, r1, p1, _⟩ := I.list q.sq
      obtain ⟨its2, r2, p2, _⟩ := I.tuple q'
      simp only [eqD]; cases ne; exact SeqAt.RcAt.list_tuple p1.isList p2 (by omega); exact SeqAt.RcNeAt.list_tuple p1.isList p2 (by omega)
end
section
variable {X : Cx}
noncomputable abbrev dEqS : R3 := fun x y Φ => dep x ≤ 100 ∧ Φ (.bl (eqD x y))
noncomputable def rRc (X : Cx) (ne : Bool) : R2 := fun u v H Q => ∃ S x y, dep x ≤ 100 ∧ Rep X.K S H x u ∧ Rep X.K S H y v ∧ Q (.bl (if ne then !eqD x y else eqD x y)) H
theorem op_eqS (hu : X.A.units + 100 < cLine) : OpR X (compareOp .Eq) (rRc X false) := by
  intro pins s σ H x y v u Q I rx ry h
  obtain ⟨S, d, e, hd, r1, r2, q⟩ := h
  exact rcQ_D (ne := false) I 100 d e x y v u X.A hd hu r1 r2 rx ry X.prog X.w _ _ ⟨.bl _, H, I, rfl, q⟩
theorem o_eqS (hu : X.A.units + 100 < cLine) : OpD X (compareOp .Eq) dEqS := ⟨_, op_eqS hu, fun S H x y u v Φ Q so rx ry hr hd => ⟨S, x, y, hr.1, rx, ry, hd _ _ H hr.2 (Same.refl _) Rep.bl⟩⟩
theorem hu3 {A : Around} {k : Nat} (hr : Room k A) : A.units + 100 < cLine := by have := hr.un; omega
end
end D3

set_option Elab.async false
set_option linter.all false
set_option maxRecDepth 100000
set_option maxHeartbeats 4000000
namespace D3
open PySem PySem.Spec PyProof.Rows L2
section
variable {X : Cx}
theorem pd_call0 {k : Nat} {f : Addr} {fd : FuncData} {C : Con} {x : Str} {p pos : Pos} (F : FnOk X.prog X.w X.K X.mg X.base CX0 k f fd [] (spD X.K 0 C)) (mo : Mono C) (hr : Room k X.A) (hg : Gl X x) (hm : X.mg x = some (.ref f)) (hk : PySem.W.keepIn X.K (.ref f) = true) (hb : Binds X.K fd [] [])
    (hdb : (x == ("__debug__" : Str)) = false := by decide) : PD X (.Call (.Name x p) [] [] pos) (dCall 0 C aNil) := by
  refine ⟨_, pe_call0 F hr hg hm hk hb .nil pass0 hdb, fun B S H σ ρ Φ Q er q hd => ?_⟩
  exact ⟨[], S, rfl, Reps.nil, er.ok, mo [] Φ _ (fun d hΦ v H' s r' => hd d v H' hΦ s r') q.2⟩
noncomputable abbrev dLtT : R3
  | .tup ds, .tup es, Φ => ∃ ns ms : List Int, ds = ns.map .int ∧ es = ms.map .int ∧ Φ (.bl (HT.lexLt ns ms))
  | _, _, _ => False
theorem o_ltT (hu : X.A.units + 100 < cLine) : OpD X (compareOp .Lt) dLtT := ⟨_, op_ltT (Nat.lt_of_le_of_lt (Nat.le_add_right _ _) hu), fun S H x y u v Φ Q so rx ry hr hd => by
  match x, y, hr with
  | .tup ds, .tup es, ⟨ns, ms, e1, e2, h⟩ =>
    subst e1 e2
    obtain ⟨a, xs, rfl, q, rs⟩ := rep_tup rx
    obtain ⟨a', xs', rfl, q', rs'⟩ := rep_tup ry
    cases rs.intsV
    cases rs'.intsV
    exact ⟨a, a', ns, ms, rfl, rfl, q, q', hd _ _ H h (Same.refl _) Rep.bl⟩⟩
section
open PySem.MeetsSeq PySem.AutoSeq1
theorem tuple_addW0 (l b : Addr) (items2 : Array Value) (n n2 : Nat) (dd dd2 : Option Addr) (sl sl2 : Array (Option Value)) :
    Meets (Builtin.«tuple.__add__» ⟨[.ref l, .ref b], []⟩) (fun _ R s => s.heap.get? l = some { cls := .type "tuple", dict := dd, data := .seq #[] n, slots := sl } ∧ s.heap.get? b = some { cls := .type "tuple", dict := dd2, data := .seq items2 n2, slots := sl2 } ∧ R (.ok (.ret (Value.ref b))) s) :=
  .of_wp fun prog w A R s h => by obtain ⟨hp, g, d, tk, os⟩ := s; obtain ⟨hl, hb, h⟩ := h; have f1 := AutoSeq1.idx_int; have f2 := AutoSeq1.sub_tuple_tuple; wp_walk using wpAny_loadPart' hl, wpAny_loadPart' hb; exact ⟨_, rfl, h⟩
theorem cat_tup0 {prog : Program} {w : World} {A : Around} {E : Value → Shared → Prop} {s : Shared} {t b : Addr} {ws : List Value} {Q : Value → Shared → Prop} (ht : IsTup s.heap t (#[] : Array Value)) (hb : IsTup s.heap b ws.toArray)
    (h : Q (.ref b) s) : wpAny (model prog w) A (binaryOp .Add (.ref t) (.ref b)) Q E s := by
  obtain ⟨⟨cls, dd, data, sl⟩, ho, hc, n, hd⟩ := id ht
  obtain ⟨⟨cls2, dd2, data2, sl2⟩, ho2, hc2, n2, hd2⟩ := id hb
  simp only at hc hd hc2 hd2
  subst hc hd hc2 hd2
  exact concat_meets ⟨_, ho, rfl⟩ ⟨_, ho2, rfl⟩ noFill_tuple_add seq_tuple_add PySem.F.slot_tuple_add PySem.F.entry_tuple_add (PySem.F.args_tuple_add_2 _ _) (tuple_addW0 t b ws.toArray n n2 dd dd2 sl sl2) ⟨ho, ho2, h⟩
end
noncomputable abbrev dCatT : R3
  | .tup ds, .tup es, Φ => ds.length + es.length ≤ sizeLine ∧ Φ (.tup (ds ++ es))
  | _, _, _ => False
noncomputable def rCat0 (K : PySem.W.Frag) : R2 := fun x y H Q => ∃ a b ys, x = .ref a ∧ y = .ref b ∧ SqT K H a [] ∧ SqT K H b ys ∧ Q (.ref b) H
theorem op_cat0 : OpR X (binaryOp .Add) (rCat0 X.K) := by
  intro pins s σ H x y v u Q I rx ry h
  obtain ⟨a, b, ys, rfl, rfl, ha, hb, q⟩ := h
  cases rx
  cases ry
  obtain ⟨its, r1, p1, _⟩ := I.tuple ha
  obtain ⟨its2, r2, p2, _⟩ := I.tuple hb
  cases r1
  exact cat_tup0 p1 p2 ⟨.ref b, H, I, rfl, q⟩
theorem OpR.or {f : Value → Value → Sem Value} {r r' : R2} (h : OpR X f r) (h' : OpR X f r') : OpR X f (fun x y H Q => r x y H Q ∨ r' x y H Q) := fun pins s σ H x y v u Q I rx ry q => q.elim (h pins s σ H x y v u Q I rx ry) (h' pins s σ H x y v u Q I rx ry)
theorem o_catT : OpD X (binaryOp .Add) dCatT := ⟨_, op_cat0.or op_catT, fun S H x y u v Φ Q so rx ry hr hd => by
  match x, y, hr with
  | .tup ds, .tup es, ⟨hz, h⟩ =>
    obtain ⟨a, xs, rfl, q, rs⟩ := rep_tup rx
    obtain ⟨a', xs', rfl, q', rs'⟩ := rep_tup ry
    cases ds with
    | nil =>
      simp only [Reps] at rs
      subst rs
      exact .inl ⟨a, a', xs', rfl, rfl, q, q', hd _ _ H h (Same.refl _) (Rep.tup q' rs')⟩
    | cons d ds =>
      refine .inr ⟨a, a', xs, xs', rfl, rfl, q, q', ?_, by rw [← rs.len, ← rs'.len]; exact hz, fun z => ?_, fun z p hp => hd _ _ _ h (same_new hp) (Rep.newTup hp (rs.app rs'))⟩
      · rintro rfl
        simp [Reps] at rs
      · subst z
        have : es = [] := by
          cases es with
          | nil => rfl
          | cons _ _ => simp [Reps] at rs'
        subst this
        rw [List.append_nil] at h
        exact hd _ _ H h (Same.refl _) (Rep.tup q rs)⟩
theorem all_getD : ∀ bs : List Bool, (List.range bs.length).all (fun i => bs.getD i true) = bs.all id
  | [] => rfl
  | b :: bs => by
    rw [List.length_cons, List.range_succ_eq_map, List.all_cons, List.all_map, List.all_cons, ← all_getD bs]
    rfl
theorem call_allL (hc : X.calm = true) : CallR X (.builtin "all") (fun xs H Q => ∃ (p : Addr) (bs : List Bool), xs = [.ref p] ∧ SqL X.K H p (bs.map V.bl) ∧ Q (.bl (bs.all id)) H) := by
  intro pins s σ H xs us Q I r h
  obtain ⟨p, bs, rfl, hq, q⟩ := h
  obtain ⟨u, rfl, rx⟩ := vals1 r
  cases rx
  obtain ⟨its, r', pl, hz⟩ := I.list hq
  have hl := pl.isList
  refine call_all_walk (wpAny_pyIter_list hl ?_)
  have hne : p ≠ s.heap.objs.size := by
    rintro rfl
    obtain ⟨o, e, _⟩ := hl
    rw [Heap.get?_none_of_le (Nat.le_refl _)] at e
    cases e
  have hlen : its.length = bs.length := by rw [← r'.length]; simp
  refine ⟨_, _, _, _, _, _, fun i => bs.getD i true, rfl, Walks.list (A := X.A.in1) (I.ok.hd hc) _ p hne its.toArray, ⟨⟨_, Heap.get?_push_size _ rfl, rfl, rfl⟩, hl.at fun o e => Heap.get?_push_of_some _ e⟩, ?_, fun h' tk hk => ?_⟩
  · intro i v s' Q' E' hv hQ'
    have hv : its[i]? = some v := by simpa using hv
    have hi : i < bs.length := by rw [← hlen]; exact (List.getElem?_eq_some_iff.mp hv).1
    obtain ⟨u, eu, ru⟩ := r'.get (i := i) (x := V.bl bs[i]) (by simp [hi])
    rw [hv] at eu
    cases eu
    cases (show v = Value.bool bs[i] from ru)
    have e : bs.getD i true = bs[i] := by rw [List.getD_eq_getElem?_getD]; simp [hi]
    have hQ'' : Q' (bs.getD i true) s' := hQ'
    rw [e] at hQ''
    exact wpAny_truthy_bool hQ''
  · refine ⟨.bl _, H, I.kept (h' := h') (t' := tk) fun b o e => ?_, rfl, ?_⟩
    · refine hk b o ?_ (Heap.get?_push_of_some _ e)
      intro hb
      have : b = s.heap.objs.size := by simpa using hb
      subst this
      rw [Heap.get?_none_of_le (Nat.le_refl _)] at e
      cases e
    · have e : (List.range its.toArray.size).all (fun i => bs.getD i true) = bs.all id := by
        rw [List.size_toArray, hlen]
        exact all_getD bs
      rw [e]
      exact q
noncomputable abbrev cAll : Con
  | [.lst ds], Φ => ∃ bs : List Bool, ds = bs.map .bl ∧ Φ (.bl (bs.all id))
  | _, _ => False
theorem Reps.blsV {K : PySem.W.Frag} {S : Addr → Prop} {H : Hp} : ∀ {ns : List Bool} {vs : List V}, Reps K S H (ns.map D.bl) vs → vs = ns.map V.bl
  | [], vs, h => by simpa only [List.map_nil, Reps] using h
  | n :: ns, vs, h => by
    simp only [List.map_cons, Reps, Rep] at h
    obtain ⟨x, r, rfl, rfl, t⟩ := h
    rw [Reps.blsV t, List.map_cons]
theorem b_all (hc : X.calm = true) : CallD X (.builtin "all") cAll := ⟨_, call_allL hc, fun S H ds vs Φ Q so r h hd => by
  match ds, h with
  | [.lst ds], ⟨bs, e, h⟩ =>
    subst e
    simp only [Reps] at r
    obtain ⟨v, _, rfl, rv, rfl⟩ := r
    obtain ⟨a, xs, rfl, lr, rs⟩ := rep_lst rv
    have := rs.blsV
    subst this
    exact ⟨a, bs, rfl, lr.sq, hd _ _ H h (Same.refl _) Rep.bl⟩⟩
noncomputable abbrev cInt : Con
  | [.int i], Φ => Φ (.int i)
  | [.bl b], Φ => Φ (.int (if b then 1 else 0))
  | _, _ => False
theorem b_int : CallD X (.type "int") cInt := ⟨_, call_int1, fun S H ds vs Φ Q so r h hd => by
  match ds, h with
  | [.int i], h =>
    simp only [Reps, Rep] at r
    obtain ⟨v, _, rfl, rfl, rfl⟩ := r
    exact .inl ⟨i, rfl, hd _ _ H h (Same.refl _) Rep.int⟩
  | [.bl i], h =>
    simp only [Reps, Rep] at r
    obtain ⟨v, _, rfl, rfl, rfl⟩ := r
    exact .inr ⟨i, rfl, hd _ _ H h (Same.refl _) Rep.int⟩⟩
noncomputable def iSeqV (K : PySem.W.Frag) (tl : TE) : TI := fun σ H R => tl σ H fun x H1 => ∃ a, x = .ref a ∧ (((∃ xs, SqL K H1 a xs) ∧ R (Itl K a) H1) ∨ ((∃ xs, SqT K H1 a xs) ∧ R (Itt K a) H1))
theorem pi_seq {tg l : Expr} {tl : TE} (hl : PE X l tl) : PI X tg l (iSeqV X.K tl) := by
  intro pins s σ H R I h
  refine thn (hl pins s σ H _ I h) fun v s1 qZ => ?_
  obtain ⟨x, H1, I1, r1, q1⟩ := qZ
  obtain ⟨a, e, q1⟩ := q1
  subst e
  cases r1
  rcases q1 with ⟨⟨xs, hq⟩, q⟩ | ⟨⟨xs, hq⟩, q⟩
  · obtain ⟨its, rv, p, hz⟩ := I1.list hq
    refine wpAny_pyIter_list p.isList ?_
    refine ⟨s1.heap.objs.size, [s1.heap.objs.size], _, _, H1, rfl, I1.kept (t' := s1.toks) fun b o e => Heap.get?_push_of_some _ e, turn_list a _, ⟨_, Heap.get?_push_size _ rfl, rfl, rfl⟩, fun b hb => ?_, q⟩
    have e : b = s1.heap.objs.size := by simpa using hb
    subst e
    exact I1.fpOk (Nat.le_refl _) (I1.hok.fresh (Nat.le_refl _))
  · obtain ⟨its, rv, p, hz⟩ := I1.tuple hq
    refine wpAny_pyIter_tuple (show s1.heap.IsTuple a its.toArray from p) ?_
    refine ⟨s1.heap.objs.size, [s1.heap.objs.size], _, _, H1, rfl, I1.kept (t' := s1.toks) fun b o e => Heap.get?_push_of_some _ e, turn_tuple a _, ⟨_, Heap.get?_push_size _ rfl, rfl, rfl⟩, fun b hb => ?_, q⟩
    have e : b = s1.heap.objs.size := by simpa using hb
    subst e
    exact I1.fpOk (Nat.le_refl _) (I1.hok.fresh (Nat.le_refl _))
noncomputable abbrev iLT (te : E3) : A3 := fun ρ Φ => te ρ fun d => match d with | .lst ds => Φ ds | .tup ds => Φ ds | _ => False
theorem pid_seq {tg e : Expr} {te : E3} (he : PD X e te) : PID X tg e (iLT te) := by
  obtain ⟨t2, h, w⟩ := he
  refine PID.one ⟨_, pi_seq h, fun B S H σ ρ Φ R er q k => w B S H σ ρ _ _ er q fun d v H1 p s r => ?_⟩
  cases d <;> first | exact p.elim | skip
  · rename_i ds
    obtain ⟨a, xs, rfl, lr, rs⟩ := rep_tup r
    refine ⟨a, rfl, .inr ⟨⟨xs, lr⟩, k ds _ _ _ H1 p s r fun S2 H2 r2 => ?_⟩⟩
    obtain ⟨a2, xs2, e2, lr2, rs2⟩ := rep_tup r2
    cases e2
    refine ⟨⟨xs2, lr2, by rw [rs2.len]; exact Nat.le_refl _⟩, fun i hi => ?_⟩
    have hi2 : i < xs2.length := by rw [← rs2.len]; exact hi
    refine ⟨⟨xs2, xs2[i], lr2, by simp [hi2]⟩, fun x H' y => ?_⟩
    obtain ⟨rfl, y⟩ := y
    obtain ⟨c, ec, rc⟩ := rs2.getV (y xs2 lr2)
    exact ⟨rfl, c, ec, rc⟩
  · rename_i ds
    obtain ⟨a, xs, rfl, lr, rs⟩ := rep_lst r
    refine ⟨a, rfl, .inl ⟨⟨xs, lr.sq⟩, k ds _ _ _ H1 p s r fun S2 H2 r2 => ?_⟩⟩
    obtain ⟨a2, xs2, e2, lr2, rs2⟩ := rep_lst r2
    cases e2
    refine ⟨⟨xs2, lr2.sq, by rw [rs2.len]; exact Nat.le_refl _⟩, fun i hi => ?_⟩
    have hi2 : i < xs2.length := by rw [← rs2.len]; exact hi
    refine ⟨⟨xs2, xs2[i], lr2.sq, by simp [hi2]⟩, fun x H' y => ?_⟩
    obtain ⟨rfl, y⟩ := y
    obtain ⟨c, ec, rc⟩ := rs2.getV (y xs2 lr2.sq)
    exact ⟨rfl, c, ec, rc⟩
end
end D3

set_option Elab.async false
set_option linter.all false
set_option maxRecDepth 100000
set_option maxHeartbeats 4000000
namespace D3
open PySem PySem.Spec PyProof.Rows L2
section
variable {X : Cx} {pos : Pos}
noncomputable abbrev bEqO (i : Nat) (tb : E3) : B3 := fun ρ Φ => match ρ[i]? with
  | some (.own ds) => tb ρ fun y => deps ds ≤ 99 ∧ Φ (eqD (.lst ds) y)
  | _ => False
theorem pb_eqO {o b : Expr} {i : Nat} {tb : E3} (hu : X.A.units + 100 < cLine) (ho : PE X o (tVar i)) (hb : PD X b tb) (hm : behindInMarks .Eq b = false) : PB X (.Compare o [.Eq] [b] pos) (bEqO i tb) := by
  obtain ⟨tb2, hb, wb⟩ := hb
  refine ⟨_, pt_cmpR (op_eqS hu) ho hb hm, fun B S H σ ρ Φ Q er q hd => ?_⟩
  unfold bEqO at q
  split at q
  · rename_i ds e0
    obtain ⟨a, xs, ea, hsa, h0, hl, r⟩ := er.own i ds e0
    refine ⟨.ref a, ea, wb B S H σ ρ _ _ er q fun y v H2 p2 s2 r2 => ?_⟩
    refine ⟨fun b => S b ∧ b ≠ a, .lst ds, y, ?_, Rep.lst (.inl ⟨fun z => z.2 rfl, .inl (s2 _ _ hl)⟩) ((r.same s2).sub (fun b h => h.1)), r2.sub (fun b h => h.1), ⟨_, rfl, hd _ H2 p2.2 s2⟩⟩
    show deps ds + 1 ≤ 100
    omega
  · exact q.elim
theorem Vals.pick {xs : List V} {its : List Value} (r : Vals xs its) : ∀ is : List Nat, Vals (is.filterMap (xs[·]?)) (is.filterMap (its[·]?))
  | [] => .nil
  | i :: is => by
    cases e : xs[i]? with
    | none =>
      rw [List.filterMap_cons_none e, List.filterMap_cons_none (r.none_of e)]
      exact Vals.pick r is
    | some x =>
      obtain ⟨u, eu, ru⟩ := r.get e
      rw [List.filterMap_cons_some e, List.filterMap_cons_some eu]
      exact .cons ru (Vals.pick r is)
theorem Reps.pick {K : PySem.W.Frag} {S : Addr → Prop} {H : Hp} {ds : List D} {xs : List V} (r : Reps K S H ds xs) : ∀ is : List Nat, Reps K S H (is.filterMap (ds[·]?)) (is.filterMap (xs[·]?))
  | [] => Reps.nil
  | i :: is => by
    cases e : ds[i]? with
    | none =>
      have e2 : xs[i]? = none := by
        rw [List.getElem?_eq_none_iff] at e ⊢
        rw [← r.len]; exact e
      rw [List.filterMap_cons_none e, List.filterMap_cons_none e2]
      exact Reps.pick r is
    | some x =>
      obtain ⟨u, eu, ru⟩ := r.get e
      rw [List.filterMap_cons_some e, List.filterMap_cons_some eu]
      exact Reps.cons ru (Reps.pick r is)
end
end D3

set_option Elab.async false
set_option linter.all false
set_option maxRecDepth 100000
set_option maxHeartbeats 4000000
namespace D3
open PySem PySem.Spec PyProof.Rows L2
section
variable {X : Cx} {pins : List (Addr × Obj)} {σ : L2.St} {k : Nat} {f : Addr} {fd : FuncData} {ps : List Str} {C : Con}
theorem Inv.moved {a : Addr} {o : Obj} {H : Hp} {s : Shared} {h' : Heap} {rest : List (Addr × Obj)} (I : Inv X (pins ++ rest) σ H s) (hp : (a, o) ∈ rest) (ha : X.s₀.heap.objs.size ≤ a) {keep : List (Addr × Obj)} (hk : ∀ p ∈ keep, p ∈ pins ++ rest) (hne : ∀ p ∈ X.pn ++ keep, p.1 ≠ a)
    (hs : ∀ b u, b ≠ a → s.heap.get? b = some u → h'.get? b = some u) : Inv X keep σ H { s with heap := h' } := by
  have q := I.pin (a, o) (List.mem_append_right _ (List.mem_append_right _ hp))
  have I1 : Inv X keep σ H s := I.pins_of fun p z => I.pin p (List.mem_append_right _ (hk p z))
  refine I1.turned (t' := s.toks) hs q.2.1 q.2.2.1 (.inr ha) (fun x c e z => ?_) hne
  obtain ⟨v, u, hu, hd⟩ := I.cell x c e
  rw [z, q.1] at hu
  cases hu
  exact q.2.2.2.2 v hd
theorem key_call {H : Hp} {s : Shared} {u : Value} {x : V} {d : D} {n : Int} {S : Addr → Prop} (F : FnOk X.prog X.w X.K X.mg X.base CX0 k f fd ps (spD X.K 1 C)) (mo : Mono C) (hr : Room (k + 1) X.A) (hb : Binds X.K fd ps [])
    (I : Inv X pins σ H s) (r : RelV x u) (rd : Rep X.K S H d x) (so : SOk S H) (hc : C [d] fun e => e = .int n) :
    wpAny (model X.prog X.w) X.A.in1 (call (.ref f) [u]) (fun v s' => ∃ t H', v = .int n t ∧ Inv X pins σ H' s' ∧ Same H H') (fun _ _ => False) s := by
  have h : spD X.K 1 C [x] H (fun v H' => v = .int n ∧ Same H H') E0 := ⟨[d], S, rfl, Reps.cons rd Reps.nil, so, mo _ _ _ (fun e he v H' s r' => by
    subst he
    simp only [Rep] at r'
    exact ⟨r', s⟩) hc⟩
  have hl : [u].length = ps.length := F.len _ _ _ _ h
  refine wpAny_call (codeAny_mono (F.run X.A.in1 X.stack s H ⟨[u], []⟩ [u] [x] _ E0 hr.in1 I.env0.in1 (hb s [u] I.kIn hl) (.cons r .nil) h) fun r s' hq => ?_)
  cases r with
  | error e => exact False.elim hq
  | ok fl =>
    cases fl with
    | ret u => 
      obtain ⟨v, H', I', rv, e, sm⟩ := I.after hq
      subst e
      obtain ⟨t, rfl⟩ := rv
      exact ⟨t, H', rfl, I', sm⟩
    | next => exact False.elim hq
    | brk => exact False.elim hq
    | cont => exact False.elim hq
variable {l Ia Sa : Addr} {H0 : Hp} {xs : List V} {ds : List D} {ks : List Int} {S : Addr → Prop} {R : Result → Shared → Prop}
theorem maxK_loop (F : FnOk X.prog X.w X.K X.mg X.base CX0 k f fd ps (spD X.K 1 C)) (mo : Mono C) (hr : Room (k + 1) X.A) (hb : Binds X.K fd ps []) (hcalm : X.calm = true)
    (hq : SqL X.K H0 l xs) (rd : Reps X.K S H0 ds xs) (so : SOk S H0) (hlen : ks.length = xs.length) (hC : ∀ (i : Nat) d n, ds[i]? = some d → ks[i]? = some n → C [d] fun e => e = .int n)
    (hSI : Sa ≠ Ia) (haS : X.s₀.heap.objs.size ≤ Sa) (haI : X.s₀.heap.objs.size ≤ Ia) (hnS : ∀ p ∈ X.pn ++ pins, p.1 ≠ Sa) (hnI : ∀ p ∈ X.pn ++ pins, p.1 ≠ Ia)
    (hR : ∀ (i : Nat) x v n H s, xs[i]? = some x → RelV x v → ks[i]? = some n → (∀ m ∈ ks, m ≤ n) → Inv X pins σ H s → Same H0 H → R (.ok (.ret v)) s) :
    ∀ (r j i : Nat) (H : Hp) (s : Shared) (xb : V) (vb : Value) (nb : Int) (tb : Tok) (c : Nat) (oI : Obj), xs.length - (j + 1) = r → j + 1 ≤ xs.length →
      Inv X (pins ++ [(Sa, seqObj "list" #[vb, .int nb tb] c), (Ia, oI)]) σ H s → Same H0 H → s.heap.IsListIter Ia l (j + 1) → xs[i]? = some xb → RelV xb vb → ks[i]? = some nb → (∀ (j' : Nat) m, j' ≤ j → ks[j']? = some m → m ≤ nb) →
      codeAny (model X.prog X.w) X.A (.builtin "max.loop" ⟨[.ref Ia, .ref f, .ref Sa], []⟩) R s := by
  have hname : (toString "max" ++ toString ".loop" : String) = "max.loop" := by decide
  intro r
  induction r with
  | zero =>
    intro j i H s xb vb nb tb c oI hrr hj I sm hit hxb rvb hnb hbest
    have hin : j + 1 = xs.length := by omega
    have nS := I.pin (Sa, seqObj "list" #[vb, .int nb tb] c) (by simp)
    obtain ⟨its, rv, p, hz⟩ := I.list (sm.seq hq)
    have hl := rv.length
    refine codeAny_builtin PySem.F.entry_max_loop ?_
    rw [Around.under_plainId PySem.F.plain_max_loop _]
    show wpAny _ X.A.in1 (seqItems? (.ref Sa) >>= _) _ _ _
    refine wpAny_bind (wpAny_seqItems nS.1 rfl ?_)
    show wpAny _ X.A.in1 (tryCatch (pyNext (.ref Ia)) _ >>= _) _ _ _
    refine wpAny_bind (wpAny_tryCatch (wpAny_pyNext_list_end (I.ok.hd hcalm) hit p.isList (by simp; omega) fun h' eb => ?_))
    have I1 : Inv X (pins ++ [(Sa, seqObj "list" #[vb, .int nb tb] c)]) σ H { s with heap := h' } := Inv.moved (a := Ia) (o := oI) I (by simp) haI (fun p hp => by
      rcases List.mem_append.mp hp with z | z
      · exact List.mem_append_left _ z
      · exact List.mem_append_right _ (by simp at z; simp [z])) (fun p hp => by
      rcases List.mem_append.mp hp with z | z
      · exact hnI p (List.mem_append_left _ z)
      · rcases List.mem_append.mp z with z | z
        · exact hnI p (List.mem_append_right _ z)
        · have : p.1 = Sa := by simp at z; rw [z]
          rw [this]; exact hSI) eb
    have nS1 := I1.pin (Sa, seqObj "list" #[vb, .int nb tb] c) (by simp)
    have s1 := Heap.SameBut.update h' Sa (Obj.mapSeq fun _ => (#[] : Array Value))
    show wpAny _ X.A.in1 (updateSeq Sa (fun _ => #[]) >>= _) _ _ _
    refine wpAny_bind ?_
    refine wpAny_updateSeq nS1.1 rfl (wpAny_bind (wpAny_letGo (wpAny_pure ?_)))
    have I2 : Inv X pins σ H { s with heap := h'.update Sa (Obj.mapSeq fun _ => (#[] : Array Value)) } := Inv.moved (a := Sa) (o := seqObj "list" #[vb, .int nb tb] c) I1 (by simp) haS (fun p hp => List.mem_append_left _ hp) hnS fun b u hbs e => (s1.2 b hbs).trans e
    refine hR i xb vb nb H _ hxb rvb hnb (fun m hm => ?_) I2 sm
    obtain ⟨j', hj', rfl⟩ := List.getElem_of_mem hm
    exact hbest j' _ (by omega) (by simp [hj'])
  | succ r ih =>
    intro j i H s xb vb nb tb c oI hrr hj I sm hit hxb rvb hnb hbest
    have hlt : j + 1 < xs.length := by omega
    have nS := I.pin (Sa, seqObj "list" #[vb, .int nb tb] c) (by simp)
    obtain ⟨its, rv, p, hz⟩ := I.list (sm.seq hq)
    have hl := rv.length
    obtain ⟨x, hx⟩ : ∃ x, xs[j + 1]? = some x := ⟨xs[j + 1], by simp [hlt]⟩
    obtain ⟨u, hu, ru⟩ := rv.get hx
    obtain ⟨n, hn⟩ : ∃ n, ks[j + 1]? = some n := ⟨ks[j + 1]'(by omega), by simp⟩
    refine codeAny_builtin PySem.F.entry_max_loop ?_
    rw [Around.under_plainId PySem.F.plain_max_loop _]
    show wpAny _ X.A.in1 (seqItems? (.ref Sa) >>= _) _ _ _
    refine wpAny_bind (wpAny_seqItems nS.1 rfl ?_)
    show wpAny _ X.A.in1 (tryCatch (pyNext (.ref Ia)) _ >>= _) _ _ _
    refine wpAny_bind (wpAny_tryCatch (wpAny_pyNext_list_item hit p.isList (x := u) (by simpa using hu) fun h' hit' sb => ?_))
    obtain ⟨oI', hoI', hoc, hod⟩ := id hit'
    have I0 : Inv X (pins ++ [(Sa, seqObj "list" #[vb, .int nb tb] c)]) σ H { s with heap := h' } := Inv.moved (a := Ia) (o := oI) I (by simp) haI (fun p hp => by
      rcases List.mem_append.mp hp with z | z
      · exact List.mem_append_left _ z
      · exact List.mem_append_right _ (by simp at z; simp [z])) (fun p hp => by
      rcases List.mem_append.mp hp with z | z
      · exact hnI p (List.mem_append_left _ z)
      · rcases List.mem_append.mp z with z | z
        · exact hnI p (List.mem_append_right _ z)
        · have : p.1 = Sa := by simp at z; rw [z]
          rw [this]; exact hSI) fun b u hbs e => (sb.2 b hbs).trans e
    have nI := I.pin (Ia, oI) (by simp)
    have I1 : Inv X (pins ++ [(Sa, seqObj "list" #[vb, .int nb tb] c), (Ia, oI')]) σ H { s with heap := h' } := I0.pins_of fun p hp => by
      rcases List.mem_append.mp hp with z | z
      · exact I0.pin p (List.mem_append_right _ (List.mem_append_left _ z))
      · rcases List.mem_cons.mp z with rfl | z
        · exact I0.pin _ (by simp)
        · rw [List.mem_singleton.mp z]
          exact ⟨hoI', nI.2.1, nI.2.2.1, nI.2.2.2.1, fun v z => by rw [hod] at z; cases z⟩
    obtain ⟨d, hd, rdx⟩ := rd.getV hx
    show wpAny _ X.A.in1 (tryCatch (holding [u] (call (.ref f) [u])) _ >>= _) _ _ _
    refine wpAny_bind (wpAny_tryCatch (wpAny_holding (wpAny_mono (key_call F mo hr hb I1 ru (rdx.same sm) (so.same sm) (hC _ _ _ hd hn)) (fun w s2 he => ?_) fun _ _ hF => hF.elim)))
    obtain ⟨t2, H2, rfl, I2, sm2⟩ := he
    have sm' := sm.trans sm2
    have nS2 := I2.pin (Sa, seqObj "list" #[vb, .int nb tb] c) (by simp)
    have nI2 := I2.pin (Ia, oI') (by simp)
    have hit2 : s2.heap.IsListIter Ia l (j + 1 + 1) := ⟨oI', nI2.1, hoc, hod⟩
    show wpAny _ X.A.in1 (tryCatch (holding [u, .int n t2] (richCompare .Gt (.int n t2) (.int nb tb) >>= _)) _ >>= _) _ _ _
    refine wpAny_bind (wpAny_tryCatch (wpAny_holding (wpAny_bind (CmpOf.ints_gt (prog := X.prog) (w := X.w) (A := X.A.in1) (P := fun i v => ∃ t, v = .int (if i = 0 then n else nb) t) (fun i => if i = 0 then n else nb) (fun i v h => h) 0 1 _ _ _ _ _ ⟨t2, rfl⟩ ⟨tb, rfl⟩ ?_))))
    refine wpAny_bind (wpAny_holding (wpAny_truthy_bool ?_))
    refine wpAny_bind (wpAny_letGo (wpAny_pure ?_))
    have e01 : (if (0 : Nat) = 0 then n else nb) = n := rfl
    have e11 : (if (1 : Nat) = 0 then n else nb) = nb := rfl
    simp only [e01, e11, if_true]
    by_cases hb' : n > nb
    · have s1 := Heap.SameBut.update s2.heap Sa (Obj.mapSeq fun _ => #[u, .int n t2])
      obtain ⟨c2, hc2⟩ : ∃ c2, (s2.heap.update Sa (Obj.mapSeq fun _ => #[u, .int n t2])).get? Sa = some (seqObj "list" #[u, .int n t2] c2) := ⟨_, get?_update_seq nS2.1 fun _ => #[u, .int n t2]⟩
      simp only [hb', decide_true, if_true]
      refine wpAny_bind ?_
      refine wpAny_updateSeq nS2.1 rfl (wpAny_bind (wpAny_letGo ?_))
      rw [hname]
      have I3 : Inv X (pins ++ [(Ia, oI')]) σ H2 { s2 with heap := s2.heap.update Sa (Obj.mapSeq fun _ => #[u, .int n t2]) } := Inv.moved (a := Sa) (o := seqObj "list" #[vb, .int nb tb] c) I2 (by simp) haS (fun p hp => by
        rcases List.mem_append.mp hp with z | z
        · exact List.mem_append_left _ z
        · exact List.mem_append_right _ (by simp at z; simp [z])) (fun p hp => by
        rcases List.mem_append.mp hp with z | z
        · exact hnS p (List.mem_append_left _ z)
        · rcases List.mem_append.mp z with z | z
          · exact hnS p (List.mem_append_right _ z)
          · have : p.1 = Ia := by simp at z; rw [z]
            rw [this]; exact hSI.symm) fun b u hbs e => (s1.2 b hbs).trans e
      have I4 : Inv X (pins ++ [(Sa, seqObj "list" #[u, .int n t2] c2), (Ia, oI')]) σ H2 { s2 with heap := s2.heap.update Sa (Obj.mapSeq fun _ => #[u, .int n t2]) } := I3.pins_of fun p hp => by
        rcases List.mem_append.mp hp with z | z
        · exact I3.pin p (List.mem_append_right _ (List.mem_append_left _ z))
        · rcases List.mem_cons.mp z with rfl | z
          · exact ⟨hc2, nS2.2.1, nS2.2.2.1, nS2.2.2.2.1, fun v z => by cases z⟩
          · rw [List.mem_singleton.mp z]
            exact I3.pin _ (by simp)
      refine wpAny_pure ⟨plainId_quiet PySem.F.plain_max_loop _, ih (j + 1) (j + 1) H2 _ x u n t2 c2 oI' (by omega) hlt I4 sm' ⟨oI', (s1.2 Ia hSI.symm).trans nI2.1, hoc, hod⟩ hx ru hn fun j' m hj' hm => ?_⟩
      by_cases e : j' = j + 1
      · subst e
        rw [hn] at hm; cases hm; omega
      · have := hbest j' m (by omega) hm
        omega
    · have hb'' : decide (n > nb) = false := decide_eq_false hb'
      simp only [hb'', Bool.false_eq_true, if_false]
      refine wpAny_bind (wpAny_letGo ?_)
      rw [hname]
      refine wpAny_pure ⟨plainId_quiet PySem.F.plain_max_loop _, ih (j + 1) i H2 _ xb vb nb tb c oI' (by omega) hlt I2 sm' hit2 hxb rvb hnb fun j' m hj' hm => ?_⟩
      by_cases e : j' = j + 1
      · subst e
        rw [hn] at hm; cases hm; omega
      · exact hbest j' m (by omega) hm
theorem maxK_run {H : Hp} {s : Shared} {Q : VK} {E : Value → Shared → Prop} (F : FnOk X.prog X.w X.K X.mg X.base CX0 k f fd ps (spD X.K 1 C)) (mo : Mono C) (hr : Room (k + 1) X.A) (hb : Binds X.K fd ps []) (hcalm : X.calm = true)
    (I : Inv X pins σ H s) (hq : SqL X.K H l xs) (rd : Reps X.K S H ds xs) (so : SOk S H) (hlen : ks.length = xs.length) (hne : 0 < xs.length) (hC : ∀ (i : Nat) d n, ds[i]? = some d → ks[i]? = some n → C [d] fun e => e = .int n)
    (hQ : ∀ (i : Nat) x n H', xs[i]? = some x → ks[i]? = some n → (∀ m ∈ ks, m ≤ n) → Same H H' → Q x H') :
    wpAny (model X.prog X.w) X.A (call (.builtin "max") [.ref l] [(Str.ofString "key", .ref f)]) (EP X pins σ Q) E s := by
  have hname : (toString "max" ++ toString ".loop" : String) = "max.loop" := by decide
  obtain ⟨its, rv, p, hz⟩ := I.list hq
  refine kmk_tree PySem.F.kind_max PySem.F.plain_max PySem.F.entry_max (kmk_max_key _ _) ?_
  show wpAny _ X.A.in1 (Builtin.Builtins.bindParams "max" ["key", "default"] 0 ⟨[], [(Str.ofString "key", .ref f)]⟩ >>= _) _ _ s
  refine wpAny_bind (wpAny_of_eq (show Builtin.Builtins.bindParams "max" ["key", "default"] 0 ⟨[], [(Str.ofString "key", .ref f)]⟩ = pure [some (.ref f), none] from rfl) ?_)
  refine wpAny_bind (wpAny_pure ?_)
  refine wpAny_bind (wpAny_pyIter_list p.isList ?_)
  refine wpAny_bind (wpAny_newList ?_ (Nat.zero_le _))
  rw [hname]
  refine wpAny_pure ⟨plainId_quiet PySem.F.plain_max_loop _, ?_⟩
  have hS : (s.heap.push { cls := .type "list_iterator", data := .fields #[.ref l, .int 0 0] }).objs.size = s.heap.objs.size + 1 := size_push' ..
  generalize hSa : (s.heap.push { cls := .type "list_iterator", data := .fields #[.ref l, .int 0 0] }).objs.size = Sa at hS ⊢
  generalize hIa : s.heap.objs.size = Ia at hS
  have gI : ((s.heap.push { cls := .type "list_iterator", data := .fields #[.ref l, .int 0 0] }).push (seqObj "list" #[] 0)).get? Ia = some { cls := .type "list_iterator", data := .fields #[.ref l, .int 0 0] } := by
    rw [← hIa]; exact Heap.get?_push_of_some _ (Heap.get?_push_size _ rfl)
  have gS : ((s.heap.push { cls := .type "list_iterator", data := .fields #[.ref l, .int 0 0] }).push (seqObj "list" #[] 0)).get? Sa = some (seqObj "list" #[] 0) := by
    rw [← hSa]; exact Heap.get?_push_size _ rfl
  have old : ∀ b o, s.heap.get? b = some o → ((s.heap.push { cls := .type "list_iterator", data := .fields #[.ref l, .int 0 0] }).push (seqObj "list" #[] 0)).get? b = some o := fun b o e => Heap.get?_push_of_some _ (Heap.get?_push_of_some _ e)
  change codeAny _ _ _ _ { s with heap := (s.heap.push { cls := .type "list_iterator", data := .fields #[.ref l, .int 0 0] }).push (seqObj "list" #[] 0) }
  generalize (s.heap.push { cls := .type "list_iterator", data := .fields #[.ref l, .int 0 0] }).push (seqObj "list" #[] 0) = h1 at gI gS old ⊢
  have hSI : Sa ≠ Ia := by omega
  have szI : s.heap.objs.size ≤ Ia := by omega
  have szS : s.heap.objs.size ≤ Sa := by omega
  have haI := Nat.le_trans I.sz szI
  have haS := Nat.le_trans I.sz szS
  have hn : ∀ a, s.heap.objs.size ≤ a → ∀ q ∈ X.pn ++ pins, q.1 ≠ a := fun a ha q hq z => by
    have := Heap.lt_size (I.pin q hq).1
    rw [z] at this
    exact absurd (Nat.lt_of_lt_of_le this (hIa ▸ ha)) (Nat.lt_irrefl _)
  have Ih : Inv X pins σ H { s with heap := h1 } := I.kept (t' := s.toks) old
  have I0 : Inv X (pins ++ [(Sa, seqObj "list" #[] 0), (Ia, { cls := .type "list_iterator", data := .fields #[.ref l, .int 0 0] })]) σ H { s with heap := h1 } := Ih.pins_of fun q hq => by
    rcases List.mem_append.mp hq with z | z
    · exact Ih.pin q (List.mem_append_right _ z)
    · rcases List.mem_cons.mp z with rfl | z
      · exact ⟨gS, I.hok.fresh szS, Nat.ne_of_gt (Nat.lt_of_lt_of_le I.lt szS), I.nofs szS, fun v z => by cases z⟩
      · rw [List.mem_singleton.mp z]
        exact ⟨gI, I.hok.fresh szI, Nat.ne_of_gt (Nat.lt_of_lt_of_le I.lt szI), I.nofs szI, fun v z => by cases z⟩
  have hit : ({ s with heap := h1 } : Shared).heap.IsListIter Ia l 0 := ⟨_, gI, rfl, rfl⟩
  generalize ({ s with heap := h1 } : Shared) = s1 at I0 hit ⊢
  clear Ih gI gS old
  obtain ⟨its, rv, p, hz⟩ := I0.list hq
  obtain ⟨x, hx⟩ : ∃ x, xs[0]? = some x := ⟨xs[0], by simp [hne]⟩
  obtain ⟨u, hu, ru⟩ := rv.get hx
  obtain ⟨n, hnn⟩ : ∃ n, ks[0]? = some n := ⟨ks[0]'(by omega), by simp⟩
  have nS := I0.pin (Sa, seqObj "list" #[] 0) (by simp)
  have nI := I0.pin (Ia, { cls := .type "list_iterator", data := .fields #[.ref l, .int 0 0] }) (by simp)
  refine codeAny_builtin PySem.F.entry_max_loop ?_
  rw [Around.under_plainId PySem.F.plain_max_loop _]
  show wpAny _ X.A.in1 (seqItems? (.ref _) >>= _) _ _ _
  refine wpAny_bind (wpAny_seqItems nS.1 rfl ?_)
  show wpAny _ X.A.in1 (tryCatch (pyNext (.ref Ia)) _ >>= _) _ _ _
  refine wpAny_bind (wpAny_tryCatch (wpAny_pyNext_list_item hit p.isList (x := u) (by simpa using hu) fun h' hit' sb => ?_))
  obtain ⟨oI', hoI', hoc, hod⟩ := id hit'
  have I1 : Inv X (pins ++ [(Sa, seqObj "list" #[] 0)]) σ H { s1 with heap := h' } := Inv.moved (a := Ia) (o := { cls := .type "list_iterator", data := .fields #[.ref l, .int 0 0] }) I0 (by simp) haI (fun p hp => by
    rcases List.mem_append.mp hp with z | z
    · exact List.mem_append_left _ z
    · exact List.mem_append_right _ (by simp at z; simp [z])) (fun p hp => by
    rcases List.mem_append.mp hp with z | z
    · exact hn Ia szI p (List.mem_append_left _ z)
    · rcases List.mem_append.mp z with z | z
      · exact hn Ia szI p (List.mem_append_right _ z)
      · have : p.1 = Sa := by simp at z; rw [z]
        rw [this]; exact hSI) fun b u hbs e => (sb.2 b hbs).trans e
  have I2 : Inv X (pins ++ [(Sa, seqObj "list" #[] 0), (Ia, oI')]) σ H { s1 with heap := h' } := I1.pins_of fun p hp => by
    rcases List.mem_append.mp hp with z | z
    · exact I1.pin p (List.mem_append_right _ (List.mem_append_left _ z))
    · rcases List.mem_cons.mp z with rfl | z
      · exact I1.pin _ (by simp)
      · rw [List.mem_singleton.mp z]
        exact ⟨hoI', nI.2.1, nI.2.2.1, nI.2.2.2.1, fun v z => by rw [hod] at z; cases z⟩
  obtain ⟨d, hd, rdx⟩ := rd.getV hx
  show wpAny _ X.A.in1 (tryCatch (holding [u] (call (.ref f) [u])) _ >>= _) _ _ _
  refine wpAny_bind (wpAny_tryCatch (wpAny_holding (wpAny_mono (key_call F mo hr hb I2 ru rdx so (hC _ _ _ hd hnn)) (fun w s2 he => ?_) fun _ _ hF => hF.elim)))
  obtain ⟨t2, H2, rfl, I3, sm2⟩ := he
  have nS2 := I3.pin (Sa, seqObj "list" #[] 0) (by simp)
  have nI2 := I3.pin (Ia, oI') (by simp)
  have sb1 := Heap.SameBut.update s2.heap Sa (Obj.mapSeq fun _ => #[u, .int n t2])
  obtain ⟨c2, hc2⟩ : ∃ c2, (s2.heap.update Sa (Obj.mapSeq fun _ => #[u, .int n t2])).get? Sa = some (seqObj "list" #[u, .int n t2] c2) := ⟨_, get?_update_seq nS2.1 fun _ => #[u, .int n t2]⟩
  show wpAny _ X.A.in1 (updateSeq Sa (fun _ => #[u, .int n t2]) >>= _) _ _ _
  refine wpAny_bind ?_
  refine wpAny_updateSeq nS2.1 rfl ?_
  rw [hname]
  have I4 : Inv X (pins ++ [(Ia, oI')]) σ H2 { s2 with heap := s2.heap.update Sa (Obj.mapSeq fun _ => #[u, .int n t2]) } := Inv.moved (a := Sa) (o := seqObj "list" #[] 0) I3 (by simp) haS (fun p hp => by
    rcases List.mem_append.mp hp with z | z
    · exact List.mem_append_left _ z
    · exact List.mem_append_right _ (by simp at z; simp [z])) (fun p hp => by
    rcases List.mem_append.mp hp with z | z
    · exact hn Sa szS p (List.mem_append_left _ z)
    · rcases List.mem_append.mp z with z | z
      · exact hn Sa szS p (List.mem_append_right _ z)
      · have : p.1 = Ia := by simp at z; rw [z]
        rw [this]; exact hSI.symm) fun b u hbs e => (sb1.2 b hbs).trans e
  have I5 : Inv X (pins ++ [(Sa, seqObj "list" #[u, .int n t2] c2), (Ia, oI')]) σ H2 { s2 with heap := s2.heap.update Sa (Obj.mapSeq fun _ => #[u, .int n t2]) } := I4.pins_of fun p hp => by
    rcases List.mem_append.mp hp with z | z
    · exact I4.pin p (List.mem_append_right _ (List.mem_append_left _ z))
    · rcases List.mem_cons.mp z with rfl | z
      · exact ⟨hc2, nS2.2.1, nS2.2.2.1, nS2.2.2.2.1, fun v z => by cases z⟩
      · rw [List.mem_singleton.mp z]
        exact I4.pin _ (by simp)
  refine wpAny_pure ⟨plainId_quiet PySem.F.plain_max_loop _, maxK_loop F mo hr hb hcalm hq rd so hlen hC hSI haS haI (hn Sa szS) (hn Ia szI) (fun i x v n H' s' hx rx hk hm I' sm => ?_) _ 0 0 H2 _ x u n t2 c2 oI' rfl (by omega) I5 sm2 ⟨oI', (sb1.2 Ia hSI.symm).trans nI2.1, hoc, hod⟩ hx ru hnn fun j' m hj' hm => ?_⟩
  · exact ⟨x, H', I', rx, hQ i x n H' hx hk hm sm⟩
  · obtain rfl : j' = 0 := by omega
    rw [hnn] at hm; cases hm; exact Int.le_refl _
end
section
variable {X : Cx} {k : Nat} {f : Addr} {fd : FuncData} {ps : List Str} {C : Con} {x y : Str} {p py kpos pos : Pos} {e : Expr} {te : E3}
noncomputable abbrev dMaxK (C : Con) (te : E3) : E3 := fun ρ Φ => te ρ fun d => match d with
  | .lst ds => ∃ ks : List Int, ds ≠ [] ∧ ks.length = ds.length ∧ (∀ (i : Nat) d n, ds[i]? = some d → ks[i]? = some n → C [d] fun r => r = .int n) ∧ ∀ (i : Nat) d n, ds[i]? = some d → ks[i]? = some n → (∀ m ∈ ks, m ≤ n) → Φ d
  | _ => False
theorem pd_maxK (F : FnOk X.prog X.w X.K X.mg X.base CX0 k f fd ps (spD X.K 1 C)) (mo : Mono C) (hr : Room (k + 1) X.A) (hb : Binds X.K fd ps []) (hcalm : X.calm = true)
    (hg : Gl X x) (hm : X.mg x = none) (hv : bootBuiltins x = some (.builtin "max")) (hgy : Gl X y) (hmy : X.mg y = some (.ref f)) (ha : PD X e te)
    (hn : x ≠ "__name__" := by decide) (hdb : (x == ("__debug__" : Str)) = false := by decide) (hdy : (y == ("__debug__" : Str)) = false := by decide)
    (he : backTo pos (starEach [e] X.env) = (false, eval e X.env) :: backTo pos (starEach [] X.env) := by rfl)
    (hplain : (backTo pos (starEach [e] X.env)).any (·.1) = false := by rfl) (hs : starEach [e] X.env = (false, eval e X.env) :: starEach [] X.env := by rfl) : PD X (.Call (.Name x p) [e] [⟨some (Str.ofString "key"), .Name y py, kpos⟩] pos) (dMaxK C te) := by
  obtain ⟨t2, h, w⟩ := ha
  refine ⟨fun σ H Q => tCons t2 tNil σ H fun vs H1 => ∃ (l : Addr) (xs : List V) (ds : List D) (ks : List Int) (S : Addr → Prop), vs = [.ref l] ∧ SqL X.K H1 l xs ∧ Reps X.K S H1 ds xs ∧ SOk S H1 ∧ ks.length = xs.length ∧ 0 < xs.length ∧ (∀ (i : Nat) d n, ds[i]? = some d → ks[i]? = some n → C [d] fun e => e = .int n) ∧
    ∀ (i : Nat) z n H', xs[i]? = some z → ks[i]? = some n → (∀ m ∈ ks, m ≤ n) → Same H1 H' → Q z H', ?_, ?_⟩
  · intro pins s σ H Q I hw
    refine wpAny_Call_Name_kw (ld_blt I hg hm hv ?_ hn hdb)
    refine PyProof.Rows.callWith_kw ?_ he hplain
    refine thn (pa_cons h pa_nil hs pos pins s σ H _ I hw) fun us s1 qZ => ?_
    obtain ⟨vs, H1, I1, r1, l, xs, ds, ks, S, e1, hq, rd, so, hl, hne, hC, hQ⟩ := qZ
    subst e1
    obtain ⟨u, rfl, ru⟩ := vals1 r1
    cases ru
    refine thn (pk_cons (nm := some (Str.ofString "key")) (kpos := kpos) (pe_glob (pos := py) hgy hmy (v := .ref f) rfl hdy) pk_nil pos pins s1 σ H1 (fun zs H2 => zs = [.ref f] ∧ H2 = H1) I1 ⟨rfl, rfl⟩) fun ws s2 qZ => ?_
    obtain ⟨zs, H2, I2, rz, ez, eh⟩ := qZ
    subst ez eh
    obtain ⟨u, rfl, ru⟩ := vals1 rz
    cases ru
    exact maxK_run F mo hr hb hcalm I2 hq rd so hl hne hC hQ
  · intro B S H σ ρ Φ Q er q hd
    refine w B S H σ ρ _ _ er q fun d v H1 hm s1 r => ?_
    match d, hm with
    | .lst ds, ⟨ks, hne, hl, hC, hΦ⟩ =>
      obtain ⟨a, xs, rfl, lr, rs⟩ := rep_lst r
      have len := rs.len
      refine ⟨a, xs, ds, ks, S, rfl, lr.sq, rs, er.ok.same s1, by rw [hl, len], ?_, hC, fun i z n H' hz hn hx sm => ?_⟩
      · rw [← len]; cases ds with
        | nil => exact absurd rfl hne
        | cons _ _ => simp
      · obtain ⟨d, hd', rd⟩ := rs.getV hz
        exact hd d z H' (hΦ i d n hd' hn hx) (s1.trans sm) (rd.same sm)
end
end D3

set_option Elab.async false
set_option linter.all false
set_option maxRecDepth 100000
set_option maxHeartbeats 4000000
namespace D3
open PySem PySem.Spec PyProof.Rows L2
noncomputable def IsRv (h : Heap) (a l : Addr) (i : Int) : Prop := ∃ o, h.get? a = some o ∧ o.cls = .type "reversed" ∧ o.data = .fields #[.ref l, rawInt i]
theorem IsRv.typeIs {s : Shared} {a l : Addr} {i : Int} (x : IsRv s.heap a l i) : s.TypeIs (.ref a) "reversed" := let ⟨o, ho, hc, _⟩ := x; ⟨o, ho, hc⟩
theorem IsRv.at {h h' : Heap} {a l : Addr} {i : Int} (x : IsRv h a l i) (e : ∀ o, h.get? a = some o → h'.get? a = some o) : IsRv h' a l i := let ⟨o, ho, r⟩ := x; ⟨o, e _ ho, r⟩
section
variable {prog : Program} {w : World} {A : Around} {E : Value → Shared → Prop} {s : Shared}
end
section
variable {X : Cx}
end
end D3

set_option Elab.async false
set_option linter.all false
set_option maxRecDepth 100000
set_option maxHeartbeats 4000000
namespace D3
open PySem PySem.Spec PyProof.Rows L2
section
variable {X : Cx} {a b : Expr} {ta : E3} {tb : A3} {p pos' pos : Pos}
end
end D3

set_option Elab.async false
set_option linter.all false
set_option maxRecDepth 100000
set_option maxHeartbeats 4000000
namespace D3
open PySem PySem.Spec PyProof.Rows L2
noncomputable def IsIt : Bool → Heap → Addr → Addr → Nat → Prop
  | true, h, it, l, k => h.IsListIter it l k
  | false, h, it, l, k => h.IsTupleIter it l k
noncomputable def IsSq : Bool → Heap → Addr → Array Value → Prop
  | true, h, l, xs => h.IsList l xs
  | false, h, l, xs => h.IsTuple l xs
theorem IsIt.obj {b : Bool} {h : Heap} {it l : Addr} {k : Nat} (x : IsIt b h it l k) : ∃ o vs, h.get? it = some o ∧ o.data = .fields vs := by
  cases b <;> (obtain ⟨o, e, _, d⟩ := x; exact ⟨o, _, e, d⟩)
theorem IsIt.at {b : Bool} {h h' : Heap} {it l : Addr} {k : Nat} (x : IsIt b h it l k) (e : ∀ o, h.get? it = some o → h'.get? it = some o) : IsIt b h' it l k := by
  cases b <;> (obtain ⟨o, ho, r⟩ := x; exact ⟨o, e _ ho, r⟩)
theorem IsSq.at {b : Bool} {h h' : Heap} {l : Addr} {xs : Array Value} (x : IsSq b h l xs) (e : ∀ o, h.get? l = some o → h'.get? l = some o) : IsSq b h' l xs := by
  cases b <;> (obtain ⟨o, ho, r⟩ := x; exact ⟨o, e _ ho, r⟩)
inductive Mv (fp : List Addr) : Heap → Heap → Prop
  | refl (h : Heap) : Mv fp h h
  | step {h h1 h2 : Heap} (b : Addr) : Mv fp h h1 → b ∈ fp → (∀ c o, c ≠ b → h1.get? c = some o → h2.get? c = some o) → Mv fp h h2
theorem Mv.keep {fp : List Addr} {h h' : Heap} (m : Mv fp h h') : ∀ c o, c ∉ fp → h.get? c = some o → h'.get? c = some o := by
  induction m with
  | refl => exact fun _ _ _ e => e
  | step b _ hb k ih => exact fun c o hc e => k c o (fun z => hc (z ▸ hb)) (ih c o hc e)
section
variable {prog : Program} {w : World} {A : Around} {E : Value → Shared → Prop} {s : Shared}
variable {b1 b2 : Bool} {z TI TO i1 i2 l1 l2 : Addr} {k : Nat} {xs ys : Array Value}
end
noncomputable def SqB (K : PySem.W.Frag) : Bool → Hp → Addr → List V → Prop
  | true, H, a, xs => SqL K H a xs
  | false, H, a, xs => SqT K H a xs
theorem SqB.at {X : Cx} {pins : List (Addr × Obj)} {σ : L2.St} {H : Hp} {s : Shared} {b : Bool} {a : Addr} {xs : List V} (I : Inv X pins σ H s) (h : SqB X.K b H a xs) : ∃ its : List Value, Vals xs its ∧ IsSq b s.heap a its.toArray := by
  cases b with
  | true => obtain ⟨its, r, p, _⟩ := I.list h; exact ⟨its, r, p.isList⟩
  | false => obtain ⟨its, r, p, _⟩ := I.tuple h; exact ⟨its, r, p⟩
theorem SqB.inj {X : Cx} {pins : List (Addr × Obj)} {σ : L2.St} {H : Hp} {s : Shared} {b : Bool} {a : Addr} {xs ys : List V} (I : Inv X pins σ H s) (h : SqB X.K b H a xs) (h' : SqB X.K b H a ys) : xs = ys := by
  cases b with
  | true => exact I.list_inj h h'
  | false => exact I.tuple_inj h h'
theorem IsSq.lt {b : Bool} {h : Heap} {l : Addr} {xs : Array Value} (x : IsSq b h l xs) : l < h.objs.size := by
  cases b <;> (obtain ⟨o, ho, _⟩ := x; exact Heap.lt_size ho)
theorem apart (n l m : Nat) (k1 : l < n) (k2 : m < n) : ZipApart (n + 4) (n + 2) (n + 3) n (n + 1) l m := by
  have f : ∀ {a b : Nat}, a < b → a ≠ b := fun h => Nat.ne_of_lt h
  have g : ∀ {a b : Nat}, b < a → a ≠ b := fun h => Nat.ne_of_gt h
  exact ⟨f (by omega), f (by omega), f (by omega), f (by omega), f (by omega), g (by omega), g (by omega), g (by omega), g (by omega), f (by omega), f (by omega), f (by omega), f (by omega), f (by omega), f (by omega), f (by omega), f (by omega), f (by omega)⟩
section
variable {X : Cx}
end
end D3

set_option Elab.async false
set_option linter.all false
set_option maxRecDepth 100000
set_option maxHeartbeats 4000000
namespace D3
open PySem PySem.Spec PyProof.Rows L2
section
variable {X : Cx}
end
end D3

set_option Elab.async false
set_option linter.all false
set_option maxRecDepth 100000
set_option maxHeartbeats 4000000
namespace D3
open PySem PySem.Spec PyProof.Rows L2
section
variable {prog : Program} {w : World} {A : Around} {E : Value → Shared → Prop} {s : Shared}
end
section
variable {X : Cx} {pos : Pos} {es : List Expr}
end
end D3

set_option Elab.async false
set_option linter.all false
set_option maxRecDepth 100000
set_option maxHeartbeats 4000000
namespace D3
open PySem PySem.Spec PyProof.Rows L2
section
variable {prog : Program} {w : World} {A : Around} {E : Value → Shared → Prop} {s : Shared}
end
section
variable {X : Cx}
end
end D3

set_option Elab.async false
set_option linter.all false
set_option maxRecDepth 100000
set_option maxHeartbeats 4000000
namespace D3
open PySem PySem.Spec PyProof.Rows L2

section
variable {prog : Program} {w : World} {A : Around} {E : Value → Shared → Prop} {h : Heap} {g : Array GenState} {d : Drawn} {t : Nat} {os : OsState} {a C : Addr} {o : Obj} {K : PySem.W.Frag}
end
end D3
namespace D3
open PySem PySem.Spec PyProof.Rows L2

structure FlyB (P : Program) (w : World) (l : List Env) (H H' : Hp) (h h' B : Heap) (e C : Addr) (a0 : Value) : Prop where
  fl : Heap.FlyingW B l e (.ref C) a0 h'
  hok : HOk P w H' B
  keep : ∀ b o, h.get? b = some o → H b = none → b ∉ frs l → B.get? b = some o
  slot : ∀ b o, h.get? b = some o → H b = none → b ∈ frs l → ∃ sl, h'.get? b = some { o with slots := sl }
  free : ∀ b o, h.get? b = some o → H b = none → H' b = none
  there : ∀ b o, h.get? b = some o → b ∉ frs l → ∃ o', B.get? b = some o'
  tups : ∀ b xs, H b = some (.tup xs) → H' b = some (.tup xs)
  frzs : ∀ b o u, H b = some (.frz o u) → H' b = some (.frz o u)
  tbls : ∀ b ps, H b = some (.tbl ps) → ∃ more, H' b = some (.tbl (ps ++ more))
  he : H' e = none
section
variable {P : Program} {w : World} {l : List Env} {H H' : Hp} {h h' h'' B : Heap} {e C : Addr} {a0 : Value}
theorem FlyB.un (f : FlyB P w l H H' h h' B e C a0) : Un (frs l) [] H H' h h' where
  keep := fun b o q n hb _ => f.fl.1 _ _ (f.keep b o q n hb)
  slot := fun b o q n hb _ => f.slot b o q n hb
  free := fun b o q n _ => f.free b o q n
  there := fun b o q _ => by
    by_cases hb : b ∈ frs l
    · obtain ⟨_, o', ho, _⟩ := f.fl.2.2.1.mem hb
      exact ⟨o', ho⟩
    · obtain ⟨o', ho⟩ := f.there b o q hb
      exact ⟨o', f.fl.1 _ _ ho⟩
  tups := f.tups
  frzs := f.frzs
  tbls := f.tbls
theorem FlyB.hk (f : FlyB P w l H H' h h' B e C a0) : HOk P w H' h' := f.hok.kept f.fl.1
theorem FlyB.go (f : FlyB P w l H H' h h' B e C a0) (x : Heap.FlyingW B l e (.ref C) a0 h'') (u : h'.UpToSlots h'') : FlyB P w l H H' h h'' B e C a0 where
  fl := x
  hok := f.hok
  keep := f.keep
  slot := fun b o q n hb => by
    obtain ⟨sl, e1⟩ := f.slot b o q n hb
    obtain ⟨_, o', ho, hd⟩ := f.fl.2.2.1.mem hb
    rw [e1] at ho; cases ho
    obtain ⟨sl', e2⟩ := u b _ e1 hd
    exact ⟨sl', e2⟩
  free := f.free
  there := f.there
  tups := f.tups
  frzs := f.frzs
  tbls := f.tbls
  he := f.he
end
section
variable {X : Cx} {pins : List (Addr × Obj)} {σ : L2.St} {H1 : Hp} {s1 : Shared} {h' : Heap} {e C : Addr} {vs : List Value} {Q : Unit → Shared → Prop} {E : Value → Shared → Prop}
end

section
variable {X : Cx} {x : Str} {C : Addr} {e₀ : Expr} {rest : List Expr} {np cpos pos : Pos} {ta : TA} {R : Hp → Prop}
end
end D3
namespace D3
open PySem PySem.Spec PyProof.Rows L2

section
variable {X : Cx} {R : Hp → Prop} {st : Stmt} {rest as bs : List Stmt} {t u : Fr3 → Prop} {ts us : S3} {c : Expr} {tc : B3} {pos : Pos}
end

section
variable {X : Cx} {R : Hp → Prop} {rest bs : List Stmt} {u : Fr3 → Prop} {ta : A3} {us : S3} {c : Expr} {tc : B3} {pos : Pos} {st : Stmt}
end

section
variable {P : Program} {w : World} {K : PySem.W.Frag} {mg : Str → Option Value} {base : Heap}
end

theorem all_cons {P : Addr → Prop} {D : Addr} {l : List Addr} (h : P D) (t : ∀ D ∈ l, P D) : ∀ E ∈ D :: l, P E := fun E hE => by
  rcases List.mem_cons.mp hE with rfl | hE
  · exact h
  · exact t E hE
section
variable {X : Cx} {i : Nat} {ea C : Addr} {oe : Obj} {x y n : Str} {p py pn pos ps : Pos} {b b' : Bool} {a a2 : Expr}
inductive Names (X : Cx) : List Expr → List Addr → Prop where
  | nil : Names X [] []
  | cons {y : Str} {py : Pos} {D : Addr} {es : List Expr} {Ds : List Addr} (hg : Gl X y) (hm : X.mg y = some (.ref D)) (hd : (y == ("__debug__" : Str)) = false) (he : starEach (.Name y py :: es) X.env = (false, eval (.Name y py) X.env) :: starEach es X.env) (r : Names X es Ds) : Names X (.Name y py :: es) (D :: Ds)
theorem Names.pa {es : List Expr} {Ds : List Addr} (h : Names X es Ds) : ∃ t, PA X es t ∧ ∀ σ H Q, Q (Ds.map V.ref) H → t σ H Q := by
  induction h with
  | nil => exact ⟨_, pa_nil, fun σ H Q q => q⟩
  | cons hg hm hd he r ih =>
    obtain ⟨t, h, w⟩ := ih
    exact ⟨_, pa_cons (pe_glob hg hm (show RelV (.ref _) (.ref _) from rfl) hd) h he, fun σ H Q q => w σ H _ q⟩
end
end D3
namespace D3
open PySem PySem.Spec PyProof.Rows L2

section
variable {X : Cx} {pins : List (Addr × Obj)} {σ : L2.St} {H : Hp} {s : Shared}
end

theorem ER.any {K : PySem.W.Frag} {B : Bs} {S : Addr → Prop} {H : Hp} {σ : L2.St} {ρ : Fr3} {i : Nat} {v : Option V} (er : ER K B S H σ ρ) (h : ρ[i]? = some .un) : ER K B S H (σ.set i v) ρ where
  len := by rw [List.length_set]; exact er.len
  same := er.same
  sub := er.sub
  ok0 := er.ok0
  ok := er.ok
  val := fun j c q => by
    have : i ≠ j := by rintro rfl; rw [h] at q; cases q
    rw [List.getElem?_set_ne this]; exact er.val j c q
  own := fun j c q => by
    have : i ≠ j := by rintro rfl; rw [h] at q; cases q
    rw [List.getElem?_set_ne this]; exact er.own j c q
  uq := fun j k a ds es q1 q2 q3 q4 => by
    have n1 : i ≠ j := by rintro rfl; rw [h] at q1; cases q1
    have n2 : i ≠ k := by rintro rfl; rw [h] at q2; cases q2
    rw [List.getElem?_set_ne n1] at q3
    rw [List.getElem?_set_ne n2] at q4
    exact er.uq j k a ds es q1 q2 q3 q4
  gh := er.gh

section
variable {X : Cx} {i j : Nat} {ea : Addr} {x : Str} {e : Expr} {b : Bool} {rest : List Stmt} {l : List (Nat × Bool)} {pos pos' : Pos}
end

section
variable {X : Cx} {k i : Nat} {f C D : Addr} {fd : FuncData} {ps : List Str} {Pre : List D3.D → Prop} {x y n : Str} {p pos pos' py hp tp : Pos} {e : Expr} {es : List Expr} {b₀ : Stmt} {suite : List Stmt} {ta : A3} {l : List (Nat × Bool)}
end
end D3

set_option Elab.async false
set_option linter.all false
set_option maxRecDepth 100000
set_option maxHeartbeats 4000000
namespace D3
open PySem PySem.Spec PyProof.Rows L2

section
variable {X : Cx} {i j : Nat} {ea : Addr} {x : Str} {e a b : Expr} {es : List Expr} {bv : Bool} {te ta tb : E3} {tr : A3} {rest : List Stmt} {pos pos' : Pos}
end
section
variable {X : Cx} {k i : Nat} {f C D : Addr} {fd : FuncData} {ps : List Str} {Pre : List D3.D → Prop} {x y n : Str} {p pos pos' py hp tp : Pos} {e : Expr} {es : List Expr} {b₀ : Stmt} {suite : List Stmt} {ta : A3} {ts : S3}
end
end D3

set_option Elab.async false
set_option linter.all false
set_option maxRecDepth 100000
set_option maxHeartbeats 4000000
namespace D3
open PySem PySem.Spec PyProof.Rows L2
theorem Names.sp {X : Cx} {pins : List (Addr × Obj)} {σ : L2.St} {H : Hp} {s : Shared} {E : Value → Shared → Prop} {pos : Pos} (I : Inv X pins σ H s) : ∀ {es : List Expr} {Ds : List Addr}, Names X es Ds → ∀ (Q : List Value → Shared → Prop), Q (Ds.map Value.ref) s → wpAny (model X.prog X.w) X.A (spliced (backTo pos (starEach es X.env))) Q E s
  | _, _, .nil, Q, q => Calls.spliced_nil q
  | _, _, .cons hg hm hd he r, Q, q => by
    rw [he]
    refine Calls.spliced_cons (ld_glob I hg hm ?_ hd)
    exact Names.sp I r _ q

theorem FlyB.more {P : Program} {w : World} {l : List Env} {H H' : Hp} {h h' h'' B : Heap} {e C : Addr} {a0 : Value} (f : FlyB P w l H H' h h' B e C a0) (k : ∀ b o, h'.get? b = some o → h''.get? b = some o) : FlyB P w l H H' h h'' B e C a0 := by
  obtain ⟨f1, f2, f3, oe, vs, T, oT, ts, g1, g2, g3, g4, g5, g6, g7, g8, g9⟩ := f.fl
  refine f.go ⟨fun b o q => k _ _ (f1 _ _ q), f2, f3.of_keeps fun b o q _ => ⟨o, k _ _ q, rfl⟩, oe, vs, T, oT, ts, k _ _ g1, g2, g3, g4, g5, g6, k _ _ g7, g8, g9⟩ fun b o q _ => ⟨o.slots, k _ _ q⟩
section
variable {X : Cx} {k i : Nat} {f C D ea : Addr} {fd : FuncData} {ps : List Str} {Pre : List D3.D → Prop} {x y n : Str} {p pos pos' py hp hp0 tp pt : Pos} {e : Expr} {es cs : List Expr} {b₀ : Stmt} {suite suite0 : List Stmt} {ta : A3} {ts : S3} {Ds : List Addr} {cx : Nat}
end
end D3

set_option Elab.async false
set_option linter.all false
set_option maxRecDepth 100000
set_option maxHeartbeats 4000000
namespace D3
open PySem PySem.Spec PyProof.Rows L2

section
variable {X : Cx} {pins : List (Addr × Obj)} {σ : L2.St} {H H' : Hp} {s s' : Shared} {e C : Addr} {B : Heap} {a0 : Value} {Q : Unit → Shared → Prop} {E : Value → Shared → Prop}
end
section
variable {X : Cx} {R : Hp → Prop} {C f : Addr} {k : Nat} {fd : FuncData} {ps : List Str} {Pre : List D3.D → Prop} {x : Str} {e a : Expr} {es : List Expr} {p pos pos' : Pos} {ta : A3} {t : Fr3 → Prop}
end
section
variable {P : Program} {w : World} {K : PySem.W.Frag} {mg : Str → Option Value} {base : Heap}
end
end D3

set_option Elab.async false
set_option linter.all false
set_option maxRecDepth 100000
set_option maxHeartbeats 4000000
namespace D3
open PySem PySem.Spec PyProof.Rows L2

section
variable {X : Cx} {pos : Pos}
end
section
variable {X : Cx}
end
end D3

set_option Elab.async false
set_option linter.all false
set_option maxRecDepth 100000
set_option maxHeartbeats 4000000
namespace D3
open PySem PySem.Spec PyProof.Rows L2

section
variable {X : Cx} {pos : Pos}
end
@[elab_as_elim] theorem len_0 {α : Type} {P : List α → Prop} : ∀ us : List α, us.length = 0 → P [] → P us
  | [], _, h => h
@[elab_as_elim] theorem len_1 {α : Type} {P : List α → Prop} : ∀ us : List α, us.length = 1 → (∀ a, P [a]) → P us
  | [a], _, h => h a
@[elab_as_elim] theorem len_2 {α : Type} {P : List α → Prop} : ∀ us : List α, us.length = 2 → (∀ a b, P [a, b]) → P us
  | [a, b], _, h => h a b
@[elab_as_elim] theorem len_3 {α : Type} {P : List α → Prop} : ∀ us : List α, us.length = 3 → (∀ a b c, P [a, b, c]) → P us
  | [a, b, c], _, h => h a b c
@[elab_as_elim] theorem len_4 {α : Type} {P : List α → Prop} : ∀ us : List α, us.length = 4 → (∀ a b c d, P [a, b, c, d]) → P us
  | [a, b, c, d], _, h => h a b c d
@[elab_as_elim] theorem len_5 {α : Type} {P : List α → Prop} : ∀ us : List α, us.length = 5 → (∀ a b c d e, P [a, b, c, d, e]) → P us
  | [a, b, c, d, e], _, h => h a b c d e
end D3

set_option Elab.async false
set_option linter.all false
set_option maxRecDepth 100000
set_option maxHeartbeats 4000000
namespace D3
open PySem PySem.Spec PyProof.Rows L2
section
open PySem.W
noncomputable def KAll {α : Type} (n : Nat) (P : α → Prop) : KasT α → Prop
  | .ret a => P a
  | .ask i j k => i < n ∧ j < n ∧ ∀ b, KAll n P (k b)
theorem KAll.bind {α β : Type} {n : Nat} {P : β → Prop} {R : α → Prop} {f : α → KasT β} (hf : ∀ a, R a → KAll n P (f a)) : ∀ t : KasT α, KAll n R t → KAll n P (t.bind f)
  | .ret a, h => hf a h
  | .ask i j k, h => ⟨h.1, h.2.1, fun b => KAll.bind hf (k b) (h.2.2 b)⟩
theorem KAll.wp {α : Type} {n : Nat} {P : α → Prop} {cmp : Nat → Nat → (Bool → Shared → Prop) → Shared → Prop} {s : Shared} (hc : ∀ i j C, i < n → j < n → (∀ b, C b s) → cmp i j C s) : ∀ t : KasT α, KAll n P t → t.kasWp cmp (fun a s' => P a ∧ s' = s) s
  | .ret a, h => ⟨h, rfl⟩
  | .ask i j k, h => hc i j _ h.1 h.2.1 fun b => KAll.wp hc (k b) (h.2.2 b)
noncomputable def PR (n : Nat) (p : Array Nat) : Prop := p.Perm (List.toArray (List.range n))
theorem PR.lt {n : Nat} {p : Array Nat} (h : PR n p) (h0 : 0 < n) (i : Nat) : p.getD i 0 < n := by
  rw [Array.getD_eq_getD_getElem?]
  cases e : p[i]? with
  | none => exact h0
  | some x =>
    have : x ∈ p := Array.mem_of_getElem? e
    have := (h.mem_iff).mp this
    simpa using this
theorem PR.rev {n : Nat} {p : Array Nat} (h : PR n p) (i j : Nat) : PR n (kas_rev p i j) := (mirror_perm ..).trans h
theorem PR.bub {n : Nat} {p : Array Nat} (h : PR n p) (i j : Nat) : PR n (bubble p i j) := (bubble_perm ..).trans h
theorem ka_asc {n : Nat} (h0 : 0 < n) {p : Array Nat} (h : PR n p) : ∀ f m, KAll n (fun _ => True) (kas_asc p f m)
  | 0, m => trivial
  | f + 1, m => ⟨h.lt h0 _, h.lt h0 _, fun b => by
    cases b
    · exact ka_asc h0 h f (m + 1)
    · exact trivial⟩
theorem ka_desc {n : Nat} (h0 : 0 < n) : ∀ (f : Nat) (p : Array Nat) (m q : Nat), PR n p → KAll n (fun r : Array Nat × Nat × Nat => PR n r.1) (kas_desc f p m q)
  | 0, p, m, q, h => h
  | f + 1, p, m, q, h => ⟨h.lt h0 _, h.lt h0 _, fun b => by
    cases b
    · refine ⟨h.lt h0 _, h.lt h0 _, fun d => ?_⟩
      cases d
      · exact ka_desc h0 f p (m + 1) (q + 1) h
      · exact h
    · show KAll n _ (if q > 0 then _ else _)
      split
      · exact ka_desc h0 f _ (m + 1) 0 (h.rev _ _)
      · exact ka_desc h0 f p (m + 1) 0 h⟩
theorem ka_tail {n : Nat} (h0 : 0 < n) {p : Array Nat} (h : PR n p) (a b : Nat) : KAll n (fun r : Nat × Array Nat => PR n r.2) (kas_tail3 a b p) := by
  unfold kas_tail3
  refine KAll.bind (R := fun _ => True) (fun m _ => ?_) _ (ka_asc h0 (h.rev 0 a) _ _)
  exact h.rev 0 a
theorem ka_descPart {n : Nat} (h0 : 0 < n) {p : Array Nat} (h : PR n p) (a b : Nat) : KAll n (fun r : Nat × Array Nat => PR n r.2) (kas_descPart a b p) :=
  KAll.bind (R := fun r : Array Nat × Nat × Nat => PR n r.1) (fun r hr => by
    show KAll n _ (if r.2.2 > 0 then _ else _)
    split
    · exact ka_tail h0 (hr.rev _ _) _ _
    · exact ka_tail h0 hr _ _) _ (ka_desc h0 _ _ _ _ h)
theorem ka_count {n : Nat} (h0 : 0 < n) {p : Array Nat} (h : PR n p) (m : Nat) : KAll n (fun r : Nat × Array Nat => PR n r.2) (kas_count m p) :=
  KAll.bind (R := fun _ => True) (fun k _ => by
    show KAll n _ (if (k == m) = true then _ else if k > 1 then _ else _)
    split
    · exact h
    · split
      · refine ⟨h.lt h0 _, h.lt h0 _, fun b => ?_⟩
        cases b
        · exact ka_descPart h0 (h.rev _ _) _ _
        · exact h
      · exact ka_descPart h0 h _ _) _ (ka_asc h0 h _ _)
theorem ka_place {n : Nat} (h0 : 0 < n) {p : Array Nat} (h : PR n p) (k : Nat) : ∀ f l r, KAll n (fun _ => True) (kas_place p k f l r)
  | 0, l, r => trivial
  | f + 1, l, r => by
    show KAll n _ (if l ≥ r then _ else _)
    split
    · exact trivial
    · refine ⟨h.lt h0 _, h.lt h0 _, fun b => ?_⟩
      cases b
      · exact ka_place h0 h k f _ _
      · exact ka_place h0 h k f _ _
theorem ka_bin {n : Nat} (h0 : 0 < n) : ∀ (f : Nat) (p : Array Nat) (k : Nat), PR n p → KAll n (PR n) (kas_bin f p k)
  | 0, p, k, h => h
  | f + 1, p, k, h => KAll.bind (R := fun _ => True) (fun l _ => ka_bin h0 f _ (k + 1) (h.bub _ _)) _ (ka_place h0 h k k 0 k)
theorem ka_sort {n : Nat} (h0 : 0 < n) : KAll n (PR n) (kas_sort n) :=
  KAll.bind (R := fun r : Nat × Array Nat => PR n r.2) (fun r hr => by
    show KAll n _ (if r.1 < n then _ else _)
    split
    · exact ka_bin h0 _ _ _ hr
    · exact hr) _ (ka_count h0 (Array.Perm.refl _) n)
section
variable {prog : Program} {w : World} {A : Around} {E : Value → Shared → Prop} {s : Shared} {vs : List Value}
end
end
end D3

set_option Elab.async false
set_option linter.all false
set_option maxRecDepth 100000
set_option maxHeartbeats 4000000
namespace D3
open PySem PySem.Spec PyProof.Rows L2
section
open PySem.SeqAt
open PySem.AutoSeq1 (wpAny_loadPart')
open PySem.MeetsSeq PySem.MeetsSeq2 PySem.MeetsSeq3
inductive Ord : Nat → D → Prop where
  | int (i : Int) : Ord 0 (.int i)
  | tup {n : Nat} {ds : List D} (h : ∀ d ∈ ds, Ord n d) : Ord (n + 1) (.tup ds)
theorem Ord.dep {n : Nat} {d : D} (h : Ord n d) : dep d ≤ n := by
  induction h with
  | int i => exact Nat.le_refl 0
  | tup h ih => show deps _ + 1 ≤ _; exact Nat.succ_le_succ (deps_le ih)
section
variable {X : Cx} {pins : List (Addr × Obj)} {σ : L2.St} {H : Hp} {s : Shared} {S : Addr → Prop}
end
end
end D3

set_option Elab.async false
set_option linter.all false
set_option maxRecDepth 100000
set_option maxHeartbeats 4000000
namespace D3
open PySem PySem.Spec PyProof.Rows L2
section
open PySem.W
variable {X : Cx} {pins : List (Addr × Obj)} {σ : L2.St} {H : Hp} {s : Shared} {S : Addr → Prop}
noncomputable def SortK (d : D) : Prop := ∃ (xs : List D) (i : Int), d = .tup [.tup xs, .int i] ∧ Ord 2 (.tup xs)
theorem sortK_at (I : Inv X pins σ H s) {d : D} {v : V} {u : Value} (k : SortK d) (r : Rep X.K S H d v) (ru : RelV v u) : ∃ (xs : List D) (i : Int) (t : Tok) (a b : Addr) (o o' : Obj) (n n' : Nat) (its : Array Value), Ord 2 (.tup xs) ∧ u = .ref a ∧ s.heap.get? a = some o ∧ o.cls = .type "tuple" ∧ o.data = .seq #[.ref b, .int i t] n ∧ s.heap.get? b = some o' ∧ o'.cls = .type "tuple" ∧ o'.data = .seq its n' ∧ Rep X.K S H (.tup xs) (.ref b) := by
  obtain ⟨xs, i, rfl, o⟩ := k
  obtain ⟨a, vs, rfl, q, rs⟩ := rep_tup r
  simp only [Reps] at rs
  obtain ⟨v1, _, rfl, r1, v2, _, rfl, r2, rfl⟩ := rs
  cases rep_int r2
  obtain ⟨b, ys, rfl, q', rs'⟩ := rep_tup r1
  cases (show u = Value.ref a from ru)
  obtain ⟨its, rv, ⟨o1, ho, hc, n, hd⟩, _⟩ := I.tuple q
  obtain ⟨its', rv', ⟨o2, ho', hc', n', hd'⟩, _⟩ := I.tuple q'
  cases rv with
  | cons h1 rv =>
    cases rv with
    | cons h2 rv =>
      cases rv with
      | nil =>
        cases h1
        obtain ⟨t, rfl⟩ := h2
        exact ⟨xs, i, t, a, b, o1, o2, n, n', its'.toArray, o, rfl, ho, hc, hd, ho', hc', hd', r1⟩
theorem key_kind (I : Inv X pins σ H s) {M : Model} : ∀ {ds : List D} {xs : List V} {us : List Value}, (∀ d ∈ ds, SortK d) → Reps X.K S H ds xs → Vals xs us → ∃ fs, KatTups s.heap us fs ∧ fs.length = us.length ∧ ∀ v ∈ fs, Looks M s.heap (typeOf v) (.type "tuple")
  | [], xs, us, _, r, v => by
    simp only [Reps] at r; subst r; cases v
    exact ⟨[], .nil, rfl, (fun _ h => by cases h)⟩
  | d :: ds, xs, us, hk, r, v => by
    simp only [Reps] at r
    obtain ⟨x, xs, rfl, rx, r⟩ := r
    cases v with
    | cons hx v =>
      obtain ⟨fs, t, l, ht⟩ := key_kind I (M := M) (fun d hd => hk d (List.mem_cons_of_mem _ hd)) r v
      obtain ⟨ys, i, tk, a, b, o, o2, n, n2, its, ord, rfl, ho, hc, hd, ho2, hc2, hd2, _⟩ := sortK_at I (hk d List.mem_cons_self) rx hx
      refine ⟨.ref b :: fs, KatTups.cons ho hc hd rfl t, by simp [l], fun v hv => ?_⟩
      rcases List.mem_cons.mp hv with rfl | hv
      · rw [← hc2]
        exact (show Looks M s.heap (typeOf (.ref b)) o2.cls from (Looks.ld ho2).andThen .now)
      · exact ht v hv
theorem vals_get {ys : List V} {its : List Value} (v : Vals ys its) : ∀ {i : Nat}, i < its.length → ∃ y, ys[i]? = some y ∧ RelV y (its.getD i Value.none) := by
  induction v with
  | nil => intro i h; simp at h
  | cons h v ih =>
    intro i hi
    cases i with
    | zero => exact ⟨_, rfl, h⟩
    | succ i =>
      obtain ⟨y, e, r⟩ := ih (i := i) (by simpa using hi)
      exact ⟨y, by simpa using e, by simpa using r⟩
end
end D3

set_option Elab.async false
set_option linter.all false
set_option maxRecDepth 100000
set_option maxHeartbeats 4000000
namespace D3
open PySem PySem.Spec PyProof.Rows L2
section
variable {X : Cx} {e : Expr} {tf : A3} {pos : Pos}
noncomputable abbrev sExt (i : Nat) (tf : A3) : S3 := fun Φ ρ => match ρ[i]? with | some (.own ds) => tf ρ fun es => ds.length + es.length ≤ sizeLine ∧ Φ (.nx (ρ.set i (.own (ds ++ es)))) | _ => False
theorem psd_extend {o : Expr} {i : Nat} {apos cpos : Pos} (ho : PE X o (tVar i)) (he : PF X e tf)
    (hbase : attributeBase o "extend" X.env (eval o X.env) = eval o X.env := by rfl)
    (hfew : ((backTo cpos (starEach [e] X.env)).all (fun x => !x.1) && (backToKw cpos (keywordEach [] X.env)).all (fun x => x.1.isSome)
      && decide (([e] : List Expr).length + ([] : List Keyword).length + (if ([] : List Keyword).isEmpty then 0 else 1) < 30)) = true := by rfl)
    (hline : (apos.endLine == cpos.line) = true := by rfl) (hst : starEach [e] X.env = [(false, eval e X.env)] := by rfl)
    (hs : swapsWith (.Call (.Attribute o "extend" apos) [e] [] cpos) none pos.line X.env = pure false := by rfl) : PSD X (.Expr (.Call (.Attribute o "extend" apos) [e] [] cpos) pos) (sExt i tf) := by
  obtain ⟨t2, h, w⟩ := he
  refine ⟨_, ps_expr (pe_bm PySem.F.plainAttrs_list PySem.F.slot_list_extend PySem.F.type_list_extend mt_extend ho (pa_cons h pa_nil hst) hbase hfew hline hst rfl) hs, fun B S H σ ρ Φ D' er q ok => ?_⟩
  unfold sExt at q
  split at q
  · rename_i ds e'
    obtain ⟨a, xs, ea, hsa, h0, hl, r⟩ := er.own i ds e'
    refine ⟨.ref a, ea, .inl ⟨rfl, xs, SqL.of hl⟩, w B S H σ ρ _ _ er q fun es ys p H1 hΦ s hp re => ?_⟩
    have s' := s.trans (same_new (o := .lst ys) hp)
    have re' := re.same (same_new (o := .lst ys) hp)
    exact ⟨a, p, xs, ys, rfl, rfl, s' _ _ hl, upd_same, by rw [← r.len, ← re.len]; exact hΦ.1, ok.nx _ _ _ _ hΦ.2 ((er.go s').change e' ea hsa h0 (s' _ _ hl) ((r.same s').app re'))⟩
  · exact q.elim
end
section
open PySem.SeqAt
open PySem.AutoSeq1 (wpAny_loadPart')
open PySem.MeetsSeq PySem.MeetsSeq2 PySem.MeetsSeq3
open HT
theorem rcGt_int (A : Around) (s : Shared) (a : Int) (t : Tok) (c : Int) (u : Tok) (prog : Program) (w : World) (E : Value → Shared → Prop) (Q : Value → Shared → Prop) (h : Q (.bool (decide (c < a))) s) :
    wpAny (model prog w) A (richCompare .Gt (.int a t) (.int c u)) Q E s :=
  (PyProof.Rows.gt_int h : wpAny (model prog w) A (compareOp .Gt (.int a t) (.int c u)) Q E s)
theorem tuple_gt_ints (l b : Addr) (items items2 : Array Value) (n n2 : Nat) (dd dd2 : Option Addr) (sl sl2 : Array (Option Value)) (ns ms : List Int) (hi : IntsAre items.toList ns) (hj : IntsAre items2.toList ms) :
    Meets (Builtin.«tuple.__gt__» ⟨[.ref l, .ref b], []⟩)
      (fun _ R s => s.heap.get? l = some { cls := .type "tuple", dict := dd, data := .seq items n, slots := sl } ∧ s.heap.get? b = some { cls := .type "tuple", dict := dd2, data := .seq items2 n2, slots := sl2 } ∧
        R (.ok (.ret (.bool (lexLt ms ns)))) s) :=
  .of_wp fun prog w A R s h => by
    obtain ⟨hp, g, d, tk, os⟩ := s; obtain ⟨hl, hb, h⟩ := h
    have f2 := AutoSeq1.sub_tuple_tuple
    have z1 : items.size = ns.length := by rw [← hi.length]; simp
    have z2 : items2.size = ms.length := by rw [← hj.length]; simp
    wp_walk using wpAny_loadPart' hl, wpAny_loadPart' hb, wpAny_forIn_list _ (fun rest b s' => b.1 = none ∧ s' = ⟨hp, g, d, tk, os⟩ ∧ ∃ (vs ws : List Value) (ns' ms' : List Int), rest = vs.zip ws ∧
      IntsAre vs ns' ∧ IntsAre ws ms' ∧ ns'.length + items2.size = ms'.length + items.size ∧ R (.ok (.ret (.bool (lexLt ms' ns')))) ⟨hp, g, d, tk, os⟩) _
    case turn =>
      rintro ⟨y, x⟩ rest b s' ⟨hb', rfl, vs, ws, ns', ms', hz, hvi, hwi, hlen, hR⟩
      cases hvi with
      | nil => rw [List.zip_nil_left] at hz; cases hz
      | cons a t hvi' =>
        cases hwi with
        | nil => rw [List.zip_nil_right] at hz; cases hz
        | cons c u hwi' =>
          rw [List.zip_cons_cons] at hz
          injection hz with hyx hrest
          injection hyx with hy hx
          subst hy hx
          rw [lexLt_cons] at hR
          simp only [List.length_cons] at hlen
          obtain ⟨e, he, hiff⟩ := eqAt_int A.in1 ⟨hp, g, d, tk, os⟩ a t c u
          refine wpAny_bind (he prog w _ _ ?_)
          cases e with
          | true =>
            rw [if_pos (hiff.mp rfl).symm] at hR
            wp_walk
            exact ⟨rfl, rfl, _, _, _, _, hrest, hvi', hwi', by omega, hR⟩
          | false =>
            rw [if_neg (fun q => absurd (hiff.mpr q.symm) Bool.false_ne_true)] at hR
            have hri := rcGt_int A.in1 ⟨hp, g, d, tk, os⟩ a t c u prog w
            wp_walk using hri
            exact ⟨_, rfl, by simpa using hR⟩
    case fin =>
      rintro ⟨b1, b2⟩ s' ⟨hb', rfl, vs, ws, ns', ms', hz, hvi, hwi, hlen, hR⟩
      simp only at hb'
      subst hb'
      have hv : lexLt ms' ns' = decide (items2.size < items.size) := by
        cases hvi with
        | nil =>
          cases hwi with
          | nil =>
            simp only [List.length_nil] at hlen
            rw [lexLt_nil_nil]
            exact (decide_eq_false (by omega)).symm
          | cons c u hw =>
            simp only [List.length_nil, List.length_cons] at hlen
            rw [lexLt_cons_nil]
            exact (decide_eq_false (by omega)).symm
        | cons a t hv =>
          cases hwi with
          | nil =>
            simp only [List.length_nil, List.length_cons] at hlen
            rw [lexLt_nil_cons]
            exact (decide_eq_true (by omega)).symm
          | cons c u hw =>
            rw [List.zip_cons_cons] at hz
            cases hz
      rw [hv] at hR
      wp_walk
      exact ⟨_, rfl, by simpa [Builtin.Tuple.tupleCompareSizes] using hR⟩
    case h =>
      exact ⟨rfl, rfl, items.toList, items2.toList, ns, ms, rfl, hi, hj, by omega, h⟩
variable {X : Cx}
noncomputable def rGtT (K : PySem.W.Frag) : R2 := fun x y H Q => ∃ a b ns ms, x = .ref a ∧ y = .ref b ∧ SqT K H a (ns.map .int) ∧ SqT K H b (ms.map .int) ∧ Q (.bl (HT.lexLt ms ns)) H
theorem op_gtT (hu : X.A.units < cLine) : OpR X (compareOp .Gt) (rGtT X.K) := by
  intro pins s σ H x y v u Q I rx ry h
  obtain ⟨a, b, ns, ms, rfl, rfl, ha, hb, q⟩ := h
  cases rx
  cases ry
  obtain ⟨its, r1, p1, _⟩ := I.tuple ha
  obtain ⟨its2, r2, p2, _⟩ := I.tuple hb
  have i1 : IntsAre its.toArray.toList ns := intsAre_of r1
  have i2 : IntsAre its2.toArray.toList ms := intsAre_of r2
  obtain ⟨⟨cls, dd, data, sl⟩, ho, hc, n, hd⟩ := id p1
  obtain ⟨⟨cls2, dd2, data2, sl2⟩, ho2, hc2, n2, hd2⟩ := id p2
  simp only at hc hd hc2 hd2
  subst hc hd hc2 hd2
  exact richCompare_meets_room (op := .Gt) ⟨_, ho, rfl⟩ ⟨_, ho2, rfl⟩ PySem.F.slot_tuple_gt PySem.F.entry_tuple_gt (PySem.F.args_tuple_gt_2 _ _) (tuple_gt_ints a b its.toArray its2.toArray n n2 dd dd2 sl sl2 ns ms i1 i2)
    ⟨ho, ho2, show Value.bool (lexLt ms ns) ≠ Value.notImplemented ∧ EP X pins σ Q (.bool (lexLt ms ns)) s from ⟨(fun x => by cases x), ⟨.bl (HT.lexLt ms ns), H, I, rfl, q⟩⟩⟩ hu
noncomputable abbrev dGtT : R3
  | .tup ds, .tup es, Φ => ∃ ns ms : List Int, ds = ns.map .int ∧ es = ms.map .int ∧ Φ (.bl (HT.lexLt ms ns))
  | _, _, _ => False
theorem o_gtT (hu : X.A.units + 100 < cLine) : OpD X (compareOp .Gt) dGtT := ⟨_, op_gtT (Nat.lt_of_le_of_lt (Nat.le_add_right _ _) hu), fun S H x y u v Φ Q so rx ry hr hd => by
  match x, y, hr with
  | .tup ds, .tup es, ⟨ns, ms, e1, e2, h⟩ =>
    subst e1 e2
    obtain ⟨a, xs, rfl, q, rs⟩ := rep_tup rx
    obtain ⟨a', xs', rfl, q', rs'⟩ := rep_tup ry
    cases rs.intsV
    cases rs'.intsV
    exact ⟨a, a', ns, ms, rfl, rfl, q, q', hd _ _ H h (Same.refl _) Rep.bl⟩⟩
theorem bt_sorted : bootBuiltins "sorted" = some (.builtin "sorted") := by decide +kernel
end
end D3

set_option Elab.async false
set_option linter.all false
set_option maxRecDepth 100000
set_option maxHeartbeats 4000000
namespace D3
open PySem PySem.Spec PyProof.Rows L2
section
variable {X : Cx} {pins : List (Addr × Obj)} {σ : L2.St} {H : Hp} {s : Shared} {S : Addr → Prop}
noncomputable def unV : Value → Option V
  | .none => some .non
  | .bool b => some (.bl b)
  | .int i _ => some (.int i)
  | .str x _ => some (.str x)
  | .bytes b _ => some (.byt b)
  | .float b _ => some (.flt b)
  | .ref a => some (.ref a)
  | .type n => some (.ty n)
  | _ => none
theorem relV_un {v : V} {u : Value} (h : RelV v u) : unV u = some v := by
  cases v <;> simp only [L2.RelV] at h <;> first | (subst h; rfl) | (obtain ⟨t, rfl⟩ := h; rfl)
theorem relV_inj {v v' : V} {u : Value} (h : RelV v u) (h' : RelV v' u) : v = v' := Option.some.inj ((relV_un h).symm.trans (relV_un h'))
noncomputable def eqW (K : PySem.W.Frag) (S : Addr → Prop) (H : Hp) (x : D) (u : Value) : Bool :=
  open Classical in if h : ∃ d v, Rep K S H d v ∧ RelV v u then eqD (choose h) x else false
theorem eqW_is (I : Inv X pins σ H s) {d x : D} {v : V} {u : Value} (r : Rep X.K S H d v) (ru : RelV v u) : eqW X.K S H x u = eqD d x := by
  have h : ∃ d v, Rep X.K S H d v ∧ RelV v u := ⟨d, v, r, ru⟩
  unfold eqW
  rw [dif_pos h]
  obtain ⟨v', r', ru'⟩ := Classical.choose_spec h
  cases relV_inj ru ru'
  rw [rep_inj I _ _ _ r r']
theorem any_eqW (I : Inv X pins σ H s) {x : D} : ∀ {ds : List D} {xs : List V} {us : List Value}, Reps X.K S H ds xs → Vals xs us → us.any (eqW X.K S H x) = ds.any (fun d => eqD d x)
  | [], xs, us, r, v => by
    simp only [Reps] at r; subst r; cases v; rfl
  | d :: ds, xs, us, r, v => by
    simp only [Reps] at r
    obtain ⟨y, ys, rfl, ry, r⟩ := r
    cases v with
    | cons h v => rw [List.any_cons, List.any_cons, eqW_is I ry h, any_eqW I r v]
theorem all_eqW (I : Inv X pins σ H s) {x : D} {vx : V} {ux : Value} {A : Around} (hu : A.units + 100 < cLine) (rx : Rep X.K S H x vx) (rux : RelV vx ux) : ∀ {ds : List D} {xs : List V} {us : List Value}, (∀ d ∈ ds, dep d ≤ 90) → Reps X.K S H ds xs → Vals xs us → ∀ u ∈ us, SeqAt.EqAt A.in1 s u ux (eqW X.K S H x u)
  | [], xs, us, _, r, v, u, hu' => by
    simp only [Reps] at r; subst r; cases v; cases hu'
  | d :: ds, xs, us, hd, r, v, u, hu' => by
    simp only [Reps] at r
    obtain ⟨y, ys, rfl, ry, r⟩ := r
    cases v with
    | cons h v =>
      rcases List.mem_cons.mp hu' with rfl | hu'
      · rw [eqW_is I ry h]
        exact eqAt_D I 90 d x y vx _ ux A.in1 (hd d List.mem_cons_self) (by show A.units + 1 + 90 < cLine; omega) ry rx h rux
      · exact all_eqW I hu rx rux (fun d h => hd d (List.mem_cons_of_mem _ h)) r v u hu'
noncomputable def rInS (X : Cx) (n : Bool) : R2 := fun x y H Q => ∃ S d ds p xs, Rep X.K S H d x ∧ y = .ref p ∧ SqL X.K H p xs ∧ Reps X.K S H ds xs ∧ (∀ e ∈ ds, dep e ≤ 90) ∧ Q (.bl (if n then !(ds.any fun e => eqD e d) else ds.any fun e => eqD e d)) H
theorem op_inS (hu : X.A.units + 100 < cLine) : OpR X (compareOp .In) (rInS X false) := by
  intro pins s σ H x y v u Q I rx ry h
  obtain ⟨S, d, ds, p, xs, rd, rfl, hq, rs, hd, q⟩ := h
  cases ry
  obtain ⟨its, r, pl, hz⟩ := I.list hq
  refine SeqAt.in_listAt (eqW X.K S H d) pl.isList (fun w hw => all_eqW I hu rd rx hd rs r w (by simpa using hw)) ⟨.bl _, H, I, rfl, ?_⟩
  rw [show its.toArray.any (eqW X.K S H d) = its.any (eqW X.K S H d) by simp, any_eqW I rs r]
  exact q
theorem op_notinS (hu : X.A.units + 100 < cLine) : OpR X (compareOp .NotIn) (rInS X true) := by
  intro pins s σ H x y v u Q I rx ry h
  obtain ⟨S, d, ds, p, xs, rd, rfl, hq, rs, hd, q⟩ := h
  cases ry
  obtain ⟨its, r, pl, hz⟩ := I.list hq
  refine SeqAt.notIn_listAt (eqW X.K S H d) pl.isList (fun w hw => all_eqW I hu rd rx hd rs r w (by simpa using hw)) ⟨.bl _, H, I, rfl, ?_⟩
  rw [show its.toArray.any (eqW X.K S H d) = its.any (eqW X.K S H d) by simp, any_eqW I rs r]
  exact q
noncomputable abbrev dInS : R3
  | x, .lst ds, Φ => (∀ e ∈ ds, dep e ≤ 90) ∧ Φ (.bl (ds.any fun e => eqD e x))
  | _, _, _ => False
noncomputable abbrev dNotinS : R3
  | x, .lst ds, Φ => (∀ e ∈ ds, dep e ≤ 90) ∧ Φ (.bl (!(ds.any fun e => eqD e x)))
  | _, _, _ => False
theorem o_inS (hu : X.A.units + 100 < cLine) : OpD X (compareOp .In) dInS := ⟨_, op_inS hu, fun S H x y u v Φ Q so rx ry hr hd => by
  match y, hr with
  | .lst ds, hr =>
    obtain ⟨a, xs, rfl, lr, rs⟩ := rep_lst ry
    exact ⟨S, x, ds, a, xs, rx, rfl, lr.sq, rs, hr.1, hd _ _ H hr.2 (Same.refl _) Rep.bl⟩⟩
theorem o_notinS (hu : X.A.units + 100 < cLine) : OpD X (compareOp .NotIn) dNotinS := ⟨_, op_notinS hu, fun S H x y u v Φ Q so rx ry hr hd => by
  match y, hr with
  | .lst ds, hr =>
    obtain ⟨a, xs, rfl, lr, rs⟩ := rep_lst ry
    exact ⟨S, x, ds, a, xs, rx, rfl, lr.sq, rs, hr.1, hd _ _ H hr.2 (Same.refl _) Rep.bl⟩⟩
end
end D3

set_option Elab.async false
set_option linter.all false
set_option maxRecDepth 100000
set_option maxHeartbeats 4000000
namespace D3
open PySem PySem.Spec PyProof.Rows L2
section
variable {K : PySem.W.Frag} {B : Bs} {S : Addr → Prop} {H : Hp} {σ : L2.St} {ρ : Fr3}
structure In2 (B : Bs) (S : Addr → Prop) (H : Hp) (a : Addr) (bs : List Addr) (rows : List (List Int)) : Prop where
  sa : S a
  a0 : B.H0 a = none
  ha : H a = some (.lst (bs.map V.ref))
  na : a ∉ bs
  nd : bs.Nodup
  len : bs.length = rows.length
  inn : ∀ (m : Nat) b ns, bs[m]? = some b → rows[m]? = some ns → S b ∧ B.H0 b = none ∧ H b = some (.lst (ns.map V.int))
structure Own2 (B : Bs) (S : Addr → Prop) (H : Hp) (σ : L2.St) (ρ : Fr3) (i : Nat) (rows : List (List Int)) : Prop where
  un : ρ[i]? = some .un
  no : ∀ (j : Nat) ds, ρ[j]? ≠ some (.own ds)
  at' : ∃ a bs, σ[i]? = some (some (.ref a)) ∧ In2 B S H a bs rows
theorem In2.go {a : Addr} {bs : List Addr} {rows : List (List Int)} {H' : Hp} (h : In2 B S H a bs rows) (s : Same H H') : In2 B S H' a bs rows :=
  ⟨h.sa, h.a0, s _ _ h.ha, h.na, h.nd, h.len, fun m b ns e1 e2 => let ⟨x, y, z⟩ := h.inn m b ns e1 e2; ⟨x, y, s _ _ z⟩⟩
theorem Own2.go {i : Nat} {rows : List (List Int)} {H' : Hp} (h : Own2 B S H σ ρ i rows) (s : Same H H') : Own2 B S H' σ ρ i rows :=
  ⟨h.un, h.no, let ⟨a, bs, e, q⟩ := h.at'; ⟨a, bs, e, q.go s⟩⟩
theorem Own2.put {i j : Nat} {rows : List (List Int)} {d : D} {v : V} (h : Own2 B S H σ ρ i rows) (hj : j ≠ i) : Own2 B S H (σ.set j (some v)) (ρ.set j (.val d)) i rows := by
  refine ⟨by rw [List.getElem?_set_ne hj]; exact h.un, fun k ds q => ?_, ?_⟩
  · by_cases hk : j = k
    · subst hk
      rw [List.getElem?_set] at q
      split at q
      · split at q <;> cases q
      · exact h.no _ _ q
    · rw [List.getElem?_set_ne hk] at q; exact h.no k ds q
  · obtain ⟨a, bs, e, q⟩ := h.at'
    exact ⟨a, bs, by rw [List.getElem?_set_ne hj]; exact e, q⟩
end
noncomputable abbrev S3o := (F3 → Prop) → Fr3 → List (List Int) → Prop
section
variable {X : Cx} {e : Expr} {te : E3} {i : Nat} {sts : List Stmt} {t : S3} {T : S3o} {pos : Pos}
end
end D3

set_option Elab.async false
set_option linter.all false
set_option maxRecDepth 100000
set_option maxHeartbeats 4000000
namespace D3
open PySem PySem.Spec PyProof.Rows L2
section
variable {K : PySem.W.Frag} {B : Bs} {S : Addr → Prop} {H : Hp} {σ : L2.St} {ρ : Fr3}
end
section
variable {X : Cx} {xs M : List Str} {scope : Scope} {target elt iter : Expr} {ifs : List Expr} {pos : Pos} {ti : A3} {g : G3} {tt : B3} {tf : A3} {n : Nat} {sts : List Stmt} {T : S3o}
end
section
variable {X : Cx}
end
end D3

set_option Elab.async false
set_option linter.all false
set_option maxRecDepth 100000
set_option maxHeartbeats 4000000
namespace D3
open PySem PySem.Spec PyProof.Rows L2
noncomputable abbrev K3o := Fr3 → List (List Int) → Prop
noncomputable abbrev U3o := K3o → Fr3 → List (List Int) → Prop
section
variable {X : Cx} {e : Expr} {te : E3} {i : Nat} {st : Stmt} {sts : List Stmt} {U : U3o} {T : S3o} {pos : Pos}
end
end D3

set_option Elab.async false
set_option linter.all false
set_option maxRecDepth 100000
set_option maxHeartbeats 4000000
namespace D3
open PySem PySem.Spec PyProof.Rows L2
section
variable {X : Cx} {xs M : List Str} {scope : Scope} {target elt iter : Expr} {ifs : List Expr} {pos : Pos} {ti : A3} {g : G3} {tt : B3} {tf : A3} {n : Nat} {sts : List Stmt} {T : S3o}
end
end D3

set_option Elab.async false
set_option linter.all false
set_option maxRecDepth 100000
set_option maxHeartbeats 4000000
namespace D3
open PySem PySem.Spec PyProof.Rows L2
mutual
noncomputable def NoL : D → Prop
  | .lst _ => False
  | .tup ds => NoLs ds
  | _ => True
noncomputable def NoLs : List D → Prop
  | [] => True
  | d :: ds => NoL d ∧ NoLs ds
end
section
variable {K : PySem.W.Frag} {S S' : Addr → Prop} {H : Hp}
mutual
theorem Rep.noL : ∀ (d : D) (v : V), NoL d → Rep K S H d v → Rep K S' H d v
  | .non, v, _, h => by simpa only [Rep] using h
  | .bl b, v, _, h => by simpa only [Rep] using h
  | .int i, v, _, h => by simpa only [Rep] using h
  | .str x, v, _, h => by simpa only [Rep] using h
  | .tup ds, v, n, h => by
    simp only [Rep] at h ⊢
    obtain ⟨a, xs, e, q, r⟩ := h
    exact ⟨a, xs, e, q, Reps.noL ds xs (by simpa only [NoL] using n) r⟩
  | .lst ds, v, n, h => by simp only [NoL] at n
theorem Reps.noL : ∀ (ds : List D) (vs : List V), NoLs ds → Reps K S H ds vs → Reps K S' H ds vs
  | [], vs, _, h => by simpa only [Reps] using h
  | d :: ds, vs, n, h => by
    simp only [NoLs] at n
    simp only [Reps] at h ⊢
    obtain ⟨x, r, e, q, t⟩ := h
    exact ⟨x, r, e, Rep.noL d x n.1 q, Reps.noL ds r n.2 t⟩
end
theorem noLs_of : ∀ {ds : List D}, (∀ d ∈ ds, NoL d) → NoLs ds
  | [], _ => by simp only [NoLs]
  | d :: ds, h => by simp only [NoLs]; exact ⟨h d List.mem_cons_self, noLs_of fun e he => h e (List.mem_cons_of_mem _ he)⟩
end
noncomputable abbrev frz (i : Nat) (ρ : Fr3) : Fr3 := match ρ[i]? with | some (.own ds) => ρ.set i (.val (.lst ds)) | _ => ρ
theorem ER.frz {K : PySem.W.Frag} {B : Bs} {S : Addr → Prop} {H : Hp} {σ : L2.St} {ρ : Fr3} (i : Nat) (er : ER K B S H σ ρ) : ∃ S', ER K B S' H σ (D3.frz i ρ) := by
  unfold D3.frz
  split
  · rename_i ds e
    exact er.freeze e
  · exact ⟨S, er⟩
section
variable {X : Cx} {e : Expr} {es : List Expr} {te : E3} {tc : B3} {ta tf : A3}
noncomputable abbrev bLend (i : Nat) (tc : B3) : B3 := fun ρ Φ => tc (frz i ρ) Φ
theorem pb_lend (i : Nat) (h : PB X e tc) : PB X e (bLend i tc) := by
  obtain ⟨t2, h, w⟩ := h
  refine ⟨t2, h, fun B S H σ ρ Φ Q er q hd => ?_⟩
  obtain ⟨S', er'⟩ := er.frz i
  exact w B S' H σ _ _ _ er' q hd
noncomputable abbrev fLend (i : Nat) (tf : A3) : A3 := fun ρ Φ => tf (frz i ρ) fun ds => NoLs ds ∧ Φ ds
theorem pf_lend (i : Nat) (h : PF X e tf) : PF X e (fLend i tf) := by
  obtain ⟨t2, h, w⟩ := h
  refine ⟨t2, h, fun B S H σ ρ Φ Q er q hd => ?_⟩
  obtain ⟨S', er'⟩ := er.frz i
  exact w B S' H σ _ _ _ er' q fun ds xs p H1 hp s n r => hd ds xs p H1 hp.2 s n (Reps.noL ds xs hp.1 r)
end
noncomputable def HandP (K : PySem.W.Frag) (S : Addr → Prop) (H : Hp) (Φ : D → Prop) (Q : VK) : Prop := ∀ es p xs H', Φ (.lst es) → Same H H' → H p = none → H' p = some (.lst xs) → Reps K (fun b => S b ∨ b = p) H' es xs → Q (.ref p) H'
noncomputable def onL (Φ : List D → Prop) : D → Prop
  | .lst es => Φ es
  | _ => False
theorem HandN.ofP {K : PySem.W.Frag} {S : Addr → Prop} {H : Hp} {Φ : List D → Prop} {Q : VK} (h : HandN K S H Φ Q) : HandP K S H (onL Φ) Q := fun es p xs H' hΦ sm hp hl ra => by
  have hT : ∀ b zs, SqT K H' b zs → SqT K (fun b => if b = p then none else H' b) b zs := fun b zs q => by
    rcases q with (q | ⟨o, q⟩) | q
    · exact .inl (.inl (by simp only [ne_of q hl (fun z => by cases z), if_false]; exact q))
    · exact .inl (.inr ⟨o, by simp only [ne_of q hl (fun z => by cases z), if_false]; exact q⟩)
    · exact .inr q
  have hL : ∀ b zs, LR K (fun b => S b ∨ b = p) H' b zs → LR K S (fun b => if b = p then none else H' b) b zs := fun b zs q => by
    rcases q with ⟨n, q⟩ | q
    · have hb : b ≠ p := fun z => n (.inr z)
      refine .inl ⟨fun z => n (.inl z), ?_⟩
      rcases q with q | ⟨o, q⟩
      · exact .inl (by simp only [hb, if_false]; exact q)
      · exact .inr ⟨o, by simp only [hb, if_false]; exact q⟩
    · exact .inr q
  have eH : upd (fun b => if b = p then none else H' b) p (.lst xs) = H' := by
    funext b
    by_cases hb : b = p
    · subst hb; rw [upd_same]; exact hl.symm
    · rw [upd_ne hb]; simp only [hb, if_false]
  have := h es xs p (fun b => if b = p then none else H' b) hΦ (fun b o e => by simp only [ne_of_none e hp, if_false]; exact sm b o e) (by simp) (Reps.map hT hL _ _ ra)
  rw [eH] at this
  exact this
noncomputable def spN (K : PySem.W.Frag) (n : Nat) (C : Con) : Sp := fun vs H Q _ => ∃ ds S, ds.length = n ∧ Reps K S H ds vs ∧ SOk S H ∧ C ds fun d => ∃ es, d = .lst es ∧ ∀ p xs H', Same H H' → H p = none → H' p = some (.lst xs) → Reps K (fun b => S b ∨ b = p) H' es xs → Q (.ref p) H'
section
variable {X : Cx} {k : Nat} {f : Addr} {fd : FuncData} {ps : List Str} {C : Con} {x : Str} {p pos : Pos} {e : Expr} {es : List Expr} {ta : A3}
noncomputable abbrev fCall0 (C : Con) : A3 := fun _ Φ => C [] (onL Φ)
theorem pf_call0 (F : FnOk X.prog X.w X.K X.mg X.base CX0 k f fd [] (spN X.K 0 C)) (mo : Mono C) (hr : Room k X.A) (hg : Gl X x) (hm : X.mg x = some (.ref f)) (hk : PySem.W.keepIn X.K (.ref f) = true) (hb : Binds X.K fd [] [])
    (hdb : (x == ("__debug__" : Str)) = false := by decide) : PF X (.Call (.Name x p) [] [] pos) (fCall0 C) := by
  refine ⟨_, pe_call0 F hr hg hm hk hb .nil pass0 hdb, fun B S H σ ρ Φ Q er q hd => ?_⟩
  refine ⟨[], S, rfl, Reps.nil, er.ok, mo [] (onL Φ) _ (fun d hΦ => ?_) q⟩
  cases d <;> first | exact hΦ.elim | skip
  rename_i es
  exact ⟨es, rfl, fun p xs H' s hp hl r' => hd.ofP es p xs H' hΦ s hp hl r'⟩
end
noncomputable def PSN (X : Cx) (sts : List Stmt) (t : A3) : Prop := ∃ t2, PSs X sts t2 ∧ ∀ B S H σ ρ (Φ : List D → Prop) (D' : Ends), ER X.K B S H σ ρ → t ρ Φ →
  (∀ es p xs H', Φ es → Same B.H0 H' → B.H0 p = none → H' p = some (.lst xs) → Reps X.K (fun b => B.S0 b ∨ b = p) H' es xs → D'.rt (.ref p) H') → t2 D' σ H
section
variable {X : Cx} {st : Stmt} {rest as bs : List Stmt} {t : S3} {u u' : A3} {e c : Expr} {tf : A3} {tc : B3} {pos : Pos}
noncomputable abbrev nRet (tf : A3) : A3 := fun ρ Φ => tf ρ Φ
theorem psn_ret (h : PF X e tf) : PSN X [.Return (some e) pos] (nRet tf) := by
  obtain ⟨t2, h, w⟩ := h
  refine ⟨_, pss_one (ps_ret h), fun B S H σ ρ Φ D' er q ok => w B S H σ ρ _ _ er q fun ds xs p H1 hΦ s1 hp r => ?_⟩
  refine ok ds p xs _ hΦ ((er.same.trans s1).trans (same_new hp)) ((er.same.trans s1).free hp) upd_same (Reps.map (same_tup (same_new hp)) (fun b ys q => ?_) _ _ r)
  rcases q with ⟨n, q⟩ | q
  · have hb : b ≠ p := by
      rintro rfl
      rcases q with q | ⟨o, q⟩ <;> rw [hp] at q <;> cases q
    refine .inl ⟨fun z => z.elim (fun z => n (er.sub b z)) hb, ?_⟩
    rcases q with q | ⟨o, q⟩
    · exact .inl (same_new hp _ _ q)
    · exact .inr ⟨o, same_new hp _ _ q⟩
  · exact .inr q
end
section
variable {P : Program} {w : World} {K : PySem.W.Frag} {mg : Str → Option Value} {base : Heap}
theorem fnN_ok {x qual : Str} {st : Stmt} {f : Addr} {fd : FuncData} {N ps : List Str} {k : Nat} {C : Con} (mo : Mono C) (F : Fun K x qual st f fd) (S : FnScope N ps (defScope st))
    (body : ∀ (cdv : Value) (A : Around) (outer : List Env) (s : Shared) (H : Hp) (E : XK), Room k (A.deeper (envOfC qual (defScope st) s.heap.objs.size f cdv)) →
      ∃ t, PSN (cxOf CX0 P w K mg base N qual (defScope st) f cdv A outer s H E).nox (defBody st) t ∧ ∀ ds Φ, ds.length = ps.length → C ds (onL Φ) → t (startD N.length ds) Φ) :
    FnOk P w K mg base CX0 (k + 1) f fd ps (spN K ps.length C) := by
  refine F.ok S (fun vs H Q E h => ?_) (fun cdv A outer s H vs Q E hr h => ?_)
  · obtain ⟨ds, S, hl, r, _⟩ := h
    rw [← r.len]; exact hl
  · obtain ⟨t, ⟨t2, ht, wt⟩, rd⟩ := body cdv A outer s H E hr
    obtain ⟨ds, S, hl, r, so, hc⟩ := h
    refine ⟨t2, ht, wt ⟨S, H, []⟩ S H (L2.start N vs) (startD N.length ds) (fun es => ∀ p xs H', Same H H' → H p = none → H' p = some (.lst xs) → Reps K (fun b => S b ∨ b = p) H' es xs → Q (.ref p) H') _ (er_start r so) (rd ds _ hl (mo ds _ _ (fun d hd => ?_) hc)) ?_⟩
    · obtain ⟨es, rfl, hd⟩ := hd
      exact hd
    · intro es p xs H' h s h0 hl r'
      exact h p xs H' s h0 hl r'
end
end D3

set_option Elab.async false
set_option linter.all false
set_option maxRecDepth 100000
set_option maxHeartbeats 4000000
namespace D3
open PySem PySem.Spec PyProof.Rows L2
section
variable {X : Cx} {k : Nat} {f : Addr} {fd : FuncData} {ps : List Str} {C : Con} {x : Str} {p pos : Pos} {e : Expr} {es : List Expr} {tf ta : A3}
end
section
variable {P : Program} {w : World} {K : PySem.W.Frag} {mg : Str → Option Value} {base : Heap}
end
section
variable {X : Cx} {i : Nat} {st : Stmt} {rest as bs body : List Stmt} {t u tb : S3} {e c : Expr} {te : E3} {tc : B3} {ti : A3} {pos : Pos}
end
end D3

set_option Elab.async false
set_option linter.all false
set_option maxRecDepth 100000
set_option maxHeartbeats 4000000
namespace PySem
open Sem (wp)
section
variable {prog : Program} {w : World} {A : Around} {s : Shared} {R : Result → Shared → Prop}
variable {I : Addr} {fp wr : List Addr} {G : Array GenState → Array GenState → Prop} {n : Nat} {P : Nat → Value → Prop} {St : Nat → Shared → Prop}
end
section
variable {prog : Program} {w : World} {A : Around} {E : Value → Shared → Prop} {s : Shared}
variable {I : Addr} {fp wr : List Addr} {G : Array GenState → Array GenState → Prop} {n : Nat} {P : Nat → Value → Prop} {St : Nat → Shared → Prop}
end
end PySem
namespace D3
open PySem PySem.Spec PyProof.Rows L2
section
variable {X : Cx} {e : Expr} {te : E3} {p p' pos pos' : Pos}
end
end D3

set_option Elab.async false
set_option linter.all false
set_option maxRecDepth 100000
set_option maxHeartbeats 4000000
namespace D3
open PySem PySem.Spec PyProof.Rows L2
mutual
noncomputable def cmpD (f : Int → Int → Bool) (g : Nat → Nat → Bool) : D → D → Bool
  | .int a, .int b => f a b
  | .tup xs, .tup ys => cmpDs f g xs ys
  | _, _ => false
noncomputable def cmpDs (f : Int → Int → Bool) (g : Nat → Nat → Bool) : List D → List D → Bool
  | x :: xs, y :: ys => if eqD x y = true then cmpDs f g xs ys else cmpD f g x y
  | xs, ys => g xs.length ys.length
end
noncomputable abbrev ltD : D → D → Bool := cmpD (fun a b => decide (a < b)) (fun a b => decide (a < b))
noncomputable abbrev geD : D → D → Bool := cmpD (fun a b => decide (b ≤ a)) (fun a b => decide (b ≤ a))
section
open PySem.SeqAt
open PySem.AutoSeq1 (wpAny_loadPart')
open PySem.MeetsSeq PySem.MeetsSeq2 PySem.MeetsSeq3
noncomputable def RcX (op : CmpOp) (A : Around) (s : Shared) (y x : Value) (c : Bool) : Prop := ∀ (prog : Program) (w : World) (E : Value → Shared → Prop) (Q : Value → Shared → Prop), Q (.bool c) s → wpAny (model prog w) A (richCompare op y x) Q E s
inductive LexX (op : CmpOp) (A : Around) (s : Shared) (g : Nat → Nat → Bool) : List Value → List Value → Bool → Prop where
  | nil {ws : List Value} : LexX op A s g [] ws (g 0 ws.length)
  | nil' {vs : List Value} : LexX op A s g vs [] (g vs.length 0)
  | eq {v w : Value} {vs ws : List Value} {c : Bool} : EqAt A s v w true → LexX op A s g vs ws c → LexX op A s g (v :: vs) (w :: ws) c
  | ne {v w : Value} {vs ws : List Value} {c : Bool} : EqAt A s v w false → RcX op A s v w c → LexX op A s g (v :: vs) (w :: ws) c
theorem LexX.fin {op : CmpOp} {A : Around} {s : Shared} {g : Nat → Nat → Bool} {vs ws : List Value} {c : Bool} (h : LexX op A s g vs ws c) (z : vs.zip ws = []) : c = g vs.length ws.length ∧ (vs.length = 0 ∨ ws.length = 0) := by
  cases h with
  | nil => exact ⟨rfl, .inl rfl⟩
  | nil' => exact ⟨rfl, .inr rfl⟩
  | eq => rw [List.zip_cons_cons] at z; cases z
  | ne => rw [List.zip_cons_cons] at z; cases z
theorem tuple_lt_X (l b : Addr) (items items2 : Array Value) (n n2 : Nat) (dd dd2 : Option Addr) (sl sl2 : Array (Option Value)) :
    Meets (Builtin.«tuple.__lt__» ⟨[.ref l, .ref b], []⟩)
      (fun A R s => s.heap.get? l = some { cls := .type "tuple", dict := dd, data := .seq items n, slots := sl } ∧ s.heap.get? b = some { cls := .type "tuple", dict := dd2, data := .seq items2 n2, slots := sl2 } ∧
        ∃ c, LexX .Lt A.in1 s (fun a b => decide (a < b)) items.toList items2.toList c ∧ R (.ok (.ret (.bool c))) s) :=
  .of_wp fun prog w A R s h => by
    obtain ⟨hp, g, d, tk, os⟩ := s; obtain ⟨hl, hb, c0, hq, h⟩ := h
    have f2 := AutoSeq1.sub_tuple_tuple
    wp_walk using wpAny_loadPart' hl, wpAny_loadPart' hb, wpAny_forIn_list _ (fun rest b s' => b.1 = none ∧ s' = ⟨hp, g, d, tk, os⟩ ∧ ∃ (vs ws : List Value) (c : Bool), rest = vs.zip ws ∧ vs.length + items2.size = ws.length + items.size ∧
      LexX .Lt A.in1 ⟨hp, g, d, tk, os⟩ (fun a b => decide (a < b)) vs ws c ∧ R (.ok (.ret (.bool c))) ⟨hp, g, d, tk, os⟩) _
    case turn =>
      rintro ⟨y, x⟩ rest b s' ⟨hb', rfl, vs, ws, c, hz, hlen, hx, hR⟩
      cases hx with
      | nil => rw [List.zip_nil_left] at hz; cases hz
      | nil' => rw [List.zip_nil_right] at hz; cases hz
      | eq he hx =>
        rw [List.zip_cons_cons] at hz
        injection hz with hyx hrest
        injection hyx with hy hx'
        subst hy hx'
        simp only [List.length_cons] at hlen
        refine wpAny_bind (he prog w _ _ ?_)
        wp_walk
        exact ⟨rfl, rfl, _, _, _, hrest, by omega, hx, hR⟩
      | ne he hri =>
        rw [List.zip_cons_cons] at hz
        injection hz with hyx hrest
        injection hyx with hy hx'
        subst hy hx'
        refine wpAny_bind (he prog w _ _ ?_)
        have hri := hri prog w
        wp_walk using hri
        exact ⟨_, rfl, by simpa using hR⟩
    case fin =>
      rintro ⟨b1, b2⟩ s' ⟨hb', rfl, vs, ws, c, hz, hlen, hx, hR⟩
      simp only at hb'
      subst hb'
      obtain ⟨rfl, ho⟩ := hx.fin hz.symm
      have e : decide (vs.length < ws.length) = decide (items.size < items2.size) := decide_eq_decide.mpr (by omega)
      rw [e] at hR
      wp_walk
      exact ⟨_, rfl, by simpa [Builtin.Tuple.tupleCompareSizes] using hR⟩
    case h =>
      exact ⟨rfl, rfl, items.toList, items2.toList, c0, rfl, by simp only [Array.length_toList]; omega, hq, h⟩
theorem tuple_ge_X (l b : Addr) (items items2 : Array Value) (n n2 : Nat) (dd dd2 : Option Addr) (sl sl2 : Array (Option Value)) :
    Meets (Builtin.«tuple.__ge__» ⟨[.ref l, .ref b], []⟩)
      (fun A R s => s.heap.get? l = some { cls := .type "tuple", dict := dd, data := .seq items n, slots := sl } ∧ s.heap.get? b = some { cls := .type "tuple", dict := dd2, data := .seq items2 n2, slots := sl2 } ∧
        ∃ c, LexX .GtE A.in1 s (fun a b => decide (b ≤ a)) items.toList items2.toList c ∧ R (.ok (.ret (.bool c))) s) :=
  .of_wp fun prog w A R s h => by
    obtain ⟨hp, g, d, tk, os⟩ := s; obtain ⟨hl, hb, c0, hq, h⟩ := h
    have f2 := AutoSeq1.sub_tuple_tuple
    wp_walk using wpAny_loadPart' hl, wpAny_loadPart' hb, wpAny_forIn_list _ (fun rest b s' => b.1 = none ∧ s' = ⟨hp, g, d, tk, os⟩ ∧ ∃ (vs ws : List Value) (c : Bool), rest = vs.zip ws ∧ vs.length + items2.size = ws.length + items.size ∧
      LexX .GtE A.in1 ⟨hp, g, d, tk, os⟩ (fun a b => decide (b ≤ a)) vs ws c ∧ R (.ok (.ret (.bool c))) ⟨hp, g, d, tk, os⟩) _
    case turn =>
      rintro ⟨y, x⟩ rest b s' ⟨hb', rfl, vs, ws, c, hz, hlen, hx, hR⟩
      cases hx with
      | nil => rw [List.zip_nil_left] at hz; cases hz
      | nil' => rw [List.zip_nil_right] at hz; cases hz
      | eq he hx =>
        rw [List.zip_cons_cons] at hz
        injection hz with hyx hrest
        injection hyx with hy hx'
        subst hy hx'
        simp only [List.length_cons] at hlen
        refine wpAny_bind (he prog w _ _ ?_)
        wp_walk
        exact ⟨rfl, rfl, _, _, _, hrest, by omega, hx, hR⟩
      | ne he hri =>
        rw [List.zip_cons_cons] at hz
        injection hz with hyx hrest
        injection hyx with hy hx'
        subst hy hx'
        refine wpAny_bind (he prog w _ _ ?_)
        have hri := hri prog w
        wp_walk using hri
        exact ⟨_, rfl, by simpa using hR⟩
    case fin =>
      rintro ⟨b1, b2⟩ s' ⟨hb', rfl, vs, ws, c, hz, hlen, hx, hR⟩
      simp only at hb'
      subst hb'
      obtain ⟨rfl, ho⟩ := hx.fin hz.symm
      have e : decide (ws.length ≤ vs.length) = decide (items2.size ≤ items.size) := decide_eq_decide.mpr (by omega)
      rw [e] at hR
      wp_walk
      exact ⟨_, rfl, by simpa [Builtin.Tuple.tupleCompareSizes] using hR⟩
    case h =>
      exact ⟨rfl, rfl, items.toList, items2.toList, c0, rfl, by simp only [Array.length_toList]; omega, hq, h⟩
theorem rcX_lt {A : Around} {s : Shared} {l b : Addr} {items items2 : List Value} {c : Bool} (hl : IsTup s.heap l items.toArray) (hb : IsTup s.heap b items2.toArray)
    (hq : LexX .Lt A.in1 s (fun a b => decide (a < b)) items items2 c) (hu : A.units < cLine) : RcX .Lt A s (.ref l) (.ref b) c := by
  intro prog w E Q h
  obtain ⟨⟨cls, dd, data, sl⟩, ho, hc, n, hd⟩ := id hl
  obtain ⟨⟨cls2, dd2, data2, sl2⟩, ho2, hc2, n2, hd2⟩ := id hb
  simp only at hc hd hc2 hd2
  subst hc hd hc2 hd2
  exact richCompare_meets_room (op := .Lt) ⟨_, ho, rfl⟩ ⟨_, ho2, rfl⟩ PySem.F.slot_tuple_lt PySem.F.entry_tuple_lt (PySem.F.args_tuple_lt_2 _ _) (tuple_lt_X l b items.toArray items2.toArray n n2 dd dd2 sl sl2)
    ⟨ho, ho2, c, hq, show Value.bool c ≠ Value.notImplemented ∧ Q (.bool c) s from ⟨(fun x => by cases x), h⟩⟩ hu
theorem rcX_ge {A : Around} {s : Shared} {l b : Addr} {items items2 : List Value} {c : Bool} (hl : IsTup s.heap l items.toArray) (hb : IsTup s.heap b items2.toArray)
    (hq : LexX .GtE A.in1 s (fun a b => decide (b ≤ a)) items items2 c) (hu : A.units < cLine) : RcX .GtE A s (.ref l) (.ref b) c := by
  intro prog w E Q h
  obtain ⟨⟨cls, dd, data, sl⟩, ho, hc, n, hd⟩ := id hl
  obtain ⟨⟨cls2, dd2, data2, sl2⟩, ho2, hc2, n2, hd2⟩ := id hb
  simp only at hc hd hc2 hd2
  subst hc hd hc2 hd2
  exact richCompare_meets_room (op := .GtE) ⟨_, ho, rfl⟩ ⟨_, ho2, rfl⟩ PySem.F.slot_tuple_ge PySem.F.entry_tuple_ge (PySem.F.args_tuple_ge_2 _ _) (tuple_ge_X l b items.toArray items2.toArray n n2 dd dd2 sl sl2)
    ⟨ho, ho2, c, hq, show Value.bool c ≠ Value.notImplemented ∧ Q (.bool c) s from ⟨(fun x => by cases x), h⟩⟩ hu
section
variable {X : Cx} {pins : List (Addr × Obj)} {σ : L2.St} {H : Hp} {s : Shared} {S : Addr → Prop}
theorem lex_of {op : CmpOp} {f : Int → Int → Bool} {g : Nat → Nat → Bool} {K : PySem.W.Frag} {A : Around} : ∀ {ds es : List D} {xs ys : List V} {us ws : List Value}, Reps K S H ds xs → Reps K S H es ys → Vals xs us → Vals ys ws →
    (∀ d ∈ ds, ∀ e ∈ es, ∀ x y u w, Rep K S H d x → Rep K S H e y → RelV x u → RelV y w → EqAt A s u w (eqD d e) ∧ RcX op A s u w (cmpD f g d e)) → LexX op A s g us ws (cmpDs f g ds es)
  | [], es, xs, ys, us, ws, r, r', v, v', h => by
    simp only [Reps] at r; subst r; cases v
    have e : es.length = ws.length := by rw [r'.len, v'.length]
    show LexX op A s g [] ws (cmpDs f g [] es)
    have : cmpDs f g [] es = g 0 ws.length := by rw [← e]; cases es <;> simp only [cmpDs, List.length_nil]
    rw [this]
    exact .nil
  | d :: ds, [], xs, ys, us, ws, r, r', v, v', h => by
    simp only [Reps] at r'; subst r'; cases v'
    have e : (d :: ds).length = us.length := by rw [r.len, v.length]
    have : cmpDs f g (d :: ds) [] = g us.length 0 := by rw [← e]; simp only [cmpDs, List.length_nil]
    rw [this]
    exact .nil'
  | d :: ds, e :: es, xs, ys, us, ws, r, r', v, v', h => by
    simp only [Reps] at r r'
    obtain ⟨x, xs, rfl, rx, r⟩ := r
    obtain ⟨y, ys, rfl, ry, r'⟩ := r'
    cases v with
    | cons hx v =>
      cases v' with
      | cons hy v' =>
        obtain ⟨h1, h2⟩ := h d List.mem_cons_self e List.mem_cons_self x y _ _ rx ry hx hy
        simp only [cmpDs]
        cases hq : eqD d e with
        | true =>
          rw [if_pos rfl]
          rw [hq] at h1
          exact .eq h1 (lex_of r r' v v' fun d hd e he => h d (List.mem_cons_of_mem _ hd) e (List.mem_cons_of_mem _ he))
        | false =>
          rw [if_neg Bool.false_ne_true]
          rw [hq] at h1
          exact .ne h1 h2
theorem rcX_D (op : CmpOp) (f : Int → Int → Bool) (g : Nat → Nat → Bool) (hi : ∀ A s a t c u, RcX op A s (.int a t) (.int c u) (f a c))
    (ht : ∀ {A : Around} {s : Shared} {l b : Addr} {items items2 : List Value} {c : Bool}, IsTup s.heap l items.toArray → IsTup s.heap b items2.toArray → LexX op A.in1 s g items items2 c → A.units < cLine → RcX op A s (.ref l) (.ref b) c)
    (I : Inv X pins σ H s) : ∀ (n : Nat) (x y : D) (v v' : V) (u u' : Value) (A : Around), Ord n x → Ord n y → A.units + 2 * n < cLine → Rep X.K S H x v → Rep X.K S H y v' → RelV v u → RelV v' u' → RcX op A s u u' (cmpD f g x y) := by
  intro n
  induction n with
  | zero =>
    intro x y v v' u u' A hx hy hu rx ry ru ru'
    cases hx with
    | int i =>
      cases hy with
      | int j =>
        cases rep_int rx
        cases rep_int ry
        obtain ⟨t, rfl⟩ := ru
        obtain ⟨t', rfl⟩ := ru'
        simp only [cmpD]
        exact hi A s i t j t'
  | succ n ih =>
    intro x y v v' u u' A hx hy hu rx ry ru ru'
    cases hx with
    | tup hx =>
      cases hy with
      | tup hy =>
        obtain ⟨a, xs, rfl, q, rs⟩ := rep_tup rx
        obtain ⟨b, ys, rfl, q', rs'⟩ := rep_tup ry
        cases (show u = Value.ref a from ru)
        cases (show u' = Value.ref b from ru')
        obtain ⟨its, r1, p1, _⟩ := I.tuple q
        obtain ⟨its', r1', p1', _⟩ := I.tuple q'
        have hin : A.in1.units + 2 * n < cLine := by
          have : A.in1.units ≤ A.units + 1 := by first | exact Nat.le_refl _ | (simp [Around.in1]; done) | (show A.units + 1 ≤ _; omega)
          omega
        simp only [cmpD]
        refine ht p1 p1' (lex_of rs rs' r1 r1' fun d hd e he x y u w rx ry hx' hy' => ?_) (by omega)
        exact ⟨eqAt_D I n d e x y u w A.in1 (hx d hd).dep (by omega) rx ry hx' hy', ih d e x y u w A.in1 (hx d hd) (hy e he) hin rx ry hx' hy'⟩
theorem rcLtD (I : Inv X pins σ H s) {n : Nat} {x y : D} {v v' : V} {u u' : Value} {A : Around} (hx : Ord n x) (hy : Ord n y) (hu : A.units + 2 * n < cLine) (rx : Rep X.K S H x v) (ry : Rep X.K S H y v') (ru : RelV v u) (ru' : RelV v' u') : RcX .Lt A s u u' (ltD x y) :=
  rcX_D .Lt _ _ (fun A s a t c u prog w E Q h => HT.rcLt_int A s a t c u prog w E Q h) rcX_lt I n x y v v' u u' A hx hy hu rx ry ru ru'
theorem rcGeD (I : Inv X pins σ H s) {n : Nat} {x y : D} {v v' : V} {u u' : Value} {A : Around} (hx : Ord n x) (hy : Ord n y) (hu : A.units + 2 * n < cLine) (rx : Rep X.K S H x v) (ry : Rep X.K S H y v') (ru : RelV v u) (ru' : RelV v' u') : RcX .GtE A s u u' (geD x y) :=
  rcX_D .GtE _ _ (fun A s a t c u prog w E Q h => (PyProof.Rows.ge_int h : wpAny (model prog w) A (compareOp .GtE (.int a t) (.int c u)) Q E s)) rcX_ge I n x y v v' u u' A hx hy hu rx ry ru ru'
end
end
section
variable {X : Cx}
theorem op_geS (hu : X.A.units + 100 < cLine) : OpR X (compareOp .GtE) (fun x y H Q => ∃ S d e, Ord 2 d ∧ Ord 2 e ∧ Rep X.K S H d x ∧ Rep X.K S H e y ∧ Q (.bl (geD d e)) H) := by
  intro pins s σ H x y v u Q I rx ry h
  obtain ⟨S, d, e, hd, he, rd, re, q⟩ := h
  exact rcGeD I hd he (by omega) rd re rx ry X.prog X.w _ _ ⟨.bl _, H, I, rfl, q⟩
noncomputable abbrev dGeS : R3 := fun x y Φ => Ord 2 x ∧ Ord 2 y ∧ Φ (.bl (geD x y))
theorem o_geS (hu : X.A.units + 100 < cLine) : OpD X (compareOp .GtE) dGeS := ⟨_, op_geS hu, fun S H x y u v Φ Q so rx ry hr hd => ⟨S, x, y, hr.1, hr.2.1, rx, ry, hd _ _ H hr.2.2 (Same.refl _) Rep.bl⟩⟩
end
end D3

set_option Elab.async false
set_option linter.all false
set_option maxRecDepth 100000
set_option maxHeartbeats 4000000
namespace D3
open PySem PySem.Spec PyProof.Rows L2
section
open PySem.W
noncomputable def runK {α : Type} (lt : Nat → Nat → Bool) : KasT α → α
  | .ret a => a
  | .ask i j k => runK lt (k (lt i j))
theorem KAll.wpX {α : Type} {n : Nat} {P : α → Prop} {lt : Nat → Nat → Bool} {cmp : Nat → Nat → (Bool → Shared → Prop) → Shared → Prop} {s : Shared} (hc : ∀ i j C, i < n → j < n → C (lt i j) s → cmp i j C s) : ∀ t : KasT α, KAll n P t → t.kasWp cmp (fun a s' => (a = runK lt t ∧ P a) ∧ s' = s) s
  | .ret a, h => ⟨⟨rfl, h⟩, rfl⟩
  | .ask i j k, h => hc i j _ h.1 h.2.1 (KAll.wpX hc (k (lt i j)) (h.2.2 _))
section
variable {prog : Program} {w : World} {A : Around} {E : Value → Shared → Prop} {s : Shared} {vs : List Value}
theorem srt_listX {a : Addr} {n : Nat} {P : PySem.Fin → Shared → Prop} {lt : Nat → Nat → Bool} (ho : s.heap.get? a = some (seqObj "list" vs.toArray n)) (h2 : 2 ≤ vs.length) (h64 : vs.length < 64)
    (hk : ∀ h', (∀ b o, b ≠ a → s.heap.get? b = some o → h'.get? b = some o) → wpAny (model prog w) A (keyKind' vs.toArray) (fun κ s' => s' = { s with heap := h' } ∧ ∀ i j C, i < vs.length → j < vs.length → C (lt i j) s' → kas_ask prog w A κ vs i j C s') (fun _ _ => False) { s with heap := h' })
    (hP : ∀ (p : Array Nat) c h', p = runK lt (kas_sort vs.length) → PR vs.length p → (∀ b o, b ≠ a → s.heap.get? b = some o → h'.get? b = some o) → h'.get? a = some (seqObj "list" (List.toArray (p.toList.map fun i => vs.getD i Value.none)) c) → P (.done (.ret .none)) { s with heap := h' }) :
    wpAny (model prog w) A (Builtin.«list.sort» ⟨[.ref a], []⟩) P E s := by
  obtain ⟨e1, ho1⟩ : ∃ e1, (s.heap.update a (Obj.mapSeq fun _ => (#[] : Array Value))).get? a = some (seqObj "list" #[] e1) := ⟨_, get?_update_seq ho fun _ => #[]⟩
  have keep3 : ∀ b o, b ≠ a → s.heap.get? b = some o → (((s.heap.update a (Obj.mapSeq fun _ => (#[] : Array Value))).push (seqObj "tuple" vs.toArray 0)).push (seqObj "list" #[] 0)).get? b = some o := fun b o hb q =>
    Heap.get?_push_of_some _ (Heap.get?_push_of_some _ (by rw [Heap.get?_update_ne _ _ _ _ hb]; exact q))
  have at3 : (((s.heap.update a (Obj.mapSeq fun _ => (#[] : Array Value))).push (seqObj "tuple" vs.toArray 0)).push (seqObj "list" #[] 0)).get? a = some (seqObj "list" #[] e1) := Heap.get?_push_of_some _ (Heap.get?_push_of_some _ ho1)
  have ask := hk _ keep3
  rw [list_sort_plain]
  refine wpAny_bind (listItems_at ho rfl ?_)
  refine wpAny_bind (listUpdate_at ho rfl ?_ (by rw [List.size_toArray, sizeLine_eq]; omega) (Nat.zero_le _))
  refine wpAny_bind (seqEpoch_at ho1 rfl ?_)
  refine wpAny_bind (wpAny_newTuple ?_ (by show vs.length ≤ _; rw [sizeLine_eq]; omega))
  refine wpAny_bind (wpAny_newList ?_ (Nat.zero_le _))
  refine wpAny_holding ?_
  show wpAny (model prog w) A _ P E { s with heap := ((s.heap.update a (Obj.mapSeq fun _ => (#[] : Array Value))).push (seqObj "tuple" vs.toArray 0)).push (seqObj "list" #[] 0) }
  dsimp only
  have hn2 : ¬ vs.toArray.size < 2 := by rw [List.size_toArray]; omega
  rw [if_neg hn2, if_neg hn2]
  generalize hh : ((s.heap.update a (Obj.mapSeq fun _ => (#[] : Array Value))).push (seqObj "tuple" vs.toArray 0)).push (seqObj "list" #[] 0) = h3 at *
  refine wpAny_bind (wpAny_mono ask (fun κ s0 hk => ?_) fun _ _ x => x.elim)
  obtain ⟨rfl, hc⟩ := hk
  refine wpAny_bind (wpAny_mono (kat_run (Q := fun st' s' => ∃ p : Array Nat, p.size = vs.length ∧ arrOf st' = p.map (kas_item (vs.toArray.zip vs.toArray)) ∧ failedOf st' = none ∧ (p = runK lt (kas_sort vs.length) ∧ PR vs.length p) ∧ s' = { s with heap := h3 })
    rfl h2 h64 (fun p' st' s' a1 a2 a3 a4 => ⟨p', a1, a2, a3, a4.1, a4.2⟩) (KAll.wpX hc _ (ka_sort (by omega)))) ?_ fun _ _ e => e)
  rintro ⟨⟨⟩, st'⟩ s' ⟨p, hp, har, hf, pr, rfl⟩
  dsimp only
  have hout := kat_snds rfl har
  have hsz : (List.toArray (p.toList.map fun i => vs.getD i Value.none)).size = vs.length := by rw [List.size_toArray, List.length_map, Array.length_toList, hp]
  rw [hout]
  obtain ⟨c2, hc2⟩ : ∃ c2, (h3.update a (Obj.mapSeq fun _ => List.toArray (p.toList.map fun i => vs.getD i Value.none))).get? a = some (seqObj "list" (List.toArray (p.toList.map fun i => vs.getD i Value.none)) c2) := ⟨_, get?_update_seq at3 fun _ => List.toArray (p.toList.map fun i => vs.getD i Value.none)⟩
  refine wpAny_bind (seqEpoch_at at3 rfl ?_)
  refine wpAny_bind (listUpdate_at at3 rfl ?_ (Nat.zero_le _) (Nat.le_trans (Nat.le_of_eq hsz) (by rw [sizeLine_eq]; omega)))
  rw [hf]
  simp only [bne_self_eq_false, Bool.false_eq_true, if_false]
  exact wpAny_pure (hP p c2 _ pr.1 pr.2 (fun b o hb q => by rw [Heap.get?_update_ne _ _ _ _ hb]; exact keep3 b o hb q) hc2)
theorem srt_callX {l : Addr} {Q : Value → Shared → Prop} {lt : Nat → Nat → Bool} (hl : s.heap.IsList l vs.toArray) (h2 : 2 ≤ vs.length) (h64 : vs.length < 64)
    (hk : ∀ h', (∀ b o, s.heap.get? b = some o → h'.get? b = some o) → wpAny (model prog w) A.in1.in1 (keyKind' vs.toArray) (fun κ s' => s' = { s with heap := h' } ∧ ∀ i j C, i < vs.length → j < vs.length → C (lt i j) s' → kas_ask prog w A.in1.in1 κ vs i j C s') (fun _ _ => False) { s with heap := h' })
    (hQ : ∀ (p : Array Nat) c h' D, p = runK lt (kas_sort vs.length) → PR vs.length p → (∀ b o, s.heap.get? b = some o → h'.get? b = some o) → s.heap.objs.size ≤ D → h'.get? D = some (seqObj "list" (List.toArray (p.toList.map fun i => vs.getD i Value.none)) c) → Q (.ref D) { s with heap := h' }) :
    wpAny (model prog w) A (call (.builtin "sorted") [.ref l]) Q E s := by
  refine Calls.call_function_entry kind_sorted plain_sorted entry_sorted (args_sorted1 _) ?_
  unfold Builtin.«sorted»
  refine wpAny_bind (m := checkCount "sorted" 1 1 _) (wpAny_pure ?_)
  refine wpAny_bind (collect_list hl ?_ (by rw [sizeLine_eq]; omega))
  refine wpAny_bind (wpAny_newList ?_ (by rw [sizeLine_eq]; omega))
  have hsz : ((s.heap.push (seqObj "list" #[] 0)).update s.heap.objs.size (Obj.mapSeq (· ++ vs.toArray))).objs.size = s.heap.objs.size + 1 := by
    rw [Heap.size_update, size_push']
  have hoL : (((s.heap.push (seqObj "list" #[] 0)).update s.heap.objs.size (Obj.mapSeq (· ++ vs.toArray))).push (seqObj "list" vs.toArray 0)).get? (s.heap.objs.size + 1) = some (seqObj "list" vs.toArray 0) := by
    rw [← hsz]; exact Heap.get?_push_size _ rfl
  have keep : ∀ b o, s.heap.get? b = some o → (((s.heap.push (seqObj "list" #[] 0)).update s.heap.objs.size (Obj.mapSeq (· ++ vs.toArray))).push (seqObj "list" vs.toArray 0)).get? b = some o := fun b o q => by
    have hlt : b < s.heap.objs.size := Heap.lt_size q
    rw [Heap.get?_push_ne _ _ _ (by rw [hsz]; exact Nat.ne_of_lt (Nat.lt_succ_of_lt hlt)), Heap.get?_update_ne _ _ _ _ (Nat.ne_of_lt hlt), Heap.get?_push_ne _ _ _ (Nat.ne_of_lt hlt)]
    exact q
  show wpAny _ _ _ _ _ { s with heap := ((s.heap.push (seqObj "list" #[] 0)).update s.heap.objs.size (Obj.mapSeq (· ++ vs.toArray))).push (seqObj "list" vs.toArray 0) }
  rw [hsz]
  have kp : ∀ h' : Heap, (∀ b o, b ≠ s.heap.objs.size + 1 → (((s.heap.push (seqObj "list" #[] 0)).update s.heap.objs.size (Obj.mapSeq (· ++ vs.toArray))).push (seqObj "list" vs.toArray 0)).get? b = some o → h'.get? b = some o) → ∀ b o, s.heap.get? b = some o → h'.get? b = some o := fun h' k b o q =>
    k b o (Nat.ne_of_lt (Nat.lt_succ_of_lt (Heap.lt_size q))) (keep b o q)
  refine wpAny_bind (wpAny_holding (wpAny_call_entry slot_list_sort ⟨_, hoL, rfl⟩ entry_list_sort ?body (args_list_sort _)))
  case body =>
    refine srt_listX (s := { s with heap := ((s.heap.push (seqObj "list" #[] 0)).update s.heap.objs.size (Obj.mapSeq (· ++ vs.toArray))).push (seqObj "list" vs.toArray 0) }) hoL h2 h64 (fun h' k => hk h' (kp h' k)) fun p c h' ep pr k e => ?_
    exact ⟨_, rfl, wpAny_pure ⟨_, rfl, hQ p c h' _ ep pr (kp h' k) (Nat.le_succ _) e⟩⟩
end
variable {X : Cx} {pins : List (Addr × Obj)} {σ : L2.St} {H : Hp} {s : Shared} {S : Addr → Prop}
theorem key_ltX (I : Inv X pins σ H s) {d d' : D} {v v' : V} {u u' : Value} {A : Around} (k : SortK d) (k' : SortK d') (hu : A.units + 10 < cLine) (r : Rep X.K S H d v) (r' : Rep X.K S H d' v') (ru : RelV v u) (ru' : RelV v' u') {prog : Program} {w : World} {E : Value → Shared → Prop} {Q : Bool → Shared → Prop} (h : Q (ltD d d') s) : wpAny (model prog w) A (keyLt' (tuples' false) u u') Q E s := by
  obtain ⟨xs, i, rfl, ord⟩ := k
  obtain ⟨xs', i', rfl, ord'⟩ := k'
  obtain ⟨a, vs, rfl, q, rs⟩ := rep_tup r
  obtain ⟨a', vs', rfl, q', rs'⟩ := rep_tup r'
  simp only [Reps] at rs rs'
  obtain ⟨v1, _, rfl, rx, v2, _, rfl, r2, rfl⟩ := rs
  obtain ⟨v1', _, rfl, rx', v2', _, rfl, r2', rfl⟩ := rs'
  cases rep_int r2
  cases rep_int r2'
  cases (show u = Value.ref a from ru)
  cases (show u' = Value.ref a' from ru')
  obtain ⟨its, rv, ⟨o, ho, hc, n, hd⟩, _⟩ := I.tuple q
  obtain ⟨its', rv', ⟨o', ho', hc', n', hd'⟩, _⟩ := I.tuple q'
  cases rv with
  | cons h1 rv =>
  cases rv with
  | cons h2 rv =>
  cases rv with
  | nil =>
  cases rv' with
  | cons h1' rv' =>
  cases rv' with
  | cons h2' rv' =>
  cases rv' with
  | nil =>
  obtain ⟨t, rfl⟩ := h2
  obtain ⟨t', rfl⟩ := h2'
  refine kat_lt ho hd ho' hd' ?_
  refine kat_cons (eqAt_D I 2 (.tup xs) (.tup xs') v1 v1' _ _ A ord.dep (by omega) rx rx' h1 h1' prog w _ _ ?_)
  have e1 : ltD (.tup [.tup xs, .int i]) (.tup [.tup xs', .int i']) = if eqD (.tup xs) (.tup xs') = true then (if (i == i') = true then decide (0 < 0) else decide (i < i')) else ltD (.tup xs) (.tup xs') := by
    simp only [ltD, cmpD, cmpDs, eqD, List.length_nil]
    rfl
  rw [e1] at h
  cases c : eqD (.tup xs) (.tup xs') with
  | false =>
    rw [c, if_neg Bool.false_ne_true] at h
    exact kat_no (kat_one _ _ (rcLtD I ord ord' (by omega) rx rx' h1 h1' prog w _ _ h))
  | true =>
    rw [c, if_pos rfl] at h
    refine kat_yes (kat_cons (SeqAt.EqAt.int_int i t i' t' prog w _ _ ?_))
    cases c' : (i == i') with
    | false =>
      rw [c', if_neg Bool.false_ne_true] at h
      exact kat_no (kat_one _ _ (HT.rcLt_int A s i t i' t' prog w _ _ h))
    | true =>
      rw [c', if_pos rfl] at h
      exact kat_yes (kat_nil h)
noncomputable def sortD (ds : List D) : List D := (runK (fun i j => ltD (ds.getD i .non) (ds.getD j .non)) (kas_sort ds.length)).toList.filterMap (ds[·]?)
theorem vals_pick {ys : List V} {its : List Value} (v : Vals ys its) : ∀ is : List Nat, Vals (is.filterMap (ys[·]?)) (is.filterMap (its[·]?))
  | [] => .nil
  | i :: is => by
    have hl := v.length
    by_cases hi : i < its.length
    · obtain ⟨y, e, r⟩ := vals_get v hi
      have e2 : its[i]? = some (its.getD i Value.none) := by rw [List.getD_eq_getElem?_getD, List.getElem?_eq_getElem hi]; rfl
      rw [List.filterMap_cons_some e, List.filterMap_cons_some e2]
      exact .cons r (vals_pick v is)
    · rw [List.filterMap_cons_none (List.getElem?_eq_none (by omega)), List.filterMap_cons_none (List.getElem?_eq_none (by omega))]
      exact vals_pick v is
theorem pick_map {its : List Value} : ∀ is : List Nat, (∀ i ∈ is, i < its.length) → is.map (fun i => its.getD i Value.none) = is.filterMap (its[·]?)
  | [], _ => rfl
  | i :: is, h => by
    have hi := h i List.mem_cons_self
    have e2 : its[i]? = some (its.getD i Value.none) := by rw [List.getD_eq_getElem?_getD, List.getElem?_eq_getElem hi]; rfl
    rw [List.map_cons, List.filterMap_cons_some e2, pick_map is fun j hj => h j (List.mem_cons_of_mem _ hj)]
theorem call_sortX (hu : X.A.units + 20 < cLine) : CallR X (.builtin "sorted") (fun xs H Q => ∃ p ys S ds, xs = [.ref p] ∧ SqL X.K H p ys ∧ Reps X.K S H ds ys ∧ (∀ d ∈ ds, SortK d) ∧ 2 ≤ ds.length ∧ ds.length < 64 ∧ ∀ zs, Reps X.K S H (sortD ds) zs → ∀ l, H l = none → Q (.ref l) (upd H l (.lst zs))) := by
  intro pins s σ H xs us Q I r h
  obtain ⟨p, ys, S, ds, rfl, hq, rs, hk, l2, l64, q⟩ := h
  obtain ⟨u, rfl, ru⟩ := vals1 r
  cases ru
  obtain ⟨its, rv, pl, hz⟩ := I.list hq
  have ln : its.length = ds.length := by rw [rs.len, rv.length]
  refine srt_callX (lt := fun i j => ltD (ds.getD i .non) (ds.getD j .non)) pl.isList (by omega) (by omega) (fun h' kp => ?_) fun pa c h' D ep pr kp hD e => ?_
  · have I1 : Inv X pins σ H { s with heap := h' } := I.kept (t' := s.toks) kp
    obtain ⟨fs, t, lf, ht⟩ := key_kind I1 (M := model X.prog X.w) hk rs rv
    refine kat_kind t (by omega) ht (by decide +kernel) ⟨rfl, fun i j C hi hj hc => ?_⟩
    have one : ∀ {i : Nat}, i < its.length → ∃ v, SortK (ds.getD i .non) ∧ Rep X.K S H (ds.getD i .non) v ∧ RelV v (its.getD i Value.none) := fun {i} hi => by
      obtain ⟨y, e, ry⟩ := vals_get rv hi
      obtain ⟨d, ed, rd⟩ := rs.getV e
      have : ds.getD i .non = d := by rw [List.getD_eq_getElem?_getD, ed]; rfl
      rw [this]
      exact ⟨y, hk d (List.mem_of_getElem? ed), rd, ry⟩
    obtain ⟨v, k1, r1, v1⟩ := one hi
    obtain ⟨v', k2, r2, v2⟩ := one hj
    exact key_ltX I1 k1 k2 (by show X.A.units + 1 + 1 + 10 < cLine; omega) r1 r2 v1 v2 hc
  · have all : ∀ i ∈ pa.toList, i < its.length := fun i hi => by
      have : i ∈ pa := by simpa using hi
      have := (pr.mem_iff).mp this
      simpa using this
    rw [pick_map _ all] at e
    have zv := vals_pick rv pa.toList
    have zr := rs.pick pa.toList
    have es : sortD ds = pa.toList.filterMap (ds[·]?) := by unfold sortD; rw [ep, ln]
    have zl : (pa.toList.filterMap (ys[·]?)).length ≤ sizeLine := by
      refine Nat.le_trans (List.length_filterMap_le _ _) ?_
      have := pr.size_eq
      rw [Array.length_toList, this]
      simp only [List.size_toArray, List.length_range]
      rw [ln, rs.len]; exact hz
    exact ⟨.ref D, _, I.laid (t' := s.toks) kp hD (show ObjOk X.prog X.w _ h' _ (.lst (pa.toList.filterMap (ys[·]?))) from ⟨zl, _, c, zv, e⟩), rfl, q _ (by rw [es]; exact zr) D (I.hok.fresh hD)⟩
noncomputable abbrev fSortX (ta : A3) : A3 := fun ρ Φ => ta ρ fun ds => match ds with
  | [.lst ds] => (∀ d ∈ ds, SortK d) ∧ 2 ≤ ds.length ∧ ds.length < 64 ∧ Φ (sortD ds)
  | _ => False
theorem pf_sortX {e : Expr} {es : List Expr} {ta : A3} {p pos : Pos} (hu : X.A.units + 100 < cLine) (hg : Gl X "sorted") (hm : X.mg "sorted" = none) (ha : PAD X (e :: es) ta)
    (he : starEach (e :: es) X.env = (false, eval e X.env) :: starEach es X.env := by rfl) (hpl : (backTo pos (starEach es X.env)).any (·.1) = false := by rfl) : PF X (.Call (.Name "sorted" p) (e :: es) [] pos) (fSortX ta) := by
  obtain ⟨t2, h, w⟩ := ha
  refine ⟨_, pe_callB (call_sortX (by omega)) hg hm bt_sorted h (by decide) (by decide) he hpl, fun B S H σ ρ Φ Q er q hd => w B S H σ ρ _ _ er q fun ds vs H1 p1 s1 r1 => ?_⟩
  match ds, p1 with
  | [.lst ds], h =>
    simp only [Reps] at r1
    obtain ⟨v, _, rfl, rv, rfl⟩ := r1
    obtain ⟨a, xs, rfl, lr, rs⟩ := rep_lst rv
    exact ⟨a, xs, S, ds, rfl, lr.sq, rs, h.1, h.2.1, h.2.2.1, fun zs rz l hl => hd _ _ l H1 h.2.2.2 s1 hl rz⟩
end
end D3

set_option linter.all false
namespace Mt
theorem fmod_def (a b : Int) : a.fmod b = a - b * a.fdiv b := by
  have := Int.mul_fdiv_add_fmod a b; omega
theorem fmod_lt {a b : Int} (h : b ≠ 0) : (a.fmod b).natAbs < b.natAbs := by
  rw [Int.fmod_eq_emod]
  have h1 := Int.emod_nonneg a h
  have h2 := Int.emod_lt a h
  by_cases hb : 0 ≤ b
  · rw [if_pos (.inl hb)]; omega
  · by_cases hd : b ∣ a
    · rw [if_pos (.inr hd), Int.emod_eq_zero_of_dvd hd]; omega
    · rw [if_neg (by rintro (z | z) <;> contradiction)]
      have h3 : a % b ≠ 0 := fun z => hd (Int.dvd_of_emod_eq_zero z)
      omega
theorem gcd_step (a b : Int) : Int.gcd b (a.fmod b) = Int.gcd a b := by
  rw [fmod_def, Int.mul_comm, Int.gcd_sub_mul_right_right, Int.gcd_comm]
noncomputable def gcdL (ns : List Int) : Int := ns.foldl (fun g x => (Int.gcd g x : Int)) 0
theorem foldl_dvd (d : Int) : ∀ (ns : List Int) (g : Int), d ∣ ns.foldl (fun g x => (Int.gcd g x : Int)) g ↔ d ∣ g ∧ ∀ x ∈ ns, d ∣ x
  | [], g => by simp
  | x :: ns, g => by
    rw [List.foldl_cons, foldl_dvd d ns]
    constructor
    · rintro ⟨h1, h2⟩
      refine ⟨Int.dvd_trans h1 (Int.gcd_dvd_left g x), fun y hy => ?_⟩
      rcases List.mem_cons.mp hy with rfl | hy
      · exact Int.dvd_trans h1 (Int.gcd_dvd_right g y)
      · exact h2 y hy
    · rintro ⟨h1, h2⟩
      exact ⟨Int.dvd_coe_gcd h1 (h2 x List.mem_cons_self), fun y hy => h2 y (List.mem_cons_of_mem _ hy)⟩
theorem dvd_gcdL {d : Int} {ns : List Int} : d ∣ gcdL ns ↔ ∀ x ∈ ns, d ∣ x := by
  unfold gcdL; rw [foldl_dvd]; simp
theorem gcdL_dvd {ns : List Int} {x : Int} (h : x ∈ ns) : gcdL ns ∣ x := dvd_gcdL.mp (Int.dvd_refl _) x h
theorem foldl_nonneg : ∀ (ns : List Int) (g : Int), 0 ≤ g → 0 ≤ ns.foldl (fun g x => (Int.gcd g x : Int)) g
  | [], g, h => h
  | x :: ns, g, h => foldl_nonneg ns _ (Int.natCast_nonneg _)
theorem gcdL_nonneg (ns : List Int) : 0 ≤ gcdL ns := foldl_nonneg ns 0 (Int.le_refl 0)
theorem gcdL_unique {ns : List Int} {g : Int} (h0 : 0 ≤ g) (h1 : ∀ x ∈ ns, g ∣ x) (h2 : ∀ d : Int, (∀ x ∈ ns, d ∣ x) → d ∣ g) : gcdL ns = g :=
  Int.dvd_antisymm (gcdL_nonneg ns) h0 (h2 _ fun x hx => gcdL_dvd hx) (dvd_gcdL.mpr h1)
theorem gcdL_zero {ns : List Int} (h : gcdL ns = 0) : ∀ x ∈ ns, x = 0 := fun x hx => Int.zero_dvd.mp (h ▸ gcdL_dvd hx)
theorem gcdL_le {ns : List Int} {x : Int} (h : x ∈ ns) (h0 : x ≠ 0) : gcdL ns ≤ x.natAbs := by
  have h1 := gcdL_dvd h
  have h2 : gcdL ns ∣ (x.natAbs : Int) := Int.dvd_natAbs.mpr h1
  exact Int.le_of_dvd (by omega) h2
theorem gcdL_pos {ns : List Int} {x : Int} (h : x ∈ ns) (h0 : x ≠ 0) : 0 < gcdL ns := by
  have h1 := gcdL_nonneg ns
  have h2 : gcdL ns ≠ 0 := fun z => h0 (gcdL_zero z x h)
  omega
theorem gcdL_mul (k : Int) (ns : List Int) : gcdL (ns.map (k * ·)) = k.natAbs * gcdL ns := by
  apply Int.dvd_antisymm (gcdL_nonneg _) (Int.mul_nonneg (Int.natCast_nonneg _) (gcdL_nonneg _))
  · by_cases hk : k = 0
    · subst hk; simp
    -- k divides the left, so write it k * m
    have h1 : (k.natAbs : Int) ∣ gcdL (ns.map (k * ·)) := dvd_gcdL.mpr fun x hx => by
      obtain ⟨y, _, rfl⟩ := List.mem_map.mp hx
      exact Int.dvd_trans (Int.natAbs_dvd.mpr (Int.dvd_refl k)) (Int.dvd_mul_right k y)
    obtain ⟨m, hm⟩ := h1
    rw [hm]
    apply Int.mul_dvd_mul_left
    apply dvd_gcdL.mpr
    intro y hy
    have h2 : gcdL (ns.map (k * ·)) ∣ k * y := gcdL_dvd (List.mem_map.mpr ⟨y, hy, rfl⟩)
    rw [hm] at h2
    have h3 : k * m ∣ k * y := by
      rcases Int.natAbs_eq k with e | e
      · rw [e]; rw [← e]; rw [← e] at h2; exact h2
      · have e' : (k.natAbs : Int) = -k := by omega
        rw [e', Int.neg_mul] at h2
        exact Int.neg_dvd.mp h2
    exact Int.dvd_of_mul_dvd_mul_left hk h3
  · apply dvd_gcdL.mpr
    intro x hx
    obtain ⟨y, hy, rfl⟩ := List.mem_map.mp hx
    exact Int.mul_dvd_mul (Int.natAbs_dvd.mpr (Int.dvd_refl k)) (gcdL_dvd hy)
end Mt

set_option maxHeartbeats 4000000
namespace My
open PySem PySem.Spec PyProof.Rows L2 D3
open Mt
noncomputable def whole : D → Bool
  | .int _ => true
  | _ => false
structure Q4 where
  a : Int
  b : Int
  c : Int
  d : Int
noncomputable def qd (q : Q4) : D := .tup [.int q.a, .int q.b, .int q.c, .int q.d]
noncomputable def qmul (p q : Q4) : Q4 := ⟨p.a * q.a - p.b * q.b - p.c * q.c - p.d * q.d, p.a * q.b + p.b * q.a + p.c * q.d - p.d * q.c, p.a * q.c - p.b * q.d + p.c * q.a + p.d * q.b, p.a * q.d + p.b * q.c - p.c * q.b + p.d * q.a⟩
noncomputable def qsize (q : Q4) : Int := q.a * q.a + q.b * q.b + q.c * q.c + q.d * q.d
structure Bq (k : Nat) (q : Q4) : Prop where
  a : Bd k q.a
  b : Bd k q.b
  c : Bd k q.c
  d : Bd k q.d
theorem Bq.mono {k l : Nat} {q : Q4} (h : Bq k q) (hl : k ≤ l) : Bq l q := ⟨h.a.mono hl, h.b.mono hl, h.c.mono hl, h.d.mono hl⟩
theorem Bq.mul {k l : Nat} {p q : Q4} (h : Bq k p) (g : Bq l q) : Bq (k + l + 3) (qmul p q) := by
  have e : ∀ {x y z w : Int}, Bd (k + l) x → Bd (k + l) y → Bd (k + l) z → Bd (k + l) w → Bd (k + l + 3) (x - y - z - w) := fun hx hy hz hw => by
    have := ((hx.sub hy).sub hz).sub hw
    exact this.mono (by omega)
  have f : ∀ {x y z w : Int}, Bd (k + l) x → Bd (k + l) y → Bd (k + l) z → Bd (k + l) w → Bd (k + l + 3) (x + y + z - w) := fun hx hy hz hw => by
    have := ((hx.add hy).add hz).sub hw
    exact this.mono (by omega)
  have f2 : ∀ {x y z w : Int}, Bd (k + l) x → Bd (k + l) y → Bd (k + l) z → Bd (k + l) w → Bd (k + l + 3) (x - y + z + w) := fun hx hy hz hw => by
    have := ((hx.sub hy).add hz).add hw
    exact this.mono (by omega)
  have f3 : ∀ {x y z w : Int}, Bd (k + l) x → Bd (k + l) y → Bd (k + l) z → Bd (k + l) w → Bd (k + l + 3) (x + y - z + w) := fun hx hy hz hw => by
    have := ((hx.add hy).sub hz).add hw
    exact this.mono (by omega)
  exact ⟨e (h.a.mul g.a) (h.b.mul g.b) (h.c.mul g.c) (h.d.mul g.d), f (h.a.mul g.b) (h.b.mul g.a) (h.c.mul g.d) (h.d.mul g.c), f2 (h.a.mul g.c) (h.b.mul g.d) (h.c.mul g.a) (h.d.mul g.b), f3 (h.a.mul g.d) (h.b.mul g.c) (h.c.mul g.b) (h.d.mul g.a)⟩
structure P3 where
  x : Int
  y : Int
  z : Int
noncomputable def pt (p : P3) : D := .tup [.int p.x, .int p.y, .int p.z]
structure Bp (k : Nat) (p : P3) : Prop where
  x : Bd k p.x
  y : Bd k p.y
  z : Bd k p.z
theorem Bp.mono {k l : Nat} {q : P3} (h : Bp k q) (hl : k ≤ l) : Bp l q := ⟨h.x.mono hl, h.y.mono hl, h.z.mono hl⟩
theorem FOR_cons {g : G3} {tb : S3} {d : D} {ds : List D} {Φ : F3 → Prop} {ρ : Fr3} (h : g d ρ fun ρ1 => tb (loopS (FOR g tb ds) Φ) ρ1) : FOR g tb (d :: ds) Φ ρ := h
theorem FOR_nil {g : G3} {tb : S3} {Φ : F3 → Prop} {ρ : Fr3} (h : Φ (.nx ρ)) : FOR g tb [] Φ ρ := h
theorem cutD_map {α β : Type} (f : α → β) (xs : List α) (lo hi : Option Int) : D3.cutD (xs.map f) lo hi = (D3.cutD xs lo hi).map f := by
  unfold D3.cutD; rw [List.length_map, List.map_take, List.map_drop]
theorem cutD_len {α : Type} (xs : List α) (lo hi : Option Int) : (D3.cutD xs lo hi).length ≤ xs.length := by
  unfold D3.cutD; rw [List.length_take, List.length_drop]; omega
theorem COMP_list {α : Type} {te : E3} {ρ : Fr3} {Φ : List D → Prop} {ds : List D} (g h : α → D) (qs : List α) (e : ds = qs.map g) (hl : qs.length ≤ 1000) (hs : ∀ q ∈ qs, ∀ Ψ : D → Prop, Ψ (h q) → te (ρ.set 0 (.val (g q))) Ψ) (hΦ : Φ (qs.map h)) : COMP (gN 0) (fun _ Φ => Φ true) te ρ ds [] Φ := by
  subst e
  have : ∀ (is : List α) (acc : List D), (∀ i ∈ is, i ∈ qs) → acc.length + is.length ≤ 1000 → Φ (acc ++ is.map h) → COMP (gN 0) (fun _ Φ => Φ true) te ρ (is.map g) acc Φ := by
    intro is
    induction is with
    | nil => intro acc _ _ h; rw [List.map_nil, List.append_nil] at h; exact h
    | cons i is ih =>
      intro acc hi hl h
      refine hs i (hi i List.mem_cons_self) _ ⟨small1000 (by simp only [List.length_cons] at hl; omega), ?_⟩
      refine ih (acc ++ [_]) (fun j hj => hi j (List.mem_cons_of_mem _ hj)) (by simp only [List.length_cons, List.length_append, List.length_nil] at hl ⊢; omega) ?_
      rw [List.append_assoc, List.singleton_append]
      exact h
  exact this qs [] (fun i hi => hi) (by simpa using hl) (by simpa using hΦ)
theorem Q4.eq {p q : Q4} (ha : p.a = q.a) (hb : p.b = q.b) (hc : p.c = q.c) (hd : p.d = q.d) : p = q := by
  cases p; cases q; simp only at ha hb hc hd; subst ha hb hc hd; rfl
theorem qsize_mul (p q : Q4) : qsize (qmul p q) = qsize p * qsize q := by
  simp only [qmul, qsize]; grind
noncomputable def q1 : Q4 := ⟨1, 0, 0, 0⟩
noncomputable def qadd (p q : Q4) : Q4 := ⟨p.a + q.a, p.b + q.b, p.c + q.c, p.d + q.d⟩
theorem Bq.add {k l : Nat} {p q : Q4} (h : Bq k p) (g : Bq l q) : Bq (max k l + 1) (qadd p q) := ⟨h.a.add g.a, h.b.add g.b, h.c.add g.c, h.d.add g.d⟩
noncomputable def ql (q : Q4) : List Int := [q.a, q.b, q.c, q.d]
noncomputable def q0 : Q4 := ⟨0, 0, 0, 0⟩
noncomputable def low (q : Q4) : Bool := HT.lexLt (ql q) [0, 0, 0, 0]
noncomputable def shr (q : Q4) : Int := if low q then -gcdL (ql q) else gcdL (ql q)
noncomputable def qplain (q : Q4) : Q4 := ⟨q.a.fdiv (shr q), q.b.fdiv (shr q), q.c.fdiv (shr q), q.d.fdiv (shr q)⟩
theorem ql_zero {q : Q4} (h : gcdL (ql q) = 0) : q = q0 := by
  have h := gcdL_zero h
  have a := h q.a (by simp [ql]); have b := h q.b (by simp [ql]); have c := h q.c (by simp [ql]); have d := h q.d (by simp [ql])
  cases q; simp only at a b c d; subst a b c d; rfl
theorem gcd_bd {k : Nat} {q : Q4} (h : Bq k q) : Bd k (gcdL (ql q)) := by
  by_cases hz : gcdL (ql q) = 0
  · rw [hz]; unfold Bd; exact Nat.pow_pos (by decide)
  · have hx : ∃ x ∈ ql q, x ≠ 0 := by
      apply Classical.byContradiction
      intro hno
      apply hz
      refine gcdL_unique (by decide) (fun x hx => ?_) (fun d _ => Int.dvd_zero d)
      have : x = 0 := Classical.byContradiction fun z => hno ⟨x, hx, z⟩
      rw [this]; exact Int.dvd_refl 0
    obtain ⟨x, hx, x0⟩ := hx
    have le := gcdL_le hx x0
    have nn := gcdL_nonneg (ql q)
    have bx : Bd k x := by
      simp only [ql, List.mem_cons, List.not_mem_nil, or_false] at hx
      rcases hx with rfl | rfl | rfl | rfl
      · exact h.a
      · exact h.b
      · exact h.c
      · exact h.d
    unfold Bd at *
    omega
theorem shr_ne {q : Q4} (h : q ≠ q0) : shr q ≠ 0 := by
  have : gcdL (ql q) ≠ 0 := fun z => h (ql_zero z)
  unfold shr; split <;> omega
theorem shr_bd {k : Nat} {q : Q4} (h : Bq k q) : Bd k (shr q) := by
  unfold shr; split
  · exact (gcd_bd h).neg
  · exact gcd_bd h
noncomputable instance : DecidableEq Q4 := fun p q => if h : p.a = q.a ∧ p.b = q.b ∧ p.c = q.c ∧ p.d = q.d then .isTrue (by cases p; cases q; simp only at h; obtain ⟨h1, h2, h3, h4⟩ := h; subst h1 h2 h3 h4; rfl) else .isFalse fun e => h (by subst e; exact ⟨rfl, rfl, rfl, rfl⟩)
noncomputable def lead (q : Q4) : Int := if q.a = 0 then if q.b = 0 then if q.c = 0 then q.d else q.c else q.b else q.a
theorem low_lead (q : Q4) : low q = decide (lead q < 0) := by
  unfold low lead ql
  simp only [HT.lexLt]
  split
  · split
    · split
      · split
        · rename_i h; rw [h]; rfl
        · rfl
      · rfl
    · rfl
  · rfl
noncomputable def qsc (s : Int) (p : Q4) : Q4 := ⟨s * p.a, s * p.b, s * p.c, s * p.d⟩
theorem ql_sc (s : Int) (p : Q4) : ql (qsc s p) = (ql p).map (s * ·) := rfl
theorem qsc_sc (s t : Int) (p : Q4) : qsc s (qsc t p) = qsc (s * t) p := by simp only [qsc, Int.mul_assoc]
theorem lead_sc {s : Int} (hs : s ≠ 0) (p : Q4) : lead (qsc s p) = s * lead p := by
  unfold lead qsc
  simp only [Int.mul_eq_zero, hs, false_or]
  split
  · split
    · split <;> rfl
    · rfl
  · rfl
theorem lead_zero {q : Q4} (h : lead q = 0) : q = q0 := by
  unfold lead at h
  cases q with | mk a b c d =>
  simp only at h
  split at h
  · split at h
    · split at h
      · rename_i h1 h2 h3; subst h1 h2 h3 h; rfl
      · contradiction
    · contradiction
  · contradiction
structure IsPlain (p : Q4) : Prop where
  g : gcdL (ql p) = 1
  l : 0 < lead p
theorem IsPlain.ne {p : Q4} (h : IsPlain p) : p ≠ q0 := by
  rintro rfl; exact absurd h.l (by decide)
theorem qplain_of {s : Int} {p : Q4} (hs : s ≠ 0) (h : IsPlain p) : qplain (qsc s p) = p := by
  have e : shr (qsc s p) = s := by
    unfold shr
    rw [low_lead, lead_sc hs, ql_sc, gcdL_mul, h.g, Int.mul_one]
    rcases Int.lt_or_gt_of_ne hs with q | q
    · have : s * lead p < 0 := Int.mul_neg_of_neg_of_pos q h.l
      rw [if_pos (decide_eq_true this)]; omega
    · have : 0 < s * lead p := Int.mul_pos q h.l
      rw [if_neg (by rw [decide_eq_true_eq]; omega)]; omega
  unfold qplain
  rw [e]
  simp only [qsc, Int.mul_fdiv_cancel_left _ hs]
theorem plain_mul {q : Q4} (h : q ≠ q0) : q = qsc (shr q) (qplain q) := by
  have hd : ∀ x ∈ ql q, shr q ∣ x := fun x hx => by
    have := gcdL_dvd hx
    unfold shr; split
    · exact Int.neg_dvd.mpr this
    · exact this
  have e : ∀ x ∈ ql q, shr q * x.fdiv (shr q) = x := fun x hx => Int.mul_fdiv_cancel' (hd x hx)
  have a := e q.a (by simp [ql]); have b := e q.b (by simp [ql]); have c := e q.c (by simp [ql]); have d := e q.d (by simp [ql])
  unfold qplain qsc
  cases q
  simp only at a b c d ⊢
  rw [a, b, c, d]
theorem shr_abs (q : Q4) : ((shr q).natAbs : Int) = gcdL (ql q) := by
  have := gcdL_nonneg (ql q)
  unfold shr; split <;> omega
theorem isPlain {q : Q4} (h : q ≠ q0) : IsPlain (qplain q) := by
  have e := plain_mul h
  have hs := shr_ne h
  constructor
  · have g := shr_abs q
    have : gcdL (ql q) = (shr q).natAbs * gcdL (ql (qplain q)) := by
      have e2 : gcdL (ql q) = gcdL (ql (qsc (shr q) (qplain q))) := by rw [← e]
      rw [e2, ql_sc, gcdL_mul]
    rw [← g] at this
    have h0 : ((shr q).natAbs : Int) ≠ 0 := by omega
    have h1 : ((shr q).natAbs : Int) * 1 = (shr q).natAbs * gcdL (ql (qplain q)) := by rw [Int.mul_one]; exact this
    exact (Int.eq_of_mul_eq_mul_left h0 h1).symm
  · have l : lead q = shr q * lead (qplain q) := by
      have e2 : lead q = lead (qsc (shr q) (qplain q)) := by rw [← e]
      rw [e2, lead_sc hs]
    have g := gcdL_nonneg (ql q)
    have l0 : lead q ≠ 0 := fun z => h (lead_zero z)
    have lp0 : lead (qplain q) ≠ 0 := fun z => l0 (by rw [l, z, Int.mul_zero])
    rcases Int.lt_or_gt_of_ne lp0 with z | z
    · exfalso
      by_cases hl : lead q < 0
      · have es : shr q = -gcdL (ql q) := by unfold shr; rw [low_lead, if_pos (decide_eq_true hl)]
        have : 0 ≤ shr q * lead (qplain q) := Int.mul_nonneg_of_nonpos_of_nonpos (by omega) (by omega)
        omega
      · have es : shr q = gcdL (ql q) := by unfold shr; rw [low_lead, if_neg (by rw [decide_eq_true_eq]; exact hl)]
        have : shr q * lead (qplain q) ≤ 0 := Int.mul_nonpos_of_nonneg_of_nonpos (by omega) (by omega)
        omega
    · exact z
theorem qplain_sc {s : Int} {q : Q4} (hs : s ≠ 0) (h : q ≠ q0) : qplain (qsc s q) = qplain q := by
  rw [plain_mul h, qsc_sc, qplain_of (Int.mul_ne_zero hs (shr_ne h)) (isPlain h), qplain_of (shr_ne h) (isPlain h)]
theorem bd_le {k : Nat} {x y : Int} (h : Bd k x) (le : y.natAbs ≤ x.natAbs) : Bd k y := Nat.lt_of_le_of_lt le h
theorem plain_bd {k : Nat} {q : Q4} (h : Bq k q) (h0 : q ≠ q0) : Bq k (qplain q) := by
  have e := plain_mul h0
  have hs := shr_ne h0
  have le : ∀ x y : Int, x = shr q * y → y.natAbs ≤ x.natAbs := fun x y z => by
    rw [z, Int.natAbs_mul]
    exact Nat.le_mul_of_pos_left _ (by omega)
  generalize qplain q = p at *
  generalize shr q = s at *
  subst e
  exact ⟨bd_le h.a (le _ _ rfl), bd_le h.b (le _ _ rfl), bd_le h.c (le _ _ rfl), bd_le h.d (le _ _ rfl)⟩
structure Sm (i : Nat) (m : Int) (a b c d : Int) : Prop where
  a : (a.natAbs : Int) ≤ i * m
  b : (b.natAbs : Int) ≤ i * m
  c : (c.natAbs : Int) ≤ i * m
  d : (d.natAbs : Int) ≤ i * m
theorem le_up {i : Nat} {m x : Int} (hm : 0 ≤ m) (h : (x.natAbs : Int) ≤ i * m) : (x.natAbs : Int) ≤ ((i + 1 : Nat) : Int) * m := by
  have e : ((i + 1 : Nat) : Int) * m = i * m + m := by push_cast; grind
  omega
theorem le_add {i : Nat} {m x z : Int} (h1 : -m ≤ z) (h2 : z ≤ m) (h : (x.natAbs : Int) ≤ i * m) : ((x + z).natAbs : Int) ≤ ((i + 1 : Nat) : Int) * m := by
  have e : ((i + 1 : Nat) : Int) * m = i * m + m := by push_cast; grind
  omega
theorem bd_sum {i : Nat} {m x : Int} (hi : i ≤ 100) (hm0 : 0 ≤ m) (hm : m ≤ 10 ^ 30) (h : (x.natAbs : Int) ≤ i * m) : Bd 107 x := by
  have h1 : (i : Int) * m ≤ 100 * 10 ^ 30 := Int.mul_le_mul (by omega) hm hm0 (by decide)
  exact bd_of (100 * 10 ^ 30) (by omega) (by decide)
theorem mod4 (i : Nat) : (0 + (i : Int)).fmod 4 = 0 ∨ (0 + (i : Int)).fmod 4 = 1 ∨ (0 + (i : Int)).fmod 4 = 2 ∨ (0 + (i : Int)).fmod 4 = 3 := by
  rw [fmod_pos (by decide)]; omega
theorem ups_at {n : Nat} {pre post : List D} {d : D} (h : pre ++ d :: post = ups 0 n) : d = .int (0 + (pre.length : Nat)) ∧ pre.length < n := by
  have hlen : pre.length < (ups 0 n).length := by rw [← h]; simp
  rw [ups_length] at hlen
  have e1 : (ups 0 n)[pre.length]? = some d := by rw [← h]; simp
  simp only [ups, List.getElem?_map, List.getElem?_range hlen] at e1
  exact ⟨(Option.some.inj e1).symm, hlen⟩
structure T9 where
  p : P3
  q : P3
  r : P3
  n : Int
noncomputable def tl (t : T9) : List Int := [t.p.x, t.p.y, t.p.z, t.q.x, t.q.y, t.q.z, t.r.x, t.r.y, t.r.z, t.n]
noncomputable def tr (t : T9) : D := .tup [pt t.p, pt t.q, pt t.r]
noncomputable def tb (t : T9) : D := .tup [tr t, .int t.n]
structure Bt (k : Nat) (t : T9) : Prop where
  p : Bp k t.p
  q : Bp k t.q
  r : Bp k t.r
  n : Bd k t.n
theorem Bt.mono {k l : Nat} {t : T9} (h : Bt k t) (hl : k ≤ l) : Bt l t := ⟨h.p.mono hl, h.q.mono hl, h.r.mono hl, h.n.mono hl⟩
theorem Bt.mem {k : Nat} {t : T9} (h : Bt k t) : ∀ x ∈ tl t, Bd k x := by
  intro x hx
  simp only [tl, List.mem_cons, List.not_mem_nil, or_false] at hx
  rcases hx with rfl | rfl | rfl | rfl | rfl | rfl | rfl | rfl | rfl | rfl
  · exact h.p.x
  · exact h.p.y
  · exact h.p.z
  · exact h.q.x
  · exact h.q.y
  · exact h.q.z
  · exact h.r.x
  · exact h.r.y
  · exact h.r.z
  · exact h.n
noncomputable def rawT (q : Q4) : T9 := ⟨⟨q.a * q.a + q.b * q.b - q.c * q.c - q.d * q.d, 2 * (q.b * q.c - q.a * q.d), 2 * (q.b * q.d + q.a * q.c)⟩,
  ⟨2 * (q.b * q.c + q.a * q.d), q.a * q.a - q.b * q.b + q.c * q.c - q.d * q.d, 2 * (q.c * q.d - q.a * q.b)⟩,
  ⟨2 * (q.b * q.d - q.a * q.c), 2 * (q.c * q.d + q.a * q.b), q.a * q.a - q.b * q.b - q.c * q.c + q.d * q.d⟩, q.a * q.a + q.b * q.b + q.c * q.c + q.d * q.d⟩
noncomputable def p3div (p : P3) (g : Int) : P3 := ⟨p.x.fdiv g, p.y.fdiv g, p.z.fdiv g⟩
noncomputable def divT (t : T9) (g : Int) : T9 := ⟨p3div t.p g, p3div t.q g, p3div t.r g, t.n.fdiv g⟩
noncomputable def lowT (t : T9) : T9 := divT t (gcdL (tl t))
noncomputable def turnT (q : Q4) : T9 := lowT (rawT q)
theorem bd_two {k : Nat} {x : Int} (h : Bd k x) : Bd (k + 2) (2 * x) := by
  have := (show Bd 2 (2 : Int) from bd_lit (by decide)).mul h
  exact this.mono (by omega)
theorem bd_pm {k : Nat} {x y z w : Int} (hx : Bd k x) (hy : Bd k y) (hz : Bd k z) (hw : Bd k w) : Bd (k + 3) (x + y - z - w) ∧ Bd (k + 3) (x - y + z - w) ∧ Bd (k + 3) (x - y - z + w) ∧ Bd (k + 3) (x + y + z + w) :=
  ⟨(((hx.add hy).sub hz).sub hw).mono (by omega), (((hx.sub hy).add hz).sub hw).mono (by omega), (((hx.sub hy).sub hz).add hw).mono (by omega), (((hx.add hy).add hz).add hw).mono (by omega)⟩
theorem rawT_bd {k : Nat} {q : Q4} (h : Bq k q) : Bt (2 * k + 3) (rawT q) := by
  have s : ∀ {x y : Int}, Bd k x → Bd k y → Bd (2 * k) (x * y) := fun hx hy => (hx.mul hy).mono (by omega)
  obtain ⟨p1, p2, p3, p4⟩ := bd_pm (s h.a h.a) (s h.b h.b) (s h.c h.c) (s h.d h.d)
  have d : ∀ {x y : Int}, Bd (2 * k) x → Bd (2 * k) y → Bd (2 * k + 3) (2 * (x - y)) ∧ Bd (2 * k + 3) (2 * (x + y)) := fun hx hy =>
    ⟨(bd_two (hx.sub hy)).mono (by omega), (bd_two (hx.add hy)).mono (by omega)⟩
  exact ⟨⟨p1, (d (s h.b h.c) (s h.a h.d)).1, (d (s h.b h.d) (s h.a h.c)).2⟩, ⟨(d (s h.b h.c) (s h.a h.d)).2, p2, (d (s h.c h.d) (s h.a h.b)).1⟩, ⟨(d (s h.b h.d) (s h.a h.c)).1, (d (s h.c h.d) (s h.a h.b)).2, p3⟩, p4⟩
theorem sq_nn (x : Int) : 0 ≤ x * x := by
  rcases Int.le_total 0 x with h | h
  · exact Int.mul_nonneg h h
  · exact Int.mul_nonneg_of_nonpos_of_nonpos h h
theorem qsize_nn (q : Q4) : 0 ≤ qsize q := by
  have := sq_nn q.a; have := sq_nn q.b; have := sq_nn q.c; have := sq_nn q.d
  unfold qsize; omega
theorem sq_zero {x : Int} (h : x * x = 0) : x = 0 := by
  rcases Int.mul_eq_zero.mp h with z | z <;> exact z
theorem qsize_zero {q : Q4} (h : qsize q = 0) : q = q0 := by
  have a := sq_nn q.a; have b := sq_nn q.b; have c := sq_nn q.c; have d := sq_nn q.d
  unfold qsize at h
  have a0 := sq_zero (show q.a * q.a = 0 by omega); have b0 := sq_zero (show q.b * q.b = 0 by omega)
  have c0 := sq_zero (show q.c * q.c = 0 by omega); have d0 := sq_zero (show q.d * q.d = 0 by omega)
  cases q; simp only at a0 b0 c0 d0; subst a0 b0 c0 d0; rfl
theorem qsize_pos {q : Q4} (h : q ≠ q0) : 0 < qsize q := by
  have := qsize_nn q
  have : qsize q ≠ 0 := fun z => h (qsize_zero z)
  omega
theorem rawT_n (q : Q4) : (rawT q).n = qsize q := rfl
theorem gcdL_tl {k : Nat} {t : T9} (h0 : t.n ≠ 0) (h : Bt k t) : 0 < gcdL (tl t) ∧ Bd k (gcdL (tl t)) := by
  have hm : t.n ∈ tl t := by simp [tl]
  have p := gcdL_pos hm h0
  refine ⟨p, ?_⟩
  have le := gcdL_le hm h0
  have b := h.n
  unfold Bd at *
  omega
theorem div_le {g x : Int} (hg : 0 < g) (h : g ∣ x) : (x.fdiv g).natAbs ≤ x.natAbs := by
  have e : g * x.fdiv g = x := Int.mul_fdiv_cancel' h
  have : x.natAbs = g.natAbs * (x.fdiv g).natAbs := by rw [← Int.natAbs_mul, e]
  rw [this]
  exact Nat.le_mul_of_pos_left _ (by omega)
theorem map_div {ms : List Int} (h : ∀ x ∈ ms, gcdL ms ∣ x) : (ms.map (·.fdiv (gcdL ms))).map (gcdL ms * ·) = ms := by
  rw [List.map_map]
  conv => rhs; rw [← List.map_id ms]
  exact List.map_congr_left fun x hx => Int.mul_fdiv_cancel' (h x hx)
theorem gcdL_low {ms : List Int} (h0 : gcdL ms ≠ 0) : gcdL (ms.map (·.fdiv (gcdL ms))) = 1 := by
  have e := gcdL_mul (gcdL ms) (ms.map (·.fdiv (gcdL ms)))
  rw [map_div fun x hx => gcdL_dvd hx, Int.natAbs_of_nonneg (gcdL_nonneg ms)] at e
  have e2 : gcdL ms * 1 = gcdL ms * gcdL (ms.map (·.fdiv (gcdL ms))) := by rw [Int.mul_one]; exact e
  exact (Int.eq_of_mul_eq_mul_left h0 e2).symm
structure LowT (t : T9) : Prop where
  g : 0 < gcdL (tl t)
  n : 0 < (lowT t).n
  one : gcdL (tl (lowT t)) = 1
  px : gcdL (tl t) * (lowT t).p.x = t.p.x
  py : gcdL (tl t) * (lowT t).p.y = t.p.y
  pz : gcdL (tl t) * (lowT t).p.z = t.p.z
  qx : gcdL (tl t) * (lowT t).q.x = t.q.x
  qy : gcdL (tl t) * (lowT t).q.y = t.q.y
  qz : gcdL (tl t) * (lowT t).q.z = t.q.z
  rx : gcdL (tl t) * (lowT t).r.x = t.r.x
  ry : gcdL (tl t) * (lowT t).r.y = t.r.y
  rz : gcdL (tl t) * (lowT t).r.z = t.r.z
  nn : gcdL (tl t) * (lowT t).n = t.n
theorem lowT_of {t : T9} (h : 0 < t.n) : LowT t := by
  have hm : t.n ∈ tl t := by simp [tl]
  have g := gcdL_pos hm (by omega)
  have e : ∀ x ∈ tl t, gcdL (tl t) * x.fdiv (gcdL (tl t)) = x := fun x hx => Int.mul_fdiv_cancel' (gcdL_dvd hx)
  have en := e t.n hm
  refine ⟨g, ?_, (show gcdL ((tl t).map (·.fdiv (gcdL (tl t)))) = 1 from gcdL_low (by omega)), e _ (by simp [tl]), e _ (by simp [tl]), e _ (by simp [tl]), e _ (by simp [tl]), e _ (by simp [tl]), e _ (by simp [tl]), e _ (by simp [tl]), e _ (by simp [tl]), e _ (by simp [tl]), en⟩
  have : (lowT t).n = t.n.fdiv (gcdL (tl t)) := rfl
  rw [this]
  rcases Int.lt_or_le 0 (t.n.fdiv (gcdL (tl t))) with z | z
  · exact z
  · have := Int.mul_nonpos_of_nonneg_of_nonpos (Int.le_of_lt g) z
    omega
theorem lowT_bd {k : Nat} {t : T9} (h : 0 < t.n) (bt : Bt k t) : Bt k (lowT t) := by
  have l := lowT_of h
  have b : ∀ x ∈ tl t, Bd k (x.fdiv (gcdL (tl t))) := fun x hx => bd_le (bt.mem x hx) (div_le l.g (gcdL_dvd hx))
  exact ⟨⟨b _ (by simp [tl]), b _ (by simp [tl]), b _ (by simp [tl])⟩, ⟨b _ (by simp [tl]), b _ (by simp [tl]), b _ (by simp [tl])⟩, ⟨b _ (by simp [tl]), b _ (by simp [tl]), b _ (by simp [tl])⟩, b _ (by simp [tl])⟩
theorem rawT_pos {q : Q4} (h : q ≠ q0) : 0 < (rawT q).n := by rw [rawT_n]; exact qsize_pos h
theorem turnT_bd {k : Nat} {q : Q4} (h : q ≠ q0) (b : Bq k q) : Bt (2 * k + 3) (turnT q) := lowT_bd (rawT_pos h) (rawT_bd b)
noncomputable def dot (p q : P3) : Int := p.x * q.x + p.y * q.y + p.z * q.z
theorem pick_map {α β : Type} (f : α → β) (xs : List α) : ∀ is : List Nat, is.filterMap ((xs.map f)[·]?) = (is.filterMap (xs[·]?)).map f
  | [] => rfl
  | i :: is => by
    rw [List.filterMap_cons, List.filterMap_cons, pick_map f xs is, List.getElem?_map]
    cases xs[i]? <;> rfl
noncomputable def det (p q r : P3) : Int := p.x * (q.y * r.z - q.z * r.y) - p.y * (q.x * r.z - q.z * r.x) + p.z * (q.x * r.y - q.y * r.x)
structure IsTurn (t : T9) : Prop where
  n : 1 ≤ t.n
  g : gcdL (tl t) = 1
  pp : dot t.p t.p = t.n * t.n
  pq : dot t.p t.q = 0
  pr : dot t.p t.r = 0
  qp : dot t.q t.p = 0
  qq : dot t.q t.q = t.n * t.n
  qr : dot t.q t.r = 0
  rp : dot t.r t.p = 0
  rq : dot t.r t.q = 0
  rr : dot t.r t.r = t.n * t.n
  d : det t.p t.q t.r = t.n * t.n * t.n
theorem dot_sc (g : Int) (p q p' q' : P3) (h1 : g * p'.x = p.x) (h2 : g * p'.y = p.y) (h3 : g * p'.z = p.z) (h4 : g * q'.x = q.x) (h5 : g * q'.y = q.y) (h6 : g * q'.z = q.z) : dot p q = g * g * dot p' q' := by
  unfold dot; rw [← h1, ← h2, ← h3, ← h4, ← h5, ← h6]; grind
theorem cancel2 {g x y : Int} (hg : 0 < g) (h : g * g * x = g * g * y) : x = y := Int.eq_of_mul_eq_mul_left (Int.ne_of_gt (Int.mul_pos hg hg)) h
theorem turnT_is {q : Q4} (h0 : q ≠ q0) : IsTurn (turnT q) := by
  have l := lowT_of (rawT_pos h0)
  obtain ⟨hg, hn, one, px, py, pz, qx, qy, qz, rx, ry, rz, nn⟩ := l
  have en : turnT q = lowT (rawT q) := rfl
  rw [en]
  generalize gcdL (tl (rawT q)) = g at *
  generalize lowT (rawT q) = t at *
  have N : g * t.n = qsize q := nn
  have z : ∀ {p' q' : P3} {p q : P3}, dot p q = g * g * dot p' q' → dot p q = 0 → dot p' q' = 0 := fun h1 h2 => by
    rw [h2] at h1
    exact (cancel2 hg (by rw [← h1, Int.mul_zero])).symm
  have s : ∀ {p' : P3} {p : P3}, dot p p = g * g * dot p' p' → dot p p = qsize q * qsize q → dot p' p' = t.n * t.n := fun h1 h2 => by
    rw [h2, ← N] at h1
    exact (cancel2 hg (by rw [← h1]; grind)).symm
  have D := @dot_sc g
  refine ⟨hn, one, s (D _ _ _ _ px py pz px py pz) ?_, z (D _ _ _ _ px py pz qx qy qz) ?_, z (D _ _ _ _ px py pz rx ry rz) ?_, z (D _ _ _ _ qx qy qz px py pz) ?_, s (D _ _ _ _ qx qy qz qx qy qz) ?_, z (D _ _ _ _ qx qy qz rx ry rz) ?_, z (D _ _ _ _ rx ry rz px py pz) ?_, z (D _ _ _ _ rx ry rz qx qy qz) ?_, s (D _ _ _ _ rx ry rz rx ry rz) ?_, ?_⟩
  · simp only [dot, rawT, qsize]; grind
  · simp only [dot, rawT, qsize]; grind
  · simp only [dot, rawT, qsize]; grind
  · simp only [dot, rawT, qsize]; grind
  · simp only [dot, rawT, qsize]; grind
  · simp only [dot, rawT, qsize]; grind
  · simp only [dot, rawT, qsize]; grind
  · simp only [dot, rawT, qsize]; grind
  · simp only [dot, rawT, qsize]; grind
  · have dr : det (rawT q).p (rawT q).q (rawT q).r = qsize q * qsize q * qsize q := by simp only [det, rawT, qsize]; grind
    have d2 : det (rawT q).p (rawT q).q (rawT q).r = g * g * (g * det t.p t.q t.r) := by
      unfold det; rw [← px, ← py, ← pz, ← qx, ← qy, ← qz, ← rx, ← ry, ← rz]; grind
    rw [d2, ← N] at dr
    have e1 : g * det t.p t.q t.r = g * (t.n * t.n * t.n) := cancel2 hg (by rw [dr]; grind)
    exact Int.eq_of_mul_eq_mul_left (Int.ne_of_gt hg) e1
noncomputable def tsc (s : Int) (t : T9) : T9 := ⟨⟨s * t.p.x, s * t.p.y, s * t.p.z⟩, ⟨s * t.q.x, s * t.q.y, s * t.q.z⟩, ⟨s * t.r.x, s * t.r.y, s * t.r.z⟩, s * t.n⟩
theorem tl_sc (s : Int) (t : T9) : tl (tsc s t) = (tl t).map (s * ·) := rfl
theorem rawT_sc (s : Int) (q : Q4) : rawT (qsc s q) = tsc (s * s) (rawT q) := by
  simp only [rawT, qsc, tsc, T9.mk.injEq, P3.mk.injEq]
  refine ⟨⟨?_, ?_, ?_⟩, ⟨?_, ?_, ?_⟩, ⟨?_, ?_, ?_⟩, ?_⟩ <;> grind
theorem T9.eq {t u : T9} (hp : t.p = u.p) (hq : t.q = u.q) (hr : t.r = u.r) (hn : t.n = u.n) : t = u := by
  cases t; cases u; simp only at hp hq hr hn; subst hp hq hr hn; rfl
theorem lowT_sc {s : Int} (hs : 0 < s) (t : T9) (ht : 0 < gcdL (tl t)) : lowT (tsc s t) = lowT t := by
  have g : gcdL (tl (tsc s t)) = s * gcdL (tl t) := by rw [tl_sc, gcdL_mul, Int.natAbs_of_nonneg (Int.le_of_lt hs)]
  have e : ∀ x : Int, (s * x).fdiv (s * gcdL (tl t)) = x.fdiv (gcdL (tl t)) := fun x => by
    rw [Int.mul_fdiv_mul_of_pos _ _ hs]
  unfold lowT divT p3div
  rw [g]
  simp only [tsc, e]
theorem turnT_sc {s : Int} {q : Q4} (hs : s ≠ 0) (h0 : q ≠ q0) : turnT (qsc s q) = turnT q := by
  have : 0 < s * s := by
    have := sq_nn s
    have : s * s ≠ 0 := fun z => hs (sq_zero z)
    omega
  unfold turnT
  rw [rawT_sc, lowT_sc this _ (lowT_of (rawT_pos h0)).g]
theorem qsc_ne {s : Int} {q : Q4} (hs : s ≠ 0) (h0 : q ≠ q0) : qsc s q ≠ q0 := fun z => h0 (lead_zero (by
  have := lead_sc hs q
  rw [z] at this
  have l0 : lead q0 = 0 := rfl
  rw [l0] at this
  rcases Int.mul_eq_zero.mp this.symm with w | w
  · exact absurd w hs
  · exact w))
noncomputable def rowAt (t : T9) : Nat → P3
  | 0 => t.p
  | 1 => t.q
  | _ => t.r
noncomputable def Ortho (t : T9) (i j : Nat) : Prop := dot (rowAt t i) (rowAt t j) = t.n * t.n * (if i = j then 1 else 0)
theorem isTurn_of {t : T9} (n : 1 ≤ t.n) (g : gcdL (tl t) = 1) (o : ∀ i, i < 3 → ∀ j, j < 3 → Ortho t i j) (d : det t.p t.q t.r = t.n * t.n * t.n) : IsTurn t := by
  have o' : ∀ i j, i < 3 → j < 3 → dot (rowAt t i) (rowAt t j) = t.n * t.n * (if i = j then 1 else 0) := fun i j h1 h2 => o i h1 j h2
  have s : ∀ i, i < 3 → dot (rowAt t i) (rowAt t i) = t.n * t.n := fun i h => by have := o' i i h h; rwa [if_pos rfl, Int.mul_one] at this
  have z : ∀ i j, i < 3 → j < 3 → i ≠ j → dot (rowAt t i) (rowAt t j) = 0 := fun i j h1 h2 h3 => by have := o' i j h1 h2; rwa [if_neg h3, Int.mul_zero] at this
  exact ⟨n, g, s 0 (by decide), z 0 1 (by decide) (by decide) (by decide), z 0 2 (by decide) (by decide) (by decide), z 1 0 (by decide) (by decide) (by decide), s 1 (by decide), z 1 2 (by decide) (by decide) (by decide), z 2 0 (by decide) (by decide) (by decide), z 2 1 (by decide) (by decide) (by decide), s 2 (by decide), d⟩
theorem IsTurn.o {t : T9} (h : IsTurn t) : ∀ i, i < 3 → ∀ j, j < 3 → Ortho t i j := by
  intro i hi j hj
  have e1 : i = 0 ∨ i = 1 ∨ i = 2 := by omega
  have e2 : j = 0 ∨ j = 1 ∨ j = 2 := by omega
  rcases e1 with rfl | rfl | rfl <;> rcases e2 with rfl | rfl | rfl <;> simp only [Ortho, rowAt] <;> simp
  · exact h.pp
  · exact h.pq
  · exact h.pr
  · exact h.qp
  · exact h.qq
  · exact h.qr
  · exact h.rp
  · exact h.rq
  · exact h.rr
theorem row_atI (t : T9) {i : Nat} (h : i < 3) : atI [pt t.p, pt t.q, pt t.r] (0 + (i : Int)) = some (pt (rowAt t i)) := by
  have : i = 0 ∨ i = 1 ∨ i = 2 := by omega
  rcases this with rfl | rfl | rfl <;> rfl
theorem rowAt_bd {k : Nat} {t : T9} (h : Bt k t) (i : Nat) : Bp k (rowAt t i) := by
  match i with
  | 0 => exact h.p
  | 1 => exact h.q
  | _ + 2 => exact h.r
theorem sq_form (x : Int) : (∃ k, x = 2 * k ∧ x * x = 4 * (k * k)) ∨ (∃ m, x * x = 8 * m + 1 ∧ x % 2 = 1) := by
  rcases Int.emod_two_eq x with h | h
  · left
    have e : x = 2 * (x / 2) := by omega
    generalize x / 2 = k at e
    subst e
    exact ⟨k, rfl, by grind⟩
  · right
    have e : x = 2 * (x / 2) + 1 := by omega
    generalize x / 2 = k at e
    subst e
    rcases Int.emod_two_eq k with h2 | h2
    · have e : k = 2 * (k / 2) := by omega
      generalize k / 2 = i at e
      subst e
      exact ⟨2 * (i * i) + i, by grind, h⟩
    · have e : k = 2 * (k / 2) + 1 := by omega
      generalize k / 2 = i at e
      subst e
      exact ⟨2 * (i * i) + 3 * i + 1, by grind, h⟩
theorem prod_odd {x y : Int} (hx : x % 2 = 1) (hy : y % 2 = 1) : (x * y) % 2 = 1 := by
  rw [Int.mul_emod, hx, hy]; rfl
theorem dvd_eq {h x y : Int} (e : x = y) (d : h ∣ x) : h ∣ y := e ▸ d
theorem raw_four {q : Q4} (g1 : gcdL (ql q) = 1) : gcdL (tl (rawT q)) ∣ 4 := by
  have dv : ∀ x ∈ tl (rawT q), gcdL (tl (rawT q)) ∣ x := fun x hx => gcdL_dvd hx
  generalize gcdL (tl (rawT q)) = h at *
  have e1 := dv _ (show (rawT q).p.x ∈ _ by simp [tl]); have e2 := dv _ (show (rawT q).p.y ∈ _ by simp [tl]); have e3 := dv _ (show (rawT q).p.z ∈ _ by simp [tl])
  have e4 := dv _ (show (rawT q).q.x ∈ _ by simp [tl]); have e5 := dv _ (show (rawT q).q.y ∈ _ by simp [tl]); have e6 := dv _ (show (rawT q).q.z ∈ _ by simp [tl])
  have e7 := dv _ (show (rawT q).r.x ∈ _ by simp [tl]); have e8 := dv _ (show (rawT q).r.y ∈ _ by simp [tl]); have e9 := dv _ (show (rawT q).r.z ∈ _ by simp [tl])
  have e0 := dv _ (show (rawT q).n ∈ _ by simp [tl])
  -- h divides 4 x y for each two of the four
  have aa : h ∣ 4 * q.a * q.a := dvd_eq (by simp only [rawT, Int.mul_assoc]; simp +arith only) (Int.dvd_add (Int.dvd_add (Int.dvd_add e0 e1) e5) e9)
  have bb : h ∣ 4 * q.b * q.b := dvd_eq (by simp only [rawT, Int.mul_assoc]; simp +arith only) (Int.dvd_sub (Int.dvd_sub (Int.dvd_add e0 e1) e5) e9)
  have cc : h ∣ 4 * q.c * q.c := dvd_eq (by simp only [rawT, Int.mul_assoc]; simp +arith only) (Int.dvd_sub (Int.dvd_add (Int.dvd_sub e0 e1) e5) e9)
  have dd : h ∣ 4 * q.d * q.d := dvd_eq (by simp only [rawT, Int.mul_assoc]; simp +arith only) (Int.dvd_add (Int.dvd_sub (Int.dvd_sub e0 e1) e5) e9)
  have ab : h ∣ 4 * q.a * q.b := dvd_eq (by simp only [rawT, Int.mul_assoc]; simp +arith only) (Int.dvd_sub e8 e6)
  have ac : h ∣ 4 * q.a * q.c := dvd_eq (by simp only [rawT, Int.mul_assoc]; simp +arith only) (Int.dvd_sub e3 e7)
  have ad : h ∣ 4 * q.a * q.d := dvd_eq (by simp only [rawT, Int.mul_assoc]; simp +arith only) (Int.dvd_sub e4 e2)
  have bc : h ∣ 4 * q.b * q.c := dvd_eq (by simp only [rawT, Int.mul_assoc]; simp +arith only) (Int.dvd_add e4 e2)
  have bd : h ∣ 4 * q.b * q.d := dvd_eq (by simp only [rawT, Int.mul_assoc]; simp +arith only) (Int.dvd_add e3 e7)
  have cd : h ∣ 4 * q.c * q.d := dvd_eq (by simp only [rawT, Int.mul_assoc]; simp +arith only) (Int.dvd_add e8 e6)
  have one : ∀ x : Int, h ∣ x * q.a → h ∣ x * q.b → h ∣ x * q.c → h ∣ x * q.d → h ∣ x := fun x h1 h2 h3 h4 => by
    have : h ∣ gcdL ((ql q).map (x * ·)) := dvd_gcdL.mpr fun y hy => by
      simp only [ql, List.map_cons, List.map_nil, List.mem_cons, List.not_mem_nil, or_false] at hy
      rcases hy with rfl | rfl | rfl | rfl <;> assumption
    rw [gcdL_mul, g1, Int.mul_one] at this
    exact Int.dvd_natAbs.mp this
  have sw : ∀ {x y : Int}, h ∣ 4 * x * y → h ∣ 4 * y * x := fun {x y} hh => by
    have : 4 * y * x = 4 * x * y := by grind
    rw [this]; exact hh
  have fa := one (4 * q.a) aa ab ac ad
  have fb := one (4 * q.b) (sw ab) bb bc bd
  have fc := one (4 * q.c) (sw ac) (sw bc) cc cd
  have fd := one (4 * q.d) (sw ad) (sw bd) (sw cd) dd
  exact one 4 fa fb fc fd
theorem sq4 (x : Int) : (x * x) % 4 = x % 2 := by
  rcases sq_form x with ⟨k, e, f⟩ | ⟨m, f, e⟩
  · rw [f, e]; omega
  · rw [f, e]; omega
theorem sq8 {x : Int} (h : x % 2 = 1) : (x * x) % 8 = 1 := by
  rcases sq_form x with ⟨k, e, f⟩ | ⟨m, f, e⟩
  · omega
  · rw [f]; omega
theorem four_odd {A B C D a b c d : Int} (ha : A % 4 = a % 2) (hb : B % 4 = b % 2) (hc : C % 4 = c % 2) (hd : D % 4 = d % 2) (h : (A + B + C + D) % 4 = 0) (ne : ¬ (a % 2 = 0 ∧ b % 2 = 0 ∧ c % 2 = 0 ∧ d % 2 = 0)) : a % 2 = 1 ∧ b % 2 = 1 ∧ c % 2 = 1 ∧ d % 2 = 1 := by
  rw [Int.add_emod, Int.add_emod (A + B), Int.add_emod A, ha, hb, hc, hd] at h
  rcases Int.emod_two_eq a with x | x <;> rcases Int.emod_two_eq b with y | y <;> rcases Int.emod_two_eq c with z | z <;> rcases Int.emod_two_eq d with w | w <;> rw [x, y, z, w] at h <;> first | exact ⟨x, y, z, w⟩ | exact absurd h (by decide) | exact absurd (And.intro x (And.intro y (And.intro z w))) ne
theorem eight4 {A B C D : Int} (a : A % 8 = 1) (b : B % 8 = 1) (c : C % 8 = 1) (d : D % 8 = 1) : (A + B + C + D) % 8 = 4 := by omega
theorem pm2 {A B C D : Int} (e : (A + B + C + D) % 2 = 0) : (2 ∣ A + B - C - D) ∧ (2 ∣ A - B + C - D) ∧ 2 ∣ A - B - C + D := by omega
theorem m41 {A : Int} (a : A % 4 = 1) : ∃ k, A = 4 * k + 1 := ⟨A / 4, by rw [← a]; exact (Int.mul_ediv_add_emod A 4).symm⟩
theorem pm4 {A B C D : Int} (a : A % 4 = 1) (b : B % 4 = 1) (c : C % 4 = 1) (d : D % 4 = 1) : (4 ∣ A + B - C - D) ∧ (4 ∣ A - B + C - D) ∧ (4 ∣ A - B - C + D) ∧ 4 ∣ A + B + C + D := by
  obtain ⟨i, ei⟩ := m41 a
  obtain ⟨j, ej⟩ := m41 b
  obtain ⟨k, ek⟩ := m41 c
  obtain ⟨l, el⟩ := m41 d
  rw [ei, ej, ek, el]
  exact ⟨⟨i + j - k - l, by simp +arith only⟩, ⟨i - j + k - l, by simp +arith only⟩, ⟨i - j - k + l, by simp +arith only⟩, ⟨i + j + k + l + 1, by simp +arith only⟩⟩
theorem dd4 {x y : Int} (hx : x % 2 = 1) (hy : y % 2 = 1) : (4 ∣ 2 * (x - y)) ∧ 4 ∣ 2 * (x + y) := by omega
theorem tl_all {d : Int} {t : T9} (h1 : d ∣ t.p.x) (h2 : d ∣ t.p.y) (h3 : d ∣ t.p.z) (h4 : d ∣ t.q.x) (h5 : d ∣ t.q.y) (h6 : d ∣ t.q.z) (h7 : d ∣ t.r.x) (h8 : d ∣ t.r.y) (h9 : d ∣ t.r.z) (h0 : d ∣ t.n) : d ∣ gcdL (tl t) := dvd_gcdL.mpr fun x hm => by
  simp only [tl, List.mem_cons, List.not_mem_nil, or_false] at hm
  rcases hm with rfl | rfl | rfl | rfl | rfl | rfl | rfl | rfl | rfl | rfl <;> assumption
theorem even_no {q : Q4} (g1 : gcdL (ql q) = 1) : ¬ (q.a % 2 = 0 ∧ q.b % 2 = 0 ∧ q.c % 2 = 0 ∧ q.d % 2 = 0) := by
  rintro ⟨a, b, c, d⟩
  have : (2 : Int) ∣ gcdL (ql q) := dvd_gcdL.mpr fun x hx => by
    simp only [ql, List.mem_cons, List.not_mem_nil, or_false] at hx
    rcases hx with rfl | rfl | rfl | rfl
    · exact Int.dvd_of_emod_eq_zero a
    · exact Int.dvd_of_emod_eq_zero b
    · exact Int.dvd_of_emod_eq_zero c
    · exact Int.dvd_of_emod_eq_zero d
  rw [g1] at this
  exact absurd this (by decide)
theorem raw_even {q : Q4} (e : qsize q % 2 = 0) : (2 : Int) ∣ gcdL (tl (rawT q)) := by
  obtain ⟨a, b, c⟩ := pm2 e
  have t : ∀ x : Int, (2 : Int) ∣ 2 * x := fun x => Int.dvd_mul_right 2 x
  exact tl_all (t := rawT q) a (t _) (t _) (t _) b (t _) (t _) (t _) c (Int.dvd_of_emod_eq_zero e)
theorem raw_odd4 {q : Q4} (oa : q.a % 2 = 1) (ob : q.b % 2 = 1) (oc : q.c % 2 = 1) (od : q.d % 2 = 1) : (4 : Int) ∣ gcdL (tl (rawT q)) := by
  have s : ∀ {x : Int}, x % 2 = 1 → (x * x) % 4 = 1 := fun {x} h => by rw [sq4, h]
  obtain ⟨a, b, c, d⟩ := pm4 (s oa) (s ob) (s oc) (s od)
  have bc := prod_odd ob oc; have ad := prod_odd oa od; have bd := prod_odd ob od; have ac := prod_odd oa oc; have cd := prod_odd oc od; have ab := prod_odd oa ob
  exact tl_all (t := rawT q) a (dd4 bc ad).1 (dd4 bd ac).2 (dd4 bc ad).2 b (dd4 cd ab).1 (dd4 bd ac).1 (dd4 cd ab).2 c d
theorem dvd4_le {g : Int} (p : 0 < g) (h : g ∣ 4) : g = 1 ∨ g = 2 ∨ g = 4 := by
  have le := Int.le_of_dvd (by decide) h
  rcases (show g = 1 ∨ g = 2 ∨ g = 3 ∨ g = 4 by omega) with z | z | z | z
  · exact .inl z
  · exact .inr (.inl z)
  · rw [z] at h; exact absurd h (by decide)
  · exact .inr (.inr z)
theorem turn_odd {q : Q4} (g1 : gcdL (ql q) = 1) (h0 : q ≠ q0) : ∃ j : Nat, j ≤ 2 ∧ qsize q = (turnT q).n * 2 ^ j ∧ (turnT q).n % 2 = 1 := by
  have l := lowT_of (rawT_pos h0)
  have nn : gcdL (tl (rawT q)) * (turnT q).n = qsize q := l.nn
  have ne := even_no g1
  have odd4 : qsize q % 4 = 0 → (4 : Int) ∣ gcdL (tl (rawT q)) ∧ qsize q % 8 = 4 := fun h4 => by
    obtain ⟨oa, ob, oc, od⟩ := four_odd (sq4 q.a) (sq4 q.b) (sq4 q.c) (sq4 q.d) h4 ne
    exact ⟨raw_odd4 oa ob oc od, eight4 (sq8 oa) (sq8 ob) (sq8 oc) (sq8 od)⟩
  have ev := raw_even (q := q)
  have hx := dvd4_le l.g (raw_four g1)
  generalize (turnT q).n = n at *
  generalize qsize q = N at *
  generalize gcdL (tl (rawT q)) = g at *
  clear ne l g1 h0
  rcases hx with rfl | rfl | rfl
  · refine ⟨0, by decide, by rw [← nn, Int.pow_zero, Int.one_mul, Int.mul_one], ?_⟩
    rcases Int.emod_two_eq n with z | z
    · exact absurd (ev (by rw [← nn, Int.one_mul]; exact z)) (by decide)
    · exact z
  · refine ⟨1, by decide, by rw [← nn, Int.mul_comm]; rfl, ?_⟩
    rcases Int.emod_two_eq n with z | z
    · exact absurd (odd4 (by omega)).1 (by decide)
    · exact z
  · refine ⟨2, by decide, by rw [← nn, Int.mul_comm]; rfl, ?_⟩
    have := (odd4 (by omega)).2
    omega
noncomputable def m1 (t : T9) : Q4 := ⟨t.n + t.p.x + t.q.y + t.r.z, t.r.y - t.q.z, t.p.z - t.r.x, t.q.x - t.p.y⟩
noncomputable def m2 (t : T9) : Q4 := ⟨t.r.y - t.q.z, t.n + t.p.x - t.q.y - t.r.z, t.q.x + t.p.y, t.p.z + t.r.x⟩
noncomputable def m3 (t : T9) : Q4 := ⟨t.p.z - t.r.x, t.q.x + t.p.y, t.n - t.p.x + t.q.y - t.r.z, t.r.y + t.q.z⟩
noncomputable def m4 (t : T9) : Q4 := ⟨t.q.x - t.p.y, t.p.z + t.r.x, t.r.y + t.q.z, t.n - t.p.x - t.q.y + t.r.z⟩
theorem mults {q : Q4} (h0 : q ≠ q0) : ∃ g : Int, g ≠ 0 ∧ qsc g (m1 (turnT q)) = qsc (4 * q.a) q ∧ qsc g (m2 (turnT q)) = qsc (4 * q.b) q ∧ qsc g (m3 (turnT q)) = qsc (4 * q.c) q ∧ qsc g (m4 (turnT q)) = qsc (4 * q.d) q := by
  have l := lowT_of (rawT_pos h0)
  obtain ⟨hg, hn, one, px, py, pz, qx, qy, qz, rx, ry, rz, nn⟩ := l
  have en : turnT q = lowT (rawT q) := rfl
  rw [en]
  refine ⟨gcdL (tl (rawT q)), Int.ne_of_gt hg, ?_⟩
  generalize gcdL (tl (rawT q)) = g at *
  generalize lowT (rawT q) = t at *
  simp only [rawT] at px py pz qx qy qz rx ry rz nn
  clear en h0 one hn hg
  have c1 := Int.mul_comm q.b q.a; have c2 := Int.mul_comm q.c q.a; have c3 := Int.mul_comm q.d q.a; have c4 := Int.mul_comm q.c q.b; have c5 := Int.mul_comm q.d q.b; have c6 := Int.mul_comm q.d q.c
  refine ⟨?_, ?_, ?_, ?_⟩ <;> apply Q4.eq <;> simp only [qsc, m1, m2, m3, m4, Int.mul_add, Int.mul_sub, Int.mul_assoc, px, py, pz, qx, qy, qz, rx, ry, rz, nn, c1, c2, c3, c4, c5, c6] <;> simp +arith only
theorem qsc_q0 (g : Int) : qsc g q0 = q0 := by simp only [qsc, q0, Int.mul_zero]
theorem qsc_0 (q : Q4) : qsc 0 q = q0 := by simp only [qsc, q0, Int.zero_mul]
theorem plain_mult {m q : Q4} {g c : Int} (hg : g ≠ 0) (e : qsc g m = qsc c q) (hm : m ≠ q0) (hq : q ≠ q0) : qplain m = qplain q := by
  have hc : c ≠ 0 := fun z => by
    rw [z, qsc_0] at e
    exact qsc_ne hg hm e
  rw [← qplain_sc hg hm, e, qplain_sc hc hq]
theorem mult_ne {m q : Q4} {g c : Int} (e : qsc g m = qsc c q) (hc : c ≠ 0) (hq : q ≠ q0) : m ≠ q0 := fun z => by
  rw [z, qsc_q0] at e
  exact qsc_ne hc hq e.symm
theorem some_mult {q m : Q4} (h0 : q ≠ q0) (h1 : qsize (m1 (turnT q)) ≤ qsize m) (h2 : qsize (m2 (turnT q)) ≤ qsize m) (h3 : qsize (m3 (turnT q)) ≤ qsize m) (h4 : qsize (m4 (turnT q)) ≤ qsize m) : m ≠ q0 := fun z => by
  have hm : qsize m = 0 := by rw [z]; rfl
  obtain ⟨g, hg, e1, e2, e3, e4⟩ := mults h0
  have k : ∀ {m' : Q4} {c : Int}, qsc g m' = qsc (4 * c) q → qsize m' ≤ qsize m → c = 0 := fun {m' c} e h => by
    by_cases hc : c = 0
    · exact hc
    · have := qsize_pos (mult_ne e (by omega) h0)
      omega
  exact h0 (Q4.eq (k e1 h1) (k e2 h2) (k e3 h3) (k e4 h4))
theorem m_bd {k : Nat} {t : T9} (h : Bt k t) : Bq (k + 3) (m1 t) ∧ Bq (k + 3) (m2 t) ∧ Bq (k + 3) (m3 t) ∧ Bq (k + 3) (m4 t) := by
  have a : ∀ {x y : Int}, Bd k x → Bd k y → Bd (k + 3) (x + y) := fun hx hy => (hx.add hy).mono (by omega)
  have b : ∀ {x y : Int}, Bd k x → Bd k y → Bd (k + 3) (x - y) := fun hx hy => (hx.sub hy).mono (by omega)
  have c1 : Bd (k + 3) (t.n + t.p.x + t.q.y + t.r.z) := (((h.n.add h.p.x).add h.q.y).add h.r.z).mono (by omega)
  have c2 : Bd (k + 3) (t.n + t.p.x - t.q.y - t.r.z) := (((h.n.add h.p.x).sub h.q.y).sub h.r.z).mono (by omega)
  have c3 : Bd (k + 3) (t.n - t.p.x + t.q.y - t.r.z) := (((h.n.sub h.p.x).add h.q.y).sub h.r.z).mono (by omega)
  have c4 : Bd (k + 3) (t.n - t.p.x - t.q.y + t.r.z) := (((h.n.sub h.p.x).sub h.q.y).add h.r.z).mono (by omega)
  exact ⟨⟨c1, b h.r.y h.q.z, b h.p.z h.r.x, b h.q.x h.p.y⟩, ⟨b h.r.y h.q.z, c2, a h.q.x h.p.y, a h.p.z h.r.x⟩, ⟨b h.p.z h.r.x, a h.q.x h.p.y, c3, a h.r.y h.q.z⟩, ⟨b h.q.x h.p.y, a h.p.z h.r.x, a h.r.y h.q.z, c4⟩⟩
theorem qmul_ne {p q : Q4} (hp : p ≠ q0) (hq : q ≠ q0) : qmul p q ≠ q0 := fun z => by
  have e := qsize_mul p q
  rw [z] at e
  have a := qsize_pos hp; have b := qsize_pos hq
  have c := Int.mul_pos a b
  have : qsize q0 = 0 := rfl
  omega
theorem qmul_sc (s r : Int) (p q : Q4) : qmul (qsc s p) (qsc r q) = qsc (s * r) (qmul p q) := by
  apply Q4.eq <;> simp only [qmul, qsc] <;> grind
theorem after_eq {p q : Q4} (hp : p ≠ q0) (hq : q ≠ q0) : turnT (qmul (qplain p) (qplain q)) = turnT (qmul p q) := by
  have e : qmul p q = qsc (shr p * shr q) (qmul (qplain p) (qplain q)) := by
    rw [← qmul_sc, ← plain_mul hp, ← plain_mul hq]
  rw [e, turnT_sc (Int.mul_ne_zero (shr_ne hp) (shr_ne hq)) (qmul_ne (isPlain hp).ne (isPlain hq).ne)]
noncomputable def pl (p : P3) : D := .lst [.int p.x, .int p.y, .int p.z]
theorem ups_nat {n : Nat} {pre post : List D} {d : D} (h : pre ++ d :: post = ups 0 n) : d = .int (pre.length : Nat) ∧ pre.length < n := by
  have hlen : pre.length < (ups 0 n).length := by rw [← h]; simp
  rw [ups_length] at hlen
  have e1 : (ups 0 n)[pre.length]? = some d := by rw [← h]; simp
  simp only [ups, List.getElem?_map, List.getElem?_range hlen, Option.map_some, Int.zero_add] at e1
  exact ⟨(Option.some.inj e1).symm, hlen⟩
theorem FOR_nat {g : G3} {tb : S3} {Φ : F3 → Prop} {n : Nat} {ρ : Fr3} (I : Nat → Fr3 → Prop) (h0 : I 0 ρ)
    (hs : ∀ i, i < n → ∀ ρ, I i ρ → ∀ c : (F3 → Prop) → Fr3 → Prop, (∀ ρ', I (i + 1) ρ' → c Φ ρ') → g (.int (i : Nat)) ρ fun ρ1 => tb (loopS c Φ) ρ1) (hd : ∀ ρ, I n ρ → Φ (.nx ρ)) : FOR g tb (ups 0 n) Φ ρ :=
  FOR_inv (fun pre post ρ => pre ++ post = ups 0 n ∧ I pre.length ρ) (fun pre d post ρ h c hc => by
    obtain ⟨h, hi⟩ := h
    obtain ⟨e, l⟩ := ups_nat h
    subst e
    refine hs _ l ρ hi c fun ρ' h' => hc ρ' ⟨by rw [List.append_assoc]; exact h, ?_⟩
    rw [List.length_append]; exact h') (fun pre ρ h => by
    obtain ⟨h, hi⟩ := h
    have := congrArg List.length h
    rw [List.append_nil, ups_length] at this
    rw [this] at hi
    exact hd ρ hi) _ [] _ ⟨rfl, h0⟩
theorem COMP_fil {α : Type} {tt : B3} {te : E3} {ρ : Fr3} {Φ : List D → Prop} {ds : List D} (g h : α → D) (p : α → Bool) (qs : List α) (e : ds = qs.map g) (hl : qs.length ≤ 1000) (ht : ∀ q ∈ qs, ∀ Ψ : Bool → Prop, Ψ (p q) → tt (ρ.set 0 (.val (g q))) Ψ) (hs : ∀ q ∈ qs, p q = true → ∀ Ψ : D → Prop, Ψ (h q) → te (ρ.set 0 (.val (g q))) Ψ) (hΦ : Φ ((qs.filter p).map h)) : COMP (gN 0) tt te ρ ds [] Φ := by
  subst e
  have : ∀ (is : List α) (acc : List D), (∀ i ∈ is, i ∈ qs) → acc.length + is.length ≤ 1000 → Φ (acc ++ (is.filter p).map h) → COMP (gN 0) tt te ρ (is.map g) acc Φ := by
    intro is
    induction is with
    | nil => intro acc _ _ h; rw [List.filter_nil, List.map_nil, List.append_nil] at h; exact h
    | cons i is ih =>
      intro acc hi hl h
      have hi' := hi i List.mem_cons_self
      simp only [List.length_cons] at hl
      refine ht i hi' _ ?_
      cases e : p i with
      | false =>
        rw [List.filter_cons_of_neg (by rw [e]; exact Bool.false_ne_true)] at h
        exact ih acc (fun j hj => hi j (List.mem_cons_of_mem _ hj)) (by omega) h
      | true =>
        rw [List.filter_cons_of_pos e, List.map_cons] at h
        refine hs i hi' e _ ⟨small1000 (by omega), ?_⟩
        refine ih (acc ++ [_]) (fun j hj => hi j (List.mem_cons_of_mem _ hj)) (by rw [List.length_append]; simp only [List.length_cons, List.length_nil]; omega) ?_
        rw [List.append_assoc, List.singleton_append]
        exact h
  exact this qs [] (fun i hi => hi) (by simpa using hl) (by simpa using hΦ)
noncomputable def sqF (f : List (List Int)) : List (List Int) := f.map (· ++ [-1]) ++ f.map (· ++ [0]) ++ f.map (· ++ [1])
noncomputable def cq4 : List (List Int) := sqF (sqF (sqF (sqF [[]])))
noncomputable def tI (ns : List Int) : D := .tup (ns.map .int)
noncomputable def small (n : Int) : Prop := -1 ≤ n ∧ n ≤ 1
theorem sqF_mem {f : List (List Int)} {ns : List Int} (h : ns ∈ sqF f) : ∃ m ∈ f, ∃ n, small n ∧ ns = m ++ [n] := by
  unfold sqF at h
  simp only [List.mem_append, List.mem_map] at h
  rcases h with (⟨m, hm, rfl⟩ | ⟨m, hm, rfl⟩) | ⟨m, hm, rfl⟩
  · exact ⟨m, hm, -1, by unfold small; omega, rfl⟩
  · exact ⟨m, hm, 0, by unfold small; omega, rfl⟩
  · exact ⟨m, hm, 1, by unfold small; omega, rfl⟩
theorem cq4_mem {ns : List Int} (h : ns ∈ cq4) : ∃ q : Q4, ns = [q.a, q.b, q.c, q.d] ∧ small q.a ∧ small q.b ∧ small q.c ∧ small q.d := by
  obtain ⟨m1, h1, d, hd, rfl⟩ := sqF_mem h
  obtain ⟨m2, h2, c, hc, rfl⟩ := sqF_mem h1
  obtain ⟨m3, h3, b, hb, rfl⟩ := sqF_mem h2
  obtain ⟨m4, h4, a, ha, rfl⟩ := sqF_mem h3
  obtain rfl := List.mem_singleton.mp h4
  exact ⟨⟨a, b, c, d⟩, rfl, ha, hb, hc, hd⟩
noncomputable def toQ : List Int → Q4
  | [a, b, c, d] => ⟨a, b, c, d⟩
  | _ => q0
noncomputable def isC (ns : List Int) : Bool := HT.lexLt [0, 0, 0, 0] ns && !decide (qsize (toQ ns) = 3)
theorem isC_many : (cq4.filter isC).length = 24 := by decide +kernel
theorem sq_small {x : Int} (h : small x) : x * x = 0 ∧ x = 0 ∨ x * x = 1 := by
  unfold small at h
  have : x = -1 ∨ x = 0 ∨ x = 1 := by omega
  rcases this with rfl | rfl | rfl <;> simp
theorem size_small {q : Q4} (ha : small q.a) (hb : small q.b) (hc : small q.c) (hd : small q.d) (h : HT.lexLt [0, 0, 0, 0] [q.a, q.b, q.c, q.d] = true) : (qsize q = 1 ∨ qsize q = 2 ∨ qsize q = 3 ∨ qsize q = 4) ∧ q ≠ q0 := by
  have ne : q ≠ q0 := fun e => by rw [e] at h; exact absurd h (by decide)
  have pos := qsize_pos ne
  refine ⟨?_, ne⟩
  have h1 := sq_small ha; have h2 := sq_small hb; have h3 := sq_small hc; have h4 := sq_small hd
  unfold qsize at *
  omega
theorem bq_small {q : Q4} (ha : small q.a) (hb : small q.b) (hc : small q.c) (hd : small q.d) : Bq 1 q := by
  have k : ∀ {x : Int}, small x → Bd 1 x := fun {x} h => bd_of 1 (by unfold small at h; omega) (by decide)
  exact ⟨k ha, k hb, k hc, k hd⟩
theorem ord_pt (p : P3) : Ord 1 (pt p) := .tup fun d hd => by
  simp only [List.mem_cons, List.not_mem_nil, or_false] at hd
  rcases hd with rfl | rfl | rfl <;> exact .int _
theorem sort_tb (t : T9) : SortK (tb t) := ⟨[pt t.p, pt t.q, pt t.r], t.n, rfl, .tup fun d hd => by
  simp only [List.mem_cons, List.not_mem_nil, or_false] at hd
  rcases hd with rfl | rfl | rfl <;> exact ord_pt _⟩
theorem plain_turn' {q : Q4} (h0 : q ≠ q0) : turnT (qplain q) = turnT q := by
  have e := plain_mul h0
  have := turnT_sc (shr_ne h0) (isPlain h0).ne
  rw [← e] at this
  exact this.symm
theorem eqD_tb (t u : T9) : eqD (tb t) (tb u) = true ↔ t = u := by
  constructor
  · intro h
    cases t with | mk p q r n =>
    cases u with | mk p' q' r' n' =>
    cases p; cases q; cases r; cases p'; cases q'; cases r'
    simp only [tb, tr, pt, eqD, eqDs, Bool.and_true, Bool.and_eq_true, beq_iff_eq] at h
    obtain ⟨⟨⟨h1, h2, h3⟩, ⟨h4, h5, h6⟩, h7, h8, h9⟩, h10⟩ := h
    subst h1 h2 h3 h4 h5 h6 h7 h8 h9 h10
    rfl
  · rintro rfl; exact eqD_refl _
theorem cq4_in {q : Q4} (ha : small q.a) (hb : small q.b) (hc : small q.c) (hd : small q.d) : [q.a, q.b, q.c, q.d] ∈ cq4 := by
  have s : ∀ {n : Int} {m : List Int} {f : List (List Int)}, small n → m ∈ f → m ++ [n] ∈ sqF f := fun {n m f} hn hm => by
    unfold small at hn
    have : n = -1 ∨ n = 0 ∨ n = 1 := by omega
    unfold sqF
    simp only [List.mem_append, List.mem_map]
    rcases this with rfl | rfl | rfl
    · exact .inl (.inl ⟨m, hm, rfl⟩)
    · exact .inl (.inr ⟨m, hm, rfl⟩)
    · exact .inr ⟨m, hm, rfl⟩
  exact s hd (s hc (s hb (s ha (List.mem_singleton.mpr rfl))))
theorem cube_n : ∀ ns ∈ cq4, isC ns = true → (turnT (toQ ns)).n = 1 := by decide +kernel
theorem cube_all {q : Q4} (h0 : q ≠ q0) (h1 : (turnT q).n = 1) : ∃ ns ∈ cq4, isC ns = true ∧ toQ ns = qplain q := by
  have pl := isPlain h0
  have pn := pl.ne
  obtain ⟨j, hj, e, _⟩ := turn_odd pl.g pn
  rw [plain_turn' h0, h1, Int.one_mul] at e
  generalize qplain q = p at *
  have hs : qsize p = 1 ∨ qsize p = 2 ∨ qsize p = 4 := by
    have : j = 0 ∨ j = 1 ∨ j = 2 := by omega
    rcases this with rfl | rfl | rfl
    · exact .inl e
    · exact .inr (.inl e)
    · exact .inr (.inr e)
  have sq : ∀ x : Int, 0 ≤ x * x := fun x => by rw [← Int.natAbs_mul_self]; exact Int.natCast_nonneg _
  have big : ∀ {x : Int}, x * x ≤ 3 → small x := fun {x} h => by
    unfold small
    rcases Int.lt_or_le x (-1) with z | z
    · have := Int.mul_le_mul_of_nonneg_left (show (2 : Int) ≤ -x by omega) (show (0 : Int) ≤ -x by omega)
      rw [Int.neg_mul_neg] at this
      omega
    · rcases Int.lt_or_le 1 x with y | y
      · have := Int.mul_le_mul_of_nonneg_left (show (2 : Int) ≤ x by omega) (show (0 : Int) ≤ x by omega)
        omega
      · exact ⟨z, y⟩
  have sa := sq p.a; have sb := sq p.b; have sc := sq p.c; have sd := sq p.d
  have es : qsize p = p.a * p.a + p.b * p.b + p.c * p.c + p.d * p.d := rfl
  have z : ∀ {x : Int}, x * x = 0 → x = 0 := fun h => by rcases Int.mul_eq_zero.mp h with h | h <;> exact h
  have two : ∀ {x : Int}, x * x = 4 → (2 : Int) ∣ x := fun {x} h => by
    have : x = 2 ∨ x = -2 := by
      have : (x - 2) * (x + 2) = 0 := by
        have e : (x - 2) * (x + 2) = x * x - 4 := by grind
        omega
      rcases Int.mul_eq_zero.mp this with y | y
      · left; omega
      · right; omega
    rcases this with rfl | rfl
    · exact ⟨1, rfl⟩
    · exact ⟨-1, rfl⟩
  have no4 : ∀ {a b c d : Int}, [a, b, c, d].Perm (ql p) → a * a = 4 → b * b = 0 → c * c = 0 → d * d = 0 → False := fun {a b c d} pm ha hb hc hd => by
    have : (2 : Int) ∣ gcdL (ql p) := dvd_gcdL.mpr fun x hx => by
      have hx := pm.mem_iff.mpr hx
      simp only [List.mem_cons, List.not_mem_nil, or_false] at hx
      rcases hx with rfl | rfl | rfl | rfl
      · exact two ha
      · rw [z hb]; exact Int.dvd_zero _
      · rw [z hc]; exact Int.dvd_zero _
      · rw [z hd]; exact Int.dvd_zero _
    rw [pl.g] at this
    exact absurd this (by decide)
  have n4 : ∀ {x : Int}, x * x ≠ 1 → x * x ≠ 0 → 4 ≤ x * x := fun {x} h1 h2 => by
    rcases Int.lt_or_le (x * x) 4 with y | y
    · have := big (x := x) (by omega)
      unfold small at this
      have : x = -1 ∨ x = 0 ∨ x = 1 := by omega
      rcases this with rfl | rfl | rfl <;> simp at h1 h2
    · exact y
  have all : small p.a ∧ small p.b ∧ small p.c ∧ small p.d := by
    refine ⟨big ?_, big ?_, big ?_, big ?_⟩
    · rcases Int.lt_or_le (p.a * p.a) 4 with y | y
      · omega
      · exact (no4 (a := p.a) (b := p.b) (c := p.c) (d := p.d) (List.Perm.refl _) (by omega) (by omega) (by omega) (by omega)).elim
    · rcases Int.lt_or_le (p.b * p.b) 4 with y | y
      · omega
      · exact (no4 (a := p.b) (b := p.a) (c := p.c) (d := p.d) (List.Perm.swap _ _ _) (by omega) (by omega) (by omega) (by omega)).elim
    · rcases Int.lt_or_le (p.c * p.c) 4 with y | y
      · omega
      · exact (no4 (a := p.c) (b := p.a) (c := p.b) (d := p.d) ((List.Perm.swap p.a p.c [p.b, p.d]).trans ((List.Perm.swap p.b p.c [p.d]).cons p.a)) (by omega) (by omega) (by omega) (by omega)).elim
    · rcases Int.lt_or_le (p.d * p.d) 4 with y | y
      · omega
      · exact (no4 (a := p.d) (b := p.a) (c := p.b) (d := p.c) ((List.Perm.swap p.a p.d [p.b, p.c]).trans (((List.Perm.swap p.b p.d [p.c]).trans ((List.Perm.swap p.c p.d []).cons p.b)).cons p.a)) (by omega) (by omega) (by omega) (by omega)).elim
  refine ⟨[p.a, p.b, p.c, p.d], cq4_in all.1 all.2.1 all.2.2.1 all.2.2.2, ?_, rfl⟩
  have l := pl.l
  have ns : qsize p ≠ 3 := by omega
  show (HT.lexLt [0, 0, 0, 0] [p.a, p.b, p.c, p.d] && !decide (qsize p = 3)) = true
  rw [decide_eq_false ns, Bool.not_false, Bool.and_true]
  unfold lead at l
  show (if (0 : Int) = p.a then (if (0 : Int) = p.b then (if (0 : Int) = p.c then (if (0 : Int) = p.d then false else decide (0 < p.d)) else decide (0 < p.c)) else decide (0 < p.b)) else decide (0 < p.a)) = true
  split at l
  · rename_i h1
    rw [if_pos h1.symm]
    split at l
    · rename_i h2
      rw [if_pos h2.symm]
      split at l
      · rename_i h3
        rw [if_pos h3.symm, if_neg (by omega)]; exact decide_eq_true l
      · rename_i h3
        rw [if_neg (fun e => h3 e.symm)]; exact decide_eq_true l
    · rename_i h2
      rw [if_neg (fun e => h2 e.symm)]; exact decide_eq_true l
  · rename_i h1
    rw [if_neg (fun e => h1 e.symm)]; exact decide_eq_true l
noncomputable def mkT : List Int → T9
  | [a, b, c, d, e, f, g, h, i, n] => ⟨⟨a, b, c⟩, ⟨d, e, f⟩, ⟨g, h, i⟩, n⟩
  | _ => ⟨⟨0, 0, 0⟩, ⟨0, 0, 0⟩, ⟨0, 0, 0⟩, 0⟩
noncomputable def cubeI : List (List Int) := [[-1, 0, 0, 0, -1, 0, 0, 0, 1, 1], [-1, 0, 0, 0, 0, -1, 0, -1, 0, 1], [-1, 0, 0, 0, 0, 1, 0, 1, 0, 1], [-1, 0, 0, 0, 1, 0, 0, 0, -1, 1], [0, -1, 0, -1, 0, 0, 0, 0, -1, 1], [0, -1, 0, 0, 0, -1, 1, 0, 0, 1], [0, -1, 0, 0, 0, 1, -1, 0, 0, 1], [0, -1, 0, 1, 0, 0, 0, 0, 1, 1], [0, 0, -1, -1, 0, 0, 0, 1, 0, 1], [0, 0, -1, 0, -1, 0, -1, 0, 0, 1], [0, 0, -1, 0, 1, 0, 1, 0, 0, 1], [0, 0, -1, 1, 0, 0, 0, -1, 0, 1], [0, 0, 1, -1, 0, 0, 0, -1, 0, 1], [0, 0, 1, 0, -1, 0, 1, 0, 0, 1], [0, 0, 1, 0, 1, 0, -1, 0, 0, 1], [0, 0, 1, 1, 0, 0, 0, 1, 0, 1], [0, 1, 0, -1, 0, 0, 0, 0, 1, 1], [0, 1, 0, 0, 0, -1, -1, 0, 0, 1], [0, 1, 0, 0, 0, 1, 1, 0, 0, 1], [0, 1, 0, 1, 0, 0, 0, 0, -1, 1], [1, 0, 0, 0, -1, 0, 0, 0, -1, 1], [1, 0, 0, 0, 0, -1, 0, 1, 0, 1], [1, 0, 0, 0, 0, 1, 0, -1, 0, 1], [1, 0, 0, 0, 1, 0, 0, 0, 1, 1]]
noncomputable def cubeL : List T9 := cubeI.map mkT
theorem mk_tl (t : T9) : mkT (tl t) = t := rfl
theorem cube_src : ∀ l ∈ cubeI, ∃ ns ∈ cq4, isC ns = true ∧ tl (turnT (toQ ns)) = l := by decide +kernel
theorem cube_in : ∀ ns ∈ cq4, isC ns = true → tl (turnT (toQ ns)) ∈ cubeI := by decide +kernel
theorem cube_mul : ∀ ns ∈ cq4.filter isC, ∀ ms ∈ cq4.filter isC, tl (turnT (qmul (toQ ns) (toQ ms))) ∈ cubeI := by decide +kernel
theorem cubeL_in {t : T9} (h : tl t ∈ cubeI) : t ∈ cubeL := List.mem_map.mpr ⟨tl t, h, mk_tl t⟩
theorem cube_q {t : T9} (h : t ∈ cubeL) : ∃ ns ∈ cq4, isC ns = true ∧ toQ ns ≠ q0 ∧ Bq 1 (toQ ns) ∧ t = turnT (toQ ns) := by
  obtain ⟨l, hl, rfl⟩ := List.mem_map.mp h
  obtain ⟨ns, hm, hc, rfl⟩ := cube_src l hl
  refine ⟨ns, hm, hc, ?_⟩
  obtain ⟨q, rfl, ha, hb, hc', hd⟩ := cq4_mem hm
  have hx : HT.lexLt [0, 0, 0, 0] [q.a, q.b, q.c, q.d] = true := by
    unfold isC at hc; exact (Bool.and_eq_true _ _ ▸ hc).1
  exact ⟨(size_small ha hb hc' hd hx).2, bq_small ha hb hc' hd, mk_tl _⟩
theorem cube_ord : ∀ i : Fin 24, 0 < i.val → geD (tr (mkT (cubeI.getD (i.val - 1) []))) (tr (mkT (cubeI.getD i.val []))) = false := by decide +kernel
theorem cube_at {i : Nat} (h : i < 24) : atI (cubeL.map tb) (i : Int) = some (tb (mkT (cubeI.getD i []))) := by
  have hi : i < cubeI.length := h
  rw [atI_n, cubeL, List.map_map, List.getElem?_map, List.getElem?_eq_getElem hi, List.getD_eq_getElem?_getD, List.getElem?_eq_getElem hi]
  rfl
theorem cube_mem {i : Nat} (h : i < 24) : mkT (cubeI.getD i []) ∈ cubeL := by
  have hi : i < cubeI.length := h
  rw [List.getD_eq_getElem?_getD, List.getElem?_eq_getElem hi]
  exact List.mem_map.mpr ⟨_, List.getElem_mem hi, rfl⟩
theorem any_tb {ts : List T9} {u : T9} : ((ts.map tb).any fun e => eqD e (tb u)) = true ↔ u ∈ ts := by
  simp only [List.any_eq_true, List.mem_map]
  constructor
  · rintro ⟨_, ⟨t, ht, rfl⟩, e⟩
    rw [← (eqD_tb _ _).mp e]; exact ht
  · intro h
    exact ⟨_, ⟨u, h, rfl⟩, (eqD_tb _ _).mpr rfl⟩
theorem dep_tb (t : T9) : dep (tb t) ≤ 90 := Nat.le_of_ble_eq_true rfl
theorem noL_tb (t : T9) : NoL (tb t) := by simp only [tb, tr, pt, NoL, NoLs]; exact ⟨⟨⟨trivial, trivial, trivial, trivial⟩, ⟨trivial, trivial, trivial, trivial⟩, ⟨trivial, trivial, trivial, trivial⟩, trivial⟩, trivial, trivial⟩
theorem sort24 : sortD ((cq4.filter isC).map fun ns => tb (turnT (toQ ns))) = cubeL.map tb := by kernel_rfl
noncomputable def top (i : Nat) : Stmt := PySem.Challenge.pw_turngrid_k17_turns_of_the_cube.main.body.getD i (.Pass ⟨0, 0, 0, 0⟩)
noncomputable abbrev s_row_times : Stmt := top 4
noncomputable abbrev s_size : Stmt := top 12
noncomputable abbrev s_rows_of : Stmt := top 17
noncomputable abbrev s_divisor_of_two : Stmt := top 8
noncomputable abbrev s_divisor : Stmt := top 7
noncomputable abbrev s_table_divisor : Stmt := top 18
noncomputable abbrev s_row_over : Stmt := top 5
noncomputable abbrev s_turn_of : Stmt := top 16
noncomputable abbrev s_small_quads : Stmt := top 23
noncomputable abbrev s_odd_part : Stmt := top 9
noncomputable abbrev s_is_cube_quad : Stmt := top 24
noncomputable abbrev s_cube_turns : Stmt := top 22
noncomputable abbrev s_product : Stmt := top 11
noncomputable abbrev s_leads_below_nought : Stmt := top 14
noncomputable abbrev s_plain : Stmt := top 13
noncomputable abbrev s_multiples_of_quad : Stmt := top 20
noncomputable abbrev s_quad_of : Stmt := top 19
noncomputable abbrev s_after : Stmt := top 21
noncomputable abbrev s_law_near : Stmt := top 27
noncomputable abbrev s_law_quad : Stmt := top 29
noncomputable abbrev s_law_cell_at : Stmt := top 26
noncomputable abbrev s_law_whole : Stmt := top 28
noncomputable abbrev s_law_form : Stmt := top 31
noncomputable abbrev s_law_divisor : Stmt := top 30
noncomputable abbrev s_law_is_turn : Stmt := top 32
noncomputable abbrev s_law : Stmt := top 33
theorem sc_row_times : FnScope ["one", "other"] ["one", "other"] (defScope s_row_times) := ⟨rfl, rfl, rfl, by decide +kernel, rfl, by decide +kernel, by decide +kernel⟩
theorem sc_size : FnScope ["quad"] ["quad"] (defScope s_size) := ⟨rfl, rfl, rfl, by decide +kernel, rfl, by decide +kernel, by decide +kernel⟩
theorem sc_rows_of : FnScope ["quad", "a", "b", "c", "d"] ["quad"] (defScope s_rows_of) := ⟨rfl, rfl, rfl, by decide +kernel, rfl, by decide +kernel, by decide +kernel⟩
theorem sc_divisor_of_two : FnScope ["one", "other", "rest"] ["one", "other"] (defScope s_divisor_of_two) := ⟨rfl, rfl, rfl, by decide +kernel, rfl, by decide +kernel, by decide +kernel⟩
theorem sc_divisor : FnScope ["numbers", "found", "number"] ["numbers"] (defScope s_divisor) := ⟨rfl, rfl, rfl, by decide +kernel, rfl, by decide +kernel, by decide +kernel⟩
theorem sc_table_divisor : FnScope ["rows", "bottom"] ["rows", "bottom"] (defScope s_table_divisor) := ⟨rfl, rfl, rfl, by decide +kernel, rfl, by decide +kernel, by decide +kernel⟩
theorem sc_row_over : FnScope ["row", "n"] ["row", "n"] (defScope s_row_over) := ⟨rfl, rfl, rfl, by decide +kernel, rfl, by decide +kernel, by decide +kernel⟩
theorem sc_turn_of : FnScope ["quad", "bottom", "rows", "shrink"] ["quad"] (defScope s_turn_of) := ⟨rfl, rfl, rfl, by decide +kernel, rfl, by decide +kernel, by decide +kernel⟩
theorem sc_small_quads : FnScope ["found", "place", "longer", "number"] [] (defScope s_small_quads) := ⟨rfl, rfl, rfl, by decide +kernel, rfl, by decide +kernel, by decide +kernel⟩
theorem sc_odd_part : FnScope ["n"] ["n"] (defScope s_odd_part) := ⟨rfl, rfl, rfl, by decide +kernel, rfl, by decide +kernel, by decide +kernel⟩
theorem sc_is_cube_quad : FnScope ["quad"] ["quad"] (defScope s_is_cube_quad) := ⟨rfl, rfl, rfl, by decide +kernel, rfl, by decide +kernel, by decide +kernel⟩
theorem sc_cube_turns : FnScope [] [] (defScope s_cube_turns) := ⟨rfl, rfl, rfl, by decide +kernel, rfl, by decide +kernel, by decide +kernel⟩
theorem sc_product : FnScope ["one", "other"] ["one", "other"] (defScope s_product) := ⟨rfl, rfl, rfl, by decide +kernel, rfl, by decide +kernel, by decide +kernel⟩
theorem sc_leads_below_nought : FnScope ["quad"] ["quad"] (defScope s_leads_below_nought) := ⟨rfl, rfl, rfl, by decide +kernel, rfl, by decide +kernel, by decide +kernel⟩
theorem sc_plain : FnScope ["quad", "shrink"] ["quad"] (defScope s_plain) := ⟨rfl, rfl, rfl, by decide +kernel, rfl, by decide +kernel, by decide +kernel⟩
theorem sc_multiples_of_quad : FnScope ["turn", "rows", "bottom", "x", "y", "z", "ab", "ac", "ad", "bc", "bd", "cd"] ["turn"] (defScope s_multiples_of_quad) := ⟨rfl, rfl, rfl, by decide +kernel, rfl, by decide +kernel, by decide +kernel⟩
theorem sc_quad_of : FnScope ["turn"] ["turn"] (defScope s_quad_of) := ⟨rfl, rfl, rfl, by decide +kernel, rfl, by decide +kernel, by decide +kernel⟩
theorem sc_after : FnScope ["one", "other"] ["one", "other"] (defScope s_after) := ⟨rfl, rfl, rfl, by decide +kernel, rfl, by decide +kernel, by decide +kernel⟩
theorem sc_law_near : FnScope ["cell", "most", "left"] ["cell", "most"] (defScope s_law_near) := ⟨rfl, rfl, rfl, by decide +kernel, rfl, by decide +kernel, by decide +kernel⟩
theorem sc_law_quad : FnScope ["cells", "most", "numbers", "k"] ["cells", "most"] (defScope s_law_quad) := ⟨rfl, rfl, rfl, by decide +kernel, rfl, by decide +kernel, by decide +kernel⟩
theorem sc_law_cell_at : FnScope ["script", "k"] ["script", "k"] (defScope s_law_cell_at) := ⟨rfl, rfl, rfl, by decide +kernel, rfl, by decide +kernel, by decide +kernel⟩
theorem sc_law_whole : FnScope ["found"] ["found"] (defScope s_law_whole) := ⟨rfl, rfl, rfl, by decide +kernel, rfl, by decide +kernel, by decide +kernel⟩
theorem sc_law_form : FnScope ["found", "row"] ["found"] (defScope s_law_form) := ⟨rfl, rfl, rfl, by decide +kernel, rfl, by decide +kernel, by decide +kernel⟩
theorem sc_law_divisor : FnScope ["numbers", "found", "number", "other"] ["numbers"] (defScope s_law_divisor) := ⟨rfl, rfl, rfl, by decide +kernel, rfl, by decide +kernel, by decide +kernel⟩
theorem sc_law_is_turn : FnScope ["thing", "rows", "bottom", "j", "k", "total", "a", "b", "c", "whole_size"] ["thing"] (defScope s_law_is_turn) := ⟨rfl, rfl, rfl, by decide +kernel, rfl, by decide +kernel, by decide +kernel⟩
theorem sc_law : FnScope ["script", "some", "j", "one", "other", "drawn", "first"] ["script"] (defScope s_law) := ⟨rfl, rfl, rfl, by decide +kernel, rfl, by decide +kernel, by decide +kernel⟩
set_option genInjectivity false
set_option genSizeOf false
structure Ad where
  a_row_times : Addr
  d_row_times : FuncData
  a_size : Addr
  d_size : FuncData
  a_rows_of : Addr
  d_rows_of : FuncData
  a_divisor_of_two : Addr
  d_divisor_of_two : FuncData
  a_divisor : Addr
  d_divisor : FuncData
  a_table_divisor : Addr
  d_table_divisor : FuncData
  a_row_over : Addr
  d_row_over : FuncData
  a_turn_of : Addr
  d_turn_of : FuncData
  a_small_quads : Addr
  d_small_quads : FuncData
  a_odd_part : Addr
  d_odd_part : FuncData
  a_is_cube_quad : Addr
  d_is_cube_quad : FuncData
  a_cube_turns : Addr
  d_cube_turns : FuncData
  a_product : Addr
  d_product : FuncData
  a_leads_below_nought : Addr
  d_leads_below_nought : FuncData
  a_plain : Addr
  d_plain : FuncData
  a_multiples_of_quad : Addr
  d_multiples_of_quad : FuncData
  a_quad_of : Addr
  d_quad_of : FuncData
  a_after : Addr
  d_after : FuncData
  a_law_near : Addr
  d_law_near : FuncData
  a_law_quad : Addr
  d_law_quad : FuncData
  a_law_cell_at : Addr
  d_law_cell_at : FuncData
  a_law_whole : Addr
  d_law_whole : FuncData
  a_law_form : Addr
  d_law_form : FuncData
  a_law_divisor : Addr
  d_law_divisor : FuncData
  a_law_is_turn : Addr
  d_law_is_turn : FuncData
  a_law : Addr
  d_law : FuncData
structure Txt (K : PySem.W.Frag) (mg : Str → Option Value) (t : Ad) : Prop where
  F_row_times : Fun K "row_times" "row_times" s_row_times t.a_row_times t.d_row_times
  m_row_times : mg "row_times" = some (.ref t.a_row_times)
  b_row_times : Binds K t.d_row_times ["one", "other"] []
  F_size : Fun K "size" "size" s_size t.a_size t.d_size
  m_size : mg "size" = some (.ref t.a_size)
  b_size : Binds K t.d_size ["quad"] []
  F_rows_of : Fun K "rows_of" "rows_of" s_rows_of t.a_rows_of t.d_rows_of
  m_rows_of : mg "rows_of" = some (.ref t.a_rows_of)
  b_rows_of : Binds K t.d_rows_of ["quad"] []
  F_divisor_of_two : Fun K "divisor_of_two" "divisor_of_two" s_divisor_of_two t.a_divisor_of_two t.d_divisor_of_two
  m_divisor_of_two : mg "divisor_of_two" = some (.ref t.a_divisor_of_two)
  b_divisor_of_two : Binds K t.d_divisor_of_two ["one", "other"] []
  F_divisor : Fun K "divisor" "divisor" s_divisor t.a_divisor t.d_divisor
  m_divisor : mg "divisor" = some (.ref t.a_divisor)
  b_divisor : Binds K t.d_divisor ["numbers"] []
  F_table_divisor : Fun K "table_divisor" "table_divisor" s_table_divisor t.a_table_divisor t.d_table_divisor
  m_table_divisor : mg "table_divisor" = some (.ref t.a_table_divisor)
  b_table_divisor : Binds K t.d_table_divisor ["rows", "bottom"] []
  F_row_over : Fun K "row_over" "row_over" s_row_over t.a_row_over t.d_row_over
  m_row_over : mg "row_over" = some (.ref t.a_row_over)
  b_row_over : Binds K t.d_row_over ["row", "n"] []
  F_turn_of : Fun K "turn_of" "turn_of" s_turn_of t.a_turn_of t.d_turn_of
  m_turn_of : mg "turn_of" = some (.ref t.a_turn_of)
  b_turn_of : Binds K t.d_turn_of ["quad"] []
  F_small_quads : Fun K "small_quads" "small_quads" s_small_quads t.a_small_quads t.d_small_quads
  m_small_quads : mg "small_quads" = some (.ref t.a_small_quads)
  b_small_quads : Binds K t.d_small_quads [] []
  F_odd_part : Fun K "odd_part" "odd_part" s_odd_part t.a_odd_part t.d_odd_part
  m_odd_part : mg "odd_part" = some (.ref t.a_odd_part)
  b_odd_part : Binds K t.d_odd_part ["n"] []
  F_is_cube_quad : Fun K "is_cube_quad" "is_cube_quad" s_is_cube_quad t.a_is_cube_quad t.d_is_cube_quad
  m_is_cube_quad : mg "is_cube_quad" = some (.ref t.a_is_cube_quad)
  b_is_cube_quad : Binds K t.d_is_cube_quad ["quad"] []
  F_cube_turns : Fun K "cube_turns" "cube_turns" s_cube_turns t.a_cube_turns t.d_cube_turns
  m_cube_turns : mg "cube_turns" = some (.ref t.a_cube_turns)
  b_cube_turns : Binds K t.d_cube_turns [] []
  F_product : Fun K "product" "product" s_product t.a_product t.d_product
  m_product : mg "product" = some (.ref t.a_product)
  b_product : Binds K t.d_product ["one", "other"] []
  F_leads_below_nought : Fun K "leads_below_nought" "leads_below_nought" s_leads_below_nought t.a_leads_below_nought t.d_leads_below_nought
  m_leads_below_nought : mg "leads_below_nought" = some (.ref t.a_leads_below_nought)
  b_leads_below_nought : Binds K t.d_leads_below_nought ["quad"] []
  F_plain : Fun K "plain" "plain" s_plain t.a_plain t.d_plain
  m_plain : mg "plain" = some (.ref t.a_plain)
  b_plain : Binds K t.d_plain ["quad"] []
  F_multiples_of_quad : Fun K "multiples_of_quad" "multiples_of_quad" s_multiples_of_quad t.a_multiples_of_quad t.d_multiples_of_quad
  m_multiples_of_quad : mg "multiples_of_quad" = some (.ref t.a_multiples_of_quad)
  b_multiples_of_quad : Binds K t.d_multiples_of_quad ["turn"] []
  F_quad_of : Fun K "quad_of" "quad_of" s_quad_of t.a_quad_of t.d_quad_of
  m_quad_of : mg "quad_of" = some (.ref t.a_quad_of)
  b_quad_of : Binds K t.d_quad_of ["turn"] []
  F_after : Fun K "after" "after" s_after t.a_after t.d_after
  m_after : mg "after" = some (.ref t.a_after)
  b_after : Binds K t.d_after ["one", "other"] []
  F_law_near : Fun K "_law_near" "_law_near" s_law_near t.a_law_near t.d_law_near
  m_law_near : mg "_law_near" = some (.ref t.a_law_near)
  b_law_near : Binds K t.d_law_near ["cell", "most"] []
  F_law_quad : Fun K "_law_quad" "_law_quad" s_law_quad t.a_law_quad t.d_law_quad
  m_law_quad : mg "_law_quad" = some (.ref t.a_law_quad)
  b_law_quad : Binds K t.d_law_quad ["cells", "most"] []
  F_law_cell_at : Fun K "_law_cell_at" "_law_cell_at" s_law_cell_at t.a_law_cell_at t.d_law_cell_at
  m_law_cell_at : mg "_law_cell_at" = some (.ref t.a_law_cell_at)
  b_law_cell_at : Binds K t.d_law_cell_at ["script", "k"] []
  F_law_whole : Fun K "_law_whole" "_law_whole" s_law_whole t.a_law_whole t.d_law_whole
  m_law_whole : mg "_law_whole" = some (.ref t.a_law_whole)
  b_law_whole : Binds K t.d_law_whole ["found"] []
  F_law_form : Fun K "_law_form" "_law_form" s_law_form t.a_law_form t.d_law_form
  m_law_form : mg "_law_form" = some (.ref t.a_law_form)
  b_law_form : Binds K t.d_law_form ["found"] []
  F_law_divisor : Fun K "_law_divisor" "_law_divisor" s_law_divisor t.a_law_divisor t.d_law_divisor
  m_law_divisor : mg "_law_divisor" = some (.ref t.a_law_divisor)
  b_law_divisor : Binds K t.d_law_divisor ["numbers"] []
  F_law_is_turn : Fun K "_law_is_turn" "_law_is_turn" s_law_is_turn t.a_law_is_turn t.d_law_is_turn
  m_law_is_turn : mg "_law_is_turn" = some (.ref t.a_law_is_turn)
  b_law_is_turn : Binds K t.d_law_is_turn ["thing"] []
  F_law : Fun K "law" "law" s_law t.a_law t.d_law
  m_law : mg "law" = some (.ref t.a_law)
  b_law : Binds K t.d_law ["script"] []
  z_abs : mg "abs" = none
  z_all : mg "all" = none
  z_bool : mg "bool" = none
  z_int : mg "int" = none
  z_isinstance : mg "isinstance" = none
  z_len : mg "len" = none
  z_list : mg "list" = none
  z_max : mg "max" = none
  z_range : mg "range" = none
  z_sorted : mg "sorted" = none
  z_sum : mg "sum" = none
  z_tuple : mg "tuple" = none
theorem loc_of {sc : Scope} {x : Str} (h : (sc.names.lookup x == some .local || sc.names.lookup x == some .cell) = true) : Loc sc x := by
  simp only [Bool.or_eq_true, beq_iff_eq] at h
  exact h
noncomputable def dot3 (p q : P3) : Int := p.x * q.x + p.y * q.y + p.z * q.z
noncomputable def dot4 (p q : Q4) : Int := p.a * q.a + p.b * q.b + p.c * q.c + p.d * q.d
noncomputable def C_row_times : Con := fun ds Φ => (∃ (p q : P3) (k : Nat), ds = [pt p, pt q] ∧ k ≤ 60000000 ∧ Bp k p ∧ Bp k q ∧ Φ (.int (dot3 p q))) ∨ (∃ (p q : Q4) (k : Nat), ds = [qd p, qd q] ∧ k ≤ 60000000 ∧ Bq k p ∧ Bq k q ∧ Φ (.int (dot4 p q)))
theorem mono_row_times : Mono C_row_times := fun ds Φ Ψ mo h => by
  rcases h with ⟨p, q, k, a, b, c, d, h⟩ | ⟨p, q, k, a, b, c, d, h⟩
  · exact .inl ⟨p, q, k, a, b, c, d, mo _ h⟩
  · exact .inr ⟨p, q, k, a, b, c, d, mo _ h⟩
noncomputable abbrev b_row_times : S3 :=
  (sRet (dB cSum (aCons (dF (fComp 1 (iR1 (aCons (dB cLen (aCons (dVar 0) aNil)) aNil)) (gN 0) (fun _ Φ => Φ true) (dOp (dI IntMulOk fun i j => .int (i * j)) (dOp dIx (dVar 1) (dVar 0)) (dOp dIx (dVar 2) (dVar 0))))) aNil)))
theorem rd_row_times : ∀ (ds : List D) (Φ : D → Prop), ds.length = 2 → C_row_times ds Φ → b_row_times (finD Φ) (startD 2 ds) := by
  rintro ds Φ hl (⟨p, q, k, rfl, hk, hp, hq, h⟩ | ⟨p, q, k, rfl, hk, hp, hq, h⟩)
  · have mk : ∀ {x y : Int}, Bd k x → Bd k y → IntMulOk x y := fun hx hy => mulOk hx hy (by omega)
    have e : [p.x * q.x, p.y * q.y, p.z * q.z].sum = dot3 p q := by simp only [List.sum_cons, List.sum_nil, dot3]; omega
    refine ⟨show (-(2 ^ 62) : Int) ≤ 3 by decide, show (3 : Int) < 2 ^ 62 by decide, mk hp.x hq.x, sl_lt 0 rfl (by decide), mk hp.y hq.y, sl_lt 1 rfl (by decide), mk hp.z hq.z, sl_lt 2 rfl (by decide), [p.x * q.x, p.y * q.y, p.z * q.z], rfl, ?_⟩
    rw [e]; exact h
  · have mk : ∀ {x y : Int}, Bd k x → Bd k y → IntMulOk x y := fun hx hy => mulOk hx hy (by omega)
    have e : [p.a * q.a, p.b * q.b, p.c * q.c, p.d * q.d].sum = dot4 p q := by simp only [List.sum_cons, List.sum_nil, dot4]; omega
    refine ⟨show (-(2 ^ 62) : Int) ≤ 4 by decide, show (4 : Int) < 2 ^ 62 by decide, mk hp.a hq.a, sl_lt 0 rfl (by decide), mk hp.b hq.b, sl_lt 1 rfl (by decide), mk hp.c hq.c, sl_lt 2 rfl (by decide), mk hp.d hq.d, sl_lt 3 rfl (by decide), [p.a * q.a, p.b * q.b, p.c * q.c, p.d * q.d], rfl, ?_⟩
    rw [e]; exact h
theorem ok_row_times {P : Program} {w : World} {K : PySem.W.Frag} {mg : Str → Option Value} {base : Heap} {t : Ad} (T : Txt K mg t) : FnOk P w K mg base CX0 1 t.a_row_times t.d_row_times ["one", "other"] (spD K 2 C_row_times) := by
  have sc := sc_row_times
  refine fn_ok (k := 0) T.F_row_times sc_row_times (fun cdv A outer s H E hr => ⟨b_row_times, (psd_one (psd_ret (pd_callB (b_sum rfl) rfl T.z_sum bt_sum (pad_cons (pd_new (pf_comp (xs := ["place"]) (M := ["one", "other"]) (n := 1) (by rfl) rfl rfl (pid_range1 rfl T.z_range (pad_cons (pd_callB b_len rfl T.z_len bt_len (pad_cons (pd_var (pv 0)) pad_nil)) pad_nil)) (fun _ _ _ _ => (pgn_name (i := 0) (by decide) (show List.Nodup (["place", "one", "other"] : List Str) by decide +kernel) rfl (by first | exact Or.inl rfl | exact Or.inr rfl))) (fun _ _ _ _ => pbs_nil) (fun _ _ _ _ => (pd_op o_mul (pd_ix (pd_var (pv 1)) (pd_var (pv 0)) (fun _ _ => rfl)) (pd_ix (pd_var (pv 2)) (pd_var (pv 0)) (fun _ _ => rfl)))))) pad_nil)))), rd_row_times⟩)
noncomputable def C_size : Con := fun ds Φ => ∃ (q : Q4) (k : Nat), ds = [qd q] ∧ k ≤ 60000000 ∧ Bq k q ∧ Φ (.int (qsize q))
theorem mono_size : Mono C_size := fun ds Φ Ψ mo h0 => by
  obtain ⟨q, k, a, b, c, h⟩ := h0
  exact ⟨q, k, a, b, c, mo _ h⟩
noncomputable abbrev b_size : S3 :=
  (sRet (dCall 2 C_row_times (aCons (dVar 0) (aCons (dVar 0) aNil))))
theorem rd_size : ∀ (ds : List D) (Φ : D → Prop), ds.length = 1 → C_size ds Φ → b_size (finD Φ) (startD 1 ds) := by
  rintro ds Φ hl ⟨q, k, rfl, hk, hq, h⟩
  exact ⟨rfl, .inr ⟨q, q, k, rfl, hk, hq, hq, h⟩⟩
theorem ok_size {P : Program} {w : World} {K : PySem.W.Frag} {mg : Str → Option Value} {base : Heap} {t : Ad} (T : Txt K mg t) : FnOk P w K mg base CX0 2 t.a_size t.d_size ["quad"] (spD K 1 C_size) := by
  have sc := sc_size
  refine fn_ok (k := 1) T.F_size sc_size (fun cdv A outer s H E hr => ⟨b_size, (psd_one (psd_ret (pd_call (ok_row_times T) mono_row_times (hr.mono (by decide)) rfl T.m_row_times T.F_row_times.kp T.b_row_times (pad_cons (pd_var (pv 0)) (pad_cons (pd_var (pv 0)) pad_nil))))), rd_size⟩)
noncomputable def C_rows_of : Con := fun ds Φ => ∃ (q : Q4) (k : Nat), ds = [qd q] ∧ k ≤ 4000 ∧ Bq k q ∧ Φ (tr (rawT q))
theorem mono_rows_of : Mono C_rows_of := fun ds Φ Ψ mo h0 => by
  obtain ⟨q, k, a, b, c, h⟩ := h0
  exact ⟨q, k, a, b, c, mo _ h⟩
theorem raw_alt (q : Q4) : D.tup [.tup [.int (q.a * q.a + q.b * q.b - q.c * q.c - q.d * q.d), .int (2 * q.b * q.c - 2 * q.a * q.d), .int (2 * q.b * q.d + 2 * q.a * q.c)],
    .tup [.int (2 * q.b * q.c + 2 * q.a * q.d), .int (q.a * q.a - q.b * q.b + q.c * q.c - q.d * q.d), .int (2 * q.c * q.d - 2 * q.a * q.b)],
    .tup [.int (2 * q.b * q.d - 2 * q.a * q.c), .int (2 * q.c * q.d + 2 * q.a * q.b), .int (q.a * q.a - q.b * q.b - q.c * q.c + q.d * q.d)]] = tr (rawT q) := by
  have e1 : 2 * q.b * q.c - 2 * q.a * q.d = 2 * (q.b * q.c - q.a * q.d) := by grind
  have e2 : 2 * q.b * q.d + 2 * q.a * q.c = 2 * (q.b * q.d + q.a * q.c) := by grind
  have e3 : 2 * q.b * q.c + 2 * q.a * q.d = 2 * (q.b * q.c + q.a * q.d) := by grind
  have e4 : 2 * q.c * q.d - 2 * q.a * q.b = 2 * (q.c * q.d - q.a * q.b) := by grind
  have e5 : 2 * q.b * q.d - 2 * q.a * q.c = 2 * (q.b * q.d - q.a * q.c) := by grind
  have e6 : 2 * q.c * q.d + 2 * q.a * q.b = 2 * (q.c * q.d + q.a * q.b) := by grind
  rw [e1, e2, e3, e4, e5, e6]; rfl
noncomputable def b_rows_of_4 : S3 :=
  (sRet (dTup (aCons (dTup (aCons (dOp (dI0 fun i j => .int (i - j)) (dOp (dI0 fun i j => .int (i - j)) (dOp (dI0 fun i j => .int (i + j)) (dOp (dI IntMulOk fun i j => .int (i * j)) (dVar 1) (dVar 1)) (dOp (dI IntMulOk fun i j => .int (i * j)) (dVar 2) (dVar 2))) (dOp (dI IntMulOk fun i j => .int (i * j)) (dVar 3) (dVar 3))) (dOp (dI IntMulOk fun i j => .int (i * j)) (dVar 4) (dVar 4))) (aCons (dOp (dI0 fun i j => .int (i - j)) (dOp (dI IntMulOk fun i j => .int (i * j)) (dOp (dI IntMulOk fun i j => .int (i * j)) (dC (.int 2)) (dVar 2)) (dVar 3)) (dOp (dI IntMulOk fun i j => .int (i * j)) (dOp (dI IntMulOk fun i j => .int (i * j)) (dC (.int 2)) (dVar 1)) (dVar 4))) (aCons (dOp (dI0 fun i j => .int (i + j)) (dOp (dI IntMulOk fun i j => .int (i * j)) (dOp (dI IntMulOk fun i j => .int (i * j)) (dC (.int 2)) (dVar 2)) (dVar 4)) (dOp (dI IntMulOk fun i j => .int (i * j)) (dOp (dI IntMulOk fun i j => .int (i * j)) (dC (.int 2)) (dVar 1)) (dVar 3))) aNil)))) (aCons (dTup (aCons (dOp (dI0 fun i j => .int (i + j)) (dOp (dI IntMulOk fun i j => .int (i * j)) (dOp (dI IntMulOk fun i j => .int (i * j)) (dC (.int 2)) (dVar 2)) (dVar 3)) (dOp (dI IntMulOk fun i j => .int (i * j)) (dOp (dI IntMulOk fun i j => .int (i * j)) (dC (.int 2)) (dVar 1)) (dVar 4))) (aCons (dOp (dI0 fun i j => .int (i - j)) (dOp (dI0 fun i j => .int (i + j)) (dOp (dI0 fun i j => .int (i - j)) (dOp (dI IntMulOk fun i j => .int (i * j)) (dVar 1) (dVar 1)) (dOp (dI IntMulOk fun i j => .int (i * j)) (dVar 2) (dVar 2))) (dOp (dI IntMulOk fun i j => .int (i * j)) (dVar 3) (dVar 3))) (dOp (dI IntMulOk fun i j => .int (i * j)) (dVar 4) (dVar 4))) (aCons (dOp (dI0 fun i j => .int (i - j)) (dOp (dI IntMulOk fun i j => .int (i * j)) (dOp (dI IntMulOk fun i j => .int (i * j)) (dC (.int 2)) (dVar 3)) (dVar 4)) (dOp (dI IntMulOk fun i j => .int (i * j)) (dOp (dI IntMulOk fun i j => .int (i * j)) (dC (.int 2)) (dVar 1)) (dVar 2))) aNil)))) (aCons (dTup (aCons (dOp (dI0 fun i j => .int (i - j)) (dOp (dI IntMulOk fun i j => .int (i * j)) (dOp (dI IntMulOk fun i j => .int (i * j)) (dC (.int 2)) (dVar 2)) (dVar 4)) (dOp (dI IntMulOk fun i j => .int (i * j)) (dOp (dI IntMulOk fun i j => .int (i * j)) (dC (.int 2)) (dVar 1)) (dVar 3))) (aCons (dOp (dI0 fun i j => .int (i + j)) (dOp (dI IntMulOk fun i j => .int (i * j)) (dOp (dI IntMulOk fun i j => .int (i * j)) (dC (.int 2)) (dVar 3)) (dVar 4)) (dOp (dI IntMulOk fun i j => .int (i * j)) (dOp (dI IntMulOk fun i j => .int (i * j)) (dC (.int 2)) (dVar 1)) (dVar 2))) (aCons (dOp (dI0 fun i j => .int (i + j)) (dOp (dI0 fun i j => .int (i - j)) (dOp (dI0 fun i j => .int (i - j)) (dOp (dI IntMulOk fun i j => .int (i * j)) (dVar 1) (dVar 1)) (dOp (dI IntMulOk fun i j => .int (i * j)) (dVar 2) (dVar 2))) (dOp (dI IntMulOk fun i j => .int (i * j)) (dVar 3) (dVar 3))) (dOp (dI IntMulOk fun i j => .int (i * j)) (dVar 4) (dVar 4))) aNil)))) aNil)))))
noncomputable def b_rows_of_3 : S3 :=
  (sSeq (sSet 4 (dOp dIx (dVar 0) (dC (.int 3))))
  b_rows_of_4)
noncomputable def b_rows_of_2 : S3 :=
  (sSeq (sSet 3 (dOp dIx (dVar 0) (dC (.int 2))))
  b_rows_of_3)
noncomputable def b_rows_of_1 : S3 :=
  (sSeq (sSet 2 (dOp dIx (dVar 0) (dC (.int 1))))
  b_rows_of_2)
noncomputable abbrev b_rows_of : S3 :=
  (sSeq (sSet 1 (dOp dIx (dVar 0) (dC (.int 0))))
  b_rows_of_1)
theorem rd_rows_of : ∀ (ds : List D) (Φ : D → Prop), ds.length = 1 → C_rows_of ds Φ → b_rows_of (finD Φ) (startD 5 ds) := by
  rintro ds Φ hl ⟨q, k, rfl, hk, bq, h⟩
  have mk : ∀ {x y : Int}, Bd k x → Bd k y → IntMulOk x y := fun hx hy => mulOk hx hy (by omega)
  have m2 : ∀ {x : Int}, IntMulOk 2 x := IntMulOk.of_left (by decide)
  have m3 : ∀ {x y : Int}, Bd k x → Bd k y → IntMulOk (2 * x) y := fun hx hy => mulOk (bd_two hx) hy (by omega)
  show b_rows_of_4 (finD Φ) [.val (qd q), .val (.int q.a), .val (.int q.b), .val (.int q.c), .val (.int q.d)]
  have aa := mk bq.a bq.a; have bb := mk bq.b bq.b; have cc := mk bq.c bq.c; have dd := mk bq.d bq.d
  have ab := m3 bq.a bq.b; have ac := m3 bq.a bq.c; have ad := m3 bq.a bq.d; have bc := m3 bq.b bq.c; have bd := m3 bq.b bq.d; have cd := m3 bq.c bq.d
  rw [← raw_alt] at h
  exact ⟨aa, bb, cc, dd, m2, bc, m2, ad, m2, bd, m2, ac, sl_le 3 rfl (by decide), m2, bc, m2, ad, aa, bb, cc, dd, m2, cd, m2, ab, sl_le 3 rfl (by decide), m2, bd, m2, ac, m2, cd, m2, ab, aa, bb, cc, dd, sl_le 3 rfl (by decide), sl_le 3 rfl (by decide), h⟩
theorem ok_rows_of {P : Program} {w : World} {K : PySem.W.Frag} {mg : Str → Option Value} {base : Heap} {t : Ad} (T : Txt K mg t) : FnOk P w K mg base CX0 1 t.a_rows_of t.d_rows_of ["quad"] (spD K 1 C_rows_of) := by
  have sc := sc_rows_of
  refine fn_ok (k := 0) T.F_rows_of sc_rows_of (fun cdv A outer s H E hr => ⟨b_rows_of, (psd_cons (psd_set (i := 1) sc.nd rfl (loc_of rfl) (pd_ix (pd_var (pv 0)) pd_int (fun _ _ => rfl)))
  (psd_cons (psd_set (i := 2) sc.nd rfl (loc_of rfl) (pd_ix (pd_var (pv 0)) pd_int (fun _ _ => rfl)))
  (psd_cons (psd_set (i := 3) sc.nd rfl (loc_of rfl) (pd_ix (pd_var (pv 0)) pd_int (fun _ _ => rfl)))
  (psd_cons (psd_set (i := 4) sc.nd rfl (loc_of rfl) (pd_ix (pd_var (pv 0)) pd_int (fun _ _ => rfl)))
  (psd_one (psd_ret (pd_tup (pad_cons (pd_tup (pad_cons (pd_op o_sub (pd_op o_sub (pd_op o_add (pd_op o_mul (pd_var (pv 1)) (pd_var (pv 1))) (pd_op o_mul (pd_var (pv 2)) (pd_var (pv 2)))) (pd_op o_mul (pd_var (pv 3)) (pd_var (pv 3)))) (pd_op o_mul (pd_var (pv 4)) (pd_var (pv 4)))) (pad_cons (pd_op o_sub (pd_op o_mul (pd_op o_mul pd_int (pd_var (pv 2))) (pd_var (pv 3))) (pd_op o_mul (pd_op o_mul pd_int (pd_var (pv 1))) (pd_var (pv 4)))) (pad_cons (pd_op o_add (pd_op o_mul (pd_op o_mul pd_int (pd_var (pv 2))) (pd_var (pv 4))) (pd_op o_mul (pd_op o_mul pd_int (pd_var (pv 1))) (pd_var (pv 3)))) pad_nil)))) (pad_cons (pd_tup (pad_cons (pd_op o_add (pd_op o_mul (pd_op o_mul pd_int (pd_var (pv 2))) (pd_var (pv 3))) (pd_op o_mul (pd_op o_mul pd_int (pd_var (pv 1))) (pd_var (pv 4)))) (pad_cons (pd_op o_sub (pd_op o_add (pd_op o_sub (pd_op o_mul (pd_var (pv 1)) (pd_var (pv 1))) (pd_op o_mul (pd_var (pv 2)) (pd_var (pv 2)))) (pd_op o_mul (pd_var (pv 3)) (pd_var (pv 3)))) (pd_op o_mul (pd_var (pv 4)) (pd_var (pv 4)))) (pad_cons (pd_op o_sub (pd_op o_mul (pd_op o_mul pd_int (pd_var (pv 3))) (pd_var (pv 4))) (pd_op o_mul (pd_op o_mul pd_int (pd_var (pv 1))) (pd_var (pv 2)))) pad_nil)))) (pad_cons (pd_tup (pad_cons (pd_op o_sub (pd_op o_mul (pd_op o_mul pd_int (pd_var (pv 2))) (pd_var (pv 4))) (pd_op o_mul (pd_op o_mul pd_int (pd_var (pv 1))) (pd_var (pv 3)))) (pad_cons (pd_op o_add (pd_op o_mul (pd_op o_mul pd_int (pd_var (pv 3))) (pd_var (pv 4))) (pd_op o_mul (pd_op o_mul pd_int (pd_var (pv 1))) (pd_var (pv 2)))) (pad_cons (pd_op o_add (pd_op o_sub (pd_op o_sub (pd_op o_mul (pd_var (pv 1)) (pd_var (pv 1))) (pd_op o_mul (pd_var (pv 2)) (pd_var (pv 2)))) (pd_op o_mul (pd_var (pv 3)) (pd_var (pv 3)))) (pd_op o_mul (pd_var (pv 4)) (pd_var (pv 4)))) pad_nil)))) pad_nil)))))))))), rd_rows_of⟩)
noncomputable def C_divisor_of_two : Con := fun ds Φ => ∃ a b : Int, ds = [.int a, .int b] ∧ Φ (.int (Int.gcd a b : Int))
theorem mono_divisor_of_two : Mono C_divisor_of_two := fun ds Φ Ψ mo h0 => by
  obtain ⟨a, b, e, h⟩ := h0
  exact ⟨a, b, e, mo _ h⟩
noncomputable def b_divisor_of_two_L1_2 : S3 :=
  (sSet 1 (dVar 2))
noncomputable def b_divisor_of_two_L1_1 : S3 :=
  (sSeq (sSet 0 (dVar 1))
  b_divisor_of_two_L1_2)
noncomputable abbrev b_divisor_of_two_L1 : S3 :=
  (sSeq (sSet 2 (dOp (dI (fun _ j => j ≠ 0) fun i j => .int (i.fmod j)) (dVar 0) (dVar 1)))
  b_divisor_of_two_L1_1)
noncomputable def b_divisor_of_two_1 : S3 :=
  (sRet (dB cAbs (aCons (dVar 0) aNil)))
noncomputable abbrev b_divisor_of_two : S3 :=
  (sSeq (sWhile (dT (dOp dNe (dVar 1) (dC (.int 0))))
  b_divisor_of_two_L1)
  b_divisor_of_two_1)
theorem rd_divisor_of_two : ∀ (ds : List D) (Φ : D → Prop), ds.length = 2 → C_divisor_of_two ds Φ → b_divisor_of_two (finD Φ) (startD 3 ds) := by
  rintro ds Φ hl ⟨a, b, rfl, h⟩
  refine while_inv (fun ρ => ∃ (x y : Int) (s : Sl), ρ = [.val (.int x), .val (.int y), s] ∧ Int.gcd x y = Int.gcd a b) (fun ρ => match ρ with | [_, .val (.int y), _] => y.natAbs | _ => 0) ⟨a, b, .un, rfl, rfl⟩ ?_
  rintro ρ ⟨x, y, s, rfl, e⟩
  refine tst (fun hc => ?_) (fun hc => ?_)
  · have hy : y ≠ 0 := by intro z; subst z; simp at hc
    refine ⟨hy, _, ?_, rfl, y, x.fmod y, _, rfl, by rw [gcd_step, e]⟩
    show (x.fmod y).natAbs < y.natAbs
    exact fmod_lt hy
  · have hy : y = 0 := by simpa using hc
    subst hy
    have e2 : (Int.gcd a b : Int) = x.natAbs := by rw [← e]; simp
    rw [e2] at h
    exact h
theorem ok_divisor_of_two {P : Program} {w : World} {K : PySem.W.Frag} {mg : Str → Option Value} {base : Heap} {t : Ad} (T : Txt K mg t) : FnOk P w K mg base CX0 1 t.a_divisor_of_two t.d_divisor_of_two ["one", "other"] (spD K 2 C_divisor_of_two) := by
  have sc := sc_divisor_of_two
  refine fn_ok (k := 0) T.F_divisor_of_two sc_divisor_of_two (fun cdv A outer s H E hr => ⟨b_divisor_of_two, (psd_cons (psd_while PassesOwn.never (pb_cmp o_ne (pd_var (pv 1)) pd_int (nomark _))
  (psd_cons (psd_set (i := 2) sc.nd rfl (loc_of rfl) (pd_op o_mod (pd_var (pv 0)) (pd_var (pv 1))))
  (psd_cons (psd_set (i := 0) sc.nd rfl (loc_of rfl) (pd_var (pv 1)))
  (psd_one (psd_set (i := 1) sc.nd rfl (loc_of rfl) (pd_var (pv 2)))))))
  (psd_one (psd_ret (pd_callB b_abs rfl T.z_abs bt_abs (pad_cons (pd_var (pv 0)) pad_nil))))), rd_divisor_of_two⟩)
noncomputable def C_divisor : Con := fun ds Φ => ∃ ms : List Int, (ds = [.lst (ms.map .int)] ∨ ds = [.tup (ms.map .int)]) ∧ Φ (.int (gcdL ms))
theorem mono_divisor : Mono C_divisor := fun ds Φ Ψ mo h0 => by
  obtain ⟨ms, e, h⟩ := h0
  exact ⟨ms, e, mo _ h⟩
theorem divisor_loop {Φ : D → Prop} {ms : List Int} {d0 : D} (h : Φ (.int (gcdL ms))) : ∀ (qs : List Int) (g : Int) (s : Sl), qs.foldl (fun g x => (Int.gcd g x : Int)) g = gcdL ms →
    FOR (gN 2) (sSet 1 (dCall 2 C_divisor_of_two (aCons (dVar 1) (aCons (dVar 2) aNil)))) (qs.map D.int) (thenS (sRet (dVar 1)) (finD Φ)) [.val d0, .val (.int g), s]
  | [], g, s, e => by
    show Φ (.int g)
    have e : g = gcdL ms := e
    rw [e]; exact h
  | q :: qs, g, s, e => ⟨rfl, g, q, rfl, divisor_loop h qs (Int.gcd g q) _ e⟩
noncomputable abbrev b_divisor_L1 : S3 :=
  (sSet 1 (dCall 2 C_divisor_of_two (aCons (dVar 1) (aCons (dVar 2) aNil))))
noncomputable def b_divisor_2 : S3 :=
  (sRet (dVar 1))
noncomputable def b_divisor_1 : S3 :=
  (sSeq (sFor (iLT (dVar 0)) (gN 2)
  b_divisor_L1)
  b_divisor_2)
noncomputable abbrev b_divisor : S3 :=
  (sSeq (sSet 1 (dC (.int 0)))
  b_divisor_1)
theorem rd_divisor : ∀ (ds : List D) (Φ : D → Prop), ds.length = 1 → C_divisor ds Φ → b_divisor (finD Φ) (startD 3 ds) := by
  rintro ds Φ hl ⟨ms, rfl | rfl, h⟩
  · exact divisor_loop h ms 0 .un rfl
  · exact divisor_loop h ms 0 .un rfl
theorem ok_divisor {P : Program} {w : World} {K : PySem.W.Frag} {mg : Str → Option Value} {base : Heap} {t : Ad} (T : Txt K mg t) : FnOk P w K mg base CX0 2 t.a_divisor t.d_divisor ["numbers"] (spD K 1 C_divisor) := by
  have sc := sc_divisor
  refine fn_ok (k := 1) T.F_divisor sc_divisor (fun cdv A outer s H E hr => ⟨b_divisor, (psd_cons (psd_set (i := 1) sc.nd rfl (loc_of rfl) pd_int)
  (psd_cons (psd_for PassesOwn.never rfl (pid_seq (pd_var (pv 0))) (pgd_name (i := 2) sc.nd rfl (loc_of rfl))
  (psd_one (psd_set (i := 1) sc.nd rfl (loc_of rfl) (pd_call (ok_divisor_of_two T) mono_divisor_of_two (hr.mono (by decide)) rfl T.m_divisor_of_two T.F_divisor_of_two.kp T.b_divisor_of_two (pad_cons (pd_var (pv 1)) (pad_cons (pd_var (pv 2)) pad_nil))))))
  (psd_one (psd_ret (pd_var (pv 1)))))), rd_divisor⟩)
noncomputable def C_table_divisor : Con := fun ds Φ => ∃ (t : T9), ds = [tr t, .int t.n] ∧ Φ (.int (gcdL (tl t)))
theorem mono_table_divisor : Mono C_table_divisor := fun ds Φ Ψ mo h0 => by
  obtain ⟨t, a, h⟩ := h0
  exact ⟨t, a, mo _ h⟩
noncomputable abbrev b_table_divisor : S3 :=
  (sRet (dCall 1 C_divisor (aCons (dOp dCatT (dOp dCatT (dOp dCatT (dOp dIx (dVar 0) (dC (.int 0))) (dOp dIx (dVar 0) (dC (.int 1)))) (dOp dIx (dVar 0) (dC (.int 2)))) (dTup (aCons (dVar 1) aNil))) aNil)))
theorem rd_table_divisor : ∀ (ds : List D) (Φ : D → Prop), ds.length = 2 → C_table_divisor ds Φ → b_table_divisor (finD Φ) (startD 2 ds) := by
  rintro ds Φ hl ⟨t, rfl, h⟩
  exact ⟨sl_le 6 rfl (by decide), sl_le 9 rfl (by decide), sl_le 1 rfl (by decide), sl_le 10 rfl (by decide), rfl, tl t, .inr rfl, h⟩
theorem ok_table_divisor {P : Program} {w : World} {K : PySem.W.Frag} {mg : Str → Option Value} {base : Heap} {t : Ad} (T : Txt K mg t) : FnOk P w K mg base CX0 3 t.a_table_divisor t.d_table_divisor ["rows", "bottom"] (spD K 2 C_table_divisor) := by
  have sc := sc_table_divisor
  refine fn_ok (k := 2) T.F_table_divisor sc_table_divisor (fun cdv A outer s H E hr => ⟨b_table_divisor, (psd_one (psd_ret (pd_call (ok_divisor T) mono_divisor (hr.mono (by decide)) rfl T.m_divisor T.F_divisor.kp T.b_divisor (pad_cons (pd_op o_catT (pd_op o_catT (pd_op o_catT (pd_ix (pd_var (pv 0)) pd_int (fun _ _ => rfl)) (pd_ix (pd_var (pv 0)) pd_int (fun _ _ => rfl))) (pd_ix (pd_var (pv 0)) pd_int (fun _ _ => rfl))) (pd_tup (pad_cons (pd_var (pv 1)) pad_nil))) pad_nil)))), rd_table_divisor⟩)
noncomputable def C_row_over : Con := fun ds Φ => ∃ (ms : List Int) (n : Int) (k : Nat), ds = [.tup (ms.map .int), .int n] ∧ ms.length ≤ 100 ∧ n ≠ 0 ∧ k ≤ 9000 ∧ Bd k n ∧ Φ (.tup ((ms.map (·.fdiv n)).map .int))
theorem mono_row_over : Mono C_row_over := fun ds Φ Ψ mo h0 => by
  obtain ⟨ms, n, k, a, b, c, d, e, h⟩ := h0
  exact ⟨ms, n, k, a, b, c, d, e, mo _ h⟩
theorem over_loop {Φ : List D → Prop} {n : Int} {k : Nat} {d0 : D} (hn : n ≠ 0) (hk : k ≤ 9000) (bn : Bd k n) : ∀ (ms : List Int) (acc : List D), acc.length + ms.length ≤ 1000 → Φ (acc ++ (ms.map (·.fdiv n)).map .int) →
    COMP (gN 0) (fun _ Φ => Φ true) (dOp (dI CD fun i j => .int (i.fdiv j)) (dVar 0) (dVar 2)) [.un, .val d0, .val (.int n)] (ms.map .int) acc Φ
  | [], acc, _, h => by rw [List.map_nil, List.map_nil, List.append_nil] at h; exact h
  | m :: ms, acc, hl, h => by
    refine ⟨cd_of hn bn hk, small1000 (by simp only [List.length_cons] at hl; omega), ?_⟩
    refine over_loop hn hk bn ms (acc ++ [.int (m.fdiv n)]) (by simp only [List.length_cons, List.length_append, List.length_nil] at hl ⊢; omega) ?_
    rw [List.append_assoc, List.singleton_append]
    exact h
noncomputable abbrev b_row_over : S3 :=
  (sRet (dB cTuple (aCons (dF (fComp 1 (iLT (dVar 0)) (gN 0) (fun _ Φ => Φ true) (dOp (dI CD fun i j => .int (i.fdiv j)) (dVar 0) (dVar 2)))) aNil)))
theorem rd_row_over : ∀ (ds : List D) (Φ : D → Prop), ds.length = 2 → C_row_over ds Φ → b_row_over (finD Φ) (startD 2 ds) := by
  rintro ds Φ hl ⟨ms, n, k, rfl, hm, hn, hk, bn, h⟩
  exact over_loop hn hk bn ms [] (by simp only [List.length_nil]; omega) h
theorem ok_row_over {P : Program} {w : World} {K : PySem.W.Frag} {mg : Str → Option Value} {base : Heap} {t : Ad} (T : Txt K mg t) : FnOk P w K mg base CX0 1 t.a_row_over t.d_row_over ["row", "n"] (spD K 2 C_row_over) := by
  have sc := sc_row_over
  refine fn_ok (k := 0) T.F_row_over sc_row_over (fun cdv A outer s H E hr => ⟨b_row_over, (psd_one (psd_ret (pd_callTy b_tuple rfl T.z_tuple bt_tuple (pad_cons (pd_new (pf_comp (xs := ["number"]) (M := ["row", "n"]) (n := 1) (by rfl) rfl rfl (pid_seq (pd_var (pv 0))) (fun _ _ _ _ => (pgn_name (i := 0) (by decide) (show List.Nodup (["number", "row", "n"] : List Str) by decide +kernel) rfl (by first | exact Or.inl rfl | exact Or.inr rfl))) (fun _ _ _ _ => pbs_nil) (fun _ _ _ _ => (pd_op o_fdiv (pd_var (pv 0)) (pd_var (pv 2)))))) pad_nil)))), rd_row_over⟩)
noncomputable def C_turn_of : Con := fun ds Φ => ∃ (q : Q4) (k : Nat), ds = [qd q] ∧ q ≠ q0 ∧ k ≤ 4000 ∧ Bq k q ∧ Φ (tb (turnT q))
theorem mono_turn_of : Mono C_turn_of := fun ds Φ Ψ mo h0 => by
  obtain ⟨q, k, a, b, c, d, h⟩ := h0
  exact ⟨q, k, a, b, c, d, mo _ h⟩
noncomputable def b_turn_of_4 : S3 :=
  (sRet (dTup (aCons (dTup (aCons (dCall 2 C_row_over (aCons (dOp dIx (dVar 2) (dC (.int 0))) (aCons (dVar 3) aNil))) (aCons (dCall 2 C_row_over (aCons (dOp dIx (dVar 2) (dC (.int 1))) (aCons (dVar 3) aNil))) (aCons (dCall 2 C_row_over (aCons (dOp dIx (dVar 2) (dC (.int 2))) (aCons (dVar 3) aNil))) aNil)))) (aCons (dOp (dI CD fun i j => .int (i.fdiv j)) (dVar 1) (dVar 3)) aNil))))
noncomputable def b_turn_of_3 : S3 :=
  (sSeq (sSet 3 (dCall 2 C_table_divisor (aCons (dVar 2) (aCons (dVar 1) aNil))))
  b_turn_of_4)
noncomputable def b_turn_of_2 : S3 :=
  (sSeq (sSet 2 (dCall 1 C_rows_of (aCons (dVar 0) aNil)))
  b_turn_of_3)
noncomputable def b_turn_of_1 : S3 :=
  (sSeq (sIf (dT (dOp dEq (dVar 1) (dC (.int 0))))
  sNever
  sNext)
  b_turn_of_2)
noncomputable abbrev b_turn_of : S3 :=
  (sSeq (sSet 1 (dCall 1 C_size (aCons (dVar 0) aNil)))
  b_turn_of_1)
theorem rd_turn_of : ∀ (ds : List D) (Φ : D → Prop), ds.length = 1 → C_turn_of ds Φ → b_turn_of (finD Φ) (startD 4 ds) := by
  rintro ds Φ hl ⟨q, k, rfl, h0, hk, bq, h⟩
  have np := qsize_pos h0
  obtain ⟨gp, gb⟩ := gcdL_tl (by rw [rawT_n]; omega) (rawT_bd bq)
  have g0 : gcdL (tl (rawT q)) ≠ 0 := by omega
  refine ⟨rfl, q, k, rfl, by omega, bq, ?_⟩
  show b_turn_of_1 (finD Φ) [.val (qd q), .val (.int (qsize q)), .un, .un]
  unfold b_turn_of_1
  refine tF (decide_eq_false (by omega)) ?_
  refine ⟨rfl, q, k, rfl, hk, bq, rfl, rawT q, rfl, ?_⟩
  show b_turn_of_4 (finD Φ) [.val (qd q), .val (.int (qsize q)), .val (tr (rawT q)), .val (.int (gcdL (tl (rawT q))))]
  have h : Φ (tb (divT (rawT q) (gcdL (tl (rawT q))))) := h
  have hk9 : 2 * k + 3 ≤ 9000 := by omega
  generalize gcdL (tl (rawT q)) = g at *
  generalize hrw : rawT q = t at *
  have tn : qsize q = t.n := by rw [← hrw]; rfl
  rw [tn]
  refine ⟨rfl, [t.p.x, t.p.y, t.p.z], g, 2 * k + 3, rfl, (show 3 ≤ 100 by decide), g0, hk9, gb, ?_⟩
  refine ⟨rfl, [t.q.x, t.q.y, t.q.z], g, 2 * k + 3, rfl, (show 3 ≤ 100 by decide), g0, hk9, gb, ?_⟩
  refine ⟨rfl, [t.r.x, t.r.y, t.r.z], g, 2 * k + 3, rfl, (show 3 ≤ 100 by decide), g0, hk9, gb, ?_⟩
  exact ⟨sl_le 3 rfl (by decide), cd_of g0 gb hk9, sl_le 2 rfl (by decide), h⟩
theorem ok_turn_of {P : Program} {w : World} {K : PySem.W.Frag} {mg : Str → Option Value} {base : Heap} {t : Ad} (T : Txt K mg t) : FnOk P w K mg base CX0 4 t.a_turn_of t.d_turn_of ["quad"] (spD K 1 C_turn_of) := by
  have sc := sc_turn_of
  refine fn_ok (k := 3) T.F_turn_of sc_turn_of (fun cdv A outer s H E hr => ⟨b_turn_of, (psd_cons (psd_set (i := 1) sc.nd rfl (loc_of rfl) (pd_call (ok_size T) mono_size (hr.mono (by decide)) rfl T.m_size T.F_size.kp T.b_size (pad_cons (pd_var (pv 0)) pad_nil)))
  (psd_cons (psd_if (pb_cmp o_eq (pd_var (pv 1)) pd_int (nomark _))
  (psd_one psd_never)
  psd_nil)
  (psd_cons (psd_set (i := 2) sc.nd rfl (loc_of rfl) (pd_call (ok_rows_of T) mono_rows_of (hr.mono (by decide)) rfl T.m_rows_of T.F_rows_of.kp T.b_rows_of (pad_cons (pd_var (pv 0)) pad_nil)))
  (psd_cons (psd_set (i := 3) sc.nd rfl (loc_of rfl) (pd_call (ok_table_divisor T) mono_table_divisor (hr.mono (by decide)) rfl T.m_table_divisor T.F_table_divisor.kp T.b_table_divisor (pad_cons (pd_var (pv 2)) (pad_cons (pd_var (pv 1)) pad_nil))))
  (psd_one (psd_ret (pd_tup (pad_cons (pd_tup (pad_cons (pd_call (ok_row_over T) mono_row_over (hr.mono (by decide)) rfl T.m_row_over T.F_row_over.kp T.b_row_over (pad_cons (pd_ix (pd_var (pv 2)) pd_int (fun _ _ => rfl)) (pad_cons (pd_var (pv 3)) pad_nil))) (pad_cons (pd_call (ok_row_over T) mono_row_over (hr.mono (by decide)) rfl T.m_row_over T.F_row_over.kp T.b_row_over (pad_cons (pd_ix (pd_var (pv 2)) pd_int (fun _ _ => rfl)) (pad_cons (pd_var (pv 3)) pad_nil))) (pad_cons (pd_call (ok_row_over T) mono_row_over (hr.mono (by decide)) rfl T.m_row_over T.F_row_over.kp T.b_row_over (pad_cons (pd_ix (pd_var (pv 2)) pd_int (fun _ _ => rfl)) (pad_cons (pd_var (pv 3)) pad_nil))) pad_nil)))) (pad_cons (pd_op o_fdiv (pd_var (pv 1)) (pd_var (pv 3))) pad_nil))))))))), rd_turn_of⟩)
noncomputable def C_small_quads : Con := fun ds Φ => ds = [] ∧ Φ (.lst (cq4.map tI))
theorem mono_small_quads : Mono C_small_quads := fun ds Φ Ψ mo h0 => by
  obtain ⟨a, h⟩ := h0
  exact ⟨a, mo _ h⟩
noncomputable abbrev b_small_quads_L2 : S3 :=
  (sExt 2 (fComp 1 (iLT (dVar 0)) (gN 0) (fun _ Φ => Φ true) (dOp dCatT (dVar 0) (dTup (aCons (dVar 4) aNil)))))
noncomputable def b_small_quads_L1_2 : S3 :=
  (sFreeze 2 (sSet 0 (dVar 2)))
noncomputable def b_small_quads_L1_1 : S3 :=
  (sSeq (sFor (iT (dTup (aCons (dU dNeg (dC (.int 1))) (aCons (dC (.int 0)) (aCons (dC (.int 1)) aNil))))) (gN 3)
  b_small_quads_L2)
  b_small_quads_L1_2)
noncomputable abbrev b_small_quads_L1 : S3 :=
  (sSeq (sOwn 2 (fLst aNil))
  b_small_quads_L1_1)
noncomputable def b_small_quads_2 : S3 :=
  (sRet (dVar 0))
noncomputable def b_small_quads_1 : S3 :=
  (sSeq (sFor (iR1 (aCons (dC (.int 4)) aNil)) (gN 1)
  b_small_quads_L1)
  b_small_quads_2)
noncomputable abbrev b_small_quads : S3 :=
  (sSeq (sSet 0 (dF (fLst (aCons (dTup aNil) aNil))))
  b_small_quads_1)
theorem rd_small_quads : ∀ (ds : List D) (Φ : D → Prop), ds.length = 0 → C_small_quads ds Φ → b_small_quads (finD Φ) (startD 4 ds) := by
  rintro ds Φ hl ⟨rfl, h⟩
  have step : ∀ (f : List (List Int)) (s1 s2 s3 : Sl) (i : D) (k : (F3 → Prop) → Fr3 → Prop) (Ψ : F3 → Prop), f.length ≤ 27 → (∀ ns ∈ f, ns.length ≤ 4) → (∀ s2' s3', k Ψ [.val (.lst ((sqF f).map tI)), .val i, s2', s3']) → b_small_quads_L1 (loopS k Ψ) [.val (.lst (f.map tI)), .val i, s2, s3] := by
    intro f s1 s2 s3 i k Ψ lf hf hk
    refine ⟨sl_le 0 rfl (by decide), sl_le 3 rfl (by decide), ?_⟩
    have ext : ∀ (n : Int) (acc : List D) (s3 : Sl) (Θ : F3 → Prop) (c : (F3 → Prop) → Fr3 → Prop), acc.length ≤ 100 → (c Θ [.val (.lst (f.map tI)), .val i, .own (acc ++ f.map fun ns => tI (ns ++ [n])), .val (.int n)]) → b_small_quads_L2 (loopS c Θ) [.val (.lst (f.map tI)), .val i, .own acc, .val (.int n)] := by
      intro n acc s3 Θ c la hc
      refine COMP_list tI (fun ns => tI (ns ++ [n])) f rfl (by omega) (fun ns hns X hX => ?_) ⟨?_, hc⟩
      · refine ⟨sl_le 1 rfl (by decide), ?_, ?_⟩
        · rw [List.length_map]; exact small_le (by have := hf ns hns; simp only [List.length_cons, List.length_nil]; omega)
        · have e : (ns.map D.int) ++ [D.int n] = (ns ++ [n]).map D.int := by rw [List.map_append]; rfl
          rw [e]; exact hX
      · rw [List.length_map]; exact small_le (by omega)
    show FOR (gN 3) b_small_quads_L2 [.int (-1), .int 0, .int 1] _ [.val (.lst (f.map tI)), .val i, .own [], s3]
    refine FOR_cons (ext (-1) [] .un _ _ (by decide) ?_)
    refine FOR_cons (ext 0 _ .un _ _ (by simp; omega) ?_)
    refine FOR_cons (ext 1 _ .un _ _ (by simp; omega) (FOR_nil ?_))
    have e : [] ++ (f.map fun ns => tI (ns ++ [-1])) ++ (f.map fun ns => tI (ns ++ [0])) ++ (f.map fun ns => tI (ns ++ [1])) = (sqF f).map tI := by
      simp only [sqF, List.map_append, List.map_map, List.nil_append]; rfl
    have := hk (.val (.lst ((sqF f).map tI))) (.val (.int 1))
    rw [← e] at this
    exact this
  refine ⟨sl_le 0 rfl (by decide), sl_le 1 rfl (by decide), show (-(2 ^ 62) : Int) ≤ 4 by decide, show (4 : Int) < 2 ^ 62 by decide, ?_⟩
  show FOR (gN 1) b_small_quads_L1 [.int 0, .int 1, .int 2, .int 3] (thenS b_small_quads_2 (finD Φ)) [.val (.lst (([[]] : List (List Int)).map tI)), .un, .un, .un]
  refine FOR_cons (step [[]] .un _ _ _ _ _ (by decide) (by decide) fun a2 a3 => ?_)
  refine FOR_cons (step _ .un _ _ _ _ _ (by decide) (by decide) fun b2 b3 => ?_)
  refine FOR_cons (step _ .un _ _ _ _ _ (by decide) (by decide) fun c2 c3 => ?_)
  refine FOR_cons (step _ .un _ _ _ _ _ (by decide) (by decide) fun d2 d3 => FOR_nil ?_)
  exact h
theorem ok_small_quads {P : Program} {w : World} {K : PySem.W.Frag} {mg : Str → Option Value} {base : Heap} {t : Ad} (T : Txt K mg t) : FnOk P w K mg base CX0 1 t.a_small_quads t.d_small_quads [] (spD K 0 C_small_quads) := by
  have sc := sc_small_quads
  refine fn_ok (k := 0) T.F_small_quads sc_small_quads (fun cdv A outer s H E hr => ⟨b_small_quads, (psd_cons (psd_set (i := 0) sc.nd rfl (loc_of rfl) (pd_new (pf_lst (pad_cons (pd_tup pad_nil) pad_nil))))
  (psd_cons (psd_for PassesOwn.never rfl (pid_range1 rfl T.z_range (pad_cons pd_int pad_nil)) (pgd_name (i := 1) sc.nd rfl (loc_of rfl))
  (psd_cons (psd_own (i := 2) sc.nd rfl (loc_of rfl) (pf_lst pad_nil))
  (psd_cons (psd_for PassesOwn.never rfl (pid_tup (pd_tup (pad_cons (pd_neg pd_int) (pad_cons pd_int (pad_cons pd_int pad_nil))))) (pgd_name (i := 3) sc.nd rfl (loc_of rfl))
  (psd_one (psd_extend (pv 2) (pf_comp (xs := ["begun"]) (M := ["found", "place", "longer", "number"]) (n := 1) (by rfl) rfl rfl (pid_seq (pd_var (pv 0))) (fun _ _ _ _ => (pgn_name (i := 0) (by decide) (show List.Nodup (["begun", "found", "place", "longer", "number"] : List Str) by decide +kernel) rfl (by first | exact Or.inl rfl | exact Or.inr rfl))) (fun _ _ _ _ => pbs_nil) (fun _ _ _ _ => (pd_op o_catT (pd_var (pv 0)) (pd_tup (pad_cons (pd_var (pv 4)) pad_nil))))))))
  (psd_freeze 2 (psd_one (psd_set (i := 0) sc.nd rfl (loc_of rfl) (pd_var (pv 2))))))))
  (psd_one (psd_ret (pd_var (pv 0)))))), rd_small_quads⟩)
noncomputable def C_odd_part : Con := fun ds Φ => ∃ n : Int, (n = 1 ∨ n = 2 ∨ n = 3 ∨ n = 4) ∧ ds = [.int n] ∧ Φ (.int (if n = 3 then 3 else 1))
theorem mono_odd_part : Mono C_odd_part := fun ds Φ Ψ mo h0 => by
  obtain ⟨n, a, b, h⟩ := h0
  exact ⟨n, a, b, mo _ h⟩
noncomputable abbrev b_odd_part : S3 :=
  (sRet (dOp (dI CD fun i j => .int (i.fdiv j)) (dVar 0) (dOp (dI0 fun i j => .int (Builtin.bitAnd i j)) (dVar 0) (dU dNeg (dVar 0)))))
theorem rd_odd_part : ∀ (ds : List D) (Φ : D → Prop), ds.length = 1 → C_odd_part ds Φ → b_odd_part (finD Φ) (startD 1 ds) := by
  rintro ds Φ hl ⟨n, hn, rfl, h⟩
  rcases hn with rfl | rfl | rfl | rfl
  · exact ⟨cd_lit (by decide), h⟩
  · exact ⟨cd_lit (by decide), h⟩
  · exact ⟨cd_lit (by decide), h⟩
  · exact ⟨cd_lit (by decide), h⟩
theorem ok_odd_part {P : Program} {w : World} {K : PySem.W.Frag} {mg : Str → Option Value} {base : Heap} {t : Ad} (T : Txt K mg t) : FnOk P w K mg base CX0 1 t.a_odd_part t.d_odd_part ["n"] (spD K 1 C_odd_part) := by
  have sc := sc_odd_part
  refine fn_ok (k := 0) T.F_odd_part sc_odd_part (fun cdv A outer s H E hr => ⟨b_odd_part, (psd_one (psd_ret (pd_op o_fdiv (pd_var (pv 0)) (pd_op o_and (pd_var (pv 0)) (pd_neg (pd_var (pv 0))))))), rd_odd_part⟩)
noncomputable def C_is_cube_quad : Con := fun ds Φ => ∃ ns ∈ cq4, ds = [tI ns] ∧ Φ (.bl (isC ns))
theorem mono_is_cube_quad : Mono C_is_cube_quad := fun ds Φ Ψ mo h0 => by
  obtain ⟨ns, a, b, h⟩ := h0
  exact ⟨ns, a, b, mo _ h⟩
noncomputable abbrev b_is_cube_quad : S3 :=
  (sRet (dAnd (dOp dGtT (dVar 0) (dTup (aCons (dC (.int 0)) (aCons (dC (.int 0)) (aCons (dC (.int 0)) (aCons (dC (.int 0)) aNil)))))) (dOp dEq (dCall 1 C_odd_part (aCons (dCall 1 C_size (aCons (dVar 0) aNil)) aNil)) (dC (.int 1)))))
theorem rd_is_cube_quad : ∀ (ds : List D) (Φ : D → Prop), ds.length = 1 → C_is_cube_quad ds Φ → b_is_cube_quad (finD Φ) (startD 1 ds) := by
  rintro ds Φ hl ⟨ns, hm, rfl, h⟩
  obtain ⟨q, rfl, ha, hb, hc, hd⟩ := cq4_mem hm
  refine ⟨sl_le 4 rfl (by decide), [q.a, q.b, q.c, q.d], [0, 0, 0, 0], rfl, rfl, ?_⟩
  have e : isC [q.a, q.b, q.c, q.d] = (HT.lexLt [0, 0, 0, 0] [q.a, q.b, q.c, q.d] && !decide (qsize q = 3)) := rfl
  rw [e] at h
  refine tst (fun hx => ?_) fun hx => ?_
  · have hx : HT.lexLt [0, 0, 0, 0] [q.a, q.b, q.c, q.d] = true := hx
    obtain ⟨hs, _⟩ := size_small ha hb hc hd hx
    refine ⟨rfl, q, 1, rfl, by decide, bq_small ha hb hc hd, rfl, qsize q, hs, rfl, ?_⟩
    rw [hx, Bool.true_and] at h
    show Φ (.bl (decide ((if qsize q = 3 then (3 : Int) else 1) = 1)))
    have e2 : decide ((if qsize q = 3 then (3 : Int) else 1) = 1) = !decide (qsize q = 3) := by split <;> simp [*]
    rw [e2]; exact h
  · have hx : HT.lexLt [0, 0, 0, 0] [q.a, q.b, q.c, q.d] = false := hx
    rw [hx, Bool.false_and] at h
    exact h
theorem ok_is_cube_quad {P : Program} {w : World} {K : PySem.W.Frag} {mg : Str → Option Value} {base : Heap} {t : Ad} (T : Txt K mg t) : FnOk P w K mg base CX0 3 t.a_is_cube_quad t.d_is_cube_quad ["quad"] (spD K 1 C_is_cube_quad) := by
  have sc := sc_is_cube_quad
  refine fn_ok (k := 2) T.F_is_cube_quad sc_is_cube_quad (fun cdv A outer s H E hr => ⟨b_is_cube_quad, (psd_one (psd_ret (pd_and (pd_cmp (o_gtT (hu3 hr)) (pd_var (pv 0)) (pd_tup (pad_cons pd_int (pad_cons pd_int (pad_cons pd_int (pad_cons pd_int pad_nil))))) (nomark _)) (pd_one (pd_cmp o_eq (pd_call (ok_odd_part T) mono_odd_part (hr.mono (by decide)) rfl T.m_odd_part T.F_odd_part.kp T.b_odd_part (pad_cons (pd_call (ok_size T) mono_size (hr.mono (by decide)) rfl T.m_size T.F_size.kp T.b_size (pad_cons (pd_var (pv 0)) pad_nil)) pad_nil)) pd_int (nomark _)))))), rd_is_cube_quad⟩)
noncomputable def C_cube_turns : Con := fun ds Φ => ds = [] ∧ Φ (.lst (cubeL.map tb))
theorem mono_cube_turns : Mono C_cube_turns := fun ds Φ Ψ mo h0 => by
  obtain ⟨a, h⟩ := h0
  exact ⟨a, mo _ h⟩
noncomputable abbrev b_cube_turns : A3 :=
  (nRet (fSortX (aCons (dF (fComp 1 (iLT (dCall 0 C_small_quads aNil)) (gN 0) (dT (dCall 1 C_is_cube_quad (aCons (dVar 0) aNil))) (dCall 1 C_turn_of (aCons (dVar 0) aNil)))) aNil)))
theorem rd_cube_turns : ∀ (ds : List D) (Φ : List D → Prop), ds.length = 0 → C_cube_turns ds (onL Φ) → b_cube_turns (startD 0 ds) Φ := by
  rintro ds Φ hl ⟨rfl, h⟩
  refine ⟨rfl, rfl, ?_⟩
  have key : ∀ ns ∈ cq4, isC ns = true → ∃ q : Q4, q ≠ q0 ∧ Bq 1 q ∧ tI ns = qd q ∧ toQ ns = q := fun ns hm hc => by
    obtain ⟨q, rfl, ha, hb, hc', hd⟩ := cq4_mem hm
    have hx : HT.lexLt [0, 0, 0, 0] [q.a, q.b, q.c, q.d] = true := by
      unfold isC at hc; exact (Bool.and_eq_true _ _ ▸ hc).1
    exact ⟨q, (size_small ha hb hc' hd hx).2, bq_small ha hb hc' hd, rfl, rfl⟩
  refine COMP_fil tI (fun ns => tb (turnT (toQ ns))) isC cq4 rfl (by decide) (fun ns hm Ψ hΨ => ?_) (fun ns hm hc Ψ hΨ => ?_) ?_
  · exact ⟨rfl, ns, hm, rfl, hΨ⟩
  · obtain ⟨q, q0', bq, e1, e2⟩ := key ns hm hc
    rw [e2] at hΨ
    refine ⟨rfl, q, 1, ?_, q0', by decide, bq, hΨ⟩
    show [tI ns] = [qd q]
    rw [e1]
  have ln : ((cq4.filter isC).map fun ns => tb (turnT (toQ ns))).length = 24 := by rw [List.length_map]; exact isC_many
  refine ⟨fun d hd => ?_, by rw [ln]; decide, by rw [ln]; decide, ?_⟩
  · obtain ⟨ns, _, rfl⟩ := List.mem_map.mp hd
    exact sort_tb _
  · rw [sort24]; exact h
theorem ok_cube_turns {P : Program} {w : World} {K : PySem.W.Frag} {mg : Str → Option Value} {base : Heap} {t : Ad} (T : Txt K mg t) : FnOk P w K mg base CX0 5 t.a_cube_turns t.d_cube_turns [] (spN K 0 C_cube_turns) := by
  have sc := sc_cube_turns
  refine fnN_ok (mo := mono_cube_turns) (k := 4) T.F_cube_turns sc_cube_turns (fun cdv A outer s H E hr => ⟨b_cube_turns, (psn_ret (pf_sortX (hu3 hr) rfl T.z_sorted (pad_cons (pd_new (pf_comp (xs := ["quad"]) (M := []) (n := 1) (by rfl) rfl rfl (pid_seq (pd_call0 (ok_small_quads T) mono_small_quads (hr.mono (by decide)) rfl T.m_small_quads T.F_small_quads.kp T.b_small_quads)) (fun _ _ _ _ => (pgn_name (i := 0) (by decide) (show List.Nodup (["quad"] : List Str) by decide +kernel) rfl (by first | exact Or.inl rfl | exact Or.inr rfl))) (fun _ _ _ _ => (pbs_one (pb_val (pd_call (ok_is_cube_quad T) mono_is_cube_quad (hr.mono (by decide)) rfl T.m_is_cube_quad T.F_is_cube_quad.kp T.b_is_cube_quad (pad_cons (pd_var (pv 0)) pad_nil))))) (fun _ _ _ _ => (pd_call (ok_turn_of T) mono_turn_of (hr.mono (by decide)) rfl T.m_turn_of T.F_turn_of.kp T.b_turn_of (pad_cons (pd_var (pv 0)) pad_nil))))) pad_nil))), rd_cube_turns⟩)
noncomputable def C_product : Con := fun ds Φ => ∃ (p q : Q4) (k : Nat), ds = [qd p, qd q] ∧ k ≤ 60000000 ∧ Bq k p ∧ Bq k q ∧ Φ (qd (qmul p q))
theorem mono_product : Mono C_product := fun ds Φ Ψ mo h0 => by
  obtain ⟨p, q, k, a, b, c, d, h⟩ := h0
  exact ⟨p, q, k, a, b, c, d, mo _ h⟩
noncomputable abbrev b_product : S3 :=
  (sRet (dTup (aCons (dOp (dI0 fun i j => .int (i - j)) (dOp (dI0 fun i j => .int (i - j)) (dOp (dI0 fun i j => .int (i - j)) (dOp (dI IntMulOk fun i j => .int (i * j)) (dOp dIx (dVar 0) (dC (.int 0))) (dOp dIx (dVar 1) (dC (.int 0)))) (dOp (dI IntMulOk fun i j => .int (i * j)) (dOp dIx (dVar 0) (dC (.int 1))) (dOp dIx (dVar 1) (dC (.int 1))))) (dOp (dI IntMulOk fun i j => .int (i * j)) (dOp dIx (dVar 0) (dC (.int 2))) (dOp dIx (dVar 1) (dC (.int 2))))) (dOp (dI IntMulOk fun i j => .int (i * j)) (dOp dIx (dVar 0) (dC (.int 3))) (dOp dIx (dVar 1) (dC (.int 3))))) (aCons (dOp (dI0 fun i j => .int (i - j)) (dOp (dI0 fun i j => .int (i + j)) (dOp (dI0 fun i j => .int (i + j)) (dOp (dI IntMulOk fun i j => .int (i * j)) (dOp dIx (dVar 0) (dC (.int 0))) (dOp dIx (dVar 1) (dC (.int 1)))) (dOp (dI IntMulOk fun i j => .int (i * j)) (dOp dIx (dVar 0) (dC (.int 1))) (dOp dIx (dVar 1) (dC (.int 0))))) (dOp (dI IntMulOk fun i j => .int (i * j)) (dOp dIx (dVar 0) (dC (.int 2))) (dOp dIx (dVar 1) (dC (.int 3))))) (dOp (dI IntMulOk fun i j => .int (i * j)) (dOp dIx (dVar 0) (dC (.int 3))) (dOp dIx (dVar 1) (dC (.int 2))))) (aCons (dOp (dI0 fun i j => .int (i + j)) (dOp (dI0 fun i j => .int (i + j)) (dOp (dI0 fun i j => .int (i - j)) (dOp (dI IntMulOk fun i j => .int (i * j)) (dOp dIx (dVar 0) (dC (.int 0))) (dOp dIx (dVar 1) (dC (.int 2)))) (dOp (dI IntMulOk fun i j => .int (i * j)) (dOp dIx (dVar 0) (dC (.int 1))) (dOp dIx (dVar 1) (dC (.int 3))))) (dOp (dI IntMulOk fun i j => .int (i * j)) (dOp dIx (dVar 0) (dC (.int 2))) (dOp dIx (dVar 1) (dC (.int 0))))) (dOp (dI IntMulOk fun i j => .int (i * j)) (dOp dIx (dVar 0) (dC (.int 3))) (dOp dIx (dVar 1) (dC (.int 1))))) (aCons (dOp (dI0 fun i j => .int (i + j)) (dOp (dI0 fun i j => .int (i - j)) (dOp (dI0 fun i j => .int (i + j)) (dOp (dI IntMulOk fun i j => .int (i * j)) (dOp dIx (dVar 0) (dC (.int 0))) (dOp dIx (dVar 1) (dC (.int 3)))) (dOp (dI IntMulOk fun i j => .int (i * j)) (dOp dIx (dVar 0) (dC (.int 1))) (dOp dIx (dVar 1) (dC (.int 2))))) (dOp (dI IntMulOk fun i j => .int (i * j)) (dOp dIx (dVar 0) (dC (.int 2))) (dOp dIx (dVar 1) (dC (.int 1))))) (dOp (dI IntMulOk fun i j => .int (i * j)) (dOp dIx (dVar 0) (dC (.int 3))) (dOp dIx (dVar 1) (dC (.int 0))))) aNil))))))
theorem rd_product : ∀ (ds : List D) (Φ : D → Prop), ds.length = 2 → C_product ds Φ → b_product (finD Φ) (startD 2 ds) := by
  rintro ds Φ hl ⟨p, q, k, rfl, hk, hp, hq, h⟩
  have mk : ∀ {x y : Int}, Bd k x → Bd k y → IntMulOk x y := fun hx hy => mulOk hx hy (by omega)
  exact ⟨mk hp.a hq.a, mk hp.b hq.b, mk hp.c hq.c, mk hp.d hq.d, mk hp.a hq.b, mk hp.b hq.a, mk hp.c hq.d, mk hp.d hq.c, mk hp.a hq.c, mk hp.b hq.d, mk hp.c hq.a, mk hp.d hq.b, mk hp.a hq.d, mk hp.b hq.c, mk hp.c hq.b, mk hp.d hq.a, sl_le 4 rfl (by decide), h⟩
theorem ok_product {P : Program} {w : World} {K : PySem.W.Frag} {mg : Str → Option Value} {base : Heap} {t : Ad} (T : Txt K mg t) : FnOk P w K mg base CX0 1 t.a_product t.d_product ["one", "other"] (spD K 2 C_product) := by
  have sc := sc_product
  refine fn_ok (k := 0) T.F_product sc_product (fun cdv A outer s H E hr => ⟨b_product, (psd_one (psd_ret (pd_tup (pad_cons (pd_op o_sub (pd_op o_sub (pd_op o_sub (pd_op o_mul (pd_ix (pd_var (pv 0)) pd_int (fun _ _ => rfl)) (pd_ix (pd_var (pv 1)) pd_int (fun _ _ => rfl))) (pd_op o_mul (pd_ix (pd_var (pv 0)) pd_int (fun _ _ => rfl)) (pd_ix (pd_var (pv 1)) pd_int (fun _ _ => rfl)))) (pd_op o_mul (pd_ix (pd_var (pv 0)) pd_int (fun _ _ => rfl)) (pd_ix (pd_var (pv 1)) pd_int (fun _ _ => rfl)))) (pd_op o_mul (pd_ix (pd_var (pv 0)) pd_int (fun _ _ => rfl)) (pd_ix (pd_var (pv 1)) pd_int (fun _ _ => rfl)))) (pad_cons (pd_op o_sub (pd_op o_add (pd_op o_add (pd_op o_mul (pd_ix (pd_var (pv 0)) pd_int (fun _ _ => rfl)) (pd_ix (pd_var (pv 1)) pd_int (fun _ _ => rfl))) (pd_op o_mul (pd_ix (pd_var (pv 0)) pd_int (fun _ _ => rfl)) (pd_ix (pd_var (pv 1)) pd_int (fun _ _ => rfl)))) (pd_op o_mul (pd_ix (pd_var (pv 0)) pd_int (fun _ _ => rfl)) (pd_ix (pd_var (pv 1)) pd_int (fun _ _ => rfl)))) (pd_op o_mul (pd_ix (pd_var (pv 0)) pd_int (fun _ _ => rfl)) (pd_ix (pd_var (pv 1)) pd_int (fun _ _ => rfl)))) (pad_cons (pd_op o_add (pd_op o_add (pd_op o_sub (pd_op o_mul (pd_ix (pd_var (pv 0)) pd_int (fun _ _ => rfl)) (pd_ix (pd_var (pv 1)) pd_int (fun _ _ => rfl))) (pd_op o_mul (pd_ix (pd_var (pv 0)) pd_int (fun _ _ => rfl)) (pd_ix (pd_var (pv 1)) pd_int (fun _ _ => rfl)))) (pd_op o_mul (pd_ix (pd_var (pv 0)) pd_int (fun _ _ => rfl)) (pd_ix (pd_var (pv 1)) pd_int (fun _ _ => rfl)))) (pd_op o_mul (pd_ix (pd_var (pv 0)) pd_int (fun _ _ => rfl)) (pd_ix (pd_var (pv 1)) pd_int (fun _ _ => rfl)))) (pad_cons (pd_op o_add (pd_op o_sub (pd_op o_add (pd_op o_mul (pd_ix (pd_var (pv 0)) pd_int (fun _ _ => rfl)) (pd_ix (pd_var (pv 1)) pd_int (fun _ _ => rfl))) (pd_op o_mul (pd_ix (pd_var (pv 0)) pd_int (fun _ _ => rfl)) (pd_ix (pd_var (pv 1)) pd_int (fun _ _ => rfl)))) (pd_op o_mul (pd_ix (pd_var (pv 0)) pd_int (fun _ _ => rfl)) (pd_ix (pd_var (pv 1)) pd_int (fun _ _ => rfl)))) (pd_op o_mul (pd_ix (pd_var (pv 0)) pd_int (fun _ _ => rfl)) (pd_ix (pd_var (pv 1)) pd_int (fun _ _ => rfl)))) pad_nil))))))), rd_product⟩)
noncomputable def C_leads_below_nought : Con := fun ds Φ => ∃ q : Q4, ds = [qd q] ∧ Φ (.bl (low q))
theorem mono_leads_below_nought : Mono C_leads_below_nought := fun ds Φ Ψ mo h0 => by
  obtain ⟨q, a, h⟩ := h0
  exact ⟨q, a, mo _ h⟩
noncomputable abbrev b_leads_below_nought : S3 :=
  (sRet (dOp dLtT (dVar 0) (dTup (aCons (dC (.int 0)) (aCons (dC (.int 0)) (aCons (dC (.int 0)) (aCons (dC (.int 0)) aNil)))))))
theorem rd_leads_below_nought : ∀ (ds : List D) (Φ : D → Prop), ds.length = 1 → C_leads_below_nought ds Φ → b_leads_below_nought (finD Φ) (startD 1 ds) := by
  rintro ds Φ hl ⟨q, rfl, h⟩
  exact ⟨sl_le 4 rfl (by decide), ql q, [0, 0, 0, 0], rfl, rfl, h⟩
theorem ok_leads_below_nought {P : Program} {w : World} {K : PySem.W.Frag} {mg : Str → Option Value} {base : Heap} {t : Ad} (T : Txt K mg t) : FnOk P w K mg base CX0 1 t.a_leads_below_nought t.d_leads_below_nought ["quad"] (spD K 1 C_leads_below_nought) := by
  have sc := sc_leads_below_nought
  refine fn_ok (k := 0) T.F_leads_below_nought sc_leads_below_nought (fun cdv A outer s H E hr => ⟨b_leads_below_nought, (psd_one (psd_ret (pd_cmp (o_ltT (hu3 hr)) (pd_var (pv 0)) (pd_tup (pad_cons pd_int (pad_cons pd_int (pad_cons pd_int (pad_cons pd_int pad_nil))))) (nomark _)))), rd_leads_below_nought⟩)
noncomputable def C_plain : Con := fun ds Φ => ∃ (q : Q4) (k : Nat), ds = [qd q] ∧ k ≤ 9000 ∧ Bq k q ∧ q ≠ q0 ∧ Φ (qd (qplain q))
theorem mono_plain : Mono C_plain := fun ds Φ Ψ mo h0 => by
  obtain ⟨q, k, a, b, c, d, h⟩ := h0
  exact ⟨q, k, a, b, c, d, mo _ h⟩
noncomputable def b_plain_3 : S3 :=
  (sRet (dCall 2 C_row_over (aCons (dVar 0) (aCons (dVar 1) aNil))))
noncomputable def b_plain_2 : S3 :=
  (sSeq (sIf (dT (dCall 1 C_leads_below_nought (aCons (dVar 0) aNil)))
  (sSet 1 (dU dNeg (dVar 1)))
  sNext)
  b_plain_3)
noncomputable def b_plain_1 : S3 :=
  (sSeq (sIf (dT (dOp dEq (dVar 1) (dC (.int 0))))
  sNever
  sNext)
  b_plain_2)
noncomputable abbrev b_plain : S3 :=
  (sSeq (sSet 1 (dCall 1 C_divisor (aCons (dVar 0) aNil)))
  b_plain_1)
theorem rd_plain : ∀ (ds : List D) (Φ : D → Prop), ds.length = 1 → C_plain ds Φ → b_plain (finD Φ) (startD 2 ds) := by
  rintro ds Φ hl ⟨q, k, rfl, hk, bq, h0, h⟩
  have gz : gcdL (ql q) ≠ 0 := fun z => h0 (ql_zero z)
  try unfold b_plain; try unfold b_plain_1; try unfold b_plain_2; try unfold b_plain_3
  refine ⟨rfl, ql q, .inr rfl, tF (decide_eq_false gz) ?_⟩
  refine ⟨rfl, q, rfl, tst (fun hc => ?_) (fun hc => ?_)⟩
  · have e : shr q = -gcdL (ql q) := by unfold shr; rw [if_pos hc]
    have hn := shr_ne h0
    have hb := shr_bd bq
    have h : Φ (.tup (((ql q).map (·.fdiv (shr q))).map .int)) := h
    rw [e] at hn hb h
    exact ⟨rfl, ql q, -gcdL (ql q), k, rfl, (show 4 ≤ 100 by decide), hn, hk, hb, h⟩
  · have e : shr q = gcdL (ql q) := by unfold shr; rw [if_neg (by rw [hc]; decide)]
    have hn := shr_ne h0
    have hb := shr_bd bq
    have h : Φ (.tup (((ql q).map (·.fdiv (shr q))).map .int)) := h
    rw [e] at hn hb h
    exact ⟨rfl, ql q, gcdL (ql q), k, rfl, (show 4 ≤ 100 by decide), hn, hk, hb, h⟩
theorem ok_plain {P : Program} {w : World} {K : PySem.W.Frag} {mg : Str → Option Value} {base : Heap} {t : Ad} (T : Txt K mg t) : FnOk P w K mg base CX0 3 t.a_plain t.d_plain ["quad"] (spD K 1 C_plain) := by
  have sc := sc_plain
  refine fn_ok (k := 2) T.F_plain sc_plain (fun cdv A outer s H E hr => ⟨b_plain, (psd_cons (psd_set (i := 1) sc.nd rfl (loc_of rfl) (pd_call (ok_divisor T) mono_divisor (hr.mono (by decide)) rfl T.m_divisor T.F_divisor.kp T.b_divisor (pad_cons (pd_var (pv 0)) pad_nil)))
  (psd_cons (psd_if (pb_cmp o_eq (pd_var (pv 1)) pd_int (nomark _))
  (psd_one psd_never)
  psd_nil)
  (psd_cons (psd_if (pb_val (pd_call (ok_leads_below_nought T) mono_leads_below_nought (hr.mono (by decide)) rfl T.m_leads_below_nought T.F_leads_below_nought.kp T.b_leads_below_nought (pad_cons (pd_var (pv 0)) pad_nil)))
  (psd_one (psd_set (i := 1) sc.nd rfl (loc_of rfl) (pd_neg (pd_var (pv 1)))))
  psd_nil)
  (psd_one (psd_ret (pd_call (ok_row_over T) mono_row_over (hr.mono (by decide)) rfl T.m_row_over T.F_row_over.kp T.b_row_over (pad_cons (pd_var (pv 0)) (pad_cons (pd_var (pv 1)) pad_nil)))))))), rd_plain⟩)
noncomputable def C_multiples_of_quad : Con := fun ds Φ => ∃ t : T9, ds = [tb t] ∧ Φ (.lst [qd (m1 t), qd (m2 t), qd (m3 t), qd (m4 t)])
theorem mono_multiples_of_quad : Mono C_multiples_of_quad := fun ds Φ Ψ mo h0 => by
  obtain ⟨t, a, h⟩ := h0
  exact ⟨t, a, mo _ h⟩
noncomputable def b_multiples_of_quad_11 : S3 :=
  (sRet (dF (fLst (aCons (dTup (aCons (dOp (dI0 fun i j => .int (i + j)) (dOp (dI0 fun i j => .int (i + j)) (dOp (dI0 fun i j => .int (i + j)) (dVar 2) (dVar 3)) (dVar 4)) (dVar 5)) (aCons (dVar 6) (aCons (dVar 7) (aCons (dVar 8) aNil))))) (aCons (dTup (aCons (dVar 6) (aCons (dOp (dI0 fun i j => .int (i - j)) (dOp (dI0 fun i j => .int (i - j)) (dOp (dI0 fun i j => .int (i + j)) (dVar 2) (dVar 3)) (dVar 4)) (dVar 5)) (aCons (dVar 9) (aCons (dVar 10) aNil))))) (aCons (dTup (aCons (dVar 7) (aCons (dVar 9) (aCons (dOp (dI0 fun i j => .int (i - j)) (dOp (dI0 fun i j => .int (i + j)) (dOp (dI0 fun i j => .int (i - j)) (dVar 2) (dVar 3)) (dVar 4)) (dVar 5)) (aCons (dVar 11) aNil))))) (aCons (dTup (aCons (dVar 8) (aCons (dVar 10) (aCons (dVar 11) (aCons (dOp (dI0 fun i j => .int (i + j)) (dOp (dI0 fun i j => .int (i - j)) (dOp (dI0 fun i j => .int (i - j)) (dVar 2) (dVar 3)) (dVar 4)) (dVar 5)) aNil))))) aNil)))))))
noncomputable def b_multiples_of_quad_10 : S3 :=
  (sSeq (sSet 11 (dOp (dI0 fun i j => .int (i + j)) (dOp dIx (dOp dIx (dVar 1) (dC (.int 2))) (dC (.int 1))) (dOp dIx (dOp dIx (dVar 1) (dC (.int 1))) (dC (.int 2)))))
  b_multiples_of_quad_11)
noncomputable def b_multiples_of_quad_9 : S3 :=
  (sSeq (sSet 10 (dOp (dI0 fun i j => .int (i + j)) (dOp dIx (dOp dIx (dVar 1) (dC (.int 0))) (dC (.int 2))) (dOp dIx (dOp dIx (dVar 1) (dC (.int 2))) (dC (.int 0)))))
  b_multiples_of_quad_10)
noncomputable def b_multiples_of_quad_8 : S3 :=
  (sSeq (sSet 9 (dOp (dI0 fun i j => .int (i + j)) (dOp dIx (dOp dIx (dVar 1) (dC (.int 1))) (dC (.int 0))) (dOp dIx (dOp dIx (dVar 1) (dC (.int 0))) (dC (.int 1)))))
  b_multiples_of_quad_9)
noncomputable def b_multiples_of_quad_7 : S3 :=
  (sSeq (sSet 8 (dOp (dI0 fun i j => .int (i - j)) (dOp dIx (dOp dIx (dVar 1) (dC (.int 1))) (dC (.int 0))) (dOp dIx (dOp dIx (dVar 1) (dC (.int 0))) (dC (.int 1)))))
  b_multiples_of_quad_8)
noncomputable def b_multiples_of_quad_6 : S3 :=
  (sSeq (sSet 7 (dOp (dI0 fun i j => .int (i - j)) (dOp dIx (dOp dIx (dVar 1) (dC (.int 0))) (dC (.int 2))) (dOp dIx (dOp dIx (dVar 1) (dC (.int 2))) (dC (.int 0)))))
  b_multiples_of_quad_7)
noncomputable def b_multiples_of_quad_5 : S3 :=
  (sSeq (sSet 6 (dOp (dI0 fun i j => .int (i - j)) (dOp dIx (dOp dIx (dVar 1) (dC (.int 2))) (dC (.int 1))) (dOp dIx (dOp dIx (dVar 1) (dC (.int 1))) (dC (.int 2)))))
  b_multiples_of_quad_6)
noncomputable def b_multiples_of_quad_4 : S3 :=
  (sSeq (sSet 5 (dOp dIx (dOp dIx (dVar 1) (dC (.int 2))) (dC (.int 2))))
  b_multiples_of_quad_5)
noncomputable def b_multiples_of_quad_3 : S3 :=
  (sSeq (sSet 4 (dOp dIx (dOp dIx (dVar 1) (dC (.int 1))) (dC (.int 1))))
  b_multiples_of_quad_4)
noncomputable def b_multiples_of_quad_2 : S3 :=
  (sSeq (sSet 3 (dOp dIx (dOp dIx (dVar 1) (dC (.int 0))) (dC (.int 0))))
  b_multiples_of_quad_3)
noncomputable def b_multiples_of_quad_1 : S3 :=
  (sSeq (sSet 2 (dOp dIx (dVar 0) (dC (.int 1))))
  b_multiples_of_quad_2)
noncomputable abbrev b_multiples_of_quad : S3 :=
  (sSeq (sSet 1 (dOp dIx (dVar 0) (dC (.int 0))))
  b_multiples_of_quad_1)
theorem rd_multiples_of_quad : ∀ (ds : List D) (Φ : D → Prop), ds.length = 1 → C_multiples_of_quad ds Φ → b_multiples_of_quad (finD Φ) (startD 12 ds) := by
  rintro ds Φ hl ⟨t, rfl, h⟩
  show b_multiples_of_quad_2 (finD Φ) [.val (tb t), .val (tr t), .val (.int t.n), .un, .un, .un, .un, .un, .un, .un, .un, .un]
  show b_multiples_of_quad_5 (finD Φ) [.val (tb t), .val (tr t), .val (.int t.n), .val (.int t.p.x), .val (.int t.q.y), .val (.int t.r.z), .un, .un, .un, .un, .un, .un]
  show b_multiples_of_quad_8 (finD Φ) [.val (tb t), .val (tr t), .val (.int t.n), .val (.int t.p.x), .val (.int t.q.y), .val (.int t.r.z), .val (.int (t.r.y - t.q.z)), .val (.int (t.p.z - t.r.x)), .val (.int (t.q.x - t.p.y)), .un, .un, .un]
  show b_multiples_of_quad_11 (finD Φ) [.val (tb t), .val (tr t), .val (.int t.n), .val (.int t.p.x), .val (.int t.q.y), .val (.int t.r.z), .val (.int (t.r.y - t.q.z)), .val (.int (t.p.z - t.r.x)), .val (.int (t.q.x - t.p.y)), .val (.int (t.q.x + t.p.y)), .val (.int (t.p.z + t.r.x)), .val (.int (t.r.y + t.q.z))]
  exact ⟨sl_le 4 rfl (by decide), sl_le 4 rfl (by decide), sl_le 4 rfl (by decide), sl_le 4 rfl (by decide), sl_le 4 rfl (by decide), h⟩
theorem ok_multiples_of_quad {P : Program} {w : World} {K : PySem.W.Frag} {mg : Str → Option Value} {base : Heap} {t : Ad} (T : Txt K mg t) : FnOk P w K mg base CX0 1 t.a_multiples_of_quad t.d_multiples_of_quad ["turn"] (spD K 1 C_multiples_of_quad) := by
  have sc := sc_multiples_of_quad
  refine fn_ok (k := 0) T.F_multiples_of_quad sc_multiples_of_quad (fun cdv A outer s H E hr => ⟨b_multiples_of_quad, (psd_cons (psd_set (i := 1) sc.nd rfl (loc_of rfl) (pd_ix (pd_var (pv 0)) pd_int (fun _ _ => rfl)))
  (psd_cons (psd_set (i := 2) sc.nd rfl (loc_of rfl) (pd_ix (pd_var (pv 0)) pd_int (fun _ _ => rfl)))
  (psd_cons (psd_set (i := 3) sc.nd rfl (loc_of rfl) (pd_ix (pd_ix (pd_var (pv 1)) pd_int (fun _ _ => rfl)) pd_int (fun _ _ => rfl)))
  (psd_cons (psd_set (i := 4) sc.nd rfl (loc_of rfl) (pd_ix (pd_ix (pd_var (pv 1)) pd_int (fun _ _ => rfl)) pd_int (fun _ _ => rfl)))
  (psd_cons (psd_set (i := 5) sc.nd rfl (loc_of rfl) (pd_ix (pd_ix (pd_var (pv 1)) pd_int (fun _ _ => rfl)) pd_int (fun _ _ => rfl)))
  (psd_cons (psd_set (i := 6) sc.nd rfl (loc_of rfl) (pd_op o_sub (pd_ix (pd_ix (pd_var (pv 1)) pd_int (fun _ _ => rfl)) pd_int (fun _ _ => rfl)) (pd_ix (pd_ix (pd_var (pv 1)) pd_int (fun _ _ => rfl)) pd_int (fun _ _ => rfl))))
  (psd_cons (psd_set (i := 7) sc.nd rfl (loc_of rfl) (pd_op o_sub (pd_ix (pd_ix (pd_var (pv 1)) pd_int (fun _ _ => rfl)) pd_int (fun _ _ => rfl)) (pd_ix (pd_ix (pd_var (pv 1)) pd_int (fun _ _ => rfl)) pd_int (fun _ _ => rfl))))
  (psd_cons (psd_set (i := 8) sc.nd rfl (loc_of rfl) (pd_op o_sub (pd_ix (pd_ix (pd_var (pv 1)) pd_int (fun _ _ => rfl)) pd_int (fun _ _ => rfl)) (pd_ix (pd_ix (pd_var (pv 1)) pd_int (fun _ _ => rfl)) pd_int (fun _ _ => rfl))))
  (psd_cons (psd_set (i := 9) sc.nd rfl (loc_of rfl) (pd_op o_add (pd_ix (pd_ix (pd_var (pv 1)) pd_int (fun _ _ => rfl)) pd_int (fun _ _ => rfl)) (pd_ix (pd_ix (pd_var (pv 1)) pd_int (fun _ _ => rfl)) pd_int (fun _ _ => rfl))))
  (psd_cons (psd_set (i := 10) sc.nd rfl (loc_of rfl) (pd_op o_add (pd_ix (pd_ix (pd_var (pv 1)) pd_int (fun _ _ => rfl)) pd_int (fun _ _ => rfl)) (pd_ix (pd_ix (pd_var (pv 1)) pd_int (fun _ _ => rfl)) pd_int (fun _ _ => rfl))))
  (psd_cons (psd_set (i := 11) sc.nd rfl (loc_of rfl) (pd_op o_add (pd_ix (pd_ix (pd_var (pv 1)) pd_int (fun _ _ => rfl)) pd_int (fun _ _ => rfl)) (pd_ix (pd_ix (pd_var (pv 1)) pd_int (fun _ _ => rfl)) pd_int (fun _ _ => rfl))))
  (psd_one (psd_ret (pd_new (pf_lst (pad_cons (pd_tup (pad_cons (pd_op o_add (pd_op o_add (pd_op o_add (pd_var (pv 2)) (pd_var (pv 3))) (pd_var (pv 4))) (pd_var (pv 5))) (pad_cons (pd_var (pv 6)) (pad_cons (pd_var (pv 7)) (pad_cons (pd_var (pv 8)) pad_nil))))) (pad_cons (pd_tup (pad_cons (pd_var (pv 6)) (pad_cons (pd_op o_sub (pd_op o_sub (pd_op o_add (pd_var (pv 2)) (pd_var (pv 3))) (pd_var (pv 4))) (pd_var (pv 5))) (pad_cons (pd_var (pv 9)) (pad_cons (pd_var (pv 10)) pad_nil))))) (pad_cons (pd_tup (pad_cons (pd_var (pv 7)) (pad_cons (pd_var (pv 9)) (pad_cons (pd_op o_sub (pd_op o_add (pd_op o_sub (pd_var (pv 2)) (pd_var (pv 3))) (pd_var (pv 4))) (pd_var (pv 5))) (pad_cons (pd_var (pv 11)) pad_nil))))) (pad_cons (pd_tup (pad_cons (pd_var (pv 8)) (pad_cons (pd_var (pv 10)) (pad_cons (pd_var (pv 11)) (pad_cons (pd_op o_add (pd_op o_sub (pd_op o_sub (pd_var (pv 2)) (pd_var (pv 3))) (pd_var (pv 4))) (pd_var (pv 5))) pad_nil))))) pad_nil))))))))))))))))))), rd_multiples_of_quad⟩)
noncomputable def C_quad_of : Con := fun ds Φ => ∃ (t : T9) (q : Q4) (k : Nat), ds = [tb t] ∧ t = turnT q ∧ q ≠ q0 ∧ k ≤ 4000 ∧ Bt k t ∧ Φ (qd (qplain q))
theorem mono_quad_of : Mono C_quad_of := fun ds Φ Ψ mo h0 => by
  obtain ⟨t, q, k, a, b, c, d, e, h⟩ := h0
  exact ⟨t, q, k, a, b, c, d, e, mo _ h⟩
noncomputable abbrev b_quad_of : S3 :=
  (sRet (dCall 1 C_plain (aCons (dMaxK C_size (dCall 1 C_multiples_of_quad (aCons (dVar 0) aNil))) aNil)))
theorem rd_quad_of : ∀ (ds : List D) (Φ : D → Prop), ds.length = 1 → C_quad_of ds Φ → b_quad_of (finD Φ) (startD 1 ds) := by
  rintro ds Φ hl ⟨t, q, k, rfl, rfl, h0, hk, bt, h⟩
  obtain ⟨b1, b2, b3, b4⟩ := m_bd bt
  obtain ⟨g, hg, e1, e2, e3, e4⟩ := mults h0
  have best := fun m => some_mult (m := m) h0
  refine ⟨rfl, turnT q, rfl, ?_⟩
  generalize m1 (turnT q) = m1 at *
  generalize m2 (turnT q) = m2 at *
  generalize m3 (turnT q) = m3 at *
  generalize m4 (turnT q) = m4 at *
  refine ⟨[qsize m1, qsize m2, qsize m3, qsize m4], List.cons_ne_nil _ _, rfl, fun i d n hd hn => ?_, fun i d n hd hn hx => ⟨rfl, ?_⟩⟩
  · rcases i with _ | _ | _ | _ | i
    · obtain rfl := Option.some.inj hd; obtain rfl := Option.some.inj hn; exact ⟨m1, k + 3, rfl, by omega, b1, rfl⟩
    · obtain rfl := Option.some.inj hd; obtain rfl := Option.some.inj hn; exact ⟨m2, k + 3, rfl, by omega, b2, rfl⟩
    · obtain rfl := Option.some.inj hd; obtain rfl := Option.some.inj hn; exact ⟨m3, k + 3, rfl, by omega, b3, rfl⟩
    · obtain rfl := Option.some.inj hd; obtain rfl := Option.some.inj hn; exact ⟨m4, k + 3, rfl, by omega, b4, rfl⟩
    · cases hd
  · have x1 := hx (qsize m1) (by simp); have x2 := hx (qsize m2) (by simp); have x3 := hx (qsize m3) (by simp); have x4 := hx (qsize m4) (by simp)
    rcases i with _ | _ | _ | _ | i
    · obtain rfl := Option.some.inj hd; obtain rfl := Option.some.inj hn
      have ne := best m1 x1 x2 x3 x4
      refine ⟨m1, k + 3, rfl, by omega, b1, ne, ?_⟩
      rw [plain_mult hg e1 ne h0]; exact h
    · obtain rfl := Option.some.inj hd; obtain rfl := Option.some.inj hn
      have ne := best m2 x1 x2 x3 x4
      refine ⟨m2, k + 3, rfl, by omega, b2, ne, ?_⟩
      rw [plain_mult hg e2 ne h0]; exact h
    · obtain rfl := Option.some.inj hd; obtain rfl := Option.some.inj hn
      have ne := best m3 x1 x2 x3 x4
      refine ⟨m3, k + 3, rfl, by omega, b3, ne, ?_⟩
      rw [plain_mult hg e3 ne h0]; exact h
    · obtain rfl := Option.some.inj hd; obtain rfl := Option.some.inj hn
      have ne := best m4 x1 x2 x3 x4
      refine ⟨m4, k + 3, rfl, by omega, b4, ne, ?_⟩
      rw [plain_mult hg e4 ne h0]; exact h
    · cases hd
theorem ok_quad_of {P : Program} {w : World} {K : PySem.W.Frag} {mg : Str → Option Value} {base : Heap} {t : Ad} (T : Txt K mg t) : FnOk P w K mg base CX0 4 t.a_quad_of t.d_quad_of ["turn"] (spD K 1 C_quad_of) := by
  have sc := sc_quad_of
  refine fn_ok (k := 3) T.F_quad_of sc_quad_of (fun cdv A outer s H E hr => ⟨b_quad_of, (psd_one (psd_ret (pd_call (ok_plain T) mono_plain (hr.mono (by decide)) rfl T.m_plain T.F_plain.kp T.b_plain (pad_cons (pd_maxK (ok_size T) mono_size (hr.mono (by decide)) T.b_size rfl rfl T.z_max bt_max rfl T.m_size (pd_call (ok_multiples_of_quad T) mono_multiples_of_quad (hr.mono (by decide)) rfl T.m_multiples_of_quad T.F_multiples_of_quad.kp T.b_multiples_of_quad (pad_cons (pd_var (pv 0)) pad_nil))) pad_nil)))), rd_quad_of⟩)
noncomputable def C_after : Con := fun ds Φ => ∃ (t u : T9) (p q : Q4) (k : Nat), ds = [tb t, tb u] ∧ t = turnT p ∧ u = turnT q ∧ p ≠ q0 ∧ q ≠ q0 ∧ k ≤ 1990 ∧ Bq k p ∧ Bq k q ∧ Φ (tb (turnT (qmul p q)))
theorem mono_after : Mono C_after := fun ds Φ Ψ mo h0 => by
  obtain ⟨t, u, p, q, k, a, b, c, d, e, f, g, i, h⟩ := h0
  exact ⟨t, u, p, q, k, a, b, c, d, e, f, g, i, mo _ h⟩
noncomputable abbrev b_after : S3 :=
  (sRet (dCall 1 C_turn_of (aCons (dCall 2 C_product (aCons (dCall 1 C_quad_of (aCons (dVar 0) aNil)) (aCons (dCall 1 C_quad_of (aCons (dVar 1) aNil)) aNil))) aNil)))
theorem rd_after : ∀ (ds : List D) (Φ : D → Prop), ds.length = 2 → C_after ds Φ → b_after (finD Φ) (startD 2 ds) := by
  rintro ds Φ hl ⟨t, u, p, q, k, rfl, rfl, rfl, hp, hq, hk, bp, bq, h⟩
  have pp := plain_bd bp hp
  have pq := plain_bd bq hq
  refine ⟨rfl, turnT p, p, 2 * k + 3, rfl, rfl, hp, by omega, turnT_bd hp bp, ?_⟩
  refine ⟨rfl, turnT q, q, 2 * k + 3, rfl, rfl, hq, by omega, turnT_bd hq bq, ?_⟩
  refine ⟨rfl, qplain p, qplain q, k, rfl, by omega, pp, pq, ?_⟩
  refine ⟨rfl, qmul (qplain p) (qplain q), k + k + 3, rfl, qmul_ne (isPlain hp).ne (isPlain hq).ne, by omega, pp.mul pq, ?_⟩
  rw [after_eq hp hq]; exact h
theorem ok_after {P : Program} {w : World} {K : PySem.W.Frag} {mg : Str → Option Value} {base : Heap} {t : Ad} (T : Txt K mg t) : FnOk P w K mg base CX0 5 t.a_after t.d_after ["one", "other"] (spD K 2 C_after) := by
  have sc := sc_after
  refine fn_ok (k := 4) T.F_after sc_after (fun cdv A outer s H E hr => ⟨b_after, (psd_one (psd_ret (pd_call (ok_turn_of T) mono_turn_of (hr.mono (by decide)) rfl T.m_turn_of T.F_turn_of.kp T.b_turn_of (pad_cons (pd_call (ok_product T) mono_product (hr.mono (by decide)) rfl T.m_product T.F_product.kp T.b_product (pad_cons (pd_call (ok_quad_of T) mono_quad_of (hr.mono (by decide)) rfl T.m_quad_of T.F_quad_of.kp T.b_quad_of (pad_cons (pd_var (pv 0)) pad_nil)) (pad_cons (pd_call (ok_quad_of T) mono_quad_of (hr.mono (by decide)) rfl T.m_quad_of T.F_quad_of.kp T.b_quad_of (pad_cons (pd_var (pv 1)) pad_nil)) pad_nil))) pad_nil)))), rd_after⟩)
noncomputable def C_law_near : Con := fun ds Φ => ∃ (c m : Int), ds = [.int c, .int m] ∧ 0 ≤ m ∧ ∀ z, -m ≤ z → z ≤ m → Φ (.int z)
theorem mono_law_near : Mono C_law_near := fun ds Φ Ψ mo h0 => by
  obtain ⟨c, m, a, b, h⟩ := h0
  exact ⟨c, m, a, b, fun z h1 h2 => mo _ (h z h1 h2)⟩
noncomputable def b_law_near_2 : S3 :=
  (sRet (dVar 2))
noncomputable def b_law_near_1 : S3 :=
  (sSeq (sIf (dT (dOp (dI0 fun i j => .bl (decide (j < i))) (dVar 2) (dVar 1)))
  (sRet (dOp (dI0 fun i j => .int (i - j)) (dVar 2) (dOp (dI0 fun i j => .int (i + j)) (dOp (dI IntMulOk fun i j => .int (i * j)) (dC (.int 2)) (dVar 1)) (dC (.int 1)))))
  sNext)
  b_law_near_2)
noncomputable abbrev b_law_near : S3 :=
  (sSeq (sSet 2 (dOp (dI (fun _ j => j ≠ 0) fun i j => .int (i.fmod j)) (dVar 0) (dOp (dI0 fun i j => .int (i + j)) (dOp (dI IntMulOk fun i j => .int (i * j)) (dC (.int 2)) (dVar 1)) (dC (.int 1)))))
  b_law_near_1)
theorem rd_law_near : ∀ (ds : List D) (Φ : D → Prop), ds.length = 2 → C_law_near ds Φ → b_law_near (finD Φ) (startD 3 ds) := by
  rintro ds Φ hl ⟨c, m, rfl, h0, h⟩
  have h1 := Int.emod_nonneg c (show 2 * m + 1 ≠ 0 by omega)
  have h2 := Int.emod_lt_of_pos c (show 0 < 2 * m + 1 by omega)
  have e : c.fmod (2 * m + 1) = c % (2 * m + 1) := fmod_pos (by omega)
  refine ⟨IntMulOk.of_left (by decide), (show 2 * m + 1 ≠ 0 by omega), tst (fun hc => ⟨IntMulOk.of_left (by decide), ?_⟩) (fun hc => ?_)⟩
  · have hc : m < c.fmod (2 * m + 1) := of_decide_eq_true hc
    exact h _ (show -m ≤ c.fmod (2 * m + 1) - (2 * m + 1) by omega) (show c.fmod (2 * m + 1) - (2 * m + 1) ≤ m by omega)
  · have hc : ¬ m < c.fmod (2 * m + 1) := of_decide_eq_false hc
    exact h _ (show -m ≤ c.fmod (2 * m + 1) by omega) (show c.fmod (2 * m + 1) ≤ m by omega)
theorem ok_law_near {P : Program} {w : World} {K : PySem.W.Frag} {mg : Str → Option Value} {base : Heap} {t : Ad} (T : Txt K mg t) : FnOk P w K mg base CX0 1 t.a_law_near t.d_law_near ["cell", "most"] (spD K 2 C_law_near) := by
  have sc := sc_law_near
  refine fn_ok (k := 0) T.F_law_near sc_law_near (fun cdv A outer s H E hr => ⟨b_law_near, (psd_cons (psd_set (i := 2) sc.nd rfl (loc_of rfl) (pd_op o_mod (pd_var (pv 0)) (pd_op o_add (pd_op o_mul pd_int (pd_var (pv 1))) pd_int)))
  (psd_cons (psd_if (pb_cmp o_gt (pd_var (pv 2)) (pd_var (pv 1)) (nomark _))
  (psd_one (psd_ret (pd_op o_sub (pd_var (pv 2)) (pd_op o_add (pd_op o_mul pd_int (pd_var (pv 1))) pd_int))))
  psd_nil)
  (psd_one (psd_ret (pd_var (pv 2)))))), rd_law_near⟩)
noncomputable def C_law_quad : Con := fun ds Φ => ∃ (ns : List Int) (m : Int), ds = [.lst (ns.map .int), .int m] ∧ ns.length ≤ 100 ∧ 0 ≤ m ∧ m ≤ 10 ^ 30 ∧ ∀ q : Q4, q ≠ q0 → Bq 107 q → Φ (qd q)
theorem mono_law_quad : Mono C_law_quad := fun ds Φ Ψ mo h0 => by
  obtain ⟨ns, m, a, b, c, d, h⟩ := h0
  exact ⟨ns, m, a, b, c, d, fun q h1 h2 => mo _ (h q h1 h2)⟩
noncomputable abbrev b_law_quad_L1 : S3 :=
  (sSetIx 2 (dOp (dI (fun _ j => j ≠ 0) fun i j => .int (i.fmod j)) (dVar 3) (dC (.int 4))) (dOp (dI0 fun i j => .int (i + j)) (dIxO 2 (dOp (dI (fun _ j => j ≠ 0) fun i j => .int (i.fmod j)) (dVar 3) (dC (.int 4)))) (dCall 2 C_law_near (aCons (dOp dIx (dVar 0) (dVar 3)) (aCons (dVar 1) aNil)))))
noncomputable def b_law_quad_3 : S3 :=
  (sFreeze 2 (sRet (dTup (aCons (dOp dIx (dVar 2) (dC (.int 0))) (aCons (dOp dIx (dVar 2) (dC (.int 1))) (aCons (dOp dIx (dVar 2) (dC (.int 2))) (aCons (dOp dIx (dVar 2) (dC (.int 3))) aNil)))))))
noncomputable def b_law_quad_2 : S3 :=
  (sSeq (sIf (bEqO 2 (dF (fLst (aCons (dC (.int 0)) (aCons (dC (.int 0)) (aCons (dC (.int 0)) (aCons (dC (.int 0)) aNil)))))))
  (sSetIx 2 (dC (.int 0)) (dC (.int 1)))
  sNext)
  b_law_quad_3)
noncomputable def b_law_quad_1 : S3 :=
  (sSeq (sFor (iR1 (aCons (dB cLen (aCons (dVar 0) aNil)) aNil)) (gN 3)
  b_law_quad_L1)
  b_law_quad_2)
noncomputable abbrev b_law_quad : S3 :=
  (sSeq (sOwn 2 (fLst (aCons (dC (.int 0)) (aCons (dC (.int 0)) (aCons (dC (.int 0)) (aCons (dC (.int 0)) aNil))))))
  b_law_quad_1)
theorem rd_law_quad : ∀ (ds : List D) (Φ : D → Prop), ds.length = 2 → C_law_quad ds Φ → b_law_quad (finD Φ) (startD 4 ds) := by
  rintro ds Φ hl ⟨ns, m, rfl, hn, hm0, hm, h⟩
  refine ⟨sl_le 4 rfl (by decide), ?_⟩
  have hlen : ((ns.map D.int).length : Int) = ns.length := by simp
  refine ⟨show -(2 ^ 62 : Int) ≤ ((ns.map D.int).length : Int) by omega, show ((ns.map D.int).length : Int) < 2 ^ 62 by omega, ?_⟩
  refine FOR_inv (fun pre post ρ => pre ++ post = ups 0 ((ns.map D.int).length : Int).toNat ∧ ∃ (a b c d : Int) (s : Sl), ρ = [.val (.lst (ns.map .int)), .val (.int m), .own [.int a, .int b, .int c, .int d], s] ∧ Sm pre.length m a b c d) ?_ ?_ _ [] _ ⟨rfl, 0, 0, 0, 0, .un, rfl, ⟨by simp, by simp, by simp, by simp⟩⟩
  · rintro pre d post ρ ⟨hall, a, b, c, d, s, rfl, sm⟩ k hk
    obtain ⟨rfl, hi⟩ := ups_at hall
    have hi : pre.length < ns.length := by
      have e : ((ns.map D.int).length : Int).toNat = ns.length := by simp
      rw [e] at hi; exact hi
    have hall' : (pre ++ [D.int (0 + (pre.length : Nat))]) ++ post = ups 0 ((ns.map D.int).length : Int).toNat := by rw [← hall]; simp
    have ec : atI (ns.map D.int) (0 + (pre.length : Nat)) = some (.int ns[pre.length]) := by
      rw [Int.zero_add, atI_n, List.getElem?_map, List.getElem?_eq_getElem hi]; rfl
    have l1 : (pre ++ [D.int (0 + (pre.length : Nat))]).length = pre.length + 1 := by simp
    have n4 : (4 : Int) ≠ 0 := by decide
    rcases mod4 pre.length with hj | hj | hj | hj
    · refine ⟨n4, onS_of (d := D.int a) (by rw [hj]; rfl) (onS_of ec ⟨rfl, _, m, rfl, hm0, fun z h1 h2 => ⟨n4, onS_of (d := (0 : Nat)) (by rw [hj]; rfl) ?_⟩⟩)⟩
      exact hk _ ⟨hall', a + z, b, c, d, _, rfl, by rw [l1]; exact ⟨le_add h1 h2 sm.a, le_up hm0 sm.b, le_up hm0 sm.c, le_up hm0 sm.d⟩⟩
    · refine ⟨n4, onS_of (d := D.int b) (by rw [hj]; rfl) (onS_of ec ⟨rfl, _, m, rfl, hm0, fun z h1 h2 => ⟨n4, onS_of (d := (1 : Nat)) (by rw [hj]; rfl) ?_⟩⟩)⟩
      exact hk _ ⟨hall', a, b + z, c, d, _, rfl, by rw [l1]; exact ⟨le_up hm0 sm.a, le_add h1 h2 sm.b, le_up hm0 sm.c, le_up hm0 sm.d⟩⟩
    · refine ⟨n4, onS_of (d := D.int c) (by rw [hj]; rfl) (onS_of ec ⟨rfl, _, m, rfl, hm0, fun z h1 h2 => ⟨n4, onS_of (d := (2 : Nat)) (by rw [hj]; rfl) ?_⟩⟩)⟩
      exact hk _ ⟨hall', a, b, c + z, d, _, rfl, by rw [l1]; exact ⟨le_up hm0 sm.a, le_up hm0 sm.b, le_add h1 h2 sm.c, le_up hm0 sm.d⟩⟩
    · refine ⟨n4, onS_of (d := D.int d) (by rw [hj]; rfl) (onS_of ec ⟨rfl, _, m, rfl, hm0, fun z h1 h2 => ⟨n4, onS_of (d := (3 : Nat)) (by rw [hj]; rfl) ?_⟩⟩)⟩
      exact hk _ ⟨hall', a, b, c, d + z, _, rfl, by rw [l1]; exact ⟨le_up hm0 sm.a, le_up hm0 sm.b, le_up hm0 sm.c, le_add h1 h2 sm.d⟩⟩
  · rintro pre ρ ⟨hall, a, b, c, d, s, rfl, sm⟩
    rw [List.append_nil] at hall
    have hpl : pre.length ≤ 100 := by rw [hall, ups_length]; simp; omega
    have bq : Bq 107 ⟨a, b, c, d⟩ := ⟨bd_sum hpl hm0 hm sm.a, bd_sum hpl hm0 hm sm.b, bd_sum hpl hm0 hm sm.c, bd_sum hpl hm0 hm sm.d⟩
    show b_law_quad_2 (finD Φ) [.val (.lst (ns.map .int)), .val (.int m), .own [.int a, .int b, .int c, .int d], s]
    unfold b_law_quad_2
    refine ⟨sl_le 4 rfl (by decide), show (0 : Nat) ≤ 99 by decide, tst (fun hc => ?_) (fun hc => ?_)⟩
    · have hz : a = 0 ∧ b = 0 ∧ c = 0 ∧ d = 0 := by
        have hc : ((a == 0) && ((b == 0) && ((c == 0) && ((d == 0) && true)))) = true := hc
        simpa using hc
      obtain ⟨rfl, rfl, rfl, rfl⟩ := hz
      exact ⟨sl_le 4 rfl (by decide), h ⟨1, 0, 0, 0⟩ (by decide) ⟨bd_lit (by decide), bq.b, bq.c, bq.d⟩⟩
    · refine ⟨sl_le 4 rfl (by decide), h ⟨a, b, c, d⟩ (fun z => ?_) bq⟩
      have hc : ((a == 0) && ((b == 0) && ((c == 0) && ((d == 0) && true)))) = false := hc
      cases z
      exact absurd hc (by decide)
theorem ok_law_quad {P : Program} {w : World} {K : PySem.W.Frag} {mg : Str → Option Value} {base : Heap} {t : Ad} (T : Txt K mg t) : FnOk P w K mg base CX0 2 t.a_law_quad t.d_law_quad ["cells", "most"] (spD K 2 C_law_quad) := by
  have sc := sc_law_quad
  refine fn_ok (k := 1) T.F_law_quad sc_law_quad (fun cdv A outer s H E hr => ⟨b_law_quad, (psd_cons (psd_own (i := 2) sc.nd rfl (loc_of rfl) (pf_lst (pad_cons pd_int (pad_cons pd_int (pad_cons pd_int (pad_cons pd_int pad_nil))))))
  (psd_cons (psd_for PassesOwn.never rfl (pid_range1 rfl T.z_range (pad_cons (pd_callB b_len rfl T.z_len bt_len (pad_cons (pd_var (pv 0)) pad_nil)) pad_nil)) (pgd_name (i := 3) sc.nd rfl (loc_of rfl))
  (psd_one (psd_setIx (pv 2) (pd_op o_mod (pd_var (pv 3)) pd_int) (pd_op o_add (pd_ixO (pv 2) (pd_op o_mod (pd_var (pv 3)) pd_int) (fun _ _ => rfl)) (pd_call (ok_law_near T) mono_law_near (hr.mono (by decide)) rfl T.m_law_near T.F_law_near.kp T.b_law_near (pad_cons (pd_ix (pd_var (pv 0)) (pd_var (pv 3)) (fun _ _ => rfl)) (pad_cons (pd_var (pv 1)) pad_nil)))))))
  (psd_cons (psd_if (pb_eqO (hu3 hr) (pv 2) (pd_new (pf_lst (pad_cons pd_int (pad_cons pd_int (pad_cons pd_int (pad_cons pd_int pad_nil)))))) (nomark _))
  (psd_one (psd_setIx (pv 2) pd_int pd_int))
  psd_nil)
  (psd_freeze 2 (psd_one (psd_ret (pd_tup (pad_cons (pd_ix (pd_var (pv 2)) pd_int (fun _ _ => rfl)) (pad_cons (pd_ix (pd_var (pv 2)) pd_int (fun _ _ => rfl)) (pad_cons (pd_ix (pd_var (pv 2)) pd_int (fun _ _ => rfl)) (pad_cons (pd_ix (pd_var (pv 2)) pd_int (fun _ _ => rfl)) pad_nil))))))))))), rd_law_quad⟩)
noncomputable def C_law_cell_at : Con := fun ds Φ => ∃ (ns : List Int) (k : Nat), ds = [.lst (ns.map .int), .int k] ∧ Φ (.int (ns.getD k 0))
theorem mono_law_cell_at : Mono C_law_cell_at := fun ds Φ Ψ m h0 => by
  obtain ⟨ns, k, a, h⟩ := h0
  exact ⟨ns, k, a, m _ h⟩
noncomputable def b_law_cell_at_1 : S3 :=
  (sRet (dC (.int 0)))
noncomputable abbrev b_law_cell_at : S3 :=
  (sSeq (sIf (dT (dOp (dI0 fun i j => .bl (decide (i < j))) (dVar 1) (dB cLen (aCons (dVar 0) aNil))))
  (sRet (dOp dIx (dVar 0) (dVar 1)))
  sNext)
  b_law_cell_at_1)
theorem rd_law_cell_at : ∀ (ds : List D) (Φ : D → Prop), ds.length = 2 → C_law_cell_at ds Φ → b_law_cell_at (finD Φ) (startD 2 ds) := by
  rintro ds Φ hl ⟨ns, k, rfl, h⟩
  rw [List.getD_eq_getElem?_getD] at h
  refine tst (fun hc => ?_) (fun hc => ?_)
  · have hk : k < ns.length := by
      have := of_decide_eq_true hc
      rw [List.length_map] at this
      omega
    rw [List.getElem?_eq_getElem hk] at h
    refine onS_of (d := D.int ns[k]) ?_ ?_
    · rw [atI_n, List.getElem?_map, List.getElem?_eq_getElem hk]; rfl
    · exact h
  · have hk : ¬ k < ns.length := by
      have := of_decide_eq_false hc
      rw [List.length_map] at this
      omega
    rw [List.getElem?_eq_none (by omega)] at h
    exact h
theorem ok_law_cell_at {P : Program} {w : World} {K : PySem.W.Frag} {mg : Str → Option Value} {base : Heap} {t : Ad} (T : Txt K mg t) : FnOk P w K mg base CX0 1 t.a_law_cell_at t.d_law_cell_at ["script", "k"] (spD K 2 C_law_cell_at) := by
  have sc := sc_law_cell_at
  refine fn_ok (k := 0) T.F_law_cell_at sc_law_cell_at (fun cdv A outer s H E hr => ⟨b_law_cell_at, (psd_cons (psd_if (pb_cmp o_lt (pd_var (pv 1)) (pd_callB b_len rfl T.z_len bt_len (pad_cons (pd_var (pv 0)) pad_nil)) (nomark _))
  (psd_one (psd_ret (pd_ix (pd_var (pv 0)) (pd_var (pv 1)) (fun _ _ => rfl))))
  psd_nil)
  (psd_one (psd_ret pd_int))), rd_law_cell_at⟩)
noncomputable def C_law_whole : Con := fun ds Φ => ∃ d, ds = [d] ∧ Φ (.bl (whole d))
theorem mono_law_whole : Mono C_law_whole := fun ds Φ Ψ m h0 => by
  obtain ⟨d, a, h⟩ := h0
  exact ⟨d, a, m _ h⟩
noncomputable abbrev b_law_whole : S3 :=
  (sRet (dAnd (dIsT isInt (dVar 0)) (dNot (dIsT isBool (dVar 0)))))
theorem rd_law_whole : ∀ (ds : List D) (Φ : D → Prop), ds.length = 1 → C_law_whole ds Φ → b_law_whole (finD Φ) (startD 1 ds) := by
  rintro ds Φ hl ⟨d, rfl, h⟩
  cases d <;> exact h
theorem ok_law_whole {P : Program} {w : World} {K : PySem.W.Frag} {mg : Str → Option Value} {base : Heap} {t : Ad} (T : Txt K mg t) : FnOk P w K mg base CX0 1 t.a_law_whole t.d_law_whole ["found"] (spD K 1 C_law_whole) := by
  have sc := sc_law_whole
  refine fn_ok (k := 0) T.F_law_whole sc_law_whole (fun cdv A outer s H E hr => ⟨b_law_whole, (psd_one (psd_ret (pd_and (pd_isinst ty_int rfl T.z_isinstance bt_isinstance rfl T.z_int bt_int (pd_var (pv 0))) (pd_one (pd_not (pd_isinst ty_bool rfl T.z_isinstance bt_isinstance rfl T.z_bool bt_bool (pd_var (pv 0)))))))), rd_law_whole⟩)
noncomputable def C_law_form : Con := fun ds Φ => ∃ (t : T9), ds = [tb t] ∧ Φ (.bl true)
theorem mono_law_form : Mono C_law_form := fun ds Φ Ψ mo h0 => by
  obtain ⟨t, a, h⟩ := h0
  exact ⟨t, a, mo _ h⟩
noncomputable abbrev b_law_form_L1 : S3 :=
  (sIf (bOr (bNot (dT (dIsT isTup (dVar 1)))) (bOr (dT (dOp dNe (dB cLen (aCons (dVar 1) aNil)) (dC (.int 3)))) (bNot (dT (dB cAll (aCons (dF (fComp 1 (iLT (dVar 1)) (gN 0) (fun _ Φ => Φ true) (dCall 1 C_law_whole (aCons (dVar 0) aNil)))) aNil))))))
  (sRet (dC (.bl false)))
  sNext)
noncomputable def b_law_form_2 : S3 :=
  (sRet (dCall 1 C_law_whole (aCons (dOp dIx (dVar 0) (dC (.int 1))) aNil)))
noncomputable def b_law_form_1 : S3 :=
  (sSeq (sFor (iLT (dOp dIx (dVar 0) (dC (.int 0)))) (gN 1)
  b_law_form_L1)
  b_law_form_2)
noncomputable abbrev b_law_form : S3 :=
  (sSeq (sIf (bOr (bNot (dT (dIsT isTup (dVar 0)))) (bOr (dT (dOp dNe (dB cLen (aCons (dVar 0) aNil)) (dC (.int 2)))) (bOr (bNot (dT (dIsT isTup (dOp dIx (dVar 0) (dC (.int 0)))))) (dT (dOp dNe (dB cLen (aCons (dOp dIx (dVar 0) (dC (.int 0))) aNil)) (dC (.int 3)))))))
  (sRet (dC (.bl false)))
  sNext)
  b_law_form_1)
theorem rd_law_form : ∀ (ds : List D) (Φ : D → Prop), ds.length = 1 → C_law_form ds Φ → b_law_form (finD Φ) (startD 2 ds) := by
  rintro ds Φ hl ⟨t, rfl, h⟩
  unfold b_law_form
  refine tF (by rfl) ?_
  refine tF (by rfl) ?_
  refine tF (by rfl) ?_
  refine tF (by rfl) ?_
  show FOR (gN 1) b_law_form_L1 [pt t.p, pt t.q, pt t.r] (thenS b_law_form_2 (finD Φ)) [.val (tb t), .un]
  have row : ∀ (p : P3) (s : Sl) (k : (F3 → Prop) → Fr3 → Prop) (Ψ : F3 → Prop), k Ψ [.val (tb t), .val (pt p)] → b_law_form_L1 (loopS k Ψ) [.val (tb t), .val (pt p)] := fun p s k Ψ hk => by
    unfold b_law_form_L1
    refine tF (by rfl) ?_
    refine tF (by rfl) ?_
    refine ⟨rfl, _, rfl, sl_lt 0 rfl (by decide), rfl, _, rfl, sl_lt 1 rfl (by decide), rfl, _, rfl, sl_lt 2 rfl (by decide), [true, true, true], rfl, ?_⟩
    refine tF (by rfl) ?_
    exact hk
  refine FOR_cons (row _ .un _ _ (FOR_cons (row _ .un _ _ (FOR_cons (row _ .un _ _ (FOR_nil ?_))))))
  exact ⟨rfl, _, rfl, h⟩
theorem ok_law_form {P : Program} {w : World} {K : PySem.W.Frag} {mg : Str → Option Value} {base : Heap} {t : Ad} (T : Txt K mg t) : FnOk P w K mg base CX0 2 t.a_law_form t.d_law_form ["found"] (spD K 1 C_law_form) := by
  have sc := sc_law_form
  refine fn_ok (k := 1) T.F_law_form sc_law_form (fun cdv A outer s H E hr => ⟨b_law_form, (psd_cons (psd_if (PWB.pb (pb_or (pb_not (pb_val (pd_isinst ty_tuple rfl T.z_isinstance bt_isinstance rfl T.z_tuple bt_tuple (pd_var (pv 0))))) (pb_or (pb_cmp o_ne (pd_callB b_len rfl T.z_len bt_len (pad_cons (pd_var (pv 0)) pad_nil)) pd_int (nomark _)) (pb_or (pb_not (pb_val (pd_isinst ty_tuple rfl T.z_isinstance bt_isinstance rfl T.z_tuple bt_tuple (pd_ix (pd_var (pv 0)) pd_int (fun _ _ => rfl))))) (pb_or1 (pb_cmp o_ne (pd_callB b_len rfl T.z_len bt_len (pad_cons (pd_ix (pd_var (pv 0)) pd_int (fun _ _ => rfl)) pad_nil)) pd_int (nomark _)))))))
  (psd_one (psd_ret pd_bl))
  psd_nil)
  (psd_cons (psd_for PassesOwn.never rfl (pid_seq (pd_ix (pd_var (pv 0)) pd_int (fun _ _ => rfl))) (pgd_name (i := 1) sc.nd rfl (loc_of rfl))
  (psd_one (psd_if (PWB.pb (pb_or (pb_not (pb_val (pd_isinst ty_tuple rfl T.z_isinstance bt_isinstance rfl T.z_tuple bt_tuple (pd_var (pv 1))))) (pb_or (pb_cmp o_ne (pd_callB b_len rfl T.z_len bt_len (pad_cons (pd_var (pv 1)) pad_nil)) pd_int (nomark _)) (pb_or1 (pb_not (pb_val (pd_callB (b_all rfl) rfl T.z_all bt_all (pad_cons (pd_new (pf_comp (xs := ["one"]) (M := ["found", "row"]) (n := 1) (by rfl) rfl rfl (pid_seq (pd_var (pv 1))) (fun _ _ _ _ => (pgn_name (i := 0) (by decide) (show List.Nodup (["one", "found", "row"] : List Str) by decide +kernel) rfl (by first | exact Or.inl rfl | exact Or.inr rfl))) (fun _ _ _ _ => pbs_nil) (fun _ _ _ _ => (pd_call (ok_law_whole T) mono_law_whole (hr.mono (by decide)) rfl T.m_law_whole T.F_law_whole.kp T.b_law_whole (pad_cons (pd_var (pv 0)) pad_nil))))) pad_nil))))))))
  (psd_one (psd_ret pd_bl))
  psd_nil)))
  (psd_one (psd_ret (pd_call (ok_law_whole T) mono_law_whole (hr.mono (by decide)) rfl T.m_law_whole T.F_law_whole.kp T.b_law_whole (pad_cons (pd_ix (pd_var (pv 0)) pd_int (fun _ _ => rfl)) pad_nil)))))), rd_law_form⟩)
noncomputable def C_law_divisor : Con := fun ds Φ => ∃ ms : List Int, (ds = [.lst (ms.map .int)] ∨ ds = [.tup (ms.map .int)]) ∧ Φ (.int (gcdL ms))
theorem mono_law_divisor : Mono C_law_divisor := fun ds Φ Ψ mo h0 => by
  obtain ⟨ms, e, h⟩ := h0
  exact ⟨ms, e, mo _ h⟩
theorem law_divisor_loop {Φ : D → Prop} {ms : List Int} {d0 : D} {tb : S3} (h : Φ (.int (gcdL ms)))
    (ht : ∀ (k : (F3 → Prop) → Fr3 → Prop) (Ψ : F3 → Prop) (g q : Int) (s : Sl), 0 ≤ g → (∀ s s', k Ψ [.val d0, .val (.int (Int.gcd g q : Int)), s, s']) → tb (loopS k Ψ) [.val d0, .val (.int g), .val (.int q), s]) :
    ∀ (qs : List Int) (g : Int) (s s' : Sl), 0 ≤ g → qs.foldl (fun g x => (Int.gcd g x : Int)) g = gcdL ms →
    FOR (gN 2) tb (qs.map D.int) (thenS (sRet (dVar 1)) (finD Φ)) [.val d0, .val (.int g), s, s']
  | [], g, s, s', _, e => by
    show Φ (.int g)
    have e : g = gcdL ms := e
    rw [e]; exact h
  | q :: qs, g, s, s', g0, e => ht _ _ g q s' g0 fun s s' => law_divisor_loop h ht qs _ s s' (Int.natCast_nonneg _) e
noncomputable abbrev b_law_divisor_L2 : S3 :=
  (sPar 1 3 (aCons (dVar 3) (aCons (dOp (dI (fun _ j => j ≠ 0) fun i j => .int (i.fmod j)) (dVar 1) (dVar 3)) aNil)))
noncomputable def b_law_divisor_L1_1 : S3 :=
  (sWhile (dT (dOp (dI0 fun i j => .bl (decide (j < i))) (dVar 3) (dC (.int 0))))
  b_law_divisor_L2)
noncomputable abbrev b_law_divisor_L1 : S3 :=
  (sSeq (sSet 3 (dB cAbs (aCons (dVar 2) aNil)))
  b_law_divisor_L1_1)
noncomputable def b_law_divisor_2 : S3 :=
  (sRet (dVar 1))
noncomputable def b_law_divisor_1 : S3 :=
  (sSeq (sFor (iLT (dVar 0)) (gN 2)
  b_law_divisor_L1)
  b_law_divisor_2)
noncomputable abbrev b_law_divisor : S3 :=
  (sSeq (sSet 1 (dC (.int 0)))
  b_law_divisor_1)
theorem rd_law_divisor : ∀ (ds : List D) (Φ : D → Prop), ds.length = 1 → C_law_divisor ds Φ → b_law_divisor (finD Φ) (startD 4 ds) := by
  have turn : ∀ (d0 : D) (k : (F3 → Prop) → Fr3 → Prop) (Ψ : F3 → Prop) (g q : Int) (s : Sl), 0 ≤ g → (∀ s s', k Ψ [.val d0, .val (.int (Int.gcd g q : Int)), s, s']) → sSeq (sSet 3 (dB cAbs (aCons (dVar 2) aNil))) b_law_divisor_L1_1 (loopS k Ψ) [.val d0, .val (.int g), .val (.int q), s] := by
    intro d0 k Ψ g q s g0 hk
    refine while_inv (fun ρ => ∃ (x y : Int), ρ = [.val d0, .val (.int x), .val (.int q), .val (.int y)] ∧ 0 ≤ x ∧ 0 ≤ y ∧ Int.gcd x y = Int.gcd g q) (fun ρ => match ρ with | [_, _, _, .val (.int y)] => y.natAbs | _ => 0) ⟨g, q.natAbs, rfl, g0, by omega, by simp [Int.gcd]⟩ ?_
    rintro ρ ⟨x, y, rfl, hx, hy, e⟩
    refine tst (fun hc => ?_) (fun hc => ?_)
    · have hy0 : 0 < y := of_decide_eq_true hc
      have hy1 : y ≠ 0 := by omega
      refine ⟨hy1, _, ?_, rfl, y, x.fmod y, rfl, hy, Int.fmod_nonneg_of_pos x hy0, by rw [gcd_step, e]⟩
      show (x.fmod y).natAbs < y.natAbs
      exact fmod_lt hy1
    · have hy0 : ¬ 0 < y := of_decide_eq_false hc
      have hy1 : y = 0 := by omega
      subst hy1
      have e2 : (Int.gcd g q : Int) = x := by rw [← e]; simp; omega
      have := hk (.val (.int q)) (.val (.int 0))
      rw [e2] at this
      exact this
  rintro ds Φ hl ⟨ms, rfl | rfl, h⟩
  · exact law_divisor_loop h (turn _) ms 0 .un .un (Int.le_refl 0) rfl
  · exact law_divisor_loop h (turn _) ms 0 .un .un (Int.le_refl 0) rfl
theorem ok_law_divisor {P : Program} {w : World} {K : PySem.W.Frag} {mg : Str → Option Value} {base : Heap} {t : Ad} (T : Txt K mg t) : FnOk P w K mg base CX0 1 t.a_law_divisor t.d_law_divisor ["numbers"] (spD K 1 C_law_divisor) := by
  have sc := sc_law_divisor
  refine fn_ok (k := 0) T.F_law_divisor sc_law_divisor (fun cdv A outer s H E hr => ⟨b_law_divisor, (psd_cons (psd_set (i := 1) sc.nd rfl (loc_of rfl) pd_int)
  (psd_cons (psd_for PassesOwn.never rfl (pid_seq (pd_var (pv 0))) (pgd_name (i := 2) sc.nd rfl (loc_of rfl))
  (psd_cons (psd_set (i := 3) sc.nd rfl (loc_of rfl) (pd_callB b_abs rfl T.z_abs bt_abs (pad_cons (pd_var (pv 2)) pad_nil)))
  (psd_one (psd_while PassesOwn.never (pb_cmp o_gt (pd_var (pv 3)) pd_int (nomark _))
  (psd_one (psd_par (i := 1) (j := 3) rfl sc.nd rfl rfl (by decide) rfl rfl (pad_cons (pd_var (pv 3)) (pad_cons (pd_op o_mod (pd_var (pv 1)) (pd_var (pv 3))) pad_nil)) (by rfl)))))))
  (psd_one (psd_ret (pd_var (pv 1)))))), rd_law_divisor⟩)
noncomputable def C_law_is_turn : Con := fun ds Φ => ∃ (t : T9) (k : Nat), ds = [tb t] ∧ k ≤ 4000 ∧ Bt k t ∧ (IsTurn t → Φ (.bl true)) ∧ (¬ IsTurn t → Φ (.bl false))
theorem mono_law_is_turn : Mono C_law_is_turn := fun ds Φ Ψ mo h0 => by
  obtain ⟨t, k, a, b, c, h1, h2⟩ := h0
  exact ⟨t, k, a, b, c, fun h => mo _ (h1 h), fun h => mo _ (h2 h)⟩
noncomputable def b_law_is_turn_L2_1 : S3 :=
  (sIf (dT (dOp dNe (dVar 5) (dOp (dI IntMulOk fun i j => .int (i * j)) (dOp (dI IntMulOk fun i j => .int (i * j)) (dVar 2) (dVar 2)) (dB cInt (aCons (dOp dEq (dVar 3) (dVar 4)) aNil)))))
  (sRet (dC (.bl false)))
  sNext)
noncomputable abbrev b_law_is_turn_L2 : S3 :=
  (sSeq (sSet 5 (dB cSum (aCons (dF (fComp 1 (iR1 (aCons (dC (.int 3)) aNil)) (gN 0) (fun _ Φ => Φ true) (dOp (dI IntMulOk fun i j => .int (i * j)) (dOp dIx (dOp dIx (dVar 2) (dVar 4)) (dVar 0)) (dOp dIx (dOp dIx (dVar 2) (dVar 5)) (dVar 0))))) aNil)))
  b_law_is_turn_L2_1)
noncomputable abbrev b_law_is_turn_L1 : S3 :=
  (sFor (iR1 (aCons (dC (.int 3)) aNil)) (gN 4)
  b_law_is_turn_L2)
noncomputable def b_law_is_turn_7 : S3 :=
  (sRet (dOp dEq (dVar 9) (dOp (dI IntMulOk fun i j => .int (i * j)) (dOp (dI IntMulOk fun i j => .int (i * j)) (dVar 2) (dVar 2)) (dVar 2))))
noncomputable def b_law_is_turn_6 : S3 :=
  (sSeq (sSet 9 (dOp (dI0 fun i j => .int (i + j)) (dVar 9) (dOp (dI IntMulOk fun i j => .int (i * j)) (dOp dIx (dVar 6) (dC (.int 2))) (dOp (dI0 fun i j => .int (i - j)) (dOp (dI IntMulOk fun i j => .int (i * j)) (dOp dIx (dVar 7) (dC (.int 0))) (dOp dIx (dVar 8) (dC (.int 1)))) (dOp (dI IntMulOk fun i j => .int (i * j)) (dOp dIx (dVar 7) (dC (.int 1))) (dOp dIx (dVar 8) (dC (.int 0))))))))
  b_law_is_turn_7)
noncomputable def b_law_is_turn_5 : S3 :=
  (sSeq (sSet 9 (dOp (dI0 fun i j => .int (i - j)) (dVar 9) (dOp (dI IntMulOk fun i j => .int (i * j)) (dOp dIx (dVar 6) (dC (.int 1))) (dOp (dI0 fun i j => .int (i - j)) (dOp (dI IntMulOk fun i j => .int (i * j)) (dOp dIx (dVar 7) (dC (.int 0))) (dOp dIx (dVar 8) (dC (.int 2)))) (dOp (dI IntMulOk fun i j => .int (i * j)) (dOp dIx (dVar 7) (dC (.int 2))) (dOp dIx (dVar 8) (dC (.int 0))))))))
  b_law_is_turn_6)
noncomputable def b_law_is_turn_4 : S3 :=
  (sSeq (sSet 9 (dOp (dI IntMulOk fun i j => .int (i * j)) (dOp dIx (dVar 6) (dC (.int 0))) (dOp (dI0 fun i j => .int (i - j)) (dOp (dI IntMulOk fun i j => .int (i * j)) (dOp dIx (dVar 7) (dC (.int 1))) (dOp dIx (dVar 8) (dC (.int 2)))) (dOp (dI IntMulOk fun i j => .int (i * j)) (dOp dIx (dVar 7) (dC (.int 2))) (dOp dIx (dVar 8) (dC (.int 1)))))))
  b_law_is_turn_5)
noncomputable def b_law_is_turn_3 : S3 :=
  (sSeq (sAsg (dVar 1) (gTup3 3 (gCons3 (gN 6) (gCons3 (gN 7) (gCons3 (gN 8) gNil3)))))
  b_law_is_turn_4)
noncomputable def b_law_is_turn_2 : S3 :=
  (sSeq (sFor (iR1 (aCons (dC (.int 3)) aNil)) (gN 3)
  b_law_is_turn_L1)
  b_law_is_turn_3)
noncomputable def b_law_is_turn_1 : S3 :=
  (sSeq (sIf (bOr (dT (dOp (dI0 fun i j => .bl (decide (i < j))) (dVar 2) (dC (.int 1)))) (dT (dOp dNe (dCall 1 C_law_divisor (aCons (dF (fCat (dF (fCat (dF (fCat (dF (fList (dOp dIx (dVar 1) (dC (.int 0))))) (dF (fList (dOp dIx (dVar 1) (dC (.int 1))))))) (dF (fList (dOp dIx (dVar 1) (dC (.int 2))))))) (dF (fLst (aCons (dVar 2) aNil))))) aNil)) (dC (.int 1)))))
  (sRet (dC (.bl false)))
  sNext)
  b_law_is_turn_2)
noncomputable abbrev b_law_is_turn : S3 :=
  (sSeq (sAsg (dVar 0) (gTup3 2 (gCons3 (gN 1) (gCons3 (gN 2) gNil3))))
  b_law_is_turn_1)
theorem rd_law_is_turn : ∀ (ds : List D) (Φ : D → Prop), ds.length = 1 → C_law_is_turn ds Φ → b_law_is_turn (finD Φ) (startD 10 ds) := by
  rintro ds Φ hl ⟨t, k, rfl, hk, bt, h1, h2⟩
  have c0 : (-(2 ^ 62) : Int) ≤ 3 := by decide
  have c1 : (3 : Int) < 2 ^ 62 := by decide
  have mk : ∀ {x y : Int}, Bd k x → Bd k y → IntMulOk x y := fun hx hy => mulOk hx hy (by omega)
  have bnn : Bd (2 * k) (t.n * t.n) := (bt.n.mul bt.n).mono (by omega)
  refine ⟨rfl, ?_⟩
  show b_law_is_turn_1 (finD Φ) [.val (tb t), .val (tr t), .val (.int t.n), .un, .un, .un, .un, .un, .un, .un]
  unfold b_law_is_turn_1
  refine tst (fun hc => ?_) (fun hc => ?_)
  · have hc : t.n < 1 := of_decide_eq_true hc
    exact h2 fun it => by have := it.n; omega
  have n1 : ¬ t.n < 1 := of_decide_eq_false hc
  refine ⟨sl_le 6 rfl (by decide), sl_le 9 rfl (by decide), sl_le 1 rfl (by decide), sl_le 10 rfl (by decide), rfl, tl t, .inl rfl, ?_⟩
  refine tst (fun hc => ?_) (fun hc => ?_)
  · have hc : (!decide (gcdL (tl t) = 1)) = true := hc
    exact h2 fun it => by rw [it.g] at hc; simp at hc
  have g1 : gcdL (tl t) = 1 := by
    have hc : (!decide (gcdL (tl t) = 1)) = false := hc
    simpa using hc
  show b_law_is_turn_2 (finD Φ) [.val (tb t), .val (tr t), .val (.int t.n), .un, .un, .un, .un, .un, .un, .un]
  refine ⟨c0, c1, ?_⟩
  refine FOR_inv (fun pre post ρ => pre ++ post = ups 0 3 ∧ (∀ i, i < pre.length → ∀ j, j < 3 → Ortho t i j) ∧ ∃ s3 s4 s5 : Sl, ρ = [.val (tb t), .val (tr t), .val (.int t.n), s3, s4, s5, .un, .un, .un, .un]) ?_ ?_ _ [] _ ⟨rfl, fun i hi => by simp at hi, _, _, _, rfl⟩
  · rintro pre d post ρ ⟨hall, ho, s3, s4, s5, rfl⟩ kk hkk
    obtain ⟨rfl, hi⟩ := ups_at hall
    have hall' : (pre ++ [D.int (0 + (pre.length : Nat))]) ++ post = ups 0 3 := by rw [← hall]; simp
    have ri := row_atI t hi
    have bi := rowAt_bd bt pre.length
    have l1 : (pre ++ [D.int (0 + (pre.length : Nat))]).length = pre.length + 1 := by simp
    refine ⟨c0, c1, ?_⟩
    refine FOR_inv (fun pre2 post2 ρ => pre2 ++ post2 = ups 0 3 ∧ (∀ j, j < pre2.length → Ortho t pre.length j) ∧ ∃ s4 s5 : Sl, ρ = [.val (tb t), .val (tr t), .val (.int t.n), .val (.int (0 + (pre.length : Nat))), s4, s5, .un, .un, .un, .un]) ?_ ?_ _ [] _ ⟨rfl, fun i hi => by simp at hi, _, _, rfl⟩
    · rintro pre2 d2 post2 ρ ⟨hall2, ho2, s4, s5, rfl⟩ k2 hk2
      obtain ⟨rfl, hj⟩ := ups_at hall2
      have hall2' : (pre2 ++ [D.int (0 + (pre2.length : Nat))]) ++ post2 = ups 0 3 := by rw [← hall2]; simp
      have l2 : (pre2 ++ [D.int (0 + (pre2.length : Nat))]).length = pre2.length + 1 := by simp
      have rj := row_atI t hj
      have bj := rowAt_bd bt pre2.length
      have sum : ∀ x y z : Int, [x, y, z].sum = x + y + z := fun x y z => by simp only [List.sum_cons, List.sum_nil]; omega
      refine ⟨c0, c1, onS_of ri (onS_of rj ⟨mk bi.x bj.x, sl_lt 0 rfl (by decide), ?_⟩)⟩
      refine onS_of ri (onS_of rj ⟨mk bi.y bj.y, sl_lt 1 rfl (by decide), ?_⟩)
      refine onS_of ri (onS_of rj ⟨mk bi.z bj.z, sl_lt 2 rfl (by decide), ?_⟩)
      refine ⟨[(rowAt t pre.length).x * (rowAt t pre2.length).x, (rowAt t pre.length).y * (rowAt t pre2.length).y, (rowAt t pre.length).z * (rowAt t pre2.length).z], rfl, ?_⟩
      rw [sum]
      show b_law_is_turn_L2_1 (loopS k2 _) [.val (tb t), .val (tr t), .val (.int t.n), .val (.int (0 + (pre.length : Nat))), .val (.int (0 + (pre2.length : Nat))), .val (.int (dot (rowAt t pre.length) (rowAt t pre2.length))), .un, .un, .un, .un]
      unfold b_law_is_turn_L2_1
      have ej : (if decide ((0 : Int) + (pre.length : Nat) = 0 + (pre2.length : Nat)) = true then (1 : Int) else 0) = if pre.length = pre2.length then 1 else 0 := by
        by_cases h : pre.length = pre2.length
        · rw [if_pos h, if_pos (decide_eq_true (by omega))]
        · rw [if_neg h, if_neg (by rw [decide_eq_true_eq]; omega)]
      refine ⟨mk bt.n bt.n, ?_⟩
      refine ⟨IntMulOk.of_right (by rw [ej]; split <;> decide), ?_⟩
      refine tst (fun hc => ?_) (fun hc => ?_)
      · refine h2 fun it => ?_
        have o := it.o pre.length hi pre2.length hj
        unfold Ortho at o
        have hc : (!decide (dot (rowAt t pre.length) (rowAt t pre2.length) = t.n * t.n * (if decide ((0 : Int) + (pre.length : Nat) = 0 + (pre2.length : Nat)) = true then (1 : Int) else 0))) = true := hc
        rw [ej, o] at hc
        simp at hc
      · have hc : (!decide (dot (rowAt t pre.length) (rowAt t pre2.length) = t.n * t.n * (if decide ((0 : Int) + (pre.length : Nat) = 0 + (pre2.length : Nat)) = true then (1 : Int) else 0))) = false := hc
        rw [ej] at hc
        have o : Ortho t pre.length pre2.length := by unfold Ortho; simpa using hc
        refine hk2 _ ⟨hall2', fun j hj' => ?_, _, _, rfl⟩
        rw [l2] at hj'
        by_cases h : j = pre2.length
        · subst h; exact o
        · exact ho2 j (by omega)
    · rintro pre2 ρ ⟨hall2, ho2, s4, s5, rfl⟩
      rw [List.append_nil] at hall2
      have l3 : pre2.length = 3 := by rw [hall2]; rfl
      rw [l3] at ho2
      refine hkk _ ⟨hall', fun i hi' j hj => ?_, _, _, _, rfl⟩
      rw [l1] at hi'
      by_cases h : i = pre.length
      · subst h; exact ho2 j hj
      · exact ho i (by omega) j hj
  · rintro pre ρ ⟨hall, ho, s3, s4, s5, rfl⟩
    rw [List.append_nil] at hall
    have l3 : pre.length = 3 := by rw [hall]; rfl
    rw [l3] at ho
    refine ⟨rfl, ?_⟩
    show b_law_is_turn_4 (finD Φ) [.val (tb t), .val (tr t), .val (.int t.n), s3, s4, s5, .val (pt t.p), .val (pt t.q), .val (pt t.r), .un]
    have b2 : ∀ {x y z w : Int}, Bd k x → Bd k y → Bd k z → Bd k w → Bd (2 * k + 1) (x * y - z * w) := fun hx hy hz hw => ((hx.mul hy).sub (hz.mul hw)).mono (by omega)
    have m3 : ∀ {x y : Int}, Bd k x → Bd (2 * k + 1) y → IntMulOk x y := fun hx hy => mulOk hx hy (by omega)
    refine ⟨mk bt.q.y bt.r.z, mk bt.q.z bt.r.y, m3 bt.p.x (b2 bt.q.y bt.r.z bt.q.z bt.r.y), ?_⟩
    refine ⟨mk bt.q.x bt.r.z, mk bt.q.z bt.r.x, m3 bt.p.y (b2 bt.q.x bt.r.z bt.q.z bt.r.x), ?_⟩
    refine ⟨mk bt.q.x bt.r.y, mk bt.q.y bt.r.x, m3 bt.p.z (b2 bt.q.x bt.r.y bt.q.y bt.r.x), ?_⟩
    refine ⟨mk bt.n bt.n, mulOk bnn bt.n (by omega), ?_⟩
    by_cases hd : det t.p t.q t.r = t.n * t.n * t.n
    · have : decide (det t.p t.q t.r = t.n * t.n * t.n) = true := decide_eq_true hd
      show Φ (.bl (decide (det t.p t.q t.r = t.n * t.n * t.n)))
      rw [this]
      exact h1 (isTurn_of (by omega) g1 ho hd)
    · have : decide (det t.p t.q t.r = t.n * t.n * t.n) = false := decide_eq_false hd
      show Φ (.bl (decide (det t.p t.q t.r = t.n * t.n * t.n)))
      rw [this]
      exact h2 fun it => hd it.d
theorem ok_law_is_turn {P : Program} {w : World} {K : PySem.W.Frag} {mg : Str → Option Value} {base : Heap} {t : Ad} (T : Txt K mg t) : FnOk P w K mg base CX0 2 t.a_law_is_turn t.d_law_is_turn ["thing"] (spD K 1 C_law_is_turn) := by
  have sc := sc_law_is_turn
  refine fn_ok (k := 1) T.F_law_is_turn sc_law_is_turn (fun cdv A outer s H E hr => ⟨b_law_is_turn, (psd_cons (psd_asg (pd_var (pv 0)) (pgd_tup rfl (pgds_cons (pgd_name (i := 1) sc.nd rfl (loc_of rfl)) (pgds_cons (pgd_name (i := 2) sc.nd rfl (loc_of rfl)) pgds_nil))))
  (psd_cons (psd_if (PWB.pb (pb_or (pb_cmp o_lt (pd_var (pv 2)) pd_int (nomark _)) (pb_or1 (pb_cmp o_ne (pd_call (ok_law_divisor T) mono_law_divisor (hr.mono (by decide)) rfl T.m_law_divisor T.F_law_divisor.kp T.b_law_divisor (pad_cons (pd_new (pf_cat (pd_new (pf_cat (pd_new (pf_cat (pd_new (pf_list (by rfl) T.z_list bt_list (pd_ix (pd_var (pv 1)) pd_int (fun _ _ => rfl)))) (pd_new (pf_list (by rfl) T.z_list bt_list (pd_ix (pd_var (pv 1)) pd_int (fun _ _ => rfl)))))) (pd_new (pf_list (by rfl) T.z_list bt_list (pd_ix (pd_var (pv 1)) pd_int (fun _ _ => rfl)))))) (pd_new (pf_lst (pad_cons (pd_var (pv 2)) pad_nil))))) pad_nil)) pd_int (nomark _)))))
  (psd_one (psd_ret pd_bl))
  psd_nil)
  (psd_cons (psd_for PassesOwn.never rfl (pid_range1 rfl T.z_range (pad_cons pd_int pad_nil)) (pgd_name (i := 3) sc.nd rfl (loc_of rfl))
  (psd_one (psd_for PassesOwn.never rfl (pid_range1 rfl T.z_range (pad_cons pd_int pad_nil)) (pgd_name (i := 4) sc.nd rfl (loc_of rfl))
  (psd_cons (psd_set (i := 5) sc.nd rfl (loc_of rfl) (pd_callB (b_sum rfl) rfl T.z_sum bt_sum (pad_cons (pd_new (pf_comp (xs := ["c"]) (M := ["thing", "rows", "bottom", "j", "k", "total", "a", "b", "?c", "whole_size"]) (n := 1) (by rfl) rfl rfl (pid_range1 rfl T.z_range (pad_cons pd_int pad_nil)) (fun _ _ _ _ => (pgn_name (i := 0) (by decide) (show List.Nodup (["c", "thing", "rows", "bottom", "j", "k", "total", "a", "b", "?c", "whole_size"] : List Str) by decide +kernel) rfl (by first | exact Or.inl rfl | exact Or.inr rfl))) (fun _ _ _ _ => pbs_nil) (fun _ _ _ _ => (pd_op o_mul (pd_ix (pd_ix (pd_var (pv 2)) (pd_var (pv 4)) (fun _ _ => rfl)) (pd_var (pv 0)) (fun _ _ => rfl)) (pd_ix (pd_ix (pd_var (pv 2)) (pd_var (pv 5)) (fun _ _ => rfl)) (pd_var (pv 0)) (fun _ _ => rfl)))))) pad_nil)))
  (psd_one (psd_if (pb_cmp o_ne (pd_var (pv 5)) (pd_op o_mul (pd_op o_mul (pd_var (pv 2)) (pd_var (pv 2))) (pd_callTy b_int rfl T.z_int bt_int (pad_cons (pd_cmp o_eq (pd_var (pv 3)) (pd_var (pv 4)) (nomark _)) pad_nil))) (nomark _))
  (psd_one (psd_ret pd_bl))
  psd_nil))))))
  (psd_cons (psd_asg (pd_var (pv 1)) (pgd_tup rfl (pgds_cons (pgd_name (i := 6) sc.nd rfl (loc_of rfl)) (pgds_cons (pgd_name (i := 7) sc.nd rfl (loc_of rfl)) (pgds_cons (pgd_name (i := 8) sc.nd rfl (loc_of rfl)) pgds_nil)))))
  (psd_cons (psd_set (i := 9) sc.nd rfl (loc_of rfl) (pd_op o_mul (pd_ix (pd_var (pv 6)) pd_int (fun _ _ => rfl)) (pd_op o_sub (pd_op o_mul (pd_ix (pd_var (pv 7)) pd_int (fun _ _ => rfl)) (pd_ix (pd_var (pv 8)) pd_int (fun _ _ => rfl))) (pd_op o_mul (pd_ix (pd_var (pv 7)) pd_int (fun _ _ => rfl)) (pd_ix (pd_var (pv 8)) pd_int (fun _ _ => rfl))))))
  (psd_cons (psd_set (i := 9) sc.nd rfl (loc_of rfl) (pd_op o_sub (pd_var (pv 9)) (pd_op o_mul (pd_ix (pd_var (pv 6)) pd_int (fun _ _ => rfl)) (pd_op o_sub (pd_op o_mul (pd_ix (pd_var (pv 7)) pd_int (fun _ _ => rfl)) (pd_ix (pd_var (pv 8)) pd_int (fun _ _ => rfl))) (pd_op o_mul (pd_ix (pd_var (pv 7)) pd_int (fun _ _ => rfl)) (pd_ix (pd_var (pv 8)) pd_int (fun _ _ => rfl)))))))
  (psd_cons (psd_set (i := 9) sc.nd rfl (loc_of rfl) (pd_op o_add (pd_var (pv 9)) (pd_op o_mul (pd_ix (pd_var (pv 6)) pd_int (fun _ _ => rfl)) (pd_op o_sub (pd_op o_mul (pd_ix (pd_var (pv 7)) pd_int (fun _ _ => rfl)) (pd_ix (pd_var (pv 8)) pd_int (fun _ _ => rfl))) (pd_op o_mul (pd_ix (pd_var (pv 7)) pd_int (fun _ _ => rfl)) (pd_ix (pd_var (pv 8)) pd_int (fun _ _ => rfl)))))))
  (psd_one (psd_ret (pd_cmp o_eq (pd_var (pv 9)) (pd_op o_mul (pd_op o_mul (pd_var (pv 2)) (pd_var (pv 2))) (pd_var (pv 2))) (nomark _))))))))))), rd_law_is_turn⟩)
noncomputable abbrev C_law : Con := cLaw
noncomputable def b_law_L1_1 : S3 :=
  (sIf (bAnd (dT (dOp (dI0 fun i j => .bl (decide (j < i))) (dVar 2) (dC (.int 0)))) (dT (dOp dGeS (dOp dIx (dIxO 1 (dOp (dI0 fun i j => .int (i - j)) (dVar 2) (dC (.int 1)))) (dC (.int 0))) (dOp dIx (dIxO 1 (dVar 2)) (dC (.int 0))))))
  (sRet (dC (.bl false)))
  sNext)
noncomputable abbrev b_law_L1 : S3 :=
  (sSeq (sIf (bOr (bNot (dT (dCall 1 C_law_form (aCons (dIxO 1 (dVar 2)) aNil)))) (bOr (dT (dOp dNe (dOp dIx (dIxO 1 (dVar 2)) (dC (.int 1))) (dC (.int 1)))) (bNot (dT (dCall 1 C_law_is_turn (aCons (dIxO 1 (dVar 2)) aNil))))))
  (sRet (dC (.bl false)))
  sNext)
  b_law_L1_1)
noncomputable def b_law_10 : S3 :=
  (sFreeze 1 (sRet (dOp dEqS (dF (fCall0 C_cube_turns)) (dVar 6))))
noncomputable def b_law_9 : S3 :=
  (sSeq (sApp 1 (dVar 3))
  b_law_10)
noncomputable def b_law_8 : S3 :=
  (sSeq (sSet 6 (dF (fLend 1 (fList (dVar 1)))))
  b_law_9)
noncomputable def b_law_7 : S3 :=
  (sSeq (sIf (bLend 1 (dT (dOp dNe (dOp dInS (dVar 5) (dVar 1)) (dOp dEq (dOp dIx (dVar 5) (dC (.int 1))) (dC (.int 1))))))
  (sRet (dC (.bl false)))
  sNext)
  b_law_8)
noncomputable def b_law_6 : S3 :=
  (sSeq (sSet 5 (dCall 1 C_turn_of (aCons (dCall 2 C_law_quad (aCons (dF (fSl (dVar 0) (oSome (dC (.int 2))) (oSome (dC (.int 82))))) (aCons (dC (.int 9)) aNil))) aNil)))
  b_law_7)
noncomputable def b_law_5 : S3 :=
  (sSeq (sIf (bLend 1 (dT (dOp dNotinS (dCall 2 C_after (aCons (dVar 3) (aCons (dVar 4) aNil))) (dVar 1))))
  (sRet (dC (.bl false)))
  sNext)
  b_law_6)
noncomputable def b_law_4 : S3 :=
  (sSeq (sSet 4 (dIxO 1 (dOp (dI (fun _ j => j ≠ 0) fun i j => .int (i.fmod j)) (dCall 2 C_law_cell_at (aCons (dVar 0) (aCons (dC (.int 1)) aNil))) (dC (.int 24)))))
  b_law_5)
noncomputable def b_law_3 : S3 :=
  (sSeq (sSet 3 (dIxO 1 (dOp (dI (fun _ j => j ≠ 0) fun i j => .int (i.fmod j)) (dCall 2 C_law_cell_at (aCons (dVar 0) (aCons (dC (.int 0)) aNil))) (dC (.int 24)))))
  b_law_4)
noncomputable def b_law_2 : S3 :=
  (sSeq (sFor (iR1 (aCons (dC (.int 24)) aNil)) (gN 2)
  b_law_L1)
  b_law_3)
noncomputable def b_law_1 : S3 :=
  (sSeq (sIf (bLend 1 (bOr (bNot (dT (dIsT isLst (dVar 1)))) (dT (dOp dNe (dB cLen (aCons (dVar 1) aNil)) (dC (.int 24))))))
  (sRet (dC (.bl false)))
  sNext)
  b_law_2)
noncomputable abbrev b_law : S3 :=
  (sSeq (sOwn 1 (fCall0 C_cube_turns))
  b_law_1)
theorem rd_law : ∀ (ds : List D) (Φ : D → Prop), ds.length = 1 → C_law ds Φ → b_law (finD Φ) (startD 7 ds) := by
  rintro ds Φ hl ⟨ns, rfl, hn, h⟩
  refine ⟨rfl, ?_⟩
  show b_law_1 (finD Φ) [.val (.lst (ns.map .int)), .own (cubeL.map tb), .un, .un, .un, .un, .un]
  unfold b_law_1
  refine tF (by rfl) ?_
  refine tF (by rfl) ?_
  show b_law_2 (finD Φ) [.val (.lst (ns.map .int)), .own (cubeL.map tb), .un, .un, .un, .un, .un]
  refine ⟨show (-(2 ^ 62) : Int) ≤ 24 by decide, show (24 : Int) < 2 ^ 62 by decide, ?_⟩
  show FOR (gN 2) b_law_L1 (ups 0 24) (thenS b_law_3 (finD Φ)) [.val (.lst (ns.map .int)), .own (cubeL.map tb), .un, .un, .un, .un, .un]
  refine FOR_nat (fun i ρ => ∃ sl, ρ = [.val (.lst (ns.map .int)), .own (cubeL.map tb), sl, .un, .un, .un, .un]) ⟨_, rfl⟩ ?_ ?_
  · rintro i hi ρ ⟨sl, rfl⟩ c hc
    have ei := cube_at hi
    have mi := cube_mem hi
    obtain ⟨ms, hm, hC, ne, bq, et⟩ := cube_q mi
    have n1 : (mkT (cubeI.getD i [])).n = 1 := by rw [et]; exact cube_n ms hm hC
    have isT : IsTurn (mkT (cubeI.getD i [])) := by rw [et]; exact turnT_is ne
    have bt : Bt 5 (mkT (cubeI.getD i [])) := by rw [et]; exact turnT_bd ne bq
    refine onS_of ei ⟨rfl, mkT (cubeI.getD i []), rfl, tF (by rfl) ?_⟩
    refine onS_of ei (tF (show (!decide ((mkT (cubeI.getD i [])).n = 1)) = false by rw [n1]; rfl) ?_)
    refine onS_of ei ⟨rfl, mkT (cubeI.getD i []), 5, rfl, by decide, bt, fun _ => tF (by rfl) ?_, fun z => absurd isT z⟩
    show b_law_L1_1 (loopS c (thenS b_law_3 (finD Φ))) [.val (.lst (ns.map .int)), .own (cubeL.map tb), .val (.int i), .un, .un, .un, .un]
    unfold b_law_L1_1
    refine tst (fun hp => ?_) fun hp => hc _ ⟨_, rfl⟩
    have hp : 0 < (i : Int) := of_decide_eq_true hp
    have e1 : (i : Int) - 1 = ((i - 1 : Nat) : Int) := by omega
    have ej := cube_at (show i - 1 < 24 by omega)
    rw [← e1] at ej
    have ord : ∀ t : T9, Ord 2 (tr t) := fun t => .tup fun d hd => by
      simp only [List.mem_cons, List.not_mem_nil, or_false] at hd
      rcases hd with rfl | rfl | rfl <;> exact ord_pt _
    refine onS_of ej (onS_of ei ⟨ord _, ord _, tF (cube_ord ⟨i, hi⟩ (show 0 < i by omega)) (hc _ ⟨_, rfl⟩)⟩)
  rintro ρ ⟨sl, rfl⟩
  have n24 : (24 : Int) ≠ 0 := by decide
  have m24 : ∀ x : Int, ∃ i : Nat, i < 24 ∧ x.fmod 24 = i := fun x => by
    have h1 : 0 ≤ x.fmod 24 := Int.fmod_nonneg_of_pos _ (by decide)
    have h2 : x.fmod 24 < 24 := Int.fmod_lt_of_pos _ (by decide)
    exact ⟨(x.fmod 24).toNat, by omega, by omega⟩
  obtain ⟨i, hi, ei⟩ := m24 (ns.getD 0 0)
  obtain ⟨j, hj, ej⟩ := m24 (ns.getD 1 0)
  refine ⟨rfl, ns, 0, rfl, n24, onS_of (by rw [ei]; exact cube_at hi) ?_⟩
  refine ⟨rfl, ns, 1, rfl, n24, onS_of (by rw [ej]; exact cube_at hj) ?_⟩
  have mi := cube_mem hi
  have mj := cube_mem hj
  show b_law_5 (finD Φ) [.val (.lst (ns.map .int)), .own (cubeL.map tb), sl, .val (tb (mkT (cubeI.getD i []))), .val (tb (mkT (cubeI.getD j []))), .un, .un]
  generalize mkT (cubeI.getD i []) = one at *
  generalize mkT (cubeI.getD j []) = other at *
  obtain ⟨ps, p1, p2, p3, p4, p5⟩ := cube_q mi
  obtain ⟨qs, q1, q2, q3, q4, q5⟩ := cube_q mj
  have deps24 : ∀ e ∈ cubeL.map tb, dep e ≤ 90 := fun e he => by
    obtain ⟨t, _, rfl⟩ := List.mem_map.mp he
    exact dep_tb t
  unfold b_law_5
  refine ⟨rfl, one, other, toQ ps, toQ qs, 1, rfl, p5, q5, p3, q3, by decide, p4, q4, deps24, tF ?_ ?_⟩
  · rw [any_tb.mpr (cubeL_in (cube_mul ps (List.mem_filter.mpr ⟨p1, p2⟩) qs (List.mem_filter.mpr ⟨q1, q2⟩)))]; rfl
  show b_law_6 (finD Φ) [.val (.lst (ns.map .int)), .own (cubeL.map tb), sl, .val (tb one), .val (tb other), .un, .un]
  unfold b_law_6
  refine ⟨rfl, D3.cutD ns (some 2) (some 82), 9, ?_, Nat.le_trans (cutD_len ns (some 2) (some 82)) (by omega), by decide, by decide, fun q hq bq => ?_⟩
  · show [D.lst (D3.cutD (ns.map D.int) (some 2) (some 82)), .int 9] = _
    rw [cutD_map]
  refine ⟨rfl, q, 107, rfl, hq, by decide, bq, ?_⟩
  show b_law_7 (finD Φ) [.val (.lst (ns.map .int)), .own (cubeL.map tb), sl, .val (tb one), .val (tb other), .val (tb (turnT q)), .un]
  have key : ((cubeL.map tb).any fun e => eqD e (tb (turnT q))) = decide ((turnT q).n = 1) := by
    rw [Bool.eq_iff_iff, any_tb, decide_eq_true_eq]
    constructor
    · intro hm
      obtain ⟨ms, hms, hc, _, _, e⟩ := cube_q hm
      rw [e]; exact cube_n ms hms hc
    · intro n1
      obtain ⟨ms, hms, hc, e⟩ := cube_all hq n1
      refine cubeL_in ?_
      have := cube_in ms hms hc
      rw [e, plain_turn' hq] at this
      exact this
  unfold b_law_7
  refine ⟨deps24, tF (show (!decide (((cubeL.map tb).any fun e => eqD e (tb (turnT q))) = decide ((turnT q).n = 1))) = false by rw [key]; simp) ?_⟩
  refine ⟨noLs_of fun d hd => ?_, ?_⟩
  · obtain ⟨t, _, rfl⟩ := List.mem_map.mp hd
    exact noL_tb t
  refine ⟨sl_lt 24 rfl (by decide), rfl, ?_⟩
  refine ⟨?_, ?_⟩
  · show deps (cubeL.map tb) + 1 ≤ 100
    exact Nat.succ_le_succ (deps_le fun d hd => Nat.le_trans (deps24 d hd) (by decide))
  · show Φ (.bl (eqD (.lst (cubeL.map tb)) (.lst (cubeL.map tb))))
    rw [eqD_refl]
    exact h
theorem ok_law {P : Program} {w : World} {K : PySem.W.Frag} {mg : Str → Option Value} {base : Heap} {t : Ad} (T : Txt K mg t) : FnOk P w K mg base CX0 6 t.a_law t.d_law ["script"] (spD K 1 C_law) := by
  have sc := sc_law
  refine fn_ok (k := 5) T.F_law sc_law (fun cdv A outer s H E hr => ⟨b_law, (psd_cons (psd_own (i := 1) sc.nd rfl (loc_of rfl) (pf_call0 (ok_cube_turns T) mono_cube_turns (hr.mono (by decide)) rfl T.m_cube_turns T.F_cube_turns.kp T.b_cube_turns))
  (psd_cons (psd_if (pb_lend 1 (PWB.pb (pb_or (pb_not (pb_val (pd_isinst ty_list rfl T.z_isinstance bt_isinstance rfl T.z_list bt_list (pd_var (pv 1))))) (pb_or1 (pb_cmp o_ne (pd_callB b_len rfl T.z_len bt_len (pad_cons (pd_var (pv 1)) pad_nil)) pd_int (nomark _))))))
  (psd_one (psd_ret pd_bl))
  psd_nil)
  (psd_cons (psd_for PassesOwn.never rfl (pid_range1 rfl T.z_range (pad_cons pd_int pad_nil)) (pgd_name (i := 2) sc.nd rfl (loc_of rfl))
  (psd_cons (psd_if (PWB.pb (pb_or (pb_not (pb_val (pd_call (ok_law_form T) mono_law_form (hr.mono (by decide)) rfl T.m_law_form T.F_law_form.kp T.b_law_form (pad_cons (pd_ixO (pv 1) (pd_var (pv 2)) (fun _ _ => rfl)) pad_nil)))) (pb_or (pb_cmp o_ne (pd_ix (pd_ixO (pv 1) (pd_var (pv 2)) (fun _ _ => rfl)) pd_int (fun _ _ => rfl)) pd_int (nomark _)) (pb_or1 (pb_not (pb_val (pd_call (ok_law_is_turn T) mono_law_is_turn (hr.mono (by decide)) rfl T.m_law_is_turn T.F_law_is_turn.kp T.b_law_is_turn (pad_cons (pd_ixO (pv 1) (pd_var (pv 2)) (fun _ _ => rfl)) pad_nil))))))))
  (psd_one (psd_ret pd_bl))
  psd_nil)
  (psd_one (psd_if (PWB.pb (pb_and (pb_cmp o_gt (pd_var (pv 2)) pd_int (nomark _)) (pb_and1 (pb_cmp (o_geS (hu3 hr)) (pd_ix (pd_ixO (pv 1) (pd_op o_sub (pd_var (pv 2)) pd_int) (fun _ _ => rfl)) pd_int (fun _ _ => rfl)) (pd_ix (pd_ixO (pv 1) (pd_var (pv 2)) (fun _ _ => rfl)) pd_int (fun _ _ => rfl)) (nomark _)))))
  (psd_one (psd_ret pd_bl))
  psd_nil))))
  (psd_cons (psd_set (i := 3) sc.nd rfl (loc_of rfl) (pd_ixO (pv 1) (pd_op o_mod (pd_call (ok_law_cell_at T) mono_law_cell_at (hr.mono (by decide)) rfl T.m_law_cell_at T.F_law_cell_at.kp T.b_law_cell_at (pad_cons (pd_var (pv 0)) (pad_cons pd_int pad_nil))) pd_int) (fun _ _ => rfl)))
  (psd_cons (psd_set (i := 4) sc.nd rfl (loc_of rfl) (pd_ixO (pv 1) (pd_op o_mod (pd_call (ok_law_cell_at T) mono_law_cell_at (hr.mono (by decide)) rfl T.m_law_cell_at T.F_law_cell_at.kp T.b_law_cell_at (pad_cons (pd_var (pv 0)) (pad_cons pd_int pad_nil))) pd_int) (fun _ _ => rfl)))
  (psd_cons (psd_if (pb_lend 1 (pb_cmp (o_notinS (hu3 hr)) (pd_call (ok_after T) mono_after (hr.mono (by decide)) rfl T.m_after T.F_after.kp T.b_after (pad_cons (pd_var (pv 3)) (pad_cons (pd_var (pv 4)) pad_nil))) (pd_var (pv 1)) (by rfl)))
  (psd_one (psd_ret pd_bl))
  psd_nil)
  (psd_cons (psd_set (i := 5) sc.nd rfl (loc_of rfl) (pd_call (ok_turn_of T) mono_turn_of (hr.mono (by decide)) rfl T.m_turn_of T.F_turn_of.kp T.b_turn_of (pad_cons (pd_call (ok_law_quad T) mono_law_quad (hr.mono (by decide)) rfl T.m_law_quad T.F_law_quad.kp T.b_law_quad (pad_cons (pd_new (pf_slice (pd_var (pv 0)) (pod_some pd_int) (pod_some pd_int))) (pad_cons pd_int pad_nil))) pad_nil)))
  (psd_cons (psd_if (pb_lend 1 (pb_cmp o_ne (pd_cmp (o_inS (hu3 hr)) (pd_var (pv 5)) (pd_var (pv 1)) (by rfl)) (pd_cmp o_eq (pd_ix (pd_var (pv 5)) pd_int (fun _ _ => rfl)) pd_int (nomark _)) (nomark _)))
  (psd_one (psd_ret pd_bl))
  psd_nil)
  (psd_cons (psd_set (i := 6) sc.nd rfl (loc_of rfl) (pd_new (pf_lend 1 (pf_list (by rfl) T.z_list bt_list (pd_var (pv 1))))))
  (psd_cons (psd_append (pv 1) (pd_var (pv 3)))
  (psd_freeze 1 (psd_one (psd_ret (pd_cmp (o_eqS (hu3 hr)) (pd_new (pf_call0 (ok_cube_turns T) mono_cube_turns (hr.mono (by decide)) rfl T.m_cube_turns T.F_cube_turns.kp T.b_cube_turns)) (pd_var (pv 6)) (nomark _))))))))))))))), rd_law⟩)
theorem all_mk {l : PySem.W.OpenLaw} {w : World} {K : PySem.W.Frag} {h : Heap} {mg : Str → Option Value} {fa : Addr} (X : K.In h) (G : h.Ns mainGlobals mg) (hfa : mg "law" = some (.ref fa))
    {f0 : Addr} {od0 an0 : Option Addr} {sl0 : Array (Option Value)} {oc0 kV0 dc0 pm0 cd0 ct0 : Value}
    (a0 : PySem.W.nsIn K mainGlobals "row_times" = some (some (.ref f0))) (l0 : K.lookup f0 = some ⟨oc0, od0, .func (PySem.W.fnOf "row_times" "row_times" (defArgs s_row_times) (defBody s_row_times) (defScope s_row_times) .none kV0 dc0 pm0 an0 cd0 ct0), sl0⟩) (c0 : PySem.W.codeIn K cd0 "row_times" = true) (k0 : PySem.W.keepIn K (.ref f0) = true)
    {f1 : Addr} {od1 an1 : Option Addr} {sl1 : Array (Option Value)} {oc1 kV1 dc1 pm1 cd1 ct1 : Value}
    (a1 : PySem.W.nsIn K mainGlobals "size" = some (some (.ref f1))) (l1 : K.lookup f1 = some ⟨oc1, od1, .func (PySem.W.fnOf "size" "size" (defArgs s_size) (defBody s_size) (defScope s_size) .none kV1 dc1 pm1 an1 cd1 ct1), sl1⟩) (c1 : PySem.W.codeIn K cd1 "size" = true) (k1 : PySem.W.keepIn K (.ref f1) = true)
    {f2 : Addr} {od2 an2 : Option Addr} {sl2 : Array (Option Value)} {oc2 kV2 dc2 pm2 cd2 ct2 : Value}
    (a2 : PySem.W.nsIn K mainGlobals "rows_of" = some (some (.ref f2))) (l2 : K.lookup f2 = some ⟨oc2, od2, .func (PySem.W.fnOf "rows_of" "rows_of" (defArgs s_rows_of) (defBody s_rows_of) (defScope s_rows_of) .none kV2 dc2 pm2 an2 cd2 ct2), sl2⟩) (c2 : PySem.W.codeIn K cd2 "rows_of" = true) (k2 : PySem.W.keepIn K (.ref f2) = true)
    {f3 : Addr} {od3 an3 : Option Addr} {sl3 : Array (Option Value)} {oc3 kV3 dc3 pm3 cd3 ct3 : Value}
    (a3 : PySem.W.nsIn K mainGlobals "divisor_of_two" = some (some (.ref f3))) (l3 : K.lookup f3 = some ⟨oc3, od3, .func (PySem.W.fnOf "divisor_of_two" "divisor_of_two" (defArgs s_divisor_of_two) (defBody s_divisor_of_two) (defScope s_divisor_of_two) .none kV3 dc3 pm3 an3 cd3 ct3), sl3⟩) (c3 : PySem.W.codeIn K cd3 "divisor_of_two" = true) (k3 : PySem.W.keepIn K (.ref f3) = true)
    {f4 : Addr} {od4 an4 : Option Addr} {sl4 : Array (Option Value)} {oc4 kV4 dc4 pm4 cd4 ct4 : Value}
    (a4 : PySem.W.nsIn K mainGlobals "divisor" = some (some (.ref f4))) (l4 : K.lookup f4 = some ⟨oc4, od4, .func (PySem.W.fnOf "divisor" "divisor" (defArgs s_divisor) (defBody s_divisor) (defScope s_divisor) .none kV4 dc4 pm4 an4 cd4 ct4), sl4⟩) (c4 : PySem.W.codeIn K cd4 "divisor" = true) (k4 : PySem.W.keepIn K (.ref f4) = true)
    {f5 : Addr} {od5 an5 : Option Addr} {sl5 : Array (Option Value)} {oc5 kV5 dc5 pm5 cd5 ct5 : Value}
    (a5 : PySem.W.nsIn K mainGlobals "table_divisor" = some (some (.ref f5))) (l5 : K.lookup f5 = some ⟨oc5, od5, .func (PySem.W.fnOf "table_divisor" "table_divisor" (defArgs s_table_divisor) (defBody s_table_divisor) (defScope s_table_divisor) .none kV5 dc5 pm5 an5 cd5 ct5), sl5⟩) (c5 : PySem.W.codeIn K cd5 "table_divisor" = true) (k5 : PySem.W.keepIn K (.ref f5) = true)
    {f6 : Addr} {od6 an6 : Option Addr} {sl6 : Array (Option Value)} {oc6 kV6 dc6 pm6 cd6 ct6 : Value}
    (a6 : PySem.W.nsIn K mainGlobals "row_over" = some (some (.ref f6))) (l6 : K.lookup f6 = some ⟨oc6, od6, .func (PySem.W.fnOf "row_over" "row_over" (defArgs s_row_over) (defBody s_row_over) (defScope s_row_over) .none kV6 dc6 pm6 an6 cd6 ct6), sl6⟩) (c6 : PySem.W.codeIn K cd6 "row_over" = true) (k6 : PySem.W.keepIn K (.ref f6) = true)
    {f7 : Addr} {od7 an7 : Option Addr} {sl7 : Array (Option Value)} {oc7 kV7 dc7 pm7 cd7 ct7 : Value}
    (a7 : PySem.W.nsIn K mainGlobals "turn_of" = some (some (.ref f7))) (l7 : K.lookup f7 = some ⟨oc7, od7, .func (PySem.W.fnOf "turn_of" "turn_of" (defArgs s_turn_of) (defBody s_turn_of) (defScope s_turn_of) .none kV7 dc7 pm7 an7 cd7 ct7), sl7⟩) (c7 : PySem.W.codeIn K cd7 "turn_of" = true) (k7 : PySem.W.keepIn K (.ref f7) = true)
    {f8 : Addr} {od8 an8 : Option Addr} {sl8 : Array (Option Value)} {oc8 kV8 dc8 pm8 cd8 ct8 : Value}
    (a8 : PySem.W.nsIn K mainGlobals "small_quads" = some (some (.ref f8))) (l8 : K.lookup f8 = some ⟨oc8, od8, .func (PySem.W.fnOf "small_quads" "small_quads" (defArgs s_small_quads) (defBody s_small_quads) (defScope s_small_quads) .none kV8 dc8 pm8 an8 cd8 ct8), sl8⟩) (c8 : PySem.W.codeIn K cd8 "small_quads" = true) (k8 : PySem.W.keepIn K (.ref f8) = true)
    {f9 : Addr} {od9 an9 : Option Addr} {sl9 : Array (Option Value)} {oc9 kV9 dc9 pm9 cd9 ct9 : Value}
    (a9 : PySem.W.nsIn K mainGlobals "odd_part" = some (some (.ref f9))) (l9 : K.lookup f9 = some ⟨oc9, od9, .func (PySem.W.fnOf "odd_part" "odd_part" (defArgs s_odd_part) (defBody s_odd_part) (defScope s_odd_part) .none kV9 dc9 pm9 an9 cd9 ct9), sl9⟩) (c9 : PySem.W.codeIn K cd9 "odd_part" = true) (k9 : PySem.W.keepIn K (.ref f9) = true)
    {f10 : Addr} {od10 an10 : Option Addr} {sl10 : Array (Option Value)} {oc10 kV10 dc10 pm10 cd10 ct10 : Value}
    (a10 : PySem.W.nsIn K mainGlobals "is_cube_quad" = some (some (.ref f10))) (l10 : K.lookup f10 = some ⟨oc10, od10, .func (PySem.W.fnOf "is_cube_quad" "is_cube_quad" (defArgs s_is_cube_quad) (defBody s_is_cube_quad) (defScope s_is_cube_quad) .none kV10 dc10 pm10 an10 cd10 ct10), sl10⟩) (c10 : PySem.W.codeIn K cd10 "is_cube_quad" = true) (k10 : PySem.W.keepIn K (.ref f10) = true)
    {f11 : Addr} {od11 an11 : Option Addr} {sl11 : Array (Option Value)} {oc11 kV11 dc11 pm11 cd11 ct11 : Value}
    (a11 : PySem.W.nsIn K mainGlobals "cube_turns" = some (some (.ref f11))) (l11 : K.lookup f11 = some ⟨oc11, od11, .func (PySem.W.fnOf "cube_turns" "cube_turns" (defArgs s_cube_turns) (defBody s_cube_turns) (defScope s_cube_turns) .none kV11 dc11 pm11 an11 cd11 ct11), sl11⟩) (c11 : PySem.W.codeIn K cd11 "cube_turns" = true) (k11 : PySem.W.keepIn K (.ref f11) = true)
    {f12 : Addr} {od12 an12 : Option Addr} {sl12 : Array (Option Value)} {oc12 kV12 dc12 pm12 cd12 ct12 : Value}
    (a12 : PySem.W.nsIn K mainGlobals "product" = some (some (.ref f12))) (l12 : K.lookup f12 = some ⟨oc12, od12, .func (PySem.W.fnOf "product" "product" (defArgs s_product) (defBody s_product) (defScope s_product) .none kV12 dc12 pm12 an12 cd12 ct12), sl12⟩) (c12 : PySem.W.codeIn K cd12 "product" = true) (k12 : PySem.W.keepIn K (.ref f12) = true)
    {f13 : Addr} {od13 an13 : Option Addr} {sl13 : Array (Option Value)} {oc13 kV13 dc13 pm13 cd13 ct13 : Value}
    (a13 : PySem.W.nsIn K mainGlobals "leads_below_nought" = some (some (.ref f13))) (l13 : K.lookup f13 = some ⟨oc13, od13, .func (PySem.W.fnOf "leads_below_nought" "leads_below_nought" (defArgs s_leads_below_nought) (defBody s_leads_below_nought) (defScope s_leads_below_nought) .none kV13 dc13 pm13 an13 cd13 ct13), sl13⟩) (c13 : PySem.W.codeIn K cd13 "leads_below_nought" = true) (k13 : PySem.W.keepIn K (.ref f13) = true)
    {f14 : Addr} {od14 an14 : Option Addr} {sl14 : Array (Option Value)} {oc14 kV14 dc14 pm14 cd14 ct14 : Value}
    (a14 : PySem.W.nsIn K mainGlobals "plain" = some (some (.ref f14))) (l14 : K.lookup f14 = some ⟨oc14, od14, .func (PySem.W.fnOf "plain" "plain" (defArgs s_plain) (defBody s_plain) (defScope s_plain) .none kV14 dc14 pm14 an14 cd14 ct14), sl14⟩) (c14 : PySem.W.codeIn K cd14 "plain" = true) (k14 : PySem.W.keepIn K (.ref f14) = true)
    {f15 : Addr} {od15 an15 : Option Addr} {sl15 : Array (Option Value)} {oc15 kV15 dc15 pm15 cd15 ct15 : Value}
    (a15 : PySem.W.nsIn K mainGlobals "multiples_of_quad" = some (some (.ref f15))) (l15 : K.lookup f15 = some ⟨oc15, od15, .func (PySem.W.fnOf "multiples_of_quad" "multiples_of_quad" (defArgs s_multiples_of_quad) (defBody s_multiples_of_quad) (defScope s_multiples_of_quad) .none kV15 dc15 pm15 an15 cd15 ct15), sl15⟩) (c15 : PySem.W.codeIn K cd15 "multiples_of_quad" = true) (k15 : PySem.W.keepIn K (.ref f15) = true)
    {f16 : Addr} {od16 an16 : Option Addr} {sl16 : Array (Option Value)} {oc16 kV16 dc16 pm16 cd16 ct16 : Value}
    (a16 : PySem.W.nsIn K mainGlobals "quad_of" = some (some (.ref f16))) (l16 : K.lookup f16 = some ⟨oc16, od16, .func (PySem.W.fnOf "quad_of" "quad_of" (defArgs s_quad_of) (defBody s_quad_of) (defScope s_quad_of) .none kV16 dc16 pm16 an16 cd16 ct16), sl16⟩) (c16 : PySem.W.codeIn K cd16 "quad_of" = true) (k16 : PySem.W.keepIn K (.ref f16) = true)
    {f17 : Addr} {od17 an17 : Option Addr} {sl17 : Array (Option Value)} {oc17 kV17 dc17 pm17 cd17 ct17 : Value}
    (a17 : PySem.W.nsIn K mainGlobals "after" = some (some (.ref f17))) (l17 : K.lookup f17 = some ⟨oc17, od17, .func (PySem.W.fnOf "after" "after" (defArgs s_after) (defBody s_after) (defScope s_after) .none kV17 dc17 pm17 an17 cd17 ct17), sl17⟩) (c17 : PySem.W.codeIn K cd17 "after" = true) (k17 : PySem.W.keepIn K (.ref f17) = true)
    {f18 : Addr} {od18 an18 : Option Addr} {sl18 : Array (Option Value)} {oc18 kV18 dc18 pm18 cd18 ct18 : Value}
    (a18 : PySem.W.nsIn K mainGlobals "_law_near" = some (some (.ref f18))) (l18 : K.lookup f18 = some ⟨oc18, od18, .func (PySem.W.fnOf "_law_near" "_law_near" (defArgs s_law_near) (defBody s_law_near) (defScope s_law_near) .none kV18 dc18 pm18 an18 cd18 ct18), sl18⟩) (c18 : PySem.W.codeIn K cd18 "_law_near" = true) (k18 : PySem.W.keepIn K (.ref f18) = true)
    {f19 : Addr} {od19 an19 : Option Addr} {sl19 : Array (Option Value)} {oc19 kV19 dc19 pm19 cd19 ct19 : Value}
    (a19 : PySem.W.nsIn K mainGlobals "_law_quad" = some (some (.ref f19))) (l19 : K.lookup f19 = some ⟨oc19, od19, .func (PySem.W.fnOf "_law_quad" "_law_quad" (defArgs s_law_quad) (defBody s_law_quad) (defScope s_law_quad) .none kV19 dc19 pm19 an19 cd19 ct19), sl19⟩) (c19 : PySem.W.codeIn K cd19 "_law_quad" = true) (k19 : PySem.W.keepIn K (.ref f19) = true)
    {f20 : Addr} {od20 an20 : Option Addr} {sl20 : Array (Option Value)} {oc20 kV20 dc20 pm20 cd20 ct20 : Value}
    (a20 : PySem.W.nsIn K mainGlobals "_law_cell_at" = some (some (.ref f20))) (l20 : K.lookup f20 = some ⟨oc20, od20, .func (PySem.W.fnOf "_law_cell_at" "_law_cell_at" (defArgs s_law_cell_at) (defBody s_law_cell_at) (defScope s_law_cell_at) .none kV20 dc20 pm20 an20 cd20 ct20), sl20⟩) (c20 : PySem.W.codeIn K cd20 "_law_cell_at" = true) (k20 : PySem.W.keepIn K (.ref f20) = true)
    {f21 : Addr} {od21 an21 : Option Addr} {sl21 : Array (Option Value)} {oc21 kV21 dc21 pm21 cd21 ct21 : Value}
    (a21 : PySem.W.nsIn K mainGlobals "_law_whole" = some (some (.ref f21))) (l21 : K.lookup f21 = some ⟨oc21, od21, .func (PySem.W.fnOf "_law_whole" "_law_whole" (defArgs s_law_whole) (defBody s_law_whole) (defScope s_law_whole) .none kV21 dc21 pm21 an21 cd21 ct21), sl21⟩) (c21 : PySem.W.codeIn K cd21 "_law_whole" = true) (k21 : PySem.W.keepIn K (.ref f21) = true)
    {f22 : Addr} {od22 an22 : Option Addr} {sl22 : Array (Option Value)} {oc22 kV22 dc22 pm22 cd22 ct22 : Value}
    (a22 : PySem.W.nsIn K mainGlobals "_law_form" = some (some (.ref f22))) (l22 : K.lookup f22 = some ⟨oc22, od22, .func (PySem.W.fnOf "_law_form" "_law_form" (defArgs s_law_form) (defBody s_law_form) (defScope s_law_form) .none kV22 dc22 pm22 an22 cd22 ct22), sl22⟩) (c22 : PySem.W.codeIn K cd22 "_law_form" = true) (k22 : PySem.W.keepIn K (.ref f22) = true)
    {f23 : Addr} {od23 an23 : Option Addr} {sl23 : Array (Option Value)} {oc23 kV23 dc23 pm23 cd23 ct23 : Value}
    (a23 : PySem.W.nsIn K mainGlobals "_law_divisor" = some (some (.ref f23))) (l23 : K.lookup f23 = some ⟨oc23, od23, .func (PySem.W.fnOf "_law_divisor" "_law_divisor" (defArgs s_law_divisor) (defBody s_law_divisor) (defScope s_law_divisor) .none kV23 dc23 pm23 an23 cd23 ct23), sl23⟩) (c23 : PySem.W.codeIn K cd23 "_law_divisor" = true) (k23 : PySem.W.keepIn K (.ref f23) = true)
    {f24 : Addr} {od24 an24 : Option Addr} {sl24 : Array (Option Value)} {oc24 kV24 dc24 pm24 cd24 ct24 : Value}
    (a24 : PySem.W.nsIn K mainGlobals "_law_is_turn" = some (some (.ref f24))) (l24 : K.lookup f24 = some ⟨oc24, od24, .func (PySem.W.fnOf "_law_is_turn" "_law_is_turn" (defArgs s_law_is_turn) (defBody s_law_is_turn) (defScope s_law_is_turn) .none kV24 dc24 pm24 an24 cd24 ct24), sl24⟩) (c24 : PySem.W.codeIn K cd24 "_law_is_turn" = true) (k24 : PySem.W.keepIn K (.ref f24) = true)
    {f25 : Addr} {od25 an25 : Option Addr} {sl25 : Array (Option Value)} {oc25 kV25 dc25 pm25 cd25 ct25 : Value}
    (a25 : PySem.W.nsIn K mainGlobals "law" = some (some (.ref f25))) (l25 : K.lookup f25 = some ⟨oc25, od25, .func (PySem.W.fnOf "law" "law" (defArgs s_law) (defBody s_law) (defScope s_law) .none kV25 dc25 pm25 an25 cd25 ct25), sl25⟩) (c25 : PySem.W.codeIn K cd25 "law" = true) (k25 : PySem.W.keepIn K (.ref f25) = true)
    (z_abs : PySem.W.nsIn K mainGlobals "abs" = some none)
    (z_all : PySem.W.nsIn K mainGlobals "all" = some none)
    (z_bool : PySem.W.nsIn K mainGlobals "bool" = some none)
    (z_int : PySem.W.nsIn K mainGlobals "int" = some none)
    (z_isinstance : PySem.W.nsIn K mainGlobals "isinstance" = some none)
    (z_len : PySem.W.nsIn K mainGlobals "len" = some none)
    (z_list : PySem.W.nsIn K mainGlobals "list" = some none)
    (z_max : PySem.W.nsIn K mainGlobals "max" = some none)
    (z_range : PySem.W.nsIn K mainGlobals "range" = some none)
    (z_sorted : PySem.W.nsIn K mainGlobals "sorted" = some none)
    (z_sum : PySem.W.nsIn K mainGlobals "sum" = some none)
    (z_tuple : PySem.W.nsIn K mainGlobals "tuple" = some none)
    : ∃ fd : FuncData, (∀ (s : Shared) (v : Value), BindsTo s fd ⟨[v], []⟩ [("script", v)]) ∧ ∀ base : Heap, K.In base → base.Ns mainGlobals mg → FnOk l.prog w K mg base CX0 6 fa fd ["script"] (spD K 1 cLaw) := by
  have e := hfa.symm.trans (PySem.W.mg_of X G a25)
  cases e
  have F0 := fun_mk (st := s_row_times) l0 c0 k0
  have b0 := F0.binds (ps := ["one", "other"]) fun _ _ _ _ _ _ us hl => len_2 us hl fun _ _ => rfl
  have F1 := fun_mk (st := s_size) l1 c1 k1
  have b1 := F1.binds (ps := ["quad"]) fun _ _ _ _ _ _ us hl => len_1 us hl fun _ => rfl
  have F2 := fun_mk (st := s_rows_of) l2 c2 k2
  have b2 := F2.binds (ps := ["quad"]) fun _ _ _ _ _ _ us hl => len_1 us hl fun _ => rfl
  have F3 := fun_mk (st := s_divisor_of_two) l3 c3 k3
  have b3 := F3.binds (ps := ["one", "other"]) fun _ _ _ _ _ _ us hl => len_2 us hl fun _ _ => rfl
  have F4 := fun_mk (st := s_divisor) l4 c4 k4
  have b4 := F4.binds (ps := ["numbers"]) fun _ _ _ _ _ _ us hl => len_1 us hl fun _ => rfl
  have F5 := fun_mk (st := s_table_divisor) l5 c5 k5
  have b5 := F5.binds (ps := ["rows", "bottom"]) fun _ _ _ _ _ _ us hl => len_2 us hl fun _ _ => rfl
  have F6 := fun_mk (st := s_row_over) l6 c6 k6
  have b6 := F6.binds (ps := ["row", "n"]) fun _ _ _ _ _ _ us hl => len_2 us hl fun _ _ => rfl
  have F7 := fun_mk (st := s_turn_of) l7 c7 k7
  have b7 := F7.binds (ps := ["quad"]) fun _ _ _ _ _ _ us hl => len_1 us hl fun _ => rfl
  have F8 := fun_mk (st := s_small_quads) l8 c8 k8
  have b8 := F8.binds (ps := []) fun _ _ _ _ _ _ us hl => len_0 us hl rfl
  have F9 := fun_mk (st := s_odd_part) l9 c9 k9
  have b9 := F9.binds (ps := ["n"]) fun _ _ _ _ _ _ us hl => len_1 us hl fun _ => rfl
  have F10 := fun_mk (st := s_is_cube_quad) l10 c10 k10
  have b10 := F10.binds (ps := ["quad"]) fun _ _ _ _ _ _ us hl => len_1 us hl fun _ => rfl
  have F11 := fun_mk (st := s_cube_turns) l11 c11 k11
  have b11 := F11.binds (ps := []) fun _ _ _ _ _ _ us hl => len_0 us hl rfl
  have F12 := fun_mk (st := s_product) l12 c12 k12
  have b12 := F12.binds (ps := ["one", "other"]) fun _ _ _ _ _ _ us hl => len_2 us hl fun _ _ => rfl
  have F13 := fun_mk (st := s_leads_below_nought) l13 c13 k13
  have b13 := F13.binds (ps := ["quad"]) fun _ _ _ _ _ _ us hl => len_1 us hl fun _ => rfl
  have F14 := fun_mk (st := s_plain) l14 c14 k14
  have b14 := F14.binds (ps := ["quad"]) fun _ _ _ _ _ _ us hl => len_1 us hl fun _ => rfl
  have F15 := fun_mk (st := s_multiples_of_quad) l15 c15 k15
  have b15 := F15.binds (ps := ["turn"]) fun _ _ _ _ _ _ us hl => len_1 us hl fun _ => rfl
  have F16 := fun_mk (st := s_quad_of) l16 c16 k16
  have b16 := F16.binds (ps := ["turn"]) fun _ _ _ _ _ _ us hl => len_1 us hl fun _ => rfl
  have F17 := fun_mk (st := s_after) l17 c17 k17
  have b17 := F17.binds (ps := ["one", "other"]) fun _ _ _ _ _ _ us hl => len_2 us hl fun _ _ => rfl
  have F18 := fun_mk (st := s_law_near) l18 c18 k18
  have b18 := F18.binds (ps := ["cell", "most"]) fun _ _ _ _ _ _ us hl => len_2 us hl fun _ _ => rfl
  have F19 := fun_mk (st := s_law_quad) l19 c19 k19
  have b19 := F19.binds (ps := ["cells", "most"]) fun _ _ _ _ _ _ us hl => len_2 us hl fun _ _ => rfl
  have F20 := fun_mk (st := s_law_cell_at) l20 c20 k20
  have b20 := F20.binds (ps := ["script", "k"]) fun _ _ _ _ _ _ us hl => len_2 us hl fun _ _ => rfl
  have F21 := fun_mk (st := s_law_whole) l21 c21 k21
  have b21 := F21.binds (ps := ["found"]) fun _ _ _ _ _ _ us hl => len_1 us hl fun _ => rfl
  have F22 := fun_mk (st := s_law_form) l22 c22 k22
  have b22 := F22.binds (ps := ["found"]) fun _ _ _ _ _ _ us hl => len_1 us hl fun _ => rfl
  have F23 := fun_mk (st := s_law_divisor) l23 c23 k23
  have b23 := F23.binds (ps := ["numbers"]) fun _ _ _ _ _ _ us hl => len_1 us hl fun _ => rfl
  have F24 := fun_mk (st := s_law_is_turn) l24 c24 k24
  have b24 := F24.binds (ps := ["thing"]) fun _ _ _ _ _ _ us hl => len_1 us hl fun _ => rfl
  have F25 := fun_mk (st := s_law) l25 c25 k25
  have b25 := F25.binds (ps := ["script"]) fun _ _ _ _ _ _ us hl => len_1 us hl fun _ => rfl
  have T : Txt K mg ⟨_, _, _, _, _, _, _, _, _, _, _, _, _, _, _, _, _, _, _, _, _, _, _, _, _, _, _, _, _, _, _, _, _, _, _, _, _, _, _, _, _, _, _, _, _, _, _, _, _, _, _, _⟩ := ⟨F0, PySem.W.mg_of X G a0, b0, F1, PySem.W.mg_of X G a1, b1, F2, PySem.W.mg_of X G a2, b2, F3, PySem.W.mg_of X G a3, b3, F4, PySem.W.mg_of X G a4, b4, F5, PySem.W.mg_of X G a5, b5, F6, PySem.W.mg_of X G a6, b6, F7, PySem.W.mg_of X G a7, b7, F8, PySem.W.mg_of X G a8, b8, F9, PySem.W.mg_of X G a9, b9, F10, PySem.W.mg_of X G a10, b10, F11, PySem.W.mg_of X G a11, b11, F12, PySem.W.mg_of X G a12, b12, F13, PySem.W.mg_of X G a13, b13, F14, PySem.W.mg_of X G a14, b14, F15, PySem.W.mg_of X G a15, b15, F16, PySem.W.mg_of X G a16, b16, F17, PySem.W.mg_of X G a17, b17, F18, PySem.W.mg_of X G a18, b18, F19, PySem.W.mg_of X G a19, b19, F20, PySem.W.mg_of X G a20, b20, F21, PySem.W.mg_of X G a21, b21, F22, PySem.W.mg_of X G a22, b22, F23, PySem.W.mg_of X G a23, b23, F24, PySem.W.mg_of X G a24, b24, F25, PySem.W.mg_of X G a25, b25, PySem.W.mg_none_of X G z_abs, PySem.W.mg_none_of X G z_all, PySem.W.mg_none_of X G z_bool, PySem.W.mg_none_of X G z_int, PySem.W.mg_none_of X G z_isinstance, PySem.W.mg_none_of X G z_len, PySem.W.mg_none_of X G z_list, PySem.W.mg_none_of X G z_max, PySem.W.mg_none_of X G z_range, PySem.W.mg_none_of X G z_sorted, PySem.W.mg_none_of X G z_sum, PySem.W.mg_none_of X G z_tuple⟩
  exact ⟨_, fun s v => .of_eq rfl, fun base _ _ => ok_law T⟩
end My
open PySem PySem.W PyProof.Rows
set_option maxRecDepth 100000 in
set_option maxHeartbeats 0 in
theorem PySem.Challenge.cw_turngrid_k17_turns_of_the_cube_holds : PySem.Challenge.rw_turngrid_k17_turns_of_the_cube.Holds := by
  w_on; o_law; k_head; (case hw => w_witness2)
  k_fill
  refine D3.walk (l := PySem.Challenge.rw_turngrid_k17_turns_of_the_cube) (k := 6) rfl rfl ⟨rfl, by decide, by decide⟩ (fun w h Y => PySem.W.kIn_of Y) ?F
  case F =>
    intro w mg fa h KX G hmg
    refine' My.all_mk KX G hmg ?a0 ?l0 ?c0 ?k0 ?a1 ?l1 ?c1 ?k1 ?a2 ?l2 ?c2 ?k2 ?a3 ?l3 ?c3 ?k3 ?a4 ?l4 ?c4 ?k4 ?a5 ?l5 ?c5 ?k5 ?a6 ?l6 ?c6 ?k6 ?a7 ?l7 ?c7 ?k7 ?a8 ?l8 ?c8 ?k8 ?a9 ?l9 ?c9 ?k9 ?a10 ?l10 ?c10 ?k10 ?a11 ?l11 ?c11 ?k11 ?a12 ?l12 ?c12 ?k12 ?a13 ?l13 ?c13 ?k13 ?a14 ?l14 ?c14 ?k14 ?a15 ?l15 ?c15 ?k15 ?a16 ?l16 ?c16 ?k16 ?a17 ?l17 ?c17 ?k17 ?a18 ?l18 ?c18 ?k18 ?a19 ?l19 ?c19 ?k19 ?a20 ?l20 ?c20 ?k20 ?a21 ?l21 ?c21 ?k21 ?a22 ?l22 ?c22 ?k22 ?a23 ?l23 ?c23 ?k23 ?a24 ?l24 ?c24 ?k24 ?a25 ?l25 ?c25 ?k25 ?z_abs ?z_all ?z_bool ?z_int ?z_isinstance ?z_len ?z_list ?z_max ?z_range ?z_sorted ?z_sum ?z_tuple
    (case a0 => k_is)
    (case l0 => k_is)
    (case c0 => k_is)
    (case k0 => k_is)
    (case a1 => k_is)
    (case l1 => k_is)
    (case c1 => k_is)
    (case k1 => k_is)
    (case a2 => k_is)
    (case l2 => k_is)
    (case c2 => k_is)
    (case k2 => k_is)
    (case a3 => k_is)
    (case l3 => k_is)
    (case c3 => k_is)
    (case k3 => k_is)
    (case a4 => k_is)
    (case l4 => k_is)
    (case c4 => k_is)
    (case k4 => k_is)
    (case a5 => k_is)
    (case l5 => k_is)
    (case c5 => k_is)
    (case k5 => k_is)
    (case a6 => k_is)
    (case l6 => k_is)
    (case c6 => k_is)
    (case k6 => k_is)
    (case a7 => k_is)
    (case l7 => k_is)
    (case c7 => k_is)
    (case k7 => k_is)
    (case a8 => k_is)
    (case l8 => k_is)
    (case c8 => k_is)
    (case k8 => k_is)
    (case a9 => k_is)
    (case l9 => k_is)
    (case c9 => k_is)
    (case k9 => k_is)
    (case a10 => k_is)
    (case l10 => k_is)
    (case c10 => k_is)
    (case k10 => k_is)
    (case a11 => k_is)
    (case l11 => k_is)
    (case c11 => k_is)
    (case k11 => k_is)
    (case a12 => k_is)
    (case l12 => k_is)
    (case c12 => k_is)
    (case k12 => k_is)
    (case a13 => k_is)
    (case l13 => k_is)
    (case c13 => k_is)
    (case k13 => k_is)
    (case a14 => k_is)
    (case l14 => k_is)
    (case c14 => k_is)
    (case k14 => k_is)
    (case a15 => k_is)
    (case l15 => k_is)
    (case c15 => k_is)
    (case k15 => k_is)
    (case a16 => k_is)
    (case l16 => k_is)
    (case c16 => k_is)
    (case k16 => k_is)
    (case a17 => k_is)
    (case l17 => k_is)
    (case c17 => k_is)
    (case k17 => k_is)
    (case a18 => k_is)
    (case l18 => k_is)
    (case c18 => k_is)
    (case k18 => k_is)
    (case a19 => k_is)
    (case l19 => k_is)
    (case c19 => k_is)
    (case k19 => k_is)
    (case a20 => k_is)
    (case l20 => k_is)
    (case c20 => k_is)
    (case k20 => k_is)
    (case a21 => k_is)
    (case l21 => k_is)
    (case c21 => k_is)
    (case k21 => k_is)
    (case a22 => k_is)
    (case l22 => k_is)
    (case c22 => k_is)
    (case k22 => k_is)
    (case a23 => k_is)
    (case l23 => k_is)
    (case c23 => k_is)
    (case k23 => k_is)
    (case a24 => k_is)
    (case l24 => k_is)
    (case c24 => k_is)
    (case k24 => k_is)
    (case a25 => k_is)
    (case l25 => k_is)
    (case c25 => k_is)
    (case k25 => k_is)
    (case z_abs => k_is)
    (case z_all => k_is)
    (case z_bool => k_is)
    (case z_int => k_is)
    (case z_isinstance => k_is)
    (case z_len => k_is)
    (case z_list => k_is)
    (case z_max => k_is)
    (case z_range => k_is)
    (case z_sorted => k_is)
    (case z_sum => k_is)
    (case z_tuple => k_is)

