import PyProof.Rows.All
import Wide.All
import OpenK.AllK
import Wide.FinOn
import Lean
import PyProof.EqAt
import PyProof.EqKinds
import PyProof.TupleCall
import PyProof.NeKinds
import KE.KRevIter
import KE.KDictSum
import PySem.Challenge.RW_turngrid_k42_parted_by_sizes
set_option Elab.async false
set_option linter.all false
set_option maxRecDepth 100000
set_option Elab.async false
set_option linter.all false
set_option maxRecDepth 100000
namespace L2
open PySem PySem.Spec PyProof.Rows

noncomputable abbrev Key := Sum Int Str
noncomputable def keyIs : Key → Value → Bool
  | .inl k, v => Value.isInt k v
  | .inr x, v => Value.isStrOf x v
noncomputable def keyH (w : World) : Key → Int
  | .inl k => hashInt k
  | .inr x => hashStr w x
theorem keyIs_shape : ∀ {k : Key} {v : Value}, keyIs k v = true → (∃ i t, k = Sum.inl i ∧ v = Value.int i t) ∨ (∃ x t, k = Sum.inr x ∧ v = Value.str x t)
  | .inl i, v, h => by
    obtain ⟨t, e⟩ := Value.isInt_shape (k := i) (v := v) h
    exact .inl ⟨i, t, rfl, e⟩
  | .inr x, v, h => by
    obtain ⟨t, e⟩ := Value.isStrOf_shape (x := x) (v := v) h
    exact .inr ⟨x, t, rfl, e⟩
theorem key_ll (a b : Int) : decide ((Sum.inl a : Key) = Sum.inl b) = (a == b) := by
  by_cases e : a = b
  · subst e; simp
  · have h : ¬ (Sum.inl a : Key) = Sum.inl b := fun q => e (Sum.inl.inj q)
    rw [decide_eq_false h]
    exact (beq_eq_false_iff_ne.mpr e).symm
theorem key_rr (a b : Str) : decide ((Sum.inr a : Key) = Sum.inr b) = decide (a = b) := by
  by_cases e : a = b
  · subst e; simp
  · have h : ¬ (Sum.inr a : Key) = Sum.inr b := fun q => e (Sum.inr.inj q)
    rw [decide_eq_false h, decide_eq_false e]
theorem key_lr (a : Int) (b : Str) : decide ((Sum.inl a : Key) = Sum.inr b) = false := decide_eq_false (fun q => by cases q)
theorem key_rl (a : Str) (b : Int) : decide ((Sum.inr a : Key) = Sum.inl b) = false := decide_eq_false (fun q => by cases q)

noncomputable def mixKind (prog : Program) (w : World) : PySem.KeyKind prog w Key where
  is := keyIs
  hash := keyH w
  inj := fun v a b ha hb => by
    rcases keyIs_shape ha with ⟨i, t, rfl, rfl⟩ | ⟨x, t, rfl, rfl⟩
    · rcases keyIs_shape hb with ⟨j, u, rfl, e⟩ | ⟨y, u, rfl, e⟩
      · injection e with e1 _; rw [e1]
      · exact by cases e
    · rcases keyIs_shape hb with ⟨j, u, rfl, e⟩ | ⟨y, u, rfl, e⟩
      · exact by cases e
      · injection e with e1 _; rw [e1]
  byValue := fun k v h => by
    rcases keyIs_shape h with ⟨i, t, rfl, rfl⟩ | ⟨x, t, rfl, rfl⟩ <;> rfl
  pyHash := fun hv h => by
    rcases keyIs_shape hv with ⟨i, t, rfl, rfl⟩ | ⟨x, t, rfl, rfl⟩
    · exact wpAny_pyHash_int h
    · exact wpAny_pyHash_str h
  eqBool := fun hu hv h => by
    rcases keyIs_shape hu with ⟨i, t, rfl, rfl⟩ | ⟨x, t, rfl, rfl⟩
    · rcases keyIs_shape hv with ⟨j, u, rfl, rfl⟩ | ⟨y, u, rfl, rfl⟩
      · rw [key_ll] at h; exact wpAny_eqBool_int h
      · rw [key_lr] at h; exact SeqAt.EqAt.int_str i t y u _ _ _ _ h
    · rcases keyIs_shape hv with ⟨j, u, rfl, rfl⟩ | ⟨y, u, rfl, rfl⟩
      · rw [key_rl] at h; exact SeqAt.EqAt.str_int x t j u _ _ _ _ h
      · rw [key_rr] at h; exact wpAny_eqBool_str h
  «strs» := fun k x t v h => by
    rcases keyIs_shape h with ⟨i, u, rfl, e⟩ | ⟨y, u, rfl, e⟩
    · exact by cases e
    · injection e with e1 _
      subst e1
      cases v <;> rfl

end L2

namespace L2
open PySem PySem.Spec PyProof.Rows

inductive V where
  | non | bl (b : Bool) | int (i : Int) | str (x : Str) | byt (b : Array UInt8) | flt (b : UInt64) | ref (a : Addr) | ty (n : String)
  deriving DecidableEq

noncomputable def RelV : V → Value → Prop
  | .non, u => u = Value.none
  | .bl b, u => u = Value.bool b
  | .int i, u => ∃ t, u = Value.int i t
  | .str x, u => ∃ t, u = Value.str x t
  | .byt b, u => ∃ t, u = Value.bytes b t
  | .flt b, u => ∃ t, u = Value.float b t
  | .ref a, u => u = Value.ref a
  | .ty n, u => u = Value.type n

noncomputable abbrev Vals : List V → List Value → Prop := Paired RelV
theorem Vals.length {xs : List V} {us : List Value} (r : Vals xs us) : xs.length = us.length := Paired.length r
theorem Vals.get : ∀ {xs : List V} {us : List Value} {i : Nat} {x : V}, Vals xs us → xs[i]? = some x → ∃ u, us[i]? = some u ∧ RelV x u
  | _, _, _, _, .nil, e => by simp at e
  | _, _, 0, _, .cons r _, e => by simp at e; subst e; exact ⟨_, rfl, r⟩
  | _, _, i + 1, x, .cons _ t, e => by
    obtain ⟨u, h1, h2⟩ := Vals.get (i := i) (x := x) t (by simpa using e)
    exact ⟨u, by simpa using h1, h2⟩
theorem Vals.set {x : V} {u : Value} (r : RelV x u) : ∀ {xs : List V} {us : List Value} (i : Nat), Vals xs us → Vals (xs.set i x) (us.set i u)
  | _, _, _, .nil => .nil
  | _, _, 0, .cons _ t => .cons r t
  | _, _, i + 1, .cons q t => .cons q (Vals.set r i t)
theorem Vals.append : ∀ {xs ys : List V} {us ws : List Value}, Vals xs us → Vals ys ws → Vals (xs ++ ys) (us ++ ws)
  | _, _, _, _, .nil, s => s
  | _, _, _, _, .cons r t, s => .cons r (Vals.append t s)
theorem Vals.take : ∀ {xs : List V} {us : List Value} (n : Nat), Vals xs us → Vals (xs.take n) (us.take n)
  | _, _, 0, _ => .nil
  | _, _, _ + 1, .nil => .nil
  | _, _, n + 1, .cons r t => .cons r (Vals.take n t)
theorem Vals.drop : ∀ {xs : List V} {us : List Value} (n : Nat), Vals xs us → Vals (xs.drop n) (us.drop n)
  | _, _, 0, r => r
  | _, _, _ + 1, .nil => .nil
  | _, _, n + 1, .cons _ t => Vals.drop n t
noncomputable def RelO : Option V → Option Value → Prop
  | some v, some u => RelV v u
  | none, none => True
  | _, _ => False
noncomputable def KV {κ : Type} : List (κ × V) → List (κ × Value) → Prop := Paired fun (p : κ × V) (q : κ × Value) => p.1 = q.1 ∧ RelV p.2 q.2

noncomputable def kV : Key → V
  | .inl i => .int i
  | .inr x => .str x

inductive HO where
  /-- a list -/
  | lst (xs : List V)
  /-- a tuple (never changes) -/
  | tup (xs : List V)
  /-- a dict whose keys are ints and texts; one whose keys are tuples of ints and texts (the empty one is both) -/
  | dK (kvs : List (Key × V)) | dT (kvs : List (List Key × V))
  /-- a set of ints: its members, its size -/
  | set (S : Int → Bool) (n : Nat)
  /-- an instance of the class at C, its dict at dx, its attributes -/
  | ins (C dx : Addr) (fs : List (Str × V))
  /-- the dict of the instance at x -/
  | own (x : Addr)
  /-- the dict of an exception -/
  | xd (fs : List (Str × V))
  /-- a bound method, f of x -/
  | met (f x : Addr)
  /-- a range object lo, lo + 1, .. below hi -/
  | rng (lo hi : Int)
  /-- a thing that is known to the object (the script; a dict while a loop walks it): read, never written while it is so -/
  | frz (o : Obj) (u : HO)
  /-- a code object's table -/
  | tbl (ps : Array Value)
  /-- any other thing, by what is true of its one object (a def of one's own: SetO a S n := HO.ext fun h => ..) -/
  | ext (φ : Heap → Prop)

noncomputable abbrev Hp := Addr → Option HO
noncomputable def upd (H : Hp) (a : Addr) (o : HO) : Hp := fun b => if b = a then some o else H b
theorem upd_same {H : Hp} {a : Addr} {o : HO} : upd H a o a = some o := by unfold upd; rw [if_pos rfl]
theorem upd_ne {H : Hp} {a b : Addr} {o : HO} (h : b ≠ a) : upd H a o b = H b := by unfold upd; rw [if_neg h]
theorem ne_of {H : Hp} {a b : Addr} {o u : HO} (h : H a = some o) (h' : H b = some u) (d : o ≠ u) : a ≠ b := by
  intro e; subst e; rw [h] at h'; exact d (Option.some.inj h')
theorem ne_of_none {H : Hp} {a b : Addr} {o : HO} (h : H a = some o) (h' : H b = none) : a ≠ b := by
  intro e; subst e; rw [h] at h'; cases h'

section
variable (P : Program) (w : World)
noncomputable def ObjOk (H : Hp) (h : Heap) (a : Addr) : HO → Prop
  | .lst xs => xs.length ≤ sizeLine ∧ ∃ (its : List Value) (n : Nat), Vals xs its ∧ h.get? a = some { cls := .type "list", data := .seq its.toArray n }
  | .tup xs => xs.length ≤ sizeLine ∧ ∃ its : List Value, Vals xs its ∧ IsTup h a its.toArray
  | .dK kvs => kvs.length ≤ sizeLine ∧ (a == sysModules) = false ∧ ∃ vs, KV kvs vs ∧ h.DictOf (mixKind P w) a vs
  | .dT kvs => kvs.length ≤ sizeLine ∧ (a == sysModules) = false ∧ ∃ xs : List (List Key × Addr × Value),
      Paired (fun (p : List Key × V) (q : List Key × Addr × Value) => p.1 = q.1 ∧ H q.2.1 = some (.tup (p.1.map kV)) ∧ RelV p.2 q.2.2) kvs xs ∧
      ∃ o es ep, h.get? a = some o ∧ o.ExactDict ∧ o.data = .dict es ep ∧ es.toList = xs.map (entryOfKey (tupleKind (mixKind P w))) ∧ (xs.map (·.1)).Nodup
  | .set S n => h.SetOf (intKind P w) a S n
  | .ins C dx fs => H dx = some (.own a) ∧ fs.length ≤ 1000 ∧ dx ≠ a ∧ h.get? a = some (PySem.W.instObj C dx) ∧
      ∃ mA, h.Ns1 dx mA ∧ (∀ f, RelO (fs.lookup f) (mA f)) ∧ PySem.Within mA (fs.map (·.1))
  | .own _ => ∃ o, h.get? a = some o
  | .xd fs => ∃ mA, h.Ns1 a mA ∧ ∀ f, RelO (fs.lookup f) (mA f)
  | .rng lo hi => ∃ t u v, h.get? a = some { cls := .type "range", data := .fields #[.int lo t, .int hi u, .int 1 v] }
  | .frz o u => h.get? a = some o ∧ ObjOk H h a u
  | .tbl ps => h.get? a = some { cls := .none, data := .fields ps }
  | .met f x => h.get? a = some (PySem.W.methodObj (.ref f) (.ref x))
  | .ext φ => φ h ∧ (∃ o, h.get? a = some o) ∧ ∀ h1 h2 : Heap, φ h1 → (∀ o, h1.get? a = some o → h2.get? a = some o) → φ h2
noncomputable def HOk (H : Hp) (h : Heap) : Prop := ∀ a o, H a = some o → ObjOk P w H h a o
end

section
variable {P : Program} {w : World} {H H' : Hp} {h h' : Heap} {a : Addr} {o : HO}
theorem ObjOk.lt (x : ObjOk P w H h a o) : a < h.objs.size := by
  cases o with
  | lst xs => obtain ⟨_, _, _, _, e⟩ := x; exact Heap.lt_size e
  | tup xs => obtain ⟨_, _, _, p⟩ := x; exact p.lt
  | dK kvs => obtain ⟨_, _, _, _, o, _, _, e, _⟩ := x; exact Heap.lt_size e
  | dT kvs => obtain ⟨_, _, _, _, o, _, _, e, _⟩ := x; exact Heap.lt_size e
  | set S n => obtain ⟨o, _, _, _, e, _⟩ := x; exact Heap.lt_size e
  | ins C dx fs => obtain ⟨_, _, _, e, _⟩ := x; exact Heap.lt_size e
  | own y => obtain ⟨_, e⟩ := x; exact Heap.lt_size e
  | xd fs => obtain ⟨_, ⟨_, _, _, e, _⟩, _⟩ := x; exact Heap.lt_size e
  | rng lo hi => obtain ⟨_, _, _, e⟩ := x; exact Heap.lt_size e
  | frz ob u => obtain ⟨e, _⟩ := x; exact Heap.lt_size e
  | tbl ps => exact Heap.lt_size (show h.get? a = some _ from x)
  | met f y => exact Heap.lt_size (show h.get? a = some _ from x)
  | ext φ => obtain ⟨_, ⟨_, e⟩, _⟩ := x; exact Heap.lt_size e
theorem Paired.mapP {α β : Type} {F G : α → β → Prop} : ∀ {l₁ : List α} {l₂ : List β}, Paired F l₁ l₂ → (∀ a b, F a b → G a b) → Paired G l₁ l₂
  | _, _, .nil, _ => .nil
  | _, _, .cons r t, f => .cons (f _ _ r) (Paired.mapP t f)
theorem ObjOk.stay (x : ObjOk P w H h a o) (k : ∀ b u, (b = a ∨ H b = some (.own a)) → h.get? b = some u → h'.get? b = some u)
    (ho : ∀ b, H b = some (.own a) → H' b = some (.own a)) (ht : ∀ b xs, H b = some (.tup xs) → H' b = some (.tup xs)) : ObjOk P w H' h' a o := by
  induction o with
  | lst xs => obtain ⟨z, its, n, r, e⟩ := x; exact ⟨z, its, n, r, k _ _ (.inl rfl) e⟩
  | tup xs => obtain ⟨z, its, r, ob, e, c⟩ := x; exact ⟨z, its, r, ob, k _ _ (.inl rfl) e, c⟩
  | dK kvs => obtain ⟨z, y, vs, r, ob, es, ep, e, c⟩ := x; exact ⟨z, y, vs, r, ob, es, ep, k _ _ (.inl rfl) e, c⟩
  | dT kvs =>
    obtain ⟨z, y, xs, r, ob, es, ep, e, c⟩ := x
    exact ⟨z, y, xs, Paired.mapP r fun p q z => ⟨z.1, ht _ _ z.2.1, z.2.2⟩, ob, es, ep, k _ _ (.inl rfl) e, c⟩
  | set S n => obtain ⟨ob, es, ep, t, e, c⟩ := x; exact ⟨ob, es, ep, t, k _ _ (.inl rfl) e, c⟩
  | ins C dx fs =>
    obtain ⟨d, z, ne, e, mA, ⟨od, es, ep, e2, c⟩, r⟩ := x
    exact ⟨ho _ d, z, ne, k _ _ (.inl rfl) e, mA, ⟨od, es, ep, k _ _ (.inr d) e2, c⟩, r⟩
  | own y => obtain ⟨ob, e⟩ := x; exact ⟨ob, k _ _ (.inl rfl) e⟩
  | xd fs => obtain ⟨mA, ⟨od, es, ep, e, c⟩, r⟩ := x; exact ⟨mA, ⟨od, es, ep, k _ _ (.inl rfl) e, c⟩, r⟩
  | rng lo hi => obtain ⟨t, u, v, e⟩ := x; exact ⟨t, u, v, k _ _ (.inl rfl) e⟩
  | frz ob u ih => obtain ⟨e, q⟩ := x; exact ⟨k _ _ (.inl rfl) e, ih q⟩
  | tbl ps =>
    have e : h.get? a = some { cls := .none, data := .fields ps } := x
    show h'.get? a = some { cls := .none, data := .fields ps }
    exact k a _ (.inl rfl) e
  | met f y =>
    have e : h.get? a = some (PySem.W.methodObj (.ref f) (.ref y)) := x
    show h'.get? a = some (PySem.W.methodObj (.ref f) (.ref y))
    exact k a _ (.inl rfl) e
  | ext φ => obtain ⟨p, ⟨o, e⟩, st⟩ := x; exact ⟨st _ _ p fun o q => k _ _ (.inl rfl) q, ⟨o, k _ _ (.inl rfl) e⟩, st⟩
theorem HOk.lt (x : HOk P w H h) (e : H a = some o) : a < h.objs.size := (x a o e).lt
theorem HOk.fresh (x : HOk P w H h) (e : h.objs.size ≤ a) : H a = none := by
  cases q : H a with
  | none => rfl
  | some u => exact absurd (Nat.lt_of_lt_of_le (x.lt q) e) (Nat.lt_irrefl _)
theorem HOk.kept (x : HOk P w H h) (k : ∀ b u, h.get? b = some u → h'.get? b = some u) : HOk P w H h' := fun a o e =>
  (x a o e).stay (fun b u _ q => k b u q) (fun _ q => q) fun _ _ q => q
theorem HOk.laid (x : HOk P w H h) (k : ∀ b u, h.get? b = some u → h'.get? b = some u) (hp : h.objs.size ≤ a) (new : ObjOk P w (upd H a o) h' a o) : HOk P w (upd H a o) h' := fun b u e => by
  have hn := x.fresh hp
  by_cases hb : b = a
  · subst hb; rw [upd_same] at e; cases e; exact new
  · rw [upd_ne hb] at e
    exact (x b u e).stay (fun c v _ q => k c v q) (fun c q => by rw [upd_ne (ne_of_none q hn)]; exact q) fun c xs q => by rw [upd_ne (ne_of_none q hn)]; exact q
end

noncomputable def Rd (H : Hp) (a : Addr) (u : HO) : Prop := H a = some u ∨ ∃ o, H a = some (.frz o u)
theorem Rd.of {H : Hp} {a : Addr} {u : HO} (h : H a = some u) : Rd H a u := .inl h
theorem Rd.ok {P : Program} {w : World} {H : Hp} {h : Heap} {a : Addr} {u : HO} (r : Rd H a u) (x : HOk P w H h) : ObjOk P w H h a u := by
  rcases r with r | ⟨o, r⟩
  · exact x a u r
  · obtain ⟨_, q⟩ := x a _ r
    exact q
noncomputable def Mut : Option HO → Prop
  | some (.lst _) => True
  | some (.dK _) => True
  | some (.dT _) => True
  | some (.set _ _) => True
  | some (.ins _ _ _) => True
  | some (.ext _) => True
  | _ => False
section
variable {P : Program} {w : World} {H : Hp} {h h' : Heap} {x e : Addr} {o' : HO}
theorem HOk.write (ok : HOk P w H h) (mu : Mut (H x)) (he : e = x ∨ H e = some (.own x)) (k : ∀ b u, b ≠ e → h.get? b = some u → h'.get? b = some u) (heo : ∃ u, h'.get? e = some u)
    (new : ObjOk P w (upd H x o') h' x o') : HOk P w (upd H x o') h' := fun b u q => by
  have nown : ∀ c y, H c = some (.own y) → c ≠ x := fun c y r z => by subst z; rw [r] at mu; exact mu
  have ntup : ∀ c xs, H c = some (.tup xs) → c ≠ x := fun c xs r z => by subst z; rw [r] at mu; exact mu
  by_cases hb : b = x
  · subst hb; rw [upd_same] at q; cases q; exact new
  · rw [upd_ne hb] at q
    by_cases hbe : b = e
    · have q' : H b = some (.own x) := by
        rcases he with z | z
        · exact absurd (hbe.trans z) hb
        · rw [hbe]; exact z
      rw [q] at q'; cases q'
      obtain ⟨v, hv⟩ := heo
      exact ⟨v, by rw [hbe]; exact hv⟩
    · refine (ok b u q).stay (fun c v hc r => k c v ?_ r) (fun c r => by rw [upd_ne (nown c b r)]; exact r) fun c xs r => by rw [upd_ne (ntup c xs r)]; exact r
      rcases hc with rfl | hc
      · exact hbe
      · rintro rfl
        rcases he with z | z
        · exact nown c b hc z
        · rw [hc] at z; cases z; exact hb rfl
end

structure Un (fs ex : List Addr) (H H' : Hp) (h h' : Heap) : Prop where
  keep : ∀ b o, h.get? b = some o → H b = none → b ∉ fs → b ∉ ex → h'.get? b = some o
  slot : ∀ b o, h.get? b = some o → H b = none → b ∈ fs → b ∉ ex → ∃ sl, h'.get? b = some { o with slots := sl }
  free : ∀ b o, h.get? b = some o → H b = none → b ∉ ex → H' b = none
  there : ∀ b o, h.get? b = some o → b ∉ ex → ∃ o', h'.get? b = some o'
  tups : ∀ b xs, H b = some (.tup xs) → H' b = some (.tup xs)
  frzs : ∀ b o u, H b = some (.frz o u) → H' b = some (.frz o u)
  tbls : ∀ b ps, H b = some (.tbl ps) → ∃ more, H' b = some (.tbl (ps ++ more))
section
variable {fs fs' ex ex' : List Addr} {H H1 H2 : Hp} {h h1 h2 h' : Heap} {a x e : Addr} {o : HO}
theorem Un.any (u : Un fs ex H H1 h h1) {b : Addr} {ob : Obj} (q : h.get? b = some ob) (n : H b = none) (hx : b ∉ ex) : ∃ sl, h1.get? b = some { ob with slots := sl } := by
  by_cases hb : b ∈ fs
  · exact u.slot b ob q n hb hx
  · exact ⟨ob.slots, u.keep b ob q n hb hx⟩
theorem Un.kept (k : ∀ b u, h.get? b = some u → h'.get? b = some u) : Un fs ex H H h h' :=
  ⟨fun b ob q _ _ _ => k b ob q, fun b ob q _ _ _ => ⟨ob.slots, k b ob q⟩, fun _ _ _ n _ => n, fun b ob q _ => ⟨ob, k b ob q⟩, fun _ _ q => q, fun _ _ _ q => q, fun _ ps q => ⟨#[], by rw [q]; simp⟩⟩
theorem Un.refl : Un fs ex H H h h := Un.kept fun _ _ q => q
theorem Un.laid (k : ∀ b u, h.get? b = some u → h'.get? b = some u) (hp : h.objs.size ≤ a) (hn : H a = none) : Un fs ex H (upd H a o) h h' where
  keep := fun b u q _ _ _ => k b u q
  slot := fun b u q _ _ _ => ⟨u.slots, k b u q⟩
  free := fun b u q n _ => by rw [upd_ne (Nat.ne_of_lt (Nat.lt_of_lt_of_le (Heap.lt_size q) hp))]; exact n
  there := fun b u q _ => ⟨u, k b u q⟩
  tups := fun b xs q => by rw [upd_ne (ne_of_none q hn)]; exact q
  frzs := fun b u xs q => by rw [upd_ne (ne_of_none q hn)]; exact q
  tbls := fun b ps q => ⟨#[], by rw [upd_ne (ne_of_none q hn), q]; simp⟩
theorem Un.write (mu : Mut (H x)) (he : e = x ∨ H e = some (.own x)) (k : ∀ b u, b ≠ e → h.get? b = some u → h'.get? b = some u) (heo : ∃ u, h'.get? e = some u) : Un fs ex H (upd H x o) h h' := by
  have hx : ∀ b, H b = none → b ≠ x := fun b n z => by subst z; rw [n] at mu; exact mu
  have hb : ∀ b, H b = none → b ≠ e := fun b n z => by
    subst z
    rcases he with r | r
    · exact hx b n r
    · rw [n] at r; cases r
  have hm : ∀ b u, H b = some u → ¬ Mut (some u) → b ≠ x := fun b u q nm z => by subst z; rw [q] at mu; exact nm mu
  refine ⟨fun b u q n _ _ => k b u (hb b n) q, fun b u q n _ _ => ⟨u.slots, k b u (hb b n) q⟩, fun b u q n _ => by rw [upd_ne (hx b n)]; exact n, fun b u q _ => ?_,
    fun b xs q => by rw [upd_ne (hm b _ q fun z => z)]; exact q, fun b u xs q => by rw [upd_ne (hm b _ q fun z => z)]; exact q, fun b ps q => ⟨#[], by rw [upd_ne (hm b _ q fun z => z), q]; simp⟩⟩
  by_cases hbe : b = e
  · subst hbe; exact heo
  · exact ⟨u, k b u hbe q⟩
end

noncomputable def trk (h : Heap) (H : Hp) : List Addr := (List.range h.objs.size).filter fun a => (H a).isSome
noncomputable def hidT (h : Heap) (H : Hp) : Heap := PySem.W.hideAll h (trk h H)
theorem hidT_size (h : Heap) (H : Hp) : (hidT h H).objs.size = h.objs.size := PySem.W.hideAll_size _ _
theorem hidT_get {h : Heap} {H : Hp} {b : Addr} {o : Obj} (e : h.get? b = some o) (n : H b = none) : (hidT h H).get? b = some o :=
  PySem.W.hideAll_get _ e fun hm => by
    have q : (H b).isSome = true := (List.mem_filter.mp hm).2
    rw [n] at q; simp at q
theorem of_hidT {h : Heap} {H : Hp} {b : Addr} {o : Obj} (e : (hidT h H).get? b = some o) : h.get? b = some o ∧ H b = none := by
  have e' : h.get? b = some o := PySem.W.of_hideAll (trk h H) e
  refine ⟨e', ?_⟩
  cases q : H b with
  | none => rfl
  | some x =>
    have hm : b ∈ trk h H := List.mem_filter.mpr ⟨List.mem_range.mpr (Heap.lt_size e'), by simp [q]⟩
    have z : (hidT h H).get? b = none := PySem.W.hideAll_none (trk h H) hm
    rw [z] at e; cases e

noncomputable def allNews (g h : Heap) (L : Addr) : List (Addr × Obj) := (List.range h.objs.size).filterMap fun a => if a = L ∨ (g.get? a).isSome = true then none else (h.get? a).map fun o => (a, o)
noncomputable def rest (g h : Heap) (L d : Addr) : List (Addr × Obj) := (allNews g h L).filter fun p => decide (p.1 ≠ d)
end L2

namespace L2
open PySem PySem.Spec PyProof.Rows

structure Mod (K : PySem.W.Frag) (mg : Str → Option Value) (base : Heap) : Prop where
  kin : K.In base
  glob : base.Ns mainGlobals mg
  blt : ∃ mb, base.Ns builtinsNs mb ∧ ∀ x : Str, x ≠ "__name__" → mb x = bootBuiltins x
  nolimit : base.NoLimit

structure Cx where
  prog : Program
  w : World
  K : PySem.W.Frag
  mg : Str → Option Value
  base : Heap
  A : Around
  N : List Str
  s₀ : Shared
  H₀ : Hp
  env : Env
  outer : List Env
  stack : List Env
  ex : List Addr
  fn : Str → Bool
  calm : Bool
  pn : List (Addr × Obj)
  xe : Value → Shared → Prop
noncomputable def frs (l : List Env) : List Addr := l.filterMap (·.frame)
noncomputable abbrev Cx.fs (X : Cx) : List Addr := frs X.outer

noncomputable def Vis (sc : Scope) (x : Str) : Prop := sc.names.lookup x = some .local ∨ sc.names.lookup x = some .cell ∨ sc.names.lookup x = some .free
noncomputable def Loc (sc : Scope) (x : Str) : Prop := sc.names.lookup x = some .local ∨ sc.names.lookup x = some .cell
noncomputable def Look (env : Env) (h : Heap) (m : Str → Option Value) (x : Str) (u : Value) : Prop :=
  (env.kindOf x = some .local ∧ m x = some u) ∨ ((env.kindOf x = some .cell ∨ env.kindOf x = some .free) ∧ ∃ c, env.cells.lookup x = some c ∧ h.IsCell c (some u))

structure Cx.Ok (X : Cx) : Prop where
  mod : Mod X.K X.mg X.base
  kind : X.env.scope.kind = .function
  glob : X.env.globals = mainGlobals
  blt : X.env.builtins = builtinsNs
  above : X.s₀.heap.objs.size ≤ X.env.locals
  inj : ∀ x y c, X.env.cells.lookup x = some c → X.env.cells.lookup y = some c → x = y
  has : ∀ x, (X.env.kindOf x = some .cell ∨ X.env.kindOf x = some .free) → ∃ c, X.env.cells.lookup x = some c
  cab : ∀ x c, X.fn x = true → X.env.cells.lookup x = some c → X.s₀.heap.objs.size ≤ c
  hd : X.calm = true → X.A.handled = none
  frames : X.A.frames = some X.stack
  stk : X.stack = X.outer ∨ (X.stack = X.env :: X.outer ∧ X.env.frame = some X.env.locals)
  exf : ∀ b ∈ X.ex, b ≠ X.env.locals ∧ ∀ x c, X.env.cells.lookup x = some c → c ≠ b
  bs : ∀ b o, X.base.get? b = some o → X.s₀.heap.get? b = some o ∧ X.H₀ b = none
  bsz : X.base.objs.size ≤ X.s₀.heap.objs.size
  noex : ∀ b o, X.base.get? b = some o → b ∉ X.ex
  exfs : ∀ b ∈ X.ex, b ∉ X.fs
  funs : X.s₀.heap.FunFrames X.base X.outer
  frf : ∀ b ∈ X.fs, X.H₀ b = none

structure Inv (X : Cx) (pins : List (Addr × Obj)) (σ : List (Option V)) (H : Hp) (s : Shared) : Prop where
  ok : X.Ok
  os : s.os = X.s₀.os
  bare : AllBare s.gens
  base : Un X.fs X.ex X.H₀ H X.s₀.heap s.heap
  loc : ∃ m, s.heap.Ns X.env.locals m ∧ ∀ (i : Nat) (x : Str) (v : V), X.N[i]? = some x → σ[i]? = some (some v) → Vis X.env.scope x → ∃ u, RelV v u ∧ Look X.env s.heap m x u
  cell : ∀ x c, X.env.cells.lookup x = some c → ∃ v, s.heap.IsCell c v
  free : H X.env.locals = none
  freeC : ∀ x c, X.env.cells.lookup x = some c → H c = none
  pin : ∀ p ∈ X.pn ++ pins, s.heap.get? p.1 = some p.2 ∧ H p.1 = none ∧ p.1 ≠ X.env.locals ∧ p.1 ∉ X.fs ∧ ∀ v, p.2.data ≠ .cell v
  hok : HOk X.prog X.w H s.heap
  len : σ.length = X.N.length

section
variable {X : Cx} {pins : List (Addr × Obj)} {σ : List (Option V)} {H H' : Hp} {s : Shared} {h' : Heap}

theorem Cx.Ok.nofr (ok : X.Ok) {b : Addr} {o : Obj} (e : X.base.get? b = some o) : b ∉ X.fs := fun hb => by
  have := (ok.funs.mem hb).1
  rw [e] at this; cases this
theorem Inv.bs (I : Inv X pins σ H s) : ∀ b o, X.base.get? b = some o → s.heap.get? b = some o ∧ H b = none := fun b o e =>
  ⟨I.base.keep b o (I.ok.bs b o e).1 (I.ok.bs b o e).2 (I.ok.nofr e) (I.ok.noex b o e), I.base.free b o (I.ok.bs b o e).1 (I.ok.bs b o e).2 (I.ok.noex b o e)⟩
theorem Inv.bk (I : Inv X pins σ H s) : ∀ b o, X.base.get? b = some o → s.heap.get? b = some o := fun b o e => (I.bs b o e).1
theorem Inv.mod (I : Inv X pins σ H s) : Mod X.K X.mg X.base := I.ok.mod
theorem Inv.kIn (I : Inv X pins σ H s) : X.K.In s.heap := I.ok.mod.kin.keeps I.bk
theorem Inv.lt (I : Inv X pins σ H s) : X.env.locals < s.heap.objs.size := let ⟨_, hn, _⟩ := I.loc; hn.lt
theorem Inv.sz (I : Inv X pins σ H s) : X.s₀.heap.objs.size ≤ s.heap.objs.size := Nat.le_trans I.ok.above (Nat.le_of_lt I.lt)
theorem Inv.nofs (I : Inv X pins σ H s) {a : Addr} (h : s.heap.objs.size ≤ a) : a ∉ X.fs := fun hb => by
  obtain ⟨_, o, ho, _⟩ := I.ok.funs.mem hb
  exact absurd (Nat.lt_of_lt_of_le (Heap.lt_size ho) (Nat.le_trans I.sz h)) (Nat.lt_irrefl _)
theorem Inv.cne (I : Inv X pins σ H s) : ∀ x c, X.env.cells.lookup x = some c → c ≠ X.env.locals := fun x c e z => by
  obtain ⟨v, o, ho, hd⟩ := I.cell x c e
  obtain ⟨m, ⟨o', es, ep, ho', hd', _⟩, _⟩ := I.loc
  rw [z, ho'] at ho; cases ho; rw [hd'] at hd; cases hd
theorem Inv.funs (I : Inv X pins σ H s) : s.heap.FunFrames X.base X.outer := by
  have all : ∀ (l : List Env), (∀ b ∈ frs l, b ∈ X.fs) → X.s₀.heap.FunFrames X.base l → s.heap.FunFrames X.base l := by
    intro l
    induction l with
    | nil => intro _ _; trivial
    | cons env r ih =>
      intro hs hl
      obtain ⟨hk, ⟨L, o, hf, hn, ho, hd⟩, hr⟩ := hl
      have hL : L ∈ X.fs := hs L (by unfold frs; rw [List.filterMap_cons, hf]; exact List.mem_cons_self)
      obtain ⟨sl, e⟩ := I.base.slot L o ho (I.ok.frf L hL) hL fun z => I.ok.exfs L z hL
      exact ⟨hk, ⟨L, _, hf, hn, e, hd⟩, ih (fun b hb => hs b (by unfold frs; rw [List.filterMap_cons, hf]; exact List.mem_cons_of_mem _ hb)) hr⟩
  exact all X.outer (fun _ hb => hb) I.ok.funs

theorem Inv.stack (I : Inv X pins σ H s) : s.heap.FunFrames X.base X.stack := by
  rcases I.ok.stk with e | ⟨e, hf⟩
  · rw [e]; exact I.funs
  · rw [e]
    obtain ⟨m, hn, _⟩ := I.loc
    refine .cons (by rw [I.ok.kind]; decide) hf hn ?_ I.funs
    exact Heap.get?_none_of_le (Nat.le_trans I.ok.bsz I.ok.above)
theorem Inv.stkSub (I : Inv X pins σ H s) : ∀ b ∈ frs X.stack, b ∈ X.env.locals :: X.fs := fun b hb => by
  rcases I.ok.stk with e | ⟨e, hf⟩
  · rw [e] at hb; exact List.mem_cons_of_mem _ hb
  · rw [e] at hb
    unfold frs at hb
    rw [List.filterMap_cons, hf] at hb
    exact hb
theorem Inv.stkFree (I : Inv X pins σ H s) : ∀ b ∈ frs X.stack, H b = none := fun b hb => by
  rcases List.mem_cons.mp (I.stkSub b hb) with e | hb
  · rw [e]; exact I.free
  · obtain ⟨_, o, ho, _⟩ := I.ok.funs.mem hb
    exact I.base.free b o ho (I.ok.frf b hb) fun z => I.ok.exfs b z hb

theorem Inv.step {g' : Array GenState} {t' : Nat} {d' : Drawn} {ch : List Addr} (I : Inv X pins σ H s)
    (hch : ∀ b ∈ ch, (b ∈ X.ex ∨ X.s₀.heap.objs.size ≤ b) ∧ b ≠ X.env.locals ∧ (∀ x c, X.env.cells.lookup x = some c → c ≠ b) ∧ ∀ p ∈ X.pn ++ pins, p.1 ≠ b)
    (keep : ∀ b o, b ≠ X.env.locals → b ∉ X.fs → b ∉ ch → s.heap.get? b = some o → H b = none → h'.get? b = some o)
    (slot : ∀ b o, b ≠ X.env.locals → b ∈ X.fs → b ∉ ch → s.heap.get? b = some o → H b = none → ∃ sl, h'.get? b = some { o with slots := sl }) (free : ∀ b o, b ∉ ch → s.heap.get? b = some o → H b = none → H' b = none)
    (there : ∀ b o, b ∉ ch → s.heap.get? b = some o → ∃ o', h'.get? b = some o')
    (tups : ∀ b xs, H b = some (.tup xs) → H' b = some (.tup xs)) (frzs : ∀ b o u, H b = some (.frz o u) → H' b = some (.frz o u)) (tbls : ∀ b ps, H b = some (.tbl ps) → ∃ more, H' b = some (.tbl (ps ++ more)))
    (ns : ∀ m, s.heap.Ns X.env.locals m → h'.Ns X.env.locals m) (hok : HOk X.prog X.w H' h') (hg : AllBare g') :
    Inv X pins σ H' { s with heap := h', gens := g', drawn := d', toks := t' } := by
  have neL : ∀ b o, X.s₀.heap.get? b = some o → b ≠ X.env.locals := fun b o e => Nat.ne_of_lt (Nat.lt_of_lt_of_le (Heap.lt_size e) I.ok.above)
  have neC : ∀ b o, X.s₀.heap.get? b = some o → b ∉ X.ex → b ∉ ch := fun b o e hx hb => by
    rcases (hch b hb).1 with z | z
    · exact hx z
    · exact absurd (Nat.lt_of_lt_of_le (Heap.lt_size e) z) (Nat.lt_irrefl _)
  have cellK : ∀ x c, X.env.cells.lookup x = some c → ∀ v, s.heap.IsCell c v → h'.IsCell c v := fun x c e v ⟨o, ho, hd⟩ => by
    have nch : c ∉ ch := fun z => (hch c z).2.2.1 x c e rfl
    by_cases hc : c ∈ X.fs
    · obtain ⟨sl, q⟩ := slot c o (I.cne x c e) hc nch ho (I.freeC x c e)
      exact ⟨_, q, hd⟩
    · exact ⟨o, keep c o (I.cne x c e) hc nch ho (I.freeC x c e), hd⟩
  refine ⟨I.ok, I.os, hg, ⟨fun b o e n hb hx => ?_, fun b o e n hb hx => ?_, fun b o e n hx => ?_, fun b o e hx => ?_, fun b xs e => tups b xs (I.base.tups b xs e), fun b o xs e => frzs b o xs (I.base.frzs b o xs e), fun b ps e => ?_⟩, ?_, fun x c e => ?_, ?_, fun x c e => ?_, fun p hp => ?_, hok, I.len⟩
  · exact keep b o (neL b o e) hb (neC b o e hx) (I.base.keep b o e n hb hx) (I.base.free b o e n hx)
  · obtain ⟨sl, e1⟩ := I.base.slot b o e n hb hx
    obtain ⟨sl', e2⟩ := slot b _ (neL b o e) hb (neC b o e hx) e1 (I.base.free b o e n hx)
    exact ⟨sl', e2⟩
  · obtain ⟨o', e1⟩ := I.base.there b o e hx
    exact free b o' (neC b o e hx) e1 (I.base.free b o e n hx)
  · obtain ⟨o', e1⟩ := I.base.there b o e hx
    exact there b o' (neC b o e hx) e1
  · obtain ⟨m1, e1⟩ := I.base.tbls b ps e
    obtain ⟨m2, e2⟩ := tbls b _ e1
    exact ⟨m1 ++ m2, by rw [e2, Array.append_assoc]⟩
  · obtain ⟨m, hn, hl⟩ := I.loc
    refine ⟨m, ns m hn, fun i x v e1 e2 e3 => ?_⟩
    obtain ⟨u, r, l⟩ := hl i x v e1 e2 e3
    refine ⟨u, r, ?_⟩
    rcases l with l | ⟨k, c, e, z⟩
    · exact .inl l
    · exact .inr ⟨k, c, e, cellK x c e _ z⟩
  · obtain ⟨v, z⟩ := I.cell x c e
    exact ⟨v, cellK x c e v z⟩
  · obtain ⟨m, ⟨o, _, _, ho, _⟩, _⟩ := I.loc
    exact free _ o (fun z => (hch _ z).2.1 rfl) ho I.free
  · obtain ⟨v, o, ho, hd⟩ := I.cell x c e
    exact free c o (fun z => (hch c z).2.2.1 x c e rfl) ho (I.freeC x c e)
  · obtain ⟨e, n, ne, nf, d⟩ := I.pin p hp
    have nch : p.1 ∉ ch := fun z => (hch p.1 z).2.2.2 p hp rfl
    exact ⟨keep p.1 p.2 ne nf nch e n, free p.1 p.2 nch e n, ne, nf, d⟩
theorem Inv.un {t' : Nat} (I : Inv X pins σ H s) (u : Un X.fs [] H H' s.heap h') (hok : HOk X.prog X.w H' h') : Inv X pins σ H' { s with heap := h', toks := t' } := by
  obtain ⟨m, ⟨o, es, ep, ho, r⟩, _⟩ := id I.loc
  obtain ⟨sl, hL⟩ := u.any ho I.free (by simp)
  exact I.step (g' := s.gens) (d' := s.drawn) (ch := []) (fun _ z => by cases z) (fun b o _ hb _ e n => u.keep b o e n hb (by simp)) (fun b o _ hb _ e n => u.slot b o e n hb (by simp)) (fun b o _ e n => u.free b o e n (by simp)) (fun b o _ e => u.there b o e (by simp)) u.tups u.frzs u.tbls (fun m' hm => by
    obtain ⟨o', es', ep', ho', r'⟩ := hm
    rw [ho] at ho'; cases ho'
    exact ⟨_, es', ep', hL, r'⟩) hok I.bare
theorem Inv.call {g' : Array GenState} {t' : Nat} {d' : Drawn} {ch : List Addr} (I : Inv X pins σ H s) (u : Un (frs X.stack) ch H H' s.heap h') (hok : HOk X.prog X.w H' h') (hg : AllBare g')
    (hch : ∀ b ∈ ch, (b ∈ X.ex ∨ X.s₀.heap.objs.size ≤ b) ∧ b ≠ X.env.locals ∧ (∀ x c, X.env.cells.lookup x = some c → c ≠ b) ∧ ∀ p ∈ X.pn ++ pins, p.1 ≠ b) :
    Inv X pins σ H' { s with heap := h', gens := g', drawn := d', toks := t' } := by
  obtain ⟨m, ⟨o, es, ep, ho, r⟩, _⟩ := id I.loc
  obtain ⟨sl, hL⟩ := u.any ho I.free fun z => (hch _ z).2.1 rfl
  exact I.step (ch := ch) hch (fun b o hL hb hc e n => u.keep b o e n (fun z => (List.mem_cons.mp (I.stkSub b z)).elim hL hb) hc) (fun b o _ _ hc e n => u.any e n hc) (fun b o hc e n => u.free b o e n hc) (fun b o hc e => u.there b o e hc) u.tups u.frzs u.tbls (fun m' hm => by
    obtain ⟨o', es', ep', ho', r'⟩ := hm
    rw [ho] at ho'; cases ho'
    exact ⟨_, es', ep', hL, r'⟩) hok hg
theorem Inv.turned {t' : Nat} {it : Addr} (I : Inv X pins σ H s) (k : ∀ b o, b ≠ it → s.heap.get? b = some o → h'.get? b = some o) (hn : H it = none) (hL : it ≠ X.env.locals)
    (h1 : it ∈ X.ex ∨ X.s₀.heap.objs.size ≤ it) (h2 : ∀ x c, X.env.cells.lookup x = some c → c ≠ it) (h3 : ∀ p ∈ X.pn ++ pins, p.1 ≠ it) : Inv X pins σ H { s with heap := h', toks := t' } := by
  have nit : ∀ b u, H b = some u → b ≠ it := fun b u e z => by rw [z, hn] at e; cases e
  refine I.step (g' := s.gens) (d' := s.drawn) (ch := [it]) (fun b hb => ?_) (fun b o _ _ hc e _ => k b o (fun z => hc (by simp [z])) e) (fun b o _ _ hc e _ => ⟨o.slots, k b o (fun z => hc (by simp [z])) e⟩) (fun _ _ _ _ n => n)
    (fun b o hc e => ⟨o, k b o (fun z => hc (by simp [z])) e⟩) (fun _ _ e => e) (fun _ _ _ e => e) (fun b ps e => ⟨#[], by rw [e]; simp⟩) (fun m hm => ?_) (fun b u e => ?_) I.bare
  · have e : b = it := by simpa using hb
    subst e
    exact ⟨h1, hL, h2, h3⟩
  · obtain ⟨o, es, ep, ho, r⟩ := hm
    exact ⟨o, es, ep, k _ o (Ne.symm hL) ho, r⟩
  · refine (I.hok b u e).stay (fun c v hc q => k c v ?_ q) (fun _ q => q) fun _ _ q => q
    rcases hc with z | z
    · rw [z]; exact nit b u e
    · exact nit c _ z
theorem Inv.tok (I : Inv X pins σ H s) (t : Nat) : Inv X pins σ H { s with toks := t } := I.un (h' := s.heap) (t' := t) Un.refl I.hok
theorem Inv.kept {t' : Nat} (I : Inv X pins σ H s) (k : ∀ b u, s.heap.get? b = some u → h'.get? b = some u) : Inv X pins σ H { s with heap := h', toks := t' } := I.un (Un.kept k) (I.hok.kept k)
theorem Inv.laid {a : Addr} {o : HO} {t' : Nat} (I : Inv X pins σ H s) (k : ∀ b u, s.heap.get? b = some u → h'.get? b = some u) (hp : s.heap.objs.size ≤ a) (new : ObjOk X.prog X.w (upd H a o) h' a o) :
    Inv X pins σ (upd H a o) { s with heap := h', toks := t' } := I.un (Un.laid k hp (I.hok.fresh hp)) (I.hok.laid k hp new)
theorem Inv.write {x e : Addr} {o : HO} {t' : Nat} (I : Inv X pins σ H s) (mu : Mut (H x)) (he : e = x ∨ H e = some (.own x)) (k : ∀ b u, b ≠ e → s.heap.get? b = some u → h'.get? b = some u) (heo : ∃ u, h'.get? e = some u)
    (new : ObjOk X.prog X.w (upd H x o) h' x o) : Inv X pins σ (upd H x o) { s with heap := h', toks := t' } := I.un (Un.write mu he k heo) (I.hok.write mu he k heo new)
theorem Inv.weak {σ' : List (Option V)} (I : Inv X pins σ H s) (hl : σ'.length = σ.length) (w : ∀ (i : Nat) v, σ'[i]? = some (some v) → σ[i]? = some (some v)) : Inv X pins σ' H s :=
  ⟨I.ok, I.os, I.bare, I.base, let ⟨m, hn, hl'⟩ := I.loc; ⟨m, hn, fun i x v e1 e2 e3 => hl' i x v e1 (w i v e2) e3⟩, I.cell, I.free, I.freeC, I.pin, I.hok, hl.trans I.len⟩
theorem Inv.pins_of {pins' : List (Addr × Obj)} (I : Inv X pins σ H s) (h : ∀ p ∈ pins', s.heap.get? p.1 = some p.2 ∧ H p.1 = none ∧ p.1 ≠ X.env.locals ∧ p.1 ∉ X.fs ∧ ∀ v, p.2.data ≠ .cell v) : Inv X pins' σ H s :=
  ⟨I.ok, I.os, I.bare, I.base, I.loc, I.cell, I.free, I.freeC, fun p hp => (List.mem_append.mp hp).elim (fun z => I.pin p (List.mem_append_left _ z)) (h p), I.hok, I.len⟩

theorem nodup_ix {N : List Str} (hN : N.Nodup) {i j : Nat} {x : Str} (a : N[i]? = some x) (b : N[j]? = some x) : i = j := by
  obtain ⟨h1, e1⟩ := List.getElem?_eq_some_iff.mp a
  obtain ⟨h2, e2⟩ := List.getElem?_eq_some_iff.mp b
  exact (List.getElem_inj hN).mp (e1.trans e2.symm)

theorem store_ok2 {M : Model} {A : Around} {E : Value → Shared → Prop} {i : Nat} {x : Str} {v : V} {u : Value} {Q : Unit → Shared → Prop} (I : Inv X pins σ H s) (hN : X.N.Nodup) (hi : X.N[i]? = some x) (hx : Loc X.env.scope x) (r : RelV v u)
    (h : ∀ s', Inv X pins (σ.set i (some v)) H s' → (∃ a, Heap.SameBut a s.heap s'.heap ∧ (a = X.env.locals ∨ X.env.cells.lookup x = some a)) → Q () s') (hf : X.fn x = true ∨ X.env.scope.names.lookup x = some .local := by first | exact .inl rfl | exact .inr rfl | assumption) : wpAny M A (storeName X.env x u) Q E s := by
  obtain ⟨m, hn, hl⟩ := id I.loc
  have hcls : (X.env.scope.kind == .class || (X.env.scope.kind == .module && X.env.locals != X.env.globals)) = false := by rw [I.ok.kind]; rfl
  have hiσ : i < σ.length := by rw [I.len]; exact (List.getElem?_eq_some_iff.mp hi).1
  have cne := I.cne
  have tracked : ∀ {a : Addr} {h' : Heap}, (∃ o, s.heap.get? a = some o ∧ H a = none) → Heap.SameBut a s.heap h' → HOk X.prog X.w H h' := fun {a h'} ha hs b ob e => by
    obtain ⟨_, _, hfree⟩ := ha
    refine (I.hok b ob e).stay (fun c w' hc q => (hs.2 c ?_).trans q) (fun _ q => q) fun _ _ q => q
    rintro rfl
    rcases hc with rfl | hc
    · rw [hfree] at e; cases e
    · rw [hfree] at hc; cases hc
  rcases hx with hk | hk
  · refine wpAny_storeName_local hk hn (fun h' hn' hs => ?_) hcls
    obtain ⟨oL, _, _, hoL, _⟩ := id hn
    refine h _ ⟨I.ok, I.os, I.bare, ⟨fun b o e n hb hx => ?_, fun b o e n hb hx => ?_, I.base.free, fun b o e hx => ?_, I.base.tups, I.base.frzs, I.base.tbls⟩, ⟨_, hn', fun j y v' e1 e2 e3 => ?_⟩, fun y c e => ?_, I.free, I.freeC, fun p hp => ?_, tracked ⟨oL, hoL, I.free⟩ hs, by simpa using I.len⟩ ⟨_, hs, .inl rfl⟩
    · exact (hs.2 b (Nat.ne_of_lt (Nat.lt_of_lt_of_le (Heap.lt_size e) I.ok.above))).trans (I.base.keep b o e n hb hx)
    · obtain ⟨sl, e1⟩ := I.base.slot b o e n hb hx
      exact ⟨sl, (hs.2 b (Nat.ne_of_lt (Nat.lt_of_lt_of_le (Heap.lt_size e) I.ok.above))).trans e1⟩
    · obtain ⟨o', e1⟩ := I.base.there b o e hx
      exact ⟨o', (hs.2 b (Nat.ne_of_lt (Nat.lt_of_lt_of_le (Heap.lt_size e) I.ok.above))).trans e1⟩
    · by_cases hj : j = i
      · subst hj
        rw [hi] at e1; cases e1
        rw [List.getElem?_set_self hiσ] at e2
        cases e2
        exact ⟨u, r, .inl ⟨hk, by simp⟩⟩
      · rw [List.getElem?_set_ne (Ne.symm hj)] at e2
        obtain ⟨u', r', q⟩ := hl j y v' e1 e2 e3
        refine ⟨u', r', ?_⟩
        rcases q with ⟨k, e⟩ | ⟨k, c, e, z⟩
        · refine .inl ⟨k, ?_⟩
          have : y ≠ x := fun e => hj (nodup_ix hN e1 (e ▸ hi))
          simp [this, e]
        · exact .inr ⟨k, c, e, z.sameBut hs (cne y c e)⟩
    · obtain ⟨w', z⟩ := I.cell y c e
      exact ⟨w', z.sameBut hs (cne y c e)⟩
    · obtain ⟨e, n, ne, nf, d⟩ := I.pin p hp
      exact ⟨(hs.2 p.1 ne).trans e, n, ne, nf, d⟩
  · have hfn : X.fn x = true := by
      rcases hf with z | z
      · exact z
      · rw [z] at hk; cases hk
    obtain ⟨c, hc⟩ := I.ok.has x (.inl hk)
    obtain ⟨w', z⟩ := I.cell x c hc
    refine wpAny_storeName_cell I.ok.kind hk hc z (fun h' hc' hs => ?_)
    obtain ⟨oc, hoc, hocd⟩ := id z
    refine h { s with heap := h' } ⟨I.ok, I.os, I.bare, ⟨fun b o e n hb hx => ?_, fun b o e n hb hx => ?_, I.base.free, fun b o e hx => ?_, I.base.tups, I.base.frzs, I.base.tbls⟩, ⟨m, hn.sameBut hs (Ne.symm (cne x c hc)), fun j y v' e1 e2 e3 => ?_⟩, fun y c' e => ?_, I.free, I.freeC, fun p hp => ?_, tracked ⟨oc, hoc, I.freeC x c hc⟩ hs, by simpa using I.len⟩ ⟨c, hs, .inr hc⟩
    · exact (hs.2 b (Nat.ne_of_lt (Nat.lt_of_lt_of_le (Heap.lt_size e) (I.ok.cab x c hfn hc)))).trans (I.base.keep b o e n hb hx)
    · obtain ⟨sl, e1⟩ := I.base.slot b o e n hb hx
      exact ⟨sl, (hs.2 b (Nat.ne_of_lt (Nat.lt_of_lt_of_le (Heap.lt_size e) (I.ok.cab x c hfn hc)))).trans e1⟩
    · obtain ⟨o', e1⟩ := I.base.there b o e hx
      exact ⟨o', (hs.2 b (Nat.ne_of_lt (Nat.lt_of_lt_of_le (Heap.lt_size e) (I.ok.cab x c hfn hc)))).trans e1⟩
    · by_cases hj : j = i
      · subst hj
        rw [hi] at e1; cases e1
        rw [List.getElem?_set_self hiσ] at e2
        cases e2
        exact ⟨u, r, .inr ⟨.inl hk, c, hc, hc'⟩⟩
      · rw [List.getElem?_set_ne (Ne.symm hj)] at e2
        obtain ⟨u', r', q⟩ := hl j y v' e1 e2 e3
        refine ⟨u', r', ?_⟩
        rcases q with q | ⟨k, c', e, z'⟩
        · exact .inl q
        · refine .inr ⟨k, c', e, z'.sameBut hs ?_⟩
          rintro rfl
          exact hj (nodup_ix hN e1 (I.ok.inj _ _ _ e hc ▸ hi))
    · by_cases hcc : c' = c
      · subst hcc; exact ⟨_, hc'⟩
      · obtain ⟨w2, z2⟩ := I.cell y c' e
        exact ⟨w2, z2.sameBut hs hcc⟩
    · obtain ⟨e, n, ne, nf, d⟩ := I.pin p hp
      refine ⟨(hs.2 p.1 ?_).trans e, n, ne, nf, d⟩
      intro q
      rw [q, hoc] at e
      have q' : oc = p.2 := Option.some.inj e
      exact d w' (by rw [← q']; exact hocd)
theorem store_ok {M : Model} {A : Around} {E : Value → Shared → Prop} {i : Nat} {x : Str} {v : V} {u : Value} {Q : Unit → Shared → Prop} (I : Inv X pins σ H s) (hN : X.N.Nodup) (hi : X.N[i]? = some x) (hx : Loc X.env.scope x) (r : RelV v u)
    (h : ∀ s', Inv X pins (σ.set i (some v)) H s' → Q () s') (hf : X.fn x = true ∨ X.env.scope.names.lookup x = some .local := by first | exact .inl rfl | exact .inr rfl | assumption) : wpAny M A (storeName X.env x u) Q E s :=
  store_ok2 I hN hi hx r (fun s' I' _ => h s' I') hf
theorem Inv.call' {s' : Shared} {ch : List Addr} (I : Inv X pins σ H s) (ho : s'.os = s.os) (u : Un (frs X.stack) ch H H' s.heap s'.heap) (hok : HOk X.prog X.w H' s'.heap) (hg : AllBare s'.gens)
    (hch : ∀ b ∈ ch, (b ∈ X.ex ∨ X.s₀.heap.objs.size ≤ b) ∧ b ≠ X.env.locals ∧ (∀ x c, X.env.cells.lookup x = some c → c ≠ b) ∧ ∀ p ∈ X.pn ++ pins, p.1 ≠ b) : Inv X pins σ H' s' := by
  obtain ⟨h', g', d', t', o'⟩ := s'
  have e : o' = s.os := ho
  subst e
  exact I.call (g' := g') (t' := t') (d' := d') u hok hg hch
end

noncomputable abbrev XK := Value → Option Addr → Hp → Prop
noncomputable abbrev St := List (Option V)
noncomputable abbrev VK := V → Hp → Prop
noncomputable abbrev TE := St → Hp → VK → Prop
noncomputable abbrev TT := St → Hp → (Bool → Hp → Prop) → Prop
noncomputable abbrev TA := St → Hp → (List V → Hp → Prop) → Prop
structure Ends where
  nx : St → Hp → Prop
  rt : VK
  bk : St → Hp → Prop := fun _ _ => False
  ct : St → Hp → Prop := fun _ _ => False
noncomputable abbrev TS := Ends → St → Hp → Prop

noncomputable def EP (X : Cx) (pins : List (Addr × Obj)) (σ : St) (Q : VK) (u : Value) (s' : Shared) : Prop := ∃ v H', Inv X pins σ H' s' ∧ RelV v u ∧ Q v H'
noncomputable def TP (X : Cx) (pins : List (Addr × Obj)) (σ : St) (Q : Bool → Hp → Prop) (b : Bool) (s' : Shared) : Prop := ∃ H', Inv X pins σ H' s' ∧ Q b H'
noncomputable def AP (X : Cx) (pins : List (Addr × Obj)) (σ : St) (Q : List V → Hp → Prop) (us : List Value) (s' : Shared) : Prop := ∃ vs H', Inv X pins σ H' s' ∧ Vals vs us ∧ Q vs H'
noncomputable def SP (X : Cx) (pins : List (Addr × Obj)) (D : Ends) (f : Flow) (s' : Shared) : Prop :=
  match f with
  | .next => ∃ σ' H', Inv X pins σ' H' s' ∧ D.nx σ' H'
  | .brk => ∃ σ' H', Inv X pins σ' H' s' ∧ D.bk σ' H'
  | .cont => ∃ σ' H', Inv X pins σ' H' s' ∧ D.ct σ' H'
  | .ret u => ∃ v σ' H', Inv X pins σ' H' s' ∧ RelV v u ∧ D.rt v H'

noncomputable def PE (X : Cx) (e : Expr) (t : TE) : Prop :=
  ∀ (pins : List (Addr × Obj)) (s : Shared) (σ : St) (H : Hp) (Q : VK), Inv X pins σ H s → t σ H Q → wpAny (model X.prog X.w) X.A (eval e X.env) (EP X pins σ Q) X.xe s
noncomputable def PT (X : Cx) (e : Expr) (t : TT) : Prop :=
  ∀ (pins : List (Addr × Obj)) (s : Shared) (σ : St) (H : Hp) (Q : Bool → Hp → Prop), Inv X pins σ H s → t σ H Q → wpAny (model X.prog X.w) X.A (isTrue e X.env (eval e X.env)) (TP X pins σ Q) X.xe s
noncomputable def PW (X : Cx) (e : Expr) (t : TT) : Prop :=
  ∀ (whole : Sem Value) (pins : List (Addr × Obj)) (s : Shared) (σ : St) (H : Hp) (Q : Bool → Hp → Prop), Inv X pins σ H s → t σ H Q → wpAny (model X.prog X.w) X.A (isTrue e X.env whole) (TP X pins σ Q) X.xe s
theorem PW.pt {X : Cx} {e : Expr} {t : TT} (h : PW X e t) : PT X e t := h _
noncomputable def PA (X : Cx) (es : List Expr) (t : TA) : Prop :=
  ∀ (pos : Pos) (pins : List (Addr × Obj)) (s : Shared) (σ : St) (H : Hp) (Q : List V → Hp → Prop), Inv X pins σ H s → t σ H Q → wpAny (model X.prog X.w) X.A (spliced (backTo pos (starEach es X.env))) (AP X pins σ Q) X.xe s
noncomputable def PS (X : Cx) (st : Stmt) (t : TS) : Prop :=
  ∀ (pins : List (Addr × Obj)) (s : Shared) (σ : St) (H : Hp) (D : Ends), Inv X pins σ H s → t D σ H → wpAny (model X.prog X.w) X.A (exec st X.env) (SP X pins D) X.xe s
noncomputable def PSs (X : Cx) (st : List Stmt) (t : TS) : Prop :=
  ∀ (pins : List (Addr × Obj)) (s : Shared) (σ : St) (H : Hp) (D : Ends), Inv X pins σ H s → t D σ H → wpAny (model X.prog X.w) X.A (execs st X.env) (SP X pins D) X.xe s
theorem thn {α : Type} {t : Sem α} {Q Q' : α → Shared → Prop} {M : Model} {A : Around} {E : Value → Shared → Prop} {s : Shared} (h : wpAny M A t Q E s) (hQ : ∀ a s, Q a s → Q' a s) : wpAny M A t Q' E s := wpAny_mono h hQ fun _ _ x => x
end L2

namespace L2
open PySem PySem.Spec PyProof.Rows
section
variable {X : Cx}

noncomputable def tVar (i : Nat) : TE := fun σ H Q => ∃ v, σ[i]? = some (some v) ∧ Q v H
noncomputable def tC (v : V) : TE := fun _ H Q => Q v H
theorem pe_var {i : Nat} {x : Str} {pos : Pos} (hN : X.N[i]? = some x) (hv : Vis X.env.scope x) (hd : (x == ("__debug__" : Str)) = false := by decide) (hcd : (x == ("__classdict__" : Str)) = false := by decide) : PE X (.Name x pos) (tVar i) := by
  intro pins s σ H Q I h
  obtain ⟨v, e, h⟩ := h
  obtain ⟨m, hn, hl⟩ := I.loc
  obtain ⟨u, r, l⟩ := hl i x v hN e hv
  have fin : EP X pins σ Q u s := ⟨v, H, I, r, h⟩
  rcases l with ⟨hk, hm⟩ | ⟨hk, c, hc, hcell⟩
  · exact wpAny_Name (wpAny_loadName_local I.ok.kind hk hn hm fin) hd
  · rcases hk with hk | hk
    · exact wpAny_Name (wpAny_loadName_cell I.ok.kind hk hc hcell fin) hd
    · exact wpAny_Name (wpAny_loadName_free I.ok.kind hk hc hcell fin hcd) hd
theorem pe_int {i j pos} : PE X (.Constant (.int i) j pos) (tC (.int i)) := fun _ _ _ H _ I h => wpAny_Constant_int ⟨.int i, H, I.tok _, ⟨_, rfl⟩, h⟩
theorem pe_bl {b j pos} : PE X (.Constant (.bool b) j pos) (tC (.bl b)) := fun _ _ _ H _ I h => Constant_bool ⟨.bl b, H, I, rfl, h⟩
theorem pe_str {x j pos} : PE X (.Constant (.str x) j pos) (tC (.str x)) := fun _ _ _ H _ I h => Calls.Constant_str ⟨.str x, H, I.tok _, ⟨_, rfl⟩, h⟩

noncomputable def Gl (X : Cx) (x : Str) : Prop := X.env.kindOf x = some .globalImplicit
theorem ld_glob {E : Value → Shared → Prop} {pins : List (Addr × Obj)} {s : Shared} {σ : St} {H : Hp} {x : Str} {u : Value} {pos : Pos} {Q : Value → Shared → Prop} (I : Inv X pins σ H s) (hg : Gl X x) (hm : X.mg x = some u) (h : Q u s)
    (hd : (x == ("__debug__" : Str)) = false := by decide) : wpAny (model X.prog X.w) X.A (eval (.Name x pos) X.env) Q E s :=
  Calls.Name_function_global I.ok.kind hg (Calls.loadGlobal_global (by rw [I.ok.glob]; exact I.mod.glob.keeps I.bk) hm h) hd
theorem ld_blt {E : Value → Shared → Prop} {pins : List (Addr × Obj)} {s : Shared} {σ : St} {H : Hp} {x : Str} {u : Value} {pos : Pos} {Q : Value → Shared → Prop} (I : Inv X pins σ H s) (hg : Gl X x) (hm : X.mg x = none) (hv : bootBuiltins x = some u) (h : Q u s)
    (hn : x ≠ "__name__" := by decide) (hd : (x == ("__debug__" : Str)) = false := by decide) : wpAny (model X.prog X.w) X.A (eval (.Name x pos) X.env) Q E s := by
  obtain ⟨mb, h1, h2⟩ := I.mod.blt
  exact Calls.Name_function_global I.ok.kind hg (Calls.loadGlobal_builtin (by rw [I.ok.glob]; exact I.mod.glob.keeps I.bk) hm (by rw [I.ok.blt]; exact h1.keeps I.bk) ((h2 x hn).trans hv) h) hd
theorem pe_glob {x : Str} {v : V} {u : Value} {pos : Pos} (hg : Gl X x) (hm : X.mg x = some u) (r : RelV v u) (hd : (x == ("__debug__" : Str)) = false := by decide) : PE X (.Name x pos) (tC v) :=
  fun _ _ _ H _ I h => ld_glob I hg hm ⟨v, H, I, r, h⟩ hd
theorem pe_bltn {x : Str} {v : V} {u : Value} {pos : Pos} (hg : Gl X x) (hm : X.mg x = none) (hv : bootBuiltins x = some u) (r : RelV v u) (hn : x ≠ "__name__" := by decide) (hd : (x == ("__debug__" : Str)) = false := by decide) : PE X (.Name x pos) (tC v) :=
  fun _ _ _ H _ I h => ld_blt I hg hm hv ⟨v, H, I, r, h⟩ hn hd

variable {a b : Expr} {ta tb : TE} {pos : Pos}
noncomputable def tB (t : TE) : TT := fun σ H Q => t σ H fun x H1 => ∃ c, x = .bl c ∧ Q c H1
theorem pt_val {e : Expr} {t : TE} (h : PE X e t) (he : ∀ whole, isTrue e X.env whole = (do let v ← whole; standAt e.pos; holding [v] (truthy v)) := by intro _; rfl) : PT X e (tB t) := by
  intro pins s σ H Q I hw
  refine isTrue_plain (thn (h pins s σ H _ I hw) fun v s1 qZ => ?_) (he _)
  obtain ⟨x, H1, I1, r1, q1⟩ := qZ
  obtain ⟨d, rfl, q⟩ := q1
  cases r1
  exact wpAny_truthy_bool ⟨H1, I1, q⟩

variable {tA tB' : TT} {rest : List Expr}
noncomputable def tAnd (t u : TT) : TT := fun σ H Q => t σ H fun c H1 => if c = true then u σ H1 Q else Q false H1
noncomputable def tOr (t u : TT) : TT := fun σ H Q => t σ H fun c H1 => if c = true then Q true H1 else u σ H1 Q
noncomputable def tNot (t : TT) : TT := fun σ H Q => t σ H fun c H1 => Q (!c) H1
theorem pw_and1 (ha : PT X a tA) : PW X (.BoolOp .And [a] pos) tA := by
  intro wh pins s σ H Q I h
  refine isTrue_and (thn (ha pins s σ H Q I h) fun c s1 e => ?_)
  cases c with
  | true => exact isTrue_and_nil e
  | false => exact e
theorem pw_or1 (ha : PT X a tA) : PW X (.BoolOp .Or [a] pos) tA := by
  intro wh pins s σ H Q I h
  refine isTrue_or (thn (ha pins s σ H Q I h) fun c s1 e => ?_)
  cases c with
  | false => exact isTrue_or_nil e
  | true => exact e
theorem pw_and (ha : PT X a tA) (hb : PW X (.BoolOp .And (b :: rest) pos) tB') : PW X (.BoolOp .And (a :: b :: rest) pos) (tAnd tA tB') := by
  intro wh pins s σ H Q I h
  refine isTrue_and (thn (ha pins s σ H _ I h) fun c s1 qZ => ?_)
  obtain ⟨H1, I1, q1⟩ := qZ
  cases c with
  | true => exact hb wh pins s1 σ H1 Q I1 q1
  | false => exact ⟨H1, I1, q1⟩
theorem pw_or (ha : PT X a tA) (hb : PW X (.BoolOp .Or (b :: rest) pos) tB') : PW X (.BoolOp .Or (a :: b :: rest) pos) (tOr tA tB') := by
  intro wh pins s σ H Q I h
  refine isTrue_or (thn (ha pins s σ H _ I h) fun c s1 qZ => ?_)
  obtain ⟨H1, I1, q1⟩ := qZ
  cases c with
  | true => exact ⟨H1, I1, q1⟩
  | false => exact hb wh pins s1 σ H1 Q I1 q1
theorem pt_not (ha : PT X a tA) : PT X (.UnaryOp .Not a pos) (tNot tA) := by
  intro pins s σ H Q I h
  exact isTrue_not (ha pins s σ H (fun c H1 => Q (!c) H1) I h)
noncomputable def tAndV (ta tb : TE) : TE := fun σ H Q => ta σ H fun x H1 => ∃ c, x = .bl c ∧ if c = true then tb σ H1 Q else Q (.bl false) H1
noncomputable def tNotV (ta : TE) : TE := fun σ H Q => ta σ H fun x H1 => ∃ c, x = .bl c ∧ Q (.bl (!c)) H1
theorem pe_one {op} {t : TE} (h : PE X a t) : PE X (.BoolOp op [a] pos) t := fun pins s σ H Q I hw => BoolOp_one (h pins s σ H Q I hw)
theorem pe_and (ha : PE X a ta) (hb : PE X (.BoolOp .And (b :: rest) pos) tb) : PE X (.BoolOp .And (a :: b :: rest) pos) (tAndV ta tb) := by
  intro pins s σ H Q I h
  refine BoolOp_and (thn (ha pins s σ H _ I h) fun v s1 qZ => ?_)
  obtain ⟨x, H1, I1, r1, q1⟩ := qZ
  obtain ⟨c, rfl, q1⟩ := q1
  cases r1
  refine wpAny_truthy_bool ?_
  cases c with
  | true => exact hb pins s1 σ H1 Q I1 q1
  | false => exact ⟨.bl false, H1, I1, rfl, q1⟩
theorem pe_not (ha : PE X a ta) : PE X (.UnaryOp .Not a pos) (tNotV ta) := by
  intro pins s σ H Q I h
  refine UnaryOp_ (thn (ha pins s σ H _ I h) fun v s1 qZ => ?_)
  obtain ⟨x, H1, I1, r1, q1⟩ := qZ
  obtain ⟨c, rfl, q1⟩ := q1
  cases r1
  exact not_of (wpAny_truthy_bool ⟨.bl (!c), H1, I1, rfl, q1⟩)
end
end L2

namespace L2
open PySem PySem.Spec PyProof.Rows

noncomputable def SqL (K : PySem.W.Frag) (H : Hp) (a : Addr) (xs : List V) : Prop :=
  Rd H a (.lst xs) ∨
    ∃ (o : Obj) (its : Array Value) (n : Nat), K.lookup a = some o ∧ o.cls = .type "list" ∧ o.dict = none ∧ o.data = .seq its n ∧ its.size ≤ sizeLine ∧ Vals xs its.toList
noncomputable def SqT (K : PySem.W.Frag) (H : Hp) (a : Addr) (xs : List V) : Prop :=
  Rd H a (.tup xs) ∨
    ∃ (o : Obj) (its : Array Value) (n : Nat), K.lookup a = some o ∧ o.cls = .type "tuple" ∧ o.data = .seq its n ∧ its.size ≤ sizeLine ∧ Vals xs its.toList
noncomputable def absV : Value → Option V
  | .none => some .non
  | .bool b => some (.bl b)
  | .int i _ => some (.int i)
  | .str x _ => some (.str x)
  | .bytes b _ => some (.byt b)
  | .float b _ => some (.flt b)
  | .ref a => some (.ref a)
  | .type n => some (.ty n)
  | _ => none
theorem RelV.abs {x : V} {u : Value} (r : RelV x u) : absV u = some x := by
  cases x with
  | non => cases r; rfl
  | bl _ => cases r; rfl
  | int _ => obtain ⟨t, rfl⟩ := r; rfl
  | str _ => obtain ⟨t, rfl⟩ := r; rfl
  | byt _ => obtain ⟨t, rfl⟩ := r; rfl
  | flt _ => obtain ⟨t, rfl⟩ := r; rfl
  | ref _ => cases r; rfl
  | ty _ => cases r; rfl
theorem RelV.inj {x y : V} {u : Value} (r : RelV x u) (q : RelV y u) : x = y := Option.some.inj (r.abs.symm.trans q.abs)
theorem Vals.inj : ∀ {xs ys : List V} {us : List Value}, Vals xs us → Vals ys us → xs = ys
  | _, _, _, .nil, .nil => rfl
  | _, _, _, .cons r t, .cons r' t' => by rw [r.inj r', Vals.inj t t']
section
variable {X : Cx} {pins : List (Addr × Obj)} {σ : St} {H : Hp} {s : Shared} {a : Addr} {xs ys : List V}
theorem SqL.of {K : PySem.W.Frag} (h : H a = some (.lst xs)) : SqL K H a xs := .inl (.inl h)
theorem SqT.of {K : PySem.W.Frag} (h : H a = some (.tup xs)) : SqT K H a xs := .inl (.inl h)
theorem Inv.list (I : Inv X pins σ H s) (h : SqL X.K H a xs) : ∃ its : List Value, Vals xs its ∧ PlainL s.heap a its.toArray ∧ xs.length ≤ sizeLine := by
  rcases h with h | ⟨o, its, n, hk, hc, hd, hs, hz, r⟩
  · obtain ⟨z, its, n, r, e⟩ := h.ok I.hok
    exact ⟨its, r, ⟨_, n, e, rfl, rfl, rfl⟩, z⟩
  · refine ⟨its.toList, r, ⟨o, n, I.kIn a o hk, hc, hd, by simpa using hs⟩, ?_⟩
    have e := r.length
    simp only [Array.length_toList] at e
    omega
theorem Inv.tuple (I : Inv X pins σ H s) (h : SqT X.K H a xs) : ∃ its : List Value, Vals xs its ∧ IsTup s.heap a its.toArray ∧ xs.length ≤ sizeLine := by
  rcases h with h | ⟨o, its, n, hk, hc, hs, hz, r⟩
  · obtain ⟨z, its, r, p⟩ := h.ok I.hok
    exact ⟨its, r, p, z⟩
  · refine ⟨its.toList, r, ⟨o, I.kIn a o hk, hc, n, by simpa using hs⟩, ?_⟩
    have e := r.length
    simp only [Array.length_toList] at e
    omega
theorem Inv.list_inj (I : Inv X pins σ H s) (h : SqL X.K H a xs) (h' : SqL X.K H a ys) : xs = ys := by
  obtain ⟨its, r, ⟨o, n, e, _, _, d⟩, _⟩ := I.list h
  obtain ⟨its', r', ⟨o', n', e', _, _, d'⟩, _⟩ := I.list h'
  rw [e] at e'; cases e'
  rw [d] at d'
  injection d' with d1 _
  have : its = its' := by simpa using congrArg Array.toList d1
  subst this
  exact r.inj r'
theorem Inv.tuple_inj (I : Inv X pins σ H s) (h : SqT X.K H a xs) (h' : SqT X.K H a ys) : xs = ys := by
  obtain ⟨its, r, ⟨o, e, _, n, d⟩, _⟩ := I.tuple h
  obtain ⟨its', r', ⟨o', e', _, n', d'⟩, _⟩ := I.tuple h'
  rw [e] at e'; cases e'
  rw [d] at d'
  injection d' with d1 _
  have : its = its' := by simpa using congrArg Array.toList d1
  subst this
  exact r.inj r'
end

noncomputable abbrev Cx.wish (X : Cx) (E : Value → Shared → Prop) : Cx := { X with xe := E }
noncomputable abbrev Cx.nox (X : Cx) : Cx := X.wish fun _ _ => False
theorem Cx.Ok.wish {X : Cx} (ok : X.Ok) (E : Value → Shared → Prop) : (X.wish E).Ok :=
  ⟨ok.mod, ok.kind, ok.glob, ok.blt, ok.above, ok.inj, ok.has, ok.cab, ok.hd, ok.frames, ok.stk, ok.exf, ok.bs, ok.bsz, ok.noex, ok.exfs, ok.funs, ok.frf⟩
theorem Cx.Ok.unwish {X : Cx} {E : Value → Shared → Prop} (ok : (X.wish E).Ok) : X.Ok :=
  ⟨ok.mod, ok.kind, ok.glob, ok.blt, ok.above, ok.inj, ok.has, ok.cab, ok.hd, ok.frames, ok.stk, ok.exf, ok.bs, ok.bsz, ok.noex, ok.exfs, ok.funs, ok.frf⟩
section
variable {X : Cx} {pins : List (Addr × Obj)} {σ : St} {H : Hp} {s : Shared} {E : Value → Shared → Prop}
theorem Inv.wish (I : Inv X pins σ H s) (E : Value → Shared → Prop) : Inv (X.wish E) pins σ H s := ⟨I.ok.wish E, I.os, I.bare, I.base, I.loc, I.cell, I.free, I.freeC, I.pin, I.hok, I.len⟩
theorem Inv.unwish (I : Inv (X.wish E) pins σ H s) : Inv X pins σ H s := ⟨I.ok.unwish, I.os, I.bare, I.base, I.loc, I.cell, I.free, I.freeC, I.pin, I.hok, I.len⟩
theorem SP.unwish {D : Ends} {f : Flow} {s' : Shared} (h : SP (X.wish E) pins D f s') : SP X pins D f s' := by
  cases f with
  | next => obtain ⟨σ', H', I, q⟩ := h; exact ⟨σ', H', I.unwish, q⟩
  | brk => obtain ⟨σ', H', I, q⟩ := h; exact ⟨σ', H', I.unwish, q⟩
  | cont => obtain ⟨σ', H', I, q⟩ := h; exact ⟨σ', H', I.unwish, q⟩
  | ret u => obtain ⟨v, σ', H', I, r, q⟩ := h; exact ⟨v, σ', H', I.unwish, r, q⟩
theorem PSs.nox {st : List Stmt} {t : TS} (h : PSs X.nox st t) : PSs X st t := fun pins s σ H D I hw =>
  wpAny_mono (h pins s σ H D (I.wish _) hw) (fun _ _ q => q.unwish) fun _ _ z => False.elim z
end

section
variable {X : Cx} {st : Stmt} {rest : List Stmt} {t u : TS} {e : Expr} {te : TE} {pos : Pos}
noncomputable def tNext : TS := fun D σ H => D.nx σ H
noncomputable def tSeq (t u : TS) : TS := fun D σ H => t { D with nx := u D } σ H
theorem pss_nil : PSs X [] tNext := fun _ _ σ H _ I h => wpAny_execs_nil ⟨σ, H, I, h⟩
theorem pss_cons (h1 : PS X st t) (h2 : PSs X rest u) : PSs X (st :: rest) (tSeq t u) := by
  intro pins s σ H D I h
  refine wpAny_execs_cons (thn (h1 pins s σ H { D with nx := u D } I h) fun f s1 q => ?_)
  cases f with
  | next =>
    obtain ⟨σ', H', I', q⟩ := q
    exact h2 pins s1 σ' H' D I' q
  | ret v => exact q
  | brk => exact q
  | cont => exact q
theorem pss_one (h1 : PS X st t) : PSs X [st] t := by
  intro pins s σ H D I h
  refine wpAny_execs_cons (thn (h1 pins s σ H D I h) fun f s1 q => ?_)
  cases f with
  | next => exact wpAny_execs_nil q
  | ret v => exact q
  | brk => exact q
  | cont => exact q
theorem Inv.quiet {pins : List (Addr × Obj)} {σ : St} {H : Hp} {s : Shared} (I : Inv X pins σ H s) : interactive X.env = false := by simp [interactive, I.ok.kind]
noncomputable def tDrop (te : TE) : TS := fun D σ H => te σ H fun _ H1 => D.nx σ H1
theorem ps_expr (he : PE X e te) (hs : swapsWith e none pos.line X.env = pure false := by rfl) : PS X (.Expr e pos) (tDrop te) := by
  intro pins s σ H D I h
  exact wpAny_Expr_any (thn (he pins s σ H _ I h) fun v s1 ⟨x, H1, I1, r1, q1⟩ => ⟨σ, H1, I1, q1⟩) I.quiet hs
noncomputable def tRet (te : TE) : TS := fun D σ H => te σ H D.rt
theorem ps_ret (he : PE X e te) : PS X (.Return (some e) pos) (tRet te) := by
  intro pins s σ H D I h
  exact wpAny_Return_some (thn (he pins s σ H _ I h) fun v s1 ⟨x, H1, I1, r1, q1⟩ => ⟨x, σ, H1, I1, r1, q1⟩)
noncomputable def tIfS (c : TT) (t u : TS) : TS := fun D σ H => c σ H fun b H1 => if b = true then t D σ H1 else u D σ H1
theorem ps_if {c : Expr} {a b : List Stmt} {tc : TT} (hc : PT X c tc) (ha : PSs X a t) (hb : PSs X b u) : PS X (.If c a b pos) (tIfS tc t u) := by
  intro pins s σ H D I h
  refine wpAny_If (thn (hc pins s σ H _ I h) fun d s1 qZ => ?_)
  obtain ⟨H1, I1, q1⟩ := qZ
  cases d with
  | true => exact ha pins s1 σ H1 D I1 q1
  | false => exact hb pins s1 σ H1 D I1 q1
noncomputable def tNever : TS := fun _ _ _ => False
theorem ps_never : PS X st tNever := fun _ _ _ _ _ _ h => h.elim
end

noncomputable abbrev TG := V → St → Hp → (St → Hp → Prop) → Prop
noncomputable abbrev TGs := List V → St → Hp → (St → Hp → Prop) → Prop
noncomputable def PG (X : Cx) (target : Expr) (t : TG) : Prop :=
  ∀ (pins : List (Addr × Obj)) (s : Shared) (σ : St) (H : Hp) (v : V) (u : Value) (Q : St → Hp → Prop), Inv X pins σ H s → RelV v u → t v σ H Q →
    wpAny (model X.prog X.w) X.A (assign target X.env u) (fun _ s' => ∃ σ' H', Inv X pins σ' H' s' ∧ Q σ' H') X.xe s
noncomputable def PGs (X : Cx) (ts : List Expr) (t : TGs) : Prop :=
  ∀ (pins : List (Addr × Obj)) (s : Shared) (σ : St) (H : Hp) (vs : List V) (us : List Value) (Q : St → Hp → Prop), Inv X pins σ H s → Vals vs us → t vs σ H Q →
    wpAny (model X.prog X.w) X.A (assignInOrder ((assignEach ts X.env).map (·.2)) us) (fun _ s' => ∃ σ' H', Inv X pins σ' H' s' ∧ Q σ' H') X.xe s
noncomputable abbrev TSet := V → V → V → Hp → (Hp → Prop) → Prop
noncomputable def PSet (X : Cx) (t : TSet) : Prop :=
  ∀ (pins : List (Addr × Obj)) (s : Shared) (σ : St) (H : Hp) (o i v : V) (ov iv u : Value) (Q : Hp → Prop), Inv X pins σ H s → RelV o ov → RelV i iv → RelV v u → t o i v H Q →
    wpAny (model X.prog X.w) X.A (setItem ov iv u) (fun _ s' => ∃ H', Inv X pins σ H' s' ∧ Q H') X.xe s
section
variable {X : Cx} {pos : Pos}
noncomputable def gName (i : Nat) : TG := fun v σ H Q => Q (σ.set i (some v)) H
theorem pg_name {i : Nat} {x : Str} (hN : X.N.Nodup) (hi : X.N[i]? = some x) (hx : Loc X.env.scope x) (hf : X.fn x = true ∨ X.env.scope.names.lookup x = some .local := by first | exact .inl rfl | exact .inr rfl | assumption) : PG X (.Name x pos) (gName i) := by
  intro pins s σ H v u Q I r h
  exact wpAny_assign_Name (store_ok I hN hi hx r (fun s' I' => ⟨_, H, I', h⟩) hf)
noncomputable def gNil : TGs := fun vs σ H Q => vs = [] ∧ Q σ H
noncomputable def gCons (t : TG) (u : TGs) : TGs := fun vs σ H Q => ∃ v r, vs = v :: r ∧ t v σ H fun σ' H' => u r σ' H' Q
theorem pgs_nil : PGs X [] gNil := by
  intro pins s σ H vs us Q I r h
  obtain ⟨e, h⟩ := h
  subst e
  cases r
  exact assignInOrder_nil ⟨σ, H, I, h⟩
theorem pgs_cons {e : Expr} {es : List Expr} {t : TG} {u : TGs} (h1 : PG X e t) (h2 : PGs X es u)
    (hs : (assignEach (e :: es) X.env).map (·.2) = assign e X.env :: (assignEach es X.env).map (·.2) := by rfl) : PGs X (e :: es) (gCons t u) := by
  intro pins s σ H vs us Q I r h
  obtain ⟨v, vr, e1, h⟩ := h
  subst e1
  cases r with
  | cons r rr =>
    rw [hs]
    refine assignInOrder_cons (thn (h1 pins s σ H _ _ _ I r h) fun _ s1 qZ => ?_)
    obtain ⟨σ1, H1, I1, q1⟩ := qZ
    exact h2 pins s1 σ1 H1 _ _ Q I1 rr q1
noncomputable def gTup (K : PySem.W.Frag) (n : Nat) (t : TGs) : TG := fun v σ H Q => ∃ a xs, v = .ref a ∧ SqT K H a xs ∧ xs.length = n ∧ t xs σ H Q
theorem pg_tup {es : List Expr} {k : Nat} {t : TGs} {n : Nat} (hc : X.calm = true) (h : PGs X es t)
    (hn : (assignEach es X.env).length = n := by rfl) (hst : (assignEach es X.env).findIdx? (·.1) = none := by rfl) : PG X (.Tuple es k pos) (gTup X.K n t) := by
  intro pins s σ H v u Q I r hw
  obtain ⟨a, xs, e1, hq, hl, hw⟩ := hw
  subst e1
  cases r
  obtain ⟨its, rv, ht, hz⟩ := I.tuple hq
  refine assign_Tuple_tuple (I.ok.hd hc) ht (by simp [hn, ← hl, rv.length]) hst fun h' hx => ?_
  have I1 : Inv X pins σ H { s with heap := h' } := I.kept (t' := s.toks) fun b o e => hx b o (Nat.ne_of_lt (Heap.lt_size e)) e
  exact h pins _ σ H xs _ Q I1 (by simpa using rv) hw
noncomputable def gSub (to ti : TE) (t : TSet) : TG := fun v σ H Q => to σ H fun o H1 => ti σ H1 fun i H2 => t o i v H2 fun H3 => Q σ H3
theorem pg_sub {o i : Expr} {to ti : TE} {t : TSet} (ho : PE X o to) (hi : PE X i ti) (hs : PSet X t)
    (ha : ∀ v, assign (.Subscript o i pos) X.env v = (do
      let ov ← holding [v] (eval o X.env)
      let iv ← holding [v, ov] (eval i X.env)
      standAt pos
      holding [v, ov, iv] (setItem ov iv v)
      release [v, ov, iv] []) := by intro _; rfl) : PG X (.Subscript o i pos) (gSub to ti t) := by
  intro pins s σ H v u Q I r h
  rw [ha]
  refine wpAny_bind (wpAny_holding (thn (ho pins s σ H _ I h) fun ov s1 qZ => ?_))
  obtain ⟨x, H1, I1, r1, q1⟩ := qZ
  refine wpAny_bind (wpAny_holding (thn (hi pins s1 σ H1 _ I1 q1) fun iv s2 qZ => ?_))
  obtain ⟨y, H2, I2, r2, q2⟩ := qZ
  refine wpAny_bind (wpAny_standAt (wpAny_bind (wpAny_holding (thn (hs pins s2 σ H2 x y v ov iv u _ I2 r1 r2 r q2) fun _ s3 qZ => ?_))))
  obtain ⟨H3, I3, q3⟩ := qZ
  exact wpAny_release ⟨σ, H3, I3, q3⟩
noncomputable def tAsg (te : TE) (g : TG) : TS := fun D σ H => te σ H fun x H1 => g x σ H1 D.nx
theorem ps_asg {tg e : Expr} {te : TE} {g : TG} (he : PE X e te) (hg : PG X tg g) (hs : swapsWithSole [tg] e pos.line X.env = pure false := by rfl) (hw : swappedStores [tg] e X.env = pure none := by rfl)
    (h1 : (assignEach [tg] X.env).map (·.2) = [assign tg X.env] := by rfl) : PS X (.Assign [tg] e pos) (tAsg te g) := by
  intro pins s σ H D I h
  refine wpAny_Assign_stores (thn (he pins s σ H _ I h) fun v s1 qZ => ?_) hs hw
  obtain ⟨x, H1, I1, r1, q1⟩ := qZ
  rw [h1]
  exact thn (hg pins s1 σ H1 x v _ I1 r1 q1) fun _ s2 q => q
theorem ps_set {i : Nat} {x : Str} {e : Expr} {te : TE} {pos' : Pos} (hN : X.N.Nodup) (hi : X.N[i]? = some x) (hx : Loc X.env.scope x) (he : PE X e te) (hs : swapsWith e (some (.Name x pos')) pos.line X.env = pure false := by rfl) (hf : X.fn x = true ∨ X.env.scope.names.lookup x = some .local := by first | exact .inl rfl | exact .inr rfl | assumption) :
    PS X (.Assign [.Name x pos'] e pos) (tAsg te (gName i)) := by
  intro pins s σ H D I h
  refine wpAny_Assign_Name (thn (he pins s σ H _ I h) fun v s1 qZ => ?_) hs
  obtain ⟨y, H1, I1, r1, q1⟩ := qZ
  exact store_ok I1 hN hi hx r1 (fun s2 I2 => ⟨_, H1, I2, q1⟩) hf
noncomputable def tPar (i j : Nat) (ta : TA) : TS := fun D σ H => ta σ H fun vs H1 => ∃ v w, vs = [v, w] ∧ D.nx ((σ.set i (some v)).set j (some w)) H1
theorem ps_par {i j : Nat} {x y : Str} {a b : Expr} {ta : TA} {px py pt : Pos} {kt k2 pt2} (hc : X.calm = true) (hN : X.N.Nodup) (hi : X.N[i]? = some x) (hj : X.N[j]? = some y) (hij : i ≠ j)
    (hx : X.env.scope.names.lookup x = some .local) (hy : X.env.scope.names.lookup y = some .local) (ha : PA X [a, b] ta)
    (hw : swappedStores [.Tuple [.Name x px, .Name y py] kt pt] (.Tuple [a, b] k2 pt2) X.env = pure (some [x, y]))
    (hs : swapsWithSole [.Tuple [.Name x px, .Name y py] kt pt] (.Tuple [a, b] k2 pt2) pos.line X.env = pure false := by rfl) :
    PS X (.Assign [.Tuple [.Name x px, .Name y py] kt pt] (.Tuple [a, b] k2 pt2) pos) (tPar i j ta) := by
  intro pins s σ H D I h
  rw [exec_Assign_arm]
  refine wpAny_bind (wpAny_standAt ?_)
  rw [hs]
  refine wpAny_bind (wpAny_pure ?_)
  rw [if_neg (by decide)]
  refine wpAny_bind (Tuple_ (thn (ha _ pins s σ H _ I h) fun us s1 qZ => ?_))
  obtain ⟨vs, H1, I1, r1, q1⟩ := qZ
  obtain ⟨v, w, e1, q1⟩ := q1
  subst e1
  obtain ⟨u1, u2, rfl, rv, rw'⟩ : ∃ u1 u2, us = [u1, u2] ∧ RelV v u1 ∧ RelV w u2 := by
    cases r1 with
    | cons p q =>
      cases q with
      | cons p' q' =>
        cases q'
        exact ⟨_, _, rfl, p, p'⟩
  refine wpAny_newObj_type ?_ (by show 2 ≤ sizeLine; decide)
  have I2 : Inv X pins σ H1 { s1 with heap := s1.heap.push { cls := .type "tuple", data := .seq [u1, u2].toArray } } := I1.kept (t' := s1.toks) fun b o e => Heap.get?_push_of_some _ e
  rw [hw]
  refine wpAny_bind (wpAny_pure ?_)
  show wpAny (model X.prog X.w) X.A (do rule "assign.swapped-stores"; let items ← unpackItems (.ref s1.heap.objs.size) 2 none; assignInOrder [fun v => bindName X.env y v, fun v => bindName X.env x v] items.reverse; pure Flow.next) _ _ _
  refine wpAny_bind (wpAny_rule (wpAny_bind (unpackItems_tuple (items := #[u1, u2]) (I.ok.hd hc) (IsTup.new s1.heap _) fun h' hx' => ?_)))
  have I3 := I2.kept (h' := h') (t' := s1.toks) fun b o e => hx' b o (Nat.ne_of_lt (Heap.lt_size e)) e
  show wpAny _ _ (assignInOrder [fun v => bindName X.env y v, fun v => bindName X.env x v] [u2, u1] >>= fun _ => pure Flow.next) _ _ _
  refine wpAny_bind (assignInOrder_cons (wpAny_bindName (store_ok I3 hN hj (.inl hy) rw' (fun s2 I4 => ?_) (.inr hy))))
  refine assignInOrder_cons (wpAny_bindName (store_ok I4 hN hi (.inl hx) rv (fun s3 I5 => assignInOrder_nil (wpAny_pure ?_)) (.inr hx)))
  rw [List.set_comm _ _ (Ne.symm hij)] at I5
  exact ⟨_, H1, I5, q1⟩
end

section
variable {X : Cx} {pos : Pos}
noncomputable def tWhile (c : TT) (tb : TS) : TS := fun D σ H => ∃ W : Nat → St → Hp → Prop, (∃ m, W m σ H) ∧ ∀ m σ H, W m σ H →
  c σ H fun b H1 => if b = true then ∃ N : St → Hp → Prop, (∀ σ' H', N σ' H' → ∃ m', m' < m ∧ W m' σ' H') ∧ tb { D with nx := N, ct := N, bk := D.nx } σ H1 else D.nx σ H1
theorem ps_while {c : Expr} {body : List Stmt} {tc : TT} {tb : TS} (hp : PassesOwn (model X.prog X.w) X.A X.env X.xe) (hc : PT X c tc) (hb : PSs X body tb) : PS X (.While c body [] pos) (tWhile tc tb) := by
  intro pins s σ H D I h
  obtain ⟨W, ⟨m0, w0⟩, turn⟩ := h
  refine wpAny_While (codeAny_whileLoop (fun n s' => ∃ σ' H', Inv X pins σ' H' s' ∧ W n σ' H') ?_ m0 ⟨σ, H, I, w0⟩)
  rintro n s1 ⟨σ1, H1, I1, w1⟩
  refine wpAny_passesOwn hp (thn (hc pins s1 σ1 H1 _ I1 (turn n σ1 H1 w1)) fun b s2 qZ => ?_)
  obtain ⟨H2, I2, q2⟩ := qZ
  cases b with
  | true =>
    obtain ⟨N, hN, q2⟩ := q2
    rw [if_pos rfl]
    refine wpAny_passesOwn hp (thn (hb pins s2 σ1 H2 _ I2 q2) fun f s3 q3 => ?_)
    cases f with
    | next =>
      obtain ⟨σ3, H3, I3, n3⟩ := q3
      obtain ⟨m', hm, w3⟩ := hN σ3 H3 n3
      exact ⟨m', hm, σ3, H3, I3, w3⟩
    | cont =>
      obtain ⟨σ3, H3, I3, n3⟩ := q3
      obtain ⟨m', hm, w3⟩ := hN σ3 H3 n3
      exact ⟨m', hm, σ3, H3, I3, w3⟩
    | brk => exact q3
    | ret v => exact q3
  | false =>
    rw [if_neg Bool.false_ne_true]
    exact wpAny_execs_nil ⟨σ1, H2, I2, q2⟩
end

structure It where
  go : Nat → Hp → Prop
  yld : Nat → Hp → V → Hp → Prop
  stop : Nat → Hp → Prop
noncomputable def FpOk (X : Cx) (pins : List (Addr × Obj)) (H : Hp) (b : Addr) : Prop :=
  H b = none ∧ b ≠ X.env.locals ∧ b ∉ X.fs ∧ (b ∈ X.ex ∨ X.s₀.heap.objs.size ≤ b) ∧ (∀ x c, X.env.cells.lookup x = some c → c ≠ b) ∧ ∀ p ∈ X.pn ++ pins, p.1 ≠ b
theorem Inv.fpOk {X : Cx} {pins : List (Addr × Obj)} {σ : St} {H H' : Hp} {s : Shared} {b : Addr} (I : Inv X pins σ H s) (hb : s.heap.objs.size ≤ b) (hn : H' b = none) : FpOk X pins H' b := by
  refine ⟨hn, Nat.ne_of_gt (Nat.lt_of_lt_of_le I.lt hb), I.nofs hb, .inr (Nat.le_trans I.sz hb), fun x c e z => ?_, fun p hp z => ?_⟩
  · obtain ⟨v, q⟩ := I.cell x c e
    exact absurd (Nat.lt_of_lt_of_le q.lt (by rw [z]; exact hb)) (Nat.lt_irrefl _)
  · exact absurd (Nat.lt_of_lt_of_le (Heap.lt_size (I.pin p hp).1) (by rw [z]; exact hb)) (Nat.lt_irrefl _)
structure Turn (P : Program) (w : World) (K : PySem.W.Frag) (tg : Expr) (J : It) (fp : List Addr) (it : Addr) (tn : Nat → Heap → Prop) : Prop where
  mem : it ∈ fp
  obj : ∀ i h, tn i h → ∀ b ∈ fp, ∃ o, h.get? b = some o ∧ ∀ v, o.data ≠ .cell v
  keep : ∀ i h h', tn i h → (∀ b ∈ fp, ∀ o, h.get? b = some o → h'.get? b = some o) → tn i h'
  item : ∀ (X : Cx), X.prog = P → X.w = w → X.K = K → X.calm = true → ∀ (i : Nat) (pins : List (Addr × Obj)) (s : Shared) (σ : St) (H : Hp) (E : Value → Shared → Prop), Inv X pins σ H s → (∀ b ∈ fp, FpOk X pins H b) → tn i s.heap → J.go i H →
    wpAny (model P w) X.A (pyNext (.ref it)) (fun r s1 => ∃ u, r = some u ∧
      wpAny (model P w) X.A (letOwnedTupleGo tg (.ref it) u) (fun _ s2 => ∃ x H', Inv X pins σ H' s2 ∧ RelV x u ∧ J.yld i H x H' ∧ tn (i + 1) s2.heap ∧ ∀ b ∈ fp, H' b = none) E s1) E s
  done : ∀ (X : Cx), X.prog = P → X.w = w → X.K = K → X.calm = true → ∀ (i : Nat) (pins : List (Addr × Obj)) (s : Shared) (σ : St) (H : Hp) (E : Value → Shared → Prop), Inv X pins σ H s → (∀ b ∈ fp, FpOk X pins H b) → tn i s.heap → J.stop i H →
    wpAny (model P w) X.A (pyNext (.ref it)) (fun r s1 => r = none ∧ Inv X pins σ H s1) E s
  self : ∀ (A : Around) (i : Nat) (s : Shared) (Q : Value → Shared → Prop) (E : Value → Shared → Prop), tn i s.heap → Q (.ref it) s → wpAny (model P w) A (pyIter (.ref it)) Q E s
noncomputable abbrev TI := St → Hp → (It → Hp → Prop) → Prop
noncomputable def PIE (X : Cx) (pins : List (Addr × Obj)) (σ : St) (tg : Expr) (R : It → Hp → Prop) (itv : Value) (s2 : Shared) : Prop :=
  ∃ (it : Addr) (fp : List Addr) (tn : Nat → Heap → Prop) (J : It) (H' : Hp), itv = .ref it ∧ Inv X pins σ H' s2 ∧ Turn X.prog X.w X.K tg J fp it tn ∧ tn 0 s2.heap ∧ (∀ b ∈ fp, FpOk X pins H' b) ∧ R J H'
noncomputable def PI (X : Cx) (tg iter : Expr) (wi : TI) : Prop :=
  ∀ (pins : List (Addr × Obj)) (s : Shared) (σ : St) (H : Hp) (R : It → Hp → Prop), Inv X pins σ H s → wi σ H R →
    wpAny (model X.prog X.w) X.A (eval iter X.env) (fun v s1 => wpAny (model X.prog X.w) X.A (pyIter v) (PIE X pins σ tg R) X.xe s1) X.xe s

theorem go_of {M : Model} {A : Around} {E : Value → Shared → Prop} {s : Shared} {tg : Expr} {it : Addr} {u : Value} {o : Obj} {n : String} {vs : Array Value} {Q : Unit → Shared → Prop} (ho : s.heap.get? it = some o) (hc : o.cls = .type n) (hd : o.data = .fields vs)
    (hn : ["enumerate", "zip", "dict_itemiterator", "dict_reverseitemiterator", "odict_iterator", "itertools.zip_longest", "itertools.pairwise"].contains n = false) (hQ : Q () s) : wpAny M A (letOwnedTupleGo tg (.ref it) u) Q E s := by
  unfold letOwnedTupleGo
  cases tg <;> first
    | exact wpAny_pure hQ
    | (cases u <;> first
        | exact wpAny_pure hQ
        | (refine wpAny_bind (wpAny_load ho ?_)
           rw [hc, hd]
           show wpAny M A (if (["enumerate", "zip", "dict_itemiterator", "dict_reverseitemiterator", "odict_iterator", "itertools.zip_longest", "itertools.pairwise"].contains n && vs[0]? == some (rawInt _)) = true then _ else _) Q E s
           rw [if_neg (by intro h; rw [hn, Bool.false_and] at h; cases h)]
           exact wpAny_pure hQ))

noncomputable def Itl (K : PySem.W.Frag) (a : Addr) : It :=
  ⟨fun i H => ∃ xs x, SqL K H a xs ∧ xs[i]? = some x, fun i H x H' => H' = H ∧ ∀ xs, SqL K H a xs → xs[i]? = some x, fun i H => ∃ xs, SqL K H a xs ∧ xs.length ≤ i⟩
noncomputable def Itt (K : PySem.W.Frag) (a : Addr) : It :=
  ⟨fun i H => ∃ xs x, SqT K H a xs ∧ xs[i]? = some x, fun i H x H' => H' = H ∧ ∀ xs, SqT K H a xs → xs[i]? = some x, fun i H => ∃ xs, SqT K H a xs ∧ xs.length ≤ i⟩
noncomputable def Itr (lo : Int) (n : Nat) : It := ⟨fun i _ => i < n, fun i H x H' => H' = H ∧ x = .int (lo + i), fun i _ => n ≤ i⟩
theorem turn_list {P : Program} {w : World} {K : PySem.W.Frag} {tg : Expr} (a it : Addr) : Turn P w K tg (Itl K a) [it] it (fun i h => h.IsListIter it a i) where
  mem := by simp
  obj := fun i h st b hb => by
    have e : b = it := by simpa using hb
    subst e
    obtain ⟨o, e, c, d⟩ := st
    exact ⟨o, e, fun v z => by rw [d] at z; cases z⟩
  keep := fun i h h' st k => st.at fun o e => k it (by simp) o e
  item := by
    intro X hP hw hK hc i pins s σ H E I hf st hg
    subst hP hw hK
    obtain ⟨xs, x, hq, hx⟩ := hg
    obtain ⟨its, rv, p, hz⟩ := I.list hq
    obtain ⟨u, hu, ru⟩ := rv.get hx
    obtain ⟨f0, f1, f2, f3, f4, f5⟩ := hf it (by simp)
    refine wpAny_pyNext_list_item st p.isList (x := u) (by simpa using hu) fun h' st' sb => ?_
    have I1 : Inv X pins σ H { s with heap := h' } := I.turned (t' := s.toks) (fun b o hb e => (sb.2 b hb).trans e) f0 f1 f3 f4 f5
    obtain ⟨o, e, c, d⟩ := id st'
    exact ⟨u, rfl, go_of (s := { s with heap := h' }) e c d (by decide) ⟨x, H, I1, ru, ⟨rfl, fun ys hy => by rw [I.list_inj hy hq]; exact hx⟩, st', fun b hb => (hf b hb).1⟩⟩
  done := by
    intro X hP hw hK hc i pins s σ H E I hf st hg
    subst hP hw hK
    obtain ⟨xs, hq, hx⟩ := hg
    obtain ⟨its, rv, p, hz⟩ := I.list hq
    obtain ⟨f0, f1, f2, f3, f4, f5⟩ := hf it (by simp)
    have hl := rv.length
    exact wpAny_pyNext_list_end (I.ok.hd hc) st p.isList (by simp; omega) fun h' eb => ⟨rfl, I.turned (t' := s.toks) (fun b o hb e => eb b o hb e) f0 f1 f3 f4 f5⟩
  self := fun _ _ _ _ _ st h => wpAny_pyIter_listiter st h
theorem turn_tuple {P : Program} {w : World} {K : PySem.W.Frag} {tg : Expr} (a it : Addr) : Turn P w K tg (Itt K a) [it] it (fun i h => h.IsTupleIter it a i) where
  mem := by simp
  obj := fun i h st b hb => by
    have e : b = it := by simpa using hb
    subst e
    obtain ⟨o, e, c, d⟩ := st
    exact ⟨o, e, fun v z => by rw [d] at z; cases z⟩
  keep := fun i h h' st k => st.at fun o e => k it (by simp) o e
  item := by
    intro X hP hw hK hc i pins s σ H E I hf st hg
    subst hP hw hK
    obtain ⟨xs, x, hq, hx⟩ := hg
    obtain ⟨its, rv, p, hz⟩ := I.tuple hq
    obtain ⟨u, hu, ru⟩ := rv.get hx
    obtain ⟨f0, f1, f2, f3, f4, f5⟩ := hf it (by simp)
    refine wpAny_pyNext_tuple_item st (show s.heap.IsTuple a its.toArray from p) (x := u) (by simpa using hu) fun h' st' sb => ?_
    have I1 : Inv X pins σ H { s with heap := h' } := I.turned (t' := s.toks) (fun b o hb e => (sb.2 b hb).trans e) f0 f1 f3 f4 f5
    obtain ⟨o, e, c, d⟩ := id st'
    exact ⟨u, rfl, go_of (s := { s with heap := h' }) e c d (by decide) ⟨x, H, I1, ru, ⟨rfl, fun ys hy => by rw [I.tuple_inj hy hq]; exact hx⟩, st', fun b hb => (hf b hb).1⟩⟩
  done := by
    intro X hP hw hK hc i pins s σ H E I hf st hg
    subst hP hw hK
    obtain ⟨xs, hq, hx⟩ := hg
    obtain ⟨its, rv, p, hz⟩ := I.tuple hq
    obtain ⟨f0, f1, f2, f3, f4, f5⟩ := hf it (by simp)
    have hl := rv.length
    exact wpAny_pyNext_tuple_end (I.ok.hd hc) st (show s.heap.IsTuple a its.toArray from p) (by simp; omega) fun h' eb => ⟨rfl, I.turned (t' := s.toks) (fun b o hb e => eb b o hb e) f0 f1 f3 f4 f5⟩
  self := fun _ _ _ _ _ st h => wpAny_pyIter_tupleiter st h
theorem turn_range {P : Program} {w : World} {K : PySem.W.Frag} {tg : Expr} (it : Addr) (lo : Int) (n : Nat) : Turn P w K tg (Itr lo n) [it] it (fun i h => IsRangeIter h it (lo + (i : Nat) * 1) ((n : Int) - (i : Nat)) 1) where
  mem := by simp
  obj := fun i h st b hb => by
    have e : b = it := by simpa using hb
    subst e
    exact ⟨_, st, fun v z => by
      have z' : Data.fields _ = Data.cell v := z
      cases z'⟩
  keep := fun i h h' st k => k it (by simp) _ st
  item := by
    intro X hP hw hK hc i pins s σ H E I hf st hg
    subst hP hw hK
    obtain ⟨f0, f1, f2, f3, f4, f5⟩ := hf it (by simp)
    have W := Walks.range (prog := X.prog) (w := X.w) (I.ok.hd hc) it lo 1 n
    refine W.item i s _ _ hg st fun v h' tk hv st' kk => ?_
    obtain ⟨t, rfl⟩ := hv
    have I1 : Inv X pins σ H { s with heap := h', toks := tk } := I.turned (fun b o hb e => kk b o (by simpa using hb) e) f0 f1 f3 f4 f5
    refine ⟨_, rfl, go_of (s := { s with heap := h', toks := tk }) (n := "range_iterator") st' rfl rfl (by decide) ⟨.int (lo + i), H, I1, ⟨t, ?_⟩, ⟨rfl, rfl⟩, st', fun b hb => (hf b hb).1⟩⟩
    rw [Int.mul_one]
  done := by
    intro X hP hw hK hc i pins s σ H E I hf st hg
    subst hP hw hK
    obtain ⟨f0, f1, f2, f3, f4, f5⟩ := hf it (by simp)
    exact wpAny_pyNext_range_end (I.ok.hd hc) st (by have : n ≤ i := hg; omega) fun h' eb => ⟨rfl, I.turned (t' := s.toks) (fun b o hb e => eb b o hb e) f0 f1 f3 f4 f5⟩
  self := fun _ _ _ _ _ st h => wpAny_pyIter_rangeiter st h
end L2

namespace L2
open PySem PySem.Spec PyProof.Rows
section
variable {X : Cx} {tg : Expr}
theorem range_it {pins : List (Addr × Obj)} {σ : St} {H : Hp} {s : Shared} {R : It → Hp → Prop} {E : Value → Shared → Prop} {lo hi : Int} {t u v : Tok} {tk : Nat} (I : Inv X pins σ H s) (h1 : -(2 ^ 62) ≤ lo) (h2 : lo < 2 ^ 62) (h3 : -(2 ^ 62) ≤ hi) (h4 : hi < 2 ^ 62)
    (q : R (Itr lo (hi - lo).toNat) H) : wpAny (model X.prog X.w) X.A (pyIter (.ref s.heap.objs.size)) (PIE X pins σ tg R) E { s with heap := s.heap.push { cls := .type "range", data := .fields #[.int lo t, .int hi u, .int 1 v] }, toks := tk } := by
  refine wpAny_pyIter_range (IsRange.new ..) (small_one h1 h2 h3 h4) ?_
  have I1 : Inv X pins σ H { s with heap := s.heap.push { cls := .type "range", data := .fields #[.int lo t, .int hi u, .int 1 v] }, toks := tk } := I.kept fun b o e => Heap.get?_push_of_some _ e
  refine ⟨(s.heap.push { cls := .type "range", data := .fields #[.int lo t, .int hi u, .int 1 v] }).objs.size, [(s.heap.push { cls := .type "range", data := .fields #[.int lo t, .int hi u, .int 1 v] }).objs.size], _, _, H, rfl,
    I1.kept (t' := tk) fun b o e => Heap.get?_push_of_some _ e, turn_range _ lo (hi - lo).toNat, ?_, fun b hb => ?_, q⟩
  · have e1 : lo + ((0 : Nat) : Int) * 1 = lo := by simp
    have e2 : (((hi - lo).toNat : Nat) : Int) - ((0 : Nat) : Int) = Builtin.Range.rangeSize lo hi 1 := by rw [rangeSize_one]; split <;> omega
    show IsRangeIter _ _ (lo + ((0 : Nat) : Int) * 1) ((((hi - lo).toNat : Nat) : Int) - ((0 : Nat) : Int)) 1
    rw [e1, e2]
    exact Heap.get?_push_size _ rfl
  · have e : b = (s.heap.push { cls := .type "range", data := .fields #[.int lo t, .int hi u, .int 1 v] }).objs.size := by simpa using hb
    subst e
    exact I1.fpOk (Nat.le_refl _) (I1.hok.fresh (Nat.le_refl _))
noncomputable def iRng1 (ta : TA) : TI := fun σ H R => ta σ H fun vs H1 => ∃ j : Int, vs = [.int j] ∧ -(2 ^ 62) ≤ j ∧ j < 2 ^ 62 ∧ R (Itr 0 j.toNat) H1
theorem pi_range1 {a : Expr} {ta : TA} {p pos : Pos} (hg : Gl X "range") (hm : X.mg "range" = none) (ha : PA X [a] ta) (hs : starEach [a] X.env = [(false, eval a X.env)] := by rfl) : PI X tg (.Call (.Name "range" p) [a] [] pos) (iRng1 ta) := by
  intro pins s σ H R I h
  refine Call_ (ld_blt I hg hm boot_range (PyProof.Rows.callWith_type1 (thn (ha pos pins s σ H _ I h) fun us s1 qZ => ?_) hs rfl))
  obtain ⟨vs, H1, I1, r1, q1⟩ := qZ
  obtain ⟨j, e, q1, q2, q⟩ := q1
  subst e
  cases r1 with
  | cons r rr =>
    cases rr
    obtain ⟨t, rfl⟩ := r
    exact call_range_1 (range_it I1 (by omega) (by omega) q1 q2 (by simpa using q))
noncomputable def tFor (wi : TI) (g : TG) (tb : TS) : TS := fun D σ H => wi σ H fun J H1 => ∃ W : Nat → Nat → St → Hp → Prop, (∃ m, W 0 m σ H1) ∧ ∀ i m σ H, W i m σ H →
  (J.stop i H ∧ D.nx σ H) ∨ (J.go i H ∧ ∃ N : St → Hp → Prop, (∀ σ' H', N σ' H' → ∃ m', m' < m ∧ W (i + 1) m' σ' H') ∧ ∀ x H', J.yld i H x H' → g x σ H' fun σ2 H2 => tb { D with nx := N, ct := N, bk := D.nx } σ2 H2)
noncomputable def pinsAt (fp : List Addr) (h : Heap) : List (Addr × Obj) := fp.filterMap fun b => (h.get? b).map fun o => (b, o)
theorem mem_pinsAt {fp : List Addr} {h : Heap} {b : Addr} {o : Obj} (hb : b ∈ fp) (e : h.get? b = some o) : (b, o) ∈ pinsAt fp h := List.mem_filterMap.mpr ⟨b, hb, by rw [e]; rfl⟩
theorem of_pinsAt {fp : List Addr} {h : Heap} {p : Addr × Obj} (hp : p ∈ pinsAt fp h) : p.1 ∈ fp ∧ h.get? p.1 = some p.2 := by
  obtain ⟨b, hb, e⟩ := List.mem_filterMap.mp hp
  cases q : h.get? b with
  | none => rw [q] at e; cases e
  | some o =>
    rw [q] at e
    have e' : (b, o) = p := Option.some.inj e
    subst e'
    exact ⟨hb, q⟩
theorem Inv.pinned {pins : List (Addr × Obj)} {σ : St} {H : Hp} {s : Shared} {fp : List Addr} (I : Inv X pins σ H s) (hf : ∀ b ∈ fp, FpOk X pins H b) (ho : ∀ b ∈ fp, ∃ o, s.heap.get? b = some o ∧ ∀ v, o.data ≠ .cell v) : Inv X (pins ++ pinsAt fp s.heap) σ H s :=
  I.pins_of fun p hp => (List.mem_append.mp hp).elim (fun z => I.pin p (List.mem_append_right _ z)) fun z => by
    obtain ⟨hb, e⟩ := of_pinsAt z
    obtain ⟨f0, f1, f2, _⟩ := hf p.1 hb
    obtain ⟨o, e', d⟩ := ho p.1 hb
    rw [e] at e'; cases e'
    exact ⟨e, f0, f1, f2, d⟩
theorem Inv.unpinned {pins pl : List (Addr × Obj)} {σ : St} {H : Hp} {s : Shared} (I : Inv X (pins ++ pl) σ H s) : Inv X pins σ H s := I.pins_of fun p hp => I.pin p (List.mem_append_right _ (List.mem_append_left _ hp))
theorem ps_for {iter : Expr} {body : List Stmt} {wi : TI} {g : TG} {tb : TS} {pos : Pos} (hp : PassesOwn (model X.prog X.w) X.A X.env X.xe) (hc : X.calm = true) (hi : PI X tg iter wi) (hg : PG X tg g) (hb : PSs X body tb)
    (hs : ∀ x, foldedSetIterable iter X.env x = pure x := by intro _; rfl) : PS X (.For tg iter body [] pos) (tFor wi g tb) := by
  intro pins s σ H D I h
  refine wpAny_For (thn (hi pins s σ H _ I h) fun v s1 h1 => thn h1 fun itv s2 h2 => ?_) hs
  obtain ⟨it, fp, tn, J, H2, e, I2, T, st2, f2, W, ⟨m0, w0⟩, turn⟩ := h2
  subst e
  -- what stays true of the iterator's objects through the loop
  have stat : ∀ {H' : Hp}, (∀ b ∈ fp, H' b = none) → ∀ b ∈ fp, FpOk X pins H' b := fun hn b hb => ⟨hn b hb, (f2 b hb).2⟩
  refine codeAny_forLoop_any (fun n s' => ∃ i σ' H', Inv X pins σ' H' s' ∧ tn i s'.heap ∧ (∀ b ∈ fp, H' b = none) ∧ W i n σ' H') ?_ m0 ⟨0, σ, H2, I2, st2, fun b hb => (f2 b hb).1, w0⟩
  rintro n s3 ⟨i, σ3, H3, I3, st3, fr3, w3⟩
  rcases turn i n σ3 H3 w3 with ⟨stop, qn⟩ | ⟨go, N, hN, step⟩
  · refine wpAny_passesOwn hp (thn (T.done X rfl rfl rfl hc i pins s3 σ3 H3 X.xe I3 (stat fr3) st3 stop) fun r s4 qZ => ?_)
    obtain ⟨hr, I4⟩ := qZ
    subst hr
    exact wpAny_execs_nil ⟨σ3, H3, I4, qn⟩
  · refine wpAny_passesOwn hp (thn (T.item X rfl rfl rfl hc i pins s3 σ3 H3 X.xe I3 (stat fr3) st3 go) fun r s4 qZ => ?_)
    obtain ⟨u, hr, h4⟩ := qZ
    subst hr
    refine wpAny_passesOwn hp (thn h4 fun _ s5 qZ => ?_)
    obtain ⟨x, H5, I5, r5, y5, st5, fr5⟩ := qZ
    have I5' := I5.pinned (stat fr5) (T.obj _ _ st5)
    refine wpAny_passesOwn hp (thn (hg _ s5 σ3 H5 x u _ I5' r5 (step x H5 y5)) fun _ s6 qZ => ?_)
    obtain ⟨σ6, H6, I6, q6⟩ := qZ
    refine wpAny_passesOwn hp (thn (hb _ s6 σ6 H6 _ I6 q6) fun f s7 q7 => ?_)
    have again : ∀ {σ7 : St} {H7 : Hp}, Inv X (pins ++ pinsAt fp s5.heap) σ7 H7 s7 → N σ7 H7 → ∃ m, m < n ∧ ∃ i σ' H', Inv X pins σ' H' s7 ∧ tn i s7.heap ∧ (∀ b ∈ fp, H' b = none) ∧ W i m σ' H' := fun {σ7 H7} I7 n7 => by
      obtain ⟨m', hm, w7⟩ := hN σ7 H7 n7
      refine ⟨m', hm, i + 1, σ7, H7, I7.unpinned, T.keep _ _ _ st5 fun b hb o e => (I7.pin (b, o) (List.mem_append_right _ (List.mem_append_right _ (mem_pinsAt hb e)))).1, fun b hb => ?_, w7⟩
      obtain ⟨o, e, d⟩ := T.obj _ _ st5 b hb
      exact (I7.pin (b, o) (List.mem_append_right _ (List.mem_append_right _ (mem_pinsAt hb e)))).2.1
    cases f with
    | next => obtain ⟨σ7, H7, I7, n7⟩ := q7; exact again I7 n7
    | cont => obtain ⟨σ7, H7, I7, n7⟩ := q7; exact again I7 n7
    | brk => obtain ⟨σ7, H7, I7, q7⟩ := q7; exact ⟨σ7, H7, I7.unpinned, q7⟩
    | ret v => obtain ⟨x7, σ7, H7, I7, r7, q7⟩ := q7; exact ⟨x7, σ7, H7, I7.unpinned, r7, q7⟩
end

end L2

namespace L2
open PySem PySem.Spec PyProof.Rows

noncomputable abbrev R2 := V → V → Hp → VK → Prop
noncomputable def OpR (X : Cx) (f : Value → Value → Sem Value) (r : R2) : Prop :=
  ∀ (pins : List (Addr × Obj)) (s : Shared) (σ : St) (H : Hp) (x y : V) (v u : Value) (Q : VK), Inv X pins σ H s → RelV x v → RelV y u → r x y H Q →
    wpAny (model X.prog X.w) X.A (f v u) (EP X pins σ Q) X.xe s
noncomputable def UnR (X : Cx) (f : Value → Sem Value) (r : V → Hp → VK → Prop) : Prop :=
  ∀ (pins : List (Addr × Obj)) (s : Shared) (σ : St) (H : Hp) (x : V) (v : Value) (Q : VK), Inv X pins σ H s → RelV x v → r x H Q →
    wpAny (model X.prog X.w) X.A (f v) (EP X pins σ Q) X.xe s
noncomputable def CallR (X : Cx) (f : Value) (r : List V → Hp → VK → Prop) : Prop :=
  ∀ (pins : List (Addr × Obj)) (s : Shared) (σ : St) (H : Hp) (xs : List V) (us : List Value) (Q : VK), Inv X pins σ H s → Vals xs us → r xs H Q →
    wpAny (model X.prog X.w) X.A (call f us) (EP X pins σ Q) X.xe s
noncomputable def tOp (r : R2) (ta tb : TE) : TE := fun σ H Q => ta σ H fun x H1 => tb σ H1 fun y H2 => r x y H2 Q
noncomputable def tUn (r : V → Hp → VK → Prop) (ta : TE) : TE := fun σ H Q => ta σ H fun x H1 => r x H1 Q
noncomputable def rI (C : Int → Int → Prop) (g : Int → Int → V) : R2 := fun x y H Q => ∃ i j, x = .int i ∧ y = .int j ∧ C i j ∧ Q (g i j) H
noncomputable def rI0 (g : Int → Int → V) : R2 := fun x y H Q => ∃ i j, x = .int i ∧ y = .int j ∧ Q (g i j) H
noncomputable def rU (g : Int → V) : V → Hp → VK → Prop := fun x H Q => ∃ i, x = .int i ∧ Q (g i) H

section
variable {X : Cx} {a b c : Expr} {ta tb tc : TE} {pos : Pos}

theorem binT (ha : PE X a ta) (hb : PE X b tb) {pins : List (Addr × Obj)} {s : Shared} {σ : St} {H : Hp} {R : V → V → Hp → Prop} (I : Inv X pins σ H s)
    (h : ta σ H fun x H1 => tb σ H1 fun y H2 => R x y H2) {Q : Value → Shared → Prop} {f : Value → Value → Sem Value}
    (hf : ∀ v u s2 x y H2, Inv X pins σ H2 s2 → RelV x v → RelV y u → R x y H2 → wpAny (model X.prog X.w) X.A (f v u) Q X.xe s2) :
    wpAny (model X.prog X.w) X.A (eval a X.env) (fun v s₁ => wpAny (model X.prog X.w) X.A (eval b X.env) (fun u s₂ => wpAny (model X.prog X.w) X.A (f v u) Q X.xe s₂) X.xe s₁) X.xe s := by
  refine thn (ha pins s σ H _ I h) fun v s1 qZ => ?_
  obtain ⟨x, H1, I1, r1, q1⟩ := qZ
  refine thn (hb pins s1 σ H1 _ I1 q1) fun u s2 qZ => ?_
  obtain ⟨y, H2, I2, r2, q2⟩ := qZ
  exact hf v u s2 x y H2 I2 r1 r2 q2

theorem pe_op {op : Operator} {r : R2} (ho : OpR X (binaryOp op) r) (ha : PE X a ta) (hb : PE X b tb) : PE X (.BinOp a op b pos) (tOp r ta tb) := by
  intro pins s σ H Q I h
  exact wpAny_BinOp (binT ha hb I h fun v u s2 x y H2 I2 rx ry q => ho pins s2 σ H2 x y v u Q I2 rx ry q)
theorem pe_un {op : UnaryOp} {r : V → Hp → VK → Prop} (ho : UnR X (unaryOp op) r) (ha : PE X a ta) : PE X (.UnaryOp op a pos) (tUn r ta) := by
  intro pins s σ H Q I h
  exact UnaryOp_ (thn (ha pins s σ H _ I h) fun v s1 ⟨x, H1, I1, r1, q1⟩ => ho pins s1 σ H1 x v Q I1 r1 q1)
theorem opI {f : Value → Value → Sem Value} {C : Int → Int → Prop} {g : Int → Int → Int}
    (rule : ∀ (i j : Int) (t u : Tok) (s : Shared) (Q : Value → Shared → Prop) (E : Value → Shared → Prop), C i j → Q (.int (g i j) s.toks) { s with toks := s.toks + 1 } → wpAny (model X.prog X.w) X.A (f (.int i t) (.int j u)) Q E s) :
    OpR X f (rI C fun i j => .int (g i j)) := by
  intro pins s σ H x y v u Q I rx ry h
  obtain ⟨i, j, rfl, rfl, hc, q⟩ := h
  obtain ⟨t, rfl⟩ := rx
  obtain ⟨t', rfl⟩ := ry
  exact rule i j t t' s _ _ hc ⟨.int (g i j), H, I.tok _, ⟨_, rfl⟩, q⟩
theorem opI0 {f : Value → Value → Sem Value} {g : Int → Int → Int}
    (rule : ∀ (i j : Int) (t u : Tok) (s : Shared) (Q : Value → Shared → Prop) (E : Value → Shared → Prop), Q (.int (g i j) s.toks) { s with toks := s.toks + 1 } → wpAny (model X.prog X.w) X.A (f (.int i t) (.int j u)) Q E s) :
    OpR X f (rI0 fun i j => .int (g i j)) := by
  intro pins s σ H x y v u Q I rx ry h
  obtain ⟨i, j, rfl, rfl, q⟩ := h
  obtain ⟨t, rfl⟩ := rx
  obtain ⟨t', rfl⟩ := ry
  exact rule i j t t' s _ _ ⟨.int (g i j), H, I.tok _, ⟨_, rfl⟩, q⟩
theorem opB0 {f : Value → Value → Sem Value} {g : Int → Int → Bool}
    (rule : ∀ (i j : Int) (t u : Tok) (s : Shared) (Q : Value → Shared → Prop) (E : Value → Shared → Prop), Q (.bool (g i j)) s → wpAny (model X.prog X.w) X.A (f (.int i t) (.int j u)) Q E s) :
    OpR X f (rI0 fun i j => .bl (g i j)) := by
  intro pins s σ H x y v u Q I rx ry h
  obtain ⟨i, j, rfl, rfl, q⟩ := h
  obtain ⟨t, rfl⟩ := rx
  obtain ⟨t', rfl⟩ := ry
  exact rule i j t t' s _ _ ⟨.bl (g i j), H, I, rfl, q⟩

noncomputable def CPow (i j : Int) : Prop := 0 ≤ j ∧ j ≤ 1000000 ∧ i.natAbs < 2 ^ 64
noncomputable def CMul (i j : Int) : Prop := (-(2 ^ 64) < i ∧ i < 2 ^ 64) ∨ (-(2 ^ 64) < j ∧ j < 2 ^ 64)
theorem op_add : OpR X (binaryOp .Add) (rI0 fun i j => .int (i + j)) := opI0 fun _ _ _ _ _ _ _ q => add_int q
theorem op_sub : OpR X (binaryOp .Sub) (rI0 fun i j => .int (i - j)) := opI0 fun _ _ _ _ _ _ _ q => sub_int q
theorem op_modN : OpR X (binaryOp .Mod) (rI (fun _ j => j ≠ 0) fun i j => .int (i.fmod j)) := opI fun _ _ _ _ _ _ _ hc q => mod_int' hc q
theorem op_pow : OpR X (binaryOp .Pow) (rI CPow fun i j => .int (i ^ j.toNat)) := opI fun _ _ _ _ _ _ _ hc q => pow_int_small hc.1 hc.2.1 hc.2.2 q
theorem unI {f : Value → Sem Value} {g : Int → Int}
    (rule : ∀ (i : Int) (t : Tok) (s : Shared) (Q : Value → Shared → Prop) (E : Value → Shared → Prop), Q (.int (g i) s.toks) { s with toks := s.toks + 1 } → wpAny (model X.prog X.w) X.A (f (.int i t)) Q E s) :
    UnR X f (rU fun i => .int (g i)) := by
  intro pins s σ H x v Q I rx h
  obtain ⟨i, rfl, q⟩ := h
  obtain ⟨t, rfl⟩ := rx
  exact rule i t s _ _ ⟨.int (g i), H, I.tok _, ⟨_, rfl⟩, q⟩
theorem un_neg : UnR X (unaryOp .USub) (rU fun i => .int (-i)) := unI fun _ _ _ _ _ q => neg_int q
end

noncomputable def scal : V → V → Bool
  | .non, .non => true | .non, .int _ => true | .int _, .non => true | .non, .bl _ => true | .bl _, .non => true | .non, .str _ => true | .str _, .non => true
  | .int _, .int _ => true | .bl _, .bl _ => true | .str _, .str _ => true | .byt _, .byt _ => true
  | .int _, .str _ => true | .str _, .int _ => true | .bl _, .str _ => true | .str _, .bl _ => true
  | _, _ => false
noncomputable def rEq : R2 := fun x y H Q => scal x y = true ∧ Q (.bl (decide (x = y))) H
noncomputable def rNe : R2 := fun x y H Q => scal x y = true ∧ Q (.bl (!decide (x = y))) H

theorem dec_int {i j : Int} : decide (V.int i = V.int j) = (i == j) := by
  rw [Bool.eq_iff_iff]
  simp
theorem dec_bl {i j : Bool} : decide (V.bl i = V.bl j) = (i == j) := by
  rw [Bool.eq_iff_iff]
  simp
theorem dec_str {i j : Str} : decide (V.str i = V.str j) = (i == j) := by
  rw [Bool.eq_iff_iff]
  simp
theorem dec_byt {i j : Array UInt8} : decide (V.byt i = V.byt j) = (i.toList == j.toList) := by
  rw [Bool.eq_iff_iff]
  cases i
  cases j
  simp

section
variable {X : Cx} {a b c : Expr} {ta tb tc : TE} {pos : Pos}
theorem fin_bl {pins : List (Addr × Obj)} {σ : St} {H : Hp} {s : Shared} {Q : VK} {k k' : Bool} (I : Inv X pins σ H s) (q : Q (.bl k) H) (e : k = k') : EP X pins σ Q (.bool k') s := by
  subst e
  exact ⟨.bl k, H, I, rfl, q⟩
theorem op_eq : OpR X (compareOp .Eq) rEq := by
  intro pins s σ H x y v u Q I rx ry h
  obtain ⟨hs, q⟩ := h
  cases x with
  | non =>
    cases rx
    cases y with
    | non => cases ry; exact PySem.EqNone.eq_none_none (fin_bl I q (by simp))
    | bl j => cases ry; exact PySem.EqNone.eq_none_bool (fin_bl I q (by simp))
    | int j => obtain ⟨t', rfl⟩ := ry; exact PySem.EqNone.eq_none_int (fin_bl I q (by simp))
    | str j => obtain ⟨t', rfl⟩ := ry; exact PySem.EqNone.eq_none_str (fin_bl I q (by simp))
    | _ => exact absurd (show false = true from hs) Bool.false_ne_true
  | bl i =>
    cases rx
    cases y with
    | non => cases ry; exact PySem.EqNone.eq_bool_none (fin_bl I q (by simp))
    | bl j => cases ry; exact eq_bool (fin_bl I q dec_bl)
    | str j => obtain ⟨t', rfl⟩ := ry; exact PySem.EqMixed.eq_bool_str (fin_bl I q (by simp))
    | _ => exact absurd (show false = true from hs) Bool.false_ne_true
  | int i =>
    obtain ⟨t, rfl⟩ := rx
    cases y with
    | non => cases ry; exact PySem.EqNone.eq_int_none (fin_bl I q (by simp))
    | int j => obtain ⟨t', rfl⟩ := ry; exact eq_int (fin_bl I q dec_int)
    | str j => obtain ⟨t', rfl⟩ := ry; exact PySem.EqMixed.eq_int_str (fin_bl I q (by simp))
    | _ => exact absurd (show false = true from hs) Bool.false_ne_true
  | str i =>
    obtain ⟨t, rfl⟩ := rx
    cases y with
    | non => cases ry; exact PySem.EqNone.eq_str_none (fin_bl I q (by simp))
    | bl j => cases ry; exact PySem.EqMixed.eq_str_bool (fin_bl I q (by simp))
    | int j => obtain ⟨t', rfl⟩ := ry; exact PySem.EqMixed.eq_str_int (fin_bl I q (by simp))
    | str j => obtain ⟨t', rfl⟩ := ry; exact eq_str (fin_bl I q dec_str)
    | _ => exact absurd (show false = true from hs) Bool.false_ne_true
  | byt i =>
    obtain ⟨t, rfl⟩ := rx
    cases y with
    | byt j => obtain ⟨t', rfl⟩ := ry; exact PySem.W.eq_bytes (fin_bl I q dec_byt)
    | _ => exact absurd (show false = true from hs) Bool.false_ne_true
  | _ => cases y <;> exact absurd (show false = true from hs) Bool.false_ne_true
theorem op_ne : OpR X (compareOp .NotEq) rNe := by
  intro pins s σ H x y v u Q I rx ry h
  obtain ⟨hs, q⟩ := h
  cases x with
  | non =>
    cases rx
    cases y with
    | non => cases ry; exact PySem.EqNone.ne_none_none (fin_bl I q (by simp))
    | bl j => cases ry; exact PySem.EqNone.ne_none_bool (fin_bl I q (by simp))
    | int j => obtain ⟨t', rfl⟩ := ry; exact PySem.EqNone.ne_none_int (fin_bl I q (by simp))
    | str j => obtain ⟨t', rfl⟩ := ry; exact PySem.EqNone.ne_none_str (fin_bl I q (by simp))
    | _ => exact absurd (show false = true from hs) Bool.false_ne_true
  | bl i =>
    cases rx
    cases y with
    | non => cases ry; exact PySem.EqNone.ne_bool_none (fin_bl I q (by simp))
    | bl j => cases ry; exact ne_bool (fin_bl I q (congrArg not dec_bl))
    | str j => obtain ⟨t', rfl⟩ := ry; exact PySem.EqMixed.ne_bool_str (fin_bl I q (by simp))
    | _ => exact absurd (show false = true from hs) Bool.false_ne_true
  | int i =>
    obtain ⟨t, rfl⟩ := rx
    cases y with
    | non => cases ry; exact PySem.EqNone.ne_int_none (fin_bl I q (by simp))
    | int j => obtain ⟨t', rfl⟩ := ry; exact ne_int (fin_bl I q (congrArg not dec_int))
    | str j => obtain ⟨t', rfl⟩ := ry; exact PySem.EqMixed.ne_int_str (fin_bl I q (by simp))
    | _ => exact absurd (show false = true from hs) Bool.false_ne_true
  | str i =>
    obtain ⟨t, rfl⟩ := rx
    cases y with
    | non => cases ry; exact PySem.EqNone.ne_str_none (fin_bl I q (by simp))
    | bl j => cases ry; exact PySem.EqMixed.ne_str_bool (fin_bl I q (by simp))
    | int j => obtain ⟨t', rfl⟩ := ry; exact PySem.EqMixed.ne_str_int (fin_bl I q (by simp))
    | str j => obtain ⟨t', rfl⟩ := ry; exact ne_str (fin_bl I q (congrArg not dec_str))
    | _ => exact absurd (show false = true from hs) Bool.false_ne_true
  | byt i =>
    obtain ⟨t, rfl⟩ := rx
    cases y with
    | byt j => obtain ⟨t', rfl⟩ := ry; exact PySem.W.ne_bytes (fin_bl I q (congrArg not dec_byt))
    | _ => exact absurd (show false = true from hs) Bool.false_ne_true
  | _ => cases y <;> exact absurd (show false = true from hs) Bool.false_ne_true

theorem op_lt : OpR X (compareOp .Lt) (rI0 fun i j => .bl (decide (i < j))) := opB0 fun _ _ _ _ _ _ _ q => lt_int q
theorem op_le : OpR X (compareOp .LtE) (rI0 fun i j => .bl (decide (i ≤ j))) := opB0 fun _ _ _ _ _ _ _ q => le_int q
theorem op_gt : OpR X (compareOp .Gt) (rI0 fun i j => .bl (decide (j < i))) := opB0 fun _ _ _ _ _ _ _ q => gt_int q
theorem OpR.or {f : Value → Value → Sem Value} {r r' : R2} (h : OpR X f r) (h' : OpR X f r') : OpR X f (fun x y H Q => r x y H Q ∨ r' x y H Q) := by
  intro pins s σ H x y v u Q I rx ry q
  rcases q with q | q
  · exact h pins s σ H x y v u Q I rx ry q
  · exact h' pins s σ H x y v u Q I rx ry q

theorem nomark (b : Expr) {op : CmpOp} (h : op ≠ .In := by decide) (h2 : op ≠ .NotIn := by decide) : behindInMarks op b = false := by
  have e1 : (op == CmpOp.In) = false := by cases op <;> first | rfl | exact absurd rfl h
  have e2 : (op == CmpOp.NotIn) = false := by cases op <;> first | rfl | exact absurd rfl h2
  cases b <;> simp [behindInMarks, e1, e2]
theorem pe_cmpR {op : CmpOp} {r : R2} (ho : OpR X (compareOp op) r) (ha : PE X a ta) (hb : PE X b tb) (hm : behindInMarks op b = false) : PE X (.Compare a [op] [b] pos) (tOp r ta tb) := by
  intro pins s σ H Q I h
  exact wpAny_Compare1 (binT ha hb I h fun v u s2 x y H2 I2 rx ry q => ho pins s2 σ H2 x y v u Q I2 rx ry q) hm
noncomputable def tTest (t : TE) : TT := fun σ H Q => t σ H fun x H' => ∃ k, x = .bl k ∧ Q k H'
theorem pt_cmpR {op : CmpOp} {r : R2} (ho : OpR X (compareOp op) r) (ha : PE X a ta) (hb : PE X b tb) (hm : behindInMarks op b = false) : PT X (.Compare a [op] [b] pos) (tTest (tOp r ta tb)) := by
  intro pins s σ H Q I h
  refine wpAny_isTrue_Compare1 (thn (ha pins s σ H _ I h) fun v s1 ⟨x, H1, I1, r1, q1⟩ => thn (hb pins s1 σ H1 _ I1 q1) fun u s2 ⟨y, H2, I2, r2, q2⟩ =>
    thn (ho pins s2 σ H2 x y v u _ I2 r1 r2 q2) fun c s3 ⟨z, H3, I3, r3, k, e, q3⟩ => ?_) hm
  subst e
  cases r3
  exact wpAny_truthy_bool ⟨H3, I3, q3⟩
theorem line63 : (sizeLine : Nat) < 2 ^ 63 := by rw [sizeLine_eq]; decide
theorem vals1 {x : V} {us : List Value} (r : Vals [x] us) : ∃ u, us = [u] ∧ RelV x u := by
  cases r with
  | cons r1 r2 => cases r2; exact ⟨_, rfl, r1⟩
theorem vals2 {x y : V} {us : List Value} (r : Vals [x, y] us) : ∃ u w', us = [u, w'] ∧ RelV x u ∧ RelV y w' := by
  cases r with
  | cons r1 r2 =>
    cases r2 with
    | cons r3 r4 => cases r4; exact ⟨_, _, rfl, r1, r3⟩
theorem call_abs : CallR X (.builtin "abs") (fun xs H Q => ∃ i, xs = [.int i] ∧ Q (.int (if i < 0 then -i else i)) H) := by
  intro pins s σ H xs us Q I r h
  obtain ⟨i, rfl, q⟩ := h
  obtain ⟨u, rfl, t, rfl⟩ := vals1 r
  exact call_abs_int fun u tk => ⟨.int (if i < 0 then -i else i), H, I.tok _, ⟨_, rfl⟩, q⟩
theorem call_int1 : CallR X (.type "int") (fun xs H Q => (∃ i, xs = [.int i] ∧ Q (.int i) H) ∨ ∃ k, xs = [.bl k] ∧ Q (.int (if k then 1 else 0)) H) := by
  intro pins s σ H xs us Q I r h
  rcases h with ⟨i, rfl, q⟩ | ⟨k, rfl, q⟩
  · obtain ⟨u, rfl, t, rfl⟩ := vals1 r
    exact call_int_int ⟨.int i, H, I, ⟨_, rfl⟩, q⟩
  · obtain ⟨u, rfl, r1⟩ := vals1 r
    cases r1
    exact call_int_bool ⟨.int (if k then 1 else 0), H, I.tok _, ⟨_, rfl⟩, q⟩
end
end L2

namespace L2
open PySem PySem.Spec PyProof.Rows

structure ObjM (h : Heap) (x dx C : Addr) (mA : Str → Option Value) : Prop where
  obj : h.get? x = some (PySem.W.instObj C dx)
  ns : h.Ns1 dx mA
  ne : dx ≠ x

theorem lookIn_ns {h : Heap} {dx : Addr} {mA : Str → Option Value} (n : h.Ns1 dx mA) : ∃ od, h.get? dx = some od ∧ ∀ name, PySem.W.lookIn name od = some (mA name) := by
  obtain ⟨o, es, ep, ho, hd, hk, _, hm⟩ := n
  refine ⟨o, ho, fun name => ?_⟩
  have e := hm name
  unfold nsFind findBy at e
  rw [← Array.find?_toList] at e
  unfold PySem.W.lookIn
  rw [hd]
  dsimp only
  split
  · rename_i y q
    rw [q] at e
    exact congrArg some e
  · rename_i q
    rw [q] at e
    have a : es.toList.any (·.refKey) = false := by
      rw [List.any_eq_false]
      intro y hy
      obtain ⟨z, t, hkey⟩ := hk y (Array.mem_toList_iff.mp hy)
      simp [DictEntry.refKey, hkey]
    have a' : ¬ es.toList.any (·.refKey) = true := by rw [a]; exact Bool.false_ne_true
    rw [if_neg a']
    exact congrArg some e

theorem ObjM.look {h : Heap} {x dx C : Addr} {mA : Str → Option Value} (I : ObjM h x dx C mA) : ∃ od, PySem.W.InstAt h x (PySem.W.instObj C dx) C (some od) ∧ ∀ name, PySem.W.lookIn name od = some (mA name) :=
  let ⟨od, ho, hl⟩ := lookIn_ns I.ns
  ⟨od, ⟨I.obj, rfl, rfl, ho⟩, hl⟩

section
variable {prog : Program} {w : World} {A : Around} {E : Value → Shared → Prop} {s : Shared} {K : PySem.W.Frag} {x dx C f : Addr} {mA : Str → Option Value} {name : Str} {v : Value}

end

section
variable {P : Program} {w : World} {H H' : Hp} {h h' : Heap} {a C dx : Addr} {fs fs' : List (Str × V)}
theorem ins_get (hok : HOk P w H h) (e : H a = some (.ins C dx fs)) : ∃ mA, ObjM h a dx C mA ∧ (∀ f, RelO (fs.lookup f) (mA f)) ∧ PySem.Within mA (fs.map (·.1)) ∧ fs.length ≤ 1000 ∧ H dx = some (.own a) := by
  obtain ⟨d, z, ne, ob, mA, n, r, q⟩ := (show ObjOk P w H h a (.ins C dx fs) from hok a _ e)
  exact ⟨mA, ⟨ob, n, ne⟩, r, q, z, d⟩
end

structure Cls (K : PySem.W.Frag) (C : Addr) : Prop where
  pg : PySem.W.plainGet K C Str.empty = true
  hd : PySem.W.hasDictIn K C = true
  po : PySem.W.plainOver K C = true
  sa : PySem.W.findIn K (.ref C) "__setattr__" = some (some (.builtin "object.__setattr__"))
theorem Cls.get {K : PySem.W.Frag} {C : Addr} (c : Cls K C) (f : Str) : PySem.W.plainGet K C f = true := c.pg
structure Con (K : PySem.W.Frag) (C : Addr) (f : Str) (v : V) (u : Value) : Prop where
  at_ : PySem.W.findIn K (.ref C) f = some (some u)
  rel : RelV v u
  get : PySem.W.specialIn K u "__get__" = some none
  cp : PySem.W.copiedNames.contains f = false
section
variable {X : Cx} {pins : List (Addr × Obj)} {σ : St} {H : Hp} {s : Shared} {a C dx : Addr} {fs : List (Str × V)} {f : Str} {v : V} {A : Around} {E : Value → Shared → Prop}

end

section
variable {X : Cx} {o e value : Expr} {f : Str} {pos pos' tpos : Pos} {ta tv : TE}
end

section
variable {X : Cx} {pins : List (Addr × Obj)} {σ : St} {H : Hp} {s : Shared} {A : Around} {E : Value → Shared → Prop} {Q : Value → Shared → Prop} {c : Value} {b : Bool}
inductive TyOf (K : PySem.W.Frag) (H : Hp) : V → Value → Prop where
  | non : TyOf K H .non (.type "NoneType")
  | bl (x : Bool) : TyOf K H (.bl x) (.type "bool")
  | int (i : Int) : TyOf K H (.int i) (.type "int")
  | str (x : Str) : TyOf K H (.str x) (.type "str")
  | flt (x : UInt64) : TyOf K H (.flt x) (.type "float")
  | lst {a : Addr} {xs : List V} (e : H a = some (.lst xs)) : TyOf K H (.ref a) (.type "list")
  | frz {a : Addr} {o : Obj} {xs : List V} (e : H a = some (.frz o (.lst xs))) : TyOf K H (.ref a) (.type "list")
  | tup {a : Addr} {xs : List V} (e : H a = some (.tup xs)) : TyOf K H (.ref a) (.type "tuple")
  | dK {a : Addr} {kvs : List (Key × V)} (e : H a = some (.dK kvs)) : TyOf K H (.ref a) (.type "dict")
  | dT {a : Addr} {kvs : List (List Key × V)} (e : H a = some (.dT kvs)) : TyOf K H (.ref a) (.type "dict")
  | ins {a C dx : Addr} {fs : List (Str × V)} (e : H a = some (.ins C dx fs)) (cl : Cls K C) (ha : PySem.W.findIn K (.ref C) "__class__" = some (some (.builtin "object.__class__")))
      (hn : PySem.W.specialIn K (.builtin "object.__class__") "__get__" = some (some (.builtin "getset_descriptor.__get__"))) (htk : PySem.W.takesIn K (.builtin "object.__class__") = some true)
      (hm : PySem.W.mroIn K C (.type "object") = some true) : TyOf K H (.ref a) (.ref C)
theorem isinst_ok {x : V} {u t : Value} (I : Inv X pins σ H s) (rx : RelV x u) (ty : TyOf X.K H x t) (e : PySem.W.kitOne X.K t c = some b) (h : ∀ tk, Q (.bool b) { s with toks := tk }) :
    wpAny (model X.prog X.w) A (call (.builtin "isinstance") [u, c]) Q E s := by
  cases ty with
  | non => cases (show u = Value.none from rx); exact PySem.W.kia_one PySem.W.kitx_none I.kIn True.intro e (fun z => by cases z) h
  | bl y => cases (show u = Value.bool y from rx); exact PySem.W.kia_one PySem.W.kitx_bool I.kIn True.intro e (fun z => by cases z) h
  | int i => obtain ⟨t, q⟩ := (show ∃ t, u = Value.int i t from rx); cases q; exact PySem.W.kia_one PySem.W.kitx_int I.kIn True.intro e (fun z => by cases z) h
  | str y => obtain ⟨t, q⟩ := (show ∃ t, u = Value.str y t from rx); cases q; exact PySem.W.kia_one PySem.W.kitx_str I.kIn True.intro e (fun z => by cases z) h
  | flt y => obtain ⟨t, q⟩ := (show ∃ t, u = Value.float y t from rx); cases q; exact PySem.W.kia_one PySem.W.kitx_float I.kIn True.intro e (fun z => by cases z) h
  | @lst a xs ea =>
    cases (show u = Value.ref a from rx)
    obtain ⟨_, _, n, _, h1⟩ := (show ObjOk X.prog X.w H s.heap a (.lst xs) from I.hok a _ ea)
    exact PySem.W.kia_one PySem.W.kitx_list I.kIn ⟨_, h1, rfl⟩ e (fun z => by cases z) h
  | @frz a ob xs ea =>
    cases (show u = Value.ref a from rx)
    obtain ⟨_, _, _, n, _, h1⟩ := (show ObjOk X.prog X.w H s.heap a (.frz ob (.lst xs)) from I.hok a _ ea)
    exact PySem.W.kia_one PySem.W.kitx_list I.kIn ⟨_, h1, rfl⟩ e (fun z => by cases z) h
  | @tup a xs ea =>
    cases (show u = Value.ref a from rx)
    obtain ⟨_, _, _, p⟩ := (show ObjOk X.prog X.w H s.heap a (.tup xs) from I.hok a _ ea)
    obtain ⟨o, h1, h2, _⟩ := p
    exact PySem.W.kia_one PySem.W.kitx_tuple I.kIn ⟨o, h1, h2⟩ e (fun z => by cases z) h
  | @dK a kvs ea =>
    cases (show u = Value.ref a from rx)
    obtain ⟨_, _, vs, _, p⟩ := (show ObjOk X.prog X.w H s.heap a (.dK kvs) from I.hok a _ ea)
    obtain ⟨o, es, ep, h1, h2, _⟩ := p
    exact PySem.W.kia_one PySem.W.kitx_dict I.kIn ⟨o, h1, h2.1⟩ e (fun z => by cases z) h
  | @dT a kvs ea =>
    cases (show u = Value.ref a from rx)
    obtain ⟨_, _, xs, _, o, es, ep, h1, h2, _⟩ := (show ObjOk X.prog X.w H s.heap a (.dT kvs) from I.hok a _ ea)
    exact PySem.W.kia_one PySem.W.kitx_dict I.kIn ⟨o, h1, h2.1⟩ e (fun z => by cases z) h
  | @ins a C dx fs ea cl ha hn htk hm =>
    cases (show u = Value.ref a from rx)
    obtain ⟨mA, O, _⟩ := ins_get I.hok ea
    obtain ⟨od, J, _⟩ := O.look
    exact PySem.W.kia_one (PySem.W.kitx_own (cl.get _) cl.hd ha hn htk hm) I.kIn J e (fun z => by cases z) h
end
end L2

namespace L2
open PySem PySem.Spec PyProof.Rows

structure Room (k : Nat) (A : Around) : Prop where
  hd : A.handled = none
  dp : A.depth + 3 * k + 5 < recursionLimit
  un : A.units + 16 * k + 200 < cLine
theorem Room.mono {j k : Nat} {A : Around} (r : Room k A) (h : j ≤ k) : Room j A := ⟨r.hd, by have := r.dp; omega, by have := r.un; omega⟩
theorem Room.deeper {k : Nat} {A : Around} (r : Room (k + 1) A) (env : Env) : Room k (A.deeper env) :=
  ⟨r.hd, by have := r.dp; show A.depth + 1 + 3 * k + 5 < _; omega, by have := r.un; show A.units + 3 + 16 * k + 200 < _; omega⟩
theorem Room.in1 {k : Nat} {A : Around} (r : Room (k + 1) A) : Room k A.in1 :=
  ⟨r.hd, by have := r.dp; show A.depth + 3 * k + 5 < _; omega, by have := r.un; show A.units + 1 + 16 * k + 200 < _; omega⟩
theorem Room.depth {k : Nat} {A : Around} (r : Room k A) : A.depth < recursionLimit := by have := r.dp; omega
noncomputable def tNil : TA := fun _ H Q => Q [] H
noncomputable def tCons (ta : TE) (tr : TA) : TA := fun σ H Q => ta σ H fun x H1 => tr σ H1 fun xs H2 => Q (x :: xs) H2
section
variable {X : Cx} {e : Expr} {es : List Expr} {te : TE} {t : TA} {pos : Pos}
theorem pa_nil : PA X [] tNil := fun _ _ _ _ H Q I h => Calls.spliced_nil ⟨[], H, I, .nil, h⟩
theorem pa_cons (ha : PE X e te) (hr : PA X es t) (hs : starEach (e :: es) X.env = (false, eval e X.env) :: starEach es X.env := by rfl) : PA X (e :: es) (tCons te t) := by
  intro pos pins s σ H Q I h
  rw [hs]
  show wpAny _ _ (spliced ((false, eval e X.env) :: backTo pos (starEach es X.env))) _ _ s
  refine Calls.spliced_cons (thn (ha pins s σ H _ I h) fun u s1 qZ => ?_)
  obtain ⟨x, H1, I1, r1, q1⟩ := qZ
  exact thn (hr pos pins s1 σ H1 _ I1 q1) fun us s2 ⟨xs, H2, I2, r2, q2⟩ => ⟨x :: xs, H2, I2, .cons r1 r2, q2⟩

noncomputable def tTup (t : TA) : TE := fun σ H Q => t σ H fun xs H1 => xs.length ≤ sizeLine ∧ ∀ p, H1 p = none → Q (.ref p) (upd H1 p (.tup xs))
noncomputable def tLst (t : TA) : TE := fun σ H Q => t σ H fun xs H1 => xs.length ≤ sizeLine ∧ ∀ p, H1 p = none → Q (.ref p) (upd H1 p (.lst xs))
theorem pe_tup {x1} (h : PA X es t) : PE X (.Tuple es x1 pos) (tTup t) := by
  intro pins s σ H Q I hq
  refine wpAny_Tuple_spliced (thn (h pos pins s σ H _ I hq) fun us s1 ⟨xs, H1, I1, r, z, q⟩ => ⟨by rw [← r.length]; exact z, ?_⟩)
  have hf : H1 s1.heap.objs.size = none := I1.hok.fresh (Nat.le_refl _)
  refine ⟨.ref s1.heap.objs.size, upd H1 s1.heap.objs.size (.tup xs), I1.laid (t' := s1.toks) (fun b u e => Heap.get?_push_of_some _ e) (Nat.le_refl _) ?_, rfl, q _ hf⟩
  exact ⟨z, us, r, ⟨_, Heap.get?_push_size _ rfl, rfl, _, rfl⟩⟩
theorem pe_lst (h : PA X es t) : PE X (.List es pos) (tLst t) := by
  intro pins s σ H Q I hq
  refine wpAny_List_spliced (thn (h pos pins s σ H _ I hq) fun us s1 ⟨xs, H1, I1, r, z, q⟩ => ⟨by rw [← r.length]; exact z, ?_⟩)
  have hf : H1 s1.heap.objs.size = none := I1.hok.fresh (Nat.le_refl _)
  refine ⟨.ref s1.heap.objs.size, upd H1 s1.heap.objs.size (.lst xs), I1.laid (t' := s1.toks) (fun b u e => Heap.get?_push_of_some _ e) (Nat.le_refl _) ?_, rfl, q _ hf⟩
  exact ⟨z, us, 0, r, Heap.get?_push_size _ rfl⟩
end

noncomputable abbrev Sp := List V → Hp → VK → XK → Prop
noncomputable abbrev CXT := List Env → Hp → Shared → XK → Value → Shared → Prop

structure Env0 (P : Program) (w : World) (K : PySem.W.Frag) (mg : Str → Option Value) (base : Heap) (A : Around) (outer : List Env) (s : Shared) (H : Hp) : Prop where
  frames : A.frames = some outer
  mod : Mod K mg base
  bs : ∀ b o, base.get? b = some o → s.heap.get? b = some o ∧ H b = none
  bsz : base.objs.size ≤ s.heap.objs.size
  funs : s.heap.FunFrames base outer
  frf : ∀ b ∈ frs outer, H b = none
  hok : HOk P w H s.heap
  bare : AllBare s.gens
noncomputable def CE (outer : List Env) (P : Program) (w : World) (H : Hp) (s : Shared) (Q : VK) (u : Value) (s' : Shared) : Prop :=
  ∃ v H', s'.os = s.os ∧ AllBare s'.gens ∧ Un (frs outer) [] H H' s.heap s'.heap ∧ HOk P w H' s'.heap ∧ RelV v u ∧ Q v H'
noncomputable def CR (CX : CXT) (outer : List Env) (P : Program) (w : World) (H : Hp) (s : Shared) (Q : VK) (E : XK) (r : Result) (s' : Shared) : Prop :=
  match r with
  | .ok (.ret u) => CE outer P w H s Q u s'
  | .ok _ => False
  | .error e => CX outer H s E e s'
structure FnOk (P : Program) (w : World) (K : PySem.W.Frag) (mg : Str → Option Value) (base : Heap) (CX : CXT) (k : Nat) (f : Addr) (fd : FuncData) (ps : List Str) (sp : Sp) : Prop where
  len : ∀ vs H Q E, sp vs H Q E → vs.length = ps.length
  run : ∀ (A : Around) (outer : List Env) (s : Shared) (H : Hp) (args : Args) (us : List Value) (vs : List V) (Q : VK) (E : XK), Room k A → Env0 P w K mg base A outer s H → BindsTo s fd args (ps.zip us) → Vals vs us → sp vs H Q E →
    codeAny (model P w) A (.call (.ref f) args) (CR CX outer P w H s Q E) s
theorem Env0.in1 {P : Program} {w : World} {K : PySem.W.Frag} {mg : Str → Option Value} {base : Heap} {A : Around} {outer : List Env} {s : Shared} {H : Hp} (e : Env0 P w K mg base A outer s H) :
    Env0 P w K mg base A.in1 outer s H := ⟨e.frames, e.mod, e.bs, e.bsz, e.funs, e.frf, e.hok, e.bare⟩

section
variable {X : Cx} {pins : List (Addr × Obj)} {σ : St} {H : Hp} {s s' : Shared}
theorem Inv.env0 (I : Inv X pins σ H s) : Env0 X.prog X.w X.K X.mg X.base X.A X.stack s H :=
  ⟨I.ok.frames, I.ok.mod, I.bs, Nat.le_trans I.ok.bsz I.sz, I.stack, I.stkFree, I.hok, I.bare⟩
theorem Inv.after {Q : VK} {u : Value} (I : Inv X pins σ H s) (h : CE X.stack X.prog X.w H s Q u s') : EP X pins σ Q u s' := by
  obtain ⟨v, H', os, bare, un, hok, r, q⟩ := h
  obtain ⟨hh, g, d, t, os'⟩ := s'
  obtain rfl : os' = s.os := os
  exact ⟨v, H', I.call (h' := hh) (g' := g) (d' := d) (t' := t) (ch := []) un hok bare (fun b z => absurd z (by simp)), r, q⟩
end

noncomputable def tCall (sp : Sp) (dvs : List V) (E : XK) (t : TA) : TE := fun σ H Q => t σ H fun vs H1 => sp (vs ++ dvs) H1 Q E
noncomputable def Binds (K : PySem.W.Frag) (fd : FuncData) (ps : List Str) (ds : List Value) : Prop :=
  ∀ (s : Shared) (us : List Value), K.In s.heap → (us ++ ds).length = ps.length → BindsTo s fd ⟨us, []⟩ (ps.zip (us ++ ds))
theorem Binds.all {K : PySem.W.Frag} {fd : FuncData} {ps : List Str} (h : ∀ us : List Value, us.length = ps.length → bindArgs fd ⟨us, []⟩ = pure (ps.zip us)) : Binds K fd ps [] := fun s us _ hl => by
  rw [List.append_nil] at hl ⊢
  exact .of_eq (h us hl)

noncomputable def Passes (CX : CXT) (X : Cx) (E : XK) : Prop := ∀ (pins : List (Addr × Obj)) (σ : St) (H : Hp) (s : Shared) (e : Value) (s' : Shared), Inv X pins σ H s → CX X.stack H s E e s' → X.xe e s'

section
variable {X : Cx} {CX : CXT} {k : Nat} {f C : Addr} {fd : FuncData} {ps : List Str} {sp : Sp} {dvs : List V} {ds : List Value} {E : XK} {x m : Str} {p pos apos : Pos} {e o : Expr} {es : List Expr} {ta : TE} {t : TA}

theorem run_fn {pins : List (Addr × Obj)} {σ : St} {H : Hp} {s : Shared} {Q : VK} {us : List Value} {vs : List V} (F : FnOk X.prog X.w X.K X.mg X.base CX k f fd ps sp) (hr : Room k X.A) (hb : Binds X.K fd ps ds) (hd : Vals dvs ds) (hx : Passes CX X E)
    (I : Inv X pins σ H s) (r : Vals vs us) (h : sp (vs ++ dvs) H Q E) : wpAny (model X.prog X.w) X.A (call (.ref f) us) (EP X pins σ Q) X.xe s := by
  have r2 : Vals (vs ++ dvs) (us ++ ds) := r.append hd
  have hl : (us ++ ds).length = ps.length := by rw [← r2.length]; exact F.len _ _ _ _ h
  refine wpAny_call (codeAny_mono (F.run X.A X.stack s H ⟨us, []⟩ (us ++ ds) (vs ++ dvs) Q E hr I.env0 (hb s us I.kIn hl) r2 h) fun r s' hq => ?_)
  cases r with
  | error e => exact hx pins σ H s e s' I hq
  | ok fl =>
    cases fl with
    | ret u => exact I.after hq
    | next => exact False.elim hq
    | brk => exact False.elim hq
    | cont => exact False.elim hq

theorem pe_call (F : FnOk X.prog X.w X.K X.mg X.base CX k f fd ps sp) (hr : Room k X.A) (hg : Gl X x) (hm : X.mg x = some (.ref f)) (hk : PySem.W.keepIn X.K (.ref f) = true) (hb : Binds X.K fd ps ds) (hd : Vals dvs ds) (hx : Passes CX X E)
    (ha : PA X (e :: es) t) (hdb : (x == ("__debug__" : Str)) = false := by decide) (he : starEach (e :: es) X.env = (false, eval e X.env) :: starEach es X.env := by rfl) (hpl : (backTo pos (starEach es X.env)).any (·.1) = false := by rfl) :
    PE X (.Call (.Name x p) (e :: es) [] pos) (tCall sp dvs E t) := by
  intro pins s σ H Q I h
  refine wpAny_Call_Name_kw (ld_glob I hg hm ?_ hdb)
  refine PySem.W.callWith_K (h₀ := X.base) I.ok.mod.kin hk (thn (ha pos pins s σ H _ I h) fun us s1 ⟨vs, H1, I1, r, q⟩ => ⟨I1.kIn, ?_⟩) he hpl
  exact run_fn F hr hb hd hx I1 r q
end

noncomputable def PK (X : Cx) (kws : List Keyword) (t : TA) : Prop :=
  ∀ (pos : Pos) (pins : List (Addr × Obj)) (s : Shared) (σ : St) (H : Hp) (Q : List V → Hp → Prop), Inv X pins σ H s → t σ H Q → wpAny (model X.prog X.w) X.A (evalAll ((backToKw pos (keywordEach kws X.env)).map (·.2))) (AP X pins σ Q) X.xe s
section
variable {X : Cx} {CX : CXT} {k : Nat} {f C : Addr} {fd : FuncData} {ps ks : List Str} {sp : Sp} {E : XK} {x m : Str} {p pos apos kpos : Pos} {e o : Expr} {es : List Expr} {kws : List Keyword} {te ta : TE} {t tk : TA} {nm : Option Str}
theorem pk_nil : PK X [] tNil := fun _ _ _ _ H Q I h => wpAny_evalAll_nil ⟨[], H, I, .nil, h⟩
theorem pk_cons (ha : PE X e te) (hr : PK X kws t) : PK X (⟨nm, e, kpos⟩ :: kws) (tCons te t) := by
  intro pos pins s σ H Q I h
  show wpAny _ _ (evalAll ((do let v ← eval e X.env; standAt pos; pure v) :: (backToKw pos (keywordEach kws X.env)).map (·.2))) _ _ s
  refine wpAny_evalAll_cons (wpAny_bind (thn (ha pins s σ H _ I h) fun u s1 ⟨x, H1, I1, r1, q1⟩ => wpAny_bind (wpAny_standAt (wpAny_pure ?_))))
  exact thn (hr pos pins s1 σ H1 _ I1 q1) fun us s2 ⟨xs, H2, I2, r2, q2⟩ => ⟨x :: xs, H2, I2, .cons r1 r2, q2⟩

variable {g : List Value → List Value → List Value} {gV : List V → List V → List V}
end

structure FnScope (N P : List Str) (sc : Scope) : Prop where
  kind : sc.kind = .function
  co : sc.isCoroutine = false
  gen : sc.isGenerator = false
  nd : N.Nodup
  pre : N.take P.length = P
  par : ∀ x ∈ P, sc.names.lookup x = some .local ∨ sc.names.lookup x = some .cell
  nofree : ∀ y ∈ sc.names, y.2 ≠ .free

theorem bindL_out {kindOf : Str → Option NameKind} {x : Str} : ∀ {binds : List (Str × Value)} {m : Str → Option Value}, (∀ v, (x, v) ∉ binds) → bindL kindOf binds m x = m x
  | [], _, _ => rfl
  | (n, v) :: r, m, h => by
    unfold bindL
    rw [bindL_out fun w hw => h w (List.mem_cons_of_mem _ hw)]
    split
    · have : x ≠ n := by rintro rfl; exact h v List.mem_cons_self
      simp [this]
    · rfl
theorem bindC_out {kindOf : Str → Option NameKind} {x : Str} : ∀ {binds : List (Str × Value)} {m : Str → Option Value}, (∀ v, (x, v) ∉ binds) → bindC kindOf binds m x = m x
  | [], _, _ => rfl
  | (n, v) :: r, m, h => by
    unfold bindC
    rw [bindC_out fun w hw => h w (List.mem_cons_of_mem _ hw)]
    split
    · rfl
    · have : x ≠ n := by rintro rfl; exact h v List.mem_cons_self
      simp [this]
theorem bindL_get {kindOf : Str → Option NameKind} {x : Str} {v : Value} : ∀ {P : List Str} {vs : List Value} {i : Nat} {m : Str → Option Value}, P.Nodup → P[i]? = some x → vs[i]? = some v → kindOf x = some .local →
    bindL kindOf (P.zip vs) m x = some v
  | [], _, _, _, _, h, _, _ => by simp at h
  | _ :: _, [], _, _, _, _, h, _ => by simp at h
  | p :: P, w :: vs, 0, m, nd, h1, h2, hk => by
    simp at h1 h2; subst h1; subst h2
    show bindL kindOf ((p, w) :: P.zip vs) m p = _
    unfold bindL
    rw [bindL_out fun v hv => (List.nodup_cons.mp nd).1 (List.of_mem_zip hv).1, if_pos hk]
    simp
  | p :: P, w :: vs, i + 1, m, nd, h1, h2, hk => by
    show bindL kindOf ((p, w) :: P.zip vs) m x = _
    unfold bindL
    exact bindL_get (i := i) (List.nodup_cons.mp nd).2 (by simpa using h1) (by simpa using h2) hk
theorem bindC_get {kindOf : Str → Option NameKind} {x : Str} {v : Value} : ∀ {P : List Str} {vs : List Value} {i : Nat} {m : Str → Option Value}, P.Nodup → P[i]? = some x → vs[i]? = some v → kindOf x ≠ some .local →
    bindC kindOf (P.zip vs) m x = some v
  | [], _, _, _, _, h, _, _ => by simp at h
  | _ :: _, [], _, _, _, _, h, _ => by simp at h
  | p :: P, w :: vs, 0, m, nd, h1, h2, hk => by
    simp at h1 h2; subst h1; subst h2
    show bindC kindOf ((p, w) :: P.zip vs) m p = _
    unfold bindC
    rw [bindC_out fun v hv => (List.nodup_cons.mp nd).1 (List.of_mem_zip hv).1, if_neg hk]
    simp
  | p :: P, w :: vs, i + 1, m, nd, h1, h2, hk => by
    show bindC kindOf ((p, w) :: P.zip vs) m x = _
    unfold bindC
    exact bindC_get (i := i) (List.nodup_cons.mp nd).2 (by simpa using h1) (by simpa using h2) hk

noncomputable def start (N : List Str) (vs : List V) : St := vs.map some ++ List.replicate (N.length - vs.length) none

noncomputable def cxOf (CX : CXT) (P : Program) (w : World) (K : PySem.W.Frag) (mg : Str → Option Value) (base : Heap) (N : List Str) (qual : Str) (scope : Scope) (f : Addr) (cd : Value) (A : Around) (outer : List Env) (s : Shared) (H : Hp) (E : XK) : Cx where
  prog := P
  w := w
  K := K
  mg := mg
  base := base
  A := A.deeper (envOfC qual scope s.heap.objs.size f cd)
  N := N
  s₀ := s
  H₀ := H
  env := envOfC qual scope s.heap.objs.size f cd
  outer := outer
  stack := envOfC qual scope s.heap.objs.size f cd :: outer
  ex := []
  calm := true
  fn := fun _ => true
  pn := []
  xe := fun e s' => wpAny (model P w) (A.deeper (envOfC qual scope s.heap.objs.size f cd)) (leaving (envOfC qual scope s.heap.objs.size f cd) e) (fun _ s'' => CX outer H s E e s'') (fun e' s'' => CX outer H s E e' s'') s'

theorem cell_has {sc : Scope} {n : Nat} {x : Str} (h : sc.names.lookup x = some .cell) : ∃ c, (cellsFrom n sc.names []).lookup x = some c := by
  have q := PySem.W.cellsFrom_some sc.names n [] (.inl h)
  exact Option.isSome_iff_exists.mp q

theorem inv_start {CX : CXT} {P : Program} {w : World} {K : PySem.W.Frag} {mg : Str → Option Value} {base : Heap} {N ps : List Str} {qual : Str} {scope : Scope} {f : Addr} {cd : Value} {A : Around} {outer : List Env} {s s1 : Shared} {H : Hp} {E : XK} {us : List Value} {vs : List V}
    (S : FnScope N ps scope) (hd : A.handled = none) (e0 : Env0 P w K mg base A outer s H) (hl : vs.length = ps.length) (r : Vals vs us)
    (x : InCallC s s.heap.objs.size (bindL (envOfC qual scope s.heap.objs.size f cd).kindOf (ps.zip us) fun _ => none) (cellsFrom (s.heap.objs.size + 1) scope.names []) (bindC (envOfC qual scope s.heap.objs.size f cd).kindOf (ps.zip us) fun _ => none) s1) :
    Inv (cxOf CX P w K mg base N qual scope f cd A outer s H E) [] (start N vs) H s1 := by
  have hpl : ps.length ≤ N.length := by have := congrArg List.length S.pre; rw [List.length_take] at this; omega
  obtain ⟨h1, tk, rfl, hk⟩ := x.done
  have noA : ∀ b : Addr, b ∉ (cxOf CX P w K mg base N qual scope f cd A outer s H E).ex := fun b z => absurd (show b ∈ ([] : List Addr) from z) (by simp)
  refine ⟨⟨e0.mod, S.kind, rfl, rfl, Nat.le_refl _, fun y z c h1 h2 => ?_, fun y hy => ?_, fun y c _ h => ?_, fun _ => hd, Around.frames_deeper e0.frames, .inr ⟨rfl, rfl⟩, fun b z => absurd z (noA b), e0.bs, e0.bsz, fun b _ _ => noA b, fun b z => absurd z (noA b), e0.funs, e0.frf⟩,
    rfl, e0.bare, Un.kept hk, ⟨_, x.toInCall.ns, fun i y v h1 h2 h3 => ?_⟩, fun y c h => ⟨_, x.cell y c h⟩, e0.hok.fresh (Nat.le_refl _), fun y c h => ?_, fun p hp => absurd (show p ∈ ([] : List (Addr × Obj)) from hp) (by simp), e0.hok.kept hk, ?_⟩
  · exact name_of_addr x.apart (PySem.mem_of_lookup h1) (PySem.mem_of_lookup h2)
  · have hy : scope.names.lookup y = some .cell ∨ scope.names.lookup y = some .free := hy
    rcases hy with hy | hy
    · exact cell_has hy
    · exact absurd rfl (S.nofree _ (PySem.mem_of_lookup hy))
  · exact Nat.le_of_lt (x.above y c (PySem.mem_of_lookup h))
  · have hi : i < vs.length := by
      unfold start at h2
      by_cases hi : i < vs.length
      · exact hi
      · rw [List.getElem?_append_right (by simpa using hi)] at h2
        rw [List.getElem?_replicate] at h2
        split at h2 <;> cases h2
    have ha : vs[i]? = some v := by
      unfold start at h2
      rw [List.getElem?_append_left (by simpa using hi), List.getElem?_map] at h2
      cases e : vs[i]? with
      | none => rw [e] at h2; cases h2
      | some a => rw [e] at h2; cases h2; rfl
    obtain ⟨u, hu, rv⟩ := r.get ha
    have hp : ps[i]? = some y := by
      rw [← S.pre, List.getElem?_take_of_lt (by omega)]; exact h1
    have ndP : ps.Nodup := by rw [← S.pre]; exact S.nd.sublist (List.take_sublist _ _)
    refine ⟨u, rv, ?_⟩
    rcases S.par y (List.mem_of_getElem? hp) with k | k
    · exact .inl ⟨k, bindL_get ndP hp hu k⟩
    · obtain ⟨c, e⟩ := cell_has (n := s.heap.objs.size + 1) k
      refine .inr ⟨.inl k, c, e, ?_⟩
      have q := x.cell y c e
      rw [bindC_get ndP hp hu (by show scope.names.lookup y ≠ _; rw [k]; decide)] at q
      exact q
  · exact e0.hok.fresh (Nat.le_of_lt (x.above y c (PySem.mem_of_lookup h)))
  · unfold start
    show _ = N.length
    rw [List.length_append, List.length_map, List.length_replicate]
    omega

theorem fn_of {CX : CXT} {P : Program} {w : World} {K : PySem.W.Frag} {mg : Str → Option Value} {base : Heap} {k : Nat} {f : Addr} {name qual : Str} {params : Arguments} {body : List Stmt} {scope : Scope} {dV kV doc pm cdv ct oc : Value} {an od : Option Addr}
    {osl : Array (Option Value)} {N ps : List Str} {sp : Sp} (lk : K.lookup f = some ⟨oc, od, .func (PySem.W.fnOf name qual params body scope dV kV doc pm an cdv ct), osl⟩) (hcd : PySem.W.codeIn K cdv qual = true) (S : FnScope N ps scope)
    (len : ∀ vs H Q E, sp vs H Q E → vs.length = ps.length)
    (hbody : ∀ (A : Around) (outer : List Env) (s : Shared) (H : Hp) (vs : List V) (Q : VK) (E : XK), Room k (A.deeper (envOfC qual scope s.heap.objs.size f cdv)) → sp vs H Q E →
      ∃ t, PSs (cxOf CX P w K mg base N qual scope f cdv A outer s H E) body t ∧ t { nx := fun _ H' => Q .non H', rt := Q } (start N vs) H) :
    FnOk P w K mg base CX (k + 1) f (PySem.W.fnOf name qual params body scope dV kV doc pm an cdv ct) ps sp := by
  refine ⟨len, fun A outer s H args us vs Q E hr e0 hb r hsp => ?_⟩
  have hl := len _ _ _ _ hsp
  have KX : K.In s.heap := e0.mod.kin.keeps fun b o e => (e0.bs b o e).1
  have lim : s.heap.NoLimit := e0.mod.nolimit.keeps fun b o e => (e0.bs b o e).1
  have hkind : ∀ y ∈ ps.zip us, scope.names.lookup y.1 = some .local ∨ (scope.names.lookup y.1 = some .cell ∧ ((cellsFrom (s.heap.objs.size + 1) scope.names []).lookup y.1).isSome = true) := fun ⟨n, v⟩ hy => by
    rcases S.par n (List.of_mem_zip hy).1 with q | q
    · exact .inl q
    · exact .inr ⟨q, PySem.W.cellsFrom_some _ _ _ (.inl q)⟩
  refine codeAny_call_function hr.depth (KX _ _ lk) rfl S.co S.gen rfl (PySem.W.codeRec_of KX hcd) (hb _ _ _ _ ?_)
  refine wpAny_newFunctionEnv_cells S.kind hkind fun env he s1 x => ?_
  subst he
  refine ⟨lim.keeps x.toInCall.keep, codeAny_func ?_⟩
  obtain ⟨t, ht, hq⟩ := hbody A outer s H vs Q E (hr.deeper _) hsp
  have I : Inv (cxOf CX P w K mg base N qual scope f cdv A outer s H E) [] (start N vs) H s1 := inv_start S hr.hd e0 hl r x
  refine wpAny_mono (ht [] s1 (start N vs) H _ I hq) (fun fl s' hs => ?_) fun e s' hs => hs
  have fin : ∀ {σ' : St} {H' : Hp} {v : V} {u : Value}, Inv (cxOf CX P w K mg base N qual scope f cdv A outer s H E) [] σ' H' s' → RelV v u → Q v H' → CE outer P w H s Q u s' :=
    fun {σ' H' v u} J rv q => ⟨v, H', J.os, J.bare, J.base, J.hok, rv, q⟩
  cases fl with
  | ret u =>
    obtain ⟨v, σ', H', J, rv, q⟩ := hs
    exact fin J rv q
  | next =>
    obtain ⟨σ', H', J, q⟩ := hs
    exact fin (v := V.non) (u := Value.none) J rfl q
  | brk =>
    obtain ⟨_, _, _, q⟩ := hs
    exact False.elim q
  | cont =>
    obtain ⟨_, _, _, q⟩ := hs
    exact False.elim q
end L2

namespace L2
open PySem PySem.Spec PyProof.Rows
section
variable {X : Cx} {x : Str} {p pos : Pos} {e : Expr} {es : List Expr} {t : TA} {id T : String} {r : List V → Hp → VK → Prop}

noncomputable def tCB (r : List V → Hp → VK → Prop) (t : TA) : TE := fun σ H Q => t σ H fun vs H1 => r vs H1 Q
theorem pe_callB (hc : CallR X (.builtin id) r) (hg : Gl X x) (hm : X.mg x = none) (hv : bootBuiltins x = some (.builtin id)) (ha : PA X (e :: es) t) (hn : x ≠ "__name__" := by decide) (hdb : (x == ("__debug__" : Str)) = false := by decide)
    (he : starEach (e :: es) X.env = (false, eval e X.env) :: starEach es X.env := by rfl) (hpl : (backTo pos (starEach es X.env)).any (·.1) = false := by rfl) : PE X (.Call (.Name x p) (e :: es) [] pos) (tCB r t) := by
  intro pins s σ H Q I h
  refine wpAny_Call_Name_kw (ld_blt I hg hm hv ?_ hn hdb)
  exact PyProof.Rows.callWith_builtin1 (thn (ha pos pins s σ H _ I h) fun us s1 ⟨vs, H1, I1, r1, q1⟩ => hc pins s1 σ H1 vs us Q I1 r1 q1) he hpl
theorem pe_callTy (hc : CallR X (.type T) r) (hg : Gl X x) (hm : X.mg x = none) (hv : bootBuiltins x = some (.type T)) (ha : PA X (e :: es) t) (hn : x ≠ "__name__" := by decide) (hdb : (x == ("__debug__" : Str)) = false := by decide)
    (he : starEach (e :: es) X.env = (false, eval e X.env) :: starEach es X.env := by rfl) (hpl : (backTo pos (starEach es X.env)).any (·.1) = false := by rfl) : PE X (.Call (.Name x p) (e :: es) [] pos) (tCB r t) := by
  intro pins s σ H Q I h
  refine wpAny_Call_Name_kw (ld_blt I hg hm hv ?_ hn hdb)
  exact PyProof.Rows.callWith_type1 (thn (ha pos pins s σ H _ I h) fun us s1 ⟨vs, H1, I1, r1, q1⟩ => hc pins s1 σ H1 vs us Q I1 r1 q1) he hpl
end
end L2

namespace HT
open PySem PyProof.Rows

noncomputable def lexLt : List Int → List Int → Bool
  | [], [] => false
  | [], _ :: _ => true
  | _ :: _, [] => false
  | x :: xs, y :: ys => if x = y then lexLt xs ys else decide (x < y)
theorem lexLt_cons (x y : Int) (xs ys : List Int) : lexLt (x :: xs) (y :: ys) = if x = y then lexLt xs ys else decide (x < y) := rfl
theorem lexLt_nil_nil : lexLt [] [] = false := rfl
theorem lexLt_nil_cons (y : Int) (ys : List Int) : lexLt [] (y :: ys) = true := rfl
theorem lexLt_cons_nil (x : Int) (xs : List Int) : lexLt (x :: xs) [] = false := rfl

theorem eqAt_int (A : Around) (s : Shared) (a : Int) (t : Tok) (c : Int) (u : Tok) : ∃ e, SeqAt.EqAt A s (.int a t) (.int c u) e ∧ (e = true ↔ a = c) :=
  ⟨(a == c), SeqAt.EqAt.int_int a t c u, by simp⟩
theorem rcLt_int (A : Around) (s : Shared) (a : Int) (t : Tok) (c : Int) (u : Tok) (prog : Program) (w : World) (E : Value → Shared → Prop) (Q : Value → Shared → Prop) (h : Q (.bool (decide (a < c))) s) :
    wpAny (model prog w) A (richCompare .Lt (.int a t) (.int c u)) Q E s :=
  (PyProof.Rows.lt_int h : wpAny (model prog w) A (compareOp .Lt (.int a t) (.int c u)) Q E s)

section
open PySem.SeqAt
open PySem.AutoSeq1 (wpAny_loadPart')
open PySem.MeetsSeq PySem.MeetsSeq2 PySem.MeetsSeq3

theorem tuple_lt_ints (l b : Addr) (items items2 : Array Value) (n n2 : Nat) (dd dd2 : Option Addr) (sl sl2 : Array (Option Value)) (ns ms : List Int) (hi : IntsAre items.toList ns) (hj : IntsAre items2.toList ms) :
    Meets (Builtin.«tuple.__lt__» ⟨[.ref l, .ref b], []⟩)
      (fun _ R s => s.heap.get? l = some { cls := .type "tuple", dict := dd, data := .seq items n, slots := sl } ∧ s.heap.get? b = some { cls := .type "tuple", dict := dd2, data := .seq items2 n2, slots := sl2 } ∧
        R (.ok (.ret (.bool (lexLt ns ms)))) s) :=
  .of_wp fun prog w A R s h => by
    obtain ⟨hp, g, d, tk, os⟩ := s; obtain ⟨hl, hb, h⟩ := h
    have f2 := AutoSeq1.sub_tuple_tuple
    have z1 : items.size = ns.length := by rw [← hi.length]; simp
    have z2 : items2.size = ms.length := by rw [← hj.length]; simp
    wp_walk using wpAny_loadPart' hl, wpAny_loadPart' hb, wpAny_forIn_list _ (fun rest b s' => b.1 = none ∧ s' = ⟨hp, g, d, tk, os⟩ ∧ ∃ (vs ws : List Value) (ns' ms' : List Int), rest = vs.zip ws ∧
      IntsAre vs ns' ∧ IntsAre ws ms' ∧ ns'.length + items2.size = ms'.length + items.size ∧ R (.ok (.ret (.bool (lexLt ns' ms')))) ⟨hp, g, d, tk, os⟩) _
    case turn =>
      rintro ⟨y, x⟩ rest b s' ⟨hb', rfl, vs, ws, ns', ms', hz, hvi, hwi, hlen, hR⟩
      cases hvi with
      | nil => rw [List.zip_nil_left] at hz; cases hz
      | cons a t hvi' =>
        cases hwi with
        | nil => rw [List.zip_nil_right] at hz; cases hz
        | cons c u hwi' =>
          rw [List.zip_cons_cons] at hz
          injection hz with hyx hrest
          injection hyx with hy hx
          subst hy hx
          rw [lexLt_cons] at hR
          simp only [List.length_cons] at hlen
          obtain ⟨e, he, hiff⟩ := eqAt_int A.in1 ⟨hp, g, d, tk, os⟩ a t c u
          refine wpAny_bind (he prog w _ _ ?_)
          cases e with
          | true =>
            rw [if_pos (hiff.mp rfl)] at hR
            wp_walk
            exact ⟨rfl, rfl, _, _, _, _, hrest, hvi', hwi', by omega, hR⟩
          | false =>
            rw [if_neg (fun q => absurd (hiff.mpr q) Bool.false_ne_true)] at hR
            have hri := rcLt_int A.in1 ⟨hp, g, d, tk, os⟩ a t c u prog w
            wp_walk using hri
            exact ⟨_, rfl, by simpa using hR⟩
    case fin =>
      rintro ⟨b1, b2⟩ s' ⟨hb', rfl, vs, ws, ns', ms', hz, hvi, hwi, hlen, hR⟩
      simp only at hb'
      subst hb'
      have hv : lexLt ns' ms' = decide (items.size < items2.size) := by
        cases hvi with
        | nil =>
          cases hwi with
          | nil =>
            simp only [List.length_nil] at hlen
            rw [lexLt_nil_nil]
            exact (decide_eq_false (by omega)).symm
          | cons c u hw =>
            simp only [List.length_nil, List.length_cons] at hlen
            rw [lexLt_nil_cons]
            exact (decide_eq_true (by omega)).symm
        | cons a t hv =>
          cases hwi with
          | nil =>
            simp only [List.length_nil, List.length_cons] at hlen
            rw [lexLt_cons_nil]
            exact (decide_eq_false (by omega)).symm
          | cons c u hw =>
            rw [List.zip_cons_cons] at hz
            cases hz
      rw [hv] at hR
      wp_walk
      exact ⟨_, rfl, by simpa [Builtin.Tuple.tupleCompareSizes] using hR⟩
    case h =>
      exact ⟨rfl, rfl, items.toList, items2.toList, ns, ms, rfl, hi, hj, by omega, h⟩
end

section
variable {prog : Program} {w : World} {A : Around} {E : Value → Shared → Prop} {s : Shared}

theorem lt_tupInts {l b : Addr} {items items2 : Array Value} {ns ms : List Int} {Q : Value → Shared → Prop} (hl : IsTup s.heap l items) (hb : IsTup s.heap b items2) (hi : IntsAre items.toList ns) (hj : IntsAre items2.toList ms)
    (hu : A.units < cLine) (h : Q (.bool (lexLt ns ms)) s) : wpAny (model prog w) A (compareOp .Lt (.ref l) (.ref b)) Q E s := by
  obtain ⟨⟨cls, dd, data, sl⟩, ho, hc, n, hd⟩ := id hl
  obtain ⟨⟨cls2, dd2, data2, sl2⟩, ho2, hc2, n2, hd2⟩ := id hb
  simp only at hc hd hc2 hd2
  subst hc hd hc2 hd2
  exact richCompare_meets_room (op := .Lt) ⟨_, ho, rfl⟩ ⟨_, ho2, rfl⟩ PySem.F.slot_tuple_lt PySem.F.entry_tuple_lt (PySem.F.args_tuple_lt_2 _ _) (tuple_lt_ints l b items items2 n n2 dd dd2 sl sl2 ns ms hi hj)
    ⟨ho, ho2, show Value.bool (lexLt ns ms) ≠ Value.notImplemented ∧ Q (.bool (lexLt ns ms)) s from ⟨(fun x => by cases x), h⟩⟩ hu

theorem cat_tup {t b : Addr} {vs ws : List Value} {Q : Value → Shared → Prop} (ht : IsTup s.heap t vs.toArray) (hb : IsTup s.heap b ws.toArray) (hv : vs ≠ [])
    (h1 : ws = [] → Q (.ref t) s) (h2 : ws ≠ [] → Q (.ref s.heap.objs.size) { s with heap := s.heap.push { cls := .type "tuple", data := .seq (vs ++ ws).toArray } })
    (hsz : vs.length + ws.length ≤ sizeLine) : wpAny (model prog w) A (binaryOp .Add (.ref t) (.ref b)) Q E s := by
  obtain ⟨⟨cls, dd, data, sl⟩, ho, hc, n, hd⟩ := id ht
  obtain ⟨⟨cls2, dd2, data2, sl2⟩, ho2, hc2, n2, hd2⟩ := id hb
  simp only at hc hd hc2 hd2
  subst hc hd hc2 hd2
  have e : vs.toArray ++ ws.toArray = (vs ++ ws).toArray := by simp
  by_cases hw : ws = []
  · exact concat_meets ⟨_, ho, rfl⟩ ⟨_, ho2, rfl⟩ noFill_tuple_add seq_tuple_add PySem.F.slot_tuple_add PySem.F.entry_tuple_add (PySem.F.args_tuple_add_2 _ _)
      (tuple_addW1 t b vs.toArray ws.toArray n n2 dd dd2 sl sl2 (by simpa using hv) (by simp [hw])) ⟨ho, ho2, h1 hw⟩
  · refine concat_meets ⟨_, ho, rfl⟩ ⟨_, ho2, rfl⟩ noFill_tuple_add seq_tuple_add PySem.F.slot_tuple_add PySem.F.entry_tuple_add (PySem.F.args_tuple_add_2 _ _)
      (tuple_addW2 t b vs.toArray ws.toArray n n2 dd dd2 sl sl2 (by simpa using hv) (by simpa using hw) (by rw [List.size_toArray, List.size_toArray]; exact hsz)) ⟨ho, ho2, ?_⟩
    rw [e]
    exact h2 hw

noncomputable def sIx (n d : Nat) : Option Int → Nat
  | none => d
  | some v => if v < 0 then (v + (n : Int)).toNat else min v.toNat n
end
end HT

namespace L2
open PySem PySem.Spec PyProof.Rows

noncomputable abbrev TO := St → Hp → (Option Int → Hp → Prop) → Prop
noncomputable def PO (X : Cx) (e : Option Expr) (t : TO) : Prop :=
  ∀ (pins : List (Addr × Obj)) (s : Shared) (σ : St) (H : Hp) (Q : Option Int → Hp → Prop), Inv X pins σ H s → t σ H Q →
    wpAny (model X.prog X.w) X.A (evalPart e X.env) (fun u s' => ∃ o H', Inv X pins σ H' s' ∧ IsPart u o ∧ Q o H') X.xe s
noncomputable def tNoPart : TO := fun _ H Q => Q none H
noncomputable def tPart (t : TE) : TO := fun σ H Q => t σ H fun x H1 => ∃ i, x = .int i ∧ Q (some i) H1

theorem intsAre_of {ns : List Int} : ∀ {us : List Value}, Vals (ns.map V.int) us → IntsAre us ns := by
  induction ns with
  | nil => intro us r; rw [List.map_nil] at r; cases r; exact .nil
  | cons n ns ih =>
    intro us r
    rw [List.map_cons] at r
    cases r with
    | cons r1 r2 =>
      obtain ⟨t, e⟩ := r1
      subst e
      exact .cons n t (ih r2)

section
variable {X : Cx} {e : Expr} {te : TE} {lo hi : Option Expr} {tl th : TO} {pos p2 : Pos}

theorem po_none : PO X none tNoPart := by
  intro pins s σ H Q I h
  rw [evalPart_none]
  exact wpAny_pure ⟨none, H, I, .none, h⟩
theorem po_some (h : PE X e te) : PO X (some e) (tPart te) := by
  intro pins s σ H Q I hw
  rw [evalPart_some]
  refine thn (h pins s σ H _ I hw) fun u s1 qZ => ?_
  obtain ⟨x, H1, I1, r1, q1⟩ := qZ
  obtain ⟨i, rfl, q⟩ := q1
  obtain ⟨t, rfl⟩ := r1
  exact ⟨some i, H1, I1, .int i t, q⟩

noncomputable def SlR (X : Cx) (r : V → Option Int → Option Int → Hp → VK → Prop) : Prop :=
  ∀ (pins : List (Addr × Obj)) (s : Shared) (σ : St) (H : Hp) (x : V) (v vl vu : Value) (lo hi : Option Int) (sl : Addr) (Q : VK), Inv X pins σ H s → RelV x v → s.heap.IsSliceOf sl vl vu .none → IsPart vl lo → IsPart vu hi → r x lo hi H Q →
    ∃ T id, typeLookup (.type T) "__getitem__" = pure (some (.builtin id)) ∧ s.TypeIs v T ∧ wpAny (model X.prog X.w) X.A (getItem v (.ref sl)) (EP X pins σ Q) X.xe s
noncomputable def tSl (r : V → Option Int → Option Int → Hp → VK → Prop) (te : TE) (tl th : TO) : TE := fun σ H Q => te σ H fun x H1 => tl σ H1 fun l H2 => th σ H2 fun u H3 => r x l u H3 Q
theorem pe_slice {r : V → Option Int → Option Int → Hp → VK → Prop} (hr : SlR X r) (he : PE X e te) (hl : PO X lo tl) (hu : PO X hi th) : PE X (.Subscript e (.Slice lo hi none p2) pos) (tSl r te tl th) := by
  intro pins s σ H Q I h
  refine Subscript_ (thn (he pins s σ H _ I h) fun v s1 qZ => ?_)
  obtain ⟨x, H1, I1, r1, q1⟩ := qZ
  refine wpAny_Slice (thn (hl pins s1 σ H1 _ I1 q1) fun vl s2 ⟨l, H2, I2, pl, q2⟩ => thn (hu pins s2 σ H2 _ I2 q2) fun vu s3 qZ => ?_)
  obtain ⟨u, H3, I3, pu, q3⟩ := qZ
  rw [evalPart_none]
  refine wpAny_pure ?_
  have I4 : Inv X pins σ H3 { s3 with heap := s3.heap.push { cls := .type "slice", data := .fields #[vl, vu, .none] } } := I3.kept (t' := s3.toks) fun b ob q => Heap.get?_push_of_some _ q
  obtain ⟨T, id, hT, ht, hg⟩ := hr pins { s3 with heap := s3.heap.push { cls := .type "slice", data := .fields #[vl, vu, .none] } } σ H3 x v vl vu l u s3.heap.objs.size Q I4 r1 (Heap.IsSliceOf.new ..) pl pu q3
  show wpAny (model X.prog X.w) X.A (subscriptTail e (.Slice lo hi none p2) v (.ref s3.heap.objs.size)) (EP X pins σ Q) X.xe { s3 with heap := s3.heap.push { cls := .type "slice", data := .fields #[vl, vu, .none] } }
  exact tail_any (ops := [.ref s3.heap.objs.size, v]) ht hT hg (by with_unfolding_all rfl)

noncomputable def cutV (xs : List V) (lo hi : Option Int) : List V := (xs.drop (HT.sIx xs.length 0 lo)).take (HT.sIx xs.length xs.length hi - HT.sIx xs.length 0 lo)
theorem cutV_length (xs : List V) (lo hi : Option Int) : (cutV xs lo hi).length ≤ xs.length := by
  unfold cutV
  rw [List.length_take, List.length_drop]
  omega
noncomputable def rLtT (K : PySem.W.Frag) : R2 := fun x y H Q => ∃ a b ns ms, x = .ref a ∧ y = .ref b ∧ SqT K H a (ns.map V.int) ∧ SqT K H b (ms.map V.int) ∧ Q (.bl (HT.lexLt ns ms)) H
theorem op_ltT (hu : X.A.units < cLine) : OpR X (compareOp .Lt) (rLtT X.K) := by
  intro pins s σ H x y v u Q I rx ry h
  obtain ⟨a, b, ns, ms, rfl, rfl, ha, hb, q⟩ := h
  cases rx
  cases ry
  obtain ⟨its, r1, p1, _⟩ := I.tuple ha
  obtain ⟨its2, r2, p2, _⟩ := I.tuple hb
  have i1 : IntsAre its.toArray.toList ns := intsAre_of r1
  have i2 : IntsAre its2.toArray.toList ms := intsAre_of r2
  exact HT.lt_tupInts p1 p2 i1 i2 hu ⟨.bl (HT.lexLt ns ms), H, I, rfl, q⟩
noncomputable def rCatT (K : PySem.W.Frag) : R2 := fun x y H Q => ∃ a b xs ys, x = .ref a ∧ y = .ref b ∧ SqT K H a xs ∧ SqT K H b ys ∧ xs ≠ [] ∧ xs.length + ys.length ≤ sizeLine ∧
  (ys = [] → Q (.ref a) H) ∧ (ys ≠ [] → ∀ p, H p = none → Q (.ref p) (upd H p (.tup (xs ++ ys))))
theorem Vals.nil_iff {xs : List V} {us : List Value} (r : Vals xs us) : us = [] ↔ xs = [] := by
  cases r with
  | nil => simp
  | cons _ _ => simp
theorem op_catT : OpR X (binaryOp .Add) (rCatT X.K) := by
  intro pins s σ H x y v u Q I rx ry h
  obtain ⟨a, b, xs, ys, rfl, rfl, ha, hb, hx, hz, q1, q2⟩ := h
  cases rx
  cases ry
  obtain ⟨its, r1, p1, _⟩ := I.tuple ha
  obtain ⟨its2, r2, p2, _⟩ := I.tuple hb
  refine HT.cat_tup p1 p2 (fun z => hx (r1.nil_iff.mp z)) (fun z => ⟨.ref a, H, I, rfl, q1 (r2.nil_iff.mp z)⟩) (fun z => ?_) (by rw [← r1.length, ← r2.length]; exact hz)
  refine ⟨.ref s.heap.objs.size, _, I.laid (t' := s.toks) (o := .tup (xs ++ ys)) (fun b ob q => Heap.get?_push_of_some _ q) (Nat.le_refl _) ?_, rfl, q2 (fun w => z (r2.nil_iff.mpr w)) _ (I.hok.fresh (Nat.le_refl _))⟩
  exact ⟨by rw [List.length_append]; exact hz, _, r1.append r2, IsTup.new _ _⟩
end
end L2

namespace L2
open PySem PySem.Spec PyProof.Rows

noncomputable def ixN (n : Nat) (i : Int) : Option Nat := if 0 ≤ i then (if i < n then some i.toNat else none) else if -(n : Int) ≤ i then some (i + n).toNat else none
noncomputable def atI {α : Type} (xs : List α) (i : Int) : Option α := (ixN xs.length i).bind fun j => xs[j]?
theorem ixN_seq {n : Nat} {i : Int} {j : Nat} (h : ixN n i = some j) : seqIndex? i n = some j ∧ j < n ∧ -(n : Int) ≤ i ∧ i < n := by
  unfold ixN at h
  by_cases h0 : 0 ≤ i
  · rw [if_pos h0] at h
    by_cases h1 : i < n
    · rw [if_pos h1] at h
      have e : i.toNat = j := Option.some.inj h
      exact ⟨by rw [seqIndex_of h0 h1, e], by omega, by omega, h1⟩
    · rw [if_neg h1] at h; cases h
  · rw [if_neg h0] at h
    by_cases h1 : -(n : Int) ≤ i
    · rw [if_pos h1] at h
      have e : (i + n).toNat = j := Option.some.inj h
      exact ⟨by rw [seqIndex_neg (by omega) h1, e], by omega, h1, by omega⟩
    · rw [if_neg h1] at h; cases h
theorem atI_get {α : Type} {xs : List α} {i : Int} {v : α} (h : atI xs i = some v) : ∃ j, seqIndex? i xs.length = some j ∧ xs[j]? = some v ∧ j < xs.length ∧ -(xs.length : Int) ≤ i ∧ i < xs.length := by
  unfold atI at h
  cases e : ixN xs.length i with
  | none => rw [e] at h; cases h
  | some j =>
    rw [e] at h
    obtain ⟨h1, h2, h3, h4⟩ := ixN_seq e
    exact ⟨j, h1, h, h2, h3, h4⟩
theorem atI_nat {α : Type} {xs : List α} {j : Nat} {v : α} (h : xs[j]? = some v) : atI xs (j : Int) = some v := by
  have hj : j < xs.length := (List.getElem?_eq_some_iff.mp h).1
  have e : ixN xs.length (j : Int) = some j := by
    unfold ixN
    rw [if_pos (by omega), if_pos (by omega)]; simp
  unfold atI; rw [e]; exact h
noncomputable def PlainIx (b : Expr) : Prop := ∀ o i, subscripted b false o i = operate [o, i] (getItem o i)
noncomputable def IxR (X : Cx) (r : R2) : Prop :=
  ∀ (value slice : Expr) (pins : List (Addr × Obj)) (s : Shared) (σ : St) (H : Hp) (x y : V) (v u : Value) (Q : VK), Inv X pins σ H s → RelV x v → RelV y u → r x y H Q →
    subscripted slice false v u = operate [v, u] (getItem v u) → wpAny (model X.prog X.w) X.A (subscriptTail value slice v u) (EP X pins σ Q) X.xe s
noncomputable def MtR (X : Cx) (id : String) (r : V → List V → Hp → VK → Prop) : Prop :=
  ∀ (pins : List (Addr × Obj)) (s : Shared) (σ : St) (H : Hp) (x : V) (xs : List V) (v : Value) (us : List Value) (Q : VK), Inv X pins σ H s → RelV x v → Vals xs us → r x xs H Q →
    wpAny (model X.prog X.w) X.A (call (.builtin id) (v :: us)) (EP X pins σ Q) X.xe s
section
variable {X : Cx} {a b : Expr} {ta tb : TE} {pos : Pos}
theorem IxR.or {r r' : R2} (h : IxR X r) (h' : IxR X r') : IxR X (fun x y H Q => r x y H Q ∨ r' x y H Q) := by
  intro value slice pins s σ H x y v u Q I rx ry q hs
  rcases q with q | q
  · exact h value slice pins s σ H x y v u Q I rx ry q hs
  · exact h' value slice pins s σ H x y v u Q I rx ry q hs
theorem pe_ix {r : R2} (hr : IxR X r) (ha : PE X a ta) (hb : PE X b tb) (hs : PlainIx b) : PE X (.Subscript a b pos) (tOp r ta tb) := by
  intro pins s σ H Q I h
  exact Subscript_ (binT ha hb I h fun v u s2 x y H2 I2 rx ry q => hr a b pins s2 σ H2 x y v u Q I2 rx ry q (hs _ _))

noncomputable def rIxL (K : PySem.W.Frag) : R2 := fun x y H Q => ∃ p xs i v, x = .ref p ∧ y = .int i ∧ SqL K H p xs ∧ atI xs i = some v ∧ Q v H
noncomputable def rIxT (K : PySem.W.Frag) : R2 := fun x y H Q => ∃ p xs i v, x = .ref p ∧ y = .int i ∧ SqT K H p xs ∧ atI xs i = some v ∧ Q v H
theorem ix_list : IxR X (rIxL X.K) := by
  intro value slice pins s σ H x y v u Q I rx ry h hs
  obtain ⟨p, xs, i, z, rfl, rfl, hq, he, q⟩ := h
  cases rx
  obtain ⟨t, rfl⟩ := ry
  obtain ⟨its, r, pl, hz⟩ := I.list hq
  obtain ⟨j, h1, h2, h3, h4, h5⟩ := atI_get he
  obtain ⟨w, ew, rw'⟩ := r.get h2
  have hl := r.length
  have hn := line63
  have fin : EP X pins σ Q w s := ⟨z, H, I, rw', q⟩
  by_cases h0 : 0 ≤ i
  · have hj : i.toNat = j := by
      rw [seqIndex_of h0 h5] at h1
      exact Option.some.inj h1
    exact item_listR pl.isList h0 (by omega) (by rw [hj]; simpa using ew) fin hs
  · have hj : (i + (its.toArray.size : Int)).toNat = j := by
      rw [seqIndex_neg (by omega) h4] at h1
      rw [List.size_toArray, ← hl]
      exact Option.some.inj h1
    exact subscriptTail_builtinR (x := w) pl.isList.typeIs slot_list_getitem.lookup
      (wpAny_getItem_list_neg (Q := fun r s' => r = w ∧ EP X pins σ Q r s') pl.isList (by omega) (by rw [List.size_toArray] <;> omega) (by omega) (by rw [hj]; simpa using ew) ⟨rfl, fin⟩) hs
theorem ix_tup : IxR X (rIxT X.K) := by
  intro value slice pins s σ H x y v u Q I rx ry h hs
  obtain ⟨p, xs, i, z, rfl, rfl, hq, he, q⟩ := h
  cases rx
  obtain ⟨t, rfl⟩ := ry
  obtain ⟨its, r, pl, hz⟩ := I.tuple hq
  obtain ⟨j, h1, h2, h3, h4, h5⟩ := atI_get he
  obtain ⟨w, ew, rw'⟩ := r.get h2
  have hl := r.length
  have hn := line63
  have fin : EP X pins σ Q w s := ⟨z, H, I, rw', q⟩
  exact subscriptTail_builtinR (x := w) pl.typeIs slot_tuple_getitem.lookup
    (getItem_tuple (j := j) (Q := fun r s' => r = w ∧ EP X pins σ Q r s') pl (by omega) (by omega) (by rw [List.size_toArray, ← hl]; exact h1) (by simpa using ew) ⟨rfl, fin⟩) hs
theorem mapSeq_set (its : List Value) (n j : Nat) (u : Value) : Obj.mapSeq (·.setIfInBounds j u) { cls := .type "list", data := .seq its.toArray n } = { cls := .type "list", data := .seq (its.set j u).toArray n } := by
  simp [Obj.mapSeq]
theorem Inv.lst {pins : List (Addr × Obj)} {σ : St} {H : Hp} {s : Shared} {p : Addr} {xs : List V} (I : Inv X pins σ H s) (h : H p = some (.lst xs)) :
    ∃ (its : List Value) (n : Nat), Vals xs its ∧ s.heap.get? p = some { cls := .type "list", data := .seq its.toArray n } ∧ xs.length ≤ sizeLine := by
  obtain ⟨z, its, n, r, e⟩ := I.hok p _ h
  exact ⟨its, n, r, e, z⟩
theorem Inv.lstUpd {pins : List (Addr × Obj)} {σ : St} {H : Hp} {s : Shared} {p : Addr} {xs ys : List V} {its its' : List Value} {n n' : Nat} {f : Obj → Obj} (I : Inv X pins σ H s) (h : H p = some (.lst xs))
    (ho : s.heap.get? p = some { cls := .type "list", data := .seq its.toArray n }) (hf : f { cls := .type "list", data := .seq its.toArray n } = { cls := .type "list", data := .seq its'.toArray n' }) (r : Vals ys its') (hz : ys.length ≤ sizeLine) (t : Nat) :
    Inv X pins σ (upd H p (.lst ys)) { s with heap := s.heap.update p f, toks := t } := by
  have e : (s.heap.update p f).get? p = some { cls := .type "list", data := .seq its'.toArray n' } := by
    rw [Heap.get?_update_self f ho (by rw [hf] <;> rfl), hf]
  refine I.write (x := p) (e := p) (by rw [h]; trivial) (.inl rfl) (fun b u hb q => (Heap.get?_update_other _ _ (Ne.symm hb)).trans q) ⟨_, e⟩ ?_
  exact ⟨hz, its', n', r, e⟩
noncomputable def rSetL : V → V → V → Hp → (Hp → Prop) → Prop := fun o i v H Q => ∃ p xs k j, o = .ref p ∧ i = .int k ∧ H p = some (.lst xs) ∧ ixN xs.length k = some j ∧ Q (upd H p (.lst (xs.set j v)))
theorem set_list : PSet X rSetL := by
  intro pins s σ H o i v ov iv u Q I ro ri rv h
  obtain ⟨p, xs, k, j, rfl, rfl, hp, hj, q⟩ := h
  cases ro
  obtain ⟨t, rfl⟩ := ri
  obtain ⟨its, n, r, ho, hz⟩ := I.lst hp
  obtain ⟨h1, h2, h3, h4⟩ := ixN_seq hj
  have hl := r.length
  have hn := line63
  have I' : Inv X pins σ (upd H p (.lst (xs.set j v))) { s with heap := s.heap.update p (Obj.mapSeq (·.setIfInBounds j u)) } :=
    I.lstUpd hp ho (mapSeq_set its n j u) (r.set rv j) (by rw [List.length_set]; exact hz) s.toks
  by_cases h0 : 0 ≤ k
  · have hk : k.toNat = j := by
      rw [seqIndex_of h0 h4] at h1
      exact Option.some.inj h1
    exact PySem.W.ki_setAt ho h0 (by omega) (by rw [List.size_toArray, ← hl]; exact h4) (by rw [hk]; exact ⟨_, I', q⟩)
  · have hk : (k + (its.toArray.size : Int)).toNat = j := by
      rw [seqIndex_neg (by omega) h3] at h1
      rw [List.size_toArray, ← hl]
      exact Option.some.inj h1
    exact PySem.W.ki_setBack ho (by omega) (by rw [List.size_toArray, ← hl]; exact h3) (by omega) (by rw [hk]; exact ⟨_, I', q⟩)

theorem slice_bounds (lo hi : Option Int) (n : Nat) : (sliceBounds lo hi none n).1 = ((HT.sIx n 0 lo : Nat) : Int) ∧ (sliceBounds lo hi none n).2.1 = ((HT.sIx n n hi : Nat) : Int) ∧ (sliceBounds lo hi none n).2.2 = 1 := by
  refine ⟨?_, ?_, rfl⟩
  · cases lo with
    | none => simp [sliceBounds, HT.sIx]
    | some i =>
      simp only [sliceBounds, HT.sIx, Option.getD_none, show (1 : Int) > 0 by decide, if_true]
      by_cases h : i < 0
      · simp only [h, if_true] <;> omega
      · simp only [h, if_false] <;> omega
  · cases hi with
    | none => simp [sliceBounds, HT.sIx]
    | some i =>
      simp only [sliceBounds, HT.sIx, Option.getD_none, show (1 : Int) > 0 by decide, if_true]
      by_cases h : i < 0
      · simp only [h, if_true] <;> omega
      · simp only [h, if_false] <;> omega
theorem slicePick_cut (its : List Value) (lo hi : Option Int) : slicePick its.toArray lo hi none = ((its.drop (HT.sIx its.length 0 lo)).take (HT.sIx its.length its.length hi - HT.sIx its.length 0 lo)).toArray := by
  obtain ⟨h1, h2, h3⟩ := slice_bounds lo hi its.toArray.size
  unfold slicePick
  rw [h1, h2, h3]
  simp only [sliceRange_one, pick_run, List.size_toArray] <;> rfl
noncomputable def rSlL (K : PySem.W.Frag) : V → Option Int → Option Int → Hp → VK → Prop := fun x lo hi H Q => ∃ a xs, x = .ref a ∧ SqL K H a xs ∧ ∀ p, H p = none → Q (.ref p) (upd H p (.lst (cutV xs lo hi)))
theorem sl_list : SlR X (rSlL X.K) := by
  intro pins s σ H x v vl vu lo hi sl Q I rx hs pl pu h
  obtain ⟨a, xs, rfl, hx, q⟩ := h
  cases rx
  obtain ⟨its, r, ht, hz⟩ := I.list hx
  have hlen := r.length
  refine ⟨"list", _, slot_list_getitem.lookup, ht.isList.typeIs, ?_⟩
  refine wpAny_getItem_list_slice ht.isList hs pl pu .none (by simp) ?_ (by rw [List.size_toArray] <;> omega)
  rw [slicePick_cut, ← hlen]
  refine ⟨.ref s.heap.objs.size, _, I.laid (t' := s.toks) (o := .lst (cutV xs lo hi)) (fun b ob q => Heap.get?_push_of_some _ q) (Nat.le_refl _) ?_, rfl, q _ (I.hok.fresh (Nat.le_refl _))⟩
  exact ⟨Nat.le_trans (cutV_length xs lo hi) hz, _, 0, (r.drop (HT.sIx xs.length 0 lo)).take (HT.sIx xs.length xs.length hi - HT.sIx xs.length 0 lo), Heap.get?_push_size _ rfl⟩

theorem call_len_seq : CallR X (.builtin "len") (fun xs H Q => ∃ p ys, xs = [.ref p] ∧ (SqL X.K H p ys ∨ SqT X.K H p ys) ∧ Q (.int ys.length) H) := by
  intro pins s σ H xs us Q I r h
  obtain ⟨p, ys, rfl, hq, q⟩ := h
  obtain ⟨u, rfl, rx⟩ := vals1 r
  cases rx
  have hn := line63
  rcases hq with hq | hq
  · obtain ⟨its, r', pl, hz⟩ := I.list hq
    have hlen := r'.length
    exact Calls.call_len_list pl.isList (by simp only [List.size_toArray] <;> omega) ⟨.int ys.length, H, I.tok _, ⟨s.toks + 1, by rw [List.size_toArray, hlen]⟩, q⟩
  · obtain ⟨its, r', pl, hz⟩ := I.tuple hq
    have hlen := r'.length
    exact len_tuple pl (by simp only [List.size_toArray] <;> omega) ⟨.int ys.length, H, I.tok _, ⟨s.toks + 1, by rw [List.size_toArray, hlen]⟩, q⟩
theorem call_list_of : CallR X (.type "list") (fun xs H Q => ∃ p ys, xs = [.ref p] ∧ (SqL X.K H p ys ∨ SqT X.K H p ys) ∧ ∀ l, H l = none → Q (.ref l) (upd H l (.lst ys))) := by
  intro pins s σ H xs us Q I r h
  obtain ⟨p, ys, rfl, hq, q⟩ := h
  obtain ⟨u, rfl, rx⟩ := vals1 r
  cases rx
  have fin : ∀ (its : List Value), Vals ys its → ys.length ≤ sizeLine → ∀ (h' : Heap) (c' : Nat), (∀ b o', s.heap.get? b = some o' → h'.get? b = some o') →
      h'.get? s.heap.objs.size = some { cls := .type "list", dict := none, data := .seq its.toArray c', slots := #[] } → EP X pins σ Q (.ref s.heap.objs.size) { s with heap := h' } := fun its r' hz h' c' kp e =>
    ⟨.ref s.heap.objs.size, _, I.laid (t' := s.toks) kp (Nat.le_refl _) (show ObjOk X.prog X.w _ h' _ (.lst ys) from ⟨hz, its, c', r', e⟩), rfl, q _ (I.hok.fresh (Nat.le_refl _))⟩
  rcases hq with hq | hq
  · obtain ⟨its, r', pl, hz⟩ := I.list hq
    have hlen := r'.length
    obtain ⟨o, ho, hc, n, hd⟩ := pl.isList
    exact call_list_seq p (.inl rfl) ho hc hd (fun h' c' kp e => fin its r' hz h' c' kp e) (by simp only [List.size_toArray] <;> omega)
  · obtain ⟨its, r', pl, hz⟩ := I.tuple hq
    have hlen := r'.length
    obtain ⟨o, ho, hc, n, hd⟩ := pl
    exact call_list_seq p (.inr rfl) ho hc hd (fun h' c' kp e => fin its r' hz h' c' kp e) (by simp only [List.size_toArray] <;> omega)
theorem call_tuple_of : CallR X (.type "tuple") (fun xs H Q => ∃ p ys, xs = [.ref p] ∧ ((SqL X.K H p ys ∧ ∀ l, H l = none → Q (.ref l) (upd H l (.tup ys))) ∨ (SqT X.K H p ys ∧ Q (.ref p) H))) := by
  intro pins s σ H xs us Q I r h
  obtain ⟨p, ys, rfl, h⟩ := h
  obtain ⟨u, rfl, rx⟩ := vals1 r
  cases rx
  rcases h with ⟨hq, q⟩ | ⟨hq, q⟩
  · obtain ⟨its, r', pl, hz⟩ := I.list hq
    have hlen := r'.length
    refine call_tuple_list pl.isList (fun h' kp => ?_) (by simp only [List.size_toArray] <;> omega)
    have I1 : Inv X pins σ H { s with heap := h' } := I.kept (t' := s.toks) kp
    have I2 : Inv X pins σ (upd H h'.objs.size (.tup ys)) { s with heap := h'.push { cls := .type "tuple", data := .seq its.toArray } } :=
      I1.laid (t' := s.toks) (fun b o e => Heap.get?_push_of_some _ e) (Nat.le_refl _) (show ObjOk X.prog X.w _ _ _ (.tup ys) from ⟨hz, its, r', IsTup.new _ _⟩)
    exact ⟨.ref h'.objs.size, _, I2, rfl, q _ (I1.hok.fresh (Nat.le_refl _))⟩
  · obtain ⟨its, r', pl, hz⟩ := I.tuple hq
    exact call_tuple_same pl ⟨.ref p, H, I, rfl, q⟩

noncomputable def tyV (K : PySem.W.Frag) (T : String) (x : V) (H : Hp) : Prop := match x with
  | .str _ => T = "str"
  | .int _ => T = "int"
  | .ref p => (T = "list" ∧ ∃ xs, SqL K H p xs) ∨ (T = "tuple" ∧ ∃ o, K.lookup p = some o ∧ o.cls = .type "tuple" ∧ o.dict = none) ∨
      (T = "dict" ∧ ((∃ kvs, H p = some (.dK kvs)) ∨ ∃ kvs, H p = some (.dT kvs))) ∨ (T = "set" ∧ ∃ S n, H p = some (.set S n))
  | _ => False
theorem tyV_is {pins : List (Addr × Obj)} {σ : St} {H : Hp} {s : Shared} {T : String} {x : V} {v : Value} (I : Inv X pins σ H s) (r : RelV x v) (ty : tyV X.K T x H) :
    s.TypeIs v T ∧ ∀ a, v = .ref a → ∃ ob, s.heap.get? a = some ob ∧ ob.dict = none := by
  cases x with
  | str z =>
    obtain ⟨t, rfl⟩ := r
    cases (show T = "str" from ty)
    exact ⟨typeIs_str s z t, fun _ e => by cases e⟩
  | int i =>
    obtain ⟨t, rfl⟩ := r
    cases (show T = "int" from ty)
    exact ⟨typeIs_int s i t, fun _ e => by cases e⟩
  | ref p =>
    cases r
    rcases ty with ⟨rfl, xs, hq⟩ | ⟨rfl, o, hk, hc, hd⟩ | ⟨rfl, hk⟩ | ⟨rfl, S, n, hk⟩
    · obtain ⟨its, _, pl, _⟩ := I.list hq
      refine ⟨pl.isList.typeIs, fun a e => ?_⟩
      cases e
      obtain ⟨o, n, e, c, hd, _⟩ := pl
      exact ⟨o, e, hd⟩
    · refine ⟨⟨o, I.kIn p o hk, hc⟩, fun a e => ?_⟩
      cases e
      exact ⟨o, I.kIn _ o hk, hd⟩
    · have z : ∃ o, s.heap.get? p = some o ∧ o.ExactDict := by
        rcases hk with ⟨kvs, hk⟩ | ⟨kvs, hk⟩
        · obtain ⟨_, _, _, _, o, _, _, e, ex, _⟩ := I.hok p _ hk
          exact ⟨o, e, ex⟩
        · obtain ⟨_, _, _, _, o, _, _, e, ex, _⟩ := I.hok p _ hk
          exact ⟨o, e, ex⟩
      obtain ⟨o, e, ex⟩ := z
      refine ⟨⟨o, e, ex.1⟩, fun a e2 => ?_⟩
      cases e2
      exact ⟨o, e, ex.2.1⟩
    · obtain ⟨o, _, _, _, e, ex, _⟩ := I.hok p _ hk
      refine ⟨⟨o, e, ex.1⟩, fun a e2 => ?_⟩
      cases e2
      exact ⟨o, e, ex.2.1⟩
  | _ => exact False.elim ty
noncomputable def tBM (K : PySem.W.Frag) (T : String) (r : V → List V → Hp → VK → Prop) (to : TE) (t : TA) : TE := fun σ H Q => to σ H fun x H1 => tyV K T x H1 ∧ t σ H1 fun xs H2 => r x xs H2 Q
variable {o e : Expr} {es : List Expr} {to : TE} {t : TA} {name : Str} {apos cpos : Pos} {T id : String} {r : V → List V → Hp → VK → Prop}
theorem pe_bm (pa : PlainAttrs T) (slot : Slot T name id) (hty : typeOf (.builtin id) = pure (.type "method_descriptor")) (hm : MtR X id r) (ho : PE X o to) (ha : PA X (e :: es) t)
    (hbase : attributeBase o name X.env (eval o X.env) = eval o X.env := by rfl)
    (hfew : ((backTo cpos (starEach (e :: es) X.env)).all (fun x => !x.1) && (backToKw cpos (keywordEach [] X.env)).all (fun x => x.1.isSome)
      && decide ((e :: es).length + ([] : List Keyword).length + (if ([] : List Keyword).isEmpty then 0 else 1) < 30)) = true := by rfl)
    (hline : (apos.endLine == cpos.line) = true := by rfl) (hs : starEach (e :: es) X.env = (false, eval e X.env) :: starEach es X.env := by rfl) (hplain : (backTo cpos (starEach es X.env)).any (·.1) = false := by rfl) :
    PE X (.Call (.Attribute o name apos) (e :: es) [] cpos) (tBM X.K T r to t) := by
  intro pins s σ H Q I h
  refine wpAny_Call_method_late hbase hfew hline rfl (thn (ho pins s σ H _ I h) fun v s1 qZ => ?_)
  obtain ⟨x, H1, I1, r1, ty, q1⟩ := qZ
  obtain ⟨h1, h2⟩ := tyV_is I1 r1 ty
  refine ⟨T, id, pa, slot, hty, h1, h2, ?_⟩
  have hA := ha cpos pins s1 σ H1 _ I1 q1
  rw [hs] at hA ⊢
  refine Calls.callWith_builtin (by show (false || (backTo cpos (starEach es X.env)).any (·.1)) = false; rw [hplain] <;> rfl) (Calls.evalArgs_plain ?_)
  exact thn hA fun us s2 ⟨vs, H2, I2, r2, q2⟩ => hm pins s2 σ H2 x vs v us Q I2 r1 r2 q2
/- xs.append(e), list.index on a module's tuple .. are MtR facts of 06m -/
end
end L2

namespace L2
open PySem PySem.Spec PyProof.Rows

noncomputable def MtM (X : Cx) (id : String) (r : V → List V → Hp → VK → Prop) : Prop :=
  ∀ (pins : List (Addr × Obj)) (s : Shared) (σ : St) (H : Hp) (x : V) (xs : List V) (v : Value) (us : List Value) (Q : VK), Inv X pins σ H s → RelV x v → Vals xs us → r x xs H Q →
    wpAny (model X.prog X.w) X.A (call (.builtin id) (v :: us)) (EP X pins σ Q) X.xe s

theorem Vals.one : ∀ {x : V} {us : List Value}, Vals [x] us → ∃ u, us = [u] ∧ RelV x u
  | _, _, .cons r .nil => ⟨_, rfl, r⟩
section
variable {X : Cx} {pins : List (Addr × Obj)} {σ : St} {H : Hp} {s : Shared} {l b : Addr} {xs ys zs : List V}

theorem Inv.lset {its its' : List Value} {n : Nat} {f : Array Value → Array Value} {t' : Nat} (I : Inv X pins σ H s) (hH : H l = some (.lst xs))
    (e : s.heap.get? l = some { cls := .type "list", data := .seq its.toArray n }) (hf : f its.toArray = its'.toArray) (hv : Vals ys its') (hz : ys.length ≤ sizeLine) :
    Inv X pins σ (upd H l (.lst ys)) { s with heap := s.heap.update l (Obj.mapSeq f), toks := t' } := by
  have q := PySem.IsL.update e f
  rw [hf] at q
  refine I.write (x := l) (e := l) (by rw [hH]; exact trivial) (.inl rfl) (fun b' u hb hu => (Heap.get?_update_other s.heap (Obj.mapSeq f) (Ne.symm hb)).trans hu) ⟨_, q⟩ ?_
  exact ⟨hz, its', _, hv, q⟩
theorem Inv.lnew {its : List Value} {t' : Nat} (I : Inv X pins σ H s) (hv : Vals ys its) (hz : ys.length ≤ sizeLine) :
    Inv X pins σ (upd H s.heap.objs.size (.lst ys)) { s with heap := s.heap.push { cls := .type "list", data := .seq its.toArray }, toks := t' } :=
  I.laid (fun _ _ q => Heap.get?_push_of_some _ q) (Nat.le_refl _) ⟨hz, its, 0, hv, Heap.get?_push_size _ rfl⟩
theorem Inv.fresh (I : Inv X pins σ H s) : H s.heap.objs.size = none := I.hok.fresh (Nat.le_refl _)
theorem Inv.lstM (I : Inv X pins σ H s) (hH : H l = some (.lst xs)) : xs.length ≤ sizeLine ∧ ∃ (its : List Value) (n : Nat), Vals xs its ∧ xs.length = its.length ∧ s.heap.get? l = some { cls := .type "list", data := .seq its.toArray n } := by
  obtain ⟨z, its, n, r, e⟩ := I.hok l _ hH
  exact ⟨z, its, n, r, r.length, e⟩

end

section
variable {X : Cx}

noncomputable def rAppend : V → List V → Hp → VK → Prop := fun x vs H Q => ∃ l xs y, x = .ref l ∧ vs = [y] ∧ H l = some (.lst xs) ∧ xs.length < sizeLine ∧ Q .non (upd H l (.lst (xs ++ [y])))
theorem mt_append : MtM X "list.append" rAppend := by
  intro pins s σ H x vs v us Q I rx rv h
  obtain ⟨l, xs, y, rfl, rfl, hH, hz, q⟩ := h
  cases rx
  obtain ⟨u, rfl, ru⟩ := rv.one
  obtain ⟨z, its, n, r, hl, e⟩ := I.lstM hH
  refine call_meets F.slot_list_append ⟨_, e, rfl⟩ F.entry_list_append (F.args_list_append_2 _ _) (PySem.list_append l its.toArray n u (by rw [List.size_toArray]; omega)) ⟨e, ?_⟩
  refine ⟨.non, _, I.lset (its' := its ++ [u]) hH e (by simp) (r.append (.cons ru .nil)) ?_, rfl, q⟩
  rw [List.length_append, List.length_singleton]
  omega

end

section
variable {prog : Program} {w : World} {A : Around} {E : Value → Shared → Prop} {s : Shared}
set_option maxRecDepth 100000 in
end

section
variable {X : Cx}
end
end L2

namespace Att
open PySem PySem.W PySem.Calls PyProof.Rows

theorem ints_of_wellAll {P : Params} {h : Heap} : ∀ (ns : List Int) (vs : List Value), WellAll P h vs (ns.map WData.int) → IntsAre vs ns := by
  intro ns
  induction ns with
  | nil =>
    intro vs w
    rw [List.map_nil] at w
    cases w
    exact .nil
  | cons n ns ih =>
    intro vs w
    rw [List.map_cons] at w
    cases w with
    | cons a b =>
      cases a
      exact .cons _ _ (ih _ b)

theorem script_of {l : OpenLaw} {n : Nat} (hn : l.most = some n) {P : Params} {h : Heap} {args : List WData} {vals : List Value}
    (hpre : l.row.toRowW.claim.pre args = true) (hwl : WellAll P h vals args) :
    ∃ a vs ns, vals = [Value.ref a] ∧ args = [WData.list (ns.map WData.int)] ∧ h.get? a = some { cls := .type "list", data := .seq vs.toArray } ∧ IntsAre vs ns ∧ ns.length ≤ n := by
  have hsh : WShape.hasAll [] args [.list .int] = true := (pre_splitW hpre).1
  have hc : l.pre.holds [] { args := args } = true := (pre_splitW hpre).2
  obtain ⟨d, r, rfl, h1, h2⟩ := hasAllW_cons hsh
  obtain rfl := hasAllW_nil h2
  obtain ⟨xs, rfl, h3⟩ := hasW_list h1
  obtain ⟨ns, rfl⟩ := items_int h3
  have hlen : ns.length ≤ n := by
    unfold OpenLaw.pre at hc
    have h4 : (WTm.not (.lt (.lit (.int (n : Int))) (.len (.arg 0)))).holds [] { args := [.list (ns.map .int)] } = true := by
      have h4 := (holds_andW hc).1
      rw [hn] at h4
      exact h4
    have h5 := condW_of h4 (w_not (w_lt w_lit (w_len_list (w_arg rfl))))
    rw [List.length_map] at h5
    refine Nat.le_of_not_lt fun q => ?_
    have q' : (n : Int) < ((ns.length : Nat) : Int) := by omega
    first
      | (rw [decide_eq_true q'] at h5; exact absurd h5 (by decide))
      | (simp at h5; omega)
  cases hwl with
  | cons w1 w2 =>
    cases w2
    cases w1 with
    | list ho hall => exact ⟨_, _, ns, rfl, rfl, ho, ints_of_wellAll ns _ hall, hlen⟩

theorem post_true (l : OpenLaw) (args : List WData) : l.row.toRowW.claim.post args (.bool true) args = true :=
  postW_of (r := l.row.toRowW) (X := (true == true))
    (show WShape.has [] (.bool true) .bool = true by first | rfl | decide | simp [WShape.has, WShape.arms, WShape.armsAll])
    (show (WTm.eq .res (.lit (.bool true))).value [] { args := args, res := some (.bool true), after := args } = some (.bool (true == true)) from w_eq_bool (w_res rfl) w_lit) rfl

theorem attach_call {l : OpenLaw} {n : Nat} {q : Program} {loose : List Str} {XP : (Str → Option Value) → Heap → Prop} {YP : World → Heap → Prop} {d : DefRec}
    (hn : l.most = some n) (hdf : d.params.defaults = [])
    (call : ∀ (w : World) (s₀ s₁ : Shared) (mg mb : Str → Option Value) (fa : Addr) (o : Obj) (pm cd doc : Value) (a : Addr) (vs : List Value) (ns : List Int),
      Ground q loose [] XP w s₀ mg mb s₁.heap → YP w s₁.heap →
      s₁.heap.get? fa = some o → o.data = .func (docDef d.name d.params d.body d.scope pm cd doc) → s₁.heap.CodeRec cd d.name → mg d.name = some (.ref fa) →
      s₁.heap.get? a = some { cls := .type "list", data := .seq vs.toArray } → IntsAre vs ns → ns.length ≤ n → s₁.gens = #[] →
      codeAny (model l.prog w) callerA (.call (.ref fa) ⟨[.ref a], []⟩) (fun r s' => r = .ok (.ret (.bool true)) ∧ OldK s₁.heap s'.heap ∧ s'.os = s₁.os ∧ AllBare s'.gens) s₁) :
    WalkO q loose XP YP l.row.toRowW d [] (fun f vs => PySem.call f vs) := by
  intro w s₀ s₁ mg mb G Y fa o pm cd doc dV kV ho hd hcd hD hmg hg args vals as hpre hlay hrd hwl hlo
  obtain rfl : dV = .none := Dflts.none hD hdf
  obtain rfl : kV = .none := Dflts.noKw hD
  obtain ⟨a, vs, ns, rfl, rfl, hobj, hints, hlen⟩ := script_of hn hpre hwl
  refine enter_call (codeAny_mono (call w s₀ s₁ mg mb fa o pm cd doc a vs ns G Y ho (fd_plain hd) hcd hmg hobj hints hlen hg) fun r s' hq => ?_)
  obtain ⟨rfl, h2, h3, h4⟩ := hq
  exact ⟨.inl ⟨.bool true, .bool true, [], rfl, fun _ => rfl, .bool true, post_true l _, fun _ => ⟨List.Pairwise.nil, fun _ hm => (by cases hm)⟩⟩, h2, h3, h4⟩

section
variable {prog : Program} {w : World} {A : Around} {E : Value → Shared → Prop} {s : Shared} {K : Frag}

end
end Att

namespace L2
open PySem PySem.Spec PyProof.Rows

theorem vals_ints : ∀ {vs : List Value} {ns : List Int}, IntsAre vs ns → Vals (ns.map V.int) vs
  | _, _, .nil => .nil
  | _, _, .cons n t h => .cons ⟨t, rfl⟩ (vals_ints h)

noncomputable def Only (H : Hp) : Prop := ∀ b, H b = none ∨ ∃ o xs, H b = some (.frz o (.lst xs))

theorem law_call {P : Program} {w : World} {K : PySem.W.Frag} {mg mb : Str → Option Value} {CX : CXT} {k : Nat} {fa a : Addr} {fd : FuncData} {x : Str} {sp : Sp} {s₁ : Shared} {vs : List Value} {ns : List Int}
    (KX : K.In s₁.heap) (hns : s₁.heap.Ns mainGlobals mg) (hb : s₁.heap.Ns builtinsNs mb) (hbb : ∀ x : Str, x ≠ "__name__" → mb x = bootBuiltins x) (hlim : s₁.heap.NoLimit) (hg : s₁.gens = #[])
    (ha : s₁.heap.get? a = some { cls := .type "list", data := .seq vs.toArray }) (hi : IntsAre vs ns) (hl : ns.length ≤ sizeLine) (hr : Room k callerA)
    (F : ∀ base : Heap, K.In base → base.Ns mainGlobals mg → FnOk P w K mg base CX k fa fd [x] sp) (hbind : ∀ (s : Shared) (u : Value), BindsTo s fd ⟨[u], []⟩ [(x, u)])
    (hsp : ∀ H : Hp, Only H → SqL K H a (ns.map V.int) → sp [.ref a] H (fun v _ => v = .bl true) fun _ _ _ => False)
    (hCX : ∀ H e s', CX [] H s₁ (fun _ _ _ => False) e s' → False) :
    codeAny (model P w) callerA (.call (.ref fa) ⟨[.ref a], []⟩) (fun r s' => r = .ok (.ret (.bool true)) ∧ OldK s₁.heap s'.heap ∧ s'.os = s₁.os ∧ AllBare s'.gens) s₁ := by
  have rv := vals_ints hi
  have lenV := hi.length
  -- from an abstract heap in which nothing but the script may be tracked
  have core : ∀ H : Hp, Only H → SqL K H a (ns.map V.int) → HOk P w H s₁.heap → (∀ b, H b ≠ none → b = a) → (H a ≠ none → K.lookup a = none) →
      codeAny (model P w) callerA (.call (.ref fa) ⟨[.ref a], []⟩) (fun r s' => r = .ok (.ret (.bool true)) ∧ OldK s₁.heap s'.heap ∧ s'.os = s₁.os ∧ AllBare s'.gens) s₁ := by
    intro H hO hS hok hA hK
    have base_of : ∀ {b : Addr} {o : Obj}, s₁.heap.get? b = some o → H b = none → (hidT s₁.heap H).get? b = some o := fun e n => hidT_get e n
    have noA : ∀ {b : Addr} {o : Obj} {es : Array DictEntry} {ep : Nat}, s₁.heap.get? b = some o → o.data = .dict es ep → H b = none := fun {b o es ep} e d => by
      cases q : H b with
      | none => rfl
      | some u =>
        have e' : b = a := hA b (by rw [q]; simp)
        subst e'
        rw [ha] at e; cases e
        have d' : Data.seq vs.toArray _ = Data.dict es ep := d
        cases d'
    have nsK : ∀ {b : Addr} {m : Str → Option Value}, s₁.heap.Ns b m → (hidT s₁.heap H).Ns b m := fun {b m} ⟨o, es, ep, e, d, r⟩ => ⟨o, es, ep, base_of e (noA e d), d, r⟩
    have hKb : K.In (hidT s₁.heap H) := fun b o e => base_of (KX b o e) (by
      cases q : H b with
      | none => rfl
      | some u =>
        have e' : b = a := hA b (by rw [q]; simp)
        subst e'
        rw [hK (by rw [q]; simp)] at e; cases e)
    have hM : Mod K mg (hidT s₁.heap H) := ⟨hKb, nsK hns, ⟨mb, nsK hb, hbb⟩, let ⟨mc, h1, h2⟩ := hlim; ⟨mc, nsK h1, h2⟩⟩
    have e0 : Env0 P w K mg (hidT s₁.heap H) callerA [] s₁ H := ⟨rfl, hM, fun b o e => of_hidT e, Nat.le_of_eq (hidT_size _ _), trivial, fun b hb => absurd (show b ∈ ([] : List Addr) from hb) (by simp), hok, .of_eq hg⟩
    refine codeAny_mono ((F _ hKb (nsK hns)).run callerA [] s₁ H ⟨[.ref a], []⟩ [.ref a] [.ref a] _ _ hr e0 (hbind s₁ (.ref a)) (.cons rfl .nil) (hsp H hO hS)) fun r s' h => ?_
    cases r with
    | error e => exact (hCX H e s' h).elim
    | ok fl =>
      cases fl with
      | next => exact False.elim h
      | brk => exact False.elim h
      | cont => exact False.elim h
      | ret u =>
        obtain ⟨v, H', os, bare, un, hok', r', q⟩ := h
        have q' : v = .bl true := q
        subst q'
        obtain rfl : u = Value.bool true := r'
        refine ⟨rfl, OldK.of_keep fun b o e => ?_, os, bare⟩
        cases q : H b with
        | none => exact un.keep b o e q (by intro z; exact absurd (show b ∈ ([] : List Addr) from z) (by simp)) (by simp)
        | some u =>
          rcases hO b with z | ⟨ob, xs, z⟩
          · rw [q] at z; cases z
          · have z2 := un.frzs b ob _ z
            obtain ⟨e1, _⟩ := hok b _ z
            obtain ⟨e2, _⟩ := hok' b _ z2
            rw [e] at e1; cases e1
            exact e2
  cases hk : K.lookup a with
  | some o =>
    -- the script is one of the module's own objects
    have e := KX a o hk
    rw [ha] at e
    cases e
    refine core (fun _ => none) (fun _ => .inl rfl) (.inr ⟨_, vs.toArray, _, hk, rfl, rfl, rfl, by rw [List.size_toArray, lenV]; exact hl, by simpa using rv⟩) (fun b u z => by have z' : (none : Option HO) = some u := z; cases z') (fun b z => absurd rfl z) fun z => absurd rfl z
  | none =>
    refine core (fun b => if b = a then some (.frz { cls := .type "list", data := .seq vs.toArray } (.lst (ns.map V.int))) else none) (fun b => ?_) (.inl (.inr ⟨{ cls := .type "list", data := .seq vs.toArray }, if_pos rfl⟩)) (fun b u z => ?_) (fun b z => ?_) fun _ => hk
    · by_cases hb : b = a
      · exact .inr ⟨_, _, if_pos hb⟩
      · exact .inl (if_neg hb)
    · by_cases hb : b = a
      · have z' := (if_pos hb).symm.trans z
        cases z'
        subst hb
        exact ⟨ha, by rw [List.length_map]; exact hl, vs, _, rv, ha⟩
      · have z' := (if_neg hb).symm.trans z
        cases z'
    · by_cases hb : b = a
      · exact hb
      · exact absurd (if_neg hb) z
end L2

namespace L2
open PySem PySem.Spec PyProof.Rows

theorem walk_of {l : PySem.W.OpenLaw} {n k : Nat} {q : Program} {loose : List Str} {XP : (Str → Option Value) → Heap → Prop} {YP : World → Heap → Prop} {d : DefRec} {K : Params → PySem.W.Frag} {CX : World → CXT} {sp : World → Sp} {x : Str}
    (hn : l.most = some n) (hn2 : n ≤ sizeLine) (hdf : d.params.defaults = []) (hr : Room k callerA)
    (hY : ∀ (w : World) (h : Heap), YP w h → (K w.params).In h)
    (F : ∀ (w : World) (mg : Str → Option Value) (fa : Addr) (h : Heap), (K w.params).In h → h.Ns mainGlobals mg → mg d.name = some (.ref fa) →
      ∃ fd : FuncData, (∀ (s : Shared) (u : Value), BindsTo s fd ⟨[u], []⟩ [(x, u)]) ∧
        ∀ base : Heap, (K w.params).In base → base.Ns mainGlobals mg → FnOk l.prog w (K w.params) mg base (CX w) k fa fd [x] (sp w))
    (hsp : ∀ (w : World) (H : Hp) (a : Addr) (ns : List Int), ns.length ≤ n → Only H → SqL (K w.params) H a (ns.map V.int) → sp w [.ref a] H (fun v _ => v = .bl true) fun _ _ _ => False)
    (hCX : ∀ (w : World) (H : Hp) (s : Shared) (e : Value) (s' : Shared), CX w [] H s (fun _ _ _ => False) e s' → False) :
    PySem.W.WalkO q loose XP YP l.row.toRowW d [] (fun f vs => PySem.call f vs) := by
  refine Att.attach_call hn hdf fun w s₀ s₁ mg mb fa o pm cd doc a vs ns G Y ho hd hcd hmg hobj hints hlen hg => ?_
  have KX := hY w _ Y
  obtain ⟨fd, hb, hF⟩ := F w mg fa _ KX G.T.g hmg
  exact law_call KX G.T.g G.T.b G.T.builtins G.T.nolimit hg hobj hints (Nat.le_trans hlen hn2) hr hF hb (fun H hO hS => hsp w H a ns hlen hO hS) fun H e s' => hCX w H s₁ e s'
end L2



namespace L2
open PySem PySem.Spec PyProof.Rows

noncomputable def defArgs (s : Stmt) : Arguments := match s with
  | .FunctionDef _ a _ _ _ _ _ _ _ _ => a
  | _ => { posonlyargs := [], args := [], vararg := none, kwonlyargs := [], kw_defaults := [], kwarg := none, defaults := [] }
noncomputable def defBody (s : Stmt) : List Stmt := match s with
  | .FunctionDef _ _ b _ _ _ _ _ _ _ => b
  | _ => []
noncomputable def defScope (s : Stmt) : Scope := match s with
  | .FunctionDef _ _ _ _ _ _ sc _ _ _ => sc
  | _ => { kind := .function, names := [], isGenerator := false, isCoroutine := false }

noncomputable abbrev CX0 : CXT := fun _ _ _ _ _ _ => False
noncomputable abbrev E0 : XK := fun _ _ _ => False
theorem pass0 {X : Cx} : Passes CX0 X E0 := fun _ _ _ _ _ _ _ h => h.elim

structure Fun (K : PySem.W.Frag) (x qual : Str) (st : Stmt) (f : Addr) (fd : FuncData) : Prop where
  ex : ∃ (oc : Value) (od : Option Addr) (kV doc pm : Value) (an : Option Addr) (cdv ct : Value) (osl : Array (Option Value)),
    fd = PySem.W.fnOf x qual (defArgs st) (defBody st) (defScope st) .none kV doc pm an cdv ct ∧ K.lookup f = some ⟨oc, od, .func fd, osl⟩ ∧ PySem.W.codeIn K cdv qual = true
  kp : PySem.W.keepIn K (.ref f) = true
section
variable {P : Program} {w : World} {K : PySem.W.Frag} {mg : Str → Option Value} {base : Heap}
theorem Fun.ok {x qual : Str} {st : Stmt} {f : Addr} {fd : FuncData} {N ps : List Str} {k : Nat} {sp : Sp} (F : Fun K x qual st f fd) (S : FnScope N ps (defScope st)) (len : ∀ vs H Q E, sp vs H Q E → vs.length = ps.length)
    (hbody : ∀ (cdv : Value) (A : Around) (outer : List Env) (s : Shared) (H : Hp) (vs : List V) (Q : VK) (E : XK), Room k (A.deeper (envOfC qual (defScope st) s.heap.objs.size f cdv)) → sp vs H Q E →
      ∃ t, PSs (cxOf CX0 P w K mg base N qual (defScope st) f cdv A outer s H E).nox (defBody st) t ∧ t { nx := fun _ H' => Q .non H', rt := Q } (start N vs) H) : FnOk P w K mg base CX0 (k + 1) f fd ps sp := by
  obtain ⟨oc, od, kV, doc, pm, an, cdv, ct, osl, rfl, lk, hcd⟩ := F.ex
  refine fn_of lk hcd S len fun A outer s H vs Q E hr hsp => ?_
  obtain ⟨t, h, q⟩ := hbody cdv A outer s H vs Q E hr hsp
  exact ⟨t, h.nox, q⟩
theorem Fun.binds {x qual : Str} {st : Stmt} {f : Addr} {fd : FuncData} {ps : List Str} (F : Fun K x qual st f fd)
    (h : ∀ (kV doc pm : Value) (an : Option Addr) (cdv ct : Value) (us : List Value), us.length = ps.length → bindArgs (PySem.W.fnOf x qual (defArgs st) (defBody st) (defScope st) .none kV doc pm an cdv ct) ⟨us, []⟩ = pure (ps.zip us)) : Binds K fd ps [] := by
  obtain ⟨oc, od, kV, doc, pm, an, cdv, ct, osl, rfl, lk, hcd⟩ := F.ex
  exact .all (h kV doc pm an cdv ct)
theorem fun_mk {x qual : Str} {st : Stmt} {f : Addr} {oc : Value} {od an : Option Addr} {osl : Array (Option Value)} {kV doc pm cdv ct : Value} (l : K.lookup f = some ⟨oc, od, .func (PySem.W.fnOf x qual (defArgs st) (defBody st) (defScope st) .none kV doc pm an cdv ct), osl⟩)
    (c : PySem.W.codeIn K cdv qual = true) (k : PySem.W.keepIn K (.ref f) = true) : Fun K x qual st f (PySem.W.fnOf x qual (defArgs st) (defBody st) (defScope st) .none kV doc pm an cdv ct) := ⟨⟨oc, od, kV, doc, pm, an, cdv, ct, osl, rfl, l, c⟩, k⟩
end
theorem small1000 {n : Nat} (h : n ≤ 1000) : n < sizeLine := Nat.lt_of_le_of_lt h (by decide)

section
variable {X : Cx}
theorem pv (i : Nat) {x : Str} {pos : Pos} (hN : X.N[i]? = some x := by rfl) (hv : Vis X.env.scope x := by first | exact Or.inl rfl | exact Or.inr (Or.inl rfl) | exact Or.inr (Or.inr rfl)) (hd : (x == ("__debug__" : Str)) = false := by decide)
    (hcd : (x == ("__classdict__" : Str)) = false := by decide) : PE X (.Name x pos) (tVar i) := pe_var hN hv hd hcd
end

noncomputable def Same (H H' : Hp) : Prop := ∀ b o, H b = some o → H' b = some o
theorem Same.refl (H : Hp) : Same H H := fun _ _ h => h
theorem Same.trans {H H1 H2 : Hp} (a : Same H H1) (b : Same H1 H2) : Same H H2 := fun c o h => b c o (a c o h)
theorem Same.free {H H' : Hp} (e : Same H H') {l : Addr} (h : H' l = Option.none) : H l = Option.none := by
  cases q : H l with
  | none => rfl
  | some o =>
    rw [e l o q] at h
    cases h
theorem Same.seq {K : PySem.W.Frag} {H H' : Hp} {a : Addr} {xs : List V} (e : Same H H') (h : SqL K H a xs) : SqL K H' a xs := by
  rcases h with (h | ⟨o, h⟩) | h
  · exact .inl (.inl (e _ _ h))
  · exact .inl (.inr ⟨o, e _ _ h⟩)
  · exact .inr h

end L2

namespace L2
open PySem PySem.Spec PyProof.Rows
section
variable {κ : Type} [DecidableEq κ]
noncomputable def valV (kvs : List (κ × V)) (k : κ) : Option V := (kvs.find? fun kv => decide (kv.1 = k)).map (·.2)
noncomputable def putK (kvs : List (κ × V)) (k : κ) (v : V) : List (κ × V) :=
  if (kvs.any fun kv => decide (kv.1 = k)) = true then kvs.map (fun kv => if kv.1 = k then (kv.1, v) else kv) else kvs ++ [(k, v)]
noncomputable def dropK (kvs : List (κ × V)) (k : κ) : List (κ × V) := kvs.filter fun kv => decide (kv.1 ≠ k)

end


noncomputable abbrev KT (H : Hp) : List (List Key × V) → List (List Key × Addr × Value) → Prop := Paired fun p q => p.1 = q.1 ∧ H q.2.1 = some (.tup (p.1.map kV)) ∧ RelV p.2 q.2.2
section
variable {P : Program} {w : World} {H : Hp} {h : Heap} {a : Addr}
end

noncomputable def DGet (H : Hp) (a : Addr) (y : V) (r : Option V) : Prop :=
  (∃ kvs k, Rd H a (.dK kvs) ∧ y = kV k ∧ r = valV kvs k) ∨ ∃ kvs k b, Rd H a (.dT kvs) ∧ y = .ref b ∧ H b = some (.tup (k.map kV)) ∧ r = valV kvs k
noncomputable def DPut (H : Hp) (a : Addr) (y v : V) (H' : Hp) : Prop :=
  (∃ kvs k, H a = some (.dK kvs) ∧ y = kV k ∧ kvs.length < sizeLine ∧ H' = upd H a (.dK (putK kvs k v))) ∨
  ∃ kvs k b, H a = some (.dT kvs) ∧ y = .ref b ∧ H b = some (.tup (k.map kV)) ∧ kvs.length < sizeLine ∧ H' = upd H a (.dT (putK kvs k v))
section
variable {X : Cx} {pins : List (Addr × Obj)} {σ : St} {H : Hp} {s : Shared} {a : Addr} {y v : V} {u r : Value} {o : Option V} {A : Around} {E : Value → Shared → Prop}

end

section
variable {X : Cx} {pins : List (Addr × Obj)} {σ : St} {H : Hp} {s : Shared} {a : Addr} {kvs : List (Key × V)} {k : Key} {u : Value} {A : Around} {E : Value → Shared → Prop}
end


section
variable {X : Cx} {o i e value : Expr} {pos pos' tpos : Pos} {td ty tv : TE}
end


section
variable {X : Cx} {pos : Pos}
end

section
variable {X : Cx} {pins : List (Addr × Obj)} {σ : St} {H : Hp} {s : Shared} {a : Addr} {y d : V} {u r : Value} {o : Option V} {A : Around} {E : Value → Shared → Prop}
end

section
variable {X : Cx} {o e f : Expr} {apos cpos : Pos} {td ty tx : TE}
end

section
variable {X : Cx} {pins : List (Addr × Obj)} {σ : St} {H : Hp} {s : Shared} {a : Addr} {kvs : List (Key × V)} {A : Around} {E : Value → Shared → Prop}
end


section
variable {X : Cx} {pins : List (Addr × Obj)} {σ : St} {H : Hp} {s : Shared} {a : Addr} {y : V} {u : Value} {A : Around} {E : Value → Shared → Prop}
end
end L2


set_option Elab.async false
set_option linter.all false
set_option maxRecDepth 100000
set_option maxHeartbeats 4000000
namespace D3
open PySem PySem.Spec PyProof.Rows L2

inductive D where
  | non | bl (b : Bool) | int (i : Int) | str (x : Str) | tup (ds : List D) | lst (ds : List D)

noncomputable def KL (K : PySem.W.Frag) (a : Addr) (xs : List V) : Prop :=
  ∃ (o : Obj) (its : Array Value) (n : Nat), K.lookup a = some o ∧ o.cls = .type "list" ∧ o.dict = none ∧ o.data = .seq its n ∧ its.size ≤ sizeLine ∧ Vals xs its.toList
noncomputable def LR (K : PySem.W.Frag) (S : Addr → Prop) (H : Hp) (a : Addr) (xs : List V) : Prop := (¬ S a ∧ Rd H a (.lst xs)) ∨ KL K a xs
theorem LR.sq {K : PySem.W.Frag} {S : Addr → Prop} {H : Hp} {a : Addr} {xs : List V} (h : LR K S H a xs) : SqL K H a xs := h.elim (fun x => .inl x.2) .inr

mutual
noncomputable def Rep (K : PySem.W.Frag) (S : Addr → Prop) (H : Hp) : D → V → Prop
  | .non, v => v = .non
  | .bl b, v => v = .bl b
  | .int i, v => v = .int i
  | .str x, v => v = .str x
  | .tup ds, v => ∃ a xs, v = .ref a ∧ SqT K H a xs ∧ Reps K S H ds xs
  | .lst ds, v => ∃ a xs, v = .ref a ∧ LR K S H a xs ∧ Reps K S H ds xs
noncomputable def Reps (K : PySem.W.Frag) (S : Addr → Prop) (H : Hp) : List D → List V → Prop
  | [], xs => xs = []
  | d :: ds, xs => ∃ x r, xs = x :: r ∧ Rep K S H d x ∧ Reps K S H ds r
end

section
variable {K : PySem.W.Frag} {S S' : Addr → Prop} {H H' : Hp}
mutual
theorem Rep.map (hT : ∀ b xs, SqT K H b xs → SqT K H' b xs) (hL : ∀ b xs, LR K S H b xs → LR K S' H' b xs) : ∀ (d : D) (v : V), Rep K S H d v → Rep K S' H' d v
  | .non, v, h => by simpa only [Rep] using h
  | .bl b, v, h => by simpa only [Rep] using h
  | .int i, v, h => by simpa only [Rep] using h
  | .str x, v, h => by simpa only [Rep] using h
  | .tup ds, v, h => by
    simp only [Rep] at h ⊢
    obtain ⟨a, xs, e, q, r⟩ := h
    exact ⟨a, xs, e, hT a xs q, Reps.map hT hL ds xs r⟩
  | .lst ds, v, h => by
    simp only [Rep] at h ⊢
    obtain ⟨a, xs, e, q, r⟩ := h
    exact ⟨a, xs, e, hL a xs q, Reps.map hT hL ds xs r⟩
theorem Reps.map (hT : ∀ b xs, SqT K H b xs → SqT K H' b xs) (hL : ∀ b xs, LR K S H b xs → LR K S' H' b xs) : ∀ (ds : List D) (vs : List V), Reps K S H ds vs → Reps K S' H' ds vs
  | [], vs, h => by simpa only [Reps] using h
  | d :: ds, vs, h => by
    simp only [Reps] at h ⊢
    obtain ⟨x, r, e, q, t⟩ := h
    exact ⟨x, r, e, Rep.map hT hL d x q, Reps.map hT hL ds r t⟩
end
theorem same_tup (h : Same H H') : ∀ b xs, SqT K H b xs → SqT K H' b xs := fun b xs q => by
  rcases q with (q | ⟨o, q⟩) | q
  · exact .inl (.inl (h _ _ q))
  · exact .inl (.inr ⟨o, h _ _ q⟩)
  · exact .inr q
theorem same_lr (h : Same H H') : ∀ b xs, LR K S H b xs → LR K S H' b xs := fun b xs q => by
  rcases q with ⟨n, q | ⟨o, q⟩⟩ | q
  · exact .inl ⟨n, .inl (h _ _ q)⟩
  · exact .inl ⟨n, .inr ⟨o, h _ _ q⟩⟩
  · exact .inr q
theorem Rep.same {d : D} {v : V} (h : Same H H') (r : Rep K S H d v) : Rep K S H' d v := Rep.map (same_tup h) (same_lr h) d v r
theorem Reps.same {d : List D} {v : List V} (h : Same H H') (r : Reps K S H d v) : Reps K S H' d v := Reps.map (same_tup h) (same_lr h) d v r
theorem sub_lr (hs : ∀ a, S' a → S a) : ∀ b xs, LR K S H b xs → LR K S' H b xs := fun b xs q => q.elim (fun x => .inl ⟨fun z => x.1 (hs _ z), x.2⟩) .inr
theorem Rep.sub {d : D} {v : V} (hs : ∀ a, S' a → S a) (r : Rep K S H d v) : Rep K S' H d v := Rep.map (fun _ _ x => x) (sub_lr hs) d v r
theorem Reps.sub {d : List D} {v : List V} (hs : ∀ a, S' a → S a) (r : Reps K S H d v) : Reps K S' H d v := Reps.map (fun _ _ x => x) (sub_lr hs) d v r

theorem Reps.nil : Reps K S H [] [] := by simp only [Reps]
theorem Reps.cons {d : D} {ds : List D} {v : V} {vs : List V} (h : Rep K S H d v) (t : Reps K S H ds vs) : Reps K S H (d :: ds) (v :: vs) := by
  simp only [Reps]; exact ⟨v, vs, rfl, h, t⟩
theorem Reps.len : ∀ {ds : List D} {vs : List V}, Reps K S H ds vs → ds.length = vs.length
  | [], vs, h => by simp only [Reps] at h; subst h; rfl
  | d :: ds, vs, h => by
    simp only [Reps] at h
    obtain ⟨x, r, e, _, t⟩ := h
    subst e
    simp only [List.length_cons, Reps.len t]
theorem Reps.get : ∀ {ds : List D} {vs : List V} {i : Nat} {d : D}, Reps K S H ds vs → ds[i]? = some d → ∃ v, vs[i]? = some v ∧ Rep K S H d v
  | [], vs, i, d, h, e => by simp at e
  | c :: ds, vs, 0, d, h, e => by
    simp only [Reps] at h
    obtain ⟨x, r, rfl, q, t⟩ := h
    simp at e; subst e
    exact ⟨x, rfl, q⟩
  | c :: ds, vs, i + 1, d, h, e => by
    simp only [Reps] at h
    obtain ⟨x, r, rfl, q, t⟩ := h
    exact Reps.get t (i := i) (by simpa using e)
theorem Reps.getV : ∀ {ds : List D} {vs : List V} {i : Nat} {v : V}, Reps K S H ds vs → vs[i]? = some v → ∃ d, ds[i]? = some d ∧ Rep K S H d v := fun {ds vs i v} h e => by
  have hl := h.len
  have hi : i < ds.length := by rw [hl]; exact (List.getElem?_eq_some_iff.mp e).1
  obtain ⟨v', e', r⟩ := h.get (i := i) (d := ds[i]) (by simp [hi])
  rw [e] at e'; cases e'
  exact ⟨ds[i], by simp [hi], r⟩
theorem Reps.app : ∀ {ds es : List D} {vs us : List V}, Reps K S H ds vs → Reps K S H es us → Reps K S H (ds ++ es) (vs ++ us)
  | [], es, vs, us, h, h2 => by simp only [Reps] at h; subst h; exact h2
  | d :: ds, es, vs, us, h, h2 => by
    simp only [Reps] at h
    obtain ⟨x, r, rfl, q, t⟩ := h
    exact Reps.cons q (Reps.app t h2)
theorem Reps.drop : ∀ {ds : List D} {vs : List V} (n : Nat), Reps K S H ds vs → Reps K S H (ds.drop n) (vs.drop n)
  | ds, vs, 0, h => h
  | [], vs, n + 1, h => by simp only [Reps] at h; subst h; exact Reps.nil
  | d :: ds, vs, n + 1, h => by
    simp only [Reps] at h
    obtain ⟨x, r, rfl, q, t⟩ := h
    exact Reps.drop n t
theorem Reps.take : ∀ {ds : List D} {vs : List V} (n : Nat), Reps K S H ds vs → Reps K S H (ds.take n) (vs.take n)
  | ds, vs, 0, h => Reps.nil
  | [], vs, n + 1, h => by simp only [Reps] at h; subst h; exact Reps.nil
  | d :: ds, vs, n + 1, h => by
    simp only [Reps] at h
    obtain ⟨x, r, rfl, q, t⟩ := h
    exact Reps.cons q (Reps.take n t)
theorem Reps.set : ∀ {ds : List D} {vs : List V} {d : D} {v : V} (n : Nat), Reps K S H ds vs → Rep K S H d v → Reps K S H (ds.set n d) (vs.set n v)
  | [], vs, d, v, n, h, q => by simp only [Reps] at h; subst h; exact Reps.nil
  | c :: ds, vs, d, v, 0, h, q => by
    simp only [Reps] at h
    obtain ⟨x, r, rfl, _, t⟩ := h
    exact Reps.cons q t
  | c :: ds, vs, d, v, n + 1, h, q => by
    simp only [Reps] at h
    obtain ⟨x, r, rfl, p, t⟩ := h
    exact Reps.cons p (Reps.set n t q)
theorem Reps.ints (ns : List Int) : Reps K S H (ns.map D.int) (ns.map V.int) := by
  induction ns with
  | nil => exact Reps.nil
  | cons n ns ih => exact Reps.cons (by simp only [Rep]) ih
theorem Reps.intsV : ∀ {ns : List Int} {vs : List V}, Reps K S H (ns.map D.int) vs → vs = ns.map V.int
  | [], vs, h => by simpa only [List.map_nil, Reps] using h
  | n :: ns, vs, h => by
    simp only [List.map_cons, Reps, Rep] at h
    obtain ⟨x, r, rfl, rfl, t⟩ := h
    rw [Reps.intsV t, List.map_cons]

theorem rep_int {i : Int} {v : V} (h : Rep K S H (.int i) v) : v = .int i := by simpa only [Rep] using h
theorem rep_bl {i : Bool} {v : V} (h : Rep K S H (.bl i) v) : v = .bl i := by simpa only [Rep] using h
theorem rep_str {i : Str} {v : V} (h : Rep K S H (.str i) v) : v = .str i := by simpa only [Rep] using h
theorem rep_non {v : V} (h : Rep K S H .non v) : v = .non := by simpa only [Rep] using h
theorem Rep.int {i : Int} : Rep K S H (.int i) (.int i) := by simp only [Rep]
theorem Rep.bl {i : Bool} : Rep K S H (.bl i) (.bl i) := by simp only [Rep]
theorem Rep.str {i : Str} : Rep K S H (.str i) (.str i) := by simp only [Rep]
theorem Rep.non : Rep K S H .non .non := by simp only [Rep]
theorem rep_tup {ds : List D} {v : V} (h : Rep K S H (.tup ds) v) : ∃ a xs, v = .ref a ∧ SqT K H a xs ∧ Reps K S H ds xs := by simpa only [Rep] using h
theorem rep_lst {ds : List D} {v : V} (h : Rep K S H (.lst ds) v) : ∃ a xs, v = .ref a ∧ LR K S H a xs ∧ Reps K S H ds xs := by simpa only [Rep] using h
theorem Rep.tup {ds : List D} {a : Addr} {xs : List V} (h : SqT K H a xs) (r : Reps K S H ds xs) : Rep K S H (.tup ds) (.ref a) := by simp only [Rep]; exact ⟨a, xs, rfl, h, r⟩
theorem Rep.lst {ds : List D} {a : Addr} {xs : List V} (h : LR K S H a xs) (r : Reps K S H ds xs) : Rep K S H (.lst ds) (.ref a) := by simp only [Rep]; exact ⟨a, xs, rfl, h, r⟩
theorem same_new {p : Addr} {o : HO} (h : H p = none) : Same H (upd H p o) := fun b u e => by rw [upd_ne (ne_of_none e h)]; exact e
noncomputable def SOk (S : Addr → Prop) (H : Hp) : Prop := ∀ a, S a → ∃ o, H a = some o
theorem SOk.same (h : SOk S H) (e : Same H H') : SOk S H' := fun a q => let ⟨o, x⟩ := h a q; ⟨o, e _ _ x⟩
theorem SOk.free {p : Addr} (h : SOk S H) (e : H p = none) : ¬ S p := fun q => by obtain ⟨o, x⟩ := h p q; rw [e] at x; cases x
theorem Rep.newTup {p : Addr} {ds : List D} {xs : List V} (h : H p = none) (r : Reps K S H ds xs) : Rep K S (upd H p (.tup xs)) (.tup ds) (.ref p) := Rep.tup (SqT.of upd_same) (r.same (same_new h))
theorem Rep.newLst {p : Addr} {ds : List D} {xs : List V} (s : SOk S H) (h : H p = none) (r : Reps K S H ds xs) : Rep K S (upd H p (.lst xs)) (.lst ds) (.ref p) := Rep.lst (.inl ⟨s.free h, .of upd_same⟩) (r.same (same_new h))
end

noncomputable def hash2 (ks : List (List Int)) : Int := reduceHash (Builtin.Tuple.tupleHashOf (ks.map fun k => reduceHash (Builtin.Tuple.tupleHashOf (k.map hashInt))))
noncomputable def ents : List (List (List Int)) → List Addr → List Value → List DictEntry
  | k :: ks, b :: bs, u :: us => ⟨hash2 k, .ref b, u⟩ :: ents ks bs us
  | _, _, _ => []
noncomputable def DX (a : Addr) (kss : List (List (List Int))) (bs : List Addr) (xs : List V) (h : Heap) : Prop := ∃ (us : List Value) (o : Obj) (es : Array DictEntry) (ep : Nat), Vals xs us ∧ h.get? a = some o ∧ o.ExactDict ∧ o.data = .dict es ep ∧ es.toList = ents kss bs us
noncomputable def kD (ks : List (List Int)) : D := .tup (ks.map fun ns => .tup (ns.map .int))
noncomputable def DctAt (K : PySem.W.Frag) (S : Addr → Prop) (H : Hp) (a : Addr) (ks ds : List D) : Prop :=
  (∃ (ns : List Int) (xs : List V), ks = .bl false :: ns.map .int ∧ ns.Nodup ∧ ns.length = xs.length ∧ H a = some (.dK ((ns.map Sum.inl).zip xs)) ∧ Reps K S H ds xs) ∨
  (∃ (kss : List (List (List Int))) (bs : List Addr) (xs : List V), ks = .bl true :: kss.map kD ∧ kss.Nodup ∧ (a == sysModules) = false ∧ kss.length ≤ sizeLine ∧ kss.length = bs.length ∧ kss.length = xs.length ∧ H a = some (.ext (DX a kss bs xs)) ∧ Reps K S H (kss.map kD) (bs.map V.ref) ∧ Reps K S H ds xs)
theorem DctAt.map {K : PySem.W.Frag} {S S' : Addr → Prop} {H H' : Hp} {a : Addr} {ks ds : List D} (h : DctAt K S H a ks ds) (mvs : ∀ {c : List D} {w : List V}, Reps K S H c w → Reps K S' H' c w) (e : H' a = H a) : DctAt K S' H' a ks ds := by
  rcases h with ⟨ns, xs, h1, h2, h3, h4, h5⟩ | ⟨kss, bs, xs, h1, h2, h3, h4, h5, h6, h7, h8, h9⟩
  · exact .inl ⟨ns, xs, h1, h2, h3, e.trans h4, mvs h5⟩
  · exact .inr ⟨kss, bs, xs, h1, h2, h3, h4, h5, h6, e.trans h7, mvs h8, mvs h9⟩
theorem DctAt.isO {K : PySem.W.Frag} {S : Addr → Prop} {H : Hp} {a : Addr} {ks ds : List D} (h : DctAt K S H a ks ds) : ∃ o, H a = some o ∧ ∀ xs, o ≠ .lst xs := by
  rcases h with ⟨_, _, _, _, _, h, _⟩ | ⟨_, _, _, _, _, _, _, _, _, h, _⟩
  · exact ⟨_, h, fun _ z => by cases z⟩
  · exact ⟨_, h, fun _ z => by cases z⟩
theorem DctAt.ne {K : PySem.W.Frag} {S : Addr → Prop} {H : Hp} {a b : Addr} {ks ds : List D} {xs : List V} (h : DctAt K S H a ks ds) (hb : H b = some (.lst xs)) : a ≠ b := fun z => by
  obtain ⟨o, e, n⟩ := h.isO
  rw [z, hb] at e
  cases e
  exact n _ rfl
theorem DctAt.ne' {K : PySem.W.Frag} {S : Addr → Prop} {H : Hp} {a b : Addr} {ks ds : List D} (h : DctAt K S H a ks ds) (hb : H b = none) : a ≠ b := fun z => by
  obtain ⟨o, e, n⟩ := h.isO
  rw [z, hb] at e
  cases e
theorem DctAt.go {K : PySem.W.Frag} {S : Addr → Prop} {H H' : Hp} {a : Addr} {ks ds : List D} (h : DctAt K S H a ks ds) (s : Same H H') : DctAt K S H' a ks ds := by
  obtain ⟨o, e, _⟩ := h.isO
  exact h.map (fun r => r.same s) ((s _ _ e).trans e.symm)
inductive Sl where
  | un | val (d : D) | own (ds : List D) | dct (ks ds : List D)
noncomputable abbrev Fr3 := List Sl
structure Bs where
  S0 : Addr → Prop
  H0 : Hp
  gh : List (D × V)
structure ER (K : PySem.W.Frag) (B : Bs) (S : Addr → Prop) (H : Hp) (σ : L2.St) (ρ : Fr3) : Prop where
  len : σ.length = ρ.length
  same : Same B.H0 H
  sub : ∀ a, B.S0 a → S a
  ok0 : SOk B.S0 B.H0
  ok : SOk S H
  val : ∀ (i : Nat) d, ρ[i]? = some (.val d) → ∃ v, σ[i]? = some (some v) ∧ Rep K S H d v
  own : ∀ (i : Nat) ds, ρ[i]? = some (.own ds) → ∃ a xs, σ[i]? = some (some (.ref a)) ∧ S a ∧ B.H0 a = none ∧ H a = some (.lst xs) ∧ Reps K S H ds xs
  uq : ∀ (i j : Nat) a ds es, ρ[i]? = some (.own ds) → ρ[j]? = some (.own es) → σ[i]? = some (some (.ref a)) → σ[j]? = some (some (.ref a)) → i = j
  dct : ∀ (i : Nat) ks ds, ρ[i]? = some (.dct ks ds) → ∃ a, σ[i]? = some (some (.ref a)) ∧ S a ∧ B.H0 a = none ∧ DctAt K S H a ks ds
  dq : ∀ (i j : Nat) a ks ds ks' ds', ρ[i]? = some (.dct ks ds) → ρ[j]? = some (.dct ks' ds') → σ[i]? = some (some (.ref a)) → σ[j]? = some (some (.ref a)) → i = j
  gh : ∀ p ∈ B.gh, Rep K S H p.1 p.2
theorem ER.go {K : PySem.W.Frag} {B : Bs} {S : Addr → Prop} {H H' : Hp} {σ : L2.St} {ρ : Fr3} (e : ER K B S H σ ρ) (h : Same H H') : ER K B S H' σ ρ where
  len := e.len
  same := e.same.trans h
  sub := e.sub
  ok0 := e.ok0
  ok := e.ok.same h
  val := fun i d q => let ⟨v, a, r⟩ := e.val i d q; ⟨v, a, r.same h⟩
  own := fun i ds q => let ⟨a, xs, x, y, z, u, r⟩ := e.own i ds q; ⟨a, xs, x, y, z, h _ _ u, r.same h⟩
  uq := e.uq
  dct := fun i ks ds q => let ⟨a, x, y, z, u⟩ := e.dct i ks ds q; ⟨a, x, y, z, u.go h⟩
  dq := e.dq
  gh := fun p hp => (e.gh p hp).same h

noncomputable abbrev E3 := Fr3 → (D → Prop) → Prop
noncomputable abbrev B3 := Fr3 → (Bool → Prop) → Prop
noncomputable abbrev A3 := Fr3 → (List D → Prop) → Prop
inductive F3 where
  | nx (ρ : Fr3) | rt (d : D) | bk (ρ : Fr3) | ct (ρ : Fr3)
noncomputable abbrev S3 := (F3 → Prop) → Fr3 → Prop
noncomputable def Hand (K : PySem.W.Frag) (S : Addr → Prop) (H : Hp) (Φ : D → Prop) (Q : VK) : Prop := ∀ d v H', Φ d → Same H H' → Rep K S H' d v → Q v H'
noncomputable def PD (X : Cx) (e : Expr) (t : E3) : Prop := ∃ t2, PE X e t2 ∧ ∀ B S H σ ρ Φ Q, ER X.K B S H σ ρ → t ρ Φ → Hand X.K S H Φ Q → t2 σ H Q
noncomputable def PB (X : Cx) (e : Expr) (t : B3) : Prop := ∃ t2, PT X e t2 ∧ ∀ B S H σ ρ Φ (Q : Bool → Hp → Prop), ER X.K B S H σ ρ → t ρ Φ → (∀ b H', Φ b → Same H H' → Q b H') → t2 σ H Q
noncomputable def PWB (X : Cx) (e : Expr) (t : B3) : Prop := ∃ t2, PW X e t2 ∧ ∀ B S H σ ρ Φ (Q : Bool → Hp → Prop), ER X.K B S H σ ρ → t ρ Φ → (∀ b H', Φ b → Same H H' → Q b H') → t2 σ H Q
noncomputable def PAD (X : Cx) (es : List Expr) (t : A3) : Prop := ∃ t2, PA X es t2 ∧ ∀ B S H σ ρ Φ (Q : List V → Hp → Prop), ER X.K B S H σ ρ → t ρ Φ → (∀ ds vs H', Φ ds → Same H H' → Reps X.K S H' ds vs → Q vs H') → t2 σ H Q
structure EndOk (K : PySem.W.Frag) (B : Bs) (Φ : F3 → Prop) (D' : Ends) : Prop where
  nx : ∀ ρ S H σ, Φ (.nx ρ) → ER K B S H σ ρ → D'.nx σ H
  bk : ∀ ρ S H σ, Φ (.bk ρ) → ER K B S H σ ρ → D'.bk σ H
  ct : ∀ ρ S H σ, Φ (.ct ρ) → ER K B S H σ ρ → D'.ct σ H
  rt : ∀ d v H, Φ (.rt d) → Same B.H0 H → Rep K B.S0 H d v → D'.rt v H
noncomputable def PSD (X : Cx) (st : Stmt) (t : S3) : Prop := ∃ t2, PS X st t2 ∧ ∀ B S H σ ρ Φ D', ER X.K B S H σ ρ → t Φ ρ → EndOk X.K B Φ D' → t2 D' σ H
noncomputable def PSDs (X : Cx) (st : List Stmt) (t : S3) : Prop := ∃ t2, PSs X st t2 ∧ ∀ B S H σ ρ Φ D', ER X.K B S H σ ρ → t Φ ρ → EndOk X.K B Φ D' → t2 D' σ H
end D3

set_option Elab.async false
set_option linter.all false
set_option maxRecDepth 100000
set_option maxHeartbeats 4000000
namespace D3
open PySem PySem.Spec PyProof.Rows L2
section
variable {X : Cx} {a b c e : Expr} {ta tb tc te : E3} {pos : Pos}
theorem Hand.go {K : PySem.W.Frag} {S : Addr → Prop} {H H1 : Hp} {Φ : D → Prop} {Q : VK} (h : Hand K S H Φ Q) (s : Same H H1) : Hand K S H1 Φ Q := fun d v H' p q r => h d v H' p (s.trans q) r

noncomputable abbrev dVar (i : Nat) : E3 := fun ρ Φ => match ρ[i]? with | some (.val d) => Φ d | _ => False
theorem pd_var {i : Nat} (h : PE X e (tVar i)) : PD X e (dVar i) := ⟨_, h, fun B S H σ ρ Φ Q er h hd => by
  unfold dVar at h
  split at h
  · rename_i d q
    obtain ⟨v, a, r⟩ := er.val i d q
    exact ⟨v, a, hd d v H h (Same.refl _) r⟩
  · exact h.elim⟩
noncomputable abbrev dC (d : D) : E3 := fun _ Φ => Φ d
theorem pd_int {i j pos} : PD X (.Constant (.int i) j pos) (dC (.int i)) := ⟨_, pe_int, fun _ _ H _ _ _ _ _ h hd => hd _ _ H h (Same.refl _) Rep.int⟩
theorem pd_bl {i j pos} : PD X (.Constant (.bool i) j pos) (dC (.bl i)) := ⟨_, pe_bl, fun _ _ H _ _ _ _ _ h hd => hd _ _ H h (Same.refl _) Rep.bl⟩
theorem pd_str {x j pos} : PD X (.Constant (.str x) j pos) (dC (.str x)) := ⟨_, pe_str, fun _ _ H _ _ _ _ _ h hd => hd _ _ H h (Same.refl _) Rep.str⟩

noncomputable abbrev R3 := D → D → (D → Prop) → Prop
noncomputable def OpD (X : Cx) (f : Value → Value → Sem Value) (r3 : R3) : Prop :=
  ∃ r, OpR X f r ∧ ∀ S H x y u v Φ Q, SOk S H → Rep X.K S H x u → Rep X.K S H y v → r3 x y Φ → Hand X.K S H Φ Q → r u v H Q
noncomputable abbrev dOp (r : R3) (ta tb : E3) : E3 := fun ρ Φ => ta ρ fun x => tb ρ fun y => r x y Φ
theorem two {r : R3} {r2 : R2} {ta2 tb2 : TE} (wa : ∀ B S H σ ρ Φ Q, ER X.K B S H σ ρ → ta ρ Φ → Hand X.K S H Φ Q → ta2 σ H Q) (wb : ∀ B S H σ ρ Φ Q, ER X.K B S H σ ρ → tb ρ Φ → Hand X.K S H Φ Q → tb2 σ H Q)
    (wr : ∀ S H x y u v Φ Q, SOk S H → Rep X.K S H x u → Rep X.K S H y v → r x y Φ → Hand X.K S H Φ Q → r2 u v H Q) :
    ∀ B S H σ ρ Φ Q, ER X.K B S H σ ρ → dOp r ta tb ρ Φ → Hand X.K S H Φ Q → tOp r2 ta2 tb2 σ H Q := fun B S H σ ρ Φ Q er h hd =>
  wa B S H σ ρ _ _ er h fun x u H1 hx s1 rx => wb B S H1 σ ρ _ _ (er.go s1) hx fun y v H2 hy s2 ry =>
    wr S H2 x y u v Φ Q ((er.ok.same s1).same s2) (rx.same s2) ry hy (hd.go (s1.trans s2))
theorem pd_op {op : Operator} {r : R3} (ho : OpD X (binaryOp op) r) (ha : PD X a ta) (hb : PD X b tb) : PD X (.BinOp a op b pos) (dOp r ta tb) := by
  obtain ⟨r2, ho, wr⟩ := ho; obtain ⟨ta2, ha, wa⟩ := ha; obtain ⟨tb2, hb, wb⟩ := hb
  exact ⟨_, pe_op ho ha hb, two wa wb wr⟩
theorem pd_cmp {op : CmpOp} {r : R3} (ho : OpD X (compareOp op) r) (ha : PD X a ta) (hb : PD X b tb) (hm : behindInMarks op b = false) : PD X (.Compare a [op] [b] pos) (dOp r ta tb) := by
  obtain ⟨r2, ho, wr⟩ := ho; obtain ⟨ta2, ha, wa⟩ := ha; obtain ⟨tb2, hb, wb⟩ := hb
  exact ⟨_, pe_cmpR ho ha hb hm, two wa wb wr⟩
noncomputable abbrev dT (t : E3) : B3 := fun ρ Φ => t ρ fun d => match d with | .bl k => Φ k | _ => False
theorem toTest {t2 : TE} {t : E3} (w : ∀ B S H σ ρ Φ Q, ER X.K B S H σ ρ → t ρ Φ → Hand X.K S H Φ Q → t2 σ H Q) :
    ∀ B S H σ ρ Φ (Q : Bool → Hp → Prop), ER X.K B S H σ ρ → dT t ρ Φ → (∀ b H', Φ b → Same H H' → Q b H') → tTest t2 σ H Q := fun B S H σ ρ Φ Q er h hd =>
  w B S H σ ρ _ _ er h fun d v H' p s r => by
    cases d with
    | bl k => exact ⟨k, rep_bl r, hd k H' p s⟩
    | non => exact p.elim
    | int _ => exact p.elim
    | str _ => exact p.elim
    | tup _ => exact p.elim
    | lst _ => exact p.elim
theorem pb_cmp {op : CmpOp} {r : R3} (ho : OpD X (compareOp op) r) (ha : PD X a ta) (hb : PD X b tb) (hm : behindInMarks op b = false) : PB X (.Compare a [op] [b] pos) (dT (dOp r ta tb)) := by
  obtain ⟨r2, ho, wr⟩ := ho; obtain ⟨ta2, ha, wa⟩ := ha; obtain ⟨tb2, hb, wb⟩ := hb
  exact ⟨_, pt_cmpR ho ha hb hm, toTest (two wa wb wr)⟩
theorem pb_val (h : PD X e te) (he : ∀ whole, isTrue e X.env whole = (do let v ← whole; standAt e.pos; holding [v] (truthy v)) := by intro _; rfl) : PB X e (dT te) := by
  obtain ⟨t2, h, w⟩ := h
  exact ⟨_, pt_val h he, toTest w⟩

noncomputable abbrev dI (C : Int → Int → Prop) (g : Int → Int → D) : R3
  | .int i, .int j, Φ => C i j ∧ Φ (g i j)
  | _, _, _ => False
noncomputable abbrev dI0 (g : Int → Int → D) : R3
  | .int i, .int j, Φ => Φ (g i j)
  | _, _, _ => False
theorem opd {f : Value → Value → Sem Value} {C : Int → Int → Prop} {g : Int → Int → V} {g3 : Int → Int → D} (h : OpR X f (rI C g)) (hg : ∀ K S H i j, Rep K S H (g3 i j) (g i j)) : OpD X f (dI C g3) :=
  ⟨_, h, fun S H x y u v Φ Q so rx ry hr hd => by
    cases x <;> cases y <;> first | exact hr.elim | skip
    rename_i i j
    exact ⟨i, j, rep_int rx, rep_int ry, hr.1, hd _ _ H hr.2 (Same.refl _) (hg ..)⟩⟩
theorem opd0 {f : Value → Value → Sem Value} {g : Int → Int → V} {g3 : Int → Int → D} (h : OpR X f (rI0 g)) (hg : ∀ K S H i j, Rep K S H (g3 i j) (g i j)) : OpD X f (dI0 g3) :=
  ⟨_, h, fun S H x y u v Φ Q so rx ry hr hd => by
    cases x <;> cases y <;> first | exact hr.elim | skip
    rename_i i j
    exact ⟨i, j, rep_int rx, rep_int ry, hd _ _ H hr (Same.refl _) (hg ..)⟩⟩
noncomputable def CD (_ j : Int) : Prop := j ≠ 0 ∧ j.natAbs.log2 < 9000
theorem op_mulA : OpR X (binaryOp .Mult) (rI IntMulOk fun i j => .int (i * j)) := opI fun _ _ _ _ _ _ _ hc q => mul_int q hc
theorem op_fdivA : OpR X (binaryOp .FloorDiv) (rI CD fun i j => .int (i.fdiv j)) := opI fun _ _ _ _ _ _ _ hc q => floordiv_int hc.1 q (.inl (PyProof.noPylong_of_log2 hc.2))
theorem o_add : OpD X (binaryOp .Add) (dI0 fun i j => .int (i + j)) := opd0 op_add fun _ _ _ _ _ => Rep.int
theorem o_sub : OpD X (binaryOp .Sub) (dI0 fun i j => .int (i - j)) := opd0 op_sub fun _ _ _ _ _ => Rep.int
theorem o_mul : OpD X (binaryOp .Mult) (dI IntMulOk fun i j => .int (i * j)) := opd op_mulA fun _ _ _ _ _ => Rep.int
theorem o_fdiv : OpD X (binaryOp .FloorDiv) (dI CD fun i j => .int (i.fdiv j)) := opd op_fdivA fun _ _ _ _ _ => Rep.int
theorem o_mod : OpD X (binaryOp .Mod) (dI (fun _ j => j ≠ 0) fun i j => .int (i.fmod j)) := opd op_modN fun _ _ _ _ _ => Rep.int
theorem o_pow : OpD X (binaryOp .Pow) (dI CPow fun i j => .int (i ^ j.toNat)) := opd op_pow fun _ _ _ _ _ => Rep.int
theorem o_lt : OpD X (compareOp .Lt) (dI0 fun i j => .bl (decide (i < j))) := opd0 op_lt fun _ _ _ _ _ => Rep.bl
theorem o_le : OpD X (compareOp .LtE) (dI0 fun i j => .bl (decide (i ≤ j))) := opd0 op_le fun _ _ _ _ _ => Rep.bl
theorem o_gt : OpD X (compareOp .Gt) (dI0 fun i j => .bl (decide (j < i))) := opd0 op_gt fun _ _ _ _ _ => Rep.bl
noncomputable abbrev dEq : R3
  | .int i, .int j, Φ => Φ (.bl (decide (i = j)))
  | .bl i, .bl j, Φ => Φ (.bl (decide (i = j)))
  | .str i, .str j, Φ => Φ (.bl (decide (i = j)))
  | .non, .non, Φ => Φ (.bl true)
  | .non, .int _, Φ => Φ (.bl false)
  | .int _, .non, Φ => Φ (.bl false)
  | _, _, _ => False
noncomputable abbrev dNe : R3
  | .int i, .int j, Φ => Φ (.bl (!decide (i = j)))
  | .bl i, .bl j, Φ => Φ (.bl (!decide (i = j)))
  | .str i, .str j, Φ => Φ (.bl (!decide (i = j)))
  | .non, .non, Φ => Φ (.bl false)
  | .non, .int _, Φ => Φ (.bl true)
  | .int _, .non, Φ => Φ (.bl true)
  | _, _, _ => False
theorem dec_inj {α : Type} [DecidableEq α] {f : α → V} (hf : ∀ a b, f a = f b → a = b) (i j : α) : decide (f i = f j) = decide (i = j) := by
  by_cases h : i = j
  · subst h; simp
  · rw [decide_eq_false h, decide_eq_false fun q => h (hf _ _ q)]
theorem o_eq : OpD X (compareOp .Eq) dEq := ⟨_, op_eq, fun S H x y u v Φ Q so rx ry hr hd => by
  cases x <;> cases y <;> first | exact hr.elim | skip
  · cases rep_non rx; cases rep_non ry; exact ⟨rfl, hd _ _ H hr (Same.refl _) Rep.bl⟩
  · cases rep_non rx; cases rep_int ry; exact ⟨rfl, hd _ _ H hr (Same.refl _) Rep.bl⟩
  · rename_i i j
    cases rep_bl rx; cases rep_bl ry; refine ⟨rfl, hd _ _ H hr (Same.refl _) ?_⟩
    rw [dec_inj (fun a b q => V.bl.inj q)]; exact Rep.bl
  · cases rep_int rx; cases rep_non ry; exact ⟨rfl, hd _ _ H hr (Same.refl _) Rep.bl⟩
  · rename_i i j
    cases rep_int rx; cases rep_int ry; refine ⟨rfl, hd _ _ H hr (Same.refl _) ?_⟩
    rw [dec_inj (fun a b q => V.int.inj q)]; exact Rep.bl
  · rename_i i j
    cases rep_str rx; cases rep_str ry; refine ⟨rfl, hd _ _ H hr (Same.refl _) ?_⟩
    rw [dec_inj (fun a b q => V.str.inj q)]; exact Rep.bl⟩
theorem o_ne : OpD X (compareOp .NotEq) dNe := ⟨_, op_ne, fun S H x y u v Φ Q so rx ry hr hd => by
  cases x <;> cases y <;> first | exact hr.elim | skip
  · cases rep_non rx; cases rep_non ry; exact ⟨rfl, hd _ _ H hr (Same.refl _) Rep.bl⟩
  · cases rep_non rx; cases rep_int ry; exact ⟨rfl, hd _ _ H hr (Same.refl _) Rep.bl⟩
  · rename_i i j
    cases rep_bl rx; cases rep_bl ry; refine ⟨rfl, hd _ _ H hr (Same.refl _) ?_⟩
    rw [dec_inj (fun a b q => V.bl.inj q)]; exact Rep.bl
  · cases rep_int rx; cases rep_non ry; exact ⟨rfl, hd _ _ H hr (Same.refl _) Rep.bl⟩
  · rename_i i j
    cases rep_int rx; cases rep_int ry; refine ⟨rfl, hd _ _ H hr (Same.refl _) ?_⟩
    rw [dec_inj (fun a b q => V.int.inj q)]; exact Rep.bl
  · rename_i i j
    cases rep_str rx; cases rep_str ry; refine ⟨rfl, hd _ _ H hr (Same.refl _) ?_⟩
    rw [dec_inj (fun a b q => V.str.inj q)]; exact Rep.bl⟩
noncomputable abbrev dU (r : D → (D → Prop) → Prop) (ta : E3) : E3 := fun ρ Φ => ta ρ fun x => r x Φ
noncomputable abbrev dNeg : D → (D → Prop) → Prop
  | .int i, Φ => Φ (.int (-i))
  | _, _ => False
theorem pd_neg (ha : PD X a ta) : PD X (.UnaryOp .USub a pos) (dU dNeg ta) := by
  obtain ⟨ta2, ha, wa⟩ := ha
  refine ⟨_, pe_un un_neg ha, fun B S H σ ρ Φ Q er h hd => wa B S H σ ρ _ _ er h fun x u H1 hx s1 rx => ?_⟩
  cases x <;> first | exact hx.elim | skip
  exact ⟨_, rep_int rx, hd _ _ H1 hx s1 Rep.int⟩
variable {tA tB' : B3} {rest : List Expr}
noncomputable abbrev bAnd (t u : B3) : B3 := fun ρ Φ => t ρ fun k => if k = true then u ρ Φ else Φ false
noncomputable abbrev bOr (t u : B3) : B3 := fun ρ Φ => t ρ fun k => if k = true then Φ true else u ρ Φ
noncomputable abbrev bNot (t : B3) : B3 := fun ρ Φ => t ρ fun k => Φ (!k)
theorem PWB.pb {e : Expr} {t : B3} (h : PWB X e t) : PB X e t := let ⟨t2, h, w⟩ := h; ⟨t2, h.pt, w⟩
theorem pb_and1 (ha : PB X a tA) : PWB X (.BoolOp .And [a] pos) tA := let ⟨t2, h, w⟩ := ha; ⟨t2, pw_and1 h, w⟩
theorem pb_or1 (ha : PB X a tA) : PWB X (.BoolOp .Or [a] pos) tA := let ⟨t2, h, w⟩ := ha; ⟨t2, pw_or1 h, w⟩
theorem pb_and (ha : PB X a tA) (hb : PWB X (.BoolOp .And (b :: rest) pos) tB') : PWB X (.BoolOp .And (a :: b :: rest) pos) (bAnd tA tB') := by
  obtain ⟨t2, h, w⟩ := ha; obtain ⟨u2, g, z⟩ := hb
  refine ⟨_, pw_and h g, fun B S H σ ρ Φ Q er q hd => w B S H σ ρ _ _ er q fun k H1 hk s1 => ?_⟩
  cases k with
  | true =>
    have hk : tB' ρ Φ := by simpa using hk
    simp only [if_true]
    exact z B S H1 σ ρ _ _ (er.go s1) hk fun k2 H2 h2 s2 => hd k2 H2 h2 (s1.trans s2)
  | false =>
    have hk : Φ false := by simpa using hk
    simp only [Bool.false_eq_true, if_false]
    exact hd false H1 hk s1
theorem pb_or (ha : PB X a tA) (hb : PWB X (.BoolOp .Or (b :: rest) pos) tB') : PWB X (.BoolOp .Or (a :: b :: rest) pos) (bOr tA tB') := by
  obtain ⟨t2, h, w⟩ := ha; obtain ⟨u2, g, z⟩ := hb
  refine ⟨_, pw_or h g, fun B S H σ ρ Φ Q er q hd => w B S H σ ρ _ _ er q fun k H1 hk s1 => ?_⟩
  cases k with
  | true =>
    have hk : Φ true := by simpa using hk
    simp only [if_true]
    exact hd true H1 hk s1
  | false =>
    have hk : tB' ρ Φ := by simpa using hk
    simp only [Bool.false_eq_true, if_false]
    exact z B S H1 σ ρ _ _ (er.go s1) hk fun k2 H2 h2 s2 => hd k2 H2 h2 (s1.trans s2)
theorem pb_not (ha : PB X a tA) : PB X (.UnaryOp .Not a pos) (bNot tA) := by
  obtain ⟨t2, h, w⟩ := ha
  exact ⟨_, pt_not h, fun B S H σ ρ Φ Q er q hd => w B S H σ ρ _ _ er q fun k H1 hk s1 => hd _ H1 hk s1⟩
noncomputable abbrev dAnd (ta tb : E3) : E3 := fun ρ Φ => dT ta ρ fun k => if k = true then tb ρ Φ else Φ (.bl false)
noncomputable abbrev dNot (ta : E3) : E3 := fun ρ Φ => dT ta ρ fun k => Φ (.bl (!k))
theorem pd_one {op} {t : E3} (h : PD X a t) : PD X (.BoolOp op [a] pos) t := let ⟨t2, h, w⟩ := h; ⟨t2, pe_one h, w⟩
theorem pd_and (ha : PD X a ta) (hb : PD X (.BoolOp .And (b :: rest) pos) tb) : PD X (.BoolOp .And (a :: b :: rest) pos) (dAnd ta tb) := by
  obtain ⟨t2, h, w⟩ := ha; obtain ⟨u2, g, z⟩ := hb
  refine ⟨_, pe_and h g, fun B S H σ ρ Φ Q er q hd => w B S H σ ρ _ _ er q fun d v H1 hk s1 r => ?_⟩
  cases d <;> first | exact hk.elim | skip
  rename_i k
  refine ⟨k, rep_bl r, ?_⟩
  cases k with
  | true =>
    have hk : tb ρ Φ := by simpa using hk
    simp only [if_true]
    exact z B S H1 σ ρ _ _ (er.go s1) hk (hd.go s1)
  | false =>
    have hk : Φ (.bl false) := by simpa using hk
    simp only [Bool.false_eq_true, if_false]
    exact hd _ _ H1 hk s1 Rep.bl
theorem pd_not (ha : PD X a ta) : PD X (.UnaryOp .Not a pos) (dNot ta) := by
  obtain ⟨t2, h, w⟩ := ha
  refine ⟨_, pe_not h, fun B S H σ ρ Φ Q er q hd => w B S H σ ρ _ _ er q fun d v H1 hk s1 r => ?_⟩
  cases d <;> first | exact hk.elim | skip
  exact ⟨_, rep_bl r, hd _ _ H1 hk s1 Rep.bl⟩
variable {es : List Expr} {tr : A3}
noncomputable abbrev aNil : A3 := fun _ Φ => Φ []
noncomputable abbrev aCons (ta : E3) (tr : A3) : A3 := fun ρ Φ => ta ρ fun x => tr ρ fun xs => Φ (x :: xs)
theorem pad_nil : PAD X [] aNil := ⟨_, pa_nil, fun B S H σ ρ Φ Q er h hd => hd [] [] H h (Same.refl _) Reps.nil⟩
theorem pad_cons (ha : PD X e te) (hr : PAD X es tr) (hs : starEach (e :: es) X.env = (false, eval e X.env) :: starEach es X.env := by rfl) : PAD X (e :: es) (aCons te tr) := by
  obtain ⟨t2, h, w⟩ := ha; obtain ⟨u2, g, z⟩ := hr
  exact ⟨_, pa_cons h g hs, fun B S H σ ρ Φ Q er q hd => w B S H σ ρ _ _ er q fun d v H1 hk s1 r => z B S H1 σ ρ _ _ (er.go s1) hk fun ds vs H2 h2 s2 r2 => hd _ _ H2 h2 (s1.trans s2) (Reps.cons (r.same s2) r2)⟩
noncomputable abbrev dTup (t : A3) : E3 := fun ρ Φ => t ρ fun ds => ds.length ≤ sizeLine ∧ Φ (.tup ds)
theorem pd_tup {x1} (h : PAD X es tr) : PD X (.Tuple es x1 pos) (dTup tr) := by
  obtain ⟨t2, h, w⟩ := h
  exact ⟨_, pe_tup h, fun B S H σ ρ Φ Q er q hd => w B S H σ ρ _ _ er q fun ds vs H1 hk s1 r => ⟨by rw [← r.len]; exact hk.1, fun p hp => hd _ _ _ hk.2 (s1.trans (same_new hp)) (Rep.newTup hp r)⟩⟩
noncomputable abbrev onS {α : Type} (o : Option α) (Φ : α → Prop) : Prop := match o with | some d => Φ d | none => False
theorem onS_of {α : Type} {o : Option α} {d : α} {Φ : α → Prop} (e : o = some d) (h : Φ d) : onS o Φ := by subst e; exact h
theorem of_onS {α : Type} {o : Option α} {Φ : α → Prop} (h : onS o Φ) : ∃ d, o = some d ∧ Φ d := by
  cases o with
  | none => exact h.elim
  | some d => exact ⟨d, rfl, h⟩
noncomputable abbrev dIx : R3
  | .tup ds, .int i, Φ => onS (atI ds i) Φ
  | .lst ds, .int i, Φ => onS (atI ds i) Φ
  | _, _, _ => False
theorem atI_rep {K : PySem.W.Frag} {S : Addr → Prop} {H : Hp} {ds : List D} {vs : List V} {i : Int} {d : D} (r : Reps K S H ds vs) (h : atI ds i = some d) : ∃ v, atI vs i = some v ∧ Rep K S H d v := by
  unfold atI at h ⊢
  rw [r.len] at h
  cases q : ixN vs.length i with
  | none => rw [q] at h; cases h
  | some j =>
    rw [q] at h
    exact r.get h
theorem pd_ix (ha : PD X a ta) (hb : PD X b tb) (hs : PlainIx b) : PD X (.Subscript a b pos) (dOp dIx ta tb) := by
  obtain ⟨t2, h, w⟩ := ha; obtain ⟨u2, g, z⟩ := hb
  refine ⟨_, pe_ix (ix_list.or ix_tup) h g hs, two w z fun S H x y u v Φ Q so rx ry hr hd => ?_⟩
  cases x <;> cases y <;> first | exact hr.elim | skip
  · rename_i ds i
    obtain ⟨p, xs, rfl, q, rs⟩ := rep_tup rx
    obtain ⟨d, e, hr⟩ := of_onS (show onS (atI ds i) Φ from hr)
    obtain ⟨w, ew, rw'⟩ := atI_rep rs e
    exact .inr ⟨p, xs, i, w, rfl, rep_int ry, q, ew, hd _ _ H hr (Same.refl _) rw'⟩
  · rename_i ds i
    obtain ⟨p, xs, rfl, q, rs⟩ := rep_lst rx
    obtain ⟨d, e, hr⟩ := of_onS (show onS (atI ds i) Φ from hr)
    obtain ⟨w, ew, rw'⟩ := atI_rep rs e
    exact .inl ⟨p, xs, i, w, rfl, rep_int ry, q.sq, ew, hd _ _ H hr (Same.refl _) rw'⟩
end
end D3

set_option Elab.async false
set_option linter.all false
set_option maxRecDepth 100000
set_option maxHeartbeats 4000000
namespace D3
open PySem PySem.Spec PyProof.Rows L2
section
variable {X : Cx} {st : Stmt} {rest : List Stmt} {t u : S3} {a b e : Expr} {te ta tb : E3} {pos : Pos}
noncomputable abbrev sNext : S3 := fun Φ ρ => Φ (.nx ρ)
noncomputable abbrev thenS (u : (F3 → Prop) → Fr3 → Prop) (Φ : F3 → Prop) : F3 → Prop
  | .nx ρ => u Φ ρ
  | .rt d => Φ (.rt d)
  | .bk ρ => Φ (.bk ρ)
  | .ct ρ => Φ (.ct ρ)
noncomputable abbrev sSeq (t u : S3) : S3 := fun Φ ρ => t (thenS u Φ) ρ
theorem psd_nil : PSDs X [] sNext := ⟨_, pss_nil, fun B S H σ ρ Φ D' er h ok => ok.nx ρ S H σ h er⟩
theorem psd_cons (h1 : PSD X st t) (h2 : PSDs X rest u) : PSDs X (st :: rest) (sSeq t u) := by
  obtain ⟨t2, h, w⟩ := h1; obtain ⟨u2, g, z⟩ := h2
  refine ⟨_, pss_cons h g, fun B S H σ ρ Φ D' er q ok => w B S H σ ρ _ _ er q ⟨fun ρ' S' H' σ' p er' => z B S' H' σ' ρ' Φ D' er' p ok, ok.bk, ok.ct, ok.rt⟩⟩
theorem psd_one (h1 : PSD X st t) : PSDs X [st] t := let ⟨t2, h, w⟩ := h1; ⟨_, pss_one h, w⟩
noncomputable abbrev sNever : S3 := fun _ _ => False
theorem psd_never : PSD X st sNever := ⟨_, ps_never, fun _ _ _ _ _ _ _ _ h _ => h⟩
noncomputable abbrev sRet (te : E3) : S3 := fun Φ ρ => te ρ fun d => Φ (.rt d)
theorem psd_ret (he : PD X e te) : PSD X (.Return (some e) pos) (sRet te) := by
  obtain ⟨t2, h, w⟩ := he
  exact ⟨_, ps_ret h, fun B S H σ ρ Φ D' er q ok => w B S H σ ρ _ _ er q fun d v H1 p s r => ok.rt d v H1 p (er.same.trans s) (r.sub er.sub)⟩
noncomputable abbrev sIf (c : B3) (t u : S3) : S3 := fun Φ ρ => c ρ fun k => if k = true then t Φ ρ else u Φ ρ
theorem psd_if {c : Expr} {as bs : List Stmt} {tc : B3} (hc : PB X c tc) (ha : PSDs X as t) (hb : PSDs X bs u) : PSD X (.If c as bs pos) (sIf tc t u) := by
  obtain ⟨c2, h, w⟩ := hc; obtain ⟨t2, ha, wa⟩ := ha; obtain ⟨u2, hb, wb⟩ := hb
  refine ⟨_, ps_if h ha hb, fun B S H σ ρ Φ D' er q ok => w B S H σ ρ _ _ er q fun k H1 hk s1 => ?_⟩
  cases k with
  | true =>
    have hk : t Φ ρ := by simpa using hk
    simp only [if_true]
    exact wa B S H1 σ ρ _ _ (er.go s1) hk ok
  | false =>
    have hk : u Φ ρ := by simpa using hk
    simp only [Bool.false_eq_true, if_false]
    exact wb B S H1 σ ρ _ _ (er.go s1) hk ok
theorem ER.put {K : PySem.W.Frag} {B : Bs} {S : Addr → Prop} {H : Hp} {σ : L2.St} {ρ : Fr3} {i : Nat} {d : D} {v : V} (er : ER K B S H σ ρ) (r : Rep K S H d v) : ER K B S H (σ.set i (some v)) (ρ.set i (.val d)) where
  len := by rw [List.length_set, List.length_set]; exact er.len
  same := er.same
  sub := er.sub
  ok0 := er.ok0
  ok := er.ok
  val := fun j c q => by
    rw [List.getElem?_set] at q
    split at q
    · rename_i hij
      subst hij
      split at q
      · rename_i hl
        cases q
        exact ⟨v, by rw [List.getElem?_set_self (by rw [er.len]; exact hl)], r⟩
      · cases q
    · rename_i hij
      obtain ⟨w, e, r'⟩ := er.val j c q
      exact ⟨w, by rw [List.getElem?_set_ne hij]; exact e, r'⟩
  own := fun j c q => by
    rw [List.getElem?_set] at q
    split at q
    · split at q <;> cases q
    · rename_i hij
      obtain ⟨a, xs, e, r'⟩ := er.own j c q
      exact ⟨a, xs, by rw [List.getElem?_set_ne hij]; exact e, r'⟩
  uq := fun j k a ds es q1 q2 e1 e2 => by
    rw [List.getElem?_set] at q1 q2
    split at q1
    · split at q1 <;> cases q1
    · split at q2
      · split at q2 <;> cases q2
      · rename_i h1 h2
        rw [List.getElem?_set_ne h1] at e1
        rw [List.getElem?_set_ne h2] at e2
        exact er.uq j k a ds es q1 q2 e1 e2
  dct := fun j ks ds q => by
    rw [List.getElem?_set] at q
    split at q
    · split at q <;> cases q
    · rename_i hij
      obtain ⟨a, e, r'⟩ := er.dct j ks ds q
      exact ⟨a, by rw [List.getElem?_set_ne hij]; exact e, r'⟩
  dq := fun j k a ks ds ks' ds' q1 q2 e1 e2 => by
    rw [List.getElem?_set] at q1 q2
    split at q1
    · split at q1 <;> cases q1
    · split at q2
      · split at q2 <;> cases q2
      · rename_i h1 h2
        rw [List.getElem?_set_ne h1] at e1
        rw [List.getElem?_set_ne h2] at e2
        exact er.dq j k a ks ds ks' ds' q1 q2 e1 e2
  gh := er.gh
noncomputable abbrev sSet (i : Nat) (te : E3) : S3 := fun Φ ρ => te ρ fun d => Φ (.nx (ρ.set i (.val d)))
theorem psd_set {i : Nat} {x : Str} {pos' : Pos} (hN : X.N.Nodup) (hi : X.N[i]? = some x) (hx : Loc X.env.scope x) (he : PD X e te) (hs : swapsWith e (some (.Name x pos')) pos.line X.env = pure false := by rfl)
    (hf : X.fn x = true ∨ X.env.scope.names.lookup x = some .local := by first | exact .inl rfl | exact .inr rfl | assumption) : PSD X (.Assign [.Name x pos'] e pos) (sSet i te) := by
  obtain ⟨t2, h, w⟩ := he
  exact ⟨_, ps_set hN hi hx h hs hf, fun B S H σ ρ Φ D' er q ok => w B S H σ ρ _ _ er q fun d v H1 p s r => ok.nx _ S H1 _ p ((er.go s).put r)⟩
end
noncomputable abbrev Con := List D → (D → Prop) → Prop
noncomputable def Mono (C : Con) : Prop := ∀ ds (Φ Ψ : D → Prop), (∀ d, Φ d → Ψ d) → C ds Φ → C ds Ψ
noncomputable def spD (K : PySem.W.Frag) (n : Nat) (C : Con) : Sp := fun vs H Q _ => ∃ ds S, ds.length = n ∧ Reps K S H ds vs ∧ SOk S H ∧ C ds fun d => ∀ v H', Same H H' → Rep K S H' d v → Q v H'
noncomputable abbrev dCall (n : Nat) (C : Con) (ta : A3) : E3 := fun ρ Φ => ta ρ fun ds => ds.length = n ∧ C ds Φ
section
variable {X : Cx} {k : Nat} {f : Addr} {fd : FuncData} {ps : List Str} {C : Con} {x : Str} {p pos : Pos} {e : Expr} {es : List Expr} {ta : A3}
theorem pd_call (F : FnOk X.prog X.w X.K X.mg X.base CX0 k f fd ps (spD X.K ps.length C)) (mo : Mono C) (hr : Room k X.A) (hg : Gl X x) (hm : X.mg x = some (.ref f)) (hk : PySem.W.keepIn X.K (.ref f) = true) (hb : Binds X.K fd ps [])
    (ha : PAD X (e :: es) ta) (hdb : (x == ("__debug__" : Str)) = false := by decide) (he : starEach (e :: es) X.env = (false, eval e X.env) :: starEach es X.env := by rfl) (hpl : (backTo pos (starEach es X.env)).any (·.1) = false := by rfl) :
    PD X (.Call (.Name x p) (e :: es) [] pos) (dCall ps.length C ta) := by
  obtain ⟨t2, h, w⟩ := ha
  refine ⟨_, pe_call F hr hg hm hk hb .nil pass0 h hdb he hpl, fun B S H σ ρ Φ Q er q hd => w B S H σ ρ _ _ er q fun ds vs H1 hc s1 r => ?_⟩
  rw [List.append_nil]
  exact ⟨ds, S, hc.1, r, er.ok.same s1, mo ds Φ _ (fun d hΦ v H' s r' => hd d v H' hΦ (s1.trans s) r') hc.2⟩
end
noncomputable abbrev finD (Φ : D → Prop) : F3 → Prop
  | .nx _ => Φ .non
  | .rt d => Φ d
  | _ => False
noncomputable def startD (n : Nat) (ds : List D) : Fr3 := ds.map .val ++ List.replicate (n - ds.length) .un
theorem er_start {K : PySem.W.Frag} {S : Addr → Prop} {H : Hp} {ds : List D} {vs : List V} {N : List Str} (r : Reps K S H ds vs) (so : SOk S H) : ER K ⟨S, H, []⟩ S H (L2.start N vs) (startD N.length ds) where
  len := by
    unfold L2.start startD
    rw [List.length_append, List.length_append, List.length_map, List.length_map, List.length_replicate, List.length_replicate, r.len]
  same := Same.refl _
  sub := fun _ h => h
  ok0 := so
  ok := so
  val := fun i d q => by
    unfold startD at q
    rw [List.getElem?_append] at q
    split at q
    · rename_i hl
      rw [List.length_map] at hl
      rw [List.getElem?_map] at q
      cases e : ds[i]? with
      | none => rw [e] at q; cases q
      | some c =>
        rw [e] at q
        cases q
        obtain ⟨v, ev, rv⟩ := r.get e
        refine ⟨v, ?_, rv⟩
        unfold L2.start
        rw [List.getElem?_append_left (by rw [List.length_map, ← r.len]; exact hl), List.getElem?_map, ev]
        rfl
    · rw [List.getElem?_replicate] at q
      split at q <;> cases q
  own := fun i d q => by
    unfold startD at q
    rw [List.getElem?_append] at q
    split at q
    · rw [List.getElem?_map] at q
      cases e : ds[i]? with
      | none => rw [e] at q; cases q
      | some c => rw [e] at q; cases q
    · rw [List.getElem?_replicate] at q
      split at q <;> cases q
  uq := fun i j a d es q _ _ _ => by
    unfold startD at q
    rw [List.getElem?_append] at q
    split at q
    · rw [List.getElem?_map] at q
      cases e : ds[i]? with
      | none => rw [e] at q; cases q
      | some c => rw [e] at q; cases q
    · rw [List.getElem?_replicate] at q
      split at q <;> cases q
  dct := fun i ks d q => by
    unfold startD at q
    rw [List.getElem?_append] at q
    split at q
    · rw [List.getElem?_map] at q
      cases e : ds[i]? with
      | none => rw [e] at q; cases q
      | some c => rw [e] at q; cases q
    · rw [List.getElem?_replicate] at q
      split at q <;> cases q
  dq := fun i j a ks d ks' ds' q _ _ _ => by
    unfold startD at q
    rw [List.getElem?_append] at q
    split at q
    · rw [List.getElem?_map] at q
      cases e : ds[i]? with
      | none => rw [e] at q; cases q
      | some c => rw [e] at q; cases q
    · rw [List.getElem?_replicate] at q
      split at q <;> cases q
  gh := fun p hp => by cases hp
section
variable {P : Program} {w : World} {K : PySem.W.Frag} {mg : Str → Option Value} {base : Heap}
theorem fn_ok {x qual : Str} {st : Stmt} {f : Addr} {fd : FuncData} {N ps : List Str} {k : Nat} {C : Con} (F : Fun K x qual st f fd) (S : FnScope N ps (defScope st))
    (body : ∀ (cdv : Value) (A : Around) (outer : List Env) (s : Shared) (H : Hp) (E : XK), Room k (A.deeper (envOfC qual (defScope st) s.heap.objs.size f cdv)) →
      ∃ t, PSDs (cxOf CX0 P w K mg base N qual (defScope st) f cdv A outer s H E).nox (defBody st) t ∧ ∀ ds Φ, ds.length = ps.length → C ds Φ → t (finD Φ) (startD N.length ds)) :
    FnOk P w K mg base CX0 (k + 1) f fd ps (spD K ps.length C) := by
  refine F.ok S (fun vs H Q E h => ?_) (fun cdv A outer s H vs Q E hr h => ?_)
  · obtain ⟨ds, S, hl, r, _⟩ := h
    rw [← r.len]; exact hl
  · obtain ⟨t, ⟨t2, ht, wt⟩, rd⟩ := body cdv A outer s H E hr
    obtain ⟨ds, S, hl, r, so, hc⟩ := h
    refine ⟨t2, ht, wt ⟨S, H, []⟩ S H (L2.start N vs) (startD N.length ds) (finD fun d => ∀ v H', Same H H' → Rep K S H' d v → Q v H') _ (er_start r so) (rd ds _ hl hc) ⟨?_, ?_, ?_, ?_⟩⟩
    · intro ρ S' H' σ' h er
      exact h .non H' er.same Rep.non
    · intro ρ S' H' σ' h er
      exact h.elim
    · intro ρ S' H' σ' h er
      exact h.elim
    · intro d v H' h s r'
      exact h v H' s r'
end
noncomputable def cLaw : Con := fun ds Φ => ∃ ns : List Int, ds = [.lst (ns.map .int)] ∧ ns.length ≤ 63 ∧ Φ (.bl true)
theorem law_sp {K : PySem.W.Frag} {H : Hp} {a : Addr} {ns : List Int} (hl : ns.length ≤ 63) (h : SqL K H a (ns.map V.int)) : spD K 1 cLaw [.ref a] H (fun v _ => v = .bl true) fun _ _ _ => False := by
  refine ⟨[.lst (ns.map .int)], fun _ => False, rfl, Reps.cons (Rep.lst ?_ (Reps.ints ns)) Reps.nil, fun a h => h.elim, ns, rfl, hl, fun v H' s r => rep_bl r⟩
  exact h.elim (fun x => .inl ⟨id, x⟩) .inr
theorem walk {l : PySem.W.OpenLaw} {q : Program} {k : Nat} {loose : List Str} {XP : (Str → Option Value) → Heap → Prop} {YP : World → Heap → Prop} {d : DefRec} {K : Params → PySem.W.Frag} (hn : l.most = some 63) (hdf : d.params.defaults = []) (hr : Room k callerA)
    (hY : ∀ (w : World) (h : Heap), YP w h → (K w.params).In h)
    (F : ∀ (w : World) (mg : Str → Option Value) (fa : Addr) (h : Heap), (K w.params).In h → h.Ns mainGlobals mg → mg d.name = some (.ref fa) →
      ∃ fd : FuncData, (∀ (s : Shared) (u : Value), BindsTo s fd ⟨[u], []⟩ [("script", u)]) ∧ ∀ base : Heap, (K w.params).In base → base.Ns mainGlobals mg → FnOk l.prog w (K w.params) mg base CX0 k fa fd ["script"] (spD (K w.params) 1 cLaw)) :
    PySem.W.WalkO q loose XP YP l.row.toRowW d [] (fun f vs => PySem.call f vs) :=
  L2.walk_of (n := 63) (k := k) (x := "script") (CX := fun _ => CX0) (sp := fun w => spD (K w.params) 1 cLaw) hn (by decide) hdf hr hY F (fun _ _ a ns hl _ hS => law_sp hl hS) fun _ _ _ _ _ z => z
end D3

set_option Elab.async false
set_option linter.all false
set_option maxRecDepth 100000
set_option maxHeartbeats 4000000
namespace D3
open PySem PySem.Spec PyProof.Rows L2
noncomputable abbrev G3 := D → Fr3 → (Fr3 → Prop) → Prop
noncomputable abbrev Gs3 := List D → Fr3 → (Fr3 → Prop) → Prop
noncomputable def PGD (X : Cx) (tg : Expr) (g : G3) : Prop := ∃ g2, PG X tg g2 ∧ ∀ B S H σ ρ d v Ψ (Q : L2.St → Hp → Prop), ER X.K B S H σ ρ → Rep X.K S H d v → g d ρ Ψ → (∀ ρ' σ', Ψ ρ' → ER X.K B S H σ' ρ' → Q σ' H) → g2 v σ H Q
noncomputable def PGDs (X : Cx) (tg : List Expr) (g : Gs3) : Prop := ∃ g2, PGs X tg g2 ∧ ∀ B S H σ ρ d v Ψ (Q : L2.St → Hp → Prop), ER X.K B S H σ ρ → Reps X.K S H d v → g d ρ Ψ → (∀ ρ' σ', Ψ ρ' → ER X.K B S H σ' ρ' → Q σ' H) → g2 v σ H Q
section
variable {X : Cx} {e : Expr} {es : List Expr} {pos : Pos} {te : E3}
noncomputable abbrev gN (i : Nat) : G3 := fun d ρ Ψ => Ψ (ρ.set i (.val d))
theorem pgd_name {i : Nat} {x : Str} (hN : X.N.Nodup) (hi : X.N[i]? = some x) (hx : Loc X.env.scope x) (hf : X.fn x = true ∨ X.env.scope.names.lookup x = some .local := by first | exact .inl rfl | exact .inr rfl | assumption) : PGD X (.Name x pos) (gN i) :=
  ⟨_, pg_name hN hi hx hf, fun B S H σ ρ d v Ψ Q er r h k => k _ _ h (er.put r)⟩
noncomputable abbrev gNil3 : Gs3
  | [], ρ, Ψ => Ψ ρ
  | _ :: _, _, _ => False
noncomputable abbrev gCons3 (g : G3) (gs : Gs3) : Gs3
  | d :: ds, ρ, Ψ => g d ρ fun ρ' => gs ds ρ' Ψ
  | [], _, _ => False
theorem pgds_nil : PGDs X [] gNil3 := ⟨_, pgs_nil, fun B S H σ ρ d v Ψ Q er r h k => by
  cases d with
  | nil => simp only [Reps] at r; subst r; exact ⟨rfl, k ρ σ h er⟩
  | cons _ _ => exact h.elim⟩
theorem pgds_cons {g : G3} {gs : Gs3} (h1 : PGD X e g) (h2 : PGDs X es gs) (hs : (assignEach (e :: es) X.env).map (·.2) = assign e X.env :: (assignEach es X.env).map (·.2) := by rfl) : PGDs X (e :: es) (gCons3 g gs) := by
  obtain ⟨g2, h1, w1⟩ := h1; obtain ⟨u2, h2, w2⟩ := h2
  refine ⟨_, pgs_cons h1 h2 hs, fun B S H σ ρ d v Ψ Q er r h k => ?_⟩
  cases d with
  | nil => exact h.elim
  | cons c cs =>
    simp only [Reps] at r
    obtain ⟨x, y, rfl, rx, ry⟩ := r
    exact ⟨x, y, rfl, w1 B S H σ ρ c x _ _ er rx h fun ρ' σ' p er' => w2 B S H σ' ρ' cs y Ψ Q er' ry p k⟩
noncomputable abbrev gTup3 (n : Nat) (gs : Gs3) : G3
  | .tup ds, ρ, Ψ => ds.length = n ∧ gs ds ρ Ψ
  | _, _, _ => False
theorem pgd_tup {k : Nat} {gs : Gs3} {n : Nat} (hc : X.calm = true) (h : PGDs X es gs) (hn : (assignEach es X.env).length = n := by rfl) (hst : (assignEach es X.env).findIdx? (·.1) = none := by rfl) : PGD X (.Tuple es k pos) (gTup3 n gs) := by
  obtain ⟨g2, h, w⟩ := h
  refine ⟨_, pg_tup hc h hn hst, fun B S H σ ρ d v Ψ Q er r h k => ?_⟩
  cases d <;> first | exact h.elim | skip
  obtain ⟨a, xs, rfl, q, rs⟩ := rep_tup r
  exact ⟨a, xs, rfl, q, by rw [← rs.len]; exact h.1, w B S H σ ρ _ _ Ψ Q er rs h.2 k⟩
noncomputable abbrev sAsg (te : E3) (g : G3) : S3 := fun Φ ρ => te ρ fun d => g d ρ fun ρ' => Φ (.nx ρ')
theorem psd_asg {tg : Expr} {g : G3} (he : PD X e te) (hg : PGD X tg g) (hs : swapsWithSole [tg] e pos.line X.env = pure false := by rfl) (hw : swappedStores [tg] e X.env = pure none := by rfl)
    (h1 : (assignEach [tg] X.env).map (·.2) = [assign tg X.env] := by rfl) : PSD X (.Assign [tg] e pos) (sAsg te g) := by
  obtain ⟨t2, h, w⟩ := he; obtain ⟨g2, hg, wg⟩ := hg
  exact ⟨_, ps_asg h hg hs hw h1, fun B S H σ ρ Φ D' er q ok => w B S H σ ρ _ _ er q fun d v H1 p s r => wg B S H1 σ ρ d v _ _ (er.go s) r p fun ρ' σ' p' er' => ok.nx ρ' S H1 σ' p' er'⟩
noncomputable abbrev sPar (i j : Nat) (ta : A3) : S3 := fun Φ ρ => ta ρ fun ds => match ds with
  | [c, d] => Φ (.nx ((ρ.set i (.val c)).set j (.val d)))
  | _ => False
theorem psd_par {i j : Nat} {x y : Str} {a b : Expr} {ta : A3} {px py pt : Pos} {kt k2 pt2} (hc : X.calm = true) (hN : X.N.Nodup) (hi : X.N[i]? = some x) (hj : X.N[j]? = some y) (hij : i ≠ j)
    (hx : X.env.scope.names.lookup x = some .local) (hy : X.env.scope.names.lookup y = some .local) (ha : PAD X [a, b] ta)
    (hw : swappedStores [.Tuple [.Name x px, .Name y py] kt pt] (.Tuple [a, b] k2 pt2) X.env = pure (some [x, y]))
    (hs : swapsWithSole [.Tuple [.Name x px, .Name y py] kt pt] (.Tuple [a, b] k2 pt2) pos.line X.env = pure false := by rfl) :
    PSD X (.Assign [.Tuple [.Name x px, .Name y py] kt pt] (.Tuple [a, b] k2 pt2) pos) (sPar i j ta) := by
  obtain ⟨t2, h, w⟩ := ha
  refine ⟨_, ps_par hc hN hi hj hij hx hy h hw hs, fun B S H σ ρ Φ D' er q ok => w B S H σ ρ _ _ er q fun ds vs H1 p s r => ?_⟩
  match ds, p with
  | [c, d], p =>
    simp only [Reps] at r
    obtain ⟨u, _, rfl, ru, v, _, rfl, rv, rfl⟩ := r
    exact ⟨u, v, rfl, ok.nx _ S H1 _ p (((er.go s).put ru).put rv)⟩
end
noncomputable abbrev loopS (k : (F3 → Prop) → Fr3 → Prop) (Φ : F3 → Prop) : F3 → Prop
  | .nx ρ => k Φ ρ
  | .ct ρ => k Φ ρ
  | .bk ρ => Φ (.nx ρ)
  | .rt d => Φ (.rt d)
noncomputable def FOR (g : G3) (tb : S3) : List D → (F3 → Prop) → Fr3 → Prop
  | [], Φ, ρ => Φ (.nx ρ)
  | d :: ds, Φ, ρ => g d ρ fun ρ1 => tb (loopS (FOR g tb ds) Φ) ρ1
noncomputable def Wlk (K : PySem.W.Frag) (J : It) (d : D) (v : V) (ds : List D) : Prop := ∀ S H, Rep K S H d v → J.stop ds.length H ∧ ∀ (i : Nat), i < ds.length → J.go i H ∧ ∀ x H', J.yld i H x H' → H' = H ∧ ∃ e, ds[i]? = some e ∧ Rep K S H e x
noncomputable def WlkL (K : PySem.W.Frag) (J : It) (hs : List (D × V)) (ds : List D) : Prop := ∀ S H, (∀ p ∈ hs, Rep K S H p.1 p.2) → J.stop ds.length H ∧ ∀ (i : Nat), i < ds.length → J.go i H ∧ ∀ x H', J.yld i H x H' → Same H H' ∧ ∃ e, ds[i]? = some e ∧ Rep K S H' e x
theorem Wlk.l {K : PySem.W.Frag} {J : It} {d : D} {v : V} {ds : List D} (h : Wlk K J d v ds) : WlkL K J [(d, v)] ds := fun S H r => by
  obtain ⟨a, b⟩ := h S H (r (d, v) (by simp))
  refine ⟨a, fun i hi => ⟨(b i hi).1, fun x H' y => ?_⟩⟩
  obtain ⟨rfl, e, ee, re⟩ := (b i hi).2 x H' y
  exact ⟨Same.refl _, e, ee, re⟩
noncomputable def PID (X : Cx) (tg iter : Expr) (t : A3) : Prop := ∃ wi, PI X tg iter wi ∧ ∀ B S H σ ρ Φ (R : It → Hp → Prop), ER X.K B S H σ ρ → t ρ Φ → (∀ ds J hs H1, Φ ds → Same H H1 → (∀ p ∈ hs, Rep X.K S H1 p.1 p.2) → WlkL X.K J hs ds → R J H1) → wi σ H R
theorem PID.one {X : Cx} {tg iter : Expr} {t : A3} (h : ∃ wi, PI X tg iter wi ∧ ∀ B S H σ ρ Φ (R : It → Hp → Prop), ER X.K B S H σ ρ → t ρ Φ → (∀ ds J d v H1, Φ ds → Same H H1 → Rep X.K S H1 d v → Wlk X.K J d v ds → R J H1) → wi σ H R) : PID X tg iter t := by
  obtain ⟨wi, hi, ww⟩ := h
  refine ⟨wi, hi, fun B S H σ ρ Φ R er q k => ww B S H σ ρ Φ R er q fun ds J d v H1 hΦ s r w => k ds J [(d, v)] H1 hΦ s (fun p hp => ?_) w.l⟩
  have e : p = (d, v) := by simpa using hp
  subst e
  exact r
theorem ER.holds {K : PySem.W.Frag} {B : Bs} {S : Addr → Prop} {H : Hp} {σ : L2.St} {ρ : Fr3} {hs : List (D × V)} (er : ER K B S H σ ρ) (r : ∀ p ∈ hs, Rep K S H p.1 p.2) : ER K { B with gh := hs ++ B.gh } S H σ ρ :=
  ⟨er.len, er.same, er.sub, er.ok0, er.ok, er.val, er.own, er.uq, er.dct, er.dq, fun p hp => by
    rcases List.mem_append.mp hp with hp | hp
    · exact r p hp
    · exact er.gh p hp⟩
theorem ER.unholds {K : PySem.W.Frag} {B : Bs} {S : Addr → Prop} {H : Hp} {σ : L2.St} {ρ : Fr3} {hs : List (D × V)} (er : ER K { B with gh := hs ++ B.gh } S H σ ρ) : ER K B S H σ ρ :=
  ⟨er.len, er.same, er.sub, er.ok0, er.ok, er.val, er.own, er.uq, er.dct, er.dq, fun q hq => er.gh q (List.mem_append_right _ hq)⟩
section
variable {X : Cx} {tg iter e : Expr} {body : List Stmt} {ti : A3} {g : G3} {tb : S3} {te : E3} {pos : Pos}
noncomputable abbrev sFor (ti : A3) (g : G3) (tb : S3) : S3 := fun Φ ρ => ti ρ fun ds => FOR g tb ds Φ ρ
theorem psd_for (hp : PassesOwn (model X.prog X.w) X.A X.env X.xe) (hc : X.calm = true) (hi : PID X tg iter ti) (hg : PGD X tg g) (hb : PSDs X body tb)
    (hfs : ∀ x, foldedSetIterable iter X.env x = pure x := by intro _; rfl) : PSD X (.For tg iter body [] pos) (sFor ti g tb) := by
  obtain ⟨wi, hi, ww⟩ := hi; obtain ⟨g2, hg, wg⟩ := hg; obtain ⟨b2, hb, wb⟩ := hb
  refine ⟨_, ps_for hp hc hi hg hb hfs, fun B S H σ ρ Φ D' er q ok => ww B S H σ ρ _ _ er q fun ds J hs H1 hΦ s1 rv wk => ?_⟩
  refine ⟨fun i m σ' H' => m = ds.length - i ∧ i ≤ ds.length ∧ ∃ S' ρ', ER X.K { B with gh := hs ++ B.gh } S' H' σ' ρ' ∧ FOR g tb (ds.drop i) Φ ρ', ⟨_, rfl, Nat.zero_le _, S, ρ, (er.go s1).holds rv, hΦ⟩, ?_⟩
  rintro i m σ' H' ⟨rfl, hi, S', ρ', er', hf⟩
  have rg := fun p (hp : p ∈ hs) => er'.gh p (List.mem_append_left _ hp)
  obtain ⟨wstop, wgo⟩ := wk S' H' rg
  by_cases hlt : i < ds.length
  · obtain ⟨go, yl⟩ := wgo i hlt
    rw [List.drop_eq_getElem_cons hlt] at hf
    refine .inr ⟨go, fun σ2 H2 => ∃ S2 ρ2, ER X.K { B with gh := hs ++ B.gh } S2 H2 σ2 ρ2 ∧ FOR g tb (ds.drop (i + 1)) Φ ρ2, fun σ2 H2 h2 => ⟨_, by omega, rfl, hlt, h2⟩, fun x H2 y => ?_⟩
    obtain ⟨sy, e', ee, re⟩ := yl x H2 y
    rw [List.getElem?_eq_getElem hlt] at ee
    cases ee
    refine wg _ S' _ σ' ρ' _ x _ _ (er'.go sy) re hf fun ρ1 σ1 h1 er1 => wb _ S' _ σ1 ρ1 _ _ er1 h1 ⟨fun ρ2 S2 H2 σ2 p er2 => ⟨S2, ρ2, er2, p⟩, fun ρ2 S2 H2 σ2 p er2 => ok.nx ρ2 S2 H2 σ2 p er2.unholds, fun ρ2 S2 H2 σ2 p er2 => ⟨S2, ρ2, er2, p⟩, fun c u H2 p s2 r2 => ok.rt c u H2 p s2 r2⟩
  · have hi' : i = ds.length := by omega
    subst hi'
    rw [List.drop_length] at hf
    exact .inl ⟨wstop, ok.nx ρ' S' H' σ' hf er'.unholds⟩
noncomputable def ups (lo : Int) (n : Nat) : List D := (List.range n).map fun (i : Nat) => D.int (lo + (i : Int))
theorem ups_length (lo : Int) (n : Nat) : (ups lo n).length = n := by simp [ups]
theorem wlk_range (K : PySem.W.Frag) (lo : Int) (n : Nat) : Wlk K (Itr lo n) .non .non (ups lo n) := fun S H _ => by
  refine ⟨by show n ≤ _; rw [ups_length]; exact Nat.le_refl _, fun i hi => ⟨by rw [ups_length] at hi; exact hi, fun x H' y => ?_⟩⟩
  obtain ⟨rfl, rfl⟩ := y
  refine ⟨rfl, .int (lo + i), ?_, Rep.int⟩
  rw [ups_length] at hi
  simp [ups, hi]
noncomputable abbrev iR1 (ta : A3) : A3 := fun ρ Φ => ta ρ fun ds => match ds with | [.int j] => -(2 ^ 62) ≤ j ∧ j < 2 ^ 62 ∧ Φ (ups 0 j.toNat) | _ => False
theorem pid_range1 {a : Expr} {ta : A3} {p pos : Pos} (hg : Gl X "range") (hm : X.mg "range" = none) (ha : PAD X [a] ta) (hs : starEach [a] X.env = [(false, eval a X.env)] := by rfl) : PID X tg (.Call (.Name "range" p) [a] [] pos) (iR1 ta) := by
  obtain ⟨t2, h, w⟩ := ha
  refine PID.one ⟨_, pi_range1 hg hm h hs, fun B S H σ ρ Φ R er q k => w B S H σ ρ _ _ er q fun ds vs H1 p s r => ?_⟩
  match ds, p with
  | [.int j], p =>
    simp only [Reps, Rep] at r
    obtain ⟨u, _, rfl, rfl, rfl⟩ := r
    exact ⟨j, rfl, p.1, p.2.1, k _ _ .non .non H1 p.2.2 s Rep.non (wlk_range _ _ _)⟩
noncomputable abbrev loopW (N : Fr3 → Prop) (Φ : F3 → Prop) : F3 → Prop
  | .nx ρ => N ρ
  | .ct ρ => N ρ
  | .bk ρ => Φ (.nx ρ)
  | .rt d => Φ (.rt d)
noncomputable def sWhile (tc : B3) (tb : S3) : S3 := fun Φ ρ => ∃ W : Nat → Fr3 → Prop, (∃ m, W m ρ) ∧ ∀ m ρ, W m ρ → tc ρ fun k => if k = true then tb (loopW (fun ρ' => ∃ m', m' < m ∧ W m' ρ') Φ) ρ else Φ (.nx ρ)
theorem psd_while {c : Expr} {tc : B3} (hp : PassesOwn (model X.prog X.w) X.A X.env X.xe) (hc : PB X c tc) (hb : PSDs X body tb) : PSD X (.While c body [] pos) (sWhile tc tb) := by
  obtain ⟨c2, hc, wc⟩ := hc; obtain ⟨b2, hb, wb⟩ := hb
  refine ⟨_, ps_while hp hc hb, fun B S H σ ρ Φ D' er ⟨W, ⟨m0, w0⟩, turn⟩ ok => ?_⟩
  refine ⟨fun m σ' H' => ∃ S' ρ', ER X.K B S' H' σ' ρ' ∧ W m ρ', ⟨m0, S, ρ, er, w0⟩, ?_⟩
  rintro m σ' H' ⟨S', ρ', er', w'⟩
  refine wc B S' H' σ' ρ' _ _ er' (turn m ρ' w') fun k H1 hk s1 => ?_
  cases k with
  | true =>
    have hk : tb (loopW (fun ρ' => ∃ m', m' < m ∧ W m' ρ') Φ) ρ' := by simpa using hk
    simp only [if_true]
    refine ⟨fun σ2 H2 => ∃ S2 ρ2 m', m' < m ∧ ER X.K B S2 H2 σ2 ρ2 ∧ W m' ρ2, fun σ2 H2 ⟨S2, ρ2, m', lt, er2, w2⟩ => ⟨m', lt, S2, ρ2, er2, w2⟩, ?_⟩
    exact wb B S' H1 σ' ρ' _ _ (er'.go s1) hk ⟨fun ρ2 S2 H2 σ2 ⟨m', lt, w2⟩ er2 => ⟨S2, ρ2, m', lt, er2, w2⟩, fun ρ2 S2 H2 σ2 p er2 => ok.nx ρ2 S2 H2 σ2 p er2, fun ρ2 S2 H2 σ2 ⟨m', lt, w2⟩ er2 => ⟨S2, ρ2, m', lt, er2, w2⟩, ok.rt⟩
  | false =>
    have hk : Φ (.nx ρ') := by simpa using hk
    simp only [Bool.false_eq_true, if_false]
    exact ok.nx ρ' S' H1 σ' hk (er'.go s1)
theorem while_inv {tc : B3} {tb : S3} {Φ : F3 → Prop} {ρ : Fr3} (I : Fr3 → Prop) (μ : Fr3 → Nat) (h0 : I ρ)
    (hs : ∀ ρ, I ρ → tc ρ fun k => if k = true then tb (loopW (fun ρ' => ∃ m', m' < μ ρ ∧ m' = μ ρ' ∧ I ρ') Φ) ρ else Φ (.nx ρ)) : sWhile tc tb Φ ρ :=
  ⟨fun m ρ => m = μ ρ ∧ I ρ, ⟨_, rfl, h0⟩, fun m ρ ⟨e, p⟩ => by subst e; exact hs ρ p⟩
theorem FOR_inv {g : G3} {tb : S3} {Φ : F3 → Prop} (I : List D → List D → Fr3 → Prop) (hs : ∀ pre d post ρ, I pre (d :: post) ρ → ∀ k : (F3 → Prop) → Fr3 → Prop, (∀ ρ', I (pre ++ [d]) post ρ' → k Φ ρ') → g d ρ fun ρ1 => tb (loopS k Φ) ρ1)
    (hd : ∀ pre ρ, I pre [] ρ → Φ (.nx ρ)) : ∀ (post pre : List D) (ρ : Fr3), I pre post ρ → FOR g tb post Φ ρ
  | [], pre, ρ, h => hd pre ρ h
  | d :: post, pre, ρ, h => hs pre d post ρ h (FOR g tb post) fun ρ' h' => FOR_inv I hs hd post (pre ++ [d]) ρ' h'
end
end D3

set_option Elab.async false
set_option linter.all false
set_option maxRecDepth 100000
set_option maxHeartbeats 4000000
namespace D3
open PySem PySem.Spec PyProof.Rows L2
section
open PySem.MeetsSeq PySem.AutoSeq1
theorem list_add_gen (l : Addr) (items : Array Value) (n : Nat) (b : Addr) (items2 : Array Value) (n2 : Nat) (dd dd2 : Option Addr) (sl sl2 : Array (Option Value)) (hc0 : items.size + items2.size ≤ sizeLine) :
    Meets (Builtin.«list.__add__» ⟨[.ref l, .ref b], []⟩) (fun _ R s => s.heap.get? l = some { cls := .type "list", dict := dd, data := .seq items n, slots := sl } ∧ s.heap.get? b = some { cls := .type "list", dict := dd2, data := .seq items2 n2, slots := sl2 } ∧ R (.ok (.ret (Value.ref s.heap.objs.size))) { s with heap := s.heap.push { cls := Value.type "list", data := Data.seq (items ++ items2) }, toks := s.toks }) :=
  .of_wp fun prog w A R s h => by obtain ⟨hp, g, d, tk, os⟩ := s; obtain ⟨hl, hb, h⟩ := h; have f1 := AutoSeq1.idx_int; have f2 := AutoSeq1.sub_tuple_tuple; have f3 := AutoSeq1.sub_list_list; have f4 := AutoSeq1.sub_tuple_list; have f5 := AutoSeq1.sub_list_tuple; wp_walk using wpAny_loadPart' hl, wpAny_loadPart' hb; exact ⟨_, rfl, h⟩
theorem add_list_gen {prog : Program} {w : World} {A : Around} {E : Value → Shared → Prop} {s : Shared} {l b : Addr} {items items2 : Array Value} {Q : Value → Shared → Prop} (hl : PlainL s.heap l items) (hb : PlainL s.heap b items2)
    (h : Q (.ref s.heap.objs.size) { s with heap := s.heap.push { cls := .type "list", data := .seq (items ++ items2) } }) (hsz : items.size + items2.size ≤ sizeLine) : wpAny (model prog w) A (binaryOp .Add (.ref l) (.ref b)) Q E s := by
  obtain ⟨o, n, e, hc, hd, hq⟩ := hl
  obtain ⟨o2, n2, e2, hc2, hd2, hq2⟩ := hb
  obtain ⟨c, dd, da, sl⟩ := o
  obtain ⟨c2, dd2, da2, sl2⟩ := o2
  subst hc hd hq hc2 hd2 hq2
  exact concat_meets ⟨_, e, rfl⟩ ⟨_, e2, rfl⟩ noFill_list_add seq_list_add F.slot_list_add F.entry_list_add (F.args_list_add_2 _ _) (list_add_gen l items n b items2 n2 none none sl sl2 hsz) ⟨e, e2, h⟩
end
noncomputable def HandN (K : PySem.W.Frag) (S : Addr → Prop) (H : Hp) (Φ : List D → Prop) (Q : VK) : Prop := ∀ ds xs p H1, Φ ds → Same H H1 → H1 p = none → Reps K S H1 ds xs → Q (.ref p) (upd H1 p (.lst xs))
noncomputable def PF (X : Cx) (e : Expr) (t : A3) : Prop := ∃ t2, PE X e t2 ∧ ∀ B S H σ ρ Φ Q, ER X.K B S H σ ρ → t ρ Φ → HandN X.K S H Φ Q → t2 σ H Q
noncomputable abbrev dF (t : A3) : E3 := fun ρ Φ => t ρ fun ds => Φ (.lst ds)
section
variable {X : Cx} {a b c e : Expr} {ta tb tc te : E3} {tr tf : A3} {es : List Expr} {pos : Pos}
theorem pd_new (h : PF X e tf) : PD X e (dF tf) := by
  obtain ⟨t2, h, w⟩ := h
  exact ⟨_, h, fun B S H σ ρ Φ Q er q hd => w B S H σ ρ _ _ er q fun ds xs p H1 hΦ s1 hp r => hd _ _ _ hΦ (s1.trans (same_new hp)) (Rep.newLst (er.ok.same s1) hp r)⟩
noncomputable abbrev fLst (t : A3) : A3 := fun ρ Φ => t ρ fun ds => ds.length ≤ sizeLine ∧ Φ ds
theorem pf_lst (h : PAD X es tr) : PF X (.List es pos) (fLst tr) := by
  obtain ⟨t2, h, w⟩ := h
  exact ⟨_, pe_lst h, fun B S H σ ρ Φ Q er q hd => w B S H σ ρ _ _ er q fun ds vs H1 hk s1 r => ⟨by rw [← r.len]; exact hk.1, fun p hp => hd _ _ p H1 hk.2 s1 hp r⟩⟩
noncomputable abbrev O3 := Fr3 → (Option Int → Prop) → Prop
noncomputable def POD (X : Cx) (e : Option Expr) (t : O3) : Prop := ∃ t2, PO X e t2 ∧ ∀ B S H σ ρ Φ (Q : Option Int → Hp → Prop), ER X.K B S H σ ρ → t ρ Φ → (∀ o H', Φ o → Same H H' → Q o H') → t2 σ H Q
noncomputable abbrev oNone : O3 := fun _ Φ => Φ none
noncomputable abbrev oSome (te : E3) : O3 := fun ρ Φ => te ρ fun d => match d with | .int i => Φ (some i) | _ => False
theorem pod_none : POD X none oNone := ⟨_, po_none, fun B S H σ ρ Φ Q er q hd => hd none H q (Same.refl _)⟩
theorem pod_some (h : PD X e te) : POD X (some e) (oSome te) := by
  obtain ⟨t2, h, w⟩ := h
  refine ⟨_, po_some h, fun B S H σ ρ Φ Q er q hd => w B S H σ ρ _ _ er q fun d v H1 hk s1 r => ?_⟩
  cases d <;> first | exact hk.elim | skip
  exact ⟨_, rep_int r, hd _ H1 hk s1⟩
noncomputable def cutD {α : Type} (xs : List α) (lo hi : Option Int) : List α := (xs.drop (HT.sIx xs.length 0 lo)).take (HT.sIx xs.length xs.length hi - HT.sIx xs.length 0 lo)
noncomputable abbrev fSl (te : E3) (tl th : O3) : A3 := fun ρ Φ => te ρ fun d => tl ρ fun lo => th ρ fun hi => match d with | .lst ds => Φ (cutD ds lo hi) | _ => False
theorem pf_slice {lo hi : Option Expr} {tl th : O3} {p2 : Pos} (he : PD X e te) (hl : POD X lo tl) (hu : POD X hi th) : PF X (.Subscript e (.Slice lo hi none p2) pos) (fSl te tl th) := by
  obtain ⟨t2, h, w⟩ := he; obtain ⟨l2, hl, wl⟩ := hl; obtain ⟨u2, hu, wu⟩ := hu
  refine ⟨_, pe_slice sl_list h hl hu, fun B S H σ ρ Φ Q er q hd => w B S H σ ρ _ _ er q fun d v H1 p1 s1 r1 => wl B S H1 σ ρ _ _ (er.go s1) p1 fun l H2 p2 s2 => wu B S H2 σ ρ _ _ ((er.go s1).go s2) p2 fun u H3 p3 s3 => ?_⟩
  cases d <;> first | exact p3.elim | skip
  obtain ⟨a, xs, rfl, lr, rs⟩ := rep_lst ((r1.same s2).same s3)
  refine ⟨a, xs, rfl, lr.sq, fun p hp => hd _ _ p H3 p3 ((s1.trans s2).trans s3) hp ?_⟩
  unfold cutD cutV
  rw [← rs.len]
  exact (rs.drop _).take _
noncomputable abbrev fCat (ta tb : E3) : A3 := fun ρ Φ => ta ρ fun x => tb ρ fun y => match x, y with | .lst ds, .lst es => ds.length + es.length ≤ sizeLine ∧ Φ (ds ++ es) | _, _ => False
noncomputable def rCatA (K : PySem.W.Frag) : R2 := fun x y H Q => ∃ l b xs zs, x = .ref l ∧ y = .ref b ∧ SqL K H l xs ∧ SqL K H b zs ∧ xs.length + zs.length ≤ sizeLine ∧ ∀ p, H p = none → Q (.ref p) (upd H p (.lst (xs ++ zs)))
theorem op_catA : OpR X (binaryOp .Add) (rCatA X.K) := by
  intro pins s σ H x y v u Q I rx ry h
  obtain ⟨l, b, xs, zs, rfl, rfl, hH, hB, hz, q⟩ := h
  cases rx
  cases ry
  obtain ⟨its, r, pl, hl⟩ := I.list hH
  obtain ⟨its2, r2, pl2, hl2⟩ := I.list hB
  have e1 := r.length
  have e2 := r2.length
  refine add_list_gen pl pl2 ?_ (by rw [List.size_toArray, List.size_toArray]; omega)
  have ea : its.toArray ++ its2.toArray = (its ++ its2).toArray := by simp
  rw [ea]
  exact ⟨.ref _, _, I.lnew (t' := s.toks) (r.append r2) (by rw [List.length_append]; omega), rfl, q _ I.fresh⟩
theorem pf_cat (ha : PD X a ta) (hb : PD X b tb) : PF X (.BinOp a .Add b pos) (fCat ta tb) := by
  obtain ⟨t2, h, w⟩ := ha; obtain ⟨u2, g, z⟩ := hb
  refine ⟨_, pe_op op_catA h g, fun B S H σ ρ Φ Q er q hd => w B S H σ ρ _ _ er q fun x u H1 p1 s1 r1 => z B S H1 σ ρ _ _ (er.go s1) p1 fun y v H2 p2 s2 r2 => ?_⟩
  match x, y, p2 with
  | .lst ds, .lst es, p2 =>
    obtain ⟨a, xs, rfl, lr, rs⟩ := rep_lst (r1.same s2)
    obtain ⟨a', xs', rfl, lr', rs'⟩ := rep_lst r2
    exact ⟨a, a', xs, xs', rfl, rfl, lr.sq, lr'.sq, by rw [← rs.len, ← rs'.len]; exact p2.1, fun p hp => hd _ _ p H2 p2.2 (s1.trans s2) hp (rs.app rs')⟩
end
noncomputable def CallD (X : Cx) (f : Value) (r3 : Con) : Prop := ∃ r, CallR X f r ∧ ∀ S H ds vs Φ Q, SOk S H → Reps X.K S H ds vs → r3 ds Φ → Hand X.K S H Φ Q → r vs H Q
noncomputable abbrev dB (r : Con) (t : A3) : E3 := fun ρ Φ => t ρ fun ds => r ds Φ
section
variable {X : Cx} {x : Str} {p pos : Pos} {e : Expr} {es : List Expr} {t tr : A3} {te tb : E3} {id T : String} {r : Con}
theorem pd_callB (hc : CallD X (.builtin id) r) (hg : Gl X x) (hm : X.mg x = none) (hv : bootBuiltins x = some (.builtin id)) (ha : PAD X (e :: es) t) (hn : x ≠ "__name__" := by decide) (hdb : (x == ("__debug__" : Str)) = false := by decide)
    (he : starEach (e :: es) X.env = (false, eval e X.env) :: starEach es X.env := by rfl) (hpl : (backTo pos (starEach es X.env)).any (·.1) = false := by rfl) : PD X (.Call (.Name x p) (e :: es) [] pos) (dB r t) := by
  obtain ⟨r2, hc, wc⟩ := hc; obtain ⟨t2, h, w⟩ := ha
  exact ⟨_, pe_callB hc hg hm hv h hn hdb he hpl, fun B S H σ ρ Φ Q er q hd => w B S H σ ρ _ _ er q fun ds vs H1 p1 s1 r1 => wc S H1 ds vs Φ Q (er.ok.same s1) r1 p1 (hd.go s1)⟩
theorem pd_callTy (hc : CallD X (.type T) r) (hg : Gl X x) (hm : X.mg x = none) (hv : bootBuiltins x = some (.type T)) (ha : PAD X (e :: es) t) (hn : x ≠ "__name__" := by decide) (hdb : (x == ("__debug__" : Str)) = false := by decide)
    (he : starEach (e :: es) X.env = (false, eval e X.env) :: starEach es X.env := by rfl) (hpl : (backTo pos (starEach es X.env)).any (·.1) = false := by rfl) : PD X (.Call (.Name x p) (e :: es) [] pos) (dB r t) := by
  obtain ⟨r2, hc, wc⟩ := hc; obtain ⟨t2, h, w⟩ := ha
  exact ⟨_, pe_callTy hc hg hm hv h hn hdb he hpl, fun B S H σ ρ Φ Q er q hd => w B S H σ ρ _ _ er q fun ds vs H1 p1 s1 r1 => wc S H1 ds vs Φ Q (er.ok.same s1) r1 p1 (hd.go s1)⟩
noncomputable abbrev cLen : Con
  | [.lst ds], Φ => Φ (.int ds.length)
  | [.tup ds], Φ => Φ (.int ds.length)
  | _, _ => False
theorem b_len : CallD X (.builtin "len") cLen := ⟨_, call_len_seq, fun S H ds vs Φ Q so r h hd => by
  match ds, h with
  | [.lst ds], h =>
    simp only [Reps] at r
    obtain ⟨v, _, rfl, rv, rfl⟩ := r
    obtain ⟨a, xs, rfl, lr, rs⟩ := rep_lst rv
    exact ⟨a, xs, rfl, .inl lr.sq, hd _ _ H h (Same.refl _) (by rw [rs.len]; exact Rep.int)⟩
  | [.tup ds], h =>
    simp only [Reps] at r
    obtain ⟨v, _, rfl, rv, rfl⟩ := r
    obtain ⟨a, xs, rfl, lr, rs⟩ := rep_tup rv
    exact ⟨a, xs, rfl, .inr lr, hd _ _ H h (Same.refl _) (by rw [rs.len]; exact Rep.int)⟩⟩
noncomputable abbrev cAbs : Con
  | [.int i], Φ => Φ (.int (i.natAbs : Int))
  | _, _ => False
theorem b_abs : CallD X (.builtin "abs") cAbs := ⟨_, call_abs, fun S H ds vs Φ Q so r h hd => by
  match ds, h with
  | [.int i], h =>
    simp only [Reps, Rep] at r
    obtain ⟨v, _, rfl, rfl, rfl⟩ := r
    have e : (if i < 0 then -i else i) = (i.natAbs : Int) := by split <;> omega
    exact ⟨i, rfl, hd _ _ H h (Same.refl _) (by rw [e]; exact Rep.int)⟩⟩
noncomputable abbrev cTuple : Con
  | [.lst ds], Φ => Φ (.tup ds)
  | [.tup ds], Φ => Φ (.tup ds)
  | _, _ => False
theorem b_tuple : CallD X (.type "tuple") cTuple := ⟨_, call_tuple_of, fun S H ds vs Φ Q so r h hd => by
  match ds, h with
  | [.lst ds], h =>
    simp only [Reps] at r
    obtain ⟨v, _, rfl, rv, rfl⟩ := r
    obtain ⟨a, xs, rfl, lr, rs⟩ := rep_lst rv
    exact ⟨a, xs, rfl, .inl ⟨lr.sq, fun l hl => hd _ _ _ h (same_new hl) (Rep.newTup hl rs)⟩⟩
  | [.tup ds], h =>
    simp only [Reps] at r
    obtain ⟨v, _, rfl, rv, rfl⟩ := r
    obtain ⟨a, xs, rfl, lr, rs⟩ := rep_tup rv
    exact ⟨a, xs, rfl, .inr ⟨lr, hd _ _ _ h (Same.refl _) (Rep.tup lr rs)⟩⟩⟩
noncomputable abbrev fList (te : E3) : A3 := fun ρ Φ => te ρ fun d => match d with | .lst ds => Φ ds | .tup ds => Φ ds | _ => False
theorem pf_list (hg : Gl X x) (hm : X.mg x = none) (hv : bootBuiltins x = some (.type "list")) (ha : PD X e te) (hn : x ≠ "__name__" := by decide) (hdb : (x == ("__debug__" : Str)) = false := by decide)
    (he : starEach [e] X.env = [(false, eval e X.env)] := by rfl) : PF X (.Call (.Name x p) [e] [] pos) (fList te) := by
  obtain ⟨t2, h, w⟩ := ha
  refine ⟨_, pe_callTy call_list_of hg hm hv (pa_cons h pa_nil he) hn hdb he rfl, fun B S H σ ρ Φ Q er q hd => w B S H σ ρ _ _ er q fun d v H1 p1 s1 r1 => ?_⟩
  cases d <;> first | exact p1.elim | skip
  · obtain ⟨a, xs, rfl, lr, rs⟩ := rep_tup r1
    exact ⟨a, xs, rfl, .inr lr, fun l hl => hd _ _ l H1 p1 s1 hl rs⟩
  · obtain ⟨a, xs, rfl, lr, rs⟩ := rep_lst r1
    exact ⟨a, xs, rfl, .inl lr.sq, fun l hl => hd _ _ l H1 p1 s1 hl rs⟩
noncomputable def isInt : D → Bool
  | .int _ => true
  | .bl _ => true
  | _ => false
noncomputable def isBool : D → Bool
  | .bl _ => true
  | _ => false
noncomputable def isTup : D → Bool
  | .tup _ => true
  | _ => false
noncomputable def isLst : D → Bool
  | .lst _ => true
  | _ => false
noncomputable def tyD : D → String
  | .non => "NoneType"
  | .bl _ => "bool"
  | .int _ => "int"
  | .str _ => "str"
  | .tup _ => "tuple"
  | .lst _ => "list"
theorem isinst_D {pins : List (Addr × Obj)} {σ : L2.St} {H : Hp} {s : Shared} {A : Around} {E : Value → Shared → Prop} {Q : Value → Shared → Prop} {c : Value} {b : Bool} {S : Addr → Prop} {d : D} {x : V} {u : Value} (I : Inv X pins σ H s) (rx : RelV x u) (rd : Rep X.K S H d x)
    (e : PySem.W.kitOne X.K (.type (tyD d)) c = some b) (h : ∀ tk, Q (.bool b) { s with toks := tk }) : wpAny (model X.prog X.w) A (call (.builtin "isinstance") [u, c]) Q E s := by
  cases d with
  | non => cases rep_non rd; exact isinst_ok I rx .non e h
  | bl k => cases rep_bl rd; exact isinst_ok I rx (.bl k) e h
  | int k => cases rep_int rd; exact isinst_ok I rx (.int k) e h
  | str k => cases rep_str rd; exact isinst_ok I rx (.str k) e h
  | tup ds =>
    obtain ⟨a, xs, rfl, lr, rs⟩ := rep_tup rd
    cases (show u = Value.ref a from rx)
    obtain ⟨its, r', pl, hz⟩ := I.tuple lr
    obtain ⟨o, h1, h2, _⟩ := pl
    exact PySem.W.kia_one PySem.W.kitx_tuple I.kIn ⟨o, h1, h2⟩ e (fun z => by cases z) h
  | lst ds =>
    obtain ⟨a, xs, rfl, lr, rs⟩ := rep_lst rd
    cases (show u = Value.ref a from rx)
    obtain ⟨its, r', pl, hz⟩ := I.list lr.sq
    obtain ⟨o, n, h1, h2, _⟩ := pl
    exact PySem.W.kia_one PySem.W.kitx_list I.kIn ⟨o, h1, h2⟩ e (fun z => by cases z) h
noncomputable def TyFn (T : String) (f : D → Bool) : Prop := ∀ (K : PySem.W.Frag) (d : D), PySem.W.kitOne K (.type (tyD d)) (.type T) = some (f d)
theorem ty_int : TyFn "int" isInt := fun K d => by cases d <;> rfl
theorem ty_bool : TyFn "bool" isBool := fun K d => by cases d <;> rfl
theorem ty_tuple : TyFn "tuple" isTup := fun K d => by cases d <;> rfl
theorem ty_list : TyFn "list" isLst := fun K d => by cases d <;> rfl
noncomputable abbrev dIsT (f : D → Bool) (te : E3) : E3 := fun ρ Φ => te ρ fun d => Φ (.bl (f d))
theorem pd_isinst {f : D → Bool} {y : Str} {py : Pos} (hT : TyFn T f) (hg : Gl X x) (hm : X.mg x = none) (hv : bootBuiltins x = some (.builtin "isinstance")) (hgy : Gl X y) (hmy : X.mg y = none) (hvy : bootBuiltins y = some (.type T)) (ha : PD X e te)
    (hn : x ≠ "__name__" := by decide) (hdb : (x == ("__debug__" : Str)) = false := by decide) (hny : y ≠ "__name__" := by decide) (hdy : (y == ("__debug__" : Str)) = false := by decide)
    (he : starEach [e, .Name y py] X.env = [(false, eval e X.env), (false, eval (.Name y py) X.env)] := by rfl) (he2 : starEach [.Name y py] X.env = [(false, eval (.Name y py) X.env)] := by rfl) :
    PD X (.Call (.Name x p) [e, .Name y py] [] pos) (dIsT f te) := by
  obtain ⟨t2, h, w⟩ := ha
  have cr : CallR X (.builtin "isinstance") (fun xs H Q => ∃ S d v, xs = [v, .ty T] ∧ Rep X.K S H d v ∧ Q (.bl (f d)) H) := fun pins s σ H xs us Q I rs ⟨S, d, v, e1, rd, q⟩ => by
    subst e1
    obtain ⟨u, u2, rfl, r1, r2⟩ := vals2 rs
    cases (show u2 = Value.type T from r2)
    exact isinst_D I r1 rd (hT X.K d) fun tk => ⟨.bl _, H, I.tok tk, rfl, q⟩
  refine ⟨_, pe_callB cr hg hm hv (pa_cons h (pa_cons (pe_bltn hgy hmy hvy (show RelV (.ty T) (.type T) from rfl) hny hdy) pa_nil he2) (by rw [he, he2])) hn hdb (by rw [he, he2]) (by rw [he2]; rfl), fun B S H σ ρ Φ Q er q hd => w B S H σ ρ _ _ er q fun d v H1 p1 s1 r1 => ?_⟩
  exact ⟨S, d, v, rfl, r1, hd _ _ H1 p1 s1 Rep.bl⟩
end
end D3

set_option Elab.async false
set_option linter.all false
set_option maxRecDepth 100000
set_option maxHeartbeats 4000000
namespace D3
open PySem PySem.Spec PyProof.Rows L2
section
variable {K : PySem.W.Frag} {B : Bs} {S : Addr → Prop} {H : Hp} {σ : L2.St} {ρ : Fr3} {i : Nat} {d : D} {ds es : List D} {v : V} {a p : Addr} {xs ys : List V}
theorem ER.take (er : ER K B S H σ ρ) (hp : H p = none) (r : Reps K S H ds xs) : ER K B (fun b => S b ∨ b = p) (upd H p (.lst xs)) (σ.set i (some (.ref p))) (ρ.set i (.own ds)) := by
  have sm := same_new (o := .lst xs) hp
  have hL : ∀ b ys, LR K S H b ys → LR K (fun b => S b ∨ b = p) (upd H p (.lst xs)) b ys := fun b ys q => by
    rcases q with ⟨n, q⟩ | q
    · have hb : b ≠ p := by
        rintro rfl
        rcases q with q | ⟨o, q⟩ <;> rw [hp] at q <;> cases q
      refine .inl ⟨fun z => z.elim n hb, ?_⟩
      rcases q with q | ⟨o, q⟩
      · exact .inl (sm _ _ q)
      · exact .inr ⟨o, sm _ _ q⟩
    · exact .inr q
  have mv : ∀ {c : D} {w : V}, Rep K S H c w → Rep K (fun b => S b ∨ b = p) (upd H p (.lst xs)) c w := fun {c w} q => Rep.map (same_tup sm) hL c w q
  have mvs : ∀ {c : List D} {w : List V}, Reps K S H c w → Reps K (fun b => S b ∨ b = p) (upd H p (.lst xs)) c w := fun {c w} q => Reps.map (same_tup sm) hL c w q
  have h0 : B.H0 p = none := er.same.free hp
  exact {
    len := by rw [List.length_set, List.length_set]; exact er.len
    same := er.same.trans sm
    sub := fun b h => .inl (er.sub b h)
    ok0 := er.ok0
    ok := fun b h => by
      by_cases hb : b = p
      · subst hb; exact ⟨_, upd_same⟩
      · obtain ⟨o, e⟩ := er.ok b (h.resolve_right hb)
        exact ⟨o, sm _ _ e⟩
    val := fun j c q => by
      rw [List.getElem?_set] at q
      split at q
      · first | cases q | (split at q <;> cases q)
      · rename_i hij
        obtain ⟨w, e, r'⟩ := er.val j c q
        exact ⟨w, by rw [List.getElem?_set_ne hij]; exact e, mv r'⟩
    own := fun j c q => by
      rw [List.getElem?_set] at q
      split at q
      · rename_i hij
        subst hij
        split at q
        · rename_i hl
          cases q
          exact ⟨p, xs, by rw [List.getElem?_set_self (by rw [er.len]; exact hl)], .inr rfl, h0, upd_same, mvs r⟩
        · cases q
      · rename_i hij
        obtain ⟨b, zs, e, hs, hz, hl, r'⟩ := er.own j c q
        exact ⟨b, zs, by rw [List.getElem?_set_ne hij]; exact e, .inl hs, hz, sm _ _ hl, mvs r'⟩
    uq := fun j k b c c' q1 q2 e1 e2 => by
      rw [List.getElem?_set] at q1 q2
      split at q1
      · rename_i h1
        subst h1
        split at q1
        · rename_i hl
          rw [List.getElem?_set_self (by rw [er.len]; exact hl)] at e1
          cases e1
          split at q2
          · rename_i h2; exact h2
          · rename_i h2
            obtain ⟨b, zs, e, hs, hz, hl', r'⟩ := er.own k c' q2
            rw [List.getElem?_set_ne h2, e] at e2
            cases e2
            rw [hp] at hl'; cases hl'
        · cases q1
      · rename_i h1
        split at q2
        · rename_i h2
          subst h2
          split at q2
          · rename_i hl
            rw [List.getElem?_set_self (by rw [er.len]; exact hl)] at e2
            cases e2
            obtain ⟨b, zs, e, hs, hz, hl', r'⟩ := er.own j c q1
            rw [List.getElem?_set_ne h1, e] at e1
            cases e1
            rw [hp] at hl'; cases hl'
          · cases q2
        · rename_i h2
          rw [List.getElem?_set_ne h1] at e1
          rw [List.getElem?_set_ne h2] at e2
          exact er.uq j k b c c' q1 q2 e1 e2
    dct := fun j ks' ds' q => by
      rw [List.getElem?_set] at q
      split at q
      · first | cases q | (split at q <;> cases q)
      · rename_i hij
        obtain ⟨b, e, hs, hz, r'⟩ := er.dct j ks' ds' q
        exact ⟨b, by rw [List.getElem?_set_ne hij]; exact e, .inl hs, hz, r'.map mvs (upd_ne (r'.ne' hp))⟩
    dq := fun j k a ks ds ks' ds' q1 q2 e1 e2 => by
      rw [List.getElem?_set] at q1 q2
      split at q1
      · first | cases q1 | (split at q1 <;> cases q1)
      · split at q2
        · first | cases q2 | (split at q2 <;> cases q2)
        · rename_i h1 h2
          rw [List.getElem?_set_ne h1] at e1
          rw [List.getElem?_set_ne h2] at e2
          exact er.dq j k a ks ds ks' ds' q1 q2 e1 e2
    gh := fun q hq => mv (er.gh q hq) }
theorem ER.change (er : ER K B S H σ ρ) (ho : ρ[i]? = some (.own ds)) (ha : σ[i]? = some (some (.ref a))) (hs : S a) (h0 : B.H0 a = none) (hl : H a = some (.lst xs)) (r : Reps K S H es ys) : ER K B S (upd H a (.lst ys)) σ (ρ.set i (.own es)) := by
  have hT : ∀ b zs, SqT K H b zs → SqT K (upd H a (.lst ys)) b zs := fun b zs q => by
    rcases q with (q | ⟨o, q⟩) | q
    · exact .inl (.inl (by rw [upd_ne (ne_of q hl (fun z => by cases z))]; exact q))
    · exact .inl (.inr ⟨o, by rw [upd_ne (ne_of q hl (fun z => by cases z))]; exact q⟩)
    · exact .inr q
  have hL : ∀ b zs, LR K S H b zs → LR K S (upd H a (.lst ys)) b zs := fun b zs q => by
    rcases q with ⟨n, q⟩ | q
    · have hb : b ≠ a := fun z => n (z ▸ hs)
      refine .inl ⟨n, ?_⟩
      rcases q with q | ⟨o, q⟩
      · exact .inl (by rw [upd_ne hb]; exact q)
      · exact .inr ⟨o, by rw [upd_ne hb]; exact q⟩
    · exact .inr q
  have mv : ∀ {c : D} {w : V}, Rep K S H c w → Rep K S (upd H a (.lst ys)) c w := fun {c w} q => Rep.map hT hL c w q
  have mvs : ∀ {c : List D} {w : List V}, Reps K S H c w → Reps K S (upd H a (.lst ys)) c w := fun {c w} q => Reps.map hT hL c w q
  have hi : i < ρ.length := (List.getElem?_eq_some_iff.mp ho).1
  exact {
    len := by rw [List.length_set]; exact er.len
    same := fun b o e => by
      have hb : b ≠ a := ne_of_none e h0
      rw [upd_ne hb]; exact er.same b o e
    sub := er.sub
    ok0 := er.ok0
    ok := fun b h => by
      by_cases hb : b = a
      · subst hb; exact ⟨_, upd_same⟩
      · obtain ⟨o, e⟩ := er.ok b h
        exact ⟨o, by rw [upd_ne hb]; exact e⟩
    val := fun j c q => by
      rw [List.getElem?_set] at q
      split at q
      · first | cases q | (split at q <;> cases q)
      · obtain ⟨w, e, r'⟩ := er.val j c q
        exact ⟨w, e, mv r'⟩
    own := fun j c q => by
      rw [List.getElem?_set] at q
      split at q
      · rename_i hij
        subst hij
        try rw [if_pos hi] at q
        cases q
        exact ⟨a, ys, ha, hs, h0, upd_same, mvs r⟩
      · rename_i hij
        obtain ⟨b, zs, e, hsb, hz, hlb, r'⟩ := er.own j c q
        have hb : b ≠ a := fun z => hij (er.uq i j a ds c ho q ha (z ▸ e))
        exact ⟨b, zs, e, hsb, hz, by rw [upd_ne hb]; exact hlb, mvs r'⟩
    uq := fun j k b c c' q1 q2 e1 e2 => by
      have back : ∀ {m : Nat} {c : List D}, (ρ.set i (Sl.own es))[m]? = some (.own c) → ∃ c', ρ[m]? = some (.own c') := fun {m c} q => by
        rw [List.getElem?_set] at q
        split at q
        · rename_i h; subst h; exact ⟨_, ho⟩
        · exact ⟨_, q⟩
      obtain ⟨c1, q1⟩ := back q1
      obtain ⟨c2, q2⟩ := back q2
      exact er.uq j k b c1 c2 q1 q2 e1 e2
    dct := fun j ks' ds' q => by
      rw [List.getElem?_set] at q
      split at q
      · first | cases q | (split at q <;> cases q)
      · obtain ⟨b, e, hsb, hz, r'⟩ := er.dct j ks' ds' q
        exact ⟨b, e, hsb, hz, r'.map mvs (upd_ne (r'.ne hl))⟩
    dq := fun j k a ks ds ks' ds' q1 q2 e1 e2 => by
      rw [List.getElem?_set] at q1 q2
      split at q1
      · first | cases q1 | (split at q1 <;> cases q1)
      · split at q2
        · first | cases q2 | (split at q2 <;> cases q2)
        · exact er.dq j k a ks ds ks' ds' q1 q2 e1 e2
    gh := fun q hq => mv (er.gh q hq) }
theorem ER.freeze (er : ER K B S H σ ρ) (ho : ρ[i]? = some (.own ds)) : ∃ S', ER K B S' H σ (ρ.set i (.val (.lst ds))) := by
  obtain ⟨a, xs, ea, hs, h0, hl, r⟩ := er.own i ds ho
  have hi : i < ρ.length := (List.getElem?_eq_some_iff.mp ho).1
  have sb : ∀ b, (S b ∧ b ≠ a) → S b := fun b h => h.1
  refine ⟨fun b => S b ∧ b ≠ a, ?_⟩
  exact {
    len := by rw [List.length_set]; exact er.len
    same := er.same
    sub := fun b h => ⟨er.sub b h, fun z => by subst z; obtain ⟨o, e⟩ := er.ok0 b h; rw [h0] at e; cases e⟩
    ok0 := er.ok0
    ok := fun b h => er.ok b h.1
    val := fun j c q => by
      rw [List.getElem?_set] at q
      split at q
      · rename_i hij
        subst hij
        try rw [if_pos hi] at q
        cases q
        exact ⟨.ref a, ea, Rep.lst (.inl ⟨fun z => z.2 rfl, .inl hl⟩) (r.sub sb)⟩
      · obtain ⟨w, e, r'⟩ := er.val j c q
        exact ⟨w, e, r'.sub sb⟩
    own := fun j c q => by
      rw [List.getElem?_set] at q
      split at q
      · first | cases q | (split at q <;> cases q)
      · rename_i hij
        obtain ⟨b, zs, e, hsb, hz, hlb, r'⟩ := er.own j c q
        have hb : b ≠ a := fun z => hij (er.uq i j a ds c ho q ea (z ▸ e))
        exact ⟨b, zs, e, ⟨hsb, hb⟩, hz, hlb, r'.sub sb⟩
    uq := fun j k b c c' q1 q2 e1 e2 => by
      rw [List.getElem?_set] at q1 q2
      split at q1
      · first | cases q1 | (split at q1 <;> cases q1)
      · split at q2
        · first | cases q2 | (split at q2 <;> cases q2)
        · exact er.uq j k b c c' q1 q2 e1 e2
    dct := fun j ks' ds' q => by
      rw [List.getElem?_set] at q
      split at q
      · first | cases q | (split at q <;> cases q)
      · obtain ⟨b, e, hsb, hz, r'⟩ := er.dct j ks' ds' q
        exact ⟨b, e, ⟨hsb, r'.ne hl⟩, hz, r'.map (fun r => r.sub sb) rfl⟩
    dq := fun j k a ks ds ks' ds' q1 q2 e1 e2 => by
      rw [List.getElem?_set] at q1 q2
      split at q1
      · first | cases q1 | (split at q1 <;> cases q1)
      · split at q2
        · first | cases q2 | (split at q2 <;> cases q2)
        · exact er.dq j k a ks ds ks' ds' q1 q2 e1 e2
    gh := fun q hq => (er.gh q hq).sub sb }
end
section
variable {X : Cx} {e b : Expr} {te tb : E3} {tf : A3} {pos : Pos} {sts : List Stmt} {t : S3}
noncomputable abbrev sOwn (i : Nat) (tf : A3) : S3 := fun Φ ρ => tf ρ fun ds => Φ (.nx (ρ.set i (.own ds)))
theorem psd_own {i : Nat} {x : Str} {pos' : Pos} (hN : X.N.Nodup) (hi : X.N[i]? = some x) (hx : Loc X.env.scope x) (he : PF X e tf) (hs : swapsWith e (some (.Name x pos')) pos.line X.env = pure false := by rfl)
    (hf : X.fn x = true ∨ X.env.scope.names.lookup x = some .local := by first | exact .inl rfl | exact .inr rfl | assumption) : PSD X (.Assign [.Name x pos'] e pos) (sOwn i tf) := by
  obtain ⟨t2, h, w⟩ := he
  exact ⟨_, ps_set hN hi hx h hs hf, fun B S H σ ρ Φ D' er q ok => w B S H σ ρ _ _ er q fun ds xs p H1 hΦ s hp r => ok.nx _ _ _ _ hΦ ((er.go s).take hp r)⟩
noncomputable abbrev sFreeze (i : Nat) (t : S3) : S3 := fun Φ ρ => match ρ[i]? with | some (.own ds) => t Φ (ρ.set i (.val (.lst ds))) | _ => t Φ ρ
theorem psd_freeze (i : Nat) (h : PSDs X sts t) : PSDs X sts (sFreeze i t) := by
  obtain ⟨t2, h, w⟩ := h
  refine ⟨_, h, fun B S H σ ρ Φ D' er q ok => ?_⟩
  unfold sFreeze at q
  split at q
  · rename_i ds e
    obtain ⟨S', er'⟩ := er.freeze e
    exact w B S' H σ _ Φ D' er' q ok
  · exact w B S H σ ρ Φ D' er q ok
noncomputable abbrev sApp (i : Nat) (te : E3) : S3 := fun Φ ρ => match ρ[i]? with | some (.own ds) => te ρ fun d => ds.length < sizeLine ∧ Φ (.nx (ρ.set i (.own (ds ++ [d])))) | _ => False
theorem psd_append {o : Expr} {i : Nat} {apos cpos : Pos} (ho : PE X o (tVar i)) (he : PD X e te)
    (hbase : attributeBase o "append" X.env (eval o X.env) = eval o X.env := by rfl)
    (hfew : ((backTo cpos (starEach [e] X.env)).all (fun x => !x.1) && (backToKw cpos (keywordEach [] X.env)).all (fun x => x.1.isSome)
      && decide (([e] : List Expr).length + ([] : List Keyword).length + (if ([] : List Keyword).isEmpty then 0 else 1) < 30)) = true := by rfl)
    (hline : (apos.endLine == cpos.line) = true := by rfl) (hst : starEach [e] X.env = [(false, eval e X.env)] := by rfl)
    (hs : swapsWith (.Call (.Attribute o "append" apos) [e] [] cpos) none pos.line X.env = pure false := by rfl) : PSD X (.Expr (.Call (.Attribute o "append" apos) [e] [] cpos) pos) (sApp i te) := by
  obtain ⟨t2, h, w⟩ := he
  refine ⟨_, ps_expr (pe_bm PySem.F.plainAttrs_list PySem.F.slot_list_append PySem.F.type_list_append mt_append ho (pa_cons h pa_nil hst) hbase hfew hline hst rfl) hs, fun B S H σ ρ Φ D' er q ok => ?_⟩
  unfold sApp at q
  split at q
  · rename_i ds e'
    obtain ⟨a, xs, ea, hsa, h0, hl, r⟩ := er.own i ds e'
    refine ⟨.ref a, ea, .inl ⟨rfl, xs, SqL.of hl⟩, w B S H σ ρ _ _ er q fun d v H1 p s rv => ?_⟩
    exact ⟨a, xs, v, rfl, rfl, s _ _ hl, by rw [← r.len]; exact p.1, ok.nx _ _ _ _ p.2 ((er.go s).change e' ea hsa h0 (s _ _ hl) ((r.same s).app (Reps.cons rv Reps.nil)))⟩
  · exact q.elim
noncomputable abbrev sSetIx (i : Nat) (ti te : E3) : S3 := fun Φ ρ => te ρ fun d => match ρ[i]? with
  | some (.own ds) => ti ρ fun k => match k with
    | .int j => onS (ixN ds.length j) fun m => Φ (.nx (ρ.set i (.own (ds.set m d))))
    | _ => False
  | _ => False
theorem psd_setIx {o k : Expr} {i : Nat} {tk : E3} {p2 : Pos} (ho : PE X o (tVar i)) (hk : PD X k tk) (he : PD X e te)
    (ha : ∀ v, assign (.Subscript o k p2) X.env v = (do
      let ov ← holding [v] (eval o X.env)
      let iv ← holding [v, ov] (eval k X.env)
      standAt p2
      holding [v, ov, iv] (setItem ov iv v)
      release [v, ov, iv] []) := by intro _; rfl)
    (hs : swapsWithSole [.Subscript o k p2] e pos.line X.env = pure false := by rfl) (hw : swappedStores [.Subscript o k p2] e X.env = pure none := by rfl)
    (h1 : (assignEach [.Subscript o k p2] X.env).map (·.2) = [assign (.Subscript o k p2) X.env] := by rfl) : PSD X (.Assign [.Subscript o k p2] e pos) (sSetIx i tk te) := by
  obtain ⟨t2, h, w⟩ := he; obtain ⟨k2, hk, wk⟩ := hk
  refine ⟨_, ps_asg h (pg_sub ho hk set_list ha) hs hw h1, fun B S H σ ρ Φ D' er q ok => w B S H σ ρ _ _ er q fun d v H1 p1 s1 r1 => ?_⟩
  cases e0 : ρ[i]? with
  | none => rw [e0] at p1; exact p1.elim
  | some sl =>
    rw [e0] at p1
    cases sl with
    | un => exact p1.elim
    | val _ => exact p1.elim
    | dct _ _ => exact p1.elim
    | own ds =>
      obtain ⟨a, xs, ea, hsa, h0, hl, r⟩ := (er.go s1).own i ds e0
      refine ⟨.ref a, ea, wk B S H1 σ ρ _ _ (er.go s1) p1 fun c u H2 p2 s2 r2 => ?_⟩
      cases c <;> first | exact p2.elim | skip
      rename_i j
      obtain ⟨m, e1, p2⟩ := of_onS (show onS (ixN ds.length j) _ from p2)
      · refine ⟨a, xs, j, m, rfl, rep_int r2, s2 _ _ hl, by rw [← r.len]; exact e1, ok.nx _ _ _ _ p2 (((er.go s1).go s2).change e0 ea hsa h0 (s2 _ _ hl) ((r.same s2).set m (r1.same s2)))⟩
noncomputable abbrev dIxO (i : Nat) (tk : E3) : E3 := fun ρ Φ => match ρ[i]? with
  | some (.own ds) => tk ρ fun k => match k with
    | .int j => onS (atI ds j) Φ
    | _ => False
  | _ => False
theorem pd_ixO {o k : Expr} {i : Nat} {tk : E3} (ho : PE X o (tVar i)) (hk : PD X k tk) (hs : PlainIx k) : PD X (.Subscript o k pos) (dIxO i tk) := by
  obtain ⟨k2, hk, wk⟩ := hk
  refine ⟨_, pe_ix ix_list ho hk hs, fun B S H σ ρ Φ Q er q hd => ?_⟩
  unfold dIxO at q
  split at q
  · rename_i ds e0
    obtain ⟨a, xs, ea, hsa, h0, hl, r⟩ := er.own i ds e0
    refine ⟨.ref a, ea, wk B S H σ ρ _ _ er q fun c u H2 p2 s2 r2 => ?_⟩
    cases c <;> first | exact p2.elim | skip
    rename_i j
    obtain ⟨d, e1, p2⟩ := of_onS (show onS (atI ds j) Φ from p2)
    · obtain ⟨w, ew, rw'⟩ := atI_rep (r.same s2) e1
      exact ⟨a, xs, j, w, rfl, rep_int r2, SqL.of (s2 _ _ hl), ew, hd _ _ H2 p2 s2 rw'⟩
  · exact q.elim
end
end D3

set_option Elab.async false
set_option linter.all false
set_option maxRecDepth 100000
set_option maxHeartbeats 4000000
namespace D3
open PySem PySem.Spec PyProof.Rows L2
noncomputable def clOf (env : Env) : List (Str × NameKind) → List (Str × Addr) → List (Str × Addr)
  | [], cs => cs
  | (n, k) :: r, cs => if (k == .free) = true then (match env.cells.lookup n with | some c => clOf env r ((n, c) :: cs) | none => clOf env r cs) else clOf env r cs
theorem closure_of {scope : Scope} {env : Env} (h : ∀ p ∈ scope.names, p.2 = .free → ∃ c, env.cells.lookup p.1 = some c) : closureFor scope env = pure (clOf env scope.names []) := by
  unfold closureFor
  have key : ∀ (l : List (Str × NameKind)) (cs : List (Str × Addr)), (∀ p ∈ l, p.2 = .free → ∃ c, env.cells.lookup p.1 = some c) →
      (forIn l cs fun x r => match x with | (name, kind) => if (kind == NameKind.free) = true then (do let a ← cellOf env name; pure (ForInStep.yield ((name, a) :: r))) else pure (ForInStep.yield r) : Sem (List (Str × Addr))) = pure (clOf env l cs) := by
    intro l
    induction l with
    | nil => intro cs _; rfl
    | cons p r ih =>
      intro cs hl
      obtain ⟨n, k⟩ := p
      rw [List.forIn_cons]
      have hr := fun cs' => ih cs' fun q hq => hl q (List.mem_cons_of_mem _ hq)
      unfold clOf
      by_cases hk : (k == NameKind.free) = true
      · obtain ⟨c, hc⟩ := hl (n, k) List.mem_cons_self (by simpa using hk)
        have hc' : List.lookup n env.cells = some c := hc
        simp only [hk, if_true, hc', cellOf, pure_bind]
        exact hr _
      · simp only [hk, Bool.false_eq_true, if_false, pure_bind]
        exact hr _
  have := key scope.names [] h
  exact (bind_pure _).trans this
theorem clOf_sub {env : Env} : ∀ {l : List (Str × NameKind)} {cs : List (Str × Addr)} {y : Str} {c : Addr}, (∀ y c, cs.lookup y = some c → env.cells.lookup y = some c) → (clOf env l cs).lookup y = some c → env.cells.lookup y = some c
  | [], cs, y, c, h, e => h y c e
  | (n, k) :: r, cs, y, c, h, e => by
    unfold clOf at e
    split at e
    · split at e
      · rename_i c' hc
        refine clOf_sub (l := r) (fun z d q => ?_) e
        rw [List.lookup_cons] at q
        split at q
        · rename_i hz
          cases q
          have : z = n := by simpa using hz
          rw [this]; exact hc
        · exact h z d q
      · exact clOf_sub h e
    · exact clOf_sub h e
theorem clOf_keep {env : Env} : ∀ {l : List (Str × NameKind)} {cs : List (Str × Addr)} {y : Str}, (∃ c, cs.lookup y = some c) → ∃ c, (clOf env l cs).lookup y = some c
  | [], cs, y, h => h
  | (n, k) :: r, cs, y, h => by
    unfold clOf
    split
    · split
      · rename_i c' hc
        refine clOf_keep (l := r) ?_
        rw [List.lookup_cons]
        split
        · exact ⟨_, rfl⟩
        · exact h
      · exact clOf_keep h
    · exact clOf_keep h
theorem clOf_has {env : Env} : ∀ {l : List (Str × NameKind)} {cs : List (Str × Addr)} {y : Str}, (y, NameKind.free) ∈ l → (∃ c, env.cells.lookup y = some c) → ∃ c, (clOf env l cs).lookup y = some c
  | [], cs, y, h, _ => by cases h
  | (n, k) :: r, cs, y, h, he => by
    rcases List.mem_cons.mp h with q | q
    · cases q
      obtain ⟨c, hc⟩ := he
      unfold clOf
      rw [if_pos (by rfl), hc]
      refine clOf_keep ⟨c, ?_⟩
      rw [List.lookup_cons]
      simp
    · unfold clOf
      split
      · split
        · exact clOf_has q he
        · exact clOf_has q he
      · exact clOf_has q he
noncomputable def cmpOk (scope : Scope) (env : Env) (xs M N : List Str) : Bool :=
  scope.kind == .function && scope.names.all (fun p => p.2 != .cell || scope.names.lookup p.1 == some .cell) && scope.names.all (fun p => p.2 != .free || env.kindOf p.1 == some .cell) &&
  scope.names.all (fun p => p.2 != .local || scope.names.lookup p.1 == some .local) && scope.names.all (fun p => p.2 == .local || p.2 == .free || p.2 == .globalImplicit || p.2 == .cell) &&
  xs.all (fun x => scope.names.lookup x == some .local || scope.names.lookup x == some .cell) && M.all (fun y => scope.names.lookup y == none || scope.names.lookup y == some .free || scope.names.lookup y == some .globalImplicit) && M.length == N.length && (M.zip N).all (fun p => p.1 == p.2 || scope.names.lookup p.1 == none)
noncomputable def cmpCx (X : Cx) (xs M : List Str) (scope : Scope) (C : Addr) (s : Shared) (H : Hp) (fp : List Addr) : Cx :=
  { X with N := xs ++ M, s₀ := s, H₀ := H, env := compEnvC scope (cellsFrom (C + 1) scope.names (clOf X.env scope.names [])) C X.env, outer := X.stack, ex := fp, fn := fun y => scope.names.lookup y == some .cell, pn := [], xe := fun _ _ => False }
theorem mem_of_lookup {α : Type} : ∀ {l : List (Str × α)} {y : Str} {k : α}, l.lookup y = some k → (y, k) ∈ l
  | [], y, k, h => by cases h
  | (n, j) :: r, y, k, h => by
    rw [List.lookup_cons] at h
    split at h
    · rename_i hz
      cases h
      have : y = n := by simpa using hz
      rw [this]; exact List.mem_cons_self
    · exact List.mem_cons_of_mem _ (mem_of_lookup h)
theorem lookup_relabel {env : Env} : ∀ {names : List (Str × NameKind)} {x : Str} {k : NameKind},
    (names.map fun (n, k) => if (k == NameKind.free && env.scope.kind == .function && env.kindOf n == some .cell) then (n, NameKind.cell) else (n, k)).lookup x = some k → ∃ j, names.lookup x = some j ∧ (j = k ∨ (j = .free ∧ k = .cell))
  | [], _, _, h => by simp at h
  | (n, j) :: r, x, k, h => by
    have ih := @lookup_relabel env r x k
    change List.lookup x ((if (j == NameKind.free && env.scope.kind == .function && env.kindOf n == some .cell) = true then (n, NameKind.cell) else (n, j)) :: _) = _ at h
    rw [List.lookup_cons]
    cases hx : x == n with
    | true =>
      by_cases hc : (j == NameKind.free && env.scope.kind == .function && env.kindOf n == some .cell) = true
      · rw [if_pos hc, List.lookup_cons] at h
        simp only [hx] at h
        cases h
        refine ⟨j, rfl, .inr ⟨?_, rfl⟩⟩
        have := (Bool.and_eq_true _ _ ▸ (Bool.and_eq_true _ _ ▸ hc).1).1
        simpa using this
      · rw [if_neg hc, List.lookup_cons] at h
        simp only [hx] at h
        cases h
        exact ⟨j, rfl, .inl rfl⟩
    | false =>
      by_cases hc : (j == NameKind.free && env.scope.kind == .function && env.kindOf n == some .cell) = true
      · rw [if_pos hc, List.lookup_cons] at h
        simp only [hx] at h
        exact ih h
      · rw [if_neg hc, List.lookup_cons] at h
        simp only [hx] at h
        exact ih h
structure CmpOk (X : Cx) (xs M : List Str) (scope : Scope) : Prop where
  kind : scope.kind = .function
  cells : ∀ p ∈ scope.names, p.2 = .cell → scope.names.lookup p.1 = some .cell
  free : ∀ p ∈ scope.names, p.2 = .free → X.env.kindOf p.1 = some .cell
  loc : ∀ p ∈ scope.names, p.2 = .local → scope.names.lookup p.1 = some .local
  xs : ∀ x ∈ xs, scope.names.lookup x = some .local ∨ scope.names.lookup x = some .cell
  around : ∀ y ∈ M, scope.names.lookup y = none ∨ scope.names.lookup y = some .free ∨ scope.names.lookup y = some .globalImplicit
  len : M.length = X.N.length
  same : ∀ (i : Nat) y, M[i]? = some y → X.N[i]? = some y ∨ scope.names.lookup y = none
theorem cmp_of {X : Cx} {xs M : List Str} {scope : Scope} (h : cmpOk scope X.env xs M X.N = true) : CmpOk X xs M scope := by
  unfold cmpOk at h
  simp only [Bool.and_eq_true, List.all_eq_true, Bool.or_eq_true, beq_iff_eq, bne_iff_ne, ne_eq] at h
  obtain ⟨⟨⟨⟨⟨⟨⟨⟨h1, h2⟩, h3⟩, h4⟩, h5⟩, h6⟩, h7⟩, h8⟩, h9⟩ := h
  exact ⟨h1, fun p hp e => (h2 p hp).resolve_left fun z => z e, fun p hp e => (h3 p hp).resolve_left fun z => z e, fun p hp e => (h4 p hp).resolve_left fun z => z e, h6, fun y hy => by
    rcases h7 y hy with (a | a) | a
    · exact .inl a
    · exact .inr (.inl a)
    · exact .inr (.inr a), h8, fun i y e => by
      have hi : i < M.length := (List.getElem?_eq_some_iff.mp e).1
      have hi2 : i < X.N.length := by rw [← h8]; exact hi
      have em : M[i] = y := (List.getElem?_eq_some_iff.mp e).2
      have hz : (M[i], X.N[i]) ∈ M.zip X.N := by
        have : (M.zip X.N)[i]? = some (M[i], X.N[i]) := by rw [List.getElem?_zip_eq_some]; exact ⟨by simp, by simp⟩
        exact List.mem_of_getElem? this
      rcases h9 _ hz with q | q
      · left
        have q' : M[i] = X.N[i] := q
        rw [← em, q']; simp
      · right; rw [← em]; exact q⟩
theorem cf_app : ∀ (names : List (Str × NameKind)) (n : Nat) (acc : List (Str × Addr)), cellsFrom n names acc = cellsFrom n names [] ++ acc
  | [], n, acc => rfl
  | (x, k) :: r, n, acc => by
    unfold cellsFrom
    split
    · rw [cf_app r (n + 1) ((x, n) :: acc), cf_app r (n + 1) [(x, n)], List.append_assoc]; rfl
    · exact cf_app r n acc
theorem cf_mem : ∀ {names : List (Str × NameKind)} {n : Nat} {acc : List (Str × Addr)} {y : Str} {c : Addr}, (y, c) ∈ cellsFrom n names acc → (y, c) ∈ acc ∨ ((y, NameKind.cell) ∈ names ∧ n ≤ c)
  | [], n, acc, y, c, h => .inl h
  | (x, k) :: r, n, acc, y, c, h => by
    unfold cellsFrom at h
    split at h
    · rename_i hk
      have hk : k = .cell := by simpa using hk
      rcases cf_mem h with z | z
      · rcases List.mem_cons.mp z with z | z
        · cases z; subst hk; exact .inr ⟨List.mem_cons_self, Nat.le_refl _⟩
        · exact .inl z
      · exact .inr ⟨List.mem_cons_of_mem _ z.1, Nat.le_of_succ_le z.2⟩
    · rcases cf_mem h with z | z
      · exact .inl z
      · exact .inr ⟨List.mem_cons_of_mem _ z.1, z.2⟩
theorem cf_keep : ∀ {names : List (Str × NameKind)} {n : Nat} {acc : List (Str × Addr)} {y : Str}, (∃ c, acc.lookup y = some c) → ∃ c, (cellsFrom n names acc).lookup y = some c
  | [], n, acc, y, h => h
  | (x, k) :: r, n, acc, y, h => by
    unfold cellsFrom
    split
    · refine cf_keep (names := r) ?_
      rw [List.lookup_cons]
      split
      · exact ⟨_, rfl⟩
      · exact h
    · exact cf_keep h
theorem cf_has : ∀ {names : List (Str × NameKind)} {n : Nat} {acc : List (Str × Addr)} {y : Str}, (y, NameKind.cell) ∈ names → ∃ c, (cellsFrom n names acc).lookup y = some c
  | [], n, acc, y, h => by cases h
  | (x, k) :: r, n, acc, y, h => by
    rcases List.mem_cons.mp h with q | q
    · cases q
      unfold cellsFrom
      rw [if_pos (by rfl)]
      refine cf_keep ⟨n, ?_⟩
      rw [List.lookup_cons]
      simp
    · unfold cellsFrom
      split
      · exact cf_has q
      · exact cf_has q
theorem cf_apart : ∀ {names : List (Str × NameKind)} {n : Nat} {acc : List (Str × Addr)}, (∀ p ∈ acc, p.2 < n) → (acc.Pairwise fun x y => x.2 ≠ y.2) → (cellsFrom n names acc).Pairwise fun x y => x.2 ≠ y.2
  | [], n, acc, _, h => h
  | (x, k) :: r, n, acc, hl, h => by
    unfold cellsFrom
    split
    · refine cf_apart (names := r) (fun p hp => ?_) (List.pairwise_cons.mpr ⟨fun p hp e => ?_, h⟩)
      · rcases List.mem_cons.mp hp with z | z
        · rw [z]; exact Nat.lt_succ_self _
        · exact Nat.lt_succ_of_lt (hl p z)
      · have e : n = p.2 := e
        exact absurd (hl p hp) (by rw [← e]; exact Nat.lt_irrefl _)
    · exact cf_apart hl h
theorem cf_cases {names : List (Str × NameKind)} {n : Nat} {cl : List (Str × Addr)} {y : Str} {c : Addr} (h : (cellsFrom n names cl).lookup y = some c) : (cellsFrom n names []).lookup y = some c ∨ ((cellsFrom n names []).lookup y = none ∧ cl.lookup y = some c) := by
  rw [cf_app, List.lookup_append] at h
  cases e : (cellsFrom n names []).lookup y with
  | some a => rw [e] at h; left; simpa using h
  | none => rw [e] at h; right; exact ⟨rfl, by simpa using h⟩
theorem cf_own {names : List (Str × NameKind)} {n : Nat} {y : Str} {c : Addr} (h : (cellsFrom n names []).lookup y = some c) : (y, NameKind.cell) ∈ names ∧ n ≤ c := by
  rcases cf_mem (PySem.mem_of_lookup h) with z | z
  · cases z
  · exact z
theorem cf_none {names : List (Str × NameKind)} {n : Nat} {cl : List (Str × Addr)} {y : Str} (h : ∀ k, (y, k) ∈ names → k ≠ NameKind.cell) : (cellsFrom n names cl).lookup y = cl.lookup y := by
  rw [cf_app, List.lookup_append]
  cases e : (cellsFrom n names []).lookup y with
  | some a => exact absurd rfl (h _ (cf_own e).1)
  | none => simp
section
variable {X : Cx} {pins : List (Addr × Obj)} {σ : L2.St} {H : Hp} {s : Shared} {xs M : List Str} {scope : Scope} {C : Addr} {fp : List Addr}
theorem cmp_cells (I : Inv X pins σ H s) (c : CmpOk X xs M scope) : ∀ p ∈ scope.names, p.2 = .free → ∃ a, X.env.cells.lookup p.1 = some a := fun p hp e => I.ok.has p.1 (.inl (c.free p hp e))
theorem cmp_sub {y : Str} {a : Addr} (e : (clOf X.env scope.names []).lookup y = some a) : X.env.cells.lookup y = some a := clOf_sub (fun _ _ q => by simp at q) e
theorem cmp_ok (I : Inv X pins σ H s) (c : CmpOk X xs M scope) (hC : s.heap.objs.size ≤ C) (hf : ∀ b ∈ fp, FpOk X pins H b) (hlt : ∀ b ∈ fp, b < s.heap.objs.size) : (cmpCx X xs M scope C s H fp).Ok where
  mod := I.ok.mod
  kind := c.kind
  glob := I.ok.glob
  blt := I.ok.blt
  above := hC
  inj := fun x y a e1 e2 => by
    have lt : ∀ z, (clOf X.env scope.names []).lookup z = some a → a < s.heap.objs.size := fun z e => by
      obtain ⟨v, q⟩ := I.cell z a (cmp_sub e); exact q.lt
    rcases cf_cases e1 with z1 | z1 <;> rcases cf_cases e2 with z2 | z2
    · exact name_of_addr (cf_apart (acc := []) (fun p hp => by cases hp) List.Pairwise.nil) (PySem.mem_of_lookup z1) (PySem.mem_of_lookup z2)
    · exact absurd (lt y z2.2) (Nat.not_lt.mpr (Nat.le_trans hC (Nat.le_of_succ_le (cf_own z1).2)))
    · exact absurd (lt x z1.2) (Nat.not_lt.mpr (Nat.le_trans hC (Nat.le_of_succ_le (cf_own z2).2)))
    · exact I.ok.inj x y a (cmp_sub z1.2) (cmp_sub z2.2)
  has := fun x h => by
    have hx : ∃ j, scope.names.lookup x = some j ∧ (j = .free ∨ j = .cell) := by
      rcases h with h | h
      · obtain ⟨j, hj, e⟩ := lookup_relabel h
        rcases e with e | e
        · exact ⟨j, hj, .inr e⟩
        · exact ⟨j, hj, .inl e.1⟩
      · obtain ⟨j, hj, e⟩ := lookup_relabel h
        rcases e with e | e
        · exact ⟨j, hj, .inl e⟩
        · exact ⟨j, hj, .inl e.1⟩
    obtain ⟨j, hj, rfl | rfl⟩ := hx
    · exact cf_keep (clOf_has (mem_of_lookup hj) (cmp_cells I c _ (mem_of_lookup hj) rfl))
    · exact cf_has (mem_of_lookup hj)
  cab := fun x a h e => by
    have hj : scope.names.lookup x = some .cell := by simpa [cmpCx] using h
    rcases cf_cases e with z | z
    · exact Nat.le_trans hC (Nat.le_of_succ_le (cf_own z).2)
    · obtain ⟨a', ha'⟩ := cf_has (n := C + 1) (acc := []) (mem_of_lookup hj)
      rw [z.1] at ha'; cases ha'
  hd := I.ok.hd
  frames := I.ok.frames
  stk := .inl rfl
  exf := fun b hb => ⟨Nat.ne_of_lt (Nat.lt_of_lt_of_le (hlt b hb) hC), fun x a e => by
    rcases cf_cases e with z | z
    · exact Nat.ne_of_gt (Nat.lt_of_lt_of_le (hlt b hb) (Nat.le_trans hC (Nat.le_of_succ_le (cf_own z).2)))
    · exact (hf b hb).2.2.2.2.1 x a (cmp_sub z.2)⟩
  bs := I.bs
  bsz := Nat.le_trans I.ok.bsz I.sz
  noex := fun b o e hb => by
    rcases (hf b hb).2.2.2.1 with z | z
    · exact I.ok.noex b o e z
    · exact absurd (Nat.lt_of_lt_of_le (Heap.lt_size e) (Nat.le_trans I.ok.bsz z)) (Nat.lt_irrefl _)
  exfs := fun b hb z => by
    rcases List.mem_cons.mp (I.stkSub b z) with q | q
    · exact (hf b hb).2.1 q
    · exact (hf b hb).2.2.1 q
  funs := I.stack
  frf := I.stkFree
end
end D3

set_option Elab.async false
set_option linter.all false
set_option maxRecDepth 100000
set_option maxHeartbeats 4000000
namespace D3
open PySem PySem.Spec PyProof.Rows L2
section
variable {prog : Program} {w : World} {A : Around} {R : Result → Shared → Prop} {s : Shared}
theorem comp_loop {elt target iter : Expr} {ifs : List Expr} {scope : Scope} {pos : Pos} {it acc : Value} {env : Env} (I : Nat → Shared → Prop)
    (turn : ∀ n s, I n s → wpAny (model prog w) A (pyNext it) (fun r s₁ => match r with
      | none => R (.ok .next) s₁
      | some v => wpAny (model prog w) A (letOwnedTupleGo target it v) (fun _ s1' => wpAny (model prog w) A (assign target env v) (fun _ s₂ =>
          wpAny (model prog w) A (forIn ifs true fun c r => if r = true then do let ok ← isTrue c env (eval c env); pure (ForInStep.yield ok) else pure (ForInStep.yield r)) (fun ok s₃ =>
            if ok = true then wpAny (model prog w) A (eval elt env) (fun x s₄ =>
              wpAny (model prog w) A (call (.builtin "list.append") [acc, x]) (fun _ s₅ => ∃ m, m < n ∧ I m s₅) (fun _ _ => False) s₄) (fun _ _ => False) s₃
            else ∃ m, m < n ∧ I m s₃) (fun _ _ => False) s₂) (fun _ _ => False) s1') (fun _ _ => False) s₁) (fun _ _ => False) s)
    (n : Nat) (h : I n s) :
    codeAny (model prog w) A (.compLoop (.ListComp elt [⟨target, iter, ifs, 0⟩] scope pos) 0 it acc env) R s := by
  refine codeAny_loop rfl I (fun n s hI => ?_) n h
  show wpAny _ A ((compTurn (.ListComp elt [⟨target, iter, ifs, 0⟩] scope pos) 0 it acc env).onRaise (fun x => do noteFrame x env; theTreesLotGoes x)) _ _ s
  refine wpAny_noted ?_
  rw [compTurn_list]
  refine wpAny_bind (wpAny_standAt (wpAny_bind (wpAny_mono (turn n s hI) (fun r s₁ h₁ => ?_) fun _ _ h' => h'.elim)))
  cases r with
  | none => exact wpAny_pure h₁
  | some v =>
    refine wpAny_bind (wpAny_mono h₁ (fun _ s1' h1' => ?_) fun _ _ h' => h'.elim)
    refine wpAny_bind (wpAny_mono h1' (fun _ s₂ h₂ => wpAny_bind (wpAny_mono h₂ (fun ok s₃ h₃ => ?_) fun _ _ h' => h'.elim)) fun _ _ h' => h'.elim)
    cases ok with
    | false => exact wpAny_pure ⟨rfl, h₃⟩
    | true =>
      exact wpAny_bind (wpAny_bind (wpAny_mono h₃ (fun x s₄ h₄ => wpAny_bind (wpAny_mono h₄ (fun _ s₅ h₅ => wpAny_pure (wpAny_pure ⟨rfl, h₅⟩)) fun _ _ h' => h'.elim)) fun _ _ h' => h'.elim))
end
noncomputable def PTs (X : Cx) (ifs : List Expr) (t : TT) : Prop := (ifs = [] ∧ t = fun _ H Q => Q true H) ∨ ∃ c, ifs = [c] ∧ PT X c t
theorem PTs.run {X : Cx} {ifs : List Expr} {t : TT} (h : PTs X ifs t) {pins : List (Addr × Obj)} {s : Shared} {σ : L2.St} {H : Hp} {Q : Bool → Hp → Prop} (I : Inv X pins σ H s) (q : t σ H Q) :
    wpAny (model X.prog X.w) X.A (forIn ifs true fun c r => if r = true then do let ok ← isTrue c X.env (eval c X.env); pure (ForInStep.yield ok) else pure (ForInStep.yield r)) (TP X pins σ Q) X.xe s := by
  rcases h with ⟨rfl, rfl⟩ | ⟨c, rfl, h⟩
  · exact wpAny_tests_nil ⟨H, I, q⟩
  · exact wpAny_tests_one (h pins s σ H Q I q)
theorem newEnv_cells {M : Model} {A : Around} {E : Value → Shared → Prop} {s : Shared} {scope : Scope} {globals : Addr} {closure : List (Str × Addr)} {qual : Str} {env : Env} {Q : Env → Shared → Prop}
    (h : Q (newEnv scope s.heap.objs.size globals (cellsFrom (s.heap.objs.size + 1) scope.names closure) qual none .none (some env) builtinsNs) { s with heap := pushCells (s.heap.push { cls := .type "dict", data := .dict #[] }) scope.names }) :
    wpAny M A (newFunctionEnv scope globals closure [] qual none .none (some env)) Q E s := by
  simp only [newFunctionEnv, Option.isSome_some, if_true]
  refine wpAny_bind (wpAny_alloc ?_)
  refine wpAny_bind (wpAny_layCells _ (fun name kind cells => by cases hkc : kind == NameKind.cell <;> simp [hkc]) _ _ _ _ ?_)
  rw [show ({ s with heap := s.heap.push { cls := .type "dict", data := .dict #[] } } : Shared).heap.objs.size = s.heap.objs.size + 1 from Heap.size_push ..]
  rw [List.forIn_nil]
  exact wpAny_bind (wpAny_pure (wpAny_pure h))
noncomputable def lcW (n : Nat) (J : It) (g : TG) (tt : TT) (te : TE) (σ : L2.St) (D : Addr) (Fin : List V → Hp → Prop) (H : Hp) : Prop :=
  ∃ W : Nat → Nat → List V → Hp → Prop, (∃ m, W 0 m [] H) ∧ ∀ i m ys H, W i m ys H → H D = some (.lst ys) ∧
    ((J.stop i H ∧ Fin ys H) ∨ (J.go i H ∧ ∀ x H', J.yld i H x H' → g x (List.replicate n none ++ σ) H' fun σ1 H1 => (σ1.length = n + σ.length ∧ ∀ j, σ1[n + j]? = σ[j]?) ∧ tt σ1 H1 fun k H2 =>
      if k = true then te σ1 H2 fun y H3 => H3 D = some (.lst ys) ∧ ys.length < sizeLine ∧ ∃ m', m' < m ∧ W (i + 1) m' (ys ++ [y]) (upd H3 D (.lst (ys ++ [y]))) else ∃ m', m' < m ∧ W (i + 1) m' ys H2))
section
variable {X : Cx} {pins : List (Addr × Obj)} {σ : L2.St} {H : Hp} {s : Shared} {xs M : List Str} {scope : Scope} {target elt iter : Expr} {ifs : List Expr} {pos : Pos} {g : Addr → TG} {tt : Addr → TT} {te : Addr → TE} {it : Addr} {fp : List Addr} {tn : Nat → Heap → Prop} {J : It} {n : Nat}
theorem comp_run {RR : Value → Addr → Result → Shared → Prop} {Fin : Addr → List V → Hp → Prop} (c : CmpOk X xs M scope) (hn : xs.length = n) (hc : X.calm = true) (I : Inv X pins σ H s) (T : Turn X.prog X.w X.K target J fp it tn) (t0 : tn 0 s.heap) (hf : ∀ b ∈ fp, FpOk X pins H b)
    (hg : ∀ C, PG (cmpCx X xs M scope C s H fp) target (g C)) (ht : ∀ C, PTs (cmpCx X xs M scope C s H fp) ifs (tt C)) (he : ∀ C, PE (cmpCx X xs M scope C s H fp) elt (te C))
    (hw : ∀ D C, H D = none → lcW n J (g C) (tt C) (te C) σ D (Fin D) (upd H D (.lst [])))
    (hR : ∀ D C ys H' s', H D = none → s.heap.objs.size ≤ C → H' D = some (.lst ys) → Fin D ys H' → Inv (cmpCx X xs M scope C s H fp) [] (List.replicate n none ++ σ) H' s' → RR (.ref D) C (.ok .next) s') :
    wpAny (model X.prog X.w) X.A (newList []) (fun acc s₃ => wpAny (model X.prog X.w) X.A (newFunctionEnv scope X.env.globals (clOf X.env scope.names []) [] X.env.qual none .none (some X.env)) (fun cenv s₄ =>
      codeAny (model X.prog X.w) X.A (.compStart (.ListComp elt [⟨target, iter, ifs, 0⟩] scope pos) 0 (.ref it) acc { cenv with scope := relabel scope X.env }) (RR acc cenv.locals) s₄) X.xe s₃) X.xe s := by
  refine wpAny_newObj_type (newEnv_cells ?_)
  dsimp only
  generalize hH2 : s.heap.push { cls := .type "list", dict := none, data := .seq ([] : List Value).toArray } = H2
  have hns₁ := (Heap.Ns.new H2 (.type "dict")).keeps (pushCells_keeps scope.names _)
  have cok := cellsFrom_ok scope.names (H2.push { cls := .type "dict", data := .dict #[] }) (H2.objs.size + 1) [] ⟨fun _ _ hm => (by cases hm), List.Pairwise.nil⟩ (by rw [Heap.size_push]; exact Nat.le_refl _)
  rw [Heap.size_push] at cok
  have keep₁ := pushCells_keeps scope.names (H2.push { cls := .type "dict", data := .dict #[] })
  generalize pushCells (H2.push { cls := .type "dict", data := .dict #[] }) scope.names = h₁ at hns₁ cok keep₁ ⊢
  have hC : H2.objs.size = s.heap.objs.size + 1 := by rw [← hH2, Heap.size_push]
  have hDC : s.heap.objs.size ≠ H2.objs.size := by rw [hC]; exact Nat.ne_of_lt (Nat.lt_succ_self _)
  have hle : s.heap.objs.size ≤ H2.objs.size := by rw [hC]; exact Nat.le_succ _
  have old : ∀ b o, s.heap.get? b = some o → h₁.get? b = some o := fun b o e => keep₁ b o (Heap.get?_push_of_some _ (hH2 ▸ Heap.get?_push_of_some _ e))
  have hacc : h₁.get? s.heap.objs.size = some { cls := .type "list", dict := none, data := .seq ([] : List Value).toArray } := keep₁ _ _ (Heap.get?_push_of_some _ (hH2 ▸ Heap.get?_push_size _ rfl))
  have hD : H s.heap.objs.size = none := I.hok.fresh (Nat.le_refl _)
  have hlt : ∀ b ∈ fp, b < s.heap.objs.size := fun b hb => by obtain ⟨o, e, _⟩ := T.obj 0 _ t0 b hb; exact Heap.lt_size e
  have new : ObjOk X.prog X.w (upd H s.heap.objs.size (.lst [])) h₁ s.heap.objs.size (.lst []) := ⟨Nat.zero_le _, [], 0, .nil, hacc⟩
  have ok : (cmpCx X xs M scope H2.objs.size s H fp).Ok := cmp_ok I c hle hf hlt
  have I4 : Inv (cmpCx X xs M scope H2.objs.size s H fp) [] (List.replicate n none ++ σ) (upd H s.heap.objs.size (.lst [])) { s with heap := h₁ } := by
    refine ⟨ok, rfl, I.bare, Un.laid old (Nat.le_refl _) hD, ⟨_, hns₁, fun i y v e1 e2 e3 => ?_⟩, fun y a e => ?_, ?_, fun y a e => ?_, (fun p hp => by cases hp), I.hok.laid old (Nat.le_refl _) new, ?_⟩
    · have hi : n ≤ i := by
        apply Nat.le_of_not_lt
        intro hi
        rw [List.getElem?_append_left (by rw [List.length_replicate]; exact hi), List.getElem?_replicate, if_pos hi] at e2
        cases e2
      have e0' : M[i - n]? = some y := by
        have : (xs ++ M)[i]? = some y := e1
        rw [List.getElem?_append_right (by rw [hn]; exact hi), hn] at this
        exact this
      have e2' : σ[i - n]? = some (some v) := by
        rw [List.getElem?_append_right (by rw [List.length_replicate]; exact hi), List.length_replicate] at e2
        exact e2
      have hy : y ∈ M := List.mem_of_getElem? e0'
      have hl : scope.names.lookup y = some .free := by
        have hv : ∃ j, scope.names.lookup y = some j ∧ (j = .local ∨ j = .cell ∨ j = .free) := by
          rcases e3 with e3 | e3 | e3
          · obtain ⟨j, hj, e⟩ := lookup_relabel e3
            rcases e with e | e
            · exact ⟨j, hj, .inl e⟩
            · exact ⟨j, hj, .inr (.inr e.1)⟩
          · obtain ⟨j, hj, e⟩ := lookup_relabel e3
            rcases e with e | e
            · exact ⟨j, hj, .inr (.inl e)⟩
            · exact ⟨j, hj, .inr (.inr e.1)⟩
          · obtain ⟨j, hj, e⟩ := lookup_relabel e3
            rcases e with e | e
            · exact ⟨j, hj, .inr (.inr e)⟩
            · exact ⟨j, hj, .inr (.inr e.1)⟩
        obtain ⟨j, hj, hk⟩ := hv
        rcases c.around y hy with z | z | z
        · rw [z] at hj; cases hj
        · exact z
        · rw [z] at hj; cases hj
          rcases hk with hk | hk | hk <;> cases hk
      have hcell := c.free _ (mem_of_lookup hl) rfl
      have e1' : X.N[i - n]? = some y := (c.same _ _ e0').resolve_right fun z => by rw [hl] at z; cases z
      obtain ⟨m, hm, hloc⟩ := I.loc
      obtain ⟨u, r, lk⟩ := hloc (i - n) y v e1' e2' (.inr (.inl hcell))
      refine ⟨u, r, .inr ⟨?_, ?_⟩⟩
      · rcases e3 with e3 | e3 | e3
        · obtain ⟨j, hj, e⟩ := lookup_relabel e3
          rw [hl] at hj; cases hj
          rcases e with e | e
          · cases e
          · cases e.2
        · exact .inl e3
        · exact .inr e3
      · rcases lk with ⟨hk, _⟩ | ⟨_, a, ha, z⟩
        · have hk' : X.env.kindOf y = some .local := hk
          rw [hcell] at hk'; cases hk'
        · obtain ⟨a', ha'⟩ := clOf_has (cs := []) (mem_of_lookup hl) ⟨a, ha⟩
          have : a' = a := by have q := cmp_sub ha'; rw [ha] at q; exact (Option.some.inj q).symm
          subst this
          obtain ⟨o, ho, hd⟩ := z
          refine ⟨a', ?_, o, old _ _ ho, hd⟩
          show (cellsFrom (H2.objs.size + 1) scope.names (clOf X.env scope.names [])).lookup y = some a'
          rw [cf_none fun k hk e => ?_]
          · exact ha'
          · subst e
            have := c.cells _ hk rfl
            rw [hl] at this; cases this
    · rcases cf_cases e with z | z
      · exact ⟨none, (cok.empty _ _ (PySem.mem_of_lookup z)).1⟩
      · obtain ⟨v, o, ho, hd⟩ := I.cell y a (cmp_sub z.2)
        exact ⟨v, o, old _ _ ho, hd⟩
    · show upd H s.heap.objs.size (.lst []) H2.objs.size = none
      rw [upd_ne (Ne.symm hDC)]
      exact I.hok.fresh hle
    · rcases cf_cases e with z | z
      · have hge := (cf_own z).2
        have hne : a ≠ s.heap.objs.size := Nat.ne_of_gt (Nat.lt_of_lt_of_le (Nat.lt_succ_of_le hle) hge)
        rw [upd_ne hne]
        exact I.hok.fresh (Nat.le_trans hle (Nat.le_of_succ_le hge))
      · have ha := cmp_sub z.2
        have hne : a ≠ s.heap.objs.size := by obtain ⟨v, q⟩ := I.cell y a ha; exact Nat.ne_of_lt q.lt
        rw [upd_ne hne]
        exact I.freeC y a ha
    · show (List.replicate n none ++ σ).length = (xs ++ M).length
      rw [List.length_append, List.length_append, List.length_replicate, hn, I.len, c.len]
  have t1 : tn 0 h₁ := T.keep 0 _ _ t0 fun b hb o e => old b o e
  have fpn : ∀ b ∈ fp, (upd H s.heap.objs.size (.lst [])) b = none := fun b hb => by rw [upd_ne (Nat.ne_of_lt (hlt b hb))]; exact (hf b hb).1
  have stat : ∀ {H' : Hp}, (∀ b ∈ fp, H' b = none) → ∀ b ∈ fp, FpOk (cmpCx X xs M scope H2.objs.size s H fp) [] H' b := fun hn b hb =>
    ⟨hn b hb, (ok.exf b hb).1, ok.exfs b hb, .inl hb, (ok.exf b hb).2, (fun p hp => by cases hp)⟩
  obtain ⟨W, ⟨m0, w0⟩, turn⟩ := hw _ H2.objs.size hD
  have loop : codeAny (model X.prog X.w) X.A (.compLoop (.ListComp elt [⟨target, iter, ifs, 0⟩] scope pos) 0 (.ref it) (.ref s.heap.objs.size) (compEnvC scope (cellsFrom (H2.objs.size + 1) scope.names (clOf X.env scope.names [])) H2.objs.size X.env)) (RR (.ref s.heap.objs.size) H2.objs.size) { s with heap := h₁ } := by
    refine comp_loop (fun m s' => ∃ i ys H', Inv (cmpCx X xs M scope H2.objs.size s H fp) [] (List.replicate n none ++ σ) H' s' ∧ tn i s'.heap ∧ (∀ b ∈ fp, H' b = none) ∧ W i m ys H') ?_ m0 ⟨0, [], _, I4, t1, fpn, w0⟩
    rintro m s3 ⟨i, ys, H3, I3, t3, f3, w3⟩
    obtain ⟨hD3, alt⟩ := turn i m ys H3 w3
    rcases alt with ⟨stop, fin⟩ | ⟨go, step⟩
    · refine thn (T.done (cmpCx X xs M scope H2.objs.size s H fp) rfl rfl rfl hc i [] s3 _ H3 _ I3 (stat f3) t3 stop) fun r s4 qZ => ?_
      obtain ⟨hr, I5⟩ := qZ
      subst hr
      exact hR _ _ ys H3 s4 hD hle hD3 fin I5
    · refine thn (T.item (cmpCx X xs M scope H2.objs.size s H fp) rfl rfl rfl hc i [] s3 _ H3 _ I3 (stat f3) t3 go) fun r s4 qZ => ?_
      obtain ⟨u, hr, h4⟩ := qZ
      subst hr
      refine thn h4 fun _ s5 qZ => ?_
      obtain ⟨x, H5, I5, r5, y5, t5, f5⟩ := qZ
      have I5' := I5.pinned (stat f5) (T.obj _ _ t5)
      refine thn (hg H2.objs.size _ s5 _ H5 x u _ I5' r5 (step x H5 y5)) fun _ s6 qZ => ?_
      obtain ⟨σ6, H6, I6, ⟨la, lb⟩, q6⟩ := qZ
      refine thn (PTs.run (ht H2.objs.size) I6 q6) fun k s7 qZ => ?_
      obtain ⟨H7, I7, q7⟩ := qZ
      have again : ∀ {H8 : Hp} {s8 : Shared} {ys' : List V}, Inv (cmpCx X xs M scope H2.objs.size s H fp) ([] ++ pinsAt fp s5.heap) σ6 H8 s8 → (∃ m', m' < m ∧ W (i + 1) m' ys' H8) → ∃ m', m' < m ∧ ∃ i ys H', Inv (cmpCx X xs M scope H2.objs.size s H fp) [] (List.replicate n none ++ σ) H' s8 ∧ tn i s8.heap ∧ (∀ b ∈ fp, H' b = none) ∧ W i m' ys H' := by
        intro H8 s8 ys' I8 ⟨m', lt, w8⟩
        have pin8 : ∀ b ∈ fp, ∀ o, s5.heap.get? b = some o → s8.heap.get? b = some o ∧ H8 b = none := fun b hb o e =>
          have z := I8.pin (b, o) (List.mem_append_right _ (List.mem_append_right _ (mem_pinsAt hb e)))
          ⟨z.1, z.2.1⟩
        refine ⟨m', lt, i + 1, ys', H8, ?_, T.keep _ _ _ t5 fun b hb o e => (pin8 b hb o e).1, fun b hb => ?_, w8⟩
        · refine I8.unpinned.weak (by rw [List.length_append, List.length_replicate, la]) fun j v e => ?_
          by_cases hj : j < n
          · rw [List.getElem?_append_left (by rw [List.length_replicate]; exact hj), List.getElem?_replicate, if_pos hj] at e
            cases e
          · rw [List.getElem?_append_right (by rw [List.length_replicate]; omega), List.length_replicate] at e
            have := lb (j - n)
            rw [show n + (j - n) = j by omega] at this
            rw [this]; exact e
        · obtain ⟨o, e, d⟩ := T.obj _ _ t5 b hb
          exact (pin8 b hb o e).2
      cases k with
      | false =>
        simp only [Bool.false_eq_true, if_false] at q7 ⊢
        exact again I7 q7
      | true =>
        simp only [if_true] at q7 ⊢
        refine thn (he H2.objs.size _ s7 _ H7 _ I7 q7) fun y s8 qZ => ?_
        obtain ⟨v8, H8, I8, r8, e8, l8, w8⟩ := qZ
        refine thn (mt_append (X := cmpCx X xs M scope H2.objs.size s H fp) _ s8 _ H8 (.ref s.heap.objs.size) [v8] _ [y] (fun v H9 => ∃ m', m' < m ∧ W (i + 1) m' (ys ++ [v8]) H9) I8 rfl (.cons r8 .nil) ⟨_, ys, v8, rfl, rfl, e8, l8, w8⟩) fun _ s9 ⟨v9, H9, I9, _, w9⟩ => again I9 w9
  exact codeAny_compStart_list loop (T.self _ 0 _ _ _ t1 loop)
end
end D3

set_option Elab.async false
set_option linter.all false
set_option maxRecDepth 100000
set_option maxHeartbeats 4000000
namespace D3
open PySem PySem.Spec PyProof.Rows L2
section
variable {X : Cx} {pins : List (Addr × Obj)} {σ σ' : L2.St} {H H' : Hp} {s s' : Shared} {xs M : List Str} {scope : Scope} {target elt iter : Expr} {ifs : List Expr} {pos : Pos} {g : Addr → Shared → Hp → List Addr → TG} {tt : Addr → Shared → Hp → List Addr → TT} {te : Addr → Shared → Hp → List Addr → TE} {fp : List Addr} {n : Nat} {C : Addr} {wi : TI}
theorem cmp_back {h' : Heap} (I : Inv X pins σ H s) (I' : Inv (cmpCx X xs M scope C s H fp) [] σ' H' s') (hf : ∀ b ∈ fp, FpOk X pins H b) (hC : s.heap.objs.size ≤ C) (sb : Heap.SameBut C s'.heap h') : Inv X pins σ H' { s' with heap := h' } := by
  have hCn : H' C = none := I'.free
  have u := I'.base
  have ne : ∀ b o, s.heap.get? b = some o → b ≠ C := fun b o e => Nat.ne_of_lt (Nat.lt_of_lt_of_le (Heap.lt_size e) hC)
  have u' : Un (frs X.stack) fp H H' s.heap h' :=
    ⟨fun b o e n hb hx => sb.extBut b o (ne b o e) (u.keep b o e n hb hx), fun b o e n hb hx => let ⟨sl, q⟩ := u.slot b o e n hb hx; ⟨sl, sb.extBut b _ (ne b o e) q⟩, fun b o e n hx => u.free b o e n hx,
      fun b o e hx => let ⟨o', q⟩ := u.there b o e hx; ⟨o', sb.extBut b _ (ne b o e) q⟩, u.tups, u.frzs, u.tbls⟩
  have hok : HOk X.prog X.w H' h' := fun b o e => (I'.hok b o e).stay (fun c v hc q => sb.extBut c v (fun z => by
    subst z
    rcases hc with z | z
    · rw [← z, hCn] at e; cases e
    · rw [hCn] at z; cases z) q) (fun _ q => q) fun _ _ q => q
  exact I.call' (ch := fp) (s' := { s' with heap := h' }) I'.os u' hok I'.bare fun b hb => ⟨(hf b hb).2.2.2.1, (hf b hb).2.1, (hf b hb).2.2.2.2.1, (hf b hb).2.2.2.2.2⟩
noncomputable def tLc (n : Nat) (wi : TI) (g : Addr → Shared → Hp → List Addr → TG) (tt : Addr → Shared → Hp → List Addr → TT) (te : Addr → Shared → Hp → List Addr → TE) : TE := fun σ H Q => wi σ H fun J H1 => ∀ D C s fp, H1 D = none → lcW n J (g C s H1 fp) (tt C s H1 fp) (te C s H1 fp) σ D (fun _ H' => Q (.ref D) H') (upd H1 D (.lst []))
theorem pe_comp (hk : cmpOk scope X.env xs M X.N = true) (hn : xs.length = n) (hc : X.calm = true) (hi : PI X target iter wi)
    (hg : ∀ C s H fp, PG (cmpCx X xs M scope C s H fp) target (g C s H fp)) (ht : ∀ C s H fp, PTs (cmpCx X xs M scope C s H fp) ifs (tt C s H fp)) (he : ∀ C s H fp, PE (cmpCx X xs M scope C s H fp) elt (te C s H fp))
    (hs : ∀ x, foldedSetIterable iter X.env x = pure x := by intro _; rfl) : PE X (.ListComp elt [⟨target, iter, ifs, 0⟩] scope pos) (tLc n wi g tt te) := by
  intro pins s σ H Q I h
  have c := cmp_of hk
  rw [eval_ListComp]
  refine wpAny_comprehension_free (use := none) rfl hs (closure_of (cmp_cells I c)) c.kind c.loc (thn (hi pins s σ H _ I h) fun v s1 h1 => thn h1 fun itv s2 h2 => ?_)
  obtain ⟨it, fp, tn, J, H2, e, I2, T, st2, f2, rd⟩ := h2
  subst e
  refine comp_run (RR := compPost (model X.prog X.w) X.A X.xe none (EP X pins σ Q)) (Fin := fun D _ H' => Q (.ref D) H') c hn hc I2 T st2 f2 (fun C => hg C _ _ _) (fun C => ht C _ _ _) (fun C => he C _ _ _) (fun D C hD => rd D C s2 fp hD) ?_
  intro D C ys H' s' hD hC hys fin I'
  obtain ⟨m, hm, _⟩ := I'.loc
  exact ⟨m, hm, fun h' sb => ⟨.ref D, H', cmp_back I2 I' f2 hC sb, rfl, fin⟩⟩
noncomputable def sLc (n i : Nat) (wi : TI) (g : Addr → Shared → Hp → List Addr → TG) (tt : Addr → Shared → Hp → List Addr → TT) (te : Addr → Shared → Hp → List Addr → TE) : TS := fun D' σ H => wi σ H fun J H1 => ∀ D C s fp, H1 D = none → lcW n J (g C s H1 fp) (tt C s H1 fp) (te C s H1 fp) σ D (fun _ H' => D'.nx (σ.set i (some (.ref D))) H') (upd H1 D (.lst []))
theorem ps_setComp {i : Nat} {y : Str} {py spos : Pos} (hN : X.N.Nodup) (hiy : X.N[i]? = some y) (hy : Loc X.env.scope y) (hk : cmpOk scope X.env xs M X.N = true) (hn : xs.length = n) (hc : X.calm = true) (hi : PI X target iter wi)
    (hg : ∀ C s H fp, PG (cmpCx X xs M scope C s H fp) target (g C s H fp)) (ht : ∀ C s H fp, PTs (cmpCx X xs M scope C s H fp) ifs (tt C s H fp)) (he : ∀ C s H fp, PE (cmpCx X xs M scope C s H fp) elt (te C s H fp))
    (hsw : swapsWith (.ListComp elt [⟨target, iter, ifs, 0⟩] scope pos) (some (.Name y py)) spos.line X.env = pure true := by rfl)
    (hf : X.fn y = true ∨ X.env.scope.names.lookup y = some .local := by first | exact .inl rfl | exact .inr rfl | assumption)
    (hs : ∀ x, foldedSetIterable iter X.env x = pure x := by intro _; rfl) : PS X (.Assign [.Name y py] (.ListComp elt [⟨target, iter, ifs, 0⟩] scope pos) spos) (sLc n i wi g tt te) := by
  intro pins s σ H D' I h
  have c := cmp_of hk
  rw [exec_Assign_Name_used _ _ _ _ hsw]
  refine wpAny_bind (wpAny_standAt (wpAny_bind ?_))
  show wpAny _ X.A (do let _ ← comprehension (.ListComp elt [⟨target, iter, ifs, 0⟩] scope pos) scope X.env _ (newList []) false (eval iter X.env) (some (assign (.Name y py) X.env))) _ _ s
  refine wpAny_bind (wpAny_mono (wpAny_comprehension_free (use := some (assign (.Name y py) X.env)) (Q := fun _ s' => SP X pins D' .next s') rfl hs (closure_of (cmp_cells I c)) c.kind c.loc
    (thn (hi pins s σ H _ I h) fun v s1 h1 => thn h1 fun itv s2 h2 => ?_)) (fun _ s' hq => wpAny_pure (wpAny_pure hq)) fun _ _ e => e)
  obtain ⟨it, fp, tn, J, H2, e, I2, T, st2, f2, rd⟩ := h2
  subst e
  refine comp_run (RR := compPost (model X.prog X.w) X.A X.xe (some (assign (.Name y py) X.env)) (fun _ s' => SP X pins D' .next s')) (Fin := fun D _ H' => D'.nx (σ.set i (some (.ref D))) H') c hn hc I2 T st2 f2 (fun C => hg C _ _ _) (fun C => ht C _ _ _) (fun C => he C _ _ _) (fun D C hD => rd D C s2 fp hD) ?_
  intro D C ys H' s' hD hC hys fin I'
  obtain ⟨m, hm, _⟩ := I'.loc
  obtain ⟨oC, es, ep, hoC, hdC, rC⟩ := id hm
  have hCn : H' C = none := I'.free
  have Ib : Inv X pins σ H' s' := cmp_back (h' := s'.heap) I2 I' f2 hC (Heap.SameBut.refl C s'.heap)
  have hCL : C ≠ X.env.locals := Nat.ne_of_gt (Nat.lt_of_lt_of_le I2.lt hC)
  have Ip : Inv X (pins ++ [(C, oC)]) σ H' s' := Ib.pins_of fun p hp => by
    rcases List.mem_append.mp hp with z | z
    · exact Ib.pin p (List.mem_append_right _ z)
    · have e : p = (C, oC) := by simpa using z
      subst e
      exact ⟨hoC, hCn, hCL, I2.nofs hC, fun v z => by rw [hdC] at z; cases z⟩
  show wpAny _ X.A (assign (.Name y py) X.env (.ref D)) _ _ _
  refine thn (pg_name (i := i) hN hiy hy hf _ s' σ H' (.ref D) (.ref D) (fun σ2 H2 => D'.nx σ2 H2) Ip rfl fin) fun _ s2 qZ => ?_
  obtain ⟨σ3, H3, I3, q3⟩ := qZ
  have pc := I3.pin (C, oC) (List.mem_append_right _ (List.mem_append_right _ (by simp)))
  refine ⟨m, ⟨oC, es, ep, pc.1, hdC, rC⟩, fun h' sb => ⟨σ3, H3, ?_, q3⟩⟩
  exact I3.unpinned.turned (t' := s2.toks) (it := C) (fun b o hb e => sb.extBut b o hb e) pc.2.1 hCL (.inr (Nat.le_trans I2.sz hC)) (fun x a e z => by
    obtain ⟨v, q⟩ := I2.cell x a e
    exact absurd (Nat.lt_of_lt_of_le q.lt (z ▸ hC)) (Nat.lt_irrefl _)) fun p hp z => by
    have := I2.pin p hp
    exact absurd (Nat.lt_of_lt_of_le (Heap.lt_size this.1) (z ▸ hC)) (Nat.lt_irrefl _)
end
end D3

set_option Elab.async false
set_option linter.all false
set_option maxRecDepth 100000
set_option maxHeartbeats 4000000
namespace D3
open PySem PySem.Spec PyProof.Rows L2
noncomputable def PGN (X : Cx) (n : Nat) (tg : Expr) (g : G3) : Prop := ∃ g2, PG X tg g2 ∧ ∀ B S H σ ρ d v Ψ (Q : L2.St → Hp → Prop), ER X.K B S H σ ρ → Rep X.K S H d v → g d ρ Ψ →
  (∀ ρ' σ', Ψ ρ' → ER X.K B S H σ' ρ' → σ'.length = σ.length → (∀ j, σ'[n + j]? = σ[n + j]?) → Q σ' H) → g2 v σ H Q
section
variable {X : Cx} {e : Expr} {es : List Expr} {pos : Pos} {n : Nat}
theorem pgn_name {i : Nat} {x : Str} (hin : i < n) (hN : X.N.Nodup) (hi : X.N[i]? = some x) (hx : Loc X.env.scope x) (hf : X.fn x = true ∨ X.env.scope.names.lookup x = some .local := by first | exact .inl rfl | exact .inr rfl | assumption) : PGN X n (.Name x pos) (gN i) :=
  ⟨_, pg_name hN hi hx hf, fun B S H σ ρ d v Ψ Q er r h k => k _ _ h (er.put r) (by rw [List.length_set]) fun j => by rw [List.getElem?_set_ne (by omega)]⟩
end
noncomputable def PBs (X : Cx) (ifs : List Expr) (t : B3) : Prop := (ifs = [] ∧ t = fun _ Φ => Φ true) ∨ ∃ c, ifs = [c] ∧ PB X c t
theorem pbs_nil {X : Cx} : PBs X [] (fun _ Φ => Φ true) := .inl ⟨rfl, rfl⟩
theorem PBs.ex {X : Cx} {ifs : List Expr} {t : B3} (h : PBs X ifs t) : ∃ t2, PTs X ifs t2 ∧ ∀ B S H σ ρ Φ (Q : Bool → Hp → Prop), ER X.K B S H σ ρ → t ρ Φ → (∀ b H', Φ b → Same H H' → Q b H') → t2 σ H Q := by
  rcases h with ⟨rfl, rfl⟩ | ⟨c, rfl, t2, h, w⟩
  · exact ⟨_, .inl ⟨rfl, rfl⟩, fun B S H σ ρ Φ Q er q hd => hd true H q (Same.refl _)⟩
  · exact ⟨t2, .inr ⟨c, rfl, h⟩, w⟩
noncomputable def COMP (g : G3) (tt : B3) (te : E3) (ρ : Fr3) : List D → List D → (List D → Prop) → Prop
  | [], acc, Φ => Φ acc
  | d :: ds, acc, Φ => g d ρ fun ρ1 => tt ρ1 fun k => if k = true then te ρ1 fun y => acc.length < sizeLine ∧ COMP g tt te ρ ds (acc ++ [y]) Φ else COMP g tt te ρ ds acc Φ
noncomputable abbrev fComp (n : Nat) (ti : A3) (g : G3) (tt : B3) (te : E3) : A3 := fun ρ Φ => ti ρ fun ds => COMP g tt te (List.replicate n .un ++ ρ) ds [] Φ
section
variable {K : PySem.W.Frag} {B : Bs} {S : Addr → Prop} {H : Hp} {σ : L2.St} {ρ : Fr3}
theorem ER.shift (er : ER K B S H σ ρ) (n : Nat) : ER K B S H (List.replicate n none ++ σ) (List.replicate n .un ++ ρ) := by
  have sh : ∀ {i : Nat} {x : Sl}, x ≠ .un → (List.replicate n Sl.un ++ ρ)[i]? = some x → n ≤ i ∧ ρ[i - n]? = some x := fun {i x} hx e => by
    by_cases hi : i < n
    · rw [List.getElem?_append_left (by rw [List.length_replicate]; exact hi), List.getElem?_replicate, if_pos hi] at e
      exact absurd (Option.some.inj e).symm hx
    · rw [List.getElem?_append_right (by rw [List.length_replicate]; omega), List.length_replicate] at e
      exact ⟨by omega, e⟩
  have bk : ∀ {i : Nat}, n ≤ i → (List.replicate n (none : Option V) ++ σ)[i]? = σ[i - n]? := fun {i} hi => by
    rw [List.getElem?_append_right (by rw [List.length_replicate]; omega), List.length_replicate]
  exact {
    len := by rw [List.length_append, List.length_append, List.length_replicate, List.length_replicate, er.len]
    same := er.same
    sub := er.sub
    ok0 := er.ok0
    ok := er.ok
    val := fun i d q => by
      obtain ⟨hi, q⟩ := sh (x := .val d) (fun z => by cases z) q
      obtain ⟨v, e, r⟩ := er.val _ d q
      exact ⟨v, (bk hi).trans e, r⟩
    own := fun i d q => by
      obtain ⟨hi, q⟩ := sh (x := .own d) (fun z => by cases z) q
      obtain ⟨a, xs, e, r⟩ := er.own _ d q
      exact ⟨a, xs, (bk hi).trans e, r⟩
    uq := fun i j a ds es q1 q2 e1 e2 => by
      obtain ⟨h1, q1⟩ := sh (x := .own ds) (fun z => by cases z) q1
      obtain ⟨h2, q2⟩ := sh (x := .own es) (fun z => by cases z) q2
      rw [bk h1] at e1
      rw [bk h2] at e2
      have := er.uq _ _ a ds es q1 q2 e1 e2
      omega
    dct := fun i ks d q => by
      obtain ⟨hi, q⟩ := sh (x := .dct ks d) (fun z => by cases z) q
      obtain ⟨a, e, r⟩ := er.dct _ ks d q
      exact ⟨a, (bk hi).trans e, r⟩
    dq := fun i j a ks ds ks' ds' q1 q2 e1 e2 => by
      obtain ⟨h1, q1⟩ := sh (x := .dct ks ds) (fun z => by cases z) q1
      obtain ⟨h2, q2⟩ := sh (x := .dct ks' ds') (fun z => by cases z) q2
      rw [bk h1] at e1
      rw [bk h2] at e2
      have := er.dq _ _ a ks ds ks' ds' q1 q2 e1 e2
      omega
    gh := er.gh }
theorem ER.gather {p : Addr} {xs : List V} (er : ER K B S H σ ρ) (hp : H p = none) : ER K B (fun b => S b ∨ b = p) (upd H p (.lst xs)) σ ρ := by
  have sm := same_new (o := .lst xs) hp
  have hL : ∀ b ys, LR K S H b ys → LR K (fun b => S b ∨ b = p) (upd H p (.lst xs)) b ys := fun b ys q => by
    rcases q with ⟨n, q⟩ | q
    · have hb : b ≠ p := by
        rintro rfl
        rcases q with q | ⟨o, q⟩ <;> rw [hp] at q <;> cases q
      refine .inl ⟨fun z => z.elim n hb, ?_⟩
      rcases q with q | ⟨o, q⟩
      · exact .inl (sm _ _ q)
      · exact .inr ⟨o, sm _ _ q⟩
    · exact .inr q
  have mv : ∀ {c : D} {w : V}, Rep K S H c w → Rep K (fun b => S b ∨ b = p) (upd H p (.lst xs)) c w := fun {c w} q => Rep.map (same_tup sm) hL c w q
  have mvs : ∀ {c : List D} {w : List V}, Reps K S H c w → Reps K (fun b => S b ∨ b = p) (upd H p (.lst xs)) c w := fun {c w} q => Reps.map (same_tup sm) hL c w q
  exact {
    len := er.len
    same := er.same.trans sm
    sub := fun b h => .inl (er.sub b h)
    ok0 := er.ok0
    ok := fun b h => by
      by_cases hb : b = p
      · subst hb; exact ⟨_, upd_same⟩
      · obtain ⟨o, e⟩ := er.ok b (h.resolve_right hb)
        exact ⟨o, sm _ _ e⟩
    val := fun j c q => let ⟨w, e, r'⟩ := er.val j c q; ⟨w, e, mv r'⟩
    own := fun j c q => let ⟨b, zs, e, hs, hz, hl, r'⟩ := er.own j c q; ⟨b, zs, e, .inl hs, hz, sm _ _ hl, mvs r'⟩
    dct := fun j ks ds q => let ⟨b, e, hs, hz, r'⟩ := er.dct j ks ds q; ⟨b, e, .inl hs, hz, r'.map mvs (upd_ne (r'.ne' hp))⟩
    dq := er.dq
    uq := er.uq
    gh := fun q hq => mv (er.gh q hq) }
theorem turn_at {p : Addr} {xs ys : List V} (hs : S p) (hl : H p = some (.lst xs)) : (∀ b zs, SqT K H b zs → SqT K (upd H p (.lst ys)) b zs) ∧ (∀ b zs, LR K S H b zs → LR K S (upd H p (.lst ys)) b zs) := by
  refine ⟨fun b zs q => ?_, fun b zs q => ?_⟩
  · rcases q with (q | ⟨o, q⟩) | q
    · exact .inl (.inl (by rw [upd_ne (ne_of q hl (fun z => by cases z))]; exact q))
    · exact .inl (.inr ⟨o, by rw [upd_ne (ne_of q hl (fun z => by cases z))]; exact q⟩)
    · exact .inr q
  · rcases q with ⟨n, q⟩ | q
    · have hb : b ≠ p := fun z => n (z ▸ hs)
      refine .inl ⟨n, ?_⟩
      rcases q with q | ⟨o, q⟩
      · exact .inl (by rw [upd_ne hb]; exact q)
      · exact .inr ⟨o, by rw [upd_ne hb]; exact q⟩
    · exact .inr q
theorem ER.grow {p : Addr} {xs ys : List V} (er : ER K B S H σ ρ) (hs : S p) (h0 : B.H0 p = none) (hl : H p = some (.lst xs)) (hno : ∀ (i : Nat) ds, ρ[i]? = some (.own ds) → σ[i]? ≠ some (some (.ref p))) : ER K B S (upd H p (.lst ys)) σ ρ := by
  obtain ⟨hT, hL⟩ := turn_at (K := K) (ys := ys) hs hl
  have mv : ∀ {c : D} {w : V}, Rep K S H c w → Rep K S (upd H p (.lst ys)) c w := fun {c w} q => Rep.map hT hL c w q
  have mvs : ∀ {c : List D} {w : List V}, Reps K S H c w → Reps K S (upd H p (.lst ys)) c w := fun {c w} q => Reps.map hT hL c w q
  exact {
    len := er.len
    same := fun b o e => by rw [upd_ne (ne_of_none e h0)]; exact er.same b o e
    sub := er.sub
    ok0 := er.ok0
    ok := fun b h => by
      by_cases hb : b = p
      · subst hb; exact ⟨_, upd_same⟩
      · obtain ⟨o, e⟩ := er.ok b h
        exact ⟨o, by rw [upd_ne hb]; exact e⟩
    val := fun j c q => let ⟨w, e, r'⟩ := er.val j c q; ⟨w, e, mv r'⟩
    own := fun j c q => by
      obtain ⟨b, zs, e, hsb, hz, hlb, r'⟩ := er.own j c q
      have hb : b ≠ p := fun z => hno j c q (z ▸ e)
      exact ⟨b, zs, e, hsb, hz, by rw [upd_ne hb]; exact hlb, mvs r'⟩
    dct := fun j ks ds q => let ⟨b, e, hs, hz, r'⟩ := er.dct j ks ds q; ⟨b, e, hs, hz, r'.map mvs (upd_ne (r'.ne hl))⟩
    dq := er.dq
    uq := er.uq
    gh := fun q hq => mv (er.gh q hq) }
end
section
variable {X : Cx} {xs M : List Str} {scope : Scope} {target elt iter : Expr} {ifs : List Expr} {pos : Pos} {ti : A3} {g : G3} {tt : B3} {te : E3} {n : Nat}
theorem comp_lcG {g2 : TG} {tt2 : TT} {te2 : TE} {K : PySem.W.Frag} (wg : ∀ B S H σ ρ d v Ψ (Q : L2.St → Hp → Prop), ER K B S H σ ρ → Rep K S H d v → g d ρ Ψ → (∀ ρ' σ', Ψ ρ' → ER K B S H σ' ρ' → σ'.length = σ.length → (∀ j, σ'[n + j]? = σ[n + j]?) → Q σ' H) → g2 v σ H Q)
    (wt : ∀ B S H σ ρ Φ (Q : Bool → Hp → Prop), ER K B S H σ ρ → tt ρ Φ → (∀ b H', Φ b → Same H H' → Q b H') → tt2 σ H Q) (we : ∀ B S H σ ρ Φ Q, ER K B S H σ ρ → te ρ Φ → Hand K S H Φ Q → te2 σ H Q)
    {B : Bs} {S : Addr → Prop} {H : Hp} {σ : L2.St} {ρ : Fr3} {Φ : List D → Prop} {J : It} {hs : List (D × V)} {ds : List D} {p : Addr} {Q : VK} {Fin : List V → Hp → Prop} (er : ER K B S H σ ρ) (rv : ∀ p ∈ hs, Rep K S H p.1 p.2) (wk : ∀ S H, ER K { B with gh := hs ++ B.gh } S H σ ρ → J.stop ds.length H ∧ ∀ (i : Nat), i < ds.length → J.go i H ∧ ∀ x H', J.yld i H x H' → Same H H' ∧ ∃ e, ds[i]? = some e ∧ Rep K S H' e x) (hp : H p = none)
    (h : COMP g tt te (List.replicate n .un ++ ρ) ds [] Φ) (hd : HandN K S H Φ Q) (hF : ∀ ys H', Q (.ref p) H' → Fin ys H') : lcW n J g2 tt2 te2 σ p Fin (upd H p (.lst [])) := by
  have hno : ∀ (i : Nat) es, ρ[i]? = some (.own es) → σ[i]? ≠ some (some (.ref p)) := fun i es q z => by
    obtain ⟨a, zs, e, _, _, hl, _⟩ := er.own i es q
    rw [e] at z; cases z
    rw [hp] at hl; cases hl
  have h0 : B.H0 p = none := er.same.free hp
  refine ⟨fun i m ys H1 => m = ds.length - i ∧ i ≤ ds.length ∧ H1 p = some (.lst ys) ∧ (∀ b o, H b = some o → H1 b = some o) ∧ ∃ acc, ER K { B with gh := hs ++ B.gh } (fun b => S b ∨ b = p) H1 σ ρ ∧ Reps K (fun b => S b ∨ b = p) H1 acc ys ∧ COMP g tt te (List.replicate n .un ++ ρ) (ds.drop i) acc Φ,
    ⟨_, rfl, Nat.zero_le _, upd_same, same_new hp, [], (er.holds rv).gather hp, Reps.nil, h⟩, ?_⟩
  rintro i m ys H1 ⟨rfl, hi, hl, sm, acc, er1, ra, hc⟩
  refine ⟨hl, ?_⟩
  obtain ⟨wstop, wgo⟩ := wk _ H1 er1
  by_cases hlt : i < ds.length
  · obtain ⟨go, yl⟩ := wgo i hlt
    rw [List.drop_eq_getElem_cons hlt] at hc
    refine .inr ⟨go, fun x H2 y => ?_⟩
    obtain ⟨sy, e', ee, re⟩ := yl x H2 y
    rw [List.getElem?_eq_getElem hlt] at ee
    cases ee
    have er1 := er1.go sy
    have hl := sy _ _ hl
    have sm : ∀ b o, H b = some o → H2 b = some o := fun b o e => sy _ _ (sm b o e)
    have ra := ra.same sy
    have er1' := er1.shift n
    refine wg _ _ _ _ _ _ x _ _ er1' re hc fun ρ1 σ1 h1 er2 l1 l2 => ⟨⟨by rw [l1, List.length_append, List.length_replicate], fun j => ?_⟩, wt _ _ _ _ _ _ _ er2 h1 fun k H3 hk s3 => ?_⟩
    · rw [l2 j, List.getElem?_append_right (by rw [List.length_replicate]; omega), List.length_replicate, Nat.add_sub_cancel_left]
    · cases k with
      | false =>
        simp only [Bool.false_eq_true, if_false] at hk ⊢
        exact ⟨_, by omega, rfl, hlt, s3 _ _ hl, fun b o e => s3 _ _ (sm b o e), acc, er1.go s3, ra.same s3, hk⟩
      | true =>
        simp only [if_true] at hk ⊢
        refine we _ _ _ _ _ _ _ (er2.go s3) hk fun y u H4 hy s4 ry => ?_
        have s34 := s3.trans s4
        have hl4 := s34 _ _ hl
        have er4 := er1.go s34
        refine ⟨hl4, by rw [← ra.len]; exact hy.1, _, by omega, rfl, hlt, upd_same, fun b o e => ?_, acc ++ [y], er4.grow (.inr rfl) h0 hl4 hno, ?_, hy.2⟩
        · have hb : b ≠ p := ne_of_none e hp
          rw [upd_ne hb]
          exact s34 _ _ (sm b o e)
        · obtain ⟨hT, hL⟩ := turn_at (K := K) (S := fun b => S b ∨ b = p) (ys := ys ++ [u]) (.inr rfl) hl4
          exact Reps.map hT hL _ _ ((ra.same s34).app (Reps.cons ry Reps.nil))
  · have hi' : i = ds.length := by omega
    subst hi'
    rw [List.drop_length] at hc
    refine .inl ⟨wstop, hF ys H1 ?_⟩
    -- the heap without the gathered list
    have eH : upd (fun b => if b = p then none else H1 b) p (.lst ys) = H1 := by
      funext b
      by_cases hb : b = p
      · subst hb; rw [upd_same, hl]
      · rw [upd_ne hb]; simp only [hb, if_false]
    have hT : ∀ b zs, SqT K H1 b zs → SqT K (fun b => if b = p then none else H1 b) b zs := fun b zs q => by
      rcases q with (q | ⟨o, q⟩) | q
      · exact .inl (.inl (by simp only [ne_of q hl (fun z => by cases z), if_false]; exact q))
      · exact .inl (.inr ⟨o, by simp only [ne_of q hl (fun z => by cases z), if_false]; exact q⟩)
      · exact .inr q
    have hL : ∀ b zs, LR K (fun b => S b ∨ b = p) H1 b zs → LR K S (fun b => if b = p then none else H1 b) b zs := fun b zs q => by
      rcases q with ⟨n, q⟩ | q
      · have hb : b ≠ p := fun z => n (.inr z)
        refine .inl ⟨fun z => n (.inl z), ?_⟩
        rcases q with q | ⟨o, q⟩
        · exact .inl (by simp only [hb, if_false]; exact q)
        · exact .inr ⟨o, by simp only [hb, if_false]; exact q⟩
      · exact .inr q
    have := hd acc ys p (fun b => if b = p then none else H1 b) hc (fun b o e => by simp only [ne_of_none e hp, if_false]; exact sm b o e) (by simp) (Reps.map hT hL _ _ ra)
    rw [eH] at this
    exact this
theorem comp_lcW {g2 : TG} {tt2 : TT} {te2 : TE} {K : PySem.W.Frag} (wg : ∀ B S H σ ρ d v Ψ (Q : L2.St → Hp → Prop), ER K B S H σ ρ → Rep K S H d v → g d ρ Ψ → (∀ ρ' σ', Ψ ρ' → ER K B S H σ' ρ' → σ'.length = σ.length → (∀ j, σ'[n + j]? = σ[n + j]?) → Q σ' H) → g2 v σ H Q)
    (wt : ∀ B S H σ ρ Φ (Q : Bool → Hp → Prop), ER K B S H σ ρ → tt ρ Φ → (∀ b H', Φ b → Same H H' → Q b H') → tt2 σ H Q) (we : ∀ B S H σ ρ Φ Q, ER K B S H σ ρ → te ρ Φ → Hand K S H Φ Q → te2 σ H Q)
    {B : Bs} {S : Addr → Prop} {H : Hp} {σ : L2.St} {ρ : Fr3} {Φ : List D → Prop} {J : It} {hs : List (D × V)} {ds : List D} {p : Addr} {Q : VK} {Fin : List V → Hp → Prop} (er : ER K B S H σ ρ) (rv : ∀ p ∈ hs, Rep K S H p.1 p.2) (wk : WlkL K J hs ds) (hp : H p = none)
    (h : COMP g tt te (List.replicate n .un ++ ρ) ds [] Φ) (hd : HandN K S H Φ Q) (hF : ∀ ys H', Q (.ref p) H' → Fin ys H') : lcW n J g2 tt2 te2 σ p Fin (upd H p (.lst [])) :=
  comp_lcG wg wt we er rv (fun S H er => wk S H fun p hp => er.gh p (List.mem_append_left _ hp)) hp h hd hF
theorem pf_comp (hk : cmpOk scope X.env xs M X.N = true) (hn : xs.length = n) (hc : X.calm = true) (hi : PID X target iter ti)
    (hg : ∀ C s H fp, PGN (cmpCx X xs M scope C s H fp) n target g) (ht : ∀ C s H fp, PBs (cmpCx X xs M scope C s H fp) ifs tt) (he : ∀ C s H fp, PD (cmpCx X xs M scope C s H fp) elt te)
    (hs : ∀ x, foldedSetIterable iter X.env x = pure x := by intro _; rfl) : PF X (.ListComp elt [⟨target, iter, ifs, 0⟩] scope pos) (fComp n ti g tt te) := by
  obtain ⟨wi, hi, ww⟩ := hi
  have ht' := fun C s H fp => (ht C s H fp).ex
  refine ⟨_, pe_comp hk hn hc hi (fun C s H fp => (hg C s H fp).choose_spec.1) (fun C s H fp => (ht' C s H fp).choose_spec.1) (fun C s H fp => (he C s H fp).choose_spec.1) hs, fun B S H σ ρ Φ Q er q hd => ?_⟩
  refine ww B S H σ ρ _ _ er q fun ds J hs H1 hΦ s1 rv wk D C s fp hD => ?_
  exact comp_lcW (hg C s H1 fp).choose_spec.2 (ht' C s H1 fp).choose_spec.2 (he C s H1 fp).choose_spec.2 (er.go s1) rv wk hD hΦ (Q := Q) (fun es zs p H2 p1 s2 hp r => hd es zs p H2 p1 (s1.trans s2) hp r) fun _ _ z => z
theorem setComp_ex {i : Nat} {y : Str} {py spos : Pos} (hN : X.N.Nodup) (hiy : X.N[i]? = some y) (hy : Loc X.env.scope y) (hk : cmpOk scope X.env xs M X.N = true) (hn : xs.length = n) (hc : X.calm = true) (hi : PID X target iter ti)
    (hg : ∀ C s H fp, PGN (cmpCx X xs M scope C s H fp) n target g) (ht : ∀ C s H fp, PBs (cmpCx X xs M scope C s H fp) ifs tt) (he : ∀ C s H fp, PD (cmpCx X xs M scope C s H fp) elt te)
    (hsw : swapsWith (.ListComp elt [⟨target, iter, ifs, 0⟩] scope pos) (some (.Name y py)) spos.line X.env = pure true)
    (hf : X.fn y = true ∨ X.env.scope.names.lookup y = some .local) (hs : ∀ x, foldedSetIterable iter X.env x = pure x) :
    ∃ t2, PS X (.Assign [.Name y py] (.ListComp elt [⟨target, iter, ifs, 0⟩] scope pos) spos) t2 ∧ ∀ B S H σ ρ Φ (D' : Ends), ER X.K B S H σ ρ → fComp n ti g tt te ρ Φ → HandN X.K S H Φ (fun v H' => D'.nx (σ.set i (some v)) H') → t2 D' σ H := by
  obtain ⟨wi, hi, ww⟩ := hi
  have ht' := fun C s H fp => (ht C s H fp).ex
  refine ⟨_, ps_setComp hN hiy hy hk hn hc hi (fun C s H fp => (hg C s H fp).choose_spec.1) (fun C s H fp => (ht' C s H fp).choose_spec.1) (fun C s H fp => (he C s H fp).choose_spec.1) hsw hf hs, fun B S H σ ρ Φ D' er q hd => ?_⟩
  refine ww B S H σ ρ _ _ er q fun ds J hs H1 hΦ s1 rv wk D C s fp hD => ?_
  exact comp_lcW (hg C s H1 fp).choose_spec.2 (ht' C s H1 fp).choose_spec.2 (he C s H1 fp).choose_spec.2 (er.go s1) rv wk hD hΦ (Q := fun v H' => D'.nx (σ.set i (some v)) H') (fun es zs p H2 p1 s2 hp r => hd es zs p H2 p1 (s1.trans s2) hp r) fun _ _ z => z
theorem psd_setComp {i : Nat} {y : Str} {py spos : Pos} (hN : X.N.Nodup) (hiy : X.N[i]? = some y) (hy : Loc X.env.scope y) (hk : cmpOk scope X.env xs M X.N = true) (hn : xs.length = n) (hc : X.calm = true) (hi : PID X target iter ti)
    (hg : ∀ C s H fp, PGN (cmpCx X xs M scope C s H fp) n target g) (ht : ∀ C s H fp, PBs (cmpCx X xs M scope C s H fp) ifs tt) (he : ∀ C s H fp, PD (cmpCx X xs M scope C s H fp) elt te)
    (hsw : swapsWith (.ListComp elt [⟨target, iter, ifs, 0⟩] scope pos) (some (.Name y py)) spos.line X.env = pure true := by rfl)
    (hf : X.fn y = true ∨ X.env.scope.names.lookup y = some .local := by first | exact .inl rfl | exact .inr rfl | assumption) (hs : ∀ x, foldedSetIterable iter X.env x = pure x := by intro _; rfl) :
    PSD X (.Assign [.Name y py] (.ListComp elt [⟨target, iter, ifs, 0⟩] scope pos) spos) (sSet i (dF (fComp n ti g tt te))) := by
  obtain ⟨t2, h, w⟩ := setComp_ex (spos := spos) (pos := pos) hN hiy hy hk hn hc hi hg ht he hsw hf hs
  refine ⟨t2, h, fun B S H σ ρ Φ D' er q ok => w B S H σ ρ _ D' er q fun ds xs p H1 hΦ s1 hp r => ?_⟩
  exact ok.nx _ S _ _ hΦ (((er.go s1).go (same_new hp)).put (Rep.newLst (er.ok.same s1) hp r))
end
end D3

set_option Elab.async false
set_option linter.all false
set_option maxRecDepth 100000
set_option maxHeartbeats 4000000
namespace D3
open PySem PySem.Spec PyProof.Rows L2
theorem bt_len : bootBuiltins "len" = some (.builtin "len") := by decide +kernel
theorem bt_abs : bootBuiltins "abs" = some (.builtin "abs") := by decide +kernel
theorem bt_max : bootBuiltins "max" = some (.builtin "max") := by decide +kernel
theorem bt_sum : bootBuiltins "sum" = some (.builtin "sum") := by decide +kernel
theorem bt_all : bootBuiltins "all" = some (.builtin "all") := by decide +kernel
theorem bt_isinstance : bootBuiltins "isinstance" = some (.builtin "isinstance") := by decide +kernel
theorem bt_int : bootBuiltins "int" = some (.type "int") := by decide +kernel
theorem bt_bool : bootBuiltins "bool" = some (.type "bool") := by decide +kernel
theorem bt_list : bootBuiltins "list" = some (.type "list") := by decide +kernel
theorem bt_tuple : bootBuiltins "tuple" = some (.type "tuple") := by decide +kernel
theorem bt_zip : bootBuiltins "zip" = some (.type "zip") := by decide +kernel
theorem atI_n {α : Type} (xs : List α) (n : Nat) : atI xs (n : Int) = xs[n]? := by
  cases h : xs[n]? with
  | some v => exact atI_nat h
  | none =>
    have h' := List.getElem?_eq_none_iff.mp h
    unfold atI ixN
    rw [if_pos (by omega), if_neg (by omega)]
    rfl
theorem ixN_n (n k : Nat) : ixN n (k : Int) = if k < n then some k else none := by
  unfold ixN
  rw [if_pos (by omega)]
  by_cases h : k < n
  · rw [if_pos (by omega), if_pos h]; rfl
  · rw [if_neg (by omega), if_neg h]
theorem fmod_pos {i j : Int} (h : 0 < j) : i.fmod j = i % j := Int.fmod_eq_emod_of_nonneg i (Int.le_of_lt h)
theorem fdiv_pos {i j : Int} (h : 0 < j) : i.fdiv j = i / j := Int.fdiv_eq_ediv_of_nonneg i (Int.le_of_lt h)
theorem small_le {n : Nat} (h : n ≤ 1000) : n ≤ sizeLine := Nat.le_of_lt (small1000 h)
noncomputable def Bd (k : Nat) (i : Int) : Prop := i.natAbs < 2 ^ k
theorem Bd.mono {k l : Nat} {i : Int} (h : Bd k i) (hl : k ≤ l) : Bd l i := Nat.lt_of_lt_of_le h (Nat.pow_le_pow_right (by decide) hl)
theorem Bd.neg {k : Nat} {i : Int} (h : Bd k i) : Bd k (-i) := by unfold Bd; rw [Int.natAbs_neg]; exact h
theorem Bd.add {k l : Nat} {i j : Int} (h : Bd k i) (g : Bd l j) : Bd (max k l + 1) (i + j) := by
  unfold Bd at *
  have h1 : i.natAbs < 2 ^ max k l := Nat.lt_of_lt_of_le h (Nat.pow_le_pow_right (by decide) (Nat.le_max_left ..))
  have h2 : j.natAbs < 2 ^ max k l := Nat.lt_of_lt_of_le g (Nat.pow_le_pow_right (by decide) (Nat.le_max_right ..))
  have h3 := Int.natAbs_add_le i j
  rw [Nat.pow_succ]
  omega
theorem Bd.sub {k l : Nat} {i j : Int} (h : Bd k i) (g : Bd l j) : Bd (max k l + 1) (i - j) := by rw [Int.sub_eq_add_neg]; exact h.add g.neg
theorem Bd.mul {k l : Nat} {i j : Int} (h : Bd k i) (g : Bd l j) : Bd (k + l) (i * j) := by
  unfold Bd at *
  rw [Int.natAbs_mul, Nat.pow_add]
  exact Nat.mul_lt_mul_of_lt_of_lt h g
theorem Bd.bits {k : Nat} {i : Int} (h : Bd k i) : Builtin.Int.intBits i ≤ k := by
  unfold Builtin.Int.intBits
  split
  · exact Nat.zero_le _
  · rename_i hz
    have h0 : i.natAbs ≠ 0 := by
      intro z
      apply hz
      have : i = 0 := Int.natAbs_eq_zero.mp z
      simp [this]
    exact (Nat.log2_lt h0).mpr h
theorem mulOk {k l : Nat} {i j : Int} (h : Bd k i) (g : Bd l j) (hk : k + l ≤ 134217728) : IntMulOk i j := IntMulOk.of_le h.bits g.bits hk
theorem cd_of {k : Nat} {i j : Int} (h0 : j ≠ 0) (h : Bd k j) (hk : k ≤ 9000) : CD i j := by
  refine ⟨h0, ?_⟩
  have hz : j.natAbs ≠ 0 := fun z => h0 (Int.natAbs_eq_zero.mp z)
  exact Nat.lt_of_lt_of_le ((Nat.log2_lt hz).mpr h) hk
theorem bd_of {k : Nat} {i : Int} (n : Nat) (h : i.natAbs ≤ n) (hn : n < 2 ^ k) : Bd k i := Nat.lt_of_le_of_lt h hn
theorem cd_lit {i j : Int} (h : decide (j ≠ 0 ∧ j.natAbs < 1073741824) = true) : CD i j := by
  have h := of_decide_eq_true h
  exact cd_of (k := 30) h.1 h.2 (by decide)
end D3

set_option Elab.async false
set_option linter.all false
set_option maxRecDepth 100000
set_option maxHeartbeats 4000000
namespace D3
open PySem PySem.Spec PyProof.Rows L2
section
variable {X : Cx} {tg : Expr}
theorem call_sumL (hc : X.calm = true) : CallR X (.builtin "sum") (fun xs H Q => ∃ (p : Addr) (ns : List Int), xs = [.ref p] ∧ SqL X.K H p (ns.map V.int) ∧ Q (.int ns.sum) H) := by
  intro pins s σ H xs us Q I r h
  obtain ⟨p, ns, rfl, hq, q⟩ := h
  obtain ⟨u, rfl, rx⟩ := vals1 r
  cases rx
  obtain ⟨its, r', pl, hz⟩ := I.list hq
  have hi : IntsAre its ns := intsAre_of r'
  obtain ⟨xs, hxs⟩ := hi.allInts.items
  have hl := pl.isList
  have e1 : (numsOf its).sum = ns.sum := by rw [hi.numsOf]
  rw [hxs] at hl
  have e2 : numsOf its = numsOf (intItems xs).toList := by rw [← hxs]
  refine sum_intListG (I.ok.hd hc) hl fun h' tk t' kp => ⟨.int ns.sum, H, I.kept kp, ⟨t', ?_⟩, q⟩
  rw [preSum_eq, List.take_of_length_le (by simp), ← e1, e2, nums_intItems]
noncomputable abbrev cSum : Con
  | [.lst ds], Φ => ∃ ns : List Int, ds = ns.map .int ∧ Φ (.int ns.sum)
  | _, _ => False
theorem b_sum (hc : X.calm = true) : CallD X (.builtin "sum") cSum := ⟨_, call_sumL hc, fun S H ds vs Φ Q so r h hd => by
  match ds, h with
  | [.lst ds], ⟨ns, e, h⟩ =>
    subst e
    simp only [Reps] at r
    obtain ⟨v, _, rfl, rv, rfl⟩ := r
    obtain ⟨a, xs, rfl, lr, rs⟩ := rep_lst rv
    have := rs.intsV
    subst this
    exact ⟨a, ns, rfl, lr.sq, hd _ _ H h (Same.refl _) Rep.int⟩⟩
theorem bd_lit {k : Nat} {i : Int} (h : decide (i.natAbs < 2 ^ k) = true) : Bd k i := by unfold Bd; exact of_decide_eq_true h
theorem sl_le {n : Nat} (k : Nat) (h : n = k) (hk : k ≤ 1000) : n ≤ sizeLine := by subst h; exact small_le hk
theorem sl_lt {n : Nat} (k : Nat) (h : n = k) (hk : k ≤ 1000) : n < sizeLine := by subst h; exact small1000 hk
theorem pow_ok {i j : Int} (h : decide (0 ≤ j ∧ j ≤ 1000000 ∧ i.natAbs < 18446744073709551616) = true) : CPow i j := let h := of_decide_eq_true h; ⟨h.1, h.2.1, h.2.2⟩
theorem tst {A B : Prop} {b : Bool} (h1 : b = true → A) (h2 : b = false → B) : if b = true then A else B := by
  cases b with
  | true => rw [if_pos rfl]; exact h1 rfl
  | false => rw [if_neg Bool.false_ne_true]; exact h2 rfl
theorem tT {A B : Prop} {b : Bool} (h : b = true) (a : A) : if b = true then A else B := by rw [if_pos h]; exact a
theorem tF {A B : Prop} {b : Bool} (h : b = false) (a : B) : if b = true then A else B := by subst h; rw [if_neg Bool.false_ne_true]; exact a
end
end D3

set_option Elab.async false
set_option linter.all false
set_option maxRecDepth 100000
set_option maxHeartbeats 4000000
namespace D3
open PySem PySem.Spec PyProof.Rows L2
mutual
noncomputable def eqD : D → D → Bool
  | .non, .non => true
  | .bl a, .bl b => a == b
  | .bl a, .int b => (if a then 1 else 0) == b
  | .int a, .bl b => a == (if b then 1 else 0)
  | .int a, .int b => a == b
  | .str a, .str b => a == b
  | .tup xs, .tup ys => eqDs xs ys
  | .lst xs, .lst ys => eqDs xs ys
  | _, _ => false
noncomputable def eqDs : List D → List D → Bool
  | [], [] => true
  | x :: xs, y :: ys => eqD x y && eqDs xs ys
  | _, _ => false
end
mutual
noncomputable def dep : D → Nat
  | .tup xs => deps xs + 1
  | .lst xs => deps xs + 1
  | _ => 0
noncomputable def deps : List D → Nat
  | [] => 0
  | x :: xs => max (dep x) (deps xs)
end
theorem deps_le {n : Nat} : ∀ {ds : List D}, (∀ d ∈ ds, dep d ≤ n) → deps ds ≤ n
  | [], _ => Nat.zero_le _
  | d :: ds, h => by
    simp only [deps]
    exact Nat.max_le.mpr ⟨h d List.mem_cons_self, deps_le fun e he => h e (List.mem_cons_of_mem _ he)⟩
theorem le_deps : ∀ {ds : List D} {i : Nat} {d : D}, ds[i]? = some d → dep d ≤ deps ds
  | [], i, d, h => by simp at h
  | c :: ds, 0, d, h => by simp at h; subst h; simp only [deps]; exact Nat.le_max_left _ _
  | c :: ds, i + 1, d, h => by simp only [deps]; exact Nat.le_trans (le_deps (i := i) (by simpa using h)) (Nat.le_max_right _ _)
mutual
theorem eqD_refl : ∀ d : D, eqD d d = true
  | .non => by simp only [eqD]
  | .bl b => by simp [eqD]
  | .int i => by simp [eqD]
  | .str x => by simp [eqD]
  | .tup ds => by simp only [eqD]; exact eqDs_refl ds
  | .lst ds => by simp only [eqD]; exact eqDs_refl ds
theorem eqDs_refl : ∀ ds : List D, eqDs ds ds = true
  | [] => by simp only [eqDs]
  | d :: ds => by simp only [eqDs, eqD_refl d, eqDs_refl ds, Bool.and_self]
end
theorem eqDs_len : ∀ {xs ys : List D}, xs.length ≠ ys.length → eqDs xs ys = false
  | [], [], h => absurd rfl h
  | [], _ :: _, _ => by simp only [eqDs]
  | _ :: _, [], _ => by simp only [eqDs]
  | x :: xs, y :: ys, h => by
    simp only [eqDs]
    rw [eqDs_len (xs := xs) (ys := ys) (by simpa using h), Bool.and_false]
theorem eqDs_range : ∀ {xs ys : List D}, xs.length = ys.length → (List.range xs.length).all (fun j => eqD (xs.getD j .non) (ys.getD j .non)) = eqDs xs ys
  | [], [], _ => by simp [eqDs]
  | x :: xs, y :: ys, h => by
    rw [List.length_cons, List.range_succ_eq_map, List.all_cons, List.all_map]
    simp only [eqDs]
    rw [← eqDs_range (xs := xs) (ys := ys) (by simpa using h)]
    rfl
section
variable {X : Cx} {pins : List (Addr × Obj)} {σ : L2.St} {H : Hp} {s : Shared} {S : Addr → Prop}
theorem not_both {a : Addr} {xs ys : List V} (I : Inv X pins σ H s) (h : SqT X.K H a xs) (h' : SqL X.K H a ys) : False := by
  obtain ⟨its, _, p, _⟩ := I.tuple h
  obtain ⟨its2, _, p2, _⟩ := I.list h'
  obtain ⟨o, e, c, _⟩ := p
  obtain ⟨o2, n2, e2, c2, _⟩ := p2
  rw [e] at e2; cases e2
  rw [c] at c2
  exact absurd c2 (by decide)
mutual
theorem rep_inj (I : Inv X pins σ H s) : ∀ (d d' : D) (v : V), Rep X.K S H d v → Rep X.K S H d' v → d = d'
  | .non, d', v, h, h' => by cases rep_non h; cases d' <;> simp [Rep] at h' ⊢
  | .bl b, d', v, h, h' => by cases rep_bl h; cases d' <;> simp [Rep] at h' ⊢; exact h'
  | .int b, d', v, h, h' => by cases rep_int h; cases d' <;> simp [Rep] at h' ⊢; exact h'
  | .str b, d', v, h, h' => by cases rep_str h; cases d' <;> simp [Rep] at h' ⊢; exact h'
  | .tup ds, d', v, h, h' => by
    obtain ⟨a, xs, rfl, q, rs⟩ := rep_tup h
    cases d' with
    | tup es =>
      obtain ⟨a', xs', e, q', rs'⟩ := rep_tup h'
      cases e
      have := I.tuple_inj q q'
      subst this
      rw [reps_inj I ds es xs rs rs']
    | lst es =>
      obtain ⟨a', xs', e, q', rs'⟩ := rep_lst h'
      cases e
      exact (not_both I q q'.sq).elim
    | _ => simp [Rep] at h'
  | .lst ds, d', v, h, h' => by
    obtain ⟨a, xs, rfl, q, rs⟩ := rep_lst h
    cases d' with
    | lst es =>
      obtain ⟨a', xs', e, q', rs'⟩ := rep_lst h'
      cases e
      have := I.list_inj q.sq q'.sq
      subst this
      rw [reps_inj I ds es xs rs rs']
    | tup es =>
      obtain ⟨a', xs', e, q', rs'⟩ := rep_tup h'
      cases e
      exact (not_both I q' q.sq).elim
    | _ => simp [Rep] at h'
theorem reps_inj (I : Inv X pins σ H s) : ∀ (d d' : List D) (v : List V), Reps X.K S H d v → Reps X.K S H d' v → d = d'
  | [], d', v, h, h' => by
    simp only [Reps] at h; subst h
    cases d' with
    | nil => rfl
    | cons c cs => simp [Reps] at h'
  | c :: cs, d', v, h, h' => by
    simp only [Reps] at h
    obtain ⟨x, r, rfl, q, t⟩ := h
    cases d' with
    | nil => simp [Reps] at h'
    | cons e es =>
      simp only [Reps] at h'
      obtain ⟨x', r', e', q', t'⟩ := h'
      cases e'
      rw [rep_inj I c e x q q', reps_inj I cs es r t t']
end
noncomputable def RcQ (ne : Bool) (A : Around) (s : Shared) (u v : Value) (b : Bool) : Prop := if ne then SeqAt.RcNeAt A s u v (!b) else SeqAt.RcAt A s u v b
theorem items_eq {A : Around} (its its2 : List Value) (xs ys : List V) (ds es : List D) (r1 : Vals xs its) (r2 : Vals ys its2) (rs : Reps X.K S H ds xs) (rs' : Reps X.K S H es ys)
    (ih : ∀ (j : Nat) (x y : D) (v v' : V) (u u' : Value), ds[j]? = some x → Rep X.K S H x v → Rep X.K S H y v' → RelV v u → RelV v' u' → SeqAt.EqAt A s u u' (eqD x y)) :
    ∀ j (h1 : j < its.toArray.size) (h2 : j < its2.toArray.size), SeqAt.EqAt A s its.toArray[j] its2.toArray[j] (eqD (ds.getD j .non) (es.getD j .non)) := by
  intro j h1 h2
  have k1 : j < ds.length := by rw [rs.len, r1.length]; simpa using h1
  have k2 : j < es.length := by rw [rs'.len, r2.length]; simpa using h2
  obtain ⟨v, ev, rv⟩ := rs.get (i := j) (d := ds[j]) (by simp [k1])
  obtain ⟨v', ev', rv'⟩ := rs'.get (i := j) (d := es[j]) (by simp [k2])
  obtain ⟨u, eu, ru⟩ := r1.get ev
  obtain ⟨u', eu', ru'⟩ := r2.get ev'
  have w1 : its.toArray[j] = u := by
    have : its[j]? = some its.toArray[j] := by simp at h1 ⊢
    rw [eu] at this; exact (Option.some.inj this).symm
  have w2 : its2.toArray[j] = u' := by
    have : its2[j]? = some its2.toArray[j] := by simp at h2 ⊢
    rw [eu'] at this; exact (Option.some.inj this).symm
  have w3 : ds.getD j .non = ds[j] := by rw [List.getD_eq_getElem?_getD]; simp [k1]
  have w4 : es.getD j .non = es[j] := by rw [List.getD_eq_getElem?_getD]; simp [k2]
  rw [w1, w2, w3, w4]
  exact ih j ds[j] es[j] v v' u u' (by simp [k1]) rv rv' ru ru'
theorem rc_lists {ne : Bool} {A : Around} {ds es : List D} {a b : Addr} {xs ys : List V} (I : Inv X pins σ H s) (hu : A.units < cLine) (q : SqL X.K H a xs) (q' : SqL X.K H b ys) (rs : Reps X.K S H ds xs) (rs' : Reps X.K S H es ys)
    (ih : ∀ (j : Nat) (x y : D) (v v' : V) (u u' : Value), ds[j]? = some x → Rep X.K S H x v → Rep X.K S H y v' → RelV v u → RelV v' u' → SeqAt.EqAt A.in1 s u u' (eqD x y)) : RcQ ne A s (.ref a) (.ref b) (eqDs ds es) := by
  obtain ⟨its, r1, p1, _⟩ := I.list q
  obtain ⟨its2, r2, p2, _⟩ := I.list q'
  have hl1 : its.toArray.size = ds.length := by rw [rs.len, r1.length]; simp
  have hl2 : its2.toArray.size = es.length := by rw [rs'.len, r2.length]; simp
  unfold RcQ
  by_cases hlen : ds.length = es.length
  · have it := items_eq its its2 xs ys ds es r1 r2 rs rs' ih
    have e1 : (List.range its.toArray.size).all (fun j => eqD (ds.getD j .non) (es.getD j .non)) = eqDs ds es := by rw [hl1]; exact eqDs_range hlen
    cases ne with
    | false =>
      have := SeqAt.RcAt.lists p1.isList p2.isList (by rw [hl1, hl2, hlen]) hu it
      rw [e1] at this
      exact this
    | true =>
      have := SeqAt.RcNeAt.lists p1.isList p2.isList (by rw [hl1, hl2, hlen]) hu it
      rw [e1] at this
      exact this
  · rw [eqDs_len hlen]
    have hz : (its.toArray.size != its2.toArray.size) = true := by rw [hl1, hl2]; simpa using hlen
    cases ne with
    | false => exact SeqAt.RcAt.lists_lengths p1.isList p2.isList hz hu
    | true => exact SeqAt.RcNeAt.lists_lengths p1.isList p2.isList hz hu
theorem rc_tuples {ne : Bool} {A : Around} {ds es : List D} {a b : Addr} {xs ys : List V} (I : Inv X pins σ H s) (hu : A.units < cLine) (q : SqT X.K H a xs) (q' : SqT X.K H b ys) (rs : Reps X.K S H ds xs) (rs' : Reps X.K S H es ys)
    (ih : ∀ (j : Nat) (x y : D) (v v' : V) (u u' : Value), ds[j]? = some x → Rep X.K S H x v → Rep X.K S H y v' → RelV v u → RelV v' u' → SeqAt.EqAt A.in1 s u u' (eqD x y)) : RcQ ne A s (.ref a) (.ref b) (eqDs ds es) := by
  obtain ⟨its, r1, p1, _⟩ := I.tuple q
  obtain ⟨its2, r2, p2, _⟩ := I.tuple q'
  have hl1 : its.toArray.size = ds.length := by rw [rs.len, r1.length]; simp
  have hl2 : its2.toArray.size = es.length := by rw [rs'.len, r2.length]; simp
  have it := items_eq its its2 xs ys ds es r1 r2 rs rs' ih
  have e1 : ((List.range (min its.toArray.size its2.toArray.size)).all (fun j => eqD (ds.getD j .non) (es.getD j .non)) && its.toArray.size == its2.toArray.size) = eqDs ds es := by
    rw [hl1, hl2]
    by_cases hlen : ds.length = es.length
    · rw [← hlen, Nat.min_self, eqDs_range hlen]; simp
    · rw [eqDs_len hlen]
      have : (ds.length == es.length) = false := by simpa using hlen
      rw [this, Bool.and_false]
  unfold RcQ
  cases ne with
  | false =>
    have := SeqAt.RcAt.tuples p1 p2 hu it
    rw [e1] at this
    exact this
  | true =>
    have := SeqAt.RcNeAt.tuples p1 p2 hu it
    rw [e1] at this
    exact this
theorem eqAt_D (I : Inv X pins σ H s) : ∀ (n : Nat) (x y : D) (v v' : V) (u u' : Value) (A : Around), dep x ≤ n → A.units + n < cLine → Rep X.K S H x v → Rep X.K S H y v' → RelV v u → RelV v' u' → SeqAt.EqAt A s u u' (eqD x y) := by
  intro n
  induction n with
  | zero =>
    intro x y v v' u u' A hd hu rx ry ru ru'
    cases x with
    | tup ds => simp only [dep] at hd; omega
    | lst ds => simp only [dep] at hd; omega
    | non =>
      cases rep_non rx
      cases (show u = Value.none from ru)
      cases y with
      | non => cases rep_non ry; cases (show u' = Value.none from ru'); simp only [eqD]; exact SeqAt.EqAt.same _
      | bl b => cases rep_bl ry; cases (show u' = Value.bool b from ru'); simp only [eqD]; exact SeqAt.EqAt.none_bool b
      | int b => cases rep_int ry; obtain ⟨t, rfl⟩ := ru'; simp only [eqD]; exact SeqAt.EqAt.none_int b t
      | str b => cases rep_str ry; obtain ⟨t, rfl⟩ := ru'; simp only [eqD]; exact SeqAt.EqAt.none_str b t
      | tup es =>
        obtain ⟨a, xs, rfl, q, rs⟩ := rep_tup ry
        cases (show u' = Value.ref a from ru')
        obtain ⟨its, r1, p1, _⟩ := I.tuple q
        simp only [eqD]; exact SeqAt.EqAt.none_tuple p1 (by omega)
      | lst es =>
        obtain ⟨a, xs, rfl, q, rs⟩ := rep_lst ry
        cases (show u' = Value.ref a from ru')
        obtain ⟨its, r1, p1, _⟩ := I.list q.sq
        simp only [eqD]; exact SeqAt.EqAt.none_list p1.isList (by omega)
    | bl a0 =>
      cases rep_bl rx
      cases (show u = Value.bool a0 from ru)
      cases y with
      | non => cases rep_non ry; cases (show u' = Value.none from ru'); simp only [eqD]; exact SeqAt.EqAt.bool_none a0
      | bl b => cases rep_bl ry; cases (show u' = Value.bool b from ru'); simp only [eqD]; exact SeqAt.EqAt.bool_bool a0 b
      | int b => cases rep_int ry; obtain ⟨t, rfl⟩ := ru'; simp only [eqD]; exact SeqAt.EqAt.bool_int a0 b t
      | str b => cases rep_str ry; obtain ⟨t, rfl⟩ := ru'; simp only [eqD]; exact SeqAt.EqAt.bool_str a0 b t
      | tup es =>
        obtain ⟨a, xs, rfl, q, rs⟩ := rep_tup ry
        cases (show u' = Value.ref a from ru')
        obtain ⟨its, r1, p1, _⟩ := I.tuple q
        simp only [eqD]; exact SeqAt.EqAt.bool_tuple a0 p1 (by omega)
      | lst es =>
        obtain ⟨a, xs, rfl, q, rs⟩ := rep_lst ry
        cases (show u' = Value.ref a from ru')
        obtain ⟨its, r1, p1, _⟩ := I.list q.sq
        simp only [eqD]; exact SeqAt.EqAt.bool_list a0 p1.isList (by omega)
    | int a0 =>
      cases rep_int rx
      obtain ⟨t0, rfl⟩ := ru
      cases y with
      | non => cases rep_non ry; cases (show u' = Value.none from ru'); simp only [eqD]; exact SeqAt.EqAt.int_none a0 t0
      | bl b => cases rep_bl ry; cases (show u' = Value.bool b from ru'); simp only [eqD]; exact SeqAt.EqAt.int_bool a0 t0 b
      | int b => cases rep_int ry; obtain ⟨t, rfl⟩ := ru'; simp only [eqD]; exact SeqAt.EqAt.int_int a0 t0 b t
      | str b => cases rep_str ry; obtain ⟨t, rfl⟩ := ru'; simp only [eqD]; exact SeqAt.EqAt.int_str a0 t0 b t
      | tup es =>
        obtain ⟨a, xs, rfl, q, rs⟩ := rep_tup ry
        cases (show u' = Value.ref a from ru')
        obtain ⟨its, r1, p1, _⟩ := I.tuple q
        simp only [eqD]; exact SeqAt.EqAt.int_tuple a0 t0 p1 (by omega)
      | lst es =>
        obtain ⟨a, xs, rfl, q, rs⟩ := rep_lst ry
        cases (show u' = Value.ref a from ru')
        obtain ⟨its, r1, p1, _⟩ := I.list q.sq
        simp only [eqD]; exact SeqAt.EqAt.int_list a0 t0 p1.isList (by omega)
    | str a0 =>
      cases rep_str rx
      obtain ⟨t0, rfl⟩ := ru
      cases y with
      | non => cases rep_non ry; cases (show u' = Value.none from ru'); simp only [eqD]; exact SeqAt.EqAt.str_none a0 t0
      | bl b => cases rep_bl ry; cases (show u' = Value.bool b from ru'); simp only [eqD]; exact SeqAt.EqAt.str_bool a0 t0 b
      | int b => cases rep_int ry; obtain ⟨t, rfl⟩ := ru'; simp only [eqD]; exact SeqAt.EqAt.str_int a0 t0 b t
      | str b => cases rep_str ry; obtain ⟨t, rfl⟩ := ru'; simp only [eqD]; exact SeqAt.EqAt.str_str a0 t0 b t
      | tup es =>
        obtain ⟨a, xs, rfl, q, rs⟩ := rep_tup ry
        cases (show u' = Value.ref a from ru')
        obtain ⟨its, r1, p1, _⟩ := I.tuple q
        simp only [eqD]; exact SeqAt.EqAt.str_tuple a0 t0 p1 (by omega)
      | lst es =>
        obtain ⟨a, xs, rfl, q, rs⟩ := rep_lst ry
        cases (show u' = Value.ref a from ru')
        obtain ⟨its, r1, p1, _⟩ := I.list q.sq
        simp only [eqD]; exact SeqAt.EqAt.str_list a0 t0 p1.isList (by omega)
  | succ n ih =>
    intro x y v v' u u' A hd hu rx ry ru ru'
    by_cases hx : dep x = 0
    · exact (show ∀ m, dep x ≤ m → A.units + m < cLine → (∀ (x y : D) (v v' : V) (u u' : Value) (A : Around), dep x ≤ m → A.units + m < cLine → Rep X.K S H x v → Rep X.K S H y v' → RelV v u → RelV v' u' → SeqAt.EqAt A s u u' (eqD x y)) → SeqAt.EqAt A s u u' (eqD x y) from fun m h1 h2 ih => ih x y v v' u u' A h1 h2 rx ry ru ru') n (by omega) (by omega) ih
    · cases x with
      | non => exact absurd (by simp only [dep]) hx
      | bl b => exact absurd (by simp only [dep]) hx
      | int b => exact absurd (by simp only [dep]) hx
      | str b => exact absurd (by simp only [dep]) hx
      | tup ds =>
        have hds : deps ds ≤ n := by simp only [dep] at hd; omega
        have ih' : ∀ (j : Nat) (x y : D) (v v' : V) (u u' : Value), ds[j]? = some x → Rep X.K S H x v → Rep X.K S H y v' → RelV v u → RelV v' u' → SeqAt.EqAt A.in1 s u u' (eqD x y) :=
          fun j x y v v' u u' e r1 r2 q1 q2 => ih x y v v' u u' A.in1 (Nat.le_trans (le_deps e) hds) (by show A.units + 1 + n < cLine; omega) r1 r2 q1 q2
        have rx0 := rx
        obtain ⟨a, xs, rfl, q, rs⟩ := rep_tup rx
        cases (show u = Value.ref a from ru)
        cases y with
        | non => cases rep_non ry; cases (show u' = Value.none from ru'); obtain ⟨its, r1, p1, _⟩ := I.tuple q; simp only [eqD]; exact SeqAt.EqAt.tuple_none p1 (by omega)
        | bl b => cases rep_bl ry; cases (show u' = Value.bool b from ru'); obtain ⟨its, r1, p1, _⟩ := I.tuple q; simp only [eqD]; exact SeqAt.EqAt.tuple_bool b p1 (by omega)
        | int b => cases rep_int ry; obtain ⟨t, rfl⟩ := ru'; obtain ⟨its, r1, p1, _⟩ := I.tuple q; simp only [eqD]; exact SeqAt.EqAt.tuple_int b t p1 (by omega)
        | str b => cases rep_str ry; obtain ⟨t, rfl⟩ := ru'; obtain ⟨its, r1, p1, _⟩ := I.tuple q; simp only [eqD]; exact SeqAt.EqAt.tuple_str b t p1 (by omega)
        | tup es =>
          have ry0 := ry
          obtain ⟨a', xs', rfl, q', rs'⟩ := rep_tup ry
          cases (show u' = Value.ref a' from ru')
          by_cases haa : a = a'
          · subst haa
            rw [rep_inj I _ _ _ ry0 rx0, eqD_refl]
            exact SeqAt.EqAt.same _
          · simp only [eqD]
            exact SeqAt.EqAt.of_refs haa (rc_tuples (ne := false) I (by omega) q q' rs rs' ih')
        | lst es =>
          obtain ⟨a', xs', rfl, q', rs'⟩ := rep_lst ry
          cases (show u' = Value.ref a' from ru')
          obtain ⟨its, r1, p1, _⟩ := I.tuple q
          obtain ⟨its2, r2, p2, _⟩ := I.list q'.sq
          simp only [eqD]; exact SeqAt.EqAt.tuple_list p1 p2.isList (by omega)
      | lst ds =>
        have hds : deps ds ≤ n := by simp only [dep] at hd; omega
        have ih' : ∀ (j : Nat) (x y : D) (v v' : V) (u u' : Value), ds[j]? = some x → Rep X.K S H x v → Rep X.K S H y v' → RelV v u → RelV v' u' → SeqAt.EqAt A.in1 s u u' (eqD x y) :=
          fun j x y v v' u u' e r1 r2 q1 q2 => ih x y v v' u u' A.in1 (Nat.le_trans (le_deps e) hds) (by show A.units + 1 + n < cLine; omega) r1 r2 q1 q2
        have rx0 := rx
        obtain ⟨a, xs, rfl, q, rs⟩ := rep_lst rx
        cases (show u = Value.ref a from ru)
        cases y with
        | non => cases rep_non ry; cases (show u' = Value.none from ru'); obtain ⟨its, r1, p1, _⟩ := I.list q.sq; simp only [eqD]; exact SeqAt.EqAt.list_none p1.isList (by omega)
        | bl b => cases rep_bl ry; cases (show u' = Value.bool b from ru'); obtain ⟨its, r1, p1, _⟩ := I.list q.sq; simp only [eqD]; exact SeqAt.EqAt.list_bool b p1.isList (by omega)
        | int b => cases rep_int ry; obtain ⟨t, rfl⟩ := ru'; obtain ⟨its, r1, p1, _⟩ := I.list q.sq; simp only [eqD]; exact SeqAt.EqAt.list_int b t p1.isList (by omega)
        | str b => cases rep_str ry; obtain ⟨t, rfl⟩ := ru'; obtain ⟨its, r1, p1, _⟩ := I.list q.sq; simp only [eqD]; exact SeqAt.EqAt.list_str b t p1.isList (by omega)
        | lst es =>
          have ry0 := ry
          obtain ⟨a', xs', rfl, q', rs'⟩ := rep_lst ry
          cases (show u' = Value.ref a' from ru')
          by_cases haa : a = a'
          · subst haa
            rw [rep_inj I _ _ _ ry0 rx0, eqD_refl]
            exact SeqAt.EqAt.same _
          · simp only [eqD]
            exact SeqAt.EqAt.of_refs haa (rc_lists (ne := false) I (by omega) q.sq q'.sq rs rs' ih')
        | tup es =>
          obtain ⟨a', xs', rfl, q', rs'⟩ := rep_tup ry
          cases (show u' = Value.ref a' from ru')
          obtain ⟨its, r1, p1, _⟩ := I.list q.sq
          obtain ⟨its2, r2, p2, _⟩ := I.tuple q'
          simp only [eqD]; exact SeqAt.EqAt.list_tuple p1.isList p2 (by omega)
theorem rcQ_D {ne : Bool} (I : Inv X pins σ H s) (n : Nat) (x y : D) (v v' : V) (u u' : Value) (A : Around) (hd : dep x ≤ n) (hu : A.units + n < cLine) (rx : Rep X.K S H x v) (ry : Rep X.K S H y v') (ru : RelV v u) (ru' : RelV v' u') : RcQ ne A s u u' (eqD x y) := by
  cases x with
  | non =>
    cases rep_non rx
    cases (show u = Value.none from ru)
    cases y with
    | non => cases rep_non ry; cases (show u' = Value.none from ru'); simp only [eqD]; cases ne; exact SeqAt.RcAt.none_none; exact SeqAt.RcNeAt.none_none
    | bl b => cases rep_bl ry; cases (show u' = Value.bool b from ru'); simp only [eqD]; cases ne; exact SeqAt.RcAt.none_bool b; exact SeqAt.RcNeAt.none_bool b
    | int b => cases rep_int ry; obtain ⟨t, rfl⟩ := ru'; simp only [eqD]; cases ne; exact SeqAt.RcAt.none_int b t; exact SeqAt.RcNeAt.none_int b t
    | str b => cases rep_str ry; obtain ⟨t, rfl⟩ := ru'; simp only [eqD]; cases ne; exact SeqAt.RcAt.none_str b t; exact SeqAt.RcNeAt.none_str b t
    | tup es =>
      obtain ⟨a, xs, rfl, q, rs⟩ := rep_tup ry
      cases (show u' = Value.ref a from ru')
      obtain ⟨its, r1, p1, _⟩ := I.tuple q
      simp only [eqD]; cases ne; exact SeqAt.RcAt.none_tuple p1 (by omega); exact SeqAt.RcNeAt.none_tuple p1 (by omega)
    | lst es =>
      obtain ⟨a, xs, rfl, q, rs⟩ := rep_lst ry
      cases (show u' = Value.ref a from ru')
      obtain ⟨its, r1, p1, _⟩ := I.list q.sq
      simp only [eqD]; cases ne; exact SeqAt.RcAt.none_list p1.isList (by omega); exact SeqAt.RcNeAt.none_list p1.isList (by omega)
  | bl a0 =>
    cases rep_bl rx
    cases (show u = Value.bool a0 from ru)
    cases y with
    | non => cases rep_non ry; cases (show u' = Value.none from ru'); simp only [eqD]; cases ne; exact SeqAt.RcAt.bool_none a0; exact SeqAt.RcNeAt.bool_none a0
    | bl b => cases rep_bl ry; cases (show u' = Value.bool b from ru'); simp only [eqD]; cases ne; exact SeqAt.RcAt.bool_bool a0 b; exact SeqAt.RcNeAt.bool_bool a0 b
    | int b => cases rep_int ry; obtain ⟨t, rfl⟩ := ru'; simp only [eqD]; cases ne; exact SeqAt.RcAt.bool_int a0 b t; exact SeqAt.RcNeAt.bool_int a0 b t
    | str b => cases rep_str ry; obtain ⟨t, rfl⟩ := ru'; simp only [eqD]; cases ne; exact SeqAt.RcAt.bool_str a0 b t; exact SeqAt.RcNeAt.bool_str a0 b t
    | tup es =>
      obtain ⟨a, xs, rfl, q, rs⟩ := rep_tup ry
      cases (show u' = Value.ref a from ru')
      obtain ⟨its, r1, p1, _⟩ := I.tuple q
      simp only [eqD]; cases ne; exact SeqAt.RcAt.bool_tuple a0 p1 (by omega); exact SeqAt.RcNeAt.bool_tuple a0 p1 (by omega)
    | lst es =>
      obtain ⟨a, xs, rfl, q, rs⟩ := rep_lst ry
      cases (show u' = Value.ref a from ru')
      obtain ⟨its, r1, p1, _⟩ := I.list q.sq
      simp only [eqD]; cases ne; exact SeqAt.RcAt.bool_list a0 p1.isList (by omega); exact SeqAt.RcNeAt.bool_list a0 p1.isList (by omega)
  | int a0 =>
    cases rep_int rx
    obtain ⟨t0, rfl⟩ := ru
    cases y with
    | non => cases rep_non ry; cases (show u' = Value.none from ru'); simp only [eqD]; cases ne; exact SeqAt.RcAt.int_none a0 t0; exact SeqAt.RcNeAt.int_none a0 t0
    | bl b => cases rep_bl ry; cases (show u' = Value.bool b from ru'); simp only [eqD]; cases ne; exact SeqAt.RcAt.int_bool a0 t0 b; exact SeqAt.RcNeAt.int_bool a0 t0 b
    | int b => cases rep_int ry; obtain ⟨t, rfl⟩ := ru'; simp only [eqD]; cases ne; exact SeqAt.RcAt.int_int a0 t0 b t; exact SeqAt.RcNeAt.int_int a0 t0 b t
    | str b => cases rep_str ry; obtain ⟨t, rfl⟩ := ru'; simp only [eqD]; cases ne; exact SeqAt.RcAt.int_str a0 t0 b t; exact SeqAt.RcNeAt.int_str a0 t0 b t
    | tup es =>
      obtain ⟨a, xs, rfl, q, rs⟩ := rep_tup ry
      cases (show u' = Value.ref a from ru')
      obtain ⟨its, r1, p1, _⟩ := I.tuple q
      simp only [eqD]; cases ne; exact SeqAt.RcAt.int_tuple a0 t0 p1 (by omega); exact SeqAt.RcNeAt.int_tuple a0 t0 p1 (by omega)
    | lst es =>
      obtain ⟨a, xs, rfl, q, rs⟩ := rep_lst ry
      cases (show u' = Value.ref a from ru')
      obtain ⟨its, r1, p1, _⟩ := I.list q.sq
      simp only [eqD]; cases ne; exact SeqAt.RcAt.int_list a0 t0 p1.isList (by omega); exact SeqAt.RcNeAt.int_list a0 t0 p1.isList (by omega)
  | str a0 =>
    cases rep_str rx
    obtain ⟨t0, rfl⟩ := ru
    cases y with
    | non => cases rep_non ry; cases (show u' = Value.none from ru'); simp only [eqD]; cases ne; exact SeqAt.RcAt.str_none a0 t0; exact SeqAt.RcNeAt.str_none a0 t0
    | bl b => cases rep_bl ry; cases (show u' = Value.bool b from ru'); simp only [eqD]; cases ne; exact SeqAt.RcAt.str_bool a0 t0 b; exact SeqAt.RcNeAt.str_bool a0 t0 b
    | int b => cases rep_int ry; obtain ⟨t, rfl⟩ := ru'; simp only [eqD]; cases ne; exact SeqAt.RcAt.str_int a0 t0 b t; exact SeqAt.RcNeAt.str_int a0 t0 b t
    | str b => cases rep_str ry; obtain ⟨t, rfl⟩ := ru'; simp only [eqD]; cases ne; exact SeqAt.RcAt.str_str a0 t0 b t; exact SeqAt.RcNeAt.str_str a0 t0 b t
    | tup es =>
      obtain ⟨a, xs, rfl, q, rs⟩ := rep_tup ry
      cases (show u' = Value.ref a from ru')
      obtain ⟨its, r1, p1, _⟩ := I.tuple q
      simp only [eqD]; cases ne; exact SeqAt.RcAt.str_tuple a0 t0 p1 (by omega); exact SeqAt.RcNeAt.str_tuple a0 t0 p1 (by omega)
    | lst es =>
      obtain ⟨a, xs, rfl, q, rs⟩ := rep_lst ry
      cases (show u' = Value.ref a from ru')
      obtain ⟨its, r1, p1, _⟩ := I.list q.sq
      simp only [eqD]; cases ne; exact SeqAt.RcAt.str_list a0 t0 p1.isList (by omega); exact SeqAt.RcNeAt.str_list a0 t0 p1.isList (by omega)
  | tup ds =>
    obtain ⟨m, rfl⟩ : ∃ m, n = m + 1 := ⟨n - 1, by simp only [dep] at hd; omega⟩
    have hds : deps ds ≤ m := by simp only [dep] at hd; omega
    have ih' : ∀ (j : Nat) (x y : D) (v v' : V) (u u' : Value), ds[j]? = some x → Rep X.K S H x v → Rep X.K S H y v' → RelV v u → RelV v' u' → SeqAt.EqAt A.in1 s u u' (eqD x y) :=
      fun j x y v v' u u' e r1 r2 q1 q2 => eqAt_D I m x y v v' u u' A.in1 (Nat.le_trans (le_deps e) hds) (by show A.units + 1 + m < cLine; omega) r1 r2 q1 q2
    obtain ⟨a, xs, rfl, q, rs⟩ := rep_tup rx
    cases (show u = Value.ref a from ru)
    cases y with
    | non => cases rep_non ry; cases (show u' = Value.none from ru'); obtain ⟨its, r1, p1, _⟩ := I.tuple q; simp only [eqD]; cases ne; exact SeqAt.RcAt.tuple_none p1 (by omega); exact SeqAt.RcNeAt.tuple_none p1 (by omega)
    | bl b => cases rep_bl ry; cases (show u' = Value.bool b from ru'); obtain ⟨its, r1, p1, _⟩ := I.tuple q; simp only [eqD]; cases ne; exact SeqAt.RcAt.tuple_bool b p1 (by omega); exact SeqAt.RcNeAt.tuple_bool b p1 (by omega)
    | int b => cases rep_int ry; obtain ⟨t, rfl⟩ := ru'; obtain ⟨its, r1, p1, _⟩ := I.tuple q; simp only [eqD]; cases ne; exact SeqAt.RcAt.tuple_int b t p1 (by omega); exact SeqAt.RcNeAt.tuple_int b t p1 (by omega)
    | str b => cases rep_str ry; obtain ⟨t, rfl⟩ := ru'; obtain ⟨its, r1, p1, _⟩ := I.tuple q; simp only [eqD]; cases ne; exact SeqAt.RcAt.tuple_str b t p1 (by omega); exact SeqAt.RcNeAt.tuple_str b t p1 (by omega)
    | tup es =>
      obtain ⟨a', xs', rfl, q', rs'⟩ := rep_tup ry
      cases (show u' = Value.ref a' from ru')
      simp only [eqD]
      exact rc_tuples I (by omega) q q' rs rs' ih'
    | lst es =>
      obtain ⟨a', xs', rfl, q', rs'⟩ := rep_lst ry
      cases (show u' = Value.ref a' from ru')
      obtain ⟨its, r1, p1, _⟩ := I.tuple q
      obtain ⟨its2, r2, p2, _⟩ := I.list q'.sq
      simp only [eqD]; cases ne; exact SeqAt.RcAt.tuple_list p1 p2.isList (by omega); exact SeqAt.RcNeAt.tuple_list p1 p2.isList (by omega)
  | lst ds =>
    obtain ⟨m, rfl⟩ : ∃ m, n = m + 1 := ⟨n - 1, by simp only [dep] at hd; omega⟩
    have hds : deps ds ≤ m := by simp only [dep] at hd; omega
    have ih' : ∀ (j : Nat) (x y : D) (v v' : V) (u u' : Value), ds[j]? = some x → Rep X.K S H x v → Rep X.K S H y v' → RelV v u → RelV v' u' → SeqAt.EqAt A.in1 s u u' (eqD x y) :=
      fun j x y v v' u u' e r1 r2 q1 q2 => eqAt_D I m x y v v' u u' A.in1 (Nat.le_trans (le_deps e) hds) (by show A.units + 1 + m < cLine; omega) r1 r2 q1 q2
    obtain ⟨a, xs, rfl, q, rs⟩ := rep_lst rx
    cases (show u = Value.ref a from ru)
    cases y with
    | non => cases rep_non ry; cases (show u' = Value.none from ru'); obtain ⟨its, r1, p1, _⟩ := I.list q.sq; simp only [eqD]; cases ne; exact SeqAt.RcAt.list_none p1.isList (by omega); exact SeqAt.RcNeAt.list_none p1.isList (by omega)
    | bl b => cases rep_bl ry; cases (show u' = Value.bool b from ru'); obtain ⟨its, r1, p1, _⟩ := I.list q.sq; simp only [eqD]; cases ne; exact SeqAt.RcAt.list_bool b p1.isList (by omega); exact SeqAt.RcNeAt.list_bool b p1.isList (by omega)
    | int b => cases rep_int ry; obtain ⟨t, rfl⟩ := ru'; obtain ⟨its, r1, p1, _⟩ := I.list q.sq; simp only [eqD]; cases ne; exact SeqAt.RcAt.list_int b t p1.isList (by omega); exact SeqAt.RcNeAt.list_int b t p1.isList (by omega)
    | str b => cases rep_str ry; obtain ⟨t, rfl⟩ := ru'; obtain ⟨its, r1, p1, _⟩ := I.list q.sq; simp only [eqD]; cases ne; exact SeqAt.RcAt.list_str b t p1.isList (by omega); exact SeqAt.RcNeAt.list_str b t p1.isList (by omega)
    | lst es =>
      obtain ⟨a', xs', rfl, q', rs'⟩ := rep_lst ry
      cases (show u' = Value.ref a' from ru')
      simp only [eqD]
      exact rc_lists I (by omega) q.sq q'.sq rs rs' ih'
    | tup es =>
      obtain ⟨a', xs', rfl, q', rs'⟩ := rep_tup ry
      cases (show u' = Value.ref a' from ru')
      obtain ⟨its, r1, p1, _⟩ := I.list q.sq
      obtain ⟨its2, r2, p2, _⟩ := I.tuple q'
      simp only [eqD]; cases ne; exact SeqAt.RcAt.list_tuple p1.isList p2 (by omega); exact SeqAt.RcNeAt.list_tuple p1.isList p2 (by omega)
end
section
variable {X : Cx}
noncomputable abbrev dEqS : R3 := fun x y Φ => dep x ≤ 100 ∧ Φ (.bl (eqD x y))
noncomputable abbrev dNeS : R3 := fun x y Φ => dep x ≤ 100 ∧ Φ (.bl (!eqD x y))
noncomputable def rRc (X : Cx) (ne : Bool) : R2 := fun u v H Q => ∃ S x y, dep x ≤ 100 ∧ Rep X.K S H x u ∧ Rep X.K S H y v ∧ Q (.bl (if ne then !eqD x y else eqD x y)) H
theorem op_eqS (hu : X.A.units + 100 < cLine) : OpR X (compareOp .Eq) (rRc X false) := by
  intro pins s σ H x y v u Q I rx ry h
  obtain ⟨S, d, e, hd, r1, r2, q⟩ := h
  exact rcQ_D (ne := false) I 100 d e x y v u X.A hd hu r1 r2 rx ry X.prog X.w _ _ ⟨.bl _, H, I, rfl, q⟩
theorem op_neS (hu : X.A.units + 100 < cLine) : OpR X (compareOp .NotEq) (rRc X true) := by
  intro pins s σ H x y v u Q I rx ry h
  obtain ⟨S, d, e, hd, r1, r2, q⟩ := h
  exact rcQ_D (ne := true) I 100 d e x y v u X.A hd hu r1 r2 rx ry X.prog X.w _ _ ⟨.bl _, H, I, rfl, q⟩
theorem o_eqS (hu : X.A.units + 100 < cLine) : OpD X (compareOp .Eq) dEqS := ⟨_, op_eqS hu, fun S H x y u v Φ Q so rx ry hr hd => ⟨S, x, y, hr.1, rx, ry, hd _ _ H hr.2 (Same.refl _) Rep.bl⟩⟩
theorem o_neS (hu : X.A.units + 100 < cLine) : OpD X (compareOp .NotEq) dNeS := ⟨_, op_neS hu, fun S H x y u v Φ Q so rx ry hr hd => ⟨S, x, y, hr.1, rx, ry, hd _ _ H hr.2 (Same.refl _) Rep.bl⟩⟩
theorem hu3 {A : Around} {k : Nat} (hr : Room k A) : A.units + 100 < cLine := by have := hr.un; omega
end
end D3

set_option Elab.async false
set_option linter.all false
set_option maxRecDepth 100000
set_option maxHeartbeats 4000000
namespace D3
open PySem PySem.Spec PyProof.Rows L2
section
variable {X : Cx}
noncomputable abbrev dLtT : R3
  | .tup ds, .tup es, Φ => ∃ ns ms : List Int, ds = ns.map .int ∧ es = ms.map .int ∧ Φ (.bl (HT.lexLt ns ms))
  | _, _, _ => False
theorem o_ltT (hu : X.A.units + 100 < cLine) : OpD X (compareOp .Lt) dLtT := ⟨_, op_ltT (Nat.lt_of_le_of_lt (Nat.le_add_right _ _) hu), fun S H x y u v Φ Q so rx ry hr hd => by
  match x, y, hr with
  | .tup ds, .tup es, ⟨ns, ms, e1, e2, h⟩ =>
    subst e1 e2
    obtain ⟨a, xs, rfl, q, rs⟩ := rep_tup rx
    obtain ⟨a', xs', rfl, q', rs'⟩ := rep_tup ry
    cases rs.intsV
    cases rs'.intsV
    exact ⟨a, a', ns, ms, rfl, rfl, q, q', hd _ _ H h (Same.refl _) Rep.bl⟩⟩
section
open PySem.MeetsSeq PySem.AutoSeq1
theorem tuple_addW0 (l b : Addr) (items2 : Array Value) (n n2 : Nat) (dd dd2 : Option Addr) (sl sl2 : Array (Option Value)) :
    Meets (Builtin.«tuple.__add__» ⟨[.ref l, .ref b], []⟩) (fun _ R s => s.heap.get? l = some { cls := .type "tuple", dict := dd, data := .seq #[] n, slots := sl } ∧ s.heap.get? b = some { cls := .type "tuple", dict := dd2, data := .seq items2 n2, slots := sl2 } ∧ R (.ok (.ret (Value.ref b))) s) :=
  .of_wp fun prog w A R s h => by obtain ⟨hp, g, d, tk, os⟩ := s; obtain ⟨hl, hb, h⟩ := h; have f1 := AutoSeq1.idx_int; have f2 := AutoSeq1.sub_tuple_tuple; wp_walk using wpAny_loadPart' hl, wpAny_loadPart' hb; exact ⟨_, rfl, h⟩
theorem cat_tup0 {prog : Program} {w : World} {A : Around} {E : Value → Shared → Prop} {s : Shared} {t b : Addr} {ws : List Value} {Q : Value → Shared → Prop} (ht : IsTup s.heap t (#[] : Array Value)) (hb : IsTup s.heap b ws.toArray)
    (h : Q (.ref b) s) : wpAny (model prog w) A (binaryOp .Add (.ref t) (.ref b)) Q E s := by
  obtain ⟨⟨cls, dd, data, sl⟩, ho, hc, n, hd⟩ := id ht
  obtain ⟨⟨cls2, dd2, data2, sl2⟩, ho2, hc2, n2, hd2⟩ := id hb
  simp only at hc hd hc2 hd2
  subst hc hd hc2 hd2
  exact concat_meets ⟨_, ho, rfl⟩ ⟨_, ho2, rfl⟩ noFill_tuple_add seq_tuple_add PySem.F.slot_tuple_add PySem.F.entry_tuple_add (PySem.F.args_tuple_add_2 _ _) (tuple_addW0 t b ws.toArray n n2 dd dd2 sl sl2) ⟨ho, ho2, h⟩
end
noncomputable abbrev dCatT : R3
  | .tup ds, .tup es, Φ => ds.length + es.length ≤ sizeLine ∧ Φ (.tup (ds ++ es))
  | _, _, _ => False
noncomputable def rCat0 (K : PySem.W.Frag) : R2 := fun x y H Q => ∃ a b ys, x = .ref a ∧ y = .ref b ∧ SqT K H a [] ∧ SqT K H b ys ∧ Q (.ref b) H
theorem op_cat0 : OpR X (binaryOp .Add) (rCat0 X.K) := by
  intro pins s σ H x y v u Q I rx ry h
  obtain ⟨a, b, ys, rfl, rfl, ha, hb, q⟩ := h
  cases rx
  cases ry
  obtain ⟨its, r1, p1, _⟩ := I.tuple ha
  obtain ⟨its2, r2, p2, _⟩ := I.tuple hb
  cases r1
  exact cat_tup0 p1 p2 ⟨.ref b, H, I, rfl, q⟩
theorem o_catT : OpD X (binaryOp .Add) dCatT := ⟨_, op_cat0.or op_catT, fun S H x y u v Φ Q so rx ry hr hd => by
  match x, y, hr with
  | .tup ds, .tup es, ⟨hz, h⟩ =>
    obtain ⟨a, xs, rfl, q, rs⟩ := rep_tup rx
    obtain ⟨a', xs', rfl, q', rs'⟩ := rep_tup ry
    cases ds with
    | nil =>
      simp only [Reps] at rs
      subst rs
      exact .inl ⟨a, a', xs', rfl, rfl, q, q', hd _ _ H h (Same.refl _) (Rep.tup q' rs')⟩
    | cons d ds =>
      refine .inr ⟨a, a', xs, xs', rfl, rfl, q, q', ?_, by rw [← rs.len, ← rs'.len]; exact hz, fun z => ?_, fun z p hp => hd _ _ _ h (same_new hp) (Rep.newTup hp (rs.app rs'))⟩
      · rintro rfl
        simp [Reps] at rs
      · subst z
        have : es = [] := by
          cases es with
          | nil => rfl
          | cons _ _ => simp [Reps] at rs'
        subst this
        rw [List.append_nil] at h
        exact hd _ _ H h (Same.refl _) (Rep.tup q rs)⟩
theorem all_getD : ∀ bs : List Bool, (List.range bs.length).all (fun i => bs.getD i true) = bs.all id
  | [] => rfl
  | b :: bs => by
    rw [List.length_cons, List.range_succ_eq_map, List.all_cons, List.all_map, List.all_cons, ← all_getD bs]
    rfl
theorem call_allL (hc : X.calm = true) : CallR X (.builtin "all") (fun xs H Q => ∃ (p : Addr) (bs : List Bool), xs = [.ref p] ∧ SqL X.K H p (bs.map V.bl) ∧ Q (.bl (bs.all id)) H) := by
  intro pins s σ H xs us Q I r h
  obtain ⟨p, bs, rfl, hq, q⟩ := h
  obtain ⟨u, rfl, rx⟩ := vals1 r
  cases rx
  obtain ⟨its, r', pl, hz⟩ := I.list hq
  have hl := pl.isList
  refine call_all_walk (wpAny_pyIter_list hl ?_)
  have hne : p ≠ s.heap.objs.size := by
    rintro rfl
    obtain ⟨o, e, _⟩ := hl
    rw [Heap.get?_none_of_le (Nat.le_refl _)] at e
    cases e
  have hlen : its.length = bs.length := by rw [← r'.length]; simp
  refine ⟨_, _, _, _, _, _, fun i => bs.getD i true, rfl, Walks.list (A := X.A.in1) (I.ok.hd hc) _ p hne its.toArray, ⟨⟨_, Heap.get?_push_size _ rfl, rfl, rfl⟩, hl.at fun o e => Heap.get?_push_of_some _ e⟩, ?_, fun h' tk hk => ?_⟩
  · intro i v s' Q' E' hv hQ'
    have hv : its[i]? = some v := by simpa using hv
    have hi : i < bs.length := by rw [← hlen]; exact (List.getElem?_eq_some_iff.mp hv).1
    obtain ⟨u, eu, ru⟩ := r'.get (i := i) (x := V.bl bs[i]) (by simp [hi])
    rw [hv] at eu
    cases eu
    cases (show v = Value.bool bs[i] from ru)
    have e : bs.getD i true = bs[i] := by rw [List.getD_eq_getElem?_getD]; simp [hi]
    have hQ'' : Q' (bs.getD i true) s' := hQ'
    rw [e] at hQ''
    exact wpAny_truthy_bool hQ''
  · refine ⟨.bl _, H, I.kept (h' := h') (t' := tk) fun b o e => ?_, rfl, ?_⟩
    · refine hk b o ?_ (Heap.get?_push_of_some _ e)
      intro hb
      have : b = s.heap.objs.size := by simpa using hb
      subst this
      rw [Heap.get?_none_of_le (Nat.le_refl _)] at e
      cases e
    · have e : (List.range its.toArray.size).all (fun i => bs.getD i true) = bs.all id := by
        rw [List.size_toArray, hlen]
        exact all_getD bs
      rw [e]
      exact q
noncomputable abbrev cAll : Con
  | [.lst ds], Φ => ∃ bs : List Bool, ds = bs.map .bl ∧ Φ (.bl (bs.all id))
  | _, _ => False
theorem Reps.blsV {K : PySem.W.Frag} {S : Addr → Prop} {H : Hp} : ∀ {ns : List Bool} {vs : List V}, Reps K S H (ns.map D.bl) vs → vs = ns.map V.bl
  | [], vs, h => by simpa only [List.map_nil, Reps] using h
  | n :: ns, vs, h => by
    simp only [List.map_cons, Reps, Rep] at h
    obtain ⟨x, r, rfl, rfl, t⟩ := h
    rw [Reps.blsV t, List.map_cons]
theorem b_all (hc : X.calm = true) : CallD X (.builtin "all") cAll := ⟨_, call_allL hc, fun S H ds vs Φ Q so r h hd => by
  match ds, h with
  | [.lst ds], ⟨bs, e, h⟩ =>
    subst e
    simp only [Reps] at r
    obtain ⟨v, _, rfl, rv, rfl⟩ := r
    obtain ⟨a, xs, rfl, lr, rs⟩ := rep_lst rv
    have := rs.blsV
    subst this
    exact ⟨a, bs, rfl, lr.sq, hd _ _ H h (Same.refl _) Rep.bl⟩⟩
noncomputable abbrev cInt : Con
  | [.int i], Φ => Φ (.int i)
  | [.bl b], Φ => Φ (.int (if b then 1 else 0))
  | _, _ => False
theorem b_int : CallD X (.type "int") cInt := ⟨_, call_int1, fun S H ds vs Φ Q so r h hd => by
  match ds, h with
  | [.int i], h =>
    simp only [Reps, Rep] at r
    obtain ⟨v, _, rfl, rfl, rfl⟩ := r
    exact .inl ⟨i, rfl, hd _ _ H h (Same.refl _) Rep.int⟩
  | [.bl i], h =>
    simp only [Reps, Rep] at r
    obtain ⟨v, _, rfl, rfl, rfl⟩ := r
    exact .inr ⟨i, rfl, hd _ _ H h (Same.refl _) Rep.int⟩⟩
noncomputable def iSeqV (K : PySem.W.Frag) (tl : TE) : TI := fun σ H R => tl σ H fun x H1 => ∃ a, x = .ref a ∧ (((∃ xs, SqL K H1 a xs) ∧ R (Itl K a) H1) ∨ ((∃ xs, SqT K H1 a xs) ∧ R (Itt K a) H1))
theorem pi_seq {tg l : Expr} {tl : TE} (hl : PE X l tl) : PI X tg l (iSeqV X.K tl) := by
  intro pins s σ H R I h
  refine thn (hl pins s σ H _ I h) fun v s1 qZ => ?_
  obtain ⟨x, H1, I1, r1, q1⟩ := qZ
  obtain ⟨a, e, q1⟩ := q1
  subst e
  cases r1
  rcases q1 with ⟨⟨xs, hq⟩, q⟩ | ⟨⟨xs, hq⟩, q⟩
  · obtain ⟨its, rv, p, hz⟩ := I1.list hq
    refine wpAny_pyIter_list p.isList ?_
    refine ⟨s1.heap.objs.size, [s1.heap.objs.size], _, _, H1, rfl, I1.kept (t' := s1.toks) fun b o e => Heap.get?_push_of_some _ e, turn_list a _, ⟨_, Heap.get?_push_size _ rfl, rfl, rfl⟩, fun b hb => ?_, q⟩
    have e : b = s1.heap.objs.size := by simpa using hb
    subst e
    exact I1.fpOk (Nat.le_refl _) (I1.hok.fresh (Nat.le_refl _))
  · obtain ⟨its, rv, p, hz⟩ := I1.tuple hq
    refine wpAny_pyIter_tuple (show s1.heap.IsTuple a its.toArray from p) ?_
    refine ⟨s1.heap.objs.size, [s1.heap.objs.size], _, _, H1, rfl, I1.kept (t' := s1.toks) fun b o e => Heap.get?_push_of_some _ e, turn_tuple a _, ⟨_, Heap.get?_push_size _ rfl, rfl, rfl⟩, fun b hb => ?_, q⟩
    have e : b = s1.heap.objs.size := by simpa using hb
    subst e
    exact I1.fpOk (Nat.le_refl _) (I1.hok.fresh (Nat.le_refl _))
noncomputable abbrev iLT (te : E3) : A3 := fun ρ Φ => te ρ fun d => match d with | .lst ds => Φ ds | .tup ds => Φ ds | _ => False
theorem pid_seq {tg e : Expr} {te : E3} (he : PD X e te) : PID X tg e (iLT te) := by
  obtain ⟨t2, h, w⟩ := he
  refine PID.one ⟨_, pi_seq h, fun B S H σ ρ Φ R er q k => w B S H σ ρ _ _ er q fun d v H1 p s r => ?_⟩
  cases d <;> first | exact p.elim | skip
  · rename_i ds
    obtain ⟨a, xs, rfl, lr, rs⟩ := rep_tup r
    refine ⟨a, rfl, .inr ⟨⟨xs, lr⟩, k ds _ _ _ H1 p s r fun S2 H2 r2 => ?_⟩⟩
    obtain ⟨a2, xs2, e2, lr2, rs2⟩ := rep_tup r2
    cases e2
    refine ⟨⟨xs2, lr2, by rw [rs2.len]; exact Nat.le_refl _⟩, fun i hi => ?_⟩
    have hi2 : i < xs2.length := by rw [← rs2.len]; exact hi
    refine ⟨⟨xs2, xs2[i], lr2, by simp [hi2]⟩, fun x H' y => ?_⟩
    obtain ⟨rfl, y⟩ := y
    obtain ⟨c, ec, rc⟩ := rs2.getV (y xs2 lr2)
    exact ⟨rfl, c, ec, rc⟩
  · rename_i ds
    obtain ⟨a, xs, rfl, lr, rs⟩ := rep_lst r
    refine ⟨a, rfl, .inl ⟨⟨xs, lr.sq⟩, k ds _ _ _ H1 p s r fun S2 H2 r2 => ?_⟩⟩
    obtain ⟨a2, xs2, e2, lr2, rs2⟩ := rep_lst r2
    cases e2
    refine ⟨⟨xs2, lr2.sq, by rw [rs2.len]; exact Nat.le_refl _⟩, fun i hi => ?_⟩
    have hi2 : i < xs2.length := by rw [← rs2.len]; exact hi
    refine ⟨⟨xs2, xs2[i], lr2.sq, by simp [hi2]⟩, fun x H' y => ?_⟩
    obtain ⟨rfl, y⟩ := y
    obtain ⟨c, ec, rc⟩ := rs2.getV (y xs2 lr2.sq)
    exact ⟨rfl, c, ec, rc⟩
end
end D3

set_option Elab.async false
set_option linter.all false
set_option maxRecDepth 100000
set_option maxHeartbeats 4000000
namespace D3
open PySem PySem.Spec PyProof.Rows L2
section
variable {X : Cx} {pos : Pos}
noncomputable abbrev bEqO (i : Nat) (tb : E3) : B3 := fun ρ Φ => match ρ[i]? with
  | some (.own ds) => tb ρ fun y => deps ds ≤ 99 ∧ Φ (eqD (.lst ds) y)
  | _ => False
theorem pb_eqO {o b : Expr} {i : Nat} {tb : E3} (hu : X.A.units + 100 < cLine) (ho : PE X o (tVar i)) (hb : PD X b tb) (hm : behindInMarks .Eq b = false) : PB X (.Compare o [.Eq] [b] pos) (bEqO i tb) := by
  obtain ⟨tb2, hb, wb⟩ := hb
  refine ⟨_, pt_cmpR (op_eqS hu) ho hb hm, fun B S H σ ρ Φ Q er q hd => ?_⟩
  unfold bEqO at q
  split at q
  · rename_i ds e0
    obtain ⟨a, xs, ea, hsa, h0, hl, r⟩ := er.own i ds e0
    refine ⟨.ref a, ea, wb B S H σ ρ _ _ er q fun y v H2 p2 s2 r2 => ?_⟩
    refine ⟨fun b => S b ∧ b ≠ a, .lst ds, y, ?_, Rep.lst (.inl ⟨fun z => z.2 rfl, .inl (s2 _ _ hl)⟩) ((r.same s2).sub (fun b h => h.1)), r2.sub (fun b h => h.1), ⟨_, rfl, hd _ H2 p2.2 s2⟩⟩
    show deps ds + 1 ≤ 100
    omega
  · exact q.elim
structure CstD (K : PySem.W.Frag) (d : D) (v : V) (u : Value) : Prop where
  r : RelV v u
  d : ∀ S H, Rep K S H d v
theorem pd_const {x : Str} {v : V} {u : Value} {d : D} (hg : Gl X x) (hm : X.mg x = some u) (c : CstD X.K d v u) (hdb : (x == ("__debug__" : Str)) = false := by decide) : PD X (.Name x pos) (dC d) :=
  ⟨_, pe_glob hg hm c.r hdb, fun B S H σ ρ Φ Q er q hd => hd d v H q (Same.refl _) (c.d S H)⟩
theorem cst_tup {K : PySem.W.Frag} {f : Addr} {od : Option Addr} {its : Array Value} {n : Nat} {sl : Array (Option Value)} {ns : List Int} (l : K.lookup f = some ⟨.type "tuple", od, .seq its n, sl⟩) (hz : its.size ≤ sizeLine) (hv : Vals (ns.map V.int) its.toList) : CstD K (.tup (ns.map D.int)) (.ref f) (.ref f) :=
  ⟨rfl, fun S H => Rep.tup (.inr ⟨_, its, n, l, rfl, rfl, hz, hv⟩) (Reps.ints ns)⟩
theorem vals_nil : Vals [] [] := .nil
theorem vals_int {i : Int} {t : Tok} {ns : List Int} {us : List Value} (h : Vals (ns.map V.int) us) : Vals ((i :: ns).map V.int) (.int i t :: us) := .cons ⟨t, rfl⟩ h
end
end D3

set_option Elab.async false
set_option linter.all false
set_option maxRecDepth 100000
set_option maxHeartbeats 4000000
namespace D3
open PySem PySem.Spec PyProof.Rows L2
section
variable {X : Cx} {pins : List (Addr × Obj)} {σ : L2.St} {k : Nat} {f : Addr} {fd : FuncData} {ps : List Str} {C : Con}
theorem Inv.moved {a : Addr} {o : Obj} {H : Hp} {s : Shared} {h' : Heap} {rest : List (Addr × Obj)} (I : Inv X (pins ++ rest) σ H s) (hp : (a, o) ∈ rest) (ha : X.s₀.heap.objs.size ≤ a) {keep : List (Addr × Obj)} (hk : ∀ p ∈ keep, p ∈ pins ++ rest) (hne : ∀ p ∈ X.pn ++ keep, p.1 ≠ a)
    (hs : ∀ b u, b ≠ a → s.heap.get? b = some u → h'.get? b = some u) : Inv X keep σ H { s with heap := h' } := by
  have q := I.pin (a, o) (List.mem_append_right _ (List.mem_append_right _ hp))
  have I1 : Inv X keep σ H s := I.pins_of fun p z => I.pin p (List.mem_append_right _ (hk p z))
  refine I1.turned (t' := s.toks) hs q.2.1 q.2.2.1 (.inr ha) (fun x c e z => ?_) hne
  obtain ⟨v, u, hu, hd⟩ := I.cell x c e
  rw [z, q.1] at hu
  cases hu
  exact q.2.2.2.2 v hd
theorem key_call {H : Hp} {s : Shared} {u : Value} {x : V} {d : D} {n : Int} {S : Addr → Prop} (F : FnOk X.prog X.w X.K X.mg X.base CX0 k f fd ps (spD X.K 1 C)) (mo : Mono C) (hr : Room (k + 1) X.A) (hb : Binds X.K fd ps [])
    (I : Inv X pins σ H s) (r : RelV x u) (rd : Rep X.K S H d x) (so : SOk S H) (hc : C [d] fun e => e = .int n) :
    wpAny (model X.prog X.w) X.A.in1 (call (.ref f) [u]) (fun v s' => ∃ t H', v = .int n t ∧ Inv X pins σ H' s' ∧ Same H H') (fun _ _ => False) s := by
  have h : spD X.K 1 C [x] H (fun v H' => v = .int n ∧ Same H H') E0 := ⟨[d], S, rfl, Reps.cons rd Reps.nil, so, mo _ _ _ (fun e he v H' s r' => by
    subst he
    simp only [Rep] at r'
    exact ⟨r', s⟩) hc⟩
  have hl : [u].length = ps.length := F.len _ _ _ _ h
  refine wpAny_call (codeAny_mono (F.run X.A.in1 X.stack s H ⟨[u], []⟩ [u] [x] _ E0 hr.in1 I.env0.in1 (hb s [u] I.kIn hl) (.cons r .nil) h) fun r s' hq => ?_)
  cases r with
  | error e => exact False.elim hq
  | ok fl =>
    cases fl with
    | ret u => 
      obtain ⟨v, H', I', rv, e, sm⟩ := I.after hq
      subst e
      obtain ⟨t, rfl⟩ := rv
      exact ⟨t, H', rfl, I', sm⟩
    | next => exact False.elim hq
    | brk => exact False.elim hq
    | cont => exact False.elim hq
variable {l Ia Sa : Addr} {H0 : Hp} {xs : List V} {ds : List D} {ks : List Int} {S : Addr → Prop} {R : Result → Shared → Prop}
theorem maxK_loop (F : FnOk X.prog X.w X.K X.mg X.base CX0 k f fd ps (spD X.K 1 C)) (mo : Mono C) (hr : Room (k + 1) X.A) (hb : Binds X.K fd ps []) (hcalm : X.calm = true)
    (hq : SqL X.K H0 l xs) (rd : Reps X.K S H0 ds xs) (so : SOk S H0) (hlen : ks.length = xs.length) (hC : ∀ (i : Nat) d n, ds[i]? = some d → ks[i]? = some n → C [d] fun e => e = .int n)
    (hSI : Sa ≠ Ia) (haS : X.s₀.heap.objs.size ≤ Sa) (haI : X.s₀.heap.objs.size ≤ Ia) (hnS : ∀ p ∈ X.pn ++ pins, p.1 ≠ Sa) (hnI : ∀ p ∈ X.pn ++ pins, p.1 ≠ Ia)
    (hR : ∀ (i : Nat) x v n H s, xs[i]? = some x → RelV x v → ks[i]? = some n → (∀ m ∈ ks, m ≤ n) → Inv X pins σ H s → Same H0 H → R (.ok (.ret v)) s) :
    ∀ (r j i : Nat) (H : Hp) (s : Shared) (xb : V) (vb : Value) (nb : Int) (tb : Tok) (c : Nat) (oI : Obj), xs.length - (j + 1) = r → j + 1 ≤ xs.length →
      Inv X (pins ++ [(Sa, seqObj "list" #[vb, .int nb tb] c), (Ia, oI)]) σ H s → Same H0 H → s.heap.IsListIter Ia l (j + 1) → xs[i]? = some xb → RelV xb vb → ks[i]? = some nb → (∀ (j' : Nat) m, j' ≤ j → ks[j']? = some m → m ≤ nb) →
      codeAny (model X.prog X.w) X.A (.builtin "max.loop" ⟨[.ref Ia, .ref f, .ref Sa], []⟩) R s := by
  have hname : (toString "max" ++ toString ".loop" : String) = "max.loop" := by decide
  intro r
  induction r with
  | zero =>
    intro j i H s xb vb nb tb c oI hrr hj I sm hit hxb rvb hnb hbest
    have hin : j + 1 = xs.length := by omega
    have nS := I.pin (Sa, seqObj "list" #[vb, .int nb tb] c) (by simp)
    obtain ⟨its, rv, p, hz⟩ := I.list (sm.seq hq)
    have hl := rv.length
    refine codeAny_builtin PySem.F.entry_max_loop ?_
    rw [Around.under_plainId PySem.F.plain_max_loop _]
    show wpAny _ X.A.in1 (seqItems? (.ref Sa) >>= _) _ _ _
    refine wpAny_bind (wpAny_seqItems nS.1 rfl ?_)
    show wpAny _ X.A.in1 (tryCatch (pyNext (.ref Ia)) _ >>= _) _ _ _
    refine wpAny_bind (wpAny_tryCatch (wpAny_pyNext_list_end (I.ok.hd hcalm) hit p.isList (by simp; omega) fun h' eb => ?_))
    have I1 : Inv X (pins ++ [(Sa, seqObj "list" #[vb, .int nb tb] c)]) σ H { s with heap := h' } := Inv.moved (a := Ia) (o := oI) I (by simp) haI (fun p hp => by
      rcases List.mem_append.mp hp with z | z
      · exact List.mem_append_left _ z
      · exact List.mem_append_right _ (by simp at z; simp [z])) (fun p hp => by
      rcases List.mem_append.mp hp with z | z
      · exact hnI p (List.mem_append_left _ z)
      · rcases List.mem_append.mp z with z | z
        · exact hnI p (List.mem_append_right _ z)
        · have : p.1 = Sa := by simp at z; rw [z]
          rw [this]; exact hSI) eb
    have nS1 := I1.pin (Sa, seqObj "list" #[vb, .int nb tb] c) (by simp)
    have s1 := Heap.SameBut.update h' Sa (Obj.mapSeq fun _ => (#[] : Array Value))
    show wpAny _ X.A.in1 (updateSeq Sa (fun _ => #[]) >>= _) _ _ _
    refine wpAny_bind ?_
    refine wpAny_updateSeq nS1.1 rfl (wpAny_bind (wpAny_letGo (wpAny_pure ?_)))
    have I2 : Inv X pins σ H { s with heap := h'.update Sa (Obj.mapSeq fun _ => (#[] : Array Value)) } := Inv.moved (a := Sa) (o := seqObj "list" #[vb, .int nb tb] c) I1 (by simp) haS (fun p hp => List.mem_append_left _ hp) hnS fun b u hbs e => (s1.2 b hbs).trans e
    refine hR i xb vb nb H _ hxb rvb hnb (fun m hm => ?_) I2 sm
    obtain ⟨j', hj', rfl⟩ := List.getElem_of_mem hm
    exact hbest j' _ (by omega) (by simp [hj'])
  | succ r ih =>
    intro j i H s xb vb nb tb c oI hrr hj I sm hit hxb rvb hnb hbest
    have hlt : j + 1 < xs.length := by omega
    have nS := I.pin (Sa, seqObj "list" #[vb, .int nb tb] c) (by simp)
    obtain ⟨its, rv, p, hz⟩ := I.list (sm.seq hq)
    have hl := rv.length
    obtain ⟨x, hx⟩ : ∃ x, xs[j + 1]? = some x := ⟨xs[j + 1], by simp [hlt]⟩
    obtain ⟨u, hu, ru⟩ := rv.get hx
    obtain ⟨n, hn⟩ : ∃ n, ks[j + 1]? = some n := ⟨ks[j + 1]'(by omega), by simp⟩
    refine codeAny_builtin PySem.F.entry_max_loop ?_
    rw [Around.under_plainId PySem.F.plain_max_loop _]
    show wpAny _ X.A.in1 (seqItems? (.ref Sa) >>= _) _ _ _
    refine wpAny_bind (wpAny_seqItems nS.1 rfl ?_)
    show wpAny _ X.A.in1 (tryCatch (pyNext (.ref Ia)) _ >>= _) _ _ _
    refine wpAny_bind (wpAny_tryCatch (wpAny_pyNext_list_item hit p.isList (x := u) (by simpa using hu) fun h' hit' sb => ?_))
    obtain ⟨oI', hoI', hoc, hod⟩ := id hit'
    have I0 : Inv X (pins ++ [(Sa, seqObj "list" #[vb, .int nb tb] c)]) σ H { s with heap := h' } := Inv.moved (a := Ia) (o := oI) I (by simp) haI (fun p hp => by
      rcases List.mem_append.mp hp with z | z
      · exact List.mem_append_left _ z
      · exact List.mem_append_right _ (by simp at z; simp [z])) (fun p hp => by
      rcases List.mem_append.mp hp with z | z
      · exact hnI p (List.mem_append_left _ z)
      · rcases List.mem_append.mp z with z | z
        · exact hnI p (List.mem_append_right _ z)
        · have : p.1 = Sa := by simp at z; rw [z]
          rw [this]; exact hSI) fun b u hbs e => (sb.2 b hbs).trans e
    have nI := I.pin (Ia, oI) (by simp)
    have I1 : Inv X (pins ++ [(Sa, seqObj "list" #[vb, .int nb tb] c), (Ia, oI')]) σ H { s with heap := h' } := I0.pins_of fun p hp => by
      rcases List.mem_append.mp hp with z | z
      · exact I0.pin p (List.mem_append_right _ (List.mem_append_left _ z))
      · rcases List.mem_cons.mp z with rfl | z
        · exact I0.pin _ (by simp)
        · rw [List.mem_singleton.mp z]
          exact ⟨hoI', nI.2.1, nI.2.2.1, nI.2.2.2.1, fun v z => by rw [hod] at z; cases z⟩
    obtain ⟨d, hd, rdx⟩ := rd.getV hx
    show wpAny _ X.A.in1 (tryCatch (holding [u] (call (.ref f) [u])) _ >>= _) _ _ _
    refine wpAny_bind (wpAny_tryCatch (wpAny_holding (wpAny_mono (key_call F mo hr hb I1 ru (rdx.same sm) (so.same sm) (hC _ _ _ hd hn)) (fun w s2 he => ?_) fun _ _ hF => hF.elim)))
    obtain ⟨t2, H2, rfl, I2, sm2⟩ := he
    have sm' := sm.trans sm2
    have nS2 := I2.pin (Sa, seqObj "list" #[vb, .int nb tb] c) (by simp)
    have nI2 := I2.pin (Ia, oI') (by simp)
    have hit2 : s2.heap.IsListIter Ia l (j + 1 + 1) := ⟨oI', nI2.1, hoc, hod⟩
    show wpAny _ X.A.in1 (tryCatch (holding [u, .int n t2] (richCompare .Gt (.int n t2) (.int nb tb) >>= _)) _ >>= _) _ _ _
    refine wpAny_bind (wpAny_tryCatch (wpAny_holding (wpAny_bind (CmpOf.ints_gt (prog := X.prog) (w := X.w) (A := X.A.in1) (P := fun i v => ∃ t, v = .int (if i = 0 then n else nb) t) (fun i => if i = 0 then n else nb) (fun i v h => h) 0 1 _ _ _ _ _ ⟨t2, rfl⟩ ⟨tb, rfl⟩ ?_))))
    refine wpAny_bind (wpAny_holding (wpAny_truthy_bool ?_))
    refine wpAny_bind (wpAny_letGo (wpAny_pure ?_))
    have e01 : (if (0 : Nat) = 0 then n else nb) = n := rfl
    have e11 : (if (1 : Nat) = 0 then n else nb) = nb := rfl
    simp only [e01, e11, if_true]
    by_cases hb' : n > nb
    · have s1 := Heap.SameBut.update s2.heap Sa (Obj.mapSeq fun _ => #[u, .int n t2])
      obtain ⟨c2, hc2⟩ : ∃ c2, (s2.heap.update Sa (Obj.mapSeq fun _ => #[u, .int n t2])).get? Sa = some (seqObj "list" #[u, .int n t2] c2) := ⟨_, get?_update_seq nS2.1 fun _ => #[u, .int n t2]⟩
      simp only [hb', decide_true, if_true]
      refine wpAny_bind ?_
      refine wpAny_updateSeq nS2.1 rfl (wpAny_bind (wpAny_letGo ?_))
      rw [hname]
      have I3 : Inv X (pins ++ [(Ia, oI')]) σ H2 { s2 with heap := s2.heap.update Sa (Obj.mapSeq fun _ => #[u, .int n t2]) } := Inv.moved (a := Sa) (o := seqObj "list" #[vb, .int nb tb] c) I2 (by simp) haS (fun p hp => by
        rcases List.mem_append.mp hp with z | z
        · exact List.mem_append_left _ z
        · exact List.mem_append_right _ (by simp at z; simp [z])) (fun p hp => by
        rcases List.mem_append.mp hp with z | z
        · exact hnS p (List.mem_append_left _ z)
        · rcases List.mem_append.mp z with z | z
          · exact hnS p (List.mem_append_right _ z)
          · have : p.1 = Ia := by simp at z; rw [z]
            rw [this]; exact hSI.symm) fun b u hbs e => (s1.2 b hbs).trans e
      have I4 : Inv X (pins ++ [(Sa, seqObj "list" #[u, .int n t2] c2), (Ia, oI')]) σ H2 { s2 with heap := s2.heap.update Sa (Obj.mapSeq fun _ => #[u, .int n t2]) } := I3.pins_of fun p hp => by
        rcases List.mem_append.mp hp with z | z
        · exact I3.pin p (List.mem_append_right _ (List.mem_append_left _ z))
        · rcases List.mem_cons.mp z with rfl | z
          · exact ⟨hc2, nS2.2.1, nS2.2.2.1, nS2.2.2.2.1, fun v z => by cases z⟩
          · rw [List.mem_singleton.mp z]
            exact I3.pin _ (by simp)
      refine wpAny_pure ⟨plainId_quiet PySem.F.plain_max_loop _, ih (j + 1) (j + 1) H2 _ x u n t2 c2 oI' (by omega) hlt I4 sm' ⟨oI', (s1.2 Ia hSI.symm).trans nI2.1, hoc, hod⟩ hx ru hn fun j' m hj' hm => ?_⟩
      by_cases e : j' = j + 1
      · subst e
        rw [hn] at hm; cases hm; omega
      · have := hbest j' m (by omega) hm
        omega
    · have hb'' : decide (n > nb) = false := decide_eq_false hb'
      simp only [hb'', Bool.false_eq_true, if_false]
      refine wpAny_bind (wpAny_letGo ?_)
      rw [hname]
      refine wpAny_pure ⟨plainId_quiet PySem.F.plain_max_loop _, ih (j + 1) i H2 _ xb vb nb tb c oI' (by omega) hlt I2 sm' hit2 hxb rvb hnb fun j' m hj' hm => ?_⟩
      by_cases e : j' = j + 1
      · subst e
        rw [hn] at hm; cases hm; omega
      · exact hbest j' m (by omega) hm
theorem maxK_run {H : Hp} {s : Shared} {Q : VK} {E : Value → Shared → Prop} (F : FnOk X.prog X.w X.K X.mg X.base CX0 k f fd ps (spD X.K 1 C)) (mo : Mono C) (hr : Room (k + 1) X.A) (hb : Binds X.K fd ps []) (hcalm : X.calm = true)
    (I : Inv X pins σ H s) (hq : SqL X.K H l xs) (rd : Reps X.K S H ds xs) (so : SOk S H) (hlen : ks.length = xs.length) (hne : 0 < xs.length) (hC : ∀ (i : Nat) d n, ds[i]? = some d → ks[i]? = some n → C [d] fun e => e = .int n)
    (hQ : ∀ (i : Nat) x n H', xs[i]? = some x → ks[i]? = some n → (∀ m ∈ ks, m ≤ n) → Same H H' → Q x H') :
    wpAny (model X.prog X.w) X.A (call (.builtin "max") [.ref l] [(Str.ofString "key", .ref f)]) (EP X pins σ Q) E s := by
  have hname : (toString "max" ++ toString ".loop" : String) = "max.loop" := by decide
  obtain ⟨its, rv, p, hz⟩ := I.list hq
  refine kmk_tree PySem.F.kind_max PySem.F.plain_max PySem.F.entry_max (kmk_max_key _ _) ?_
  show wpAny _ X.A.in1 (Builtin.Builtins.bindParams "max" ["key", "default"] 0 ⟨[], [(Str.ofString "key", .ref f)]⟩ >>= _) _ _ s
  refine wpAny_bind (wpAny_of_eq (show Builtin.Builtins.bindParams "max" ["key", "default"] 0 ⟨[], [(Str.ofString "key", .ref f)]⟩ = pure [some (.ref f), none] from rfl) ?_)
  refine wpAny_bind (wpAny_pure ?_)
  refine wpAny_bind (wpAny_pyIter_list p.isList ?_)
  refine wpAny_bind (wpAny_newList ?_ (Nat.zero_le _))
  rw [hname]
  refine wpAny_pure ⟨plainId_quiet PySem.F.plain_max_loop _, ?_⟩
  have hS : (s.heap.push { cls := .type "list_iterator", data := .fields #[.ref l, .int 0 0] }).objs.size = s.heap.objs.size + 1 := size_push' ..
  generalize hSa : (s.heap.push { cls := .type "list_iterator", data := .fields #[.ref l, .int 0 0] }).objs.size = Sa at hS ⊢
  generalize hIa : s.heap.objs.size = Ia at hS
  have gI : ((s.heap.push { cls := .type "list_iterator", data := .fields #[.ref l, .int 0 0] }).push (seqObj "list" #[] 0)).get? Ia = some { cls := .type "list_iterator", data := .fields #[.ref l, .int 0 0] } := by
    rw [← hIa]; exact Heap.get?_push_of_some _ (Heap.get?_push_size _ rfl)
  have gS : ((s.heap.push { cls := .type "list_iterator", data := .fields #[.ref l, .int 0 0] }).push (seqObj "list" #[] 0)).get? Sa = some (seqObj "list" #[] 0) := by
    rw [← hSa]; exact Heap.get?_push_size _ rfl
  have old : ∀ b o, s.heap.get? b = some o → ((s.heap.push { cls := .type "list_iterator", data := .fields #[.ref l, .int 0 0] }).push (seqObj "list" #[] 0)).get? b = some o := fun b o e => Heap.get?_push_of_some _ (Heap.get?_push_of_some _ e)
  change codeAny _ _ _ _ { s with heap := (s.heap.push { cls := .type "list_iterator", data := .fields #[.ref l, .int 0 0] }).push (seqObj "list" #[] 0) }
  generalize (s.heap.push { cls := .type "list_iterator", data := .fields #[.ref l, .int 0 0] }).push (seqObj "list" #[] 0) = h1 at gI gS old ⊢
  have hSI : Sa ≠ Ia := by omega
  have szI : s.heap.objs.size ≤ Ia := by omega
  have szS : s.heap.objs.size ≤ Sa := by omega
  have haI := Nat.le_trans I.sz szI
  have haS := Nat.le_trans I.sz szS
  have hn : ∀ a, s.heap.objs.size ≤ a → ∀ q ∈ X.pn ++ pins, q.1 ≠ a := fun a ha q hq z => by
    have := Heap.lt_size (I.pin q hq).1
    rw [z] at this
    exact absurd (Nat.lt_of_lt_of_le this (hIa ▸ ha)) (Nat.lt_irrefl _)
  have Ih : Inv X pins σ H { s with heap := h1 } := I.kept (t' := s.toks) old
  have I0 : Inv X (pins ++ [(Sa, seqObj "list" #[] 0), (Ia, { cls := .type "list_iterator", data := .fields #[.ref l, .int 0 0] })]) σ H { s with heap := h1 } := Ih.pins_of fun q hq => by
    rcases List.mem_append.mp hq with z | z
    · exact Ih.pin q (List.mem_append_right _ z)
    · rcases List.mem_cons.mp z with rfl | z
      · exact ⟨gS, I.hok.fresh szS, Nat.ne_of_gt (Nat.lt_of_lt_of_le I.lt szS), I.nofs szS, fun v z => by cases z⟩
      · rw [List.mem_singleton.mp z]
        exact ⟨gI, I.hok.fresh szI, Nat.ne_of_gt (Nat.lt_of_lt_of_le I.lt szI), I.nofs szI, fun v z => by cases z⟩
  have hit : ({ s with heap := h1 } : Shared).heap.IsListIter Ia l 0 := ⟨_, gI, rfl, rfl⟩
  generalize ({ s with heap := h1 } : Shared) = s1 at I0 hit ⊢
  clear Ih gI gS old
  obtain ⟨its, rv, p, hz⟩ := I0.list hq
  obtain ⟨x, hx⟩ : ∃ x, xs[0]? = some x := ⟨xs[0], by simp [hne]⟩
  obtain ⟨u, hu, ru⟩ := rv.get hx
  obtain ⟨n, hnn⟩ : ∃ n, ks[0]? = some n := ⟨ks[0]'(by omega), by simp⟩
  have nS := I0.pin (Sa, seqObj "list" #[] 0) (by simp)
  have nI := I0.pin (Ia, { cls := .type "list_iterator", data := .fields #[.ref l, .int 0 0] }) (by simp)
  refine codeAny_builtin PySem.F.entry_max_loop ?_
  rw [Around.under_plainId PySem.F.plain_max_loop _]
  show wpAny _ X.A.in1 (seqItems? (.ref _) >>= _) _ _ _
  refine wpAny_bind (wpAny_seqItems nS.1 rfl ?_)
  show wpAny _ X.A.in1 (tryCatch (pyNext (.ref Ia)) _ >>= _) _ _ _
  refine wpAny_bind (wpAny_tryCatch (wpAny_pyNext_list_item hit p.isList (x := u) (by simpa using hu) fun h' hit' sb => ?_))
  obtain ⟨oI', hoI', hoc, hod⟩ := id hit'
  have I1 : Inv X (pins ++ [(Sa, seqObj "list" #[] 0)]) σ H { s1 with heap := h' } := Inv.moved (a := Ia) (o := { cls := .type "list_iterator", data := .fields #[.ref l, .int 0 0] }) I0 (by simp) haI (fun p hp => by
    rcases List.mem_append.mp hp with z | z
    · exact List.mem_append_left _ z
    · exact List.mem_append_right _ (by simp at z; simp [z])) (fun p hp => by
    rcases List.mem_append.mp hp with z | z
    · exact hn Ia szI p (List.mem_append_left _ z)
    · rcases List.mem_append.mp z with z | z
      · exact hn Ia szI p (List.mem_append_right _ z)
      · have : p.1 = Sa := by simp at z; rw [z]
        rw [this]; exact hSI) fun b u hbs e => (sb.2 b hbs).trans e
  have I2 : Inv X (pins ++ [(Sa, seqObj "list" #[] 0), (Ia, oI')]) σ H { s1 with heap := h' } := I1.pins_of fun p hp => by
    rcases List.mem_append.mp hp with z | z
    · exact I1.pin p (List.mem_append_right _ (List.mem_append_left _ z))
    · rcases List.mem_cons.mp z with rfl | z
      · exact I1.pin _ (by simp)
      · rw [List.mem_singleton.mp z]
        exact ⟨hoI', nI.2.1, nI.2.2.1, nI.2.2.2.1, fun v z => by rw [hod] at z; cases z⟩
  obtain ⟨d, hd, rdx⟩ := rd.getV hx
  show wpAny _ X.A.in1 (tryCatch (holding [u] (call (.ref f) [u])) _ >>= _) _ _ _
  refine wpAny_bind (wpAny_tryCatch (wpAny_holding (wpAny_mono (key_call F mo hr hb I2 ru rdx so (hC _ _ _ hd hnn)) (fun w s2 he => ?_) fun _ _ hF => hF.elim)))
  obtain ⟨t2, H2, rfl, I3, sm2⟩ := he
  have nS2 := I3.pin (Sa, seqObj "list" #[] 0) (by simp)
  have nI2 := I3.pin (Ia, oI') (by simp)
  have sb1 := Heap.SameBut.update s2.heap Sa (Obj.mapSeq fun _ => #[u, .int n t2])
  obtain ⟨c2, hc2⟩ : ∃ c2, (s2.heap.update Sa (Obj.mapSeq fun _ => #[u, .int n t2])).get? Sa = some (seqObj "list" #[u, .int n t2] c2) := ⟨_, get?_update_seq nS2.1 fun _ => #[u, .int n t2]⟩
  show wpAny _ X.A.in1 (updateSeq Sa (fun _ => #[u, .int n t2]) >>= _) _ _ _
  refine wpAny_bind ?_
  refine wpAny_updateSeq nS2.1 rfl ?_
  rw [hname]
  have I4 : Inv X (pins ++ [(Ia, oI')]) σ H2 { s2 with heap := s2.heap.update Sa (Obj.mapSeq fun _ => #[u, .int n t2]) } := Inv.moved (a := Sa) (o := seqObj "list" #[] 0) I3 (by simp) haS (fun p hp => by
    rcases List.mem_append.mp hp with z | z
    · exact List.mem_append_left _ z
    · exact List.mem_append_right _ (by simp at z; simp [z])) (fun p hp => by
    rcases List.mem_append.mp hp with z | z
    · exact hn Sa szS p (List.mem_append_left _ z)
    · rcases List.mem_append.mp z with z | z
      · exact hn Sa szS p (List.mem_append_right _ z)
      · have : p.1 = Ia := by simp at z; rw [z]
        rw [this]; exact hSI.symm) fun b u hbs e => (sb1.2 b hbs).trans e
  have I5 : Inv X (pins ++ [(Sa, seqObj "list" #[u, .int n t2] c2), (Ia, oI')]) σ H2 { s2 with heap := s2.heap.update Sa (Obj.mapSeq fun _ => #[u, .int n t2]) } := I4.pins_of fun p hp => by
    rcases List.mem_append.mp hp with z | z
    · exact I4.pin p (List.mem_append_right _ (List.mem_append_left _ z))
    · rcases List.mem_cons.mp z with rfl | z
      · exact ⟨hc2, nS2.2.1, nS2.2.2.1, nS2.2.2.2.1, fun v z => by cases z⟩
      · rw [List.mem_singleton.mp z]
        exact I4.pin _ (by simp)
  refine wpAny_pure ⟨plainId_quiet PySem.F.plain_max_loop _, maxK_loop F mo hr hb hcalm hq rd so hlen hC hSI haS haI (hn Sa szS) (hn Ia szI) (fun i x v n H' s' hx rx hk hm I' sm => ?_) _ 0 0 H2 _ x u n t2 c2 oI' rfl (by omega) I5 sm2 ⟨oI', (sb1.2 Ia hSI.symm).trans nI2.1, hoc, hod⟩ hx ru hnn fun j' m hj' hm => ?_⟩
  · exact ⟨x, H', I', rx, hQ i x n H' hx hk hm sm⟩
  · obtain rfl : j' = 0 := by omega
    rw [hnn] at hm; cases hm; exact Int.le_refl _
end
section
variable {X : Cx} {k : Nat} {f : Addr} {fd : FuncData} {ps : List Str} {C : Con} {x y : Str} {p py kpos pos : Pos} {e : Expr} {te : E3}
noncomputable abbrev dMaxK (C : Con) (te : E3) : E3 := fun ρ Φ => te ρ fun d => match d with
  | .lst ds => ∃ ks : List Int, ds ≠ [] ∧ ks.length = ds.length ∧ (∀ (i : Nat) d n, ds[i]? = some d → ks[i]? = some n → C [d] fun r => r = .int n) ∧ ∀ (i : Nat) d n, ds[i]? = some d → ks[i]? = some n → (∀ m ∈ ks, m ≤ n) → Φ d
  | _ => False
theorem pd_maxK (F : FnOk X.prog X.w X.K X.mg X.base CX0 k f fd ps (spD X.K 1 C)) (mo : Mono C) (hr : Room (k + 1) X.A) (hb : Binds X.K fd ps []) (hcalm : X.calm = true)
    (hg : Gl X x) (hm : X.mg x = none) (hv : bootBuiltins x = some (.builtin "max")) (hgy : Gl X y) (hmy : X.mg y = some (.ref f)) (ha : PD X e te)
    (hn : x ≠ "__name__" := by decide) (hdb : (x == ("__debug__" : Str)) = false := by decide) (hdy : (y == ("__debug__" : Str)) = false := by decide)
    (he : backTo pos (starEach [e] X.env) = (false, eval e X.env) :: backTo pos (starEach [] X.env) := by rfl)
    (hplain : (backTo pos (starEach [e] X.env)).any (·.1) = false := by rfl) (hs : starEach [e] X.env = (false, eval e X.env) :: starEach [] X.env := by rfl) : PD X (.Call (.Name x p) [e] [⟨some (Str.ofString "key"), .Name y py, kpos⟩] pos) (dMaxK C te) := by
  obtain ⟨t2, h, w⟩ := ha
  refine ⟨fun σ H Q => tCons t2 tNil σ H fun vs H1 => ∃ (l : Addr) (xs : List V) (ds : List D) (ks : List Int) (S : Addr → Prop), vs = [.ref l] ∧ SqL X.K H1 l xs ∧ Reps X.K S H1 ds xs ∧ SOk S H1 ∧ ks.length = xs.length ∧ 0 < xs.length ∧ (∀ (i : Nat) d n, ds[i]? = some d → ks[i]? = some n → C [d] fun e => e = .int n) ∧
    ∀ (i : Nat) z n H', xs[i]? = some z → ks[i]? = some n → (∀ m ∈ ks, m ≤ n) → Same H1 H' → Q z H', ?_, ?_⟩
  · intro pins s σ H Q I hw
    refine wpAny_Call_Name_kw (ld_blt I hg hm hv ?_ hn hdb)
    refine PyProof.Rows.callWith_kw ?_ he hplain
    refine thn (pa_cons h pa_nil hs pos pins s σ H _ I hw) fun us s1 qZ => ?_
    obtain ⟨vs, H1, I1, r1, l, xs, ds, ks, S, e1, hq, rd, so, hl, hne, hC, hQ⟩ := qZ
    subst e1
    obtain ⟨u, rfl, ru⟩ := vals1 r1
    cases ru
    refine thn (pk_cons (nm := some (Str.ofString "key")) (kpos := kpos) (pe_glob (pos := py) hgy hmy (v := .ref f) rfl hdy) pk_nil pos pins s1 σ H1 (fun zs H2 => zs = [.ref f] ∧ H2 = H1) I1 ⟨rfl, rfl⟩) fun ws s2 qZ => ?_
    obtain ⟨zs, H2, I2, rz, ez, eh⟩ := qZ
    subst ez eh
    obtain ⟨u, rfl, ru⟩ := vals1 rz
    cases ru
    exact maxK_run F mo hr hb hcalm I2 hq rd so hl hne hC hQ
  · intro B S H σ ρ Φ Q er q hd
    refine w B S H σ ρ _ _ er q fun d v H1 hm s1 r => ?_
    match d, hm with
    | .lst ds, ⟨ks, hne, hl, hC, hΦ⟩ =>
      obtain ⟨a, xs, rfl, lr, rs⟩ := rep_lst r
      have len := rs.len
      refine ⟨a, xs, ds, ks, S, rfl, lr.sq, rs, er.ok.same s1, by rw [hl, len], ?_, hC, fun i z n H' hz hn hx sm => ?_⟩
      · rw [← len]; cases ds with
        | nil => exact absurd rfl hne
        | cons _ _ => simp
      · obtain ⟨d, hd', rd⟩ := rs.getV hz
        exact hd d z H' (hΦ i d n hd' hn hx) (s1.trans sm) (rd.same sm)
end
end D3

set_option Elab.async false
set_option linter.all false
set_option maxRecDepth 100000
set_option maxHeartbeats 4000000
namespace D3
open PySem PySem.Spec PyProof.Rows L2
noncomputable def IsRv (h : Heap) (a l : Addr) (i : Int) : Prop := ∃ o, h.get? a = some o ∧ o.cls = .type "reversed" ∧ o.data = .fields #[.ref l, rawInt i]
section
variable {prog : Program} {w : World} {A : Around} {E : Value → Shared → Prop} {s : Shared}
end
section
variable {X : Cx}
end
end D3

set_option Elab.async false
set_option linter.all false
set_option maxRecDepth 100000
set_option maxHeartbeats 4000000
namespace D3
open PySem PySem.Spec PyProof.Rows L2
section
variable {X : Cx} {a b : Expr} {ta : E3} {tb : A3} {p pos' pos : Pos}
end
end D3

set_option Elab.async false
set_option linter.all false
set_option maxRecDepth 100000
set_option maxHeartbeats 4000000
namespace D3
open PySem PySem.Spec PyProof.Rows L2
noncomputable def IsIt : Bool → Heap → Addr → Addr → Nat → Prop
  | true, h, it, l, k => h.IsListIter it l k
  | false, h, it, l, k => h.IsTupleIter it l k
noncomputable def IsSq : Bool → Heap → Addr → Array Value → Prop
  | true, h, l, xs => h.IsList l xs
  | false, h, l, xs => h.IsTuple l xs
theorem IsIt.obj {b : Bool} {h : Heap} {it l : Addr} {k : Nat} (x : IsIt b h it l k) : ∃ o vs, h.get? it = some o ∧ o.data = .fields vs := by
  cases b <;> (obtain ⟨o, e, _, d⟩ := x; exact ⟨o, _, e, d⟩)
theorem IsIt.at {b : Bool} {h h' : Heap} {it l : Addr} {k : Nat} (x : IsIt b h it l k) (e : ∀ o, h.get? it = some o → h'.get? it = some o) : IsIt b h' it l k := by
  cases b <;> (obtain ⟨o, ho, r⟩ := x; exact ⟨o, e _ ho, r⟩)
theorem IsSq.at {b : Bool} {h h' : Heap} {l : Addr} {xs : Array Value} (x : IsSq b h l xs) (e : ∀ o, h.get? l = some o → h'.get? l = some o) : IsSq b h' l xs := by
  cases b <;> (obtain ⟨o, ho, r⟩ := x; exact ⟨o, e _ ho, r⟩)
inductive Mv (fp : List Addr) : Heap → Heap → Prop
  | refl (h : Heap) : Mv fp h h
  | step {h h1 h2 : Heap} (b : Addr) : Mv fp h h1 → b ∈ fp → (∀ c o, c ≠ b → h1.get? c = some o → h2.get? c = some o) → Mv fp h h2
theorem Mv.inv {X : Cx} {pins : List (Addr × Obj)} {σ : L2.St} {H : Hp} {s : Shared} {fp : List Addr} {h' : Heap} (I : Inv X pins σ H s) (hf : ∀ b ∈ fp, FpOk X pins H b) (m : Mv fp s.heap h') : Inv X pins σ H { s with heap := h' } := by
  have key : ∀ h h', Mv fp h h' → Inv X pins σ H { s with heap := h } → Inv X pins σ H { s with heap := h' } := by
    intro h h' m
    induction m with
    | refl => exact fun I => I
    | step b _ hb k ih =>
      intro I
      obtain ⟨f0, f1, f2, f3, f4, f5⟩ := hf b hb
      exact (ih I).turned (t' := s.toks) (fun c o hc e => k c o hc e) f0 f1 f3 f4 f5
  exact key _ _ m I
section
variable {prog : Program} {w : World} {A : Around} {E : Value → Shared → Prop} {s : Shared}
theorem nextT_item {it l : Addr} {k : Nat} {xs : Array Value} {x : Value} {Q : Value → Shared → Prop} (hi : s.heap.IsTupleIter it l k) (hl : s.heap.IsTuple l xs) (hx : xs[k]? = some x)
    (hQ : ∀ h', h'.IsTupleIter it l (k + 1) → Heap.SameBut it s.heap h' → Q x { s with heap := h' }) : wpAny (model prog w) A (Builtin.SmallTypes.nextOf (.ref it)) Q E s := by
  obtain ⟨o, ho, hc, hd⟩ := id hi
  obtain ⟨ol, hol, _, nl, hdl⟩ := hl
  unfold Builtin.SmallTypes.nextOf
  refine wpAny_bind (wpAny_callSpecial?_slot (name := Str.ofString "__next__") hi.typeIs F.slot_tuple_iterator_next (wpAny_call_entry F.slot_tuple_iterator_next hi.typeIs F.entry_tuple_iterator_next ?_ (F.args_tuple_iterator_next_1 _)))
  show wpAny _ _ (field (.ref it) 0 >>= _) _ _ s
  refine wpAny_bind (wpAny_field ho hd (x := .ref l) rfl ?_)
  show wpAny _ _ (if (Value.ref l == Value.none) = true then _ else _) _ _ s
  rw [if_neg (by exact Bool.false_ne_true)]
  show wpAny _ _ (field (.ref it) 1 >>= _) _ _ s
  refine wpAny_bind (wpAny_field ho hd (x := .int k 0) rfl ?_)
  show wpAny _ _ (seqItems? (.ref l) >>= _) _ _ s
  refine wpAny_bind (wpAny_seqItems hol hdl ?_)
  simp only [Int.toNat_natCast, hx]
  refine wpAny_bind (wpAny_setField ho hd (by simp) (wpAny_pure ⟨x, rfl, wpAny_pure (hQ _ ⟨_, Heap.get?_update_self _ ho (Obj.isFreed_of_fields (Obj.data_mapFields hd _)), (Obj.cls_mapFields ..).trans hc, ?_⟩ (Heap.SameBut.update ..))⟩))
  rw [Obj.data_mapFields hd]; simp [rawInt]
theorem nextT_end {it l : Addr} {k : Nat} {xs : Array Value} {Q : Value → Shared → Prop} (hh : A.handled = none) (hi : s.heap.IsTupleIter it l k) (hl : s.heap.IsTuple l xs) (hx : xs[k]? = none)
    (hE : ∀ h' e, Heap.ExtBut it s.heap h' → (∃ o, h'.get? e = some o ∧ o.cls = .type "StopIteration") → E (.ref e) { s with heap := h' }) : wpAny (model prog w) A (Builtin.SmallTypes.nextOf (.ref it)) Q E s := by
  obtain ⟨o, ho, hc, hd⟩ := id hi
  obtain ⟨ol, hol, _, nl, hdl⟩ := hl
  unfold Builtin.SmallTypes.nextOf
  refine wpAny_bind (wpAny_callSpecial?_slot (name := Str.ofString "__next__") hi.typeIs F.slot_tuple_iterator_next (wpAny_call_entry F.slot_tuple_iterator_next hi.typeIs F.entry_tuple_iterator_next ?_ (F.args_tuple_iterator_next_1 _)))
  show wpAny _ _ (field (.ref it) 0 >>= _) _ _ s
  refine wpAny_bind (wpAny_field ho hd (x := .ref l) rfl ?_)
  show wpAny _ _ (if (Value.ref l == Value.none) = true then _ else _) _ _ s
  rw [if_neg (by exact Bool.false_ne_true)]
  show wpAny _ _ (field (.ref it) 1 >>= _) _ _ s
  refine wpAny_bind (wpAny_field ho hd (x := .int k 0) rfl ?_)
  show wpAny _ _ (seqItems? (.ref l) >>= _) _ _ s
  refine wpAny_bind (wpAny_seqItems hol hdl ?_)
  simp only [Int.toNat_natCast, hx]
  refine wpAny_bind (wpAny_rule (wpAny_bind (wpAny_setField ho hd (by simp) ?_)))
  show wpAny _ _ (newExc (.type "StopIteration") [] >>= _) _ _ _
  refine wpAny_bind ?_
  simp only [newExc, newTuple]
  refine wpAny_bind (wpAny_newObj_type ?_ (by size_fits))
  refine wpAny_bind (m := firstArgMember _ _) (wpAny_of_eq (a := Value.none) (by simp only [firstArgMember]; rfl) ?_)
  refine wpAny_newObj_type ?_ (by size_fits)
  simp only [raiseNew]
  refine wpAny_bind (wpAny_handled ?_)
  first | rw [show A.in1.handled = none from hh] | rw [hh]
  refine wpAny_bind (wpAny_pure (wpAny_throw ?_))
  exact hE _ _ (((Heap.SameBut.update ..).extBut.push _).push _) ⟨_, Heap.get?_push_size _ rfl, rfl⟩
theorem next_item {b : Bool} {it l : Addr} {k : Nat} {xs : Array Value} {x : Value} {Q : Value → Shared → Prop} (hi : IsIt b s.heap it l k) (hl : IsSq b s.heap l xs) (hx : xs[k]? = some x)
    (hQ : ∀ h', IsIt b h' it l (k + 1) → Heap.SameBut it s.heap h' → Q x { s with heap := h' }) : wpAny (model prog w) A (Builtin.SmallTypes.nextOf (.ref it)) Q E s := by
  cases b with
  | true => exact wpAny_nextOf_list_item hi hl hx hQ
  | false => exact nextT_item hi hl hx hQ
theorem next_end {b : Bool} {it l : Addr} {k : Nat} {xs : Array Value} {Q : Value → Shared → Prop} (hh : A.handled = none) (hi : IsIt b s.heap it l k) (hl : IsSq b s.heap l xs) (hx : xs[k]? = none)
    (hE : ∀ h' e, Heap.ExtBut it s.heap h' → (∃ o, h'.get? e = some o ∧ o.cls = .type "StopIteration") → E (.ref e) { s with heap := h' }) : wpAny (model prog w) A (Builtin.SmallTypes.nextOf (.ref it)) Q E s := by
  cases b with
  | true => exact wpAny_nextOf_list_end hh hi hl hx hE
  | false => exact nextT_end hh hi hl hx hE
structure Zp (h : Heap) (b1 b2 : Bool) (z TI TO i1 i2 l1 l2 : Addr) (k : Nat) : Prop where
  z : IsZip h z TI TO .none
  i : IsPair h TI (.ref i1) (.ref i2)
  o : ∃ a b, IsPair h TO a b
  f : IsIt b1 h i1 l1 k
  g : IsIt b2 h i2 l2 k
variable {b1 b2 : Bool} {z TI TO i1 i2 l1 l2 : Addr} {k : Nat} {xs ys : Array Value}
theorem zp_next {x y : Value} {Q : Option Value → Shared → Prop} (D : ZipApart z TI TO i1 i2 l1 l2) (st : Zp s.heap b1 b2 z TI TO i1 i2 l1 l2 k) (hl1 : IsSq b1 s.heap l1 xs) (hl2 : IsSq b2 s.heap l2 ys) (hx : xs[k]? = some x) (hy : ys[k]? = some y)
    (hQ : ∀ h5 h8, Mv [z, TI, TO, i1, i2] s.heap h5 → Mv [z, TI, TO, i1, i2] (h5.push { cls := .type "tuple", data := .seq #[x, y] }) h8 → IsZip h8 z TI TO (rawInt h5.objs.size) → IsPair h8 TI (.ref i1) (.ref i2) → IsPair h8 TO x y → IsIt b1 h8 i1 l1 (k + 1) → IsIt b2 h8 i2 l2 (k + 1) → (∀ b ∈ [z, TI, TO, i1, i2], b ≠ h5.objs.size) → Q (some (.ref h5.objs.size)) { s with heap := h8 }) :
    wpAny (model prog w) A (pyNext (.ref z)) Q E s := by
  obtain ⟨hz, hTI, ⟨a, b, hTO⟩, h1, h2⟩ := st
  have hT : s.TypeIs (.ref z) "zip" := ⟨_, hz, rfl⟩
  unfold pyNext
  refine wpAny_bind (wpAny_attempt (wpAny_callSpecial?_slot (name := Str.ofString "__next__") hT F.slot_zip_next (wpAny_call_entry F.slot_zip_next hT F.entry_zip_next ?_ (F.args_zip_next_1 _))))
  show wpAny _ _ (field (.ref z) 2 >>= _) _ _ _
  refine wpAny_bind (wpAny_field hz rfl (x := .bool false) rfl ?_)
  show wpAny _ _ (field (.ref z) 3 >>= _) _ _ _
  refine wpAny_bind (wpAny_field hz rfl (x := .ref TI) rfl ?_)
  refine wpAny_bind (wpAny_seqItems hTI rfl ?_)
  show wpAny _ _ (Builtin.SmallTypes.ownedTupleIsFree (.ref z) >>= _) _ _ _
  refine wpAny_bind ?_
  unfold Builtin.SmallTypes.ownedTupleIsFree
  refine wpAny_bind (wpAny_field hz rfl (x := .none) rfl (wpAny_pure ?_))
  simp only [if_true]
  refine wpAny_bind (wpAny_rule ?_)
  refine wpAny_bind (wpAny_field hz rfl (x := .ref TO) rfl ?_)
  refine wpAny_bind (wpAny_setField_rec hz (by simp) fun g1 z1 s1 => ?_)
  replace z1 : IsZip g1 z TI TO .ellipsis := z1
  refine wpAny_bind ?_
  simp only [List.zipIdx_cons, List.zipIdx_nil, List.forIn_cons, List.forIn_nil]
  refine wpAny_bind (wpAny_bind (wpAny_onRaise ?_))
  show wpAny _ _ (Builtin.SmallTypes.nextOf (.ref i1) >>= _) _ _ _
  have e1 := s1.extBut
  refine wpAny_bind (next_item (b := b1) (h1.at fun o e => e1 _ o D.i1z e) (hl1.at fun o e => e1 _ o D.l1z e) hx fun g2 f2 s2 => wpAny_pure ?_)
  have e2 := s2.extBut
  have t2 : IsPair g2 TO a b := e2 _ _ D.TOi1 (e1 _ _ D.TOz hTO)
  refine wpAny_bind (wpAny_seqItems t2 rfl ?_)
  refine wpAny_bind (wpAny_updateSeq_pair t2 fun g3 t3 s3 => ?_)
  replace t3 : IsPair g3 TO x b := t3
  have e3 := s3.extBut
  refine wpAny_bind (wpAny_letGo (wpAny_pure ?_))
  refine wpAny_bind (wpAny_bind (wpAny_onRaise ?_))
  show wpAny _ _ (Builtin.SmallTypes.nextOf (.ref i2) >>= _) _ _ _
  refine wpAny_bind (next_item (b := b2) (h2.at fun o e => e3 _ o D.TOi2.symm (e2 _ o D.i12.symm (e1 _ o D.i2z e))) (hl2.at fun o e => e3 _ o D.l2TO (e2 _ o D.l2i1 (e1 _ o D.l2z e))) hy fun g4 f4 s4 => wpAny_pure ?_)
  have e4 := s4.extBut
  have t4 : IsPair g4 TO x b := e4 _ _ D.TOi2 t3
  refine wpAny_bind (wpAny_seqItems t4 rfl ?_)
  refine wpAny_bind (wpAny_updateSeq_pair t4 fun g5 t5 s5 => ?_)
  replace t5 : IsPair g5 TO x y := t5
  have e5 := s5.extBut
  refine wpAny_bind (wpAny_letGo (wpAny_pure (wpAny_pure ?_)))
  refine wpAny_bind (wpAny_seqItems t5 rfl ?_)
  refine wpAny_bind (wpAny_newTuple ?_)
  have m5 : Mv [z, TI, TO, i1, i2] s.heap g5 := .step TO (.step i2 (.step TO (.step i1 (.step z (.refl _) (by simp) fun c o h e => e1 c o h e) (by simp) fun c o h e => e2 c o h e) (by simp) fun c o h e => e3 c o h e) (by simp) fun c o h e => e4 c o h e) (by simp) fun c o h e => e5 c o h e
  have z5 : IsZip g5 z TI TO .ellipsis := e5 _ _ D.TOz.symm (e4 _ _ D.i2z.symm (e3 _ _ D.TOz.symm (e2 _ _ D.i1z.symm z1)))
  have q5 : IsPair g5 TI (.ref i1) (.ref i2) := e5 _ _ D.TITO (e4 _ _ D.TIi2 (e3 _ _ D.TITO (e2 _ _ D.TIi1 (e1 _ _ D.TIz hTI))))
  have p5 : IsIt b1 g5 i1 l1 (k + 1) := f2.at fun o e => e5 _ o D.TOi1.symm (e4 _ o D.i12 (e3 _ o D.TOi1.symm e))
  have r5 : IsIt b2 g5 i2 l2 (k + 1) := f4.at fun o e => e5 _ o D.TOi2.symm e
  show wpAny _ _ (Builtin.SmallTypes.ownedTupleHandOut (.ref z) (.ref g5.objs.size) >>= _) _ _ _
  refine wpAny_bind ?_
  unfold Builtin.SmallTypes.ownedTupleHandOut
  have z6 : IsZip (g5.push { cls := .type "tuple", data := .seq #[x, y] }) z TI TO .ellipsis := Heap.get?_push_of_some _ z5
  refine wpAny_bind (wpAny_setField_rec z6 (by simp) fun g7 z7 s7 => ?_)
  replace z7 : IsZip g7 z TI TO (rawInt g5.objs.size) := z7
  refine wpAny_setField_rec z7 (by simp) fun g8 z8 s8 => ?_
  replace z8 : IsZip g8 z TI TO (rawInt g5.objs.size) := z8
  have up : ∀ c o, c ≠ z → g5.get? c = some o → g8.get? c = some o := fun c o h e => s8.extBut _ _ h (s7.extBut _ _ h (Heap.get?_push_of_some _ e))
  have m8 : Mv [z, TI, TO, i1, i2] (g5.push { cls := .type "tuple", data := .seq #[x, y] }) g8 := .step z (.step z (.refl _) (by simp) fun c o h e => s7.extBut c o h e) (by simp) fun c o h e => s8.extBut c o h e
  refine wpAny_pure ⟨_, rfl, wpAny_pure ?_⟩
  have ne : ∀ {b : Addr} {o : Obj}, g5.get? b = some o → b ≠ g5.objs.size := fun e => Nat.ne_of_lt (Heap.lt_size e)
  refine hQ g5 g8 m5 m8 z8 (up _ _ D.TIz q5) (up _ _ D.TOz t5) (p5.at fun o e => up _ o D.i1z e) (r5.at fun o e => up _ o D.i2z e) fun b hb => ?_
  obtain ⟨_, _, o1, _⟩ := p5.obj
  obtain ⟨_, _, o2, _⟩ := r5.obj
  simp only [List.mem_cons, List.not_mem_nil, or_false] at hb
  rcases hb with rfl | rfl | rfl | rfl | rfl
  · exact ne z5
  · exact ne q5
  · exact ne t5
  · exact ne o1
  · exact ne o2
theorem zp_end {Q : Option Value → Shared → Prop} (hh : A.handled = none) (D : ZipApart z TI TO i1 i2 l1 l2) (st : Zp s.heap b1 b2 z TI TO i1 i2 l1 l2 k) (hl1 : IsSq b1 s.heap l1 xs) (hl2 : IsSq b2 s.heap l2 ys) (hend : xs[k]? = none ∨ ys[k]? = none)
    (hQ : ∀ h', Mv [z, TI, TO, i1, i2] s.heap h' → Q none { s with heap := h' }) : wpAny (model prog w) A (pyNext (.ref z)) Q E s := by
  obtain ⟨hz, hTI, ⟨a, b, hTO⟩, h1, h2⟩ := st
  have hT : s.TypeIs (.ref z) "zip" := ⟨_, hz, rfl⟩
  unfold pyNext
  refine wpAny_bind (wpAny_attempt (wpAny_callSpecial?_slot (name := Str.ofString "__next__") hT F.slot_zip_next (wpAny_call_entry F.slot_zip_next hT F.entry_zip_next ?_ (F.args_zip_next_1 _))))
  have fin : ∀ h' e, Mv [z, TI, TO, i1, i2] s.heap h' → (∃ o, h'.get? e = some o ∧ o.cls = .type "StopIteration") → wpAny (model prog w) A (isInstance (.ref e) (.type "StopIteration") >>= fun b => if b = true then pure none else throw (.ref e)) Q E { s with heap := h' } := by
    rintro h' e m ⟨o, ho, hc⟩
    exact wpAny_bind (wpAny_isInstance (T := "StopIteration") (b := true) ⟨o, ho, hc⟩ isSubtype_stop (wpAny_pure (hQ _ m)))
  show wpAny _ _ (field (.ref z) 2 >>= _) _ _ _
  refine wpAny_bind (wpAny_field hz rfl (x := .bool false) rfl ?_)
  show wpAny _ _ (field (.ref z) 3 >>= _) _ _ _
  refine wpAny_bind (wpAny_field hz rfl (x := .ref TI) rfl ?_)
  refine wpAny_bind (wpAny_seqItems hTI rfl ?_)
  show wpAny _ _ (Builtin.SmallTypes.ownedTupleIsFree (.ref z) >>= _) _ _ _
  refine wpAny_bind ?_
  unfold Builtin.SmallTypes.ownedTupleIsFree
  refine wpAny_bind (wpAny_field hz rfl (x := .none) rfl (wpAny_pure ?_))
  simp only [if_true]
  refine wpAny_bind (wpAny_rule ?_)
  refine wpAny_bind (wpAny_field hz rfl (x := .ref TO) rfl ?_)
  refine wpAny_bind (wpAny_setField_rec hz (by simp) fun g1 z1 s1 => ?_)
  replace z1 : IsZip g1 z TI TO .ellipsis := z1
  have e1 := s1.extBut
  refine wpAny_bind ?_
  simp only [List.zipIdx_cons, List.zipIdx_nil, List.forIn_cons, List.forIn_nil]
  refine wpAny_bind (wpAny_bind (wpAny_onRaise ?_))
  show wpAny _ _ (Builtin.SmallTypes.nextOf (.ref i1) >>= _) _ _ _
  cases hx : xs[k]? with
  | none =>
    refine wpAny_bind (next_end (b := b1) hh (h1.at fun o e => e1 _ o D.i1z e) (hl1.at fun o e => e1 _ o D.l1z e) hx fun g2 e s2 he => ?_)
    obtain ⟨oe, hoe, hce⟩ := he
    have z2 : IsZip g2 z TI TO .ellipsis := s2 _ _ D.i1z.symm z1
    have hez : e ≠ z := fun x => by subst x; rw [z2] at hoe; cases hoe; simp at hce
    refine wpAny_setField_rec z2 (by simp) fun g3 _ s3 => fin g3 e ?_ ⟨oe, s3.extBut _ _ hez hoe, hce⟩
    exact .step z (.step i1 (.step z (.refl _) (by simp) fun c o h e => e1 c o h e) (by simp) fun c o h e => s2 c o h e) (by simp) fun c o h e => s3.extBut c o h e
  | some x =>
    have hy : ys[k]? = none := by rcases hend with h | h; rw [hx] at h; cases h; exact h
    refine wpAny_bind (next_item (b := b1) (h1.at fun o e => e1 _ o D.i1z e) (hl1.at fun o e => e1 _ o D.l1z e) hx fun g2 f2 s2 => wpAny_pure ?_)
    have e2 := s2.extBut
    have t2 : IsPair g2 TO a b := e2 _ _ D.TOi1 (e1 _ _ D.TOz hTO)
    refine wpAny_bind (wpAny_seqItems t2 rfl ?_)
    refine wpAny_bind (wpAny_updateSeq_pair t2 fun g3 t3 s3 => ?_)
    have e3 := s3.extBut
    refine wpAny_bind (wpAny_letGo (wpAny_pure ?_))
    refine wpAny_bind (wpAny_bind (wpAny_onRaise ?_))
    show wpAny _ _ (Builtin.SmallTypes.nextOf (.ref i2) >>= _) _ _ _
    refine wpAny_bind (next_end (b := b2) hh (h2.at fun o e => e3 _ o D.TOi2.symm (e2 _ o D.i12.symm (e1 _ o D.i2z e))) (hl2.at fun o e => e3 _ o D.l2TO (e2 _ o D.l2i1 (e1 _ o D.l2z e))) hy fun g4 e s4 he => ?_)
    obtain ⟨oe, hoe, hce⟩ := he
    have z4 : IsZip g4 z TI TO .ellipsis := s4 _ _ D.i2z.symm (e3 _ _ D.TOz.symm (e2 _ _ D.i1z.symm z1))
    have hez : e ≠ z := fun x => by subst x; rw [z4] at hoe; cases hoe; simp at hce
    refine wpAny_setField_rec z4 (by simp) fun g5 _ s5 => fin g5 e ?_ ⟨oe, s5.extBut _ _ hez hoe, hce⟩
    exact .step z (.step i2 (.step TO (.step i1 (.step z (.refl _) (by simp) fun c o h e => e1 c o h e) (by simp) fun c o h e => e2 c o h e) (by simp) fun c o h e => e3 c o h e) (by simp) fun c o h e => s4 c o h e) (by simp) fun c o h e => s5.extBut c o h e
end
noncomputable def itObj : Bool → Addr → Obj
  | true, l => { cls := .type "list_iterator", data := .fields #[.ref l, .int 0 0] }
  | false, l => { cls := .type "tuple_iterator", data := .fields #[.ref l, .int 0 0] }
theorem itObj_is (b : Bool) {h : Heap} {it l : Addr} (e : h.get? it = some (itObj b l)) : IsIt b h it l 0 := by
  cases b <;> exact ⟨_, e, rfl, rfl⟩
theorem itObj_live (b : Bool) (l : Addr) : (itObj b l).isFreed = false := by cases b <;> rfl
noncomputable abbrev zpH (h : Heap) (b1 b2 : Bool) (l1 l2 : Addr) : Heap := ((((h.push (itObj b1 l1)).push (itObj b2 l2)).push { cls := .type "tuple", data := .seq #[.ref h.objs.size, .ref (h.push (itObj b1 l1)).objs.size] }).push { cls := .type "tuple", data := .seq #[.none, .none] }).push
  { cls := .type "zip", data := .fields #[.none, .bool false, .bool false, .ref ((h.push (itObj b1 l1)).push (itObj b2 l2)).objs.size, .ref (((h.push (itObj b1 l1)).push (itObj b2 l2)).push { cls := .type "tuple", data := .seq #[.ref h.objs.size, .ref (h.push (itObj b1 l1)).objs.size] }).objs.size] }
theorem zp_meets (b1 b2 : Bool) (l1 l2 : Addr) (xs ys : Array Value) :
    Meets (Builtin.«zip.__new__» ⟨[.type "zip", .ref l1, .ref l2], []⟩) (fun _ R s => IsSq b1 s.heap l1 xs ∧ IsSq b2 s.heap l2 ys ∧ R (.ok (.ret (.ref (s.heap.objs.size + 4)))) { s with heap := zpH s.heap b1 b2 l1 l2 }) :=
  .of_wp fun prog w A R s h => by
    obtain ⟨hp, g, d, tk, os⟩ := s; obtain ⟨hl1, hl2, h⟩ := h
    have hsub := sub_zip
    have hl2' : IsSq b2 (hp.push (itObj b1 l1)) l2 ys := hl2.at fun o e => Heap.get?_push_of_some _ e
    have sz : ((((hp.push (itObj b1 l1)).push (itObj b2 l2)).push { cls := .type "tuple", data := .seq #[.ref hp.objs.size, .ref (hp.push (itObj b1 l1)).objs.size] }).push { cls := .type "tuple", data := .seq #[.none, .none] }).objs.size = hp.objs.size + 4 := by simp only [Heap.size_push]
    rw [show (Shared.heap ⟨hp, g, d, tk, os⟩).objs.size + 4 = _ from sz.symm] at h
    cases b1 with
    | true =>
      have k1 : Heap.IsList (Shared.heap ⟨hp, g, d, tk, os⟩) l1 xs := hl1
      cases b2 with
      | true =>
        have k2 : Heap.IsList (Shared.heap ⟨hp.push { cls := .type "list_iterator", data := .fields #[.ref l1, .int 0 0] }, g, d, tk, os⟩) l2 ys := hl2'
        wp_walk using wpAny_pyIter_list k1, wpAny_pyIter_list k2
        exact ⟨_, rfl, h⟩
      | false =>
        have k2 : Heap.IsTuple (Shared.heap ⟨hp.push { cls := .type "list_iterator", data := .fields #[.ref l1, .int 0 0] }, g, d, tk, os⟩) l2 ys := hl2'
        wp_walk using wpAny_pyIter_list k1, wpAny_pyIter_tuple k2
        exact ⟨_, rfl, h⟩
    | false =>
      have k1 : Heap.IsTuple (Shared.heap ⟨hp, g, d, tk, os⟩) l1 xs := hl1
      cases b2 with
      | true =>
        have k2 : Heap.IsList (Shared.heap ⟨hp.push { cls := .type "tuple_iterator", data := .fields #[.ref l1, .int 0 0] }, g, d, tk, os⟩) l2 ys := hl2'
        wp_walk using wpAny_pyIter_tuple k1, wpAny_pyIter_list k2
        exact ⟨_, rfl, h⟩
      | false =>
        have k2 : Heap.IsTuple (Shared.heap ⟨hp.push { cls := .type "tuple_iterator", data := .fields #[.ref l1, .int 0 0] }, g, d, tk, os⟩) l2 ys := hl2'
        wp_walk using wpAny_pyIter_tuple k1, wpAny_pyIter_tuple k2
        exact ⟨_, rfl, h⟩
theorem zp_call {prog : Program} {w : World} {A : Around} {E : Value → Shared → Prop} {s : Shared} {b1 b2 : Bool} {l1 l2 : Addr} {xs ys : Array Value} {Q : Value → Shared → Prop} (hl1 : IsSq b1 s.heap l1 xs) (hl2 : IsSq b2 s.heap l2 ys)
    (h : ∀ h', Zp h' b1 b2 (s.heap.objs.size + 4) (s.heap.objs.size + 2) (s.heap.objs.size + 3) s.heap.objs.size (s.heap.objs.size + 1) l1 l2 0 → (∀ c o, s.heap.get? c = some o → h'.get? c = some o) → Q (.ref (s.heap.objs.size + 4)) { s with heap := h' }) :
    wpAny (model prog w) A (call (.type "zip") [.ref l1, .ref l2]) Q E s := by
  refine callType_new F.called_zip (by decide) (F.typeCall_zip_2 _ _) (F.newCall_zip_2 _ _) (fun obj => F.args_object_init_3 obj _ _) F.entry_zip_new (zp_meets b1 b2 l1 l2 xs ys) ⟨hl1, hl2, ?_⟩
  have n1 : (s.heap.push (itObj b1 l1)).objs.size = s.heap.objs.size + 1 := Heap.size_push ..
  have n2 : ((s.heap.push (itObj b1 l1)).push (itObj b2 l2)).objs.size = s.heap.objs.size + 2 := by rw [Heap.size_push, n1]
  have n3 : (((s.heap.push (itObj b1 l1)).push (itObj b2 l2)).push { cls := .type "tuple", data := .seq #[.ref s.heap.objs.size, .ref (s.heap.push (itObj b1 l1)).objs.size] }).objs.size = s.heap.objs.size + 3 := by rw [Heap.size_push, n2]
  have n4 : ((((s.heap.push (itObj b1 l1)).push (itObj b2 l2)).push { cls := .type "tuple", data := .seq #[.ref s.heap.objs.size, .ref (s.heap.push (itObj b1 l1)).objs.size] }).push { cls := .type "tuple", data := .seq #[.none, .none] }).objs.size = s.heap.objs.size + 4 := by rw [Heap.size_push, n3]
  have up : ∀ {c : Addr} {o : Obj} {h : Heap} (u : Obj), h.get? c = some o → (h.push u).get? c = some o := fun u e => Heap.get?_push_of_some u e
  have a1 : (zpH s.heap b1 b2 l1 l2).get? s.heap.objs.size = some (itObj b1 l1) := up _ (up _ (up _ (up _ (Heap.get?_push_size _ (itObj_live ..)))))
  have a2 : (zpH s.heap b1 b2 l1 l2).get? (s.heap.objs.size + 1) = some (itObj b2 l2) := by rw [← n1]; exact up _ (up _ (up _ (Heap.get?_push_size _ (itObj_live ..))))
  have a3' : ∀ q r, q = ((s.heap.push (itObj b1 l1)).push (itObj b2 l2)).objs.size → r = (s.heap.push (itObj b1 l1)).objs.size → IsPair (zpH s.heap b1 b2 l1 l2) q (.ref s.heap.objs.size) (.ref r) := fun q r hq hr => by
    subst hq hr
    exact up _ (up _ (Heap.get?_push_size _ rfl))
  have a3 := a3' _ _ n2.symm n1.symm
  have a4 : IsPair (zpH s.heap b1 b2 l1 l2) (s.heap.objs.size + 3) .none .none := by rw [← n3]; exact up _ (Heap.get?_push_size _ rfl)
  have a5 : IsZip (zpH s.heap b1 b2 l1 l2) (s.heap.objs.size + 4) (s.heap.objs.size + 2) (s.heap.objs.size + 3) .none := by rw [← n4, ← n2, ← n3]; exact Heap.get?_push_size _ rfl
  show _ ∧ _
  exact ⟨⟨_, a5, rfl⟩, h _ ⟨a5, a3, ⟨_, _, a4⟩, itObj_is b1 a1, itObj_is b2 a2⟩ fun c o e => up _ (up _ (up _ (up _ (up _ e))))⟩
noncomputable def SqB (K : PySem.W.Frag) : Bool → Hp → Addr → List V → Prop
  | true, H, a, xs => SqL K H a xs
  | false, H, a, xs => SqT K H a xs
theorem SqB.at {X : Cx} {pins : List (Addr × Obj)} {σ : L2.St} {H : Hp} {s : Shared} {b : Bool} {a : Addr} {xs : List V} (I : Inv X pins σ H s) (h : SqB X.K b H a xs) : ∃ its : List Value, Vals xs its ∧ IsSq b s.heap a its.toArray := by
  cases b with
  | true => obtain ⟨its, r, p, _⟩ := I.list h; exact ⟨its, r, p.isList⟩
  | false => obtain ⟨its, r, p, _⟩ := I.tuple h; exact ⟨its, r, p⟩
theorem SqB.inj {X : Cx} {pins : List (Addr × Obj)} {σ : L2.St} {H : Hp} {s : Shared} {b : Bool} {a : Addr} {xs ys : List V} (I : Inv X pins σ H s) (h : SqB X.K b H a xs) (h' : SqB X.K b H a ys) : xs = ys := by
  cases b with
  | true => exact I.list_inj h h'
  | false => exact I.tuple_inj h h'
theorem IsSq.lt {b : Bool} {h : Heap} {l : Addr} {xs : Array Value} (x : IsSq b h l xs) : l < h.objs.size := by
  cases b <;> (obtain ⟨o, ho, _⟩ := x; exact Heap.lt_size ho)
noncomputable def ItZ (K : PySem.W.Frag) (b1 b2 : Bool) (l1 l2 : Addr) : It :=
  ⟨fun i H => ∃ xs ys x y, SqB K b1 H l1 xs ∧ SqB K b2 H l2 ys ∧ xs[i]? = some x ∧ ys[i]? = some y,
    fun i H v H' => ∃ T x y, H T = none ∧ v = .ref T ∧ H' = upd H T (.tup [x, y]) ∧ ∀ xs ys, SqB K b1 H l1 xs → SqB K b2 H l2 ys → xs[i]? = some x ∧ ys[i]? = some y,
    fun i H => ∃ xs ys, SqB K b1 H l1 xs ∧ SqB K b2 H l2 ys ∧ (xs.length ≤ i ∨ ys.length ≤ i)⟩
theorem turn_zip {P : Program} {w : World} {K : PySem.W.Frag} {elts : List Expr} {x1} {tpos : Pos} {b1 b2 : Bool} {z TI TO i1 i2 l1 l2 : Addr} (D : ZipApart z TI TO i1 i2 l1 l2) :
    Turn P w K (.Tuple elts x1 tpos) (ItZ K b1 b2 l1 l2) [z, TI, TO, i1, i2] z (fun i h => Zp h b1 b2 z TI TO i1 i2 l1 l2 i) where
  mem := by simp
  obj := fun i h st b hb => by
    obtain ⟨hz, hi, ⟨_, _, ho⟩, hf, hg⟩ := st
    obtain ⟨o1, _, e1, d1⟩ := hf.obj
    obtain ⟨o2, _, e2, d2⟩ := hg.obj
    simp only [List.mem_cons, List.not_mem_nil, or_false] at hb
    rcases hb with rfl | rfl | rfl | rfl | rfl
    · exact ⟨_, hz, fun v z => by cases z⟩
    · exact ⟨_, hi, fun v z => by cases z⟩
    · exact ⟨_, ho, fun v z => by cases z⟩
    · exact ⟨_, e1, fun v z => by rw [d1] at z; cases z⟩
    · exact ⟨_, e2, fun v z => by rw [d2] at z; cases z⟩
  keep := fun i h h' st k => by
    obtain ⟨hz, hi, ⟨a, b, ho⟩, hf, hg⟩ := st
    exact ⟨k _ (by simp) _ hz, k _ (by simp) _ hi, ⟨a, b, k _ (by simp) _ ho⟩, hf.at fun o e => k _ (by simp) o e, hg.at fun o e => k _ (by simp) o e⟩
  item := by
    intro X hP hw hK hc i pins s σ H E I hf st hg
    subst hP hw hK
    obtain ⟨xs, ys, x, y, q1, q2, hx, hy⟩ := hg
    obtain ⟨us, r1, p1⟩ := q1.at I
    obtain ⟨vs, r2, p2⟩ := q2.at I
    obtain ⟨u, hu, ru⟩ := r1.get hx
    obtain ⟨v, hv, rv⟩ := r2.get hy
    refine zp_next D st p1 p2 (x := u) (y := v) (by simpa using hu) (by simpa using hv) fun h5 h8 m5 m8 z8 q8 t8 f8 g8 ne => ?_
    have I5 := Mv.inv I hf m5
    have fr : H h5.objs.size = none := I5.hok.fresh (Nat.le_refl _)
    have I6 : Inv X pins σ (upd H h5.objs.size (.tup [x, y])) { s with heap := h5.push { cls := .type "tuple", data := .seq #[u, v] } } :=
      I5.laid (t' := s.toks) (fun b u e => Heap.get?_push_of_some _ e) (Nat.le_refl _) ⟨small_le (show 2 ≤ 1000 by decide), [u, v], .cons ru (.cons rv .nil), ⟨_, Heap.get?_push_size _ rfl, rfl, _, rfl⟩⟩
    have hf' : ∀ b ∈ [z, TI, TO, i1, i2], FpOk X pins (upd H h5.objs.size (.tup [x, y])) b := fun b hb => by
      obtain ⟨f0, fr⟩ := hf b hb
      exact ⟨by rw [upd_ne (ne b hb)]; exact f0, fr⟩
    have I8 := Mv.inv I6 hf' m8
    refine ⟨_, rfl, wpAny_letOwnedTupleGo_zip z8 fun h9 z9 s9 => ?_⟩
    have e9 := s9.extBut
    have I9 := Mv.inv I8 hf' (.step z (.refl _) (by simp) fun c o h e => e9 c o h e)
    exact ⟨.ref h5.objs.size, _, I9, rfl, ⟨_, x, y, fr, rfl, rfl, fun xs' ys' a b => by rw [SqB.inj I a q1, SqB.inj I b q2]; exact ⟨hx, hy⟩⟩,
      ⟨z9, e9 _ _ D.TIz q8, ⟨_, _, e9 _ _ D.TOz t8⟩, f8.at fun o e => e9 _ o D.i1z e, g8.at fun o e => e9 _ o D.i2z e⟩, fun b hb => (hf' b hb).1⟩
  done := by
    intro X hP hw hK hc i pins s σ H E I hf st hg
    subst hP hw hK
    obtain ⟨xs, ys, q1, q2, hl⟩ := hg
    obtain ⟨us, r1, p1⟩ := q1.at I
    obtain ⟨vs, r2, p2⟩ := q2.at I
    have l1 := r1.length
    have l2 := r2.length
    refine zp_end (I.ok.hd hc) D st p1 p2 ?_ fun h' m => ⟨rfl, Mv.inv I hf m⟩
    rcases hl with h | h
    · exact .inl (by simp; omega)
    · exact .inr (by simp; omega)
  self := fun _ _ _ _ _ st h => wpAny_pyIter_zip st.z h
theorem apart (n l m : Nat) (k1 : l < n) (k2 : m < n) : ZipApart (n + 4) (n + 2) (n + 3) n (n + 1) l m := by
  have f : ∀ {a b : Nat}, a < b → a ≠ b := fun h => Nat.ne_of_lt h
  have g : ∀ {a b : Nat}, b < a → a ≠ b := fun h => Nat.ne_of_gt h
  exact ⟨f (by omega), f (by omega), f (by omega), f (by omega), f (by omega), g (by omega), g (by omega), g (by omega), g (by omega), f (by omega), f (by omega), f (by omega), f (by omega), f (by omega), f (by omega), f (by omega), f (by omega), f (by omega)⟩
section
variable {X : Cx}
noncomputable def iZipV (K : PySem.W.Frag) (ta : TA) : TI := fun σ H R => ta σ H fun vs H1 => ∃ b1 b2 l1 l2 xs ys, vs = [.ref l1, .ref l2] ∧ SqB K b1 H1 l1 xs ∧ SqB K b2 H1 l2 ys ∧ R (ItZ K b1 b2 l1 l2) H1
theorem pi_zip {a b : Expr} {ta : TA} {p pos tpos : Pos} {elts : List Expr} {x1} (hg : Gl X "zip") (hm : X.mg "zip" = none) (ha : PA X [a, b] ta) (hs : starEach [a, b] X.env = [(false, eval a X.env), (false, eval b X.env)]) (hs2 : starEach [b] X.env = [(false, eval b X.env)]) :
    PI X (.Tuple elts x1 tpos) (.Call (.Name "zip" p) [a, b] [] pos) (iZipV X.K ta) := by
  intro pins s σ H R I h
  refine Call_ (ld_blt I hg hm bt_zip (PyProof.Rows.callWith_type1 (thn (ha pos pins s σ H _ I h) fun us s1 qZ => ?_) (by rw [hs, hs2]) (by rw [hs2]; rfl)))
  obtain ⟨vs, H1, I1, r1, q1⟩ := qZ
  obtain ⟨b1, b2, l1, l2, xs, ys, e, s1', s2', q⟩ := q1
  subst e
  cases r1 with
  | cons ra rr =>
    cases rr with
    | cons rb rr =>
      cases rr
      cases ra
      cases rb
      obtain ⟨us, r1, p1⟩ := s1'.at I1
      obtain ⟨vs, r2, p2⟩ := s2'.at I1
      have k1 := p1.lt
      have k2 := p2.lt
      refine zp_call p1 p2 fun h' st keep => ?_
      refine wpAny_pyIter_zip st.z ?_
      have I2 : Inv X pins σ H1 { s1 with heap := h' } := I1.kept (t' := s1.toks) keep
      have D : ZipApart (s1.heap.objs.size + 4) (s1.heap.objs.size + 2) (s1.heap.objs.size + 3) s1.heap.objs.size (s1.heap.objs.size + 1) l1 l2 := apart _ _ _ k1 k2
      refine ⟨s1.heap.objs.size + 4, [s1.heap.objs.size + 4, s1.heap.objs.size + 2, s1.heap.objs.size + 3, s1.heap.objs.size, s1.heap.objs.size + 1], _, _, H1, rfl, I2, turn_zip D, st, fun b hb => ?_, q⟩
      have le : s1.heap.objs.size ≤ b := by
        simp only [List.mem_cons, List.not_mem_nil, or_false] at hb
        rcases hb with rfl | rfl | rfl | rfl | rfl
        · exact Nat.le_add_right _ 4
        · exact Nat.le_add_right _ 2
        · exact Nat.le_add_right _ 3
        · exact Nat.le_refl _
        · exact Nat.le_add_right _ 1
      exact I1.fpOk le (I1.hok.fresh le)
noncomputable def mkD : Bool → List D → D
  | true, xs => .lst xs
  | false, xs => .tup xs
theorem rep_sq {K : PySem.W.Frag} {S : Addr → Prop} {H : Hp} {b : Bool} {xs : List D} {v : V} (h : Rep K S H (mkD b xs) v) : ∃ a vs, v = .ref a ∧ SqB K b H a vs ∧ Reps K S H xs vs := by
  cases b with
  | true => obtain ⟨a, vs, e, l, r⟩ := rep_lst h; exact ⟨a, vs, e, l.sq, r⟩
  | false => obtain ⟨a, vs, e, l, r⟩ := rep_tup h; exact ⟨a, vs, e, l, r⟩
noncomputable def zipD : List D → List D → List D
  | x :: xs, y :: ys => .tup [x, y] :: zipD xs ys
  | _, _ => []
theorem zipD_len : ∀ xs ys : List D, (zipD xs ys).length = min xs.length ys.length
  | [], _ => by simp [zipD]
  | _ :: _, [] => by simp [zipD]
  | x :: xs, y :: ys => by simp only [zipD, List.length_cons, zipD_len xs ys]; omega
theorem zipD_get : ∀ {xs ys : List D} {i : Nat} {x y : D}, xs[i]? = some x → ys[i]? = some y → (zipD xs ys)[i]? = some (.tup [x, y])
  | [], _, i, _, _, h, _ => by simp at h
  | _ :: _, [], i, _, _, _, h => by simp at h
  | x :: xs, y :: ys, 0, _, _, h, h' => by simp at h h'; subst h h'; rfl
  | x :: xs, y :: ys, i + 1, _, _, h, h' => by
    simp only [List.getElem?_cons_succ] at h h'
    simp only [zipD, List.getElem?_cons_succ]
    exact zipD_get h h'
theorem wlk_zip (K : PySem.W.Frag) (b1 b2 : Bool) (l1 l2 : Addr) (xs ys : List D) : WlkL K (ItZ K b1 b2 l1 l2) [(mkD b1 xs, .ref l1), (mkD b2 ys, .ref l2)] (zipD xs ys) := fun S H r => by
  obtain ⟨a, us, e, q1, r1⟩ := rep_sq (r (mkD b1 xs, .ref l1) (by simp))
  cases e
  obtain ⟨a, vs, e, q2, r2⟩ := rep_sq (r (mkD b2 ys, .ref l2) (by simp))
  cases e
  have n1 := r1.len
  have n2 := r2.len
  rw [zipD_len]
  refine ⟨⟨us, vs, q1, q2, by omega⟩, fun i hi => ?_⟩
  have i1 : i < us.length := by omega
  have i2 : i < vs.length := by omega
  refine ⟨⟨us, vs, us[i], vs[i], q1, q2, by simp [i1], by simp [i2]⟩, fun x H' yl => ?_⟩
  obtain ⟨T, x, y, fr, rfl, rfl, k⟩ := yl
  obtain ⟨hx, hy⟩ := k us vs q1 q2
  obtain ⟨c, ec, rc⟩ := r1.getV hx
  obtain ⟨d, ed, rd⟩ := r2.getV hy
  exact ⟨same_new fr, .tup [c, d], zipD_get ec ed, Rep.newTup fr (Reps.cons rc (Reps.cons rd Reps.nil))⟩
noncomputable abbrev iZip (ta : A3) : A3 := fun ρ Φ => ta ρ fun ds => match ds with
  | [.lst xs, .lst ys] => Φ (zipD xs ys)
  | [.lst xs, .tup ys] => Φ (zipD xs ys)
  | [.tup xs, .lst ys] => Φ (zipD xs ys)
  | [.tup xs, .tup ys] => Φ (zipD xs ys)
  | _ => False
theorem pid_zip {a b : Expr} {ta : A3} {p pos tpos : Pos} {elts : List Expr} {x1} (hg : Gl X "zip") (hm : X.mg "zip" = none) (ha : PAD X [a, b] ta) (hs : starEach [a, b] X.env = [(false, eval a X.env), (false, eval b X.env)] := by rfl) (hs2 : starEach [b] X.env = [(false, eval b X.env)] := by rfl) :
    PID X (.Tuple elts x1 tpos) (.Call (.Name "zip" p) [a, b] [] pos) (iZip ta) := by
  obtain ⟨t2, h, w⟩ := ha
  refine ⟨_, pi_zip hg hm h hs hs2, fun B S H σ ρ Φ R er q k => w B S H σ ρ _ _ er q fun ds vs H1 pq s r => ?_⟩
  have go : ∀ (b1 b2 : Bool) (xs ys : List D), Φ (zipD xs ys) → Reps X.K S H1 [mkD b1 xs, mkD b2 ys] vs → ∃ b1 b2 l1 l2 xs ys, vs = [.ref l1, .ref l2] ∧ SqB X.K b1 H1 l1 xs ∧ SqB X.K b2 H1 l2 ys ∧ R (ItZ X.K b1 b2 l1 l2) H1 := by
    intro b1 b2 xs ys hΦ r
    simp only [Reps] at r
    obtain ⟨v1, _, rfl, r1, v2, _, rfl, r2, rfl⟩ := r
    obtain ⟨l1, us, rfl, q1, _⟩ := rep_sq r1
    obtain ⟨l2, ws, rfl, q2, _⟩ := rep_sq r2
    refine ⟨b1, b2, l1, l2, us, ws, rfl, q1, q2, k _ _ _ H1 hΦ s (fun p hp => ?_) (wlk_zip X.K b1 b2 l1 l2 xs ys)⟩
    simp only [List.mem_cons, List.not_mem_nil, or_false] at hp
    rcases hp with rfl | rfl
    · exact r1
    · exact r2
  match ds, pq with
  | [.lst xs, .lst ys], pq => exact go true true xs ys pq r
  | [.lst xs, .tup ys], pq => exact go true false xs ys pq r
  | [.tup xs, .lst ys], pq => exact go false true xs ys pq r
  | [.tup xs, .tup ys], pq => exact go false false xs ys pq r
end
end D3

set_option Elab.async false
set_option linter.all false
set_option maxRecDepth 100000
set_option maxHeartbeats 4000000
namespace D3
open PySem PySem.Spec PyProof.Rows L2
section
variable {X : Cx}
end
end D3

set_option Elab.async false
set_option linter.all false
set_option maxRecDepth 100000
set_option maxHeartbeats 4000000
namespace D3
open PySem PySem.Spec PyProof.Rows L2
section
variable {prog : Program} {w : World} {A : Around} {E : Value → Shared → Prop} {s : Shared}
end
section
variable {X : Cx} {pos : Pos} {es : List Expr}
end
end D3

set_option Elab.async false
set_option linter.all false
set_option maxRecDepth 100000
set_option maxHeartbeats 4000000
namespace D3
open PySem PySem.Spec PyProof.Rows L2
section
variable {prog : Program} {w : World} {A : Around} {E : Value → Shared → Prop} {s : Shared}
end
section
variable {X : Cx}
end
end D3

set_option Elab.async false
set_option linter.all false
set_option maxRecDepth 100000
set_option maxHeartbeats 4000000
namespace D3
open PySem PySem.Spec PyProof.Rows L2

section
variable {prog : Program} {w : World} {A : Around} {E : Value → Shared → Prop} {h : Heap} {g : Array GenState} {d : Drawn} {t : Nat} {os : OsState} {a C : Addr} {o : Obj} {K : PySem.W.Frag}
structure XCls (K : PySem.W.Frag) (C : Addr) : Prop where
  cls : (PySem.W.clsIn K C).isSome = true
  ga : PySem.W.findIn K (.ref C) "__getattribute__" = some (some (.builtin "BaseException.__getattribute__"))
  gn : PySem.W.findIn K (.ref C) "__getattr__" = some none
  cl : PySem.W.findIn K (.ref C) "__class__" = some (some (.builtin "object.__class__"))
  mo : PySem.W.mroIn K C (.type "object") = some true
  mb : PySem.W.mroIn K C (.type "BaseException") = some true

theorem exc_get {R : Result → Shared → Prop} {tp : Value} (X : K.In h) (c : XCls K C) (hx : h.get? a = some o) (hc : o.cls = .ref C) (hq : R (.ok (.ret (.ref C))) ⟨h, g, d, t, os⟩) :
    codeAny (model prog w) A (.call (.builtin "getset_descriptor.__get__") ⟨[.builtin "object.__class__", .ref a, tp], []⟩) R ⟨h, g, d, t, os⟩ := by
  have hT5 : (⟨h, g, d, t, os⟩ : Shared).TypeIs (.builtin "object.__class__") "getset_descriptor" := F.typeOf_object_class
  have L1 := PySem.W.looks_mroIn (M := model prog w) X c.mo
  have ow := F.owner_object_class
  refine codeAny_call_builtin F.slot_gs_get.plain F.entry_gs_get (F.slot_gs_get.check _ _ _ _ _ _ _ _ hT5 (F.args_gs_get _ _ _) ?_)
  repeat (any_goals (first | assumption | (with_reducible refine wpAny_loadPart_at hx ?_; rw [hc]) | (rw [ow]; with_reducible refine L1.at ?_) | wp_step))
  refine ⟨Code.quiet_builtin _ (by decide +kernel), codeAny_builtin F.entry_object_class ?_⟩
  repeat (any_goals (first | assumption | (with_reducible refine wpAny_loadPart_at hx ?_; rw [hc]) | wp_step))

theorem exc_entry {tk : Tok} {Q : Fin → Shared → Prop} (X : K.In h) (c : XCls K C) (hx : h.get? a = some o) (hc : o.cls = .ref C)
    (hq : Q (.done (.ret (.ref C))) ⟨h, g, d, t, os⟩) :
    wpAny (model prog w) A (Builtin.«object.__getattribute__» ⟨[.ref a, .str "__class__" tk], []⟩) Q E ⟨h, g, d, t, os⟩ := by
  have hT5 : (⟨h, g, d, t, os⟩ : Shared).TypeIs (.builtin "object.__class__") "getset_descriptor" := F.typeOf_object_class
  have f5 := F.typeOf_object_class
  have f6 := F.slot_gs_get.lookup
  have f7 := F.slot_gs_set.lookup
  have L := PySem.W.looks_findIn (M := model prog w) X c.cl
  repeat (any_goals (first | assumption | (with_reducible refine wpAny_loadPart_at hx ?_; rw [hc]) | with_reducible refine L.at ?_ | wp_step))
  refine exc_get X c hx hc ?_
  repeat (any_goals (first | assumption | wp_step))

theorem exc_check {M : Model} {nameV : Value} {Q : Unit → Shared → Prop} (X : K.In h) (c : XCls K C)
    (hx : h.get? a = some o) (hc : o.cls = .ref C) (hq : Q () ⟨h, g, d, t, os⟩) : wpAny M A (checkBuiltinCall "BaseException.__getattribute__" ⟨[.ref a, nameV], []⟩) Q E ⟨h, g, d, t, os⟩ := by
  have hk : builtinKind "BaseException.__getattribute__" = some .slot := by decide +kernel
  have hsplit : splitId "BaseException.__getattribute__" = some ("BaseException", "__getattribute__") := by decide +kernel
  have L := PySem.W.looks_mroIn (M := M) X c.mb
  have ha := F.args_bexc_ga (.ref a) nameV
  simp only [checkBuiltinCall, hk, hsplit]
  refine wpAny_bind ?_
  · unfold isInstance
    repeat (first | (with_reducible refine wpAny_loadPart_at hx ?_; rw [hc]) | with_reducible refine L.at ?_ | wp_step)
    exact hq

theorem exc_call {tk : Tok} {R : Result → Shared → Prop} (X : K.In h) (c : XCls K C) (hx : h.get? a = some o) (hc : o.cls = .ref C) (hq : R (.ok (.ret (.ref C))) ⟨h, g, d, t, os⟩) :
    codeAny (model prog w) A (.call (.builtin "BaseException.__getattribute__") ⟨[.ref a, .str "__class__" tk], []⟩) R ⟨h, g, d, t, os⟩ :=
  codeAny_call_builtin F.excAttr_ValueError.ga.plain F.entry_bexc_ga (exc_check X c hx hc (exc_entry X c hx hc hq))

theorem exc_by {tk : Tok} {Q : Value → Shared → Prop} (X : K.In h) (c : XCls K C) (hx : h.get? a = some o) (hc : o.cls = .ref C) (hq : Q (.ref C) ⟨h, g, d, t, os⟩) :
    wpAny (model prog w) A (getAttrBy (.ref a) (.str "__class__" tk) false) Q E ⟨h, g, d, t, os⟩ := by
  have f3 := F.excAttr_ValueError.ga.bind (.ref a)
  have hx2 : (Value.builtin "BaseException.__getattribute__" == Value.builtin "object.__getattribute__") = false := by decide +kernel
  have hx1 : (onTheHeap (Value.ref C) && Value.builtin "BaseException.__getattribute__" == Value.builtin "object.__getattribute__") = false := by rw [hx2]; rfl
  have L1 := PySem.W.looks_findIn (M := model prog w) X c.ga
  have L2 := PySem.W.looks_findIn (M := model prog w) X c.gn
  repeat (any_goals (first | assumption | (with_reducible refine wpAny_loadPart_at hx ?_; rw [hc]) | with_reducible refine L1.at ?_ | with_reducible refine L2.at ?_ | wp_step))
  refine exc_call X c hx hc ?_
  repeat (any_goals (first | assumption | wp_step))

theorem exc_attr {Q : Option Value → Shared → Prop} (X : K.In h) (c : XCls K C) (hx : h.get? a = some o) (hc : o.cls = .ref C) (hq : Q (some (.ref C)) ⟨h, g, d, t + 1, os⟩) :
    wpAny (model prog w) A (getAttr? (.ref a) "__class__") Q E ⟨h, g, d, t, os⟩ := by
  unfold getAttr? getAttrBy?
  repeat (any_goals (first | assumption | with_reducible apply exc_by X c hx hc | wp_step))

theorem kitx_exc (c : XCls K C) : PySem.W.KitX K (.ref a) (.ref C) (fun h => ∃ o, h.get? a = some o ∧ o.cls = .ref C) where
  ty := fun _ _ _ ⟨o, hx, hc⟩ => by rw [← hc]; exact (PySem.W.Looks.ld hx).andThen .now
  it := fun _ _ X _ => by
    obtain ⟨cd, hcD⟩ := Option.isSome_iff_exists.mp c.cls
    unfold PySem.W.clsIn at hcD
    split at hcD
    · rename_i c' d' cd' sl' ho
      intro A' Q' E' s' k q
      unfold isType loadHead
      exact wpAny_bind (wpAny_loadPart (k _ _ (X _ _ ho)) (wpAny_pure q))
    · cases hcD
  ne := fun h tp dd its n sl X htp => by
    obtain ⟨cd, hcD⟩ := Option.isSome_iff_exists.mp c.cls
    refine Bool.eq_false_iff.mpr fun q => ?_
    have e : C = tp := Value.ref.inj (beq_iff_eq.mp q)
    subst e
    unfold PySem.W.clsIn at hcD
    split at hcD
    · rename_i c' d' cd' sl' ho
      have z := (X _ _ ho).symm.trans htp
      cases z
    · cases hcD
  ca := fun {_ _ _ _ _ s} X ⟨o, hx, hc⟩ k => by
    obtain ⟨h, g, d, t, os⟩ := s
    exact exc_attr X c hx hc k
end
end D3
namespace D3
open PySem PySem.Spec PyProof.Rows L2

theorem objOk_at {P : Program} {w : World} {H : Hp} {h : Heap} {a : Addr} {o : HO} (x : ObjOk P w H h a o) : ∃ u, h.get? a = some u := by
  induction o with
  | lst xs => obtain ⟨z, its, n, r, e⟩ := x; exact ⟨_, e⟩
  | tup xs => obtain ⟨z, its, r, ob, e, c⟩ := x; exact ⟨_, e⟩
  | dK kvs => obtain ⟨z, y, vs, r, ob, es, ep, e, c⟩ := x; exact ⟨_, e⟩
  | dT kvs => obtain ⟨z, y, xs, r, ob, es, ep, e, c⟩ := x; exact ⟨_, e⟩
  | set S n => obtain ⟨ob, es, ep, t, e, c⟩ := x; exact ⟨_, e⟩
  | ins C dx fs => obtain ⟨d, z, ne, e, r⟩ := x; exact ⟨_, e⟩
  | own y => obtain ⟨ob, e⟩ := x; exact ⟨_, e⟩
  | xd fs => obtain ⟨mA, ⟨od, es, ep, e, c⟩, r⟩ := x; exact ⟨_, e⟩
  | rng lo hi => obtain ⟨t, u, v, e⟩ := x; exact ⟨_, e⟩
  | frz ob u ih => obtain ⟨e, q⟩ := x; exact ⟨_, e⟩
  | tbl ps => exact ⟨_, x⟩
  | met f y => exact ⟨_, x⟩
  | ext φ => obtain ⟨p, ⟨o, e⟩, st⟩ := x; exact ⟨_, e⟩

structure FlyB (P : Program) (w : World) (l : List Env) (H H' : Hp) (h h' B : Heap) (e C : Addr) (a0 : Value) : Prop where
  fl : Heap.FlyingW B l e (.ref C) a0 h'
  hok : HOk P w H' B
  keep : ∀ b o, h.get? b = some o → H b = none → b ∉ frs l → B.get? b = some o
  slot : ∀ b o, h.get? b = some o → H b = none → b ∈ frs l → ∃ sl, h'.get? b = some { o with slots := sl }
  free : ∀ b o, h.get? b = some o → H b = none → H' b = none
  there : ∀ b o, h.get? b = some o → b ∉ frs l → ∃ o', B.get? b = some o'
  tups : ∀ b xs, H b = some (.tup xs) → H' b = some (.tup xs)
  frzs : ∀ b o u, H b = some (.frz o u) → H' b = some (.frz o u)
  tbls : ∀ b ps, H b = some (.tbl ps) → ∃ more, H' b = some (.tbl (ps ++ more))
  he : H' e = none
section
variable {P : Program} {w : World} {l : List Env} {H H' : Hp} {h h' h'' B : Heap} {e C : Addr} {a0 : Value}
theorem FlyB.un (f : FlyB P w l H H' h h' B e C a0) : Un (frs l) [] H H' h h' where
  keep := fun b o q n hb _ => f.fl.1 _ _ (f.keep b o q n hb)
  slot := fun b o q n hb _ => f.slot b o q n hb
  free := fun b o q n _ => f.free b o q n
  there := fun b o q _ => by
    by_cases hb : b ∈ frs l
    · obtain ⟨_, o', ho, _⟩ := f.fl.2.2.1.mem hb
      exact ⟨o', ho⟩
    · obtain ⟨o', ho⟩ := f.there b o q hb
      exact ⟨o', f.fl.1 _ _ ho⟩
  tups := f.tups
  frzs := f.frzs
  tbls := f.tbls
theorem FlyB.hk (f : FlyB P w l H H' h h' B e C a0) : HOk P w H' h' := f.hok.kept f.fl.1
theorem FlyB.go (f : FlyB P w l H H' h h' B e C a0) (x : Heap.FlyingW B l e (.ref C) a0 h'') (u : h'.UpToSlots h'') : FlyB P w l H H' h h'' B e C a0 where
  fl := x
  hok := f.hok
  keep := f.keep
  slot := fun b o q n hb => by
    obtain ⟨sl, e1⟩ := f.slot b o q n hb
    obtain ⟨_, o', ho, hd⟩ := f.fl.2.2.1.mem hb
    rw [e1] at ho; cases ho
    obtain ⟨sl', e2⟩ := u b _ e1 hd
    exact ⟨sl', e2⟩
  free := f.free
  there := f.there
  tups := f.tups
  frzs := f.frzs
  tbls := f.tbls
  he := f.he
end
noncomputable def CXC (P : Program) (w : World) : CXT := fun outer H s E e s' => ∃ ea C H' B a0, e = .ref ea ∧ s'.os = s.os ∧ AllBare s'.gens ∧ FlyB P w outer H H' s.heap s'.heap B ea C a0 ∧ E (.ref C) none H'

section
variable {X : Cx} {pins : List (Addr × Obj)} {σ : L2.St} {H1 : Hp} {s1 : Shared} {h' : Heap} {e C : Addr} {vs : List Value} {Q : Unit → Shared → Prop} {E : Value → Shared → Prop}
theorem raise_leaves (I : Inv X pins σ H1 s1) (hst : X.stack = X.env :: X.outer) (hfr : X.env.frame = some X.env.locals) (hex : X.ex = []) (m : Heap.MadeExcOf s1.heap h' e (.ref C) vs)
    (hQ : ∀ h'' B a0, FlyB X.prog X.w X.outer X.H₀ H1 X.s₀.heap h'' B e C a0 → Q () { s1 with heap := h'' }) : wpAny (model X.prog X.w) X.A (leaving X.env (.ref e)) Q E { s1 with heap := h' } := by
  have hA : X.A.frames = some (X.env :: X.outer) := by rw [I.ok.frames, hst]
  have hl : s1.heap.FunFrames (PySem.W.hideAll s1.heap (frs (X.env :: X.outer))) (X.env :: X.outer) :=
    PySem.W.funFrames_hide (hst ▸ I.stack) fun env he b hb => List.mem_filterMap.mpr ⟨env, he, hb⟩
  have nex : ∀ b : Addr, b ∉ X.ex := fun b z => by rw [hex] at z; cases z
  have ns : ∀ b o, X.s₀.heap.get? b = some o → b ∉ frs X.outer → b ∉ frs (X.env :: X.outer) := fun b o q n z => by
    unfold frs at z
    rw [List.filterMap_cons, hfr] at z
    rcases List.mem_cons.mp z with z | z
    · exact absurd (Nat.lt_of_lt_of_le (Heap.lt_size q) I.ok.above) (by rw [z]; exact Nat.lt_irrefl _)
    · exact n z
  have nH : ∀ b u, H1 b = some u → b ∉ frs (X.env :: X.outer) := fun b u q z => by
    have := I.stkFree b (hst ▸ z)
    rw [q] at this; cases this
  refine wpAny_leaves_madeW (s := { s1 with heap := h' }) (base := PySem.W.hideAll s1.heap (frs (X.env :: X.outer))) (h := s1.heap) hA hfr (fun b o q => PySem.W.of_hideAll _ q) hl m fun h'' t x1 x2 x3 x4 => ?_
  refine hQ h'' _ _ ⟨x1, fun a o q => ?_, fun b o q n hb => ?_, fun b o q n hb => ?_, fun b o q n => I.base.free b o q n (nex b), fun b o q hb => ?_, I.base.tups, I.base.frzs, I.base.tbls, ?_⟩
  · refine (I.hok a o q).stay (fun b u hb r => PySem.W.hideAll_get _ r ?_) (fun _ q => q) fun _ _ q => q
    rcases hb with rfl | hb
    · exact nH _ _ q
    · exact nH _ _ hb
  · exact PySem.W.hideAll_get _ (I.base.keep b o q n hb (nex b)) (ns b o q hb)
  · obtain ⟨sl, e1⟩ := I.base.slot b o q n hb (nex b)
    obtain ⟨_, o', ho, hd⟩ := I.ok.funs.mem hb
    rw [q] at ho; cases ho
    obtain ⟨sl', e2⟩ := x4 b _ (m.keeps _ _ e1) hd
    exact ⟨sl', e2⟩
  · obtain ⟨o', e1⟩ := I.base.there b o q (nex b)
    exact ⟨o', PySem.W.hideAll_get _ e1 (ns b o q hb)⟩
  · cases q : H1 e with
    | none => rfl
    | some u =>
      obtain ⟨ob, z⟩ := objOk_at (I.hok e u q)
      rw [m.new] at z; cases z
end

abbrev bmV : List Value := [.type "ValueError", .type "Exception", .type "BaseException", .type "object"]
theorem own_obj {K : PySem.W.Frag} {h : Heap} {C : Addr} {bmB : List Value} {newId : String} (X : K.In h) (q : PySem.W.excIn K C bmB newId = true) :
    ∃ bm N nm q bs hdct sn sub ab col dd k0 k1 k2 k3 k5 mN, h.get? C = some (excClassObj nm q C N bs bm hdct sn sub ab col dd k0 k1 k2 k3 k5 newId) ∧ h.Ns N mN ∧ mN "__init__" = none ∧ OwnTail h bmB bm := by
  unfold PySem.W.excIn at q
  split at q
  next dd cd sl ho =>
    split at q
    next C' bm k0 k1 k2 k3 n k5 hm hs =>
      simp only [Bool.and_eq_true, beq_iff_eq, Bool.not_eq_true'] at q
      obtain ⟨⟨⟨⟨⟨e1, e2⟩, hdel⟩, ht⟩, hok⟩, hni⟩ := q
      subst e1 e2
      cases cd with
      | mk nm bs mro ns qn hd sn sub ab col del =>
        dsimp only at hm hdel hok hni
        subst hm hdel
        have hsl : sl = #[k0, k1, k2, k3, some (.builtin n), k5] := by
          cases sl with
          | mk l => exact congrArg Array.mk hs
        subst hsl
        exact ⟨bm, ns, nm, qn, bs, hd, sn, sub, ab, col, dd, k0, k1, k2, k3, k5, _, X _ _ ho, .of_isNs (PySem.W.isNs_of_in X hok), PySem.W.nsMap_none_of_in X hok hni, PySem.W.tail_of_in X ht⟩
    · cases q
  · cases q

section
variable {X : Cx} {x : Str} {C : Addr} {e₀ : Expr} {rest : List Expr} {np cpos pos : Pos} {ta : TA} {R : Hp → Prop}
theorem ps_raise (hc : X.calm = true) (hg : Gl X x) (hm : X.mg x = some (.ref C)) (hq : PySem.W.excIn X.K C bmV "ValueError.__new__" = true) (ha : PA X (e₀ :: rest) ta)
    (hR : ∀ pins σ H1 s1 e h' vs, Inv X pins σ H1 s1 → R H1 → Heap.MadeExcOf s1.heap h' e (.ref C) vs → X.xe (.ref e) { s1 with heap := h' })
    (hdb : (x == ("__debug__" : Str)) = false := by decide) (he : starEach (e₀ :: rest) X.env = (false, eval e₀ X.env) :: starEach rest X.env := by rfl) (hpl : (backTo cpos (starEach rest X.env)).any (·.1) = false := by rfl) :
    PS X (.Raise (some (.Call (.Name x np) (e₀ :: rest) [] cpos)) none pos) (fun _ σ H => ta σ H fun vs H1 => vs.length ≤ sizeLine ∧ R H1) := by
  intro pins s σ H D I h
  obtain ⟨tl, N, nm, q, bs, hdct, sn, sub, ab, col, dd, k0, k1, k2, k3, k5, mN, hC, hN, hni, T⟩ := own_obj I.ok.mod.kin hq
  refine wpAny_Raise_call_subT (C := C) (nm := nm) (q := q) (N := N) (bs := bs) (bm := tl) (hdct := hdct) (sn := sn) (sub := sub) (ab := ab) (col := col) (dd := dd) (k0 := k0) (k1 := k1) (k2 := k2) (k3 := k3) (k5 := k5)
    F.excBase_ValueError (mN := mN) (T.hasType F.excBase_ValueError.hasBase) (I.ok.hd hc) (by rw [he]; show (false || (backTo cpos (starEach rest X.env)).any (·.1)) = false; rw [hpl]; rfl) hni (ld_glob I hg hm ⟨rfl, ?_⟩ hdb)
  have hh := ha cpos pins s σ H _ I h
  rw [he] at hh ⊢
  exact Calls.evalArgs_plain (wpAny_mono hh (fun us s2 ⟨vs, H1, I1, r, z, q⟩ => ⟨rfl, by show us.length ≤ _; rw [← r.length]; exact z, I1.bk _ _ hC, hN.keeps I1.bk, T.keeps I1.bk, fun h' e m => hR pins σ H1 s2 e h' us I1 q m⟩) fun _ _ y => y)
end
end D3
namespace D3
open PySem PySem.Spec PyProof.Rows L2

noncomputable def PRD (X : Cx) (R : Hp → Prop) (st : Stmt) (t : Fr3 → Prop) : Prop := ∃ t2, PS X st t2 ∧ ∀ B S H σ ρ D', ER X.K B S H σ ρ → t ρ → (∀ H1, Same B.H0 H1 → R H1) → t2 D' σ H
noncomputable def PRDs (X : Cx) (R : Hp → Prop) (st : List Stmt) (t : Fr3 → Prop) : Prop := ∃ t2, PSs X st t2 ∧ ∀ B S H σ ρ D', ER X.K B S H σ ρ → t ρ → (∀ H1, Same B.H0 H1 → R H1) → t2 D' σ H
section
variable {X : Cx} {R : Hp → Prop} {st : Stmt} {rest as bs : List Stmt} {t u : Fr3 → Prop} {ts us : S3} {c : Expr} {tc : B3} {pos : Pos}
noncomputable abbrev rThen (ts : S3) (u : Fr3 → Prop) : Fr3 → Prop := fun ρ => ts (fun f => match f with | .nx ρ' => u ρ' | _ => False) ρ
theorem prd_raise {x : Str} {C : Addr} {e₀ : Expr} {es : List Expr} {np cpos : Pos} {ta : A3} (hc : X.calm = true) (hg : Gl X x) (hm : X.mg x = some (.ref C)) (hq : PySem.W.excIn X.K C bmV "ValueError.__new__" = true) (ha : PAD X (e₀ :: es) ta)
    (hR : ∀ pins σ H1 s1 e h' vs, Inv X pins σ H1 s1 → R H1 → Heap.MadeExcOf s1.heap h' e (.ref C) vs → X.xe (.ref e) { s1 with heap := h' })
    (hdb : (x == ("__debug__" : Str)) = false := by decide) (he : starEach (e₀ :: es) X.env = (false, eval e₀ X.env) :: starEach es X.env := by rfl) (hpl : (backTo cpos (starEach es X.env)).any (·.1) = false := by rfl) :
    PRD X R (.Raise (some (.Call (.Name x np) (e₀ :: es) [] cpos)) none pos) (fun ρ => ta ρ fun ds => ds.length ≤ sizeLine) := by
  obtain ⟨t2, h, w⟩ := ha
  refine ⟨_, ps_raise hc hg hm hq h hR hdb he hpl, fun B S H σ ρ D' er q r => w B S H σ ρ _ _ er q fun ds vs H1 p s1 rr => ⟨by rw [← rr.len]; exact p, r H1 (er.same.trans s1)⟩⟩
end

section
variable {X : Cx} {R : Hp → Prop} {rest bs : List Stmt} {u : Fr3 → Prop} {ta : A3} {us : S3} {c : Expr} {tc : B3} {pos : Pos} {st : Stmt}
theorem prd_stop (g : PSDs X rest us) : PRDs X R rest (fun _ => False) := by
  obtain ⟨u2, g, _⟩ := g
  exact ⟨_, g, fun B S H σ ρ D' er q r => q.elim⟩
noncomputable abbrev rIf (tc : B3) (ta : A3) (us : S3) (u : Fr3 → Prop) : Fr3 → Prop := fun ρ => tc ρ fun k => if k = true then ta ρ fun ds => ds.length ≤ sizeLine else rThen us u ρ
theorem prd_ifN (hc : PB X c tc) (ha : PRD X R st (fun ρ => ta ρ fun ds => ds.length ≤ sizeLine)) (hb : PSDs X bs us) (hr : PRDs X R rest u) : PRDs X R (.If c [st] bs pos :: rest) (rIf tc ta us u) := by
  obtain ⟨c2, h, w⟩ := hc; obtain ⟨t2, ha, wa⟩ := ha; obtain ⟨u2, hb, wb⟩ := hb; obtain ⟨v2, hr, wr⟩ := hr
  refine ⟨_, pss_cons (ps_if h (pss_one ha) hb) hr, fun B S H σ ρ D' er q r => w B S H σ ρ _ _ er q fun k H1 hk s1 => ?_⟩
  cases k with
  | true =>
    rw [if_pos rfl] at hk ⊢
    exact wa B S H1 σ ρ _ (er.go s1) hk r
  | false =>
    rw [if_neg (by decide)] at hk ⊢
    exact wb B S H1 σ ρ _ _ (er.go s1) hk ⟨fun ρ' S' H' σ' p er' => wr B S' H' σ' ρ' D' er' p r, fun _ _ _ _ p => p.elim, fun _ _ _ _ p => p.elim, fun _ _ _ p => p.elim⟩
end

noncomputable def spR (K : PySem.W.Frag) (n : Nat) (C : Addr) (Pre : List D → Prop) : Sp := fun vs H _ E => ∃ ds S, ds.length = n ∧ Reps K S H ds vs ∧ SOk S H ∧ Pre ds ∧ ∀ H', Same H H' → E (.ref C) none H'
section
variable {P : Program} {w : World} {K : PySem.W.Frag} {mg : Str → Option Value} {base : Heap}
theorem rf_ok {x qual : Str} {st : Stmt} {f : Addr} {fd : FuncData} {N ps : List Str} {k : Nat} {C : Addr} {Pre : List D → Prop} (F : Fun K x qual st f fd) (S : FnScope N ps (defScope st))
    (body : ∀ (cdv : Value) (A : Around) (outer : List Env) (s : Shared) (H : Hp) (E : XK), Room k (A.deeper (envOfC qual (defScope st) s.heap.objs.size f cdv)) →
      (∀ pins σ H1 s1 e h' vs, Inv (cxOf (CXC P w) P w K mg base N qual (defScope st) f cdv A outer s H E) pins σ H1 s1 → E (.ref C) none H1 → Heap.MadeExcOf s1.heap h' e (.ref C) vs → (cxOf (CXC P w) P w K mg base N qual (defScope st) f cdv A outer s H E).xe (.ref e) { s1 with heap := h' }) →
      ∃ t, PRDs (cxOf (CXC P w) P w K mg base N qual (defScope st) f cdv A outer s H E) (fun H1 => E (.ref C) none H1) (defBody st) t ∧ ∀ ds, ds.length = ps.length → Pre ds → t (startD N.length ds)) :
    FnOk P w K mg base (CXC P w) (k + 1) f fd ps (spR K ps.length C Pre) := by
  obtain ⟨oc, od, kV, doc, pm, an, cdv, ct, osl, rfl, lk, hcd⟩ := F.ex
  refine fn_of lk hcd S (fun vs H Q E h => ?_) (fun A outer s H vs Q E hr h => ?_)
  · obtain ⟨ds, S, hl, r, _⟩ := h
    rw [← r.len]; exact hl
  · obtain ⟨t, ⟨t2, ht, wt⟩, rd⟩ := body cdv A outer s H E hr fun pins σ H1 s1 e h' vs I hE m =>
      raise_leaves I rfl rfl rfl m fun h'' B a0 fly => ⟨e, C, H1, B, a0, rfl, I.os, I.bare, fly, hE⟩
    obtain ⟨ds, S, hl, r, so, hp, hE⟩ := h
    exact ⟨t2, ht, wt ⟨S, H, []⟩ S H (L2.start N vs) (startD N.length ds) _ (er_start r so) (rd ds hl hp) hE⟩
end

theorem bt_ValueError : bootBuiltins "ValueError" = some (.type "ValueError") := by decide +kernel
theorem cls_of {K : PySem.W.Frag} {C : Addr} {v : Value} {r : Bool} (h : PySem.W.mroIn K C v = some r) : (PySem.W.clsIn K C).isSome = true := by
  unfold PySem.W.mroIn at h
  cases q : PySem.W.clsIn K C with
  | none => rw [q] at h; cases h
  | some cd => rfl
theorem kit_cls {K : PySem.W.Frag} {C D : Addr} {v : Value} {r b : Bool} (hD : PySem.W.mroIn K D v = some r) (ht : PySem.W.typeIn K (.ref D) = some (.type "type")) (hm : PySem.W.mroIn K C (.ref D) = some b) : PySem.W.kitCls K (.ref C) (.ref D) = some b := by
  have z : ((PySem.W.clsIn K D).isSome && PySem.W.typeIn K (.ref D) == some (.type "type")) = true := by rw [cls_of hD, ht]; rfl
  show (if ((PySem.W.clsIn K D).isSome && PySem.W.typeIn K (.ref D) == some (.type "type")) = true then PySem.W.subIn K (.ref C) (.ref D) else none) = some b
  rw [if_pos z]; exact hm
theorem kit_yes {K : PySem.W.Frag} {C D : Addr} {v : Value} {r : Bool} (hD : PySem.W.mroIn K D v = some r) (ht : PySem.W.typeIn K (.ref D) = some (.type "type")) (hm : PySem.W.mroIn K C (.ref D) = some true) : PySem.W.kitOne K (.ref C) (.ref D) = some true := by
  unfold PySem.W.kitOne
  split
  · rfl
  · exact kit_cls hD ht hm
theorem kit_no {K : PySem.W.Frag} {C D : Addr} {v : Value} {r : Bool} (hC : PySem.W.mroIn K C (.ref C) = some true) (hD : PySem.W.mroIn K D v = some r) (ht : PySem.W.typeIn K (.ref D) = some (.type "type")) (hm : PySem.W.mroIn K C (.ref D) = some false) : PySem.W.kitOne K (.ref C) (.ref D) = some false := by
  unfold PySem.W.kitOne
  split
  · rename_i q
    have e := Value.ref.inj (beq_iff_eq.mp q)
    subst e
    rw [hC] at hm; cases hm
  · exact kit_cls hD ht hm
theorem kit_type {K : PySem.W.Frag} {C : Addr} {T : String} {b : Bool} (ht : PySem.W.kitMeta T = true) (hm : PySem.W.mroIn K C (.type T) = some b) : PySem.W.kitOne K (.ref C) (.type T) = some b := by
  unfold PySem.W.kitOne
  split
  · rename_i q; exact Value.noConfusion (beq_iff_eq.mp q)
  · show (if PySem.W.kitMeta T = true then PySem.W.subIn K (.ref C) (.type T) else none) = some b
    rw [if_pos ht]; exact hm
theorem kit_none {K : PySem.W.Frag} {t : Value} : ∀ {l : List Addr}, (∀ D ∈ l, PySem.W.kitOne K t (.ref D) = some false) → PySem.W.kitAny K t (l.map Value.ref) = some false
  | [], _ => rfl
  | D :: l, h => by
    show PySem.W.kitAny K t (Value.ref D :: l.map Value.ref) = some false
    unfold PySem.W.kitAny
    rw [h D (.head _)]
    exact kit_none fun E hE => h E (.tail _ hE)
theorem all_nil {P : Addr → Prop} : ∀ D ∈ ([] : List Addr), P D := fun _ h => by cases h
theorem all_cons {P : Addr → Prop} {D : Addr} {l : List Addr} (h : P D) (t : ∀ D ∈ l, P D) : ∀ E ∈ D :: l, P E := fun E hE => by
  rcases List.mem_cons.mp hE with rfl | hE
  · exact h
  · exact t E hE
theorem meta_ValueError : PySem.W.kitMeta "ValueError" = true := by decide +kernel
noncomputable abbrev hxOf (X : Cx) (ea : Addr) (oe : Obj) : Cx := { X with A := X.A.mark (some (.ref ea)), calm := false, pn := (ea, oe) :: X.pn, xe := fun _ _ => False }
noncomputable def PBX (X : Cx) (i : Nat) (ea : Addr) (e : Expr) (b : Bool) : Prop := ∃ t2, PE X e t2 ∧ ∀ σ H Q, σ[i]? = some (some (.ref ea)) → (∀ H', Same H H' → Q (.bl b) H') → t2 σ H Q
section
variable {X : Cx} {i : Nat} {ea C : Addr} {oe : Obj} {x y n : Str} {p py pn pos ps : Pos} {b b' : Bool} {a a2 : Expr}
theorem call_isx (hp : (ea, oe) ∈ X.pn) (c : XCls X.K C) (hc : oe.cls = .ref C) : CallR X (.builtin "isinstance") (fun xs H Q => ∃ cv, xs = [.ref ea, cv] ∧ ∃ b, (∀ u, RelV cv u → PySem.W.kitOne X.K (.ref C) u = some b) ∧ Q (.bl b) H) := fun pins s σ H xs us Q I rs ⟨cv, e1, b, hk, q⟩ => by
  subst e1
  obtain ⟨u, u2, rfl, r1, r2⟩ := vals2 rs
  cases (show u = Value.ref ea from r1)
  have z := (I.pin (ea, oe) (List.mem_append_left _ hp)).1
  exact PySem.W.kia_one (kitx_exc c) I.kIn ⟨oe, z, hc⟩ (hk u2 r2) (fun z => by cases z) fun tk => ⟨.bl b, H, I.tok tk, rfl, q⟩
theorem call_isxT (hp : (ea, oe) ∈ X.pn) (c : XCls X.K C) (hc : oe.cls = .ref C) : CallR X (.builtin "isinstance") (fun xs H Q => ∃ a cs, xs = [.ref ea, .ref a] ∧ H a = some (.tup cs) ∧ ∃ b, (∀ us, Vals cs us → PySem.W.kitAny X.K (.ref C) us = some b) ∧ Q (.bl b) H) := fun pins s σ H xs us Q I rs ⟨a, cs, e1, ha, b, hk, q⟩ => by
  subst e1
  obtain ⟨u, u2, rfl, r1, r2⟩ := vals2 rs
  cases (show u = Value.ref ea from r1)
  cases (show u2 = Value.ref a from r2)
  have z := (I.pin (ea, oe) (List.mem_append_left _ hp)).1
  obtain ⟨_, its, r, o, h1, h2, n, h3⟩ := (show ObjOk X.prog X.w H s.heap a (.tup cs) from I.hok a _ ha)
  obtain ⟨ocl, od, odt, osl⟩ := o
  dsimp only at h2 h3
  subst h2 h3
  exact PySem.W.kia_tup (kitx_exc c) I.kIn ⟨oe, z, hc⟩ h1 (hk its r) (fun z => by cases z) fun tk => ⟨.bl b, H, I.tok tk, rfl, q⟩
theorem pbx_own {D : Addr} (hp : (ea, oe) ∈ X.pn) (c : XCls X.K C) (hc : oe.cls = .ref C) (hg : Gl X x) (hm : X.mg x = none) (hv : bootBuiltins x = some (.builtin "isinstance")) (hn : X.N[i]? = some n) (hvi : Vis X.env.scope n)
    (hgy : Gl X y) (hmy : X.mg y = some (.ref D)) (hk : PySem.W.kitOne X.K (.ref C) (.ref D) = some b) (hnn : x ≠ "__name__" := by decide) (hdb : (x == ("__debug__" : Str)) = false := by decide)
    (hdn : (n == ("__debug__" : Str)) = false := by decide) (hdc : (n == ("__classdict__" : Str)) = false := by decide) (hdy : (y == ("__debug__" : Str)) = false := by decide)
    (he : starEach [.Name n pn, .Name y py] X.env = [(false, eval (.Name n pn) X.env), (false, eval (.Name y py) X.env)] := by rfl) (he2 : starEach [.Name y py] X.env = [(false, eval (.Name y py) X.env)] := by rfl) :
    PBX X i ea (.Call (.Name x p) [.Name n pn, .Name y py] [] pos) b := by
  refine ⟨_, pe_callB (call_isx hp c hc) hg hm hv (pa_cons (pe_var hn hvi hdn hdc) (pa_cons (pe_glob hgy hmy (show RelV (.ref D) (.ref D) from rfl) hdy) pa_nil he2) (by rw [he, he2])) hnn hdb (by rw [he, he2]) (by rw [he2]; rfl), fun σ H Q hs q => ?_⟩
  exact ⟨_, hs, .ref D, rfl, b, fun u r => by cases (show u = Value.ref D from r); exact hk, q H (Same.refl _)⟩
theorem pbx_type {T : String} (hp : (ea, oe) ∈ X.pn) (c : XCls X.K C) (hc : oe.cls = .ref C) (hg : Gl X x) (hm : X.mg x = none) (hv : bootBuiltins x = some (.builtin "isinstance")) (hn : X.N[i]? = some n) (hvi : Vis X.env.scope n)
    (hgy : Gl X y) (hmy : X.mg y = none) (hvy : bootBuiltins y = some (.type T)) (hk : PySem.W.kitOne X.K (.ref C) (.type T) = some b) (hnn : x ≠ "__name__" := by decide) (hdb : (x == ("__debug__" : Str)) = false := by decide)
    (hdn : (n == ("__debug__" : Str)) = false := by decide) (hdc : (n == ("__classdict__" : Str)) = false := by decide) (hny : y ≠ "__name__" := by decide) (hdy : (y == ("__debug__" : Str)) = false := by decide)
    (he : starEach [.Name n pn, .Name y py] X.env = [(false, eval (.Name n pn) X.env), (false, eval (.Name y py) X.env)] := by rfl) (he2 : starEach [.Name y py] X.env = [(false, eval (.Name y py) X.env)] := by rfl) :
    PBX X i ea (.Call (.Name x p) [.Name n pn, .Name y py] [] pos) b := by
  refine ⟨_, pe_callB (call_isx hp c hc) hg hm hv (pa_cons (pe_var hn hvi hdn hdc) (pa_cons (pe_bltn hgy hmy hvy (show RelV (.ty T) (.type T) from rfl) hny hdy) pa_nil he2) (by rw [he, he2])) hnn hdb (by rw [he, he2]) (by rw [he2]; rfl), fun σ H Q hs q => ?_⟩
  exact ⟨_, hs, .ty T, rfl, b, fun u r => by cases (show u = Value.type T from r); exact hk, q H (Same.refl _)⟩
inductive Names (X : Cx) : List Expr → List Addr → Prop where
  | nil : Names X [] []
  | cons {y : Str} {py : Pos} {D : Addr} {es : List Expr} {Ds : List Addr} (hg : Gl X y) (hm : X.mg y = some (.ref D)) (hd : (y == ("__debug__" : Str)) = false) (he : starEach (.Name y py :: es) X.env = (false, eval (.Name y py) X.env) :: starEach es X.env) (r : Names X es Ds) : Names X (.Name y py :: es) (D :: Ds)
theorem Names.pa {es : List Expr} {Ds : List Addr} (h : Names X es Ds) : ∃ t, PA X es t ∧ ∀ σ H Q, Q (Ds.map V.ref) H → t σ H Q := by
  induction h with
  | nil => exact ⟨_, pa_nil, fun σ H Q q => q⟩
  | cons hg hm hd he r ih =>
    obtain ⟨t, h, w⟩ := ih
    exact ⟨_, pa_cons (pe_glob hg hm (show RelV (.ref _) (.ref _) from rfl) hd) h he, fun σ H Q q => w σ H _ q⟩
theorem pbx_tup {Ds : List Addr} {es : List Expr} {cx : Nat} (hp : (ea, oe) ∈ X.pn) (c : XCls X.K C) (hc : oe.cls = .ref C) (hg : Gl X x) (hm : X.mg x = none) (hv : bootBuiltins x = some (.builtin "isinstance")) (hn : X.N[i]? = some n) (hvi : Vis X.env.scope n)
    (hD : Names X es Ds) (hl : Ds.length ≤ sizeLine) (hk : PySem.W.kitAny X.K (.ref C) (Ds.map Value.ref) = some b) (hnn : x ≠ "__name__" := by decide) (hdb : (x == ("__debug__" : Str)) = false := by decide)
    (hdn : (n == ("__debug__" : Str)) = false := by decide) (hdc : (n == ("__classdict__" : Str)) = false := by decide)
    (he : starEach [.Name n pn, .Tuple es cx py] X.env = [(false, eval (.Name n pn) X.env), (false, eval (.Tuple es cx py) X.env)] := by rfl) (he2 : starEach [.Tuple es cx py] X.env = [(false, eval (.Tuple es cx py) X.env)] := by rfl) :
    PBX X i ea (.Call (.Name x p) [.Name n pn, .Tuple es cx py] [] pos) b := by
  obtain ⟨t, h, w⟩ := hD.pa
  refine ⟨_, pe_callB (call_isxT hp c hc) hg hm hv (pa_cons (pe_var hn hvi hdn hdc) (pa_cons (pe_tup h) pa_nil he2) (by rw [he, he2])) hnn hdb (by rw [he, he2]) (by rw [he2]; rfl), fun σ H Q hs q => ?_⟩
  refine ⟨_, hs, w σ H _ ⟨by rw [List.length_map]; exact hl, fun a ha => ⟨a, Ds.map V.ref, rfl, upd_same, b, fun us r => ?_, q _ (same_new ha)⟩⟩⟩
  have : us = Ds.map Value.ref := by
    clear hk hD w h
    induction Ds generalizing us with
    | nil => cases r; rfl
    | cons D Ds ih =>
      cases r with
      | cons r1 r2 =>
        rw [ih (by simp only [List.length_cons] at hl; omega) _ r2]
        cases (show _ = Value.ref D from r1)
        rfl
  rw [this]; exact hk
theorem pbx_and (ha : PBX X i ea a b) (hb : PBX X i ea a2 b') : PBX X i ea (.BoolOp .And [a, a2] pos) (b && b') := by
  obtain ⟨t, h, w⟩ := ha; obtain ⟨u, g, z⟩ := hb
  refine ⟨_, pe_and h (pe_one g), fun σ H Q hs q => w σ H _ hs fun H1 s1 => ⟨b, rfl, ?_⟩⟩
  cases b with
  | true => rw [if_pos rfl]; exact z σ H1 Q hs fun H2 s2 => q H2 (s1.trans s2)
  | false => rw [if_neg (by decide)]; exact q H1 s1
end
end D3
namespace D3
open PySem PySem.Spec PyProof.Rows L2

theorem exc_match {M : Model} {A : Around} {E : Value → Shared → Prop} {K : PySem.W.Frag} {h : Heap} {g : Array GenState} {d : Drawn} {t : Nat} {os : OsState} {e C D : Addr} {oe : Obj} {b : Bool} {Q : Bool → Shared → Prop}
    (X : K.In h) (hcD : (PySem.W.clsIn K D).isSome = true) (htD : PySem.W.typeIn K (.ref D) = some (.type "type")) (hbD : PySem.W.mroIn K D (.type "BaseException") = some true) (hs : PySem.W.mroIn K C (.ref D) = some b)
    (he : h.get? e = some oe) (hcls : oe.cls = .ref C) (hq : Q b ⟨h, g, d, t, os⟩) : wpAny M A (excMatches (.ref e) (.ref D)) Q E ⟨h, g, d, t, os⟩ := by
  have f := tc_notTuple
  have L1 := PySem.W.looks_mroIn (M := M) X hbD
  have L2 := PySem.W.looks_mroIn (M := M) X hs
  obtain ⟨cd, hc⟩ := Option.isSome_iff_exists.mp hcD
  unfold PySem.W.clsIn at hc
  split at hc
  next c' d' cd' sl' ho =>
    have hD := X _ _ ho
    have ht : c' = .type "type" := by
      have z : Option.map (fun x => x.cls) (List.lookup D K) = some (Value.type "type") := htD
      rw [ho] at z
      exact Option.some.inj z
    subst ht
    unfold excMatches
    repeat (first | (with_reducible refine wpAny_loadPart_at he ?_; rw [hcls]) | with_reducible refine wpAny_loadPart_at hD ?_ | with_reducible refine L1.at ?_ | with_reducible refine L2.at ?_ | wp_step)
    cases b <;> (repeat wp_step) <;> exact hq
  · cases hc

section
variable {X : Cx} {pins : List (Addr × Obj)} {σ : L2.St} {H : Hp} {s : Shared}
theorem name_goes {M : Model} {A : Around} {E : Value → Shared → Prop} {i : Nat} {n : Str} {pos : Pos} {Q : Unit → Shared → Prop} (I : Inv X pins σ H s) (hN : X.N.Nodup) (hi : X.N[i]? = some n) (hk : X.env.kindOf n = some .local)
    (hq : ∀ s', Inv X pins (σ.set i none) H s' → Q () s') : wpAny M A (do bindName X.env n .none; unbindBehindTheSuite X.env n pos) Q E s := by
  obtain ⟨m, hn, hl⟩ := id I.loc
  have hcls : (X.env.scope.kind == .class || (X.env.scope.kind == .module && X.env.locals != X.env.globals)) = false := by rw [I.ok.kind]; rfl
  refine wpAny_nameGoes_keeps hk hn hcls fun h' v hn' hs => ?_
  obtain ⟨oL, _, _, hoL, _⟩ := id hn
  refine hq _ ⟨I.ok, I.os, I.bare, ⟨fun b o e n hb hx => ?_, fun b o e n hb hx => ?_, I.base.free, fun b o e hx => ?_, I.base.tups, I.base.frzs, I.base.tbls⟩, ⟨_, hn', fun j y v' e1 e2 e3 => ?_⟩, fun y c e => ?_, I.free, I.freeC, fun p hp => ?_, fun b ob e => ?_, by simpa using I.len⟩
  · exact (hs.2 b (Nat.ne_of_lt (Nat.lt_of_lt_of_le (Heap.lt_size e) I.ok.above))).trans (I.base.keep b o e n hb hx)
  · obtain ⟨sl, e1⟩ := I.base.slot b o e n hb hx
    exact ⟨sl, (hs.2 b (Nat.ne_of_lt (Nat.lt_of_lt_of_le (Heap.lt_size e) I.ok.above))).trans e1⟩
  · obtain ⟨o', e1⟩ := I.base.there b o e hx
    exact ⟨o', (hs.2 b (Nat.ne_of_lt (Nat.lt_of_lt_of_le (Heap.lt_size e) I.ok.above))).trans e1⟩
  · by_cases hj : j = i
    · subst hj
      have hiσ : j < σ.length := by rw [I.len]; exact (List.getElem?_eq_some_iff.mp hi).1
      rw [List.getElem?_set_self hiσ] at e2
      cases e2
    · rw [List.getElem?_set_ne (Ne.symm hj)] at e2
      obtain ⟨u', r', q⟩ := hl j y v' e1 e2 e3
      refine ⟨u', r', ?_⟩
      rcases q with ⟨k, e⟩ | ⟨k, c, e, z⟩
      · refine .inl ⟨k, ?_⟩
        have : y ≠ n := fun e => hj (nodup_ix hN e1 (e ▸ hi))
        simp [this, e]
      · exact .inr ⟨k, c, e, z.sameBut hs (I.cne y c e)⟩
  · obtain ⟨w', z⟩ := I.cell y c e
    exact ⟨w', z.sameBut hs (I.cne y c e)⟩
  · obtain ⟨e, n, ne, nf, d⟩ := I.pin p hp
    exact ⟨(hs.2 p.1 ne).trans e, n, ne, nf, d⟩
  · refine (I.hok b ob e).stay (fun c w' hc q => (hs.2 c ?_).trans q) (fun _ q => q) fun _ _ q => q
    rintro rfl
    rcases hc with rfl | hc
    · rw [I.free] at e; cases e
    · rw [I.free] at hc; cases hc
end

theorem ER.any {K : PySem.W.Frag} {B : Bs} {S : Addr → Prop} {H : Hp} {σ : L2.St} {ρ : Fr3} {i : Nat} {v : Option V} (er : ER K B S H σ ρ) (h : ρ[i]? = some .un) : ER K B S H (σ.set i v) ρ where
  len := by rw [List.length_set]; exact er.len
  same := er.same
  sub := er.sub
  ok0 := er.ok0
  ok := er.ok
  val := fun j c q => by
    have : i ≠ j := by rintro rfl; rw [h] at q; cases q
    rw [List.getElem?_set_ne this]; exact er.val j c q
  own := fun j c q => by
    have : i ≠ j := by rintro rfl; rw [h] at q; cases q
    rw [List.getElem?_set_ne this]; exact er.own j c q
  uq := fun j k a ds es q1 q2 q3 q4 => by
    have n1 : i ≠ j := by rintro rfl; rw [h] at q1; cases q1
    have n2 : i ≠ k := by rintro rfl; rw [h] at q2; cases q2
    rw [List.getElem?_set_ne n1] at q3
    rw [List.getElem?_set_ne n2] at q4
    exact er.uq j k a ds es q1 q2 q3 q4
  dct := fun j ks c q => by
    have : i ≠ j := by rintro rfl; rw [h] at q; cases q
    rw [List.getElem?_set_ne this]; exact er.dct j ks c q
  dq := fun j k a ks ds ks' ds' q1 q2 q3 q4 => by
    have n1 : i ≠ j := by rintro rfl; rw [h] at q1; cases q1
    have n2 : i ≠ k := by rintro rfl; rw [h] at q2; cases q2
    rw [List.getElem?_set_ne n1] at q3
    rw [List.getElem?_set_ne n2] at q4
    exact er.dq j k a ks ds ks' ds' q1 q2 q3 q4
  gh := er.gh

noncomputable def effL : List (Nat × Bool) → Fr3 → Fr3
  | [], ρ => ρ
  | (j, b) :: l, ρ => effL l (ρ.set j (.val (.bl b)))
noncomputable def SuiteOk (X : Cx) (i : Nat) (ea : Addr) (st : List Stmt) (l : List (Nat × Bool)) : Prop :=
  ∃ t2, PSs X st t2 ∧ ∀ B S H σ ρ D', ER X.K B S H σ ρ → σ[i]? = some (some (.ref ea)) → (∀ H' σ', ER X.K B S H' σ' (effL l ρ) → D'.nx σ' H') → t2 D' σ H
section
variable {X : Cx} {i j : Nat} {ea : Addr} {x : Str} {e : Expr} {b : Bool} {rest : List Stmt} {l : List (Nat × Bool)} {pos pos' : Pos}
theorem sx_nil : SuiteOk X i ea [] [] := ⟨_, pss_nil, fun B S H σ ρ D' er hs k => k H σ er⟩
theorem sx_set (hij : j ≠ i) (hN : X.N.Nodup) (hj : X.N[j]? = some x) (hx : Loc X.env.scope x) (he : PBX X i ea e b) (hr : SuiteOk X i ea rest l) (hs : swapsWith e (some (.Name x pos')) pos.line X.env = pure false := by rfl)
    (hf : X.fn x = true ∨ X.env.scope.names.lookup x = some .local := by first | exact .inl rfl | exact .inr rfl | assumption) : SuiteOk X i ea (.Assign [.Name x pos'] e pos :: rest) ((j, b) :: l) := by
  obtain ⟨t2, h, w⟩ := he
  obtain ⟨u2, g, z⟩ := hr
  refine ⟨_, pss_cons (ps_set hN hj hx h hs hf) g, fun B S H σ ρ D' er hv k => w σ H _ hv fun H1 s1 => ?_⟩
  exact z B S H1 _ _ D' ((er.go s1).put Rep.bl) (by rw [List.getElem?_set_ne hij]; exact hv) k
end

theorem hx_inv {X : Cx} {pins : List (Addr × Obj)} {σ : L2.St} {H : Hp} {s : Shared} {ea : Addr} {oe : Obj} (I : Inv X pins σ H s) (h1 : s.heap.get? ea = some oe) (h2 : H ea = none) (h3 : ea ≠ X.env.locals) (h4 : ea ∉ X.fs) (h5 : ∀ v, oe.data ≠ .cell v) : Inv (hxOf X ea oe) pins σ H s :=
  ⟨⟨I.ok.mod, I.ok.kind, I.ok.glob, I.ok.blt, I.ok.above, I.ok.inj, I.ok.has, I.ok.cab, (fun z => Bool.noConfusion z), I.ok.frames, I.ok.stk, I.ok.exf, I.ok.bs, I.ok.bsz, I.ok.noex, I.ok.exfs, I.ok.funs, I.ok.frf⟩,
    I.os, I.bare, I.base, I.loc, I.cell, I.free, I.freeC, fun p hp => by
      rcases List.mem_cons.mp (show p ∈ (ea, oe) :: (X.pn ++ pins) from hp) with rfl | hp
      · exact ⟨h1, h2, h3, h4, h5⟩
      · exact I.pin p hp, I.hok, I.len⟩
theorem hx_un {X : Cx} {pins : List (Addr × Obj)} {σ : L2.St} {H : Hp} {s : Shared} {ea : Addr} {oe : Obj} (ok : X.Ok) (I : Inv (hxOf X ea oe) pins σ H s) : Inv X pins σ H s :=
  ⟨ok, I.os, I.bare, I.base, I.loc, I.cell, I.free, I.freeC, fun p hp => I.pin p (List.mem_cons_of_mem _ hp), I.hok, I.len⟩
section
variable {X : Cx} {k i : Nat} {f C D : Addr} {fd : FuncData} {ps : List Str} {Pre : List D3.D → Prop} {x y n : Str} {p pos pos' py hp tp : Pos} {e : Expr} {es : List Expr} {b₀ : Stmt} {suite : List Stmt} {ta : A3} {l : List (Nat × Bool)}
noncomputable abbrev sTryR (i : Nat) (Pre : List D3.D → Prop) (m : Nat) (ta : A3) (l : List (Nat × Bool)) : S3 := fun Φ ρ => ta ρ fun ds => ds.length = m ∧ Pre ds ∧ ρ[i]? = some .un ∧ (effL l ρ)[i]? = some .un ∧ Φ (.nx (effL l ρ))
theorem psd_tryR (hxf : ∀ e s, X.xe e s → False) (hst : X.stack = X.env :: X.outer) (hfr : X.env.frame = some X.env.locals)
    (F : FnOk X.prog X.w X.K X.mg X.base (CXC X.prog X.w) k f fd ps (spR X.K ps.length C Pre)) (hr : Room k X.A) (hg : Gl X x) (hm : X.mg x = some (.ref f)) (hk : PySem.W.keepIn X.K (.ref f) = true) (hb : Binds X.K fd ps [])
    (ha : PAD X (e :: es) ta) (hgy : Gl X y) (hmy : X.mg y = some (.ref D)) (hcD : (PySem.W.clsIn X.K D).isSome = true) (htD : PySem.W.typeIn X.K (.ref D) = some (.type "type")) (hbD : PySem.W.mroIn X.K D (.type "BaseException") = some true) (hsD : PySem.W.mroIn X.K C (.ref D) = some true)
    (hN : X.N.Nodup) (hi : X.N[i]? = some n) (hkn : X.env.scope.names.lookup n = some .local)
    (hsu : ∀ ea oe, oe.cls = .ref C → SuiteOk (hxOf X ea oe) i ea (b₀ :: suite) l)
    (hdb : (x == ("__debug__" : Str)) = false := by decide) (hdy : (y == ("__debug__" : Str)) = false := by decide) (he : starEach (e :: es) X.env = (false, eval e X.env) :: starEach es X.env := by rfl) (hpl : (backTo pos (starEach es X.env)).any (·.1) = false := by rfl)
    (hsw : swapsWith (.Call (.Name x p) (e :: es) [] pos) none pos'.line X.env = pure false := by rfl) :
    PSD X (.Try [.Expr (.Call (.Name x p) (e :: es) [] pos) pos'] [.ExceptHandler (some (.Name y py)) (some n) (b₀ :: suite) hp] [] [] tp) (sTryR i Pre ps.length ta l) := by
  obtain ⟨t2, h, w⟩ := ha
  refine ⟨fun D' σ H => t2 σ H fun vs H1 => ∃ S ds, Reps X.K S H1 ds vs ∧ SOk S H1 ∧ ds.length = ps.length ∧ Pre ds ∧ ∃ B ρ, ER X.K B S H1 σ ρ ∧ ρ[i]? = some .un ∧ (effL l ρ)[i]? = some .un ∧ ∀ H2 σ2, ER X.K B S H2 σ2 (effL l ρ) → D'.nx σ2 H2, ?_, ?_⟩
  · intro pins s σ H D' I hh
    refine wpAny_Try_except (wpAny_execs_cons (wpAny_Expr_any (wpAny_Call_Name_kw (ld_glob I hg hm ?_ hdb)) I.quiet hsw))
    refine PySem.W.callWith_K (h₀ := X.base) I.ok.mod.kin hk (wpAny_mono (h pos pins s σ H _ I hh) (fun us s1 ⟨vs, H1, I1, r, S, ds, rr, so, hl, hpre, B, ρ, er, hu1, hu2, kn⟩ => ⟨I1.kIn, ?_⟩) fun _ _ z => (hxf _ _ z).elim) he hpl
    have hl2 : us.length = ps.length := by rw [← r.length, ← rr.len]; exact hl
    refine wpAny_call (codeAny_mono (F.run X.A X.stack s1 H1 ⟨us, []⟩ us vs (fun _ _ => False) (fun c _ H' => c = .ref C ∧ Same H1 H') hr I1.env0 ?_ r ⟨ds, S, hl, rr, so, hpre, fun H' s => ⟨rfl, s⟩⟩) fun res s' hq => ?_)
    · have z := hb s1 us I1.kIn (by rw [List.append_nil]; exact hl2)
      rw [List.append_nil] at z; exact z
    cases res with
    | ok fl =>
      cases fl with
      | ret u => obtain ⟨_, _, _, _, _, _, _, z⟩ := hq; exact z.elim
      | next => exact False.elim hq
      | brk => exact False.elim hq
      | cont => exact False.elim hq
    | error ev =>
      obtain ⟨ea, C', H', Bh, a0, rfl, hos, hbr, fly, hc, sm⟩ := hq
      cases hc
      have hA : X.A.frames = some (X.env :: X.outer) := by rw [I1.ok.frames, hst]
      have fl0 := fly.fl
      rw [hst] at fl0
      refine wpAny_looks_onW hA hfr fl0 fun h₄ hheld₄ hsm₄ => ?_
      refine wpAny_landsW hheld₄ fun h₅ hfl₅ hsm₅ => ?_
      have fly5 := fly.go (hst ▸ hfl₅) (hsm₄.trans hsm₅)
      have I5 : Inv X pins σ H' { s' with heap := h₅ } := I1.call' (s' := { s' with heap := h₅ }) hos fly5.un fly5.hk hbr (fun _ z => by cases z)
      obtain ⟨oe5, he5, hc5⟩ := fly5.fl.there
      have nL : ∀ {hh : Heap} {oe : Obj} {vs : Array Value}, hh.FunFrames Bh X.stack → hh.get? ea = some oe → oe.data = .fields vs → ea ∉ frs X.stack := fun hf h1 h2 z => by
        obtain ⟨_, o, ho, hd⟩ := hf.mem z
        rw [h1] at ho; cases ho; exact hd _ h2
      refine wpAny_handleBy_cons (codeAny_handlers_test ?_) (by intro q; cases q)
      obtain ⟨oe, vs6, he6, hcl6, hd6, _⟩ := fly5.fl.first
      have nf := nL fly5.fl.2.2.1 he6 hd6
      have ne : ea ≠ X.env.locals := fun z => nf (by rw [hst]; unfold frs; rw [List.filterMap_cons, hfr, z]; exact List.mem_cons_self)
      have nfs : ea ∉ X.fs := fun z => nf (by rw [hst]; unfold frs; rw [List.filterMap_cons, hfr]; exact List.mem_cons_of_mem _ z)
      have I6 : Inv (hxOf X ea oe) pins σ H' { s' with heap := h₅ } := hx_inv I5 he6 fly5.he ne nfs (fun v z => by rw [hd6] at z; cases z)
      refine ld_glob (X := hxOf X ea oe) I6 hgy hmy ?_ hdy
      obtain ⟨_, g', d', t', o'⟩ := s'
      refine exc_match I5.kIn hcD htD hbD hsD he6 hcl6 ?_
      refine codeAny_handlers_suite_as ?_
      refine lands_againW fly5.fl fun h₇ hfl₇ hsm₇ => ?_
      have fly7 := fly5.go hfl₇ hsm₇
      have I7 : Inv X pins σ H' ⟨h₇, g', d', t', o'⟩ := I1.call' (s' := ⟨h₇, g', d', t', o'⟩) hos fly7.un fly7.hk hbr (fun _ z => by cases z)
      obtain ⟨oe7, vs7, he7, hcl7, hd7, _⟩ := fly7.fl.first
      have I8 : Inv (hxOf X ea oe7) pins σ H' ⟨h₇, g', d', t', o'⟩ := hx_inv I7 he7 fly7.he ne nfs (fun v z => by rw [hd7] at z; cases z)
      obtain ⟨u2, hu, wu⟩ := hsu ea oe7 hcl7
      refine store_ok (X := hxOf X ea oe7) I8 hN hi (.inl hkn) (show RelV (.ref ea) (.ref ea) from rfl) (fun s9 I9 => ?_) (.inr hkn)
      have hiσ : i < σ.length := by rw [I.len]; exact (List.getElem?_eq_some_iff.mp hi).1
      have er' : ER X.K B S H' (σ.set i (some (.ref ea))) ρ := (er.go sm).any hu1
      refine wpAny_mono (hu pins s9 _ H' { nx := fun σ2 H2 => ER X.K B S H2 σ2 (effL l ρ), bk := fun _ _ => False, ct := fun _ _ => False, rt := fun _ _ => False } I9 (wu B S H' _ ρ _ er' (List.getElem?_set_self hiσ) fun H2 σ2 z => z)) (fun fl s10 q => ?_) fun _ _ z => z.elim
      cases fl with
      | next =>
        obtain ⟨σ2, H2, I10, er2⟩ := q
        refine name_goes (hx_un I1.ok I10) hN hi hkn fun s11 I11 => ?_
        exact ⟨_, H2, I11, kn H2 _ (er2.any hu2)⟩
      | brk => obtain ⟨_, _, _, z⟩ := q; exact z.elim
      | cont => obtain ⟨_, _, _, z⟩ := q; exact z.elim
      | ret u => obtain ⟨_, _, _, _, _, z⟩ := q; exact z.elim
  · intro B S H σ ρ Φ D' er q ok
    refine w B S H σ ρ _ _ er q fun ds vs H1 p1 s1 r1 => ?_
    obtain ⟨hl, hpre, hu1, hu2, hΦ⟩ := p1
    exact ⟨S, ds, r1, er.ok.same s1, hl, hpre, B, ρ, er.go s1, hu1, hu2, fun H2 σ2 er2 => ok.nx _ S H2 σ2 hΦ er2⟩
end
end D3

set_option Elab.async false
set_option linter.all false
set_option maxRecDepth 100000
set_option maxHeartbeats 4000000
namespace D3
open PySem PySem.Spec PyProof.Rows L2

section
variable {X : Cx} {i j : Nat} {ea : Addr} {x : Str} {e a b : Expr} {es : List Expr} {bv : Bool} {te ta tb : E3} {tr : A3} {rest : List Stmt} {pos pos' : Pos}
end
section
variable {X : Cx} {k i : Nat} {f C D : Addr} {fd : FuncData} {ps : List Str} {Pre : List D3.D → Prop} {x y n : Str} {p pos pos' py hp tp : Pos} {e : Expr} {es : List Expr} {b₀ : Stmt} {suite : List Stmt} {ta : A3} {ts : S3}
end
end D3

set_option Elab.async false
set_option linter.all false
set_option maxRecDepth 100000
set_option maxHeartbeats 4000000
namespace D3
open PySem PySem.Spec PyProof.Rows L2
section
variable {X : Cx} {k i : Nat} {f C D ea : Addr} {fd : FuncData} {ps : List Str} {Pre : List D3.D → Prop} {x y n : Str} {p pos pos' py hp hp0 tp pt : Pos} {e : Expr} {es cs : List Expr} {b₀ : Stmt} {suite suite0 : List Stmt} {ta : A3} {ts : S3} {Ds : List Addr} {cx : Nat}
end
end D3

set_option Elab.async false
set_option linter.all false
set_option maxRecDepth 100000
set_option maxHeartbeats 4000000
namespace D3
open PySem PySem.Spec PyProof.Rows L2

section
variable {X : Cx} {pins : List (Addr × Obj)} {σ : L2.St} {H H' : Hp} {s s' : Shared} {e C : Addr} {B : Heap} {a0 : Value} {Q : Unit → Shared → Prop} {E : Value → Shared → Prop}
end
noncomputable def PRE (X : Cx) (R : Hp → Prop) (e : Expr) (t : Fr3 → Prop) : Prop := ∃ t2, PE X e t2 ∧ ∀ B S H σ ρ Q, ER X.K B S H σ ρ → t ρ → (∀ H1, Same B.H0 H1 → R H1) → t2 σ H Q
section
variable {X : Cx} {R : Hp → Prop} {C f : Addr} {k : Nat} {fd : FuncData} {ps : List Str} {Pre : List D3.D → Prop} {x : Str} {e a : Expr} {es : List Expr} {p pos pos' : Pos} {ta : A3} {t : Fr3 → Prop}
theorem prd_set {i : Nat} {y : Str} (hN : X.N.Nodup) (hi : X.N[i]? = some y) (hx : Loc X.env.scope y) (h : PRE X R e t) (hs : swapsWith e (some (.Name y pos')) pos.line X.env = pure false := by rfl)
    (hf : X.fn y = true ∨ X.env.scope.names.lookup y = some .local := by first | exact .inl rfl | exact .inr rfl | assumption) : PRD X R (.Assign [.Name y pos'] e pos) t := by
  obtain ⟨t2, h, w⟩ := h
  exact ⟨_, ps_set hN hi hx h hs hf, fun B S H σ ρ D' er q r => w B S H σ ρ _ er q r⟩
end
section
variable {P : Program} {w : World} {K : PySem.W.Frag} {mg : Str → Option Value} {base : Heap}
end
end D3

set_option Elab.async false
set_option linter.all false
set_option maxRecDepth 100000
set_option maxHeartbeats 4000000
namespace D3
open PySem PySem.Spec PyProof.Rows L2

section
variable {X : Cx} {pos : Pos}
end
section
variable {X : Cx}
end
end D3

set_option Elab.async false
set_option linter.all false
set_option maxRecDepth 100000
set_option maxHeartbeats 4000000
namespace D3
open PySem PySem.Spec PyProof.Rows L2

section
variable {X : Cx} {pos : Pos}
end
@[elab_as_elim] theorem len_0 {α : Type} {P : List α → Prop} : ∀ us : List α, us.length = 0 → P [] → P us
  | [], _, h => h
@[elab_as_elim] theorem len_1 {α : Type} {P : List α → Prop} : ∀ us : List α, us.length = 1 → (∀ a, P [a]) → P us
  | [a], _, h => h a
@[elab_as_elim] theorem len_2 {α : Type} {P : List α → Prop} : ∀ us : List α, us.length = 2 → (∀ a b, P [a, b]) → P us
  | [a, b], _, h => h a b
@[elab_as_elim] theorem len_3 {α : Type} {P : List α → Prop} : ∀ us : List α, us.length = 3 → (∀ a b c, P [a, b, c]) → P us
  | [a, b, c], _, h => h a b c
@[elab_as_elim] theorem len_4 {α : Type} {P : List α → Prop} : ∀ us : List α, us.length = 4 → (∀ a b c d, P [a, b, c, d]) → P us
  | [a, b, c, d], _, h => h a b c d
@[elab_as_elim] theorem len_5 {α : Type} {P : List α → Prop} : ∀ us : List α, us.length = 5 → (∀ a b c d e, P [a, b, c, d, e]) → P us
  | [a, b, c, d, e], _, h => h a b c d e
end D3

set_option Elab.async false
set_option linter.all false
set_option maxRecDepth 100000
set_option maxHeartbeats 4000000
namespace D3
open PySem PySem.Spec PyProof.Rows L2
section
open PySem.W
noncomputable def KAll {α : Type} (n : Nat) (P : α → Prop) : KasT α → Prop
  | .ret a => P a
  | .ask i j k => i < n ∧ j < n ∧ ∀ b, KAll n P (k b)
noncomputable def PR (n : Nat) (p : Array Nat) : Prop := p.Perm (List.toArray (List.range n))
section
variable {prog : Program} {w : World} {A : Around} {E : Value → Shared → Prop} {s : Shared} {vs : List Value}
end
end
end D3

set_option Elab.async false
set_option linter.all false
set_option maxRecDepth 100000
set_option maxHeartbeats 4000000
namespace D3
open PySem PySem.Spec PyProof.Rows L2
section
open PySem.SeqAt
open PySem.AutoSeq1 (wpAny_loadPart')
open PySem.MeetsSeq PySem.MeetsSeq2 PySem.MeetsSeq3
inductive Ord : Nat → D → Prop where
  | int (i : Int) : Ord 0 (.int i)
  | tup {n : Nat} {ds : List D} (h : ∀ d ∈ ds, Ord n d) : Ord (n + 1) (.tup ds)
section
variable {X : Cx} {pins : List (Addr × Obj)} {σ : L2.St} {H : Hp} {s : Shared} {S : Addr → Prop}
end
end
end D3

set_option Elab.async false
set_option linter.all false
set_option maxRecDepth 100000
set_option maxHeartbeats 4000000
namespace D3
open PySem PySem.Spec PyProof.Rows L2
section
open PySem.W
variable {X : Cx} {pins : List (Addr × Obj)} {σ : L2.St} {H : Hp} {s : Shared} {S : Addr → Prop}
end
end D3

set_option Elab.async false
set_option linter.all false
set_option maxRecDepth 100000
set_option maxHeartbeats 4000000
namespace D3
open PySem PySem.Spec PyProof.Rows L2
section
variable {X : Cx} {e : Expr} {tf : A3} {pos : Pos}
end
section
open PySem.SeqAt
open PySem.AutoSeq1 (wpAny_loadPart')
open PySem.MeetsSeq PySem.MeetsSeq2 PySem.MeetsSeq3
open HT
variable {X : Cx}
end
end D3

set_option Elab.async false
set_option linter.all false
set_option maxRecDepth 100000
set_option maxHeartbeats 4000000
namespace D3
open PySem PySem.Spec PyProof.Rows L2
section
variable {X : Cx} {pins : List (Addr × Obj)} {σ : L2.St} {H : Hp} {s : Shared} {S : Addr → Prop}
end
end D3

set_option Elab.async false
set_option linter.all false
set_option maxRecDepth 100000
set_option maxHeartbeats 4000000
namespace D3
open PySem PySem.Spec PyProof.Rows L2
section
variable {K : PySem.W.Frag} {B : Bs} {S : Addr → Prop} {H : Hp} {σ : L2.St} {ρ : Fr3}
structure In2 (B : Bs) (S : Addr → Prop) (H : Hp) (a : Addr) (bs : List Addr) (rows : List (List Int)) : Prop where
  sa : S a
  a0 : B.H0 a = none
  ha : H a = some (.lst (bs.map V.ref))
  na : a ∉ bs
  nd : bs.Nodup
  len : bs.length = rows.length
  inn : ∀ (m : Nat) b ns, bs[m]? = some b → rows[m]? = some ns → S b ∧ B.H0 b = none ∧ H b = some (.lst (ns.map V.int))
structure Own2 (B : Bs) (S : Addr → Prop) (H : Hp) (σ : L2.St) (ρ : Fr3) (i : Nat) (rows : List (List Int)) : Prop where
  un : ρ[i]? = some .un
  no : ∀ (j : Nat) ds, ρ[j]? ≠ some (.own ds)
  at' : ∃ a bs, σ[i]? = some (some (.ref a)) ∧ In2 B S H a bs rows
end
noncomputable abbrev S3o := (F3 → Prop) → Fr3 → List (List Int) → Prop
section
variable {X : Cx} {e : Expr} {te : E3} {i : Nat} {sts : List Stmt} {t : S3} {T : S3o} {pos : Pos}
end
end D3

set_option Elab.async false
set_option linter.all false
set_option maxRecDepth 100000
set_option maxHeartbeats 4000000
namespace D3
open PySem PySem.Spec PyProof.Rows L2
section
variable {K : PySem.W.Frag} {B : Bs} {S : Addr → Prop} {H : Hp} {σ : L2.St} {ρ : Fr3}
end
section
variable {X : Cx} {xs M : List Str} {scope : Scope} {target elt iter : Expr} {ifs : List Expr} {pos : Pos} {ti : A3} {g : G3} {tt : B3} {tf : A3} {n : Nat} {sts : List Stmt} {T : S3o}
end
section
variable {X : Cx}
end
end D3

set_option Elab.async false
set_option linter.all false
set_option maxRecDepth 100000
set_option maxHeartbeats 4000000
namespace D3
open PySem PySem.Spec PyProof.Rows L2
noncomputable abbrev K3o := Fr3 → List (List Int) → Prop
noncomputable abbrev U3o := K3o → Fr3 → List (List Int) → Prop
section
variable {X : Cx} {e : Expr} {te : E3} {i : Nat} {st : Stmt} {sts : List Stmt} {U : U3o} {T : S3o} {pos : Pos}
end
end D3

set_option Elab.async false
set_option linter.all false
set_option maxRecDepth 100000
set_option maxHeartbeats 4000000
namespace D3
open PySem PySem.Spec PyProof.Rows L2
section
variable {X : Cx} {xs M : List Str} {scope : Scope} {target elt iter : Expr} {ifs : List Expr} {pos : Pos} {ti : A3} {g : G3} {tt : B3} {tf : A3} {n : Nat} {sts : List Stmt} {T : S3o}
end
end D3

set_option Elab.async false
set_option linter.all false
set_option maxRecDepth 100000
set_option maxHeartbeats 4000000
namespace D3
open PySem PySem.Spec PyProof.Rows L2
section
variable {K : PySem.W.Frag} {S S' : Addr → Prop} {H : Hp}
end
noncomputable abbrev frz (i : Nat) (ρ : Fr3) : Fr3 := match ρ[i]? with | some (.own ds) => ρ.set i (.val (.lst ds)) | _ => ρ
section
variable {X : Cx} {e : Expr} {es : List Expr} {te : E3} {tc : B3} {ta tf : A3}
end
section
variable {X : Cx} {k : Nat} {f : Addr} {fd : FuncData} {ps : List Str} {C : Con} {x : Str} {p pos : Pos} {e : Expr} {es : List Expr} {ta : A3}
end
section
variable {X : Cx} {st : Stmt} {rest as bs : List Stmt} {t : S3} {u u' : A3} {e c : Expr} {tf : A3} {tc : B3} {pos : Pos}
end
section
variable {P : Program} {w : World} {K : PySem.W.Frag} {mg : Str → Option Value} {base : Heap}
end
end D3

set_option Elab.async false
set_option linter.all false
set_option maxRecDepth 100000
set_option maxHeartbeats 4000000
namespace D3
open PySem PySem.Spec PyProof.Rows L2
noncomputable def del (H : Hp) (p : Addr) : Hp := fun b => if b = p then none else H b
section
variable {X : Cx} {k : Nat} {f : Addr} {fd : FuncData} {ps : List Str} {C : Con} {x : Str} {p pos : Pos} {e : Expr} {es : List Expr} {tf ta : A3}
end
section
variable {P : Program} {w : World} {K : PySem.W.Frag} {mg : Str → Option Value} {base : Heap}
end
section
variable {X : Cx} {i : Nat} {st : Stmt} {rest as bs body : List Stmt} {t u tb : S3} {e c : Expr} {te : E3} {tc : B3} {ti : A3} {pos : Pos}
end
end D3

set_option Elab.async false
set_option linter.all false
set_option maxRecDepth 100000
set_option maxHeartbeats 4000000
namespace PySem
open Sem (wp)
section
variable {prog : Program} {w : World} {A : Around} {s : Shared} {R : Result → Shared → Prop}
variable {I : Addr} {fp wr : List Addr} {G : Array GenState → Array GenState → Prop} {n : Nat} {P : Nat → Value → Prop} {St : Nat → Shared → Prop}
end
section
variable {prog : Program} {w : World} {A : Around} {E : Value → Shared → Prop} {s : Shared}
variable {I : Addr} {fp wr : List Addr} {G : Array GenState → Array GenState → Prop} {n : Nat} {P : Nat → Value → Prop} {St : Nat → Shared → Prop}
end
end PySem
namespace D3
open PySem PySem.Spec PyProof.Rows L2
section
variable {X : Cx} {e : Expr} {te : E3} {p p' pos pos' : Pos}
end
end D3

set_option Elab.async false
set_option linter.all false
set_option maxRecDepth 100000
set_option maxHeartbeats 4000000
namespace D3
open PySem PySem.Spec PyProof.Rows L2
section
open PySem.SeqAt
open PySem.AutoSeq1 (wpAny_loadPart')
open PySem.MeetsSeq PySem.MeetsSeq2 PySem.MeetsSeq3
noncomputable def RcX (op : CmpOp) (A : Around) (s : Shared) (y x : Value) (c : Bool) : Prop := ∀ (prog : Program) (w : World) (E : Value → Shared → Prop) (Q : Value → Shared → Prop), Q (.bool c) s → wpAny (model prog w) A (richCompare op y x) Q E s
inductive LexX (op : CmpOp) (A : Around) (s : Shared) (g : Nat → Nat → Bool) : List Value → List Value → Bool → Prop where
  | nil {ws : List Value} : LexX op A s g [] ws (g 0 ws.length)
  | nil' {vs : List Value} : LexX op A s g vs [] (g vs.length 0)
  | eq {v w : Value} {vs ws : List Value} {c : Bool} : EqAt A s v w true → LexX op A s g vs ws c → LexX op A s g (v :: vs) (w :: ws) c
  | ne {v w : Value} {vs ws : List Value} {c : Bool} : EqAt A s v w false → RcX op A s v w c → LexX op A s g (v :: vs) (w :: ws) c
section
variable {X : Cx} {pins : List (Addr × Obj)} {σ : L2.St} {H : Hp} {s : Shared} {S : Addr → Prop}
end
end
section
variable {X : Cx}
end
end D3

set_option Elab.async false
set_option linter.all false
set_option maxRecDepth 100000
set_option maxHeartbeats 4000000
namespace D3
open PySem PySem.Spec PyProof.Rows L2
section
open PySem.W
section
variable {prog : Program} {w : World} {A : Around} {E : Value → Shared → Prop} {s : Shared} {vs : List Value}
end
variable {X : Cx} {pins : List (Addr × Obj)} {σ : L2.St} {H : Hp} {s : Shared} {S : Addr → Prop}
end
end D3

set_option Elab.async false
set_option linter.all false
set_option maxRecDepth 100000
set_option maxHeartbeats 4000000
namespace D3
open PySem PySem.Spec PyProof.Rows
section
variable {prog : Program} {w : World} {K : Type} [DecidableEq K] (k1 : HeapKind prog w K)
inductive ItsH (h : Heap) : List K → List Value → Prop
  | nil : ItsH h [] []
  | cons {k : K} {b : Addr} {ks : List K} {vs : List Value} : k1.is h k b → ItsH h ks vs → ItsH h (k :: ks) (.ref b :: vs)
noncomputable def IsTupH (h : Heap) (ks : List K) (a : Addr) : Prop := ∃ o items n, h.get? a = some o ∧ o.cls = .type "tuple" ∧ o.data = .seq items n ∧ ItsH k1 h ks items.toList
variable {k1}
variable {A : Around} {E : Value → Shared → Prop} {s : Shared}
end
section
variable {prog : Program} {w : World} {A : Around} {E : Value → Shared → Prop} {s : Shared}
end
end D3

set_option Elab.async false
set_option linter.all false
set_option maxRecDepth 100000
set_option maxHeartbeats 4000000
namespace D3
open PySem PySem.Spec PyProof.Rows
noncomputable def DE (h : Heap) (d : Addr) (es : Array DictEntry) (ep : Nat) : Prop := ∃ o, h.get? d = some o ∧ o.ExactDict ∧ o.data = .dict es ep
section
variable {prog : Program} {w : World} {A : Around} {E : Value → Shared → Prop} {s : Shared}
end
section
open PySem.W
section
variable {prog : Program} {w : World} {A : Around} {E : Value → Shared → Prop} {s : Shared} {vs : List Value}
end
end
end D3

set_option Elab.async false
set_option linter.all false
set_option maxRecDepth 100000
set_option maxHeartbeats 4000000
namespace D3
open PySem PySem.Spec PyProof.Rows L2
section
variable {K : PySem.W.Frag} {B : Bs} {S : Addr → Prop} {H : Hp} {σ : L2.St} {ρ : Fr3} {a : Addr} {ks ds : List D} {o : HO}
end
end D3

set_option Elab.async false
set_option linter.all false
set_option maxRecDepth 100000
set_option maxHeartbeats 4000000
namespace D3
open PySem PySem.Spec PyProof.Rows L2
section
variable {K : PySem.W.Frag} {S : Addr → Prop} {H : Hp} {a : Addr} {ks ds : List D}
end
section
variable {X : Cx} {e o k f : Expr} {te tk tz : E3} {ta : A3} {pos : Pos} {i : Nat}
end
section
variable {X : Cx} {st : Stmt} {rest : List Stmt} {t : S3} {u : A3} {e : Expr} {pos : Pos}
end
section
variable {P : Program} {w : World} {K : PySem.W.Frag} {mg : Str → Option Value} {base : Heap}
end
section
variable {X : Cx} {k i : Nat} {f : Addr} {fd : FuncData} {ps : List Str} {C : Con} {x y : Str} {p pos pos' pos2 : Pos} {e : Expr} {es : List Expr} {ta : A3}
end
end D3

set_option Elab.async false
set_option linter.all false
set_option maxRecDepth 100000
set_option maxHeartbeats 4000000
namespace D3
open PySem PySem.Spec PyProof.Rows L2
noncomputable def z3 : List (List (List Int)) → List Addr → List Value → List (List (List Int) × Addr × Value)
  | k :: ks, b :: bs, u :: us => (k, b, u) :: z3 ks bs us
  | _, _, _ => []
section
variable {X : Cx} {pins : List (Addr × Obj)} {σ : L2.St} {H : Hp} {s : Shared} {S : Addr → Prop}
theorem its_ints {P : Program} {w : World} : ∀ {ns : List Int} {us : List Value}, Vals (ns.map V.int) us → ItemsAre (intKind P w) ns us
  | [], us, h => by cases h; exact .nil
  | n :: ns, us, h => by
    cases h with
    | cons h t =>
      obtain ⟨tk, rfl⟩ := h
      exact .cons (by show Value.isInt n (.int n tk) = true; simp [Value.isInt]) (its_ints t)
theorem is1 (I : Inv X pins σ H s) {ns : List Int} {v : V} {u : Value} (r : Rep X.K S H (.tup (ns.map .int)) v) (ru : RelV v u) : ∃ b, u = .ref b ∧ (tupleKind (intKind X.prog X.w)).is s.heap ns b := by
  obtain ⟨b, xs, rfl, q, rs⟩ := rep_tup r
  cases rs.intsV
  cases (show u = Value.ref b from ru)
  obtain ⟨its, rv, ⟨o, ho, hc, n, hd⟩, _⟩ := I.tuple q
  exact ⟨b, rfl, o, its.toArray, n, ho, hc, hd, by rw [List.toList_toArray]; exact its_ints rv⟩
theorem its2 (I : Inv X pins σ H s) : ∀ {kk : List (List Int)} {xs : List V} {us : List Value}, Reps X.K S H (kk.map fun ns => .tup (ns.map .int)) xs → Vals xs us → ItsH (tupleKind (intKind X.prog X.w)) s.heap kk us
  | [], xs, us, r, v => by
    simp only [List.map_nil, Reps] at r
    subst r; cases v; exact .nil
  | ns :: kk, xs, us, r, v => by
    simp only [List.map_cons, Reps] at r
    obtain ⟨x, xs, rfl, rx, r⟩ := r
    cases v with
    | cons h v =>
      obtain ⟨b, rfl, hb⟩ := is1 I rx h
      exact .cons hb (its2 I r v)
end
section
variable {prog : Program} {w : World} {K : Type} [DecidableEq K] {knd : HeapKind prog w K} {A : Around} {E : Value → Shared → Prop} {s : Shared} {d a : Addr} {k : K} {xs : List (K × Addr × Value)} {dv : Value}
end
end D3

set_option Elab.async false
set_option linter.all false
set_option maxRecDepth 100000
set_option maxHeartbeats 4000000
namespace D3
open PySem PySem.Spec PyProof.Rows L2
section
variable {X : Cx} {e o k f : Expr} {te tk tz : E3} {pos : Pos} {i : Nat}
end
end D3

set_option Elab.async false
set_option linter.all false
set_option maxRecDepth 100000
set_option maxHeartbeats 4000000
namespace D3
open PySem PySem.Spec PyProof.Rows L2
section
open PySem.W
variable {X : Cx} {pins : List (Addr × Obj)} {σ : L2.St} {H : Hp} {s : Shared} {S : Addr → Prop}
end
end D3

set_option Elab.async false
set_option linter.all false
set_option maxRecDepth 100000
set_option maxHeartbeats 4000000
namespace D3
open PySem PySem.Spec PyProof.Rows L2
section
variable {X : Cx} {pos : Pos}
end
section
variable {X : Cx} {xs M : List Str} {scope : Scope} {target elt o : Expr} {ifs : List Expr} {pos : Pos} {g : G3} {tt : B3} {te : E3} {n i : Nat}
end
section
open PySem.SeqAt
open PySem.AutoSeq1 (wpAny_loadPart')
open PySem.MeetsSeq PySem.MeetsSeq2 PySem.MeetsSeq3
end
section
variable {X : Cx}
end
section
variable {X : Cx} {i : Nat} {st : Stmt} {rest : List Stmt} {t u : S3} {e : Expr} {te : E3} {pos : Pos}
end
section
open PySem.W
end
end D3

set_option linter.all false
namespace Mt
theorem fmod_def (a b : Int) : a.fmod b = a - b * a.fdiv b := by
  have := Int.mul_fdiv_add_fmod a b; omega
theorem fmod_lt {a b : Int} (h : b ≠ 0) : (a.fmod b).natAbs < b.natAbs := by
  rw [Int.fmod_eq_emod]
  have h1 := Int.emod_nonneg a h
  have h2 := Int.emod_lt a h
  by_cases hb : 0 ≤ b
  · rw [if_pos (.inl hb)]; omega
  · by_cases hd : b ∣ a
    · rw [if_pos (.inr hd), Int.emod_eq_zero_of_dvd hd]; omega
    · rw [if_neg (by rintro (z | z) <;> contradiction)]
      have h3 : a % b ≠ 0 := fun z => hd (Int.dvd_of_emod_eq_zero z)
      omega
theorem gcd_step (a b : Int) : Int.gcd b (a.fmod b) = Int.gcd a b := by
  rw [fmod_def, Int.mul_comm, Int.gcd_sub_mul_right_right, Int.gcd_comm]
noncomputable def gcdL (ns : List Int) : Int := ns.foldl (fun g x => (Int.gcd g x : Int)) 0
theorem foldl_dvd (d : Int) : ∀ (ns : List Int) (g : Int), d ∣ ns.foldl (fun g x => (Int.gcd g x : Int)) g ↔ d ∣ g ∧ ∀ x ∈ ns, d ∣ x
  | [], g => by simp
  | x :: ns, g => by
    rw [List.foldl_cons, foldl_dvd d ns]
    constructor
    · rintro ⟨h1, h2⟩
      refine ⟨Int.dvd_trans h1 (Int.gcd_dvd_left g x), fun y hy => ?_⟩
      rcases List.mem_cons.mp hy with rfl | hy
      · exact Int.dvd_trans h1 (Int.gcd_dvd_right g y)
      · exact h2 y hy
    · rintro ⟨h1, h2⟩
      exact ⟨Int.dvd_coe_gcd h1 (h2 x List.mem_cons_self), fun y hy => h2 y (List.mem_cons_of_mem _ hy)⟩
theorem dvd_gcdL {d : Int} {ns : List Int} : d ∣ gcdL ns ↔ ∀ x ∈ ns, d ∣ x := by
  unfold gcdL; rw [foldl_dvd]; simp
theorem gcdL_dvd {ns : List Int} {x : Int} (h : x ∈ ns) : gcdL ns ∣ x := dvd_gcdL.mp (Int.dvd_refl _) x h
theorem foldl_nonneg : ∀ (ns : List Int) (g : Int), 0 ≤ g → 0 ≤ ns.foldl (fun g x => (Int.gcd g x : Int)) g
  | [], g, h => h
  | x :: ns, g, h => foldl_nonneg ns _ (Int.natCast_nonneg _)
theorem gcdL_nonneg (ns : List Int) : 0 ≤ gcdL ns := foldl_nonneg ns 0 (Int.le_refl 0)
theorem gcdL_unique {ns : List Int} {g : Int} (h0 : 0 ≤ g) (h1 : ∀ x ∈ ns, g ∣ x) (h2 : ∀ d : Int, (∀ x ∈ ns, d ∣ x) → d ∣ g) : gcdL ns = g :=
  Int.dvd_antisymm (gcdL_nonneg ns) h0 (h2 _ fun x hx => gcdL_dvd hx) (dvd_gcdL.mpr h1)
theorem gcdL_zero {ns : List Int} (h : gcdL ns = 0) : ∀ x ∈ ns, x = 0 := fun x hx => Int.zero_dvd.mp (h ▸ gcdL_dvd hx)
theorem gcdL_le {ns : List Int} {x : Int} (h : x ∈ ns) (h0 : x ≠ 0) : gcdL ns ≤ x.natAbs := by
  have h1 := gcdL_dvd h
  have h2 : gcdL ns ∣ (x.natAbs : Int) := Int.dvd_natAbs.mpr h1
  exact Int.le_of_dvd (by omega) h2
theorem gcdL_pos {ns : List Int} {x : Int} (h : x ∈ ns) (h0 : x ≠ 0) : 0 < gcdL ns := by
  have h1 := gcdL_nonneg ns
  have h2 : gcdL ns ≠ 0 := fun z => h0 (gcdL_zero z x h)
  omega
theorem gcdL_congr {ns ms : List Int} (h : ∀ d : Int, (∀ x ∈ ns, d ∣ x) ↔ ∀ x ∈ ms, d ∣ x) : gcdL ns = gcdL ms :=
  gcdL_unique (gcdL_nonneg ms) (fun x hx => (h _).mpr (fun y hy => gcdL_dvd hy) x hx) fun d hd => dvd_gcdL.mpr ((h d).mp hd)
theorem gcdL_mul (k : Int) (ns : List Int) : gcdL (ns.map (k * ·)) = k.natAbs * gcdL ns := by
  apply Int.dvd_antisymm (gcdL_nonneg _) (Int.mul_nonneg (Int.natCast_nonneg _) (gcdL_nonneg _))
  · by_cases hk : k = 0
    · subst hk; simp
    -- k divides the left, so write it k * m
    have h1 : (k.natAbs : Int) ∣ gcdL (ns.map (k * ·)) := dvd_gcdL.mpr fun x hx => by
      obtain ⟨y, _, rfl⟩ := List.mem_map.mp hx
      exact Int.dvd_trans (Int.natAbs_dvd.mpr (Int.dvd_refl k)) (Int.dvd_mul_right k y)
    obtain ⟨m, hm⟩ := h1
    rw [hm]
    apply Int.mul_dvd_mul_left
    apply dvd_gcdL.mpr
    intro y hy
    have h2 : gcdL (ns.map (k * ·)) ∣ k * y := gcdL_dvd (List.mem_map.mpr ⟨y, hy, rfl⟩)
    rw [hm] at h2
    have h3 : k * m ∣ k * y := by
      rcases Int.natAbs_eq k with e | e
      · rw [e]; rw [← e]; rw [← e] at h2; exact h2
      · have e' : (k.natAbs : Int) = -k := by omega
        rw [e', Int.neg_mul] at h2
        exact Int.neg_dvd.mp h2
    exact Int.dvd_of_mul_dvd_mul_left hk h3
  · apply dvd_gcdL.mpr
    intro x hx
    obtain ⟨y, hy, rfl⟩ := List.mem_map.mp hx
    exact Int.mul_dvd_mul (Int.natAbs_dvd.mpr (Int.dvd_refl k)) (gcdL_dvd hy)
end Mt

set_option maxHeartbeats 4000000
namespace My
open PySem PySem.Spec PyProof.Rows L2 D3
open Mt
noncomputable def whole : D → Bool
  | .int _ => true
  | _ => false
structure Q4 where
  a : Int
  b : Int
  c : Int
  d : Int
noncomputable def qd (q : Q4) : D := .tup [.int q.a, .int q.b, .int q.c, .int q.d]
noncomputable def qmul (p q : Q4) : Q4 := ⟨p.a * q.a - p.b * q.b - p.c * q.c - p.d * q.d, p.a * q.b + p.b * q.a + p.c * q.d - p.d * q.c, p.a * q.c - p.b * q.d + p.c * q.a + p.d * q.b, p.a * q.d + p.b * q.c - p.c * q.b + p.d * q.a⟩
noncomputable def qbar (q : Q4) : Q4 := ⟨q.a, -q.b, -q.c, -q.d⟩
noncomputable def qsize (q : Q4) : Int := q.a * q.a + q.b * q.b + q.c * q.c + q.d * q.d
structure Bq (k : Nat) (q : Q4) : Prop where
  a : Bd k q.a
  b : Bd k q.b
  c : Bd k q.c
  d : Bd k q.d
theorem Bq.mono {k l : Nat} {q : Q4} (h : Bq k q) (hl : k ≤ l) : Bq l q := ⟨h.a.mono hl, h.b.mono hl, h.c.mono hl, h.d.mono hl⟩
theorem Bq.mul {k l : Nat} {p q : Q4} (h : Bq k p) (g : Bq l q) : Bq (k + l + 3) (qmul p q) := by
  have e : ∀ {x y z w : Int}, Bd (k + l) x → Bd (k + l) y → Bd (k + l) z → Bd (k + l) w → Bd (k + l + 3) (x - y - z - w) := fun hx hy hz hw => by
    have := ((hx.sub hy).sub hz).sub hw
    exact this.mono (by omega)
  have f : ∀ {x y z w : Int}, Bd (k + l) x → Bd (k + l) y → Bd (k + l) z → Bd (k + l) w → Bd (k + l + 3) (x + y + z - w) := fun hx hy hz hw => by
    have := ((hx.add hy).add hz).sub hw
    exact this.mono (by omega)
  have f2 : ∀ {x y z w : Int}, Bd (k + l) x → Bd (k + l) y → Bd (k + l) z → Bd (k + l) w → Bd (k + l + 3) (x - y + z + w) := fun hx hy hz hw => by
    have := ((hx.sub hy).add hz).add hw
    exact this.mono (by omega)
  have f3 : ∀ {x y z w : Int}, Bd (k + l) x → Bd (k + l) y → Bd (k + l) z → Bd (k + l) w → Bd (k + l + 3) (x + y - z + w) := fun hx hy hz hw => by
    have := ((hx.add hy).sub hz).add hw
    exact this.mono (by omega)
  exact ⟨e (h.a.mul g.a) (h.b.mul g.b) (h.c.mul g.c) (h.d.mul g.d), f (h.a.mul g.b) (h.b.mul g.a) (h.c.mul g.d) (h.d.mul g.c), f2 (h.a.mul g.c) (h.b.mul g.d) (h.c.mul g.a) (h.d.mul g.b), f3 (h.a.mul g.d) (h.b.mul g.c) (h.c.mul g.b) (h.d.mul g.a)⟩
theorem Bq.bar {k : Nat} {q : Q4} (h : Bq k q) : Bq k (qbar q) := ⟨h.a, h.b.neg, h.c.neg, h.d.neg⟩
structure P3 where
  x : Int
  y : Int
  z : Int
noncomputable def pt (p : P3) : D := .tup [.int p.x, .int p.y, .int p.z]
structure Bp (k : Nat) (p : P3) : Prop where
  x : Bd k p.x
  y : Bd k p.y
  z : Bd k p.z
noncomputable def mix3 (t : Int) (p : P3) (u : Int) (q : P3) : P3 := ⟨t * p.x + u * q.x, t * p.y + u * q.y, t * p.z + u * q.z⟩
noncomputable def mix4 (t : Int) (p : Q4) (u : Int) (q : Q4) : Q4 := ⟨t * p.a + u * q.a, t * p.b + u * q.b, t * p.c + u * q.c, t * p.d + u * q.d⟩
theorem FOR_cons {g : G3} {tb : S3} {d : D} {ds : List D} {Φ : F3 → Prop} {ρ : Fr3} (h : g d ρ fun ρ1 => tb (loopS (FOR g tb ds) Φ) ρ1) : FOR g tb (d :: ds) Φ ρ := h
theorem FOR_nil {g : G3} {tb : S3} {Φ : F3 → Prop} {ρ : Fr3} (h : Φ (.nx ρ)) : FOR g tb [] Φ ρ := h
theorem sIx_n (n d k : Nat) : HT.sIx n d (some (k : Int)) = min k n := by
  show (if (k : Int) < 0 then ((k : Int) + (n : Int)).toNat else min (k : Int).toNat n) = min k n
  rw [if_neg (by omega), Int.toNat_natCast]
theorem cut_to {α : Type} (xs : List α) (k : Nat) : D3.cutD xs none (some (k : Int)) = xs.take k := by
  unfold D3.cutD
  rw [sIx_n]
  show List.take (min k xs.length - 0) (List.drop 0 xs) = _
  rw [List.drop_zero, Nat.sub_zero, List.take_eq_take_iff]; omega
theorem cut_from {α : Type} (xs : List α) (k : Nat) : D3.cutD xs (some (k : Int)) none = xs.drop k := by
  unfold D3.cutD
  rw [sIx_n]
  show List.take (xs.length - min k xs.length) (List.drop (min k xs.length) xs) = _
  rcases Nat.le_total k xs.length with h | h
  · rw [Nat.min_eq_left h, List.take_of_length_le (by rw [List.length_drop]; omega)]
  · rw [Nat.min_eq_right h, List.drop_length, List.drop_of_length_le h, List.take_nil]
theorem cut_few {α : Type} (xs : List α) (j k : Nat) : (D3.cutD xs (some (j : Int)) (some (k : Int))).length ≤ k - j := by
  unfold D3.cutD
  rw [sIx_n, sIx_n, List.length_take]
  omega
theorem cutD_map {α β : Type} (f : α → β) (xs : List α) (lo hi : Option Int) : D3.cutD (xs.map f) lo hi = (D3.cutD xs lo hi).map f := by
  unfold D3.cutD; rw [List.length_map, List.map_take, List.map_drop]
theorem cutD_len {α : Type} (xs : List α) (lo hi : Option Int) : (D3.cutD xs lo hi).length ≤ xs.length := by
  unfold D3.cutD; rw [List.length_take, List.length_drop]; omega
theorem deps_ints (ms : List Int) : deps (ms.map D.int) = 0 := Nat.le_zero.mp (deps_le fun d hd => by obtain ⟨m, _, rfl⟩ := List.mem_map.mp hd; exact Nat.le_refl 0)
theorem COMP_list {α : Type} {te : E3} {ρ : Fr3} {Φ : List D → Prop} {ds : List D} (g h : α → D) (qs : List α) (e : ds = qs.map g) (hl : qs.length ≤ 1000) (hs : ∀ q ∈ qs, ∀ Ψ : D → Prop, Ψ (h q) → te (ρ.set 0 (.val (g q))) Ψ) (hΦ : Φ (qs.map h)) : COMP (gN 0) (fun _ Φ => Φ true) te ρ ds [] Φ := by
  subst e
  have : ∀ (is : List α) (acc : List D), (∀ i ∈ is, i ∈ qs) → acc.length + is.length ≤ 1000 → Φ (acc ++ is.map h) → COMP (gN 0) (fun _ Φ => Φ true) te ρ (is.map g) acc Φ := by
    intro is
    induction is with
    | nil => intro acc _ _ h; rw [List.map_nil, List.append_nil] at h; exact h
    | cons i is ih =>
      intro acc hi hl h
      refine hs i (hi i List.mem_cons_self) _ ⟨small1000 (by simp only [List.length_cons] at hl; omega), ?_⟩
      refine ih (acc ++ [_]) (fun j hj => hi j (List.mem_cons_of_mem _ hj)) (by simp only [List.length_cons, List.length_append, List.length_nil] at hl ⊢; omega) ?_
      rw [List.append_assoc, List.singleton_append]
      exact h
  exact this qs [] (fun i hi => hi) (by simpa using hl) (by simpa using hΦ)
theorem Q4.eq {p q : Q4} (ha : p.a = q.a) (hb : p.b = q.b) (hc : p.c = q.c) (hd : p.d = q.d) : p = q := by
  cases p; cases q; simp only at ha hb hc hd; subst ha hb hc hd; rfl
theorem qmul_assoc (p q r : Q4) : qmul (qmul p q) r = qmul p (qmul q r) := by
  apply Q4.eq <;> simp only [qmul] <;> grind
theorem qbar_mul (p q : Q4) : qbar (qmul p q) = qmul (qbar q) (qbar p) := by
  apply Q4.eq <;> simp only [qmul, qbar] <;> grind
theorem qsize_mul (p q : Q4) : qsize (qmul p q) = qsize p * qsize q := by
  simp only [qmul, qsize]; grind
noncomputable def q1 : Q4 := ⟨1, 0, 0, 0⟩
noncomputable def qadd (p q : Q4) : Q4 := ⟨p.a + q.a, p.b + q.b, p.c + q.c, p.d + q.d⟩
theorem qmul_add (p q r : Q4) : qmul p (qadd q r) = qadd (qmul p q) (qmul p r) := by
  apply Q4.eq <;> simp only [qmul, qadd] <;> grind
theorem bd_size {k : Nat} {q : Q4} (h : Bq k q) : Bd (2 * k + 3) (qsize q) := by
  have := (((h.a.mul h.a).add (h.b.mul h.b)).add (h.c.mul h.c)).add (h.d.mul h.d)
  exact this.mono (by omega)
noncomputable def ql (q : Q4) : List Int := [q.a, q.b, q.c, q.d]
noncomputable def q0 : Q4 := ⟨0, 0, 0, 0⟩
noncomputable def low (q : Q4) : Bool := HT.lexLt (ql q) [0, 0, 0, 0]
noncomputable def shr (q : Q4) : Int := if low q then -gcdL (ql q) else gcdL (ql q)
noncomputable def qplain (q : Q4) : Q4 := ⟨q.a.fdiv (shr q), q.b.fdiv (shr q), q.c.fdiv (shr q), q.d.fdiv (shr q)⟩
theorem ql_zero {q : Q4} (h : gcdL (ql q) = 0) : q = q0 := by
  have h := gcdL_zero h
  have a := h q.a (by simp [ql]); have b := h q.b (by simp [ql]); have c := h q.c (by simp [ql]); have d := h q.d (by simp [ql])
  cases q; simp only at a b c d; subst a b c d; rfl
theorem gcd_bd {k : Nat} {q : Q4} (h : Bq k q) : Bd k (gcdL (ql q)) := by
  by_cases hz : gcdL (ql q) = 0
  · rw [hz]; unfold Bd; exact Nat.pow_pos (by decide)
  · have hx : ∃ x ∈ ql q, x ≠ 0 := by
      apply Classical.byContradiction
      intro hno
      apply hz
      refine gcdL_unique (by decide) (fun x hx => ?_) (fun d _ => Int.dvd_zero d)
      have : x = 0 := Classical.byContradiction fun z => hno ⟨x, hx, z⟩
      rw [this]; exact Int.dvd_refl 0
    obtain ⟨x, hx, x0⟩ := hx
    have le := gcdL_le hx x0
    have nn := gcdL_nonneg (ql q)
    have bx : Bd k x := by
      simp only [ql, List.mem_cons, List.not_mem_nil, or_false] at hx
      rcases hx with rfl | rfl | rfl | rfl
      · exact h.a
      · exact h.b
      · exact h.c
      · exact h.d
    unfold Bd at *
    omega
theorem shr_ne {q : Q4} (h : q ≠ q0) : shr q ≠ 0 := by
  have : gcdL (ql q) ≠ 0 := fun z => h (ql_zero z)
  unfold shr; split <;> omega
theorem shr_bd {k : Nat} {q : Q4} (h : Bq k q) : Bd k (shr q) := by
  unfold shr; split
  · exact (gcd_bd h).neg
  · exact gcd_bd h
noncomputable instance : DecidableEq Q4 := fun p q => if h : p.a = q.a ∧ p.b = q.b ∧ p.c = q.c ∧ p.d = q.d then .isTrue (by cases p; cases q; simp only at h; obtain ⟨h1, h2, h3, h4⟩ := h; subst h1 h2 h3 h4; rfl) else .isFalse fun e => h (by subst e; exact ⟨rfl, rfl, rfl, rfl⟩)
theorem eqD_q (p q : Q4) : eqD (qd p) (qd q) = decide (p = q) := by
  by_cases h : p = q
  · rw [h, decide_eq_true rfl]; exact eqD_refl _
  · rw [decide_eq_false h]
    cases p with | mk a b c d =>
    cases q with | mk e f g i =>
    show ((a == e) && ((b == f) && ((c == g) && ((d == i) && true)))) = false
    apply Classical.byContradiction
    intro hn
    apply h
    simp at hn
    obtain ⟨rfl, rfl, rfl, rfl⟩ := hn
    rfl
noncomputable def lead (q : Q4) : Int := if q.a = 0 then if q.b = 0 then if q.c = 0 then q.d else q.c else q.b else q.a
theorem low_lead (q : Q4) : low q = decide (lead q < 0) := by
  unfold low lead ql
  simp only [HT.lexLt]
  split
  · split
    · split
      · split
        · rename_i h; rw [h]; rfl
        · rfl
      · rfl
    · rfl
  · rfl
noncomputable def qsc (s : Int) (p : Q4) : Q4 := ⟨s * p.a, s * p.b, s * p.c, s * p.d⟩
theorem ql_sc (s : Int) (p : Q4) : ql (qsc s p) = (ql p).map (s * ·) := rfl
theorem qsc_sc (s t : Int) (p : Q4) : qsc s (qsc t p) = qsc (s * t) p := by simp only [qsc, Int.mul_assoc]
theorem lead_sc {s : Int} (hs : s ≠ 0) (p : Q4) : lead (qsc s p) = s * lead p := by
  unfold lead qsc
  simp only [Int.mul_eq_zero, hs, false_or]
  split
  · split
    · split <;> rfl
    · rfl
  · rfl
theorem lead_zero {q : Q4} (h : lead q = 0) : q = q0 := by
  unfold lead at h
  cases q with | mk a b c d =>
  simp only at h
  split at h
  · split at h
    · split at h
      · rename_i h1 h2 h3; subst h1 h2 h3 h; rfl
      · contradiction
    · contradiction
  · contradiction
structure IsPlain (p : Q4) : Prop where
  g : gcdL (ql p) = 1
  l : 0 < lead p
theorem IsPlain.ne {p : Q4} (h : IsPlain p) : p ≠ q0 := by
  rintro rfl; exact absurd h.l (by decide)
theorem qplain_of {s : Int} {p : Q4} (hs : s ≠ 0) (h : IsPlain p) : qplain (qsc s p) = p := by
  have e : shr (qsc s p) = s := by
    unfold shr
    rw [low_lead, lead_sc hs, ql_sc, gcdL_mul, h.g, Int.mul_one]
    rcases Int.lt_or_gt_of_ne hs with q | q
    · have : s * lead p < 0 := Int.mul_neg_of_neg_of_pos q h.l
      rw [if_pos (decide_eq_true this)]; omega
    · have : 0 < s * lead p := Int.mul_pos q h.l
      rw [if_neg (by rw [decide_eq_true_eq]; omega)]; omega
  unfold qplain
  rw [e]
  simp only [qsc, Int.mul_fdiv_cancel_left _ hs]
theorem plain_mul {q : Q4} (h : q ≠ q0) : q = qsc (shr q) (qplain q) := by
  have hd : ∀ x ∈ ql q, shr q ∣ x := fun x hx => by
    have := gcdL_dvd hx
    unfold shr; split
    · exact Int.neg_dvd.mpr this
    · exact this
  have e : ∀ x ∈ ql q, shr q * x.fdiv (shr q) = x := fun x hx => Int.mul_fdiv_cancel' (hd x hx)
  have a := e q.a (by simp [ql]); have b := e q.b (by simp [ql]); have c := e q.c (by simp [ql]); have d := e q.d (by simp [ql])
  unfold qplain qsc
  cases q
  simp only at a b c d ⊢
  rw [a, b, c, d]
theorem shr_abs (q : Q4) : ((shr q).natAbs : Int) = gcdL (ql q) := by
  have := gcdL_nonneg (ql q)
  unfold shr; split <;> omega
theorem isPlain {q : Q4} (h : q ≠ q0) : IsPlain (qplain q) := by
  have e := plain_mul h
  have hs := shr_ne h
  constructor
  · have g := shr_abs q
    have : gcdL (ql q) = (shr q).natAbs * gcdL (ql (qplain q)) := by
      have e2 : gcdL (ql q) = gcdL (ql (qsc (shr q) (qplain q))) := by rw [← e]
      rw [e2, ql_sc, gcdL_mul]
    rw [← g] at this
    have h0 : ((shr q).natAbs : Int) ≠ 0 := by omega
    have h1 : ((shr q).natAbs : Int) * 1 = (shr q).natAbs * gcdL (ql (qplain q)) := by rw [Int.mul_one]; exact this
    exact (Int.eq_of_mul_eq_mul_left h0 h1).symm
  · have l : lead q = shr q * lead (qplain q) := by
      have e2 : lead q = lead (qsc (shr q) (qplain q)) := by rw [← e]
      rw [e2, lead_sc hs]
    have g := gcdL_nonneg (ql q)
    have l0 : lead q ≠ 0 := fun z => h (lead_zero z)
    have lp0 : lead (qplain q) ≠ 0 := fun z => l0 (by rw [l, z, Int.mul_zero])
    rcases Int.lt_or_gt_of_ne lp0 with z | z
    · exfalso
      by_cases hl : lead q < 0
      · have es : shr q = -gcdL (ql q) := by unfold shr; rw [low_lead, if_pos (decide_eq_true hl)]
        have : 0 ≤ shr q * lead (qplain q) := Int.mul_nonneg_of_nonpos_of_nonpos (by omega) (by omega)
        omega
      · have es : shr q = gcdL (ql q) := by unfold shr; rw [low_lead, if_neg (by rw [decide_eq_true_eq]; exact hl)]
        have : shr q * lead (qplain q) ≤ 0 := Int.mul_nonpos_of_nonneg_of_nonpos (by omega) (by omega)
        omega
    · exact z
theorem qplain_sc {s : Int} {q : Q4} (hs : s ≠ 0) (h : q ≠ q0) : qplain (qsc s q) = qplain q := by
  rw [plain_mul h, qsc_sc, qplain_of (Int.mul_ne_zero hs (shr_ne h)) (isPlain h), qplain_of (shr_ne h) (isPlain h)]
theorem bd_le {k : Nat} {x y : Int} (h : Bd k x) (le : y.natAbs ≤ x.natAbs) : Bd k y := Nat.lt_of_le_of_lt le h
theorem plain_bd {k : Nat} {q : Q4} (h : Bq k q) (h0 : q ≠ q0) : Bq k (qplain q) := by
  have e := plain_mul h0
  have hs := shr_ne h0
  have le : ∀ x y : Int, x = shr q * y → y.natAbs ≤ x.natAbs := fun x y z => by
    rw [z, Int.natAbs_mul]
    exact Nat.le_mul_of_pos_left _ (by omega)
  generalize qplain q = p at *
  generalize shr q = s at *
  subst e
  exact ⟨bd_le h.a (le _ _ rfl), bd_le h.b (le _ _ rfl), bd_le h.c (le _ _ rfl), bd_le h.d (le _ _ rfl)⟩
structure Sm (i : Nat) (m : Int) (a b c d : Int) : Prop where
  a : (a.natAbs : Int) ≤ i * m
  b : (b.natAbs : Int) ≤ i * m
  c : (c.natAbs : Int) ≤ i * m
  d : (d.natAbs : Int) ≤ i * m
theorem le_up {i : Nat} {m x : Int} (hm : 0 ≤ m) (h : (x.natAbs : Int) ≤ i * m) : (x.natAbs : Int) ≤ ((i + 1 : Nat) : Int) * m := by
  have e : ((i + 1 : Nat) : Int) * m = i * m + m := by push_cast; grind
  omega
theorem le_add {i : Nat} {m x z : Int} (h1 : -m ≤ z) (h2 : z ≤ m) (h : (x.natAbs : Int) ≤ i * m) : ((x + z).natAbs : Int) ≤ ((i + 1 : Nat) : Int) * m := by
  have e : ((i + 1 : Nat) : Int) * m = i * m + m := by push_cast; grind
  omega
theorem bd_sum {i : Nat} {m x : Int} (hi : i ≤ 100) (hm0 : 0 ≤ m) (hm : m ≤ 10 ^ 30) (h : (x.natAbs : Int) ≤ i * m) : Bd 107 x := by
  have h1 : (i : Int) * m ≤ 100 * 10 ^ 30 := Int.mul_le_mul (by omega) hm hm0 (by decide)
  exact bd_of (100 * 10 ^ 30) (by omega) (by decide)
theorem mod4 (i : Nat) : (0 + (i : Int)).fmod 4 = 0 ∨ (0 + (i : Int)).fmod 4 = 1 ∨ (0 + (i : Int)).fmod 4 = 2 ∨ (0 + (i : Int)).fmod 4 = 3 := by
  rw [fmod_pos (by decide)]; omega
theorem ups_at {n : Nat} {pre post : List D} {d : D} (h : pre ++ d :: post = ups 0 n) : d = .int (0 + (pre.length : Nat)) ∧ pre.length < n := by
  have hlen : pre.length < (ups 0 n).length := by rw [← h]; simp
  rw [ups_length] at hlen
  have e1 : (ups 0 n)[pre.length]? = some d := by rw [← h]; simp
  simp only [ups, List.getElem?_map, List.getElem?_range hlen] at e1
  exact ⟨(Option.some.inj e1).symm, hlen⟩
structure T9 where
  p : P3
  q : P3
  r : P3
  n : Int
noncomputable def tl (t : T9) : List Int := [t.p.x, t.p.y, t.p.z, t.q.x, t.q.y, t.q.z, t.r.x, t.r.y, t.r.z, t.n]
noncomputable def tr (t : T9) : D := .tup [pt t.p, pt t.q, pt t.r]
noncomputable def tb (t : T9) : D := .tup [tr t, .int t.n]
structure Bt (k : Nat) (t : T9) : Prop where
  p : Bp k t.p
  q : Bp k t.q
  r : Bp k t.r
  n : Bd k t.n
theorem Bt.mem {k : Nat} {t : T9} (h : Bt k t) : ∀ x ∈ tl t, Bd k x := by
  intro x hx
  simp only [tl, List.mem_cons, List.not_mem_nil, or_false] at hx
  rcases hx with rfl | rfl | rfl | rfl | rfl | rfl | rfl | rfl | rfl | rfl
  · exact h.p.x
  · exact h.p.y
  · exact h.p.z
  · exact h.q.x
  · exact h.q.y
  · exact h.q.z
  · exact h.r.x
  · exact h.r.y
  · exact h.r.z
  · exact h.n
noncomputable def rawT (q : Q4) : T9 := ⟨⟨q.a * q.a + q.b * q.b - q.c * q.c - q.d * q.d, 2 * (q.b * q.c - q.a * q.d), 2 * (q.b * q.d + q.a * q.c)⟩,
  ⟨2 * (q.b * q.c + q.a * q.d), q.a * q.a - q.b * q.b + q.c * q.c - q.d * q.d, 2 * (q.c * q.d - q.a * q.b)⟩,
  ⟨2 * (q.b * q.d - q.a * q.c), 2 * (q.c * q.d + q.a * q.b), q.a * q.a - q.b * q.b - q.c * q.c + q.d * q.d⟩, q.a * q.a + q.b * q.b + q.c * q.c + q.d * q.d⟩
noncomputable def p3div (p : P3) (g : Int) : P3 := ⟨p.x.fdiv g, p.y.fdiv g, p.z.fdiv g⟩
noncomputable def divT (t : T9) (g : Int) : T9 := ⟨p3div t.p g, p3div t.q g, p3div t.r g, t.n.fdiv g⟩
noncomputable def lowT (t : T9) : T9 := divT t (gcdL (tl t))
noncomputable def turnT (q : Q4) : T9 := lowT (rawT q)
theorem bd_two {k : Nat} {x : Int} (h : Bd k x) : Bd (k + 2) (2 * x) := by
  have := (show Bd 2 (2 : Int) from bd_lit (by decide)).mul h
  exact this.mono (by omega)
theorem bd_pm {k : Nat} {x y z w : Int} (hx : Bd k x) (hy : Bd k y) (hz : Bd k z) (hw : Bd k w) : Bd (k + 3) (x + y - z - w) ∧ Bd (k + 3) (x - y + z - w) ∧ Bd (k + 3) (x - y - z + w) ∧ Bd (k + 3) (x + y + z + w) :=
  ⟨(((hx.add hy).sub hz).sub hw).mono (by omega), (((hx.sub hy).add hz).sub hw).mono (by omega), (((hx.sub hy).sub hz).add hw).mono (by omega), (((hx.add hy).add hz).add hw).mono (by omega)⟩
theorem rawT_bd {k : Nat} {q : Q4} (h : Bq k q) : Bt (2 * k + 3) (rawT q) := by
  have s : ∀ {x y : Int}, Bd k x → Bd k y → Bd (2 * k) (x * y) := fun hx hy => (hx.mul hy).mono (by omega)
  obtain ⟨p1, p2, p3, p4⟩ := bd_pm (s h.a h.a) (s h.b h.b) (s h.c h.c) (s h.d h.d)
  have d : ∀ {x y : Int}, Bd (2 * k) x → Bd (2 * k) y → Bd (2 * k + 3) (2 * (x - y)) ∧ Bd (2 * k + 3) (2 * (x + y)) := fun hx hy =>
    ⟨(bd_two (hx.sub hy)).mono (by omega), (bd_two (hx.add hy)).mono (by omega)⟩
  exact ⟨⟨p1, (d (s h.b h.c) (s h.a h.d)).1, (d (s h.b h.d) (s h.a h.c)).2⟩, ⟨(d (s h.b h.c) (s h.a h.d)).2, p2, (d (s h.c h.d) (s h.a h.b)).1⟩, ⟨(d (s h.b h.d) (s h.a h.c)).1, (d (s h.c h.d) (s h.a h.b)).2, p3⟩, p4⟩
theorem sq_nn (x : Int) : 0 ≤ x * x := by
  rcases Int.le_total 0 x with h | h
  · exact Int.mul_nonneg h h
  · exact Int.mul_nonneg_of_nonpos_of_nonpos h h
theorem qsize_nn (q : Q4) : 0 ≤ qsize q := by
  have := sq_nn q.a; have := sq_nn q.b; have := sq_nn q.c; have := sq_nn q.d
  unfold qsize; omega
theorem sq_zero {x : Int} (h : x * x = 0) : x = 0 := by
  rcases Int.mul_eq_zero.mp h with z | z <;> exact z
theorem qsize_zero {q : Q4} (h : qsize q = 0) : q = q0 := by
  have a := sq_nn q.a; have b := sq_nn q.b; have c := sq_nn q.c; have d := sq_nn q.d
  unfold qsize at h
  have a0 := sq_zero (show q.a * q.a = 0 by omega); have b0 := sq_zero (show q.b * q.b = 0 by omega)
  have c0 := sq_zero (show q.c * q.c = 0 by omega); have d0 := sq_zero (show q.d * q.d = 0 by omega)
  cases q; simp only at a0 b0 c0 d0; subst a0 b0 c0 d0; rfl
theorem qsize_pos {q : Q4} (h : q ≠ q0) : 0 < qsize q := by
  have := qsize_nn q
  have : qsize q ≠ 0 := fun z => h (qsize_zero z)
  omega
theorem rawT_n (q : Q4) : (rawT q).n = qsize q := rfl
theorem gcdL_tl {k : Nat} {t : T9} (h0 : t.n ≠ 0) (h : Bt k t) : 0 < gcdL (tl t) ∧ Bd k (gcdL (tl t)) := by
  have hm : t.n ∈ tl t := by simp [tl]
  have p := gcdL_pos hm h0
  refine ⟨p, ?_⟩
  have le := gcdL_le hm h0
  have b := h.n
  unfold Bd at *
  omega
theorem div_le {g x : Int} (hg : 0 < g) (h : g ∣ x) : (x.fdiv g).natAbs ≤ x.natAbs := by
  have e : g * x.fdiv g = x := Int.mul_fdiv_cancel' h
  have : x.natAbs = g.natAbs * (x.fdiv g).natAbs := by rw [← Int.natAbs_mul, e]
  rw [this]
  exact Nat.le_mul_of_pos_left _ (by omega)
theorem map_div {ms : List Int} (h : ∀ x ∈ ms, gcdL ms ∣ x) : (ms.map (·.fdiv (gcdL ms))).map (gcdL ms * ·) = ms := by
  rw [List.map_map]
  conv => rhs; rw [← List.map_id ms]
  exact List.map_congr_left fun x hx => Int.mul_fdiv_cancel' (h x hx)
theorem gcdL_low {ms : List Int} (h0 : gcdL ms ≠ 0) : gcdL (ms.map (·.fdiv (gcdL ms))) = 1 := by
  have e := gcdL_mul (gcdL ms) (ms.map (·.fdiv (gcdL ms)))
  rw [map_div fun x hx => gcdL_dvd hx, Int.natAbs_of_nonneg (gcdL_nonneg ms)] at e
  have e2 : gcdL ms * 1 = gcdL ms * gcdL (ms.map (·.fdiv (gcdL ms))) := by rw [Int.mul_one]; exact e
  exact (Int.eq_of_mul_eq_mul_left h0 e2).symm
structure LowT (t : T9) : Prop where
  g : 0 < gcdL (tl t)
  n : 0 < (lowT t).n
  one : gcdL (tl (lowT t)) = 1
  px : gcdL (tl t) * (lowT t).p.x = t.p.x
  py : gcdL (tl t) * (lowT t).p.y = t.p.y
  pz : gcdL (tl t) * (lowT t).p.z = t.p.z
  qx : gcdL (tl t) * (lowT t).q.x = t.q.x
  qy : gcdL (tl t) * (lowT t).q.y = t.q.y
  qz : gcdL (tl t) * (lowT t).q.z = t.q.z
  rx : gcdL (tl t) * (lowT t).r.x = t.r.x
  ry : gcdL (tl t) * (lowT t).r.y = t.r.y
  rz : gcdL (tl t) * (lowT t).r.z = t.r.z
  nn : gcdL (tl t) * (lowT t).n = t.n
theorem lowT_of {t : T9} (h : 0 < t.n) : LowT t := by
  have hm : t.n ∈ tl t := by simp [tl]
  have g := gcdL_pos hm (by omega)
  have e : ∀ x ∈ tl t, gcdL (tl t) * x.fdiv (gcdL (tl t)) = x := fun x hx => Int.mul_fdiv_cancel' (gcdL_dvd hx)
  have en := e t.n hm
  refine ⟨g, ?_, (show gcdL ((tl t).map (·.fdiv (gcdL (tl t)))) = 1 from gcdL_low (by omega)), e _ (by simp [tl]), e _ (by simp [tl]), e _ (by simp [tl]), e _ (by simp [tl]), e _ (by simp [tl]), e _ (by simp [tl]), e _ (by simp [tl]), e _ (by simp [tl]), e _ (by simp [tl]), en⟩
  have : (lowT t).n = t.n.fdiv (gcdL (tl t)) := rfl
  rw [this]
  rcases Int.lt_or_le 0 (t.n.fdiv (gcdL (tl t))) with z | z
  · exact z
  · have := Int.mul_nonpos_of_nonneg_of_nonpos (Int.le_of_lt g) z
    omega
theorem lowT_bd {k : Nat} {t : T9} (h : 0 < t.n) (bt : Bt k t) : Bt k (lowT t) := by
  have l := lowT_of h
  have b : ∀ x ∈ tl t, Bd k (x.fdiv (gcdL (tl t))) := fun x hx => bd_le (bt.mem x hx) (div_le l.g (gcdL_dvd hx))
  exact ⟨⟨b _ (by simp [tl]), b _ (by simp [tl]), b _ (by simp [tl])⟩, ⟨b _ (by simp [tl]), b _ (by simp [tl]), b _ (by simp [tl])⟩, ⟨b _ (by simp [tl]), b _ (by simp [tl]), b _ (by simp [tl])⟩, b _ (by simp [tl])⟩
theorem rawT_pos {q : Q4} (h : q ≠ q0) : 0 < (rawT q).n := by rw [rawT_n]; exact qsize_pos h
theorem turnT_bd {k : Nat} {q : Q4} (h : q ≠ q0) (b : Bq k q) : Bt (2 * k + 3) (turnT q) := lowT_bd (rawT_pos h) (rawT_bd b)
theorem turnT_pos {q : Q4} (h : q ≠ q0) : 0 < (turnT q).n := (lowT_of (rawT_pos h)).n
noncomputable def qdivq (q : Q4) (g : Int) : Q4 := ⟨q.a.fdiv g, q.b.fdiv g, q.c.fdiv g, q.d.fdiv g⟩
noncomputable def lowQ (q : Q4) : Q4 := qdivq q (gcdL (ql q))
theorem lowQ_one {q : Q4} (h : q ≠ q0) : gcdL (ql (lowQ q)) = 1 := gcdL_low fun z => h (ql_zero z)
theorem lowQ_mul (q : Q4) : q = qsc (gcdL (ql q)) (lowQ q) := by
  have e : ∀ x ∈ ql q, gcdL (ql q) * x.fdiv (gcdL (ql q)) = x := fun x hx => Int.mul_fdiv_cancel' (gcdL_dvd hx)
  have a := e q.a (by simp [ql]); have b := e q.b (by simp [ql]); have c := e q.c (by simp [ql]); have d := e q.d (by simp [ql])
  unfold lowQ qdivq qsc
  cases q
  simp only at a b c d ⊢
  rw [a, b, c, d]
theorem lowQ_bd {k : Nat} {q : Q4} (h : q ≠ q0) (b : Bq k q) : Bq k (lowQ q) := by
  have g : 0 < gcdL (ql q) := by
    have := gcdL_nonneg (ql q)
    have : gcdL (ql q) ≠ 0 := fun z => h (ql_zero z)
    omega
  have l : ∀ x ∈ ql q, (x.fdiv (gcdL (ql q))).natAbs ≤ x.natAbs := fun x hx => div_le g (gcdL_dvd hx)
  exact ⟨bd_le b.a (l _ (by simp [ql])), bd_le b.b (l _ (by simp [ql])), bd_le b.c (l _ (by simp [ql])), bd_le b.d (l _ (by simp [ql]))⟩
noncomputable def dot (p q : P3) : Int := p.x * q.x + p.y * q.y + p.z * q.z
theorem dot_bd {k : Nat} {p q : P3} (h : Bp k p) (g : Bp k q) : Bd (2 * k + 2) (dot p q) := (((h.x.mul g.x).add (h.y.mul g.y)).add (h.z.mul g.z)).mono (by omega)
structure Stone (q : Q4) : Prop where
  b : q.b % 2 = q.a % 2
  c : q.c % 2 = q.a % 2
  d : q.d % 2 = q.a % 2
noncomputable def half (q : Q4) : Q4 := ⟨q.a.fdiv 2, q.b.fdiv 2, q.c.fdiv 2, q.d.fdiv 2⟩
noncomputable def smul (p q : Q4) : Q4 := half (qmul p q)
theorem fd2 (x : Int) : x.fdiv 2 = x / 2 := fdiv_pos (by decide)
theorem same2 {x y : Int} (h : y % 2 = x % 2) : ∃ k, y = x + 2 * k := ⟨(y - x) / 2, by omega⟩
theorem smul_two {p q : Q4} (hp : Stone p) (hq : Stone q) : qmul p q = ⟨2 * (smul p q).a, 2 * (smul p q).b, 2 * (smul p q).c, 2 * (smul p q).d⟩ ∧ Stone (smul p q) := by
  obtain ⟨p2, p3, p4⟩ := hp
  obtain ⟨q2, q3, q4⟩ := hq
  obtain ⟨b', hb⟩ := same2 p2
  obtain ⟨c', hc⟩ := same2 p3
  obtain ⟨d', hd⟩ := same2 p4
  obtain ⟨f', hf⟩ := same2 q2
  obtain ⟨g', hg⟩ := same2 q3
  obtain ⟨h', hh⟩ := same2 q4
  cases p with | mk a b c d =>
  cases q with | mk e f g i =>
  simp only at hb hc hd hf hg hh p2 p3 p4 q2 q3 q4
  subst hb hc hd hf hg hh
  have e1 : a * e - (a + 2 * b') * (e + 2 * f') - (a + 2 * c') * (e + 2 * g') - (a + 2 * d') * (e + 2 * h') = 2 * (-(a * e) - (a * f' + b' * e + 2 * (b' * f')) - (a * g' + c' * e + 2 * (c' * g')) - (a * h' + d' * e + 2 * (d' * h'))) := by grind
  have e2 : a * (e + 2 * f') + (a + 2 * b') * e + (a + 2 * c') * (e + 2 * h') - (a + 2 * d') * (e + 2 * g') = 2 * (a * e + (a * f' + b' * e) + (a * h' + c' * e + 2 * (c' * h')) - (a * g' + d' * e + 2 * (d' * g'))) := by grind
  have e3 : a * (e + 2 * g') - (a + 2 * b') * (e + 2 * h') + (a + 2 * c') * e + (a + 2 * d') * (e + 2 * f') = 2 * (a * e + a * g' - (a * h' + b' * e + 2 * (b' * h')) + c' * e + (a * f' + d' * e + 2 * (d' * f'))) := by grind
  have e4 : a * (e + 2 * h') + (a + 2 * b') * (e + 2 * g') - (a + 2 * c') * (e + 2 * f') + (a + 2 * d') * e = 2 * (a * e + a * h' + (a * g' + b' * e + 2 * (b' * g')) - (a * f' + c' * e + 2 * (c' * f')) + d' * e) := by grind
  have h2 : ∀ x : Int, (2 * x) / 2 = x := fun x => Int.mul_ediv_cancel_left x (by decide)
  simp only [smul, half, qmul, fd2, e1, e2, e3, e4, h2]
  have up : ∀ {x y w : Int}, x = y + 2 * w → x % 2 = y % 2 := fun {x y w} h => by rw [h, Int.add_mul_emod_self_left]
  exact ⟨trivial, up (w := a * e + a * f' + b' * e + b' * f' + a * h' + c' * e + c' * h' + c' * g' - d' * g' + d' * h') (by grind), up (w := a * e + a * g' + a * f' + c' * e + d' * e - b' * h' + d' * f' + b' * f' + c' * g' + d' * h') (by grind), up (w := a * e + a * h' + a * g' + b' * e + b' * g' - c' * f' + d' * e + b' * f' + c' * g' + d' * h') (by grind)⟩
noncomputable def heavy (q : Q4) : Int := (qsize q).fdiv 4
theorem heavy_four {q : Q4} (h : Stone q) : 4 * heavy q = qsize q := by
  unfold heavy
  rw [fdiv_pos (by decide)]
  obtain ⟨h2, h3, h4⟩ := h
  obtain ⟨b', hb⟩ := same2 h2
  obtain ⟨c', hc⟩ := same2 h3
  obtain ⟨d', hd⟩ := same2 h4
  cases q with | mk a b c d =>
  simp only at hb hc hd
  subst hb hc hd
  have : qsize ⟨a, a + 2 * b', a + 2 * c', a + 2 * d'⟩ = 4 * (a * a + a * b' + b' * b' + a * c' + c' * c' + a * d' + d' * d') := by simp only [qsize]; grind
  rw [this, Int.mul_ediv_cancel_left _ (by decide)]
theorem Bq.half {k : Nat} {q : Q4} (h : Bq k q) : Bq k (half q) := by
  have b : ∀ {x : Int}, Bd k x → Bd k (x.fdiv 2) := fun {x} hx => by rw [fd2]; unfold Bd at *; omega
  exact ⟨b h.a, b h.b, b h.c, b h.d⟩
theorem Bq.smul {k l : Nat} {p q : Q4} (h : Bq k p) (g : Bq l q) : Bq (k + l + 3) (smul p q) := (h.mul g).half
theorem two_inj {p q : Q4} (h : (⟨2 * p.a, 2 * p.b, 2 * p.c, 2 * p.d⟩ : Q4) = ⟨2 * q.a, 2 * q.b, 2 * q.c, 2 * q.d⟩) : p = q := by
  have a := congrArg Q4.a h; have b := congrArg Q4.b h; have c := congrArg Q4.c h; have d := congrArg Q4.d h
  simp only at a b c d
  apply Q4.eq <;> omega
theorem qmul_two_left (p q : Q4) : qmul ⟨2 * p.a, 2 * p.b, 2 * p.c, 2 * p.d⟩ q = ⟨2 * (qmul p q).a, 2 * (qmul p q).b, 2 * (qmul p q).c, 2 * (qmul p q).d⟩ := by
  apply Q4.eq <;> simp only [qmul] <;> grind
theorem qmul_two_right (p q : Q4) : qmul p ⟨2 * q.a, 2 * q.b, 2 * q.c, 2 * q.d⟩ = ⟨2 * (qmul p q).a, 2 * (qmul p q).b, 2 * (qmul p q).c, 2 * (qmul p q).d⟩ := by
  apply Q4.eq <;> simp only [qmul] <;> grind
theorem smul_assoc {p q r : Q4} (hp : Stone p) (hq : Stone q) (hr : Stone r) : smul (smul p q) r = smul p (smul q r) := by
  obtain ⟨e1, s1⟩ := smul_two hp hq
  obtain ⟨e2, s2⟩ := smul_two hq hr
  obtain ⟨e3, s3⟩ := smul_two s1 hr
  obtain ⟨e4, s4⟩ := smul_two hp s2
  have a := qmul_assoc p q r
  rw [e1, e2, qmul_two_left, qmul_two_right] at a
  have a := two_inj a
  rw [e3, e4] at a
  exact two_inj a
theorem heavy_mul {p q : Q4} (hp : Stone p) (hq : Stone q) : heavy (smul p q) = heavy p * heavy q := by
  obtain ⟨e1, s1⟩ := smul_two hp hq
  have a := qsize_mul p q
  rw [e1] at a
  have e2 : qsize ⟨2 * (smul p q).a, 2 * (smul p q).b, 2 * (smul p q).c, 2 * (smul p q).d⟩ = 4 * qsize (smul p q) := by simp only [qsize]; grind
  rw [e2, ← heavy_four s1, ← heavy_four hp, ← heavy_four hq] at a
  have : 16 * heavy (smul p q) = 16 * (heavy p * heavy q) := by grind
  omega
noncomputable def sone : Q4 := ⟨2, 0, 0, 0⟩
theorem two_half (x : Int) : (2 * x) / 2 = x := Int.mul_ediv_cancel_left x (by decide)
theorem smul_of {p q r : Q4} (e : qmul p q = ⟨2 * r.a, 2 * r.b, 2 * r.c, 2 * r.d⟩) : smul p q = r := by
  unfold smul
  rw [e]
  simp only [half, fd2, two_half]
theorem smul_one (p : Q4) : smul p sone = p := smul_of (by simp only [qmul, sone, Int.mul_zero, Int.sub_zero, Int.add_zero, Int.zero_add, Int.mul_comm _ 2])
theorem two01 (x : Int) : x.fmod 2 = 0 ∨ x.fmod 2 = 1 := by rw [fmod_pos (by decide)]; omega
noncomputable def p0 : P3 := ⟨0, 0, 0⟩
noncomputable instance : DecidableEq P3 := fun p q => if h : p.x = q.x ∧ p.y = q.y ∧ p.z = q.z then .isTrue (by cases p; cases q; simp only at h; obtain ⟨h1, h2, h3⟩ := h; subst h1 h2 h3; rfl) else .isFalse fun e => h (by subst e; exact ⟨rfl, rfl, rfl⟩)
noncomputable def less (o : Int) (s r : P3) : P3 := mix3 1 r (-o) s
noncomputable def o1 (u p : P3) : Int := p.x.fdiv u.x
noncomputable def r1 (u p : P3) : P3 := less (o1 u p) u p
noncomputable def o2 (u v p : P3) : Int := (r1 u p).y.fdiv v.y
noncomputable def r2 (u v p : P3) : P3 := less (o2 u v p) v (r1 u p)
noncomputable def o3 (u v w p : P3) : Int := (r2 u v p).z.fdiv w.z
noncomputable def r3 (u v w p : P3) : P3 := less (o3 u v w p) w (r2 u v p)
noncomputable def det (p q r : P3) : Int := p.x * (q.y * r.z - q.z * r.y) - p.y * (q.x * r.z - q.z * r.x) + p.z * (q.x * r.y - q.y * r.x)
structure IsTurn (t : T9) : Prop where
  n : 1 ≤ t.n
  g : gcdL (tl t) = 1
  pp : dot t.p t.p = t.n * t.n
  pq : dot t.p t.q = 0
  pr : dot t.p t.r = 0
  qp : dot t.q t.p = 0
  qq : dot t.q t.q = t.n * t.n
  qr : dot t.q t.r = 0
  rp : dot t.r t.p = 0
  rq : dot t.r t.q = 0
  rr : dot t.r t.r = t.n * t.n
  d : det t.p t.q t.r = t.n * t.n * t.n
theorem dot_sc (g : Int) (p q p' q' : P3) (h1 : g * p'.x = p.x) (h2 : g * p'.y = p.y) (h3 : g * p'.z = p.z) (h4 : g * q'.x = q.x) (h5 : g * q'.y = q.y) (h6 : g * q'.z = q.z) : dot p q = g * g * dot p' q' := by
  unfold dot; rw [← h1, ← h2, ← h3, ← h4, ← h5, ← h6]; grind
theorem cancel2 {g x y : Int} (hg : 0 < g) (h : g * g * x = g * g * y) : x = y := Int.eq_of_mul_eq_mul_left (Int.ne_of_gt (Int.mul_pos hg hg)) h
theorem turnT_is {q : Q4} (h0 : q ≠ q0) : IsTurn (turnT q) := by
  have l := lowT_of (rawT_pos h0)
  obtain ⟨hg, hn, one, px, py, pz, qx, qy, qz, rx, ry, rz, nn⟩ := l
  have en : turnT q = lowT (rawT q) := rfl
  rw [en]
  generalize gcdL (tl (rawT q)) = g at *
  generalize lowT (rawT q) = t at *
  have N : g * t.n = qsize q := nn
  have z : ∀ {p' q' : P3} {p q : P3}, dot p q = g * g * dot p' q' → dot p q = 0 → dot p' q' = 0 := fun h1 h2 => by
    rw [h2] at h1
    exact (cancel2 hg (by rw [← h1, Int.mul_zero])).symm
  have s : ∀ {p' : P3} {p : P3}, dot p p = g * g * dot p' p' → dot p p = qsize q * qsize q → dot p' p' = t.n * t.n := fun h1 h2 => by
    rw [h2, ← N] at h1
    exact (cancel2 hg (by rw [← h1]; grind)).symm
  have D := @dot_sc g
  refine ⟨hn, one, s (D _ _ _ _ px py pz px py pz) ?_, z (D _ _ _ _ px py pz qx qy qz) ?_, z (D _ _ _ _ px py pz rx ry rz) ?_, z (D _ _ _ _ qx qy qz px py pz) ?_, s (D _ _ _ _ qx qy qz qx qy qz) ?_, z (D _ _ _ _ qx qy qz rx ry rz) ?_, z (D _ _ _ _ rx ry rz px py pz) ?_, z (D _ _ _ _ rx ry rz qx qy qz) ?_, s (D _ _ _ _ rx ry rz rx ry rz) ?_, ?_⟩
  · simp only [dot, rawT, qsize]; grind
  · simp only [dot, rawT, qsize]; grind
  · simp only [dot, rawT, qsize]; grind
  · simp only [dot, rawT, qsize]; grind
  · simp only [dot, rawT, qsize]; grind
  · simp only [dot, rawT, qsize]; grind
  · simp only [dot, rawT, qsize]; grind
  · simp only [dot, rawT, qsize]; grind
  · simp only [dot, rawT, qsize]; grind
  · have dr : det (rawT q).p (rawT q).q (rawT q).r = qsize q * qsize q * qsize q := by simp only [det, rawT, qsize]; grind
    have d2 : det (rawT q).p (rawT q).q (rawT q).r = g * g * (g * det t.p t.q t.r) := by
      unfold det; rw [← px, ← py, ← pz, ← qx, ← qy, ← qz, ← rx, ← ry, ← rz]; grind
    rw [d2, ← N] at dr
    have e1 : g * det t.p t.q t.r = g * (t.n * t.n * t.n) := cancel2 hg (by rw [dr]; grind)
    exact Int.eq_of_mul_eq_mul_left (Int.ne_of_gt hg) e1
noncomputable def tsc (s : Int) (t : T9) : T9 := ⟨⟨s * t.p.x, s * t.p.y, s * t.p.z⟩, ⟨s * t.q.x, s * t.q.y, s * t.q.z⟩, ⟨s * t.r.x, s * t.r.y, s * t.r.z⟩, s * t.n⟩
theorem tl_sc (s : Int) (t : T9) : tl (tsc s t) = (tl t).map (s * ·) := rfl
theorem rawT_sc (s : Int) (q : Q4) : rawT (qsc s q) = tsc (s * s) (rawT q) := by
  simp only [rawT, qsc, tsc, T9.mk.injEq, P3.mk.injEq]
  refine ⟨⟨?_, ?_, ?_⟩, ⟨?_, ?_, ?_⟩, ⟨?_, ?_, ?_⟩, ?_⟩ <;> grind
theorem lowT_sc {s : Int} (hs : 0 < s) (t : T9) (ht : 0 < gcdL (tl t)) : lowT (tsc s t) = lowT t := by
  have g : gcdL (tl (tsc s t)) = s * gcdL (tl t) := by rw [tl_sc, gcdL_mul, Int.natAbs_of_nonneg (Int.le_of_lt hs)]
  have e : ∀ x : Int, (s * x).fdiv (s * gcdL (tl t)) = x.fdiv (gcdL (tl t)) := fun x => by
    rw [Int.mul_fdiv_mul_of_pos _ _ hs]
  unfold lowT divT p3div
  rw [g]
  simp only [tsc, e]
theorem turnT_sc {s : Int} {q : Q4} (hs : s ≠ 0) (h0 : q ≠ q0) : turnT (qsc s q) = turnT q := by
  have : 0 < s * s := by
    have := sq_nn s
    have : s * s ≠ 0 := fun z => hs (sq_zero z)
    omega
  unfold turnT
  rw [rawT_sc, lowT_sc this _ (lowT_of (rawT_pos h0)).g]
theorem qsc_ne {s : Int} {q : Q4} (hs : s ≠ 0) (h0 : q ≠ q0) : qsc s q ≠ q0 := fun z => h0 (lead_zero (by
  have := lead_sc hs q
  rw [z] at this
  have l0 : lead q0 = 0 := rfl
  rw [l0] at this
  rcases Int.mul_eq_zero.mp this.symm with w | w
  · exact absurd w hs
  · exact w))
noncomputable def rowAt (t : T9) : Nat → P3
  | 0 => t.p
  | 1 => t.q
  | _ => t.r
noncomputable def Ortho (t : T9) (i j : Nat) : Prop := dot (rowAt t i) (rowAt t j) = t.n * t.n * (if i = j then 1 else 0)
theorem isTurn_of {t : T9} (n : 1 ≤ t.n) (g : gcdL (tl t) = 1) (o : ∀ i, i < 3 → ∀ j, j < 3 → Ortho t i j) (d : det t.p t.q t.r = t.n * t.n * t.n) : IsTurn t := by
  have o' : ∀ i j, i < 3 → j < 3 → dot (rowAt t i) (rowAt t j) = t.n * t.n * (if i = j then 1 else 0) := fun i j h1 h2 => o i h1 j h2
  have s : ∀ i, i < 3 → dot (rowAt t i) (rowAt t i) = t.n * t.n := fun i h => by have := o' i i h h; rwa [if_pos rfl, Int.mul_one] at this
  have z : ∀ i j, i < 3 → j < 3 → i ≠ j → dot (rowAt t i) (rowAt t j) = 0 := fun i j h1 h2 h3 => by have := o' i j h1 h2; rwa [if_neg h3, Int.mul_zero] at this
  exact ⟨n, g, s 0 (by decide), z 0 1 (by decide) (by decide) (by decide), z 0 2 (by decide) (by decide) (by decide), z 1 0 (by decide) (by decide) (by decide), s 1 (by decide), z 1 2 (by decide) (by decide) (by decide), z 2 0 (by decide) (by decide) (by decide), z 2 1 (by decide) (by decide) (by decide), s 2 (by decide), d⟩
theorem IsTurn.o {t : T9} (h : IsTurn t) : ∀ i, i < 3 → ∀ j, j < 3 → Ortho t i j := by
  intro i hi j hj
  have e1 : i = 0 ∨ i = 1 ∨ i = 2 := by omega
  have e2 : j = 0 ∨ j = 1 ∨ j = 2 := by omega
  rcases e1 with rfl | rfl | rfl <;> rcases e2 with rfl | rfl | rfl <;> simp only [Ortho, rowAt] <;> simp
  · exact h.pp
  · exact h.pq
  · exact h.pr
  · exact h.qp
  · exact h.qq
  · exact h.qr
  · exact h.rp
  · exact h.rq
  · exact h.rr
theorem row_atI (t : T9) {i : Nat} (h : i < 3) : atI [pt t.p, pt t.q, pt t.r] (0 + (i : Int)) = some (pt (rowAt t i)) := by
  have : i = 0 ∨ i = 1 ∨ i = 2 := by omega
  rcases this with rfl | rfl | rfl <;> rfl
theorem rowAt_bd {k : Nat} {t : T9} (h : Bt k t) (i : Nat) : Bp k (rowAt t i) := by
  match i with
  | 0 => exact h.p
  | 1 => exact h.q
  | _ + 2 => exact h.r
theorem sq_form (x : Int) : (∃ k, x = 2 * k ∧ x * x = 4 * (k * k)) ∨ (∃ m, x * x = 8 * m + 1 ∧ x % 2 = 1) := by
  rcases Int.emod_two_eq x with h | h
  · left
    have e : x = 2 * (x / 2) := by omega
    generalize x / 2 = k at e
    subst e
    exact ⟨k, rfl, by grind⟩
  · right
    have e : x = 2 * (x / 2) + 1 := by omega
    generalize x / 2 = k at e
    subst e
    rcases Int.emod_two_eq k with h2 | h2
    · have e : k = 2 * (k / 2) := by omega
      generalize k / 2 = i at e
      subst e
      exact ⟨2 * (i * i) + i, by grind, h⟩
    · have e : k = 2 * (k / 2) + 1 := by omega
      generalize k / 2 = i at e
      subst e
      exact ⟨2 * (i * i) + 3 * i + 1, by grind, h⟩
theorem prod_odd {x y : Int} (hx : x % 2 = 1) (hy : y % 2 = 1) : (x * y) % 2 = 1 := by
  rw [Int.mul_emod, hx, hy]; rfl
theorem dvd_eq {h x y : Int} (e : x = y) (d : h ∣ x) : h ∣ y := e ▸ d
theorem raw_four {q : Q4} (g1 : gcdL (ql q) = 1) : gcdL (tl (rawT q)) ∣ 4 := by
  have dv : ∀ x ∈ tl (rawT q), gcdL (tl (rawT q)) ∣ x := fun x hx => gcdL_dvd hx
  generalize gcdL (tl (rawT q)) = h at *
  have e1 := dv _ (show (rawT q).p.x ∈ _ by simp [tl]); have e2 := dv _ (show (rawT q).p.y ∈ _ by simp [tl]); have e3 := dv _ (show (rawT q).p.z ∈ _ by simp [tl])
  have e4 := dv _ (show (rawT q).q.x ∈ _ by simp [tl]); have e5 := dv _ (show (rawT q).q.y ∈ _ by simp [tl]); have e6 := dv _ (show (rawT q).q.z ∈ _ by simp [tl])
  have e7 := dv _ (show (rawT q).r.x ∈ _ by simp [tl]); have e8 := dv _ (show (rawT q).r.y ∈ _ by simp [tl]); have e9 := dv _ (show (rawT q).r.z ∈ _ by simp [tl])
  have e0 := dv _ (show (rawT q).n ∈ _ by simp [tl])
  -- h divides 4 x y for each two of the four
  have aa : h ∣ 4 * q.a * q.a := dvd_eq (by simp only [rawT, Int.mul_assoc]; simp +arith only) (Int.dvd_add (Int.dvd_add (Int.dvd_add e0 e1) e5) e9)
  have bb : h ∣ 4 * q.b * q.b := dvd_eq (by simp only [rawT, Int.mul_assoc]; simp +arith only) (Int.dvd_sub (Int.dvd_sub (Int.dvd_add e0 e1) e5) e9)
  have cc : h ∣ 4 * q.c * q.c := dvd_eq (by simp only [rawT, Int.mul_assoc]; simp +arith only) (Int.dvd_sub (Int.dvd_add (Int.dvd_sub e0 e1) e5) e9)
  have dd : h ∣ 4 * q.d * q.d := dvd_eq (by simp only [rawT, Int.mul_assoc]; simp +arith only) (Int.dvd_add (Int.dvd_sub (Int.dvd_sub e0 e1) e5) e9)
  have ab : h ∣ 4 * q.a * q.b := dvd_eq (by simp only [rawT, Int.mul_assoc]; simp +arith only) (Int.dvd_sub e8 e6)
  have ac : h ∣ 4 * q.a * q.c := dvd_eq (by simp only [rawT, Int.mul_assoc]; simp +arith only) (Int.dvd_sub e3 e7)
  have ad : h ∣ 4 * q.a * q.d := dvd_eq (by simp only [rawT, Int.mul_assoc]; simp +arith only) (Int.dvd_sub e4 e2)
  have bc : h ∣ 4 * q.b * q.c := dvd_eq (by simp only [rawT, Int.mul_assoc]; simp +arith only) (Int.dvd_add e4 e2)
  have bd : h ∣ 4 * q.b * q.d := dvd_eq (by simp only [rawT, Int.mul_assoc]; simp +arith only) (Int.dvd_add e3 e7)
  have cd : h ∣ 4 * q.c * q.d := dvd_eq (by simp only [rawT, Int.mul_assoc]; simp +arith only) (Int.dvd_add e8 e6)
  have one : ∀ x : Int, h ∣ x * q.a → h ∣ x * q.b → h ∣ x * q.c → h ∣ x * q.d → h ∣ x := fun x h1 h2 h3 h4 => by
    have : h ∣ gcdL ((ql q).map (x * ·)) := dvd_gcdL.mpr fun y hy => by
      simp only [ql, List.map_cons, List.map_nil, List.mem_cons, List.not_mem_nil, or_false] at hy
      rcases hy with rfl | rfl | rfl | rfl <;> assumption
    rw [gcdL_mul, g1, Int.mul_one] at this
    exact Int.dvd_natAbs.mp this
  have sw : ∀ {x y : Int}, h ∣ 4 * x * y → h ∣ 4 * y * x := fun {x y} hh => by
    have : 4 * y * x = 4 * x * y := by grind
    rw [this]; exact hh
  have fa := one (4 * q.a) aa ab ac ad
  have fb := one (4 * q.b) (sw ab) bb bc bd
  have fc := one (4 * q.c) (sw ac) (sw bc) cc cd
  have fd := one (4 * q.d) (sw ad) (sw bd) (sw cd) dd
  exact one 4 fa fb fc fd
theorem sq4 (x : Int) : (x * x) % 4 = x % 2 := by
  rcases sq_form x with ⟨k, e, f⟩ | ⟨m, f, e⟩
  · rw [f, e]; omega
  · rw [f, e]; omega
theorem sq8 {x : Int} (h : x % 2 = 1) : (x * x) % 8 = 1 := by
  rcases sq_form x with ⟨k, e, f⟩ | ⟨m, f, e⟩
  · omega
  · rw [f]; omega
theorem four_odd {A B C D a b c d : Int} (ha : A % 4 = a % 2) (hb : B % 4 = b % 2) (hc : C % 4 = c % 2) (hd : D % 4 = d % 2) (h : (A + B + C + D) % 4 = 0) (ne : ¬ (a % 2 = 0 ∧ b % 2 = 0 ∧ c % 2 = 0 ∧ d % 2 = 0)) : a % 2 = 1 ∧ b % 2 = 1 ∧ c % 2 = 1 ∧ d % 2 = 1 := by
  rw [Int.add_emod, Int.add_emod (A + B), Int.add_emod A, ha, hb, hc, hd] at h
  rcases Int.emod_two_eq a with x | x <;> rcases Int.emod_two_eq b with y | y <;> rcases Int.emod_two_eq c with z | z <;> rcases Int.emod_two_eq d with w | w <;> rw [x, y, z, w] at h <;> first | exact ⟨x, y, z, w⟩ | exact absurd h (by decide) | exact absurd (And.intro x (And.intro y (And.intro z w))) ne
theorem eight4 {A B C D : Int} (a : A % 8 = 1) (b : B % 8 = 1) (c : C % 8 = 1) (d : D % 8 = 1) : (A + B + C + D) % 8 = 4 := by omega
theorem pm2 {A B C D : Int} (e : (A + B + C + D) % 2 = 0) : (2 ∣ A + B - C - D) ∧ (2 ∣ A - B + C - D) ∧ 2 ∣ A - B - C + D := by omega
theorem m41 {A : Int} (a : A % 4 = 1) : ∃ k, A = 4 * k + 1 := ⟨A / 4, by rw [← a]; exact (Int.mul_ediv_add_emod A 4).symm⟩
theorem pm4 {A B C D : Int} (a : A % 4 = 1) (b : B % 4 = 1) (c : C % 4 = 1) (d : D % 4 = 1) : (4 ∣ A + B - C - D) ∧ (4 ∣ A - B + C - D) ∧ (4 ∣ A - B - C + D) ∧ 4 ∣ A + B + C + D := by
  obtain ⟨i, ei⟩ := m41 a
  obtain ⟨j, ej⟩ := m41 b
  obtain ⟨k, ek⟩ := m41 c
  obtain ⟨l, el⟩ := m41 d
  rw [ei, ej, ek, el]
  exact ⟨⟨i + j - k - l, by simp +arith only⟩, ⟨i - j + k - l, by simp +arith only⟩, ⟨i - j - k + l, by simp +arith only⟩, ⟨i + j + k + l + 1, by simp +arith only⟩⟩
theorem dd4 {x y : Int} (hx : x % 2 = 1) (hy : y % 2 = 1) : (4 ∣ 2 * (x - y)) ∧ 4 ∣ 2 * (x + y) := by omega
theorem tl_all {d : Int} {t : T9} (h1 : d ∣ t.p.x) (h2 : d ∣ t.p.y) (h3 : d ∣ t.p.z) (h4 : d ∣ t.q.x) (h5 : d ∣ t.q.y) (h6 : d ∣ t.q.z) (h7 : d ∣ t.r.x) (h8 : d ∣ t.r.y) (h9 : d ∣ t.r.z) (h0 : d ∣ t.n) : d ∣ gcdL (tl t) := dvd_gcdL.mpr fun x hm => by
  simp only [tl, List.mem_cons, List.not_mem_nil, or_false] at hm
  rcases hm with rfl | rfl | rfl | rfl | rfl | rfl | rfl | rfl | rfl | rfl <;> assumption
theorem even_no {q : Q4} (g1 : gcdL (ql q) = 1) : ¬ (q.a % 2 = 0 ∧ q.b % 2 = 0 ∧ q.c % 2 = 0 ∧ q.d % 2 = 0) := by
  rintro ⟨a, b, c, d⟩
  have : (2 : Int) ∣ gcdL (ql q) := dvd_gcdL.mpr fun x hx => by
    simp only [ql, List.mem_cons, List.not_mem_nil, or_false] at hx
    rcases hx with rfl | rfl | rfl | rfl
    · exact Int.dvd_of_emod_eq_zero a
    · exact Int.dvd_of_emod_eq_zero b
    · exact Int.dvd_of_emod_eq_zero c
    · exact Int.dvd_of_emod_eq_zero d
  rw [g1] at this
  exact absurd this (by decide)
theorem raw_even {q : Q4} (e : qsize q % 2 = 0) : (2 : Int) ∣ gcdL (tl (rawT q)) := by
  obtain ⟨a, b, c⟩ := pm2 e
  have t : ∀ x : Int, (2 : Int) ∣ 2 * x := fun x => Int.dvd_mul_right 2 x
  exact tl_all (t := rawT q) a (t _) (t _) (t _) b (t _) (t _) (t _) c (Int.dvd_of_emod_eq_zero e)
theorem raw_odd4 {q : Q4} (oa : q.a % 2 = 1) (ob : q.b % 2 = 1) (oc : q.c % 2 = 1) (od : q.d % 2 = 1) : (4 : Int) ∣ gcdL (tl (rawT q)) := by
  have s : ∀ {x : Int}, x % 2 = 1 → (x * x) % 4 = 1 := fun {x} h => by rw [sq4, h]
  obtain ⟨a, b, c, d⟩ := pm4 (s oa) (s ob) (s oc) (s od)
  have bc := prod_odd ob oc; have ad := prod_odd oa od; have bd := prod_odd ob od; have ac := prod_odd oa oc; have cd := prod_odd oc od; have ab := prod_odd oa ob
  exact tl_all (t := rawT q) a (dd4 bc ad).1 (dd4 bd ac).2 (dd4 bc ad).2 b (dd4 cd ab).1 (dd4 bd ac).1 (dd4 cd ab).2 c d
theorem dvd4_le {g : Int} (p : 0 < g) (h : g ∣ 4) : g = 1 ∨ g = 2 ∨ g = 4 := by
  have le := Int.le_of_dvd (by decide) h
  rcases (show g = 1 ∨ g = 2 ∨ g = 3 ∨ g = 4 by omega) with z | z | z | z
  · exact .inl z
  · exact .inr (.inl z)
  · rw [z] at h; exact absurd h (by decide)
  · exact .inr (.inr z)
theorem turn_odd {q : Q4} (g1 : gcdL (ql q) = 1) (h0 : q ≠ q0) : ∃ j : Nat, j ≤ 2 ∧ qsize q = (turnT q).n * 2 ^ j ∧ (turnT q).n % 2 = 1 := by
  have l := lowT_of (rawT_pos h0)
  have nn : gcdL (tl (rawT q)) * (turnT q).n = qsize q := l.nn
  have ne := even_no g1
  have odd4 : qsize q % 4 = 0 → (4 : Int) ∣ gcdL (tl (rawT q)) ∧ qsize q % 8 = 4 := fun h4 => by
    obtain ⟨oa, ob, oc, od⟩ := four_odd (sq4 q.a) (sq4 q.b) (sq4 q.c) (sq4 q.d) h4 ne
    exact ⟨raw_odd4 oa ob oc od, eight4 (sq8 oa) (sq8 ob) (sq8 oc) (sq8 od)⟩
  have ev := raw_even (q := q)
  have hx := dvd4_le l.g (raw_four g1)
  generalize (turnT q).n = n at *
  generalize qsize q = N at *
  generalize gcdL (tl (rawT q)) = g at *
  clear ne l g1 h0
  rcases hx with rfl | rfl | rfl
  · refine ⟨0, by decide, by rw [← nn, Int.pow_zero, Int.one_mul, Int.mul_one], ?_⟩
    rcases Int.emod_two_eq n with z | z
    · exact absurd (ev (by rw [← nn, Int.one_mul]; exact z)) (by decide)
    · exact z
  · refine ⟨1, by decide, by rw [← nn, Int.mul_comm]; rfl, ?_⟩
    rcases Int.emod_two_eq n with z | z
    · exact absurd (odd4 (by omega)).1 (by decide)
    · exact z
  · refine ⟨2, by decide, by rw [← nn, Int.mul_comm]; rfl, ?_⟩
    have := (odd4 (by omega)).2
    omega
theorem bd_two' {k : Nat} {x : Int} (h : Bd k x) : Bd (k + 2) (2 * x) := by
  have := (show Bd 2 (2 : Int) from bd_lit (by decide)).mul h
  exact this.mono (by omega)
noncomputable def ssub (p q : Q4) : Q4 := ⟨p.a - q.a, p.b - q.b, p.c - q.c, p.d - q.d⟩
theorem mix_sub (p q : Q4) : mix4 1 p (-1) q = ssub p q := by apply Q4.eq <;> simp only [mix4, ssub] <;> simp +arith only
theorem Stone.sub {p q : Q4} (hp : Stone p) (hq : Stone q) : Stone (ssub p q) := ⟨by
  show (p.b - q.b) % 2 = (p.a - q.a) % 2
  rw [Int.sub_emod, hp.b, hq.b, ← Int.sub_emod], by
  show (p.c - q.c) % 2 = (p.a - q.a) % 2
  rw [Int.sub_emod, hp.c, hq.c, ← Int.sub_emod], by
  show (p.d - q.d) % 2 = (p.a - q.a) % 2
  rw [Int.sub_emod, hp.d, hq.d, ← Int.sub_emod]⟩
theorem neg2 (x : Int) : -x % 2 = x % 2 := by omega
theorem Stone.bar {p : Q4} (hp : Stone p) : Stone (qbar p) := ⟨(neg2 _).trans hp.b, (neg2 _).trans hp.c, (neg2 _).trans hp.d⟩
theorem heavy_bar (p : Q4) : heavy (qbar p) = heavy p := by
  have : qsize (qbar p) = qsize p := by simp only [qsize, qbar]; grind
  unfold heavy; rw [this]
theorem smul_sub {p q r : Q4} (hp : Stone p) (hq : Stone q) (hr : Stone r) : smul p (ssub q r) = ssub (smul p q) (smul p r) := by
  have e : qmul p (ssub q r) = ssub (qmul p q) (qmul p r) := by apply Q4.eq <;> simp only [qmul, ssub] <;> grind
  rw [(smul_two hp hq).1, (smul_two hp hr).1] at e
  exact smul_of (e.trans (by simp only [ssub, Int.mul_sub]))
theorem sub_smul {p q r : Q4} (hp : Stone p) (hq : Stone q) (hr : Stone r) : smul (ssub p q) r = ssub (smul p r) (smul q r) := by
  have e : qmul (ssub p q) r = ssub (qmul p r) (qmul q r) := by apply Q4.eq <;> simp only [qmul, ssub] <;> grind
  rw [(smul_two hp hr).1, (smul_two hq hr).1] at e
  exact smul_of (e.trans (by simp only [ssub, Int.mul_sub]))
theorem bar_smul {y k : Q4} (hy : Stone y) (hk : Stone k) : smul (qbar y) (smul y k) = ⟨heavy y * k.a, heavy y * k.b, heavy y * k.c, heavy y * k.d⟩ := by
  obtain ⟨e1, s1⟩ := smul_two hy hk
  obtain ⟨e2, _⟩ := smul_two hy.bar s1
  have e3 : qmul (qbar y) (qmul y k) = ⟨qsize y * k.a, qsize y * k.b, qsize y * k.c, qsize y * k.d⟩ := by
    apply Q4.eq <;> simp only [qmul, qbar, qsize] <;> grind
  rw [e1, qmul_two_right, e2, ← heavy_four hy] at e3
  have a := congrArg Q4.a e3; have b := congrArg Q4.b e3; have c := congrArg Q4.c e3; have d := congrArg Q4.d e3
  simp only at a b c d
  have f : ∀ {x z : Int}, 2 * (2 * x) = 4 * heavy y * z → x = heavy y * z := fun {x z} h => by
    rw [← Int.mul_assoc, Int.mul_assoc 4] at h
    exact Int.eq_of_mul_eq_mul_left (show (4 : Int) ≠ 0 by decide) h
  exact Q4.eq (f a) (f b) (f c) (f d)
theorem heavy_nn (q : Q4) : 0 ≤ heavy q := by
  have : 0 ≤ qsize q := by
    have sq : ∀ x : Int, 0 ≤ x * x := fun x => by
      rcases Int.le_total 0 x with h | h
      · exact Int.mul_nonneg h h
      · exact Int.mul_nonneg_of_nonpos_of_nonpos h h
    have := sq q.a; have := sq q.b; have := sq q.c; have := sq q.d
    unfold qsize; omega
  unfold heavy
  rw [fdiv_pos (by decide)]
  omega
theorem heavy_zero {q : Q4} (hq : Stone q) (h : heavy q = 0) : q = q0 := by
  have f := heavy_four hq
  have sq : ∀ x : Int, 0 ≤ x * x := fun x => by
    rcases Int.le_total 0 x with h | h
    · exact Int.mul_nonneg h h
    · exact Int.mul_nonneg_of_nonpos_of_nonpos h h
  have z : ∀ {x : Int}, x * x = 0 → x = 0 := fun h => by rcases Int.mul_eq_zero.mp h with z | z <;> exact z
  rw [h] at f
  unfold qsize at f
  have a := sq q.a; have b := sq q.b; have c := sq q.c; have d := sq q.d
  exact Q4.eq (z (by omega)) (z (by omega)) (z (by omega)) (z (by omega))
theorem heavy_pos {q : Q4} (hq : Stone q) (h : q ≠ q0) : 0 < heavy q := by
  have := heavy_nn q
  have : heavy q ≠ 0 := fun z => h (heavy_zero hq z)
  omega
noncomputable def evn (x w : Int) : Int := 2 * ((x + w).fdiv (2 * w))
noncomputable def odn (x w : Int) : Int := 2 * (x.fdiv (2 * w)) + 1
noncomputable def evnQ (q : Q4) (w : Int) : Q4 := ⟨evn q.a w, evn q.b w, evn q.c w, evn q.d w⟩
noncomputable def odnQ (q : Q4) (w : Int) : Q4 := ⟨odn q.a w, odn q.b w, odn q.c w, odn q.d w⟩
theorem ev2 (x : Int) : (2 * x) % 2 = 0 := Int.mul_emod_right 2 x
theorem od2 (x : Int) : (2 * x + 1) % 2 = 1 := by rw [Int.add_comm, Int.add_mul_emod_self_left]; rfl
theorem evnQ_stone (q : Q4) (w : Int) : Stone (evnQ q w) := ⟨(ev2 _).trans (ev2 _).symm, (ev2 _).trans (ev2 _).symm, (ev2 _).trans (ev2 _).symm⟩
theorem odnQ_stone (q : Q4) (w : Int) : Stone (odnQ q w) := ⟨(od2 _).trans (od2 _).symm, (od2 _).trans (od2 _).symm, (od2 _).trans (od2 _).symm⟩
theorem near_hi {r w : Int} (h : w ≤ r) (h2 : r < 2 * w) : ((r - 2 * w).natAbs : Int) + (r - w).natAbs = w := by omega
theorem near_lo {r w : Int} (h0 : 0 ≤ r) (h : ¬ w ≤ r) : (r.natAbs : Int) + (r - w).natAbs = w := by omega
theorem near_one {r w : Int} (w2 : 0 < 2 * w) (h : w ≤ r) (h2 : r < 2 * w) : (r + w) / (2 * w) = 1 := by rw [Int.ediv_eq_iff_of_pos w2]; omega
theorem near_sum {x w : Int} (hw : 0 < w) : ((x - w * evn x w).natAbs : Int) + (x - w * odn x w).natAbs = w := by
  unfold evn odn
  have w2 : 0 < 2 * w := Int.mul_pos (by decide) hw
  rw [fdiv_pos w2, fdiv_pos w2]
  have e1 := Int.mul_ediv_add_emod x (2 * w)
  have r0 := Int.emod_nonneg x (Int.ne_of_gt w2)
  have r1 := Int.emod_lt_of_pos x w2
  generalize x % (2 * w) = r at *
  generalize x / (2 * w) = q at *
  subst e1
  have b : 2 * w * q + r - w * (2 * q + 1) = r - w := by grind
  have k : (2 * w * q + r + w) / (2 * w) = q + (r + w) / (2 * w) := by
    rw [Int.add_assoc, Int.add_comm, Int.add_mul_ediv_left _ _ (Int.ne_of_gt w2), Int.add_comm]
  rw [b, k]
  by_cases h : w ≤ r
  · have a : 2 * w * q + r - w * (2 * (q + 1)) = r - 2 * w := by grind
    rw [near_one w2 h r1, a]
    exact near_hi h r1
  · have e : (r + w) / (2 * w) = 0 := Int.ediv_eq_zero_of_lt (Int.add_nonneg r0 (Int.le_of_lt hw)) (by rw [Int.two_mul]; exact Int.add_lt_add_right (Int.not_le.mp h) w)
    have a : 2 * w * q + r - w * (2 * (q + 0)) = r := by grind
    rw [e, a]
    exact near_lo r0 h
theorem abs_sq (x : Int) : ((x.natAbs : Int)) * x.natAbs = x * x := by
  rcases Int.natAbs_eq x with h | h
  · rw [← h]
  · have : (x.natAbs : Int) = -x := by omega
    rw [this]; grind
theorem near_sq {x w : Int} (hw : 0 < w) : (x - w * evn x w) * (x - w * evn x w) + (x - w * odn x w) * (x - w * odn x w) ≤ w * w := by
  have s := near_sum (x := x) hw
  have p0 : (0 : Int) ≤ (x - w * evn x w).natAbs := by omega
  have q0 : (0 : Int) ≤ (x - w * odn x w).natAbs := by omega
  rw [← abs_sq (x - w * evn x w), ← abs_sq (x - w * odn x w)]
  generalize ((x - w * evn x w).natAbs : Int) = p at *
  generalize ((x - w * odn x w).natAbs : Int) = q at *
  have := Int.mul_nonneg p0 q0
  rw [← s]; grind
theorem rest_aim {x y k : Q4} (hx : Stone x) (hy : Stone y) (hk : Stone k) : smul (qbar y) (ssub x (smul y k)) = ssub (smul (qbar y) x) ⟨heavy y * k.a, heavy y * k.b, heavy y * k.c, heavy y * k.d⟩ := by
  rw [smul_sub hy.bar hx (smul_two hy hk).2, bar_smul hy hk]
theorem rest_heavy {x y k : Q4} (hx : Stone x) (hy : Stone y) (hk : Stone k) : 4 * (heavy y * heavy (ssub x (smul y k))) = qsize (ssub (smul (qbar y) x) ⟨heavy y * k.a, heavy y * k.b, heavy y * k.c, heavy y * k.d⟩) := by
  have s := (hx.sub (smul_two hy hk).2)
  rw [← rest_aim hx hy hk, ← heavy_four (smul_two hy.bar s).2, heavy_mul hy.bar s, heavy_bar]
theorem rest_half {x y : Q4} (hx : Stone x) (hy : Stone y) (h0 : y ≠ q0) (A : Q4) (hA : A = smul (qbar y) x) : heavy (ssub x (smul y (evnQ A (heavy y)))) + heavy (ssub x (smul y (odnQ A (heavy y)))) ≤ heavy y := by
  have hw := heavy_pos hy h0
  have e1 := rest_heavy hx hy (evnQ_stone A (heavy y))
  have e2 := rest_heavy hx hy (odnQ_stone A (heavy y))
  rw [← hA] at e1 e2
  have a := near_sq (x := A.a) hw; have b := near_sq (x := A.b) hw; have c := near_sq (x := A.c) hw; have d := near_sq (x := A.d) hw
  generalize heavy (ssub x (smul y (evnQ A (heavy y)))) = p at *
  generalize heavy (ssub x (smul y (odnQ A (heavy y)))) = q at *
  simp only [qsize, ssub, evnQ, odnQ] at e1 e2
  have s : 4 * (heavy y * (p + q)) ≤ 4 * (heavy y * heavy y) := by
    have : heavy y * (p + q) = heavy y * p + heavy y * q := by grind
    omega
  exact Int.le_of_mul_le_mul_left (by omega) hw
theorem rest_none {x y k0 : Q4} (hy : Stone y) (h0 : y ≠ q0) (hk : Stone k0) (hx : x = smul y k0) (A : Q4) (hA : A = smul (qbar y) x) : evnQ A (heavy y) = k0 ∨ odnQ A (heavy y) = k0 := by
  have hw := heavy_pos hy h0
  rw [hx, bar_smul hy hk] at hA
  obtain ⟨k2, k3, k4⟩ := hk
  have w2 : 0 < 2 * heavy y := Int.mul_pos (by decide) hw
  have z2 : heavy y / (2 * heavy y) = 0 := Int.ediv_eq_zero_of_lt (Int.le_of_lt hw) (by omega)
  have cut : ∀ i : Int, (heavy y + 2 * heavy y * i) / (2 * heavy y) = i := fun i => by rw [Int.add_mul_ediv_left _ _ (Int.ne_of_gt w2), z2, Int.zero_add]
  have ev : ∀ z : Int, z % 2 = 0 → evn (heavy y * z) (heavy y) = z := fun z hz => by
    obtain ⟨i, rfl⟩ := Int.dvd_of_emod_eq_zero hz
    unfold evn
    rw [fdiv_pos w2, show heavy y * (2 * i) + heavy y = heavy y + 2 * heavy y * i by grind, cut]
  have od : ∀ z : Int, z % 2 = 1 → odn (heavy y * z) (heavy y) = z := fun z hz => by
    obtain ⟨i, rfl⟩ := same2 (x := 1) hz
    unfold odn
    rw [fdiv_pos w2, show heavy y * (1 + 2 * i) = heavy y + 2 * heavy y * i by grind, cut, Int.add_comm]
  rcases Int.emod_two_eq k0.a with z | z
  · left; rw [hA]; exact Q4.eq (ev _ z) (ev _ (k2.trans z)) (ev _ (k3.trans z)) (ev _ (k4.trans z))
  · right; rw [hA]; exact Q4.eq (od _ z) (od _ (k2.trans z)) (od _ (k3.trans z)) (od _ (k4.trans z))
theorem heavy_bd {k : Nat} {q : Q4} (h : Bq k q) : Bd (2 * k + 3) (heavy q) := by
  have := bd_size h
  unfold heavy
  rw [fdiv_pos (by decide)]
  unfold Bd at *
  omega
theorem bd_dv {k : Nat} {x w : Int} (h : Bd k x) (hw : 0 < w) : Bd k (x.fdiv w) := by
  rw [fdiv_pos hw]
  exact Nat.lt_of_le_of_lt (Int.natAbs_ediv_le_natAbs x w) h
theorem evnQ_bd {k : Nat} {q : Q4} {w : Int} (h : Bq k q) (bw : Bd k w) (hw : 0 < w) : Bq (k + 4) (evnQ q w) := by
  have b : ∀ {x : Int}, Bd k x → Bd (k + 4) (evn x w) := fun hx => ((show Bd 2 (2 : Int) from bd_lit (by decide)).mul (bd_dv (hx.add bw) (by omega))).mono (by omega)
  exact ⟨b h.a, b h.b, b h.c, b h.d⟩
theorem odnQ_bd {k : Nat} {q : Q4} {w : Int} (h : Bq k q) (hw : 0 < w) : Bq (k + 4) (odnQ q w) := by
  have b : ∀ {x : Int}, Bd k x → Bd (k + 4) (odn x w) := fun hx => (((show Bd 2 (2 : Int) from bd_lit (by decide)).mul (bd_dv hx (w := 2 * w) (by omega))).add (show Bd 1 (1 : Int) from bd_lit (by decide))).mono (by omega)
  exact ⟨b h.a, b h.b, b h.c, b h.d⟩
theorem Bq.ssub {k l : Nat} {p q : Q4} (h : Bq k p) (g : Bq l q) : Bq (max k l + 1) (ssub p q) := ⟨h.a.sub g.a, h.b.sub g.b, h.c.sub g.c, h.d.sub g.d⟩
structure Row (x y s a b : Q4) : Prop where
  ss : Stone s
  sa : Stone a
  sb : Stone b
  e : s = qadd (smul x a) (smul y b)
theorem Stone.add {p q : Q4} (hp : Stone p) (hq : Stone q) : Stone (qadd p q) := ⟨by
  show (p.b + q.b) % 2 = (p.a + q.a) % 2
  rw [Int.add_emod, hp.b, hq.b, ← Int.add_emod], by
  show (p.c + q.c) % 2 = (p.a + q.a) % 2
  rw [Int.add_emod, hp.c, hq.c, ← Int.add_emod], by
  show (p.d + q.d) % 2 = (p.a + q.a) % 2
  rw [Int.add_emod, hp.d, hq.d, ← Int.add_emod]⟩
theorem q0_stone : Stone q0 := ⟨rfl, rfl, rfl⟩
theorem sone_stone : Stone sone := ⟨rfl, rfl, rfl⟩
theorem smul_q0 (p : Q4) : smul p q0 = q0 := smul_of (by simp only [qmul, q0, Int.mul_zero, Int.sub_zero, Int.add_zero])
theorem q0_smul (p : Q4) : smul q0 p = q0 := smul_of (by simp only [qmul, q0, Int.zero_mul, Int.mul_zero, Int.sub_zero, Int.add_zero])
theorem qadd_q0 (p : Q4) : qadd p q0 = p := by simp only [qadd, q0, Int.add_zero]
theorem q0_qadd (p : Q4) : qadd q0 p = p := by simp only [qadd, q0, Int.zero_add]
theorem smul_add {p q r : Q4} (hp : Stone p) (hq : Stone q) (hr : Stone r) : smul p (qadd q r) = qadd (smul p q) (smul p r) := by
  have e := qmul_add p q r
  rw [(smul_two hp hq).1, (smul_two hp hr).1] at e
  exact smul_of (e.trans (by simp only [qadd, Int.mul_add]))
theorem add_smul {p q r : Q4} (hp : Stone p) (hq : Stone q) (hr : Stone r) : smul (qadd p q) r = qadd (smul p r) (smul q r) := by
  have e : qmul (qadd p q) r = qadd (qmul p r) (qmul q r) := by apply Q4.eq <;> simp only [qmul, qadd] <;> grind
  rw [(smul_two hp hr).1, (smul_two hq hr).1] at e
  exact smul_of (e.trans (by simp only [qadd, Int.mul_add]))
theorem Row.step {x y s a b s' a' b' k : Q4} (sx : Stone x) (sy : Stone y) (r : Row x y s a b) (r' : Row x y s' a' b') (hk : Stone k) : Row x y (ssub s (smul s' k)) (ssub a (smul a' k)) (ssub b (smul b' k)) := by
  have ka := (smul_two r'.sa hk).2
  have kb := (smul_two r'.sb hk).2
  refine ⟨r.ss.sub (smul_two r'.ss hk).2, r.sa.sub ka, r.sb.sub kb, ?_⟩
  have e1 : smul s' k = qadd (smul x (smul a' k)) (smul y (smul b' k)) := by
    rw [r'.e, add_smul (smul_two sx r'.sa).2 (smul_two sy r'.sb).2 hk, smul_assoc sx r'.sa hk, smul_assoc sy r'.sb hk]
  rw [smul_sub sx r.sa ka, smul_sub sy r.sb kb, e1]
  conv => lhs; rw [r.e]
  apply Q4.eq <;> simp only [qadd, ssub] <;> simp +arith only
noncomputable def In2 (z s t : Q4) : Prop := ∃ u v : Q4, Stone u ∧ Stone v ∧ z = qadd (smul s u) (smul t v)
theorem In2.step {z s t k : Q4} (ss : Stone s) (st : Stone t) (hk : Stone k) (h : In2 z s t) : In2 z t (ssub s (smul t k)) := by
  obtain ⟨u, v, su, sv, e⟩ := h
  have sk := (smul_two hk su).2
  have stk := (smul_two st hk).2
  refine ⟨qadd (smul k u) v, u, sk.add sv, su, ?_⟩
  rw [smul_add st sk sv, ← smul_assoc st hk su, sub_smul ss stk su, e]
  apply Q4.eq <;> simp only [qadd, ssub] <;> simp +arith only
theorem sq_in (q : Q4) : q.a * q.a ≤ qsize q ∧ q.b * q.b ≤ qsize q ∧ q.c * q.c ≤ qsize q ∧ q.d * q.d ≤ qsize q := by
  have sq : ∀ x : Int, 0 ≤ x * x := fun x => by
    rcases Int.le_total 0 x with h | h
    · exact Int.mul_nonneg h h
    · exact Int.mul_nonneg_of_nonpos_of_nonpos h h
  have a := sq q.a; have b := sq q.b; have c := sq q.c; have d := sq q.d
  unfold qsize
  generalize q.a * q.a = A at *
  generalize q.b * q.b = B at *
  generalize q.c * q.c = C at *
  generalize q.d * q.d = D at *
  omega
theorem bq_heavy {B : Nat} {q : Q4} (hq : Stone q) (h : heavy q < 2 ^ (2 * B)) : Bq (B + 1) q := by
  obtain ⟨a, b, c, d⟩ := sq_in q
  have e : (2 : Int) ^ (2 * B) * 4 = 2 ^ (B + 1) * 2 ^ (B + 1) := by
    rw [← Int.pow_add, show B + 1 + (B + 1) = 2 * B + 2 by omega, Int.pow_add]; rfl
  have lt : qsize q < 2 ^ (B + 1) * 2 ^ (B + 1) := by
    rw [← heavy_four hq, ← e, Int.mul_comm]
    exact Int.mul_lt_mul_of_pos_right h (by decide)
  have k : ∀ {x : Int}, x * x ≤ qsize q → Bd (B + 1) x := fun {x} hx => Nat.lt_of_not_le fun hn => by
    have h1 : (2 : Int) ^ (B + 1) ≤ x.natAbs := by exact_mod_cast hn
    have := Int.mul_le_mul h1 h1 (Int.pow_nonneg (by decide)) (Int.natCast_nonneg _)
    rw [abs_sq] at this
    exact absurd (Int.lt_of_le_of_lt (Int.le_trans this hx) lt) (Int.lt_irrefl _)
  exact ⟨k a, k b, k c, k d⟩
theorem heavy_lt {B : Nat} {q : Q4} (hq : Stone q) (h : Bq B q) : heavy q < 2 ^ (2 * B) := by
  have f := heavy_four hq
  have e : (2 : Int) ^ (2 * B) = 2 ^ B * 2 ^ B := by rw [← Int.pow_add]; congr 1; omega
  have k : ∀ {x : Int}, Bd B x → x * x < 2 ^ B * 2 ^ B := fun {x} hx => by
    unfold Bd at hx
    have h1 : (x.natAbs : Int) < 2 ^ B := by exact_mod_cast hx
    rw [← abs_sq]
    have n0 : (0 : Int) ≤ x.natAbs := by omega
    rcases Int.lt_or_eq_of_le n0 with z | z
    · exact Int.mul_lt_mul h1 (Int.le_of_lt h1) z (by omega)
    · rw [← z]; exact Int.mul_pos (by omega) (by omega)
  have a := k h.a; have b := k h.b; have c := k h.c; have d := k h.d
  unfold qsize at f
  rw [e]; omega
noncomputable def m1 (t : T9) : Q4 := ⟨t.n + t.p.x + t.q.y + t.r.z, t.r.y - t.q.z, t.p.z - t.r.x, t.q.x - t.p.y⟩
noncomputable def m2 (t : T9) : Q4 := ⟨t.r.y - t.q.z, t.n + t.p.x - t.q.y - t.r.z, t.q.x + t.p.y, t.p.z + t.r.x⟩
noncomputable def m3 (t : T9) : Q4 := ⟨t.p.z - t.r.x, t.q.x + t.p.y, t.n - t.p.x + t.q.y - t.r.z, t.r.y + t.q.z⟩
noncomputable def m4 (t : T9) : Q4 := ⟨t.q.x - t.p.y, t.p.z + t.r.x, t.r.y + t.q.z, t.n - t.p.x - t.q.y + t.r.z⟩
theorem mults {q : Q4} (h0 : q ≠ q0) : ∃ g : Int, g ≠ 0 ∧ qsc g (m1 (turnT q)) = qsc (4 * q.a) q ∧ qsc g (m2 (turnT q)) = qsc (4 * q.b) q ∧ qsc g (m3 (turnT q)) = qsc (4 * q.c) q ∧ qsc g (m4 (turnT q)) = qsc (4 * q.d) q := by
  have l := lowT_of (rawT_pos h0)
  obtain ⟨hg, hn, one, px, py, pz, qx, qy, qz, rx, ry, rz, nn⟩ := l
  have en : turnT q = lowT (rawT q) := rfl
  rw [en]
  refine ⟨gcdL (tl (rawT q)), Int.ne_of_gt hg, ?_⟩
  generalize gcdL (tl (rawT q)) = g at *
  generalize lowT (rawT q) = t at *
  simp only [rawT] at px py pz qx qy qz rx ry rz nn
  clear en h0 one hn hg
  have c1 := Int.mul_comm q.b q.a; have c2 := Int.mul_comm q.c q.a; have c3 := Int.mul_comm q.d q.a; have c4 := Int.mul_comm q.c q.b; have c5 := Int.mul_comm q.d q.b; have c6 := Int.mul_comm q.d q.c
  refine ⟨?_, ?_, ?_, ?_⟩ <;> apply Q4.eq <;> simp only [qsc, m1, m2, m3, m4, Int.mul_add, Int.mul_sub, Int.mul_assoc, px, py, pz, qx, qy, qz, rx, ry, rz, nn, c1, c2, c3, c4, c5, c6] <;> simp +arith only
theorem qsc_q0 (g : Int) : qsc g q0 = q0 := by simp only [qsc, q0, Int.mul_zero]
theorem qsc_0 (q : Q4) : qsc 0 q = q0 := by simp only [qsc, q0, Int.zero_mul]
theorem plain_mult {m q : Q4} {g c : Int} (hg : g ≠ 0) (e : qsc g m = qsc c q) (hm : m ≠ q0) (hq : q ≠ q0) : qplain m = qplain q := by
  have hc : c ≠ 0 := fun z => by
    rw [z, qsc_0] at e
    exact qsc_ne hg hm e
  rw [← qplain_sc hg hm, e, qplain_sc hc hq]
theorem mult_ne {m q : Q4} {g c : Int} (e : qsc g m = qsc c q) (hc : c ≠ 0) (hq : q ≠ q0) : m ≠ q0 := fun z => by
  rw [z, qsc_q0] at e
  exact qsc_ne hc hq e.symm
theorem some_mult {q m : Q4} (h0 : q ≠ q0) (h1 : qsize (m1 (turnT q)) ≤ qsize m) (h2 : qsize (m2 (turnT q)) ≤ qsize m) (h3 : qsize (m3 (turnT q)) ≤ qsize m) (h4 : qsize (m4 (turnT q)) ≤ qsize m) : m ≠ q0 := fun z => by
  have hm : qsize m = 0 := by rw [z]; rfl
  obtain ⟨g, hg, e1, e2, e3, e4⟩ := mults h0
  have k : ∀ {m' : Q4} {c : Int}, qsc g m' = qsc (4 * c) q → qsize m' ≤ qsize m → c = 0 := fun {m' c} e h => by
    by_cases hc : c = 0
    · exact hc
    · have := qsize_pos (mult_ne e (by omega) h0)
      omega
  exact h0 (Q4.eq (k e1 h1) (k e2 h2) (k e3 h3) (k e4 h4))
theorem m_bd {k : Nat} {t : T9} (h : Bt k t) : Bq (k + 3) (m1 t) ∧ Bq (k + 3) (m2 t) ∧ Bq (k + 3) (m3 t) ∧ Bq (k + 3) (m4 t) := by
  have a : ∀ {x y : Int}, Bd k x → Bd k y → Bd (k + 3) (x + y) := fun hx hy => (hx.add hy).mono (by omega)
  have b : ∀ {x y : Int}, Bd k x → Bd k y → Bd (k + 3) (x - y) := fun hx hy => (hx.sub hy).mono (by omega)
  have c1 : Bd (k + 3) (t.n + t.p.x + t.q.y + t.r.z) := (((h.n.add h.p.x).add h.q.y).add h.r.z).mono (by omega)
  have c2 : Bd (k + 3) (t.n + t.p.x - t.q.y - t.r.z) := (((h.n.add h.p.x).sub h.q.y).sub h.r.z).mono (by omega)
  have c3 : Bd (k + 3) (t.n - t.p.x + t.q.y - t.r.z) := (((h.n.sub h.p.x).add h.q.y).sub h.r.z).mono (by omega)
  have c4 : Bd (k + 3) (t.n - t.p.x - t.q.y + t.r.z) := (((h.n.sub h.p.x).sub h.q.y).add h.r.z).mono (by omega)
  exact ⟨⟨c1, b h.r.y h.q.z, b h.p.z h.r.x, b h.q.x h.p.y⟩, ⟨b h.r.y h.q.z, c2, a h.q.x h.p.y, a h.p.z h.r.x⟩, ⟨b h.p.z h.r.x, a h.q.x h.p.y, c3, a h.r.y h.q.z⟩, ⟨b h.q.x h.p.y, a h.p.z h.r.x, a h.r.y h.q.z, c4⟩⟩
theorem qmul_ne {p q : Q4} (hp : p ≠ q0) (hq : q ≠ q0) : qmul p q ≠ q0 := fun z => by
  have e := qsize_mul p q
  rw [z] at e
  have a := qsize_pos hp; have b := qsize_pos hq
  have c := Int.mul_pos a b
  have : qsize q0 = 0 := rfl
  omega
noncomputable def trT (t : T9) : T9 := ⟨⟨t.p.x, t.q.x, t.r.x⟩, ⟨t.p.y, t.q.y, t.r.y⟩, ⟨t.p.z, t.q.z, t.r.z⟩, t.n⟩
theorem rawT_bar (q : Q4) : rawT (qbar q) = trT (rawT q) := by
  simp only [rawT, qbar, trT, qsize, Int.neg_mul, Int.mul_neg, Int.neg_neg, Int.sub_neg, ← Int.sub_eq_add_neg]
theorem gcdL_tr (t : T9) : gcdL (tl (trT t)) = gcdL (tl t) := by
  refine gcdL_congr fun d => ⟨fun h x hx => h x ?_, fun h x hx => h x ?_⟩
  · simp only [tl, trT, List.mem_cons, List.not_mem_nil, or_false] at hx ⊢
    rcases hx with h | h | h | h | h | h | h | h | h | h <;> simp [h]
  · simp only [tl, trT, List.mem_cons, List.not_mem_nil, or_false] at hx ⊢
    rcases hx with h | h | h | h | h | h | h | h | h | h <;> simp [h]
theorem trT_turn (q : Q4) : trT (turnT q) = turnT (qbar q) := by
  unfold turnT lowT
  rw [rawT_bar, gcdL_tr]
  rfl
theorem qbar_ne {q : Q4} (h : q ≠ q0) : qbar q ≠ q0 := fun z => h (by
  have a := congrArg Q4.a z; have b := congrArg Q4.b z; have c := congrArg Q4.c z; have d := congrArg Q4.d z
  simp only [qbar, q0] at a b c d
  exact Q4.eq (by show q.a = 0; omega) (by show q.b = 0; omega) (by show q.c = 0; omega) (by show q.d = 0; omega))
noncomputable def pl (p : P3) : D := .lst [.int p.x, .int p.y, .int p.z]
noncomputable def Shr (t : T9) (p : P3) : Prop := t.n ∣ dot (trT t).p p ∧ t.n ∣ dot (trT t).q p ∧ t.n ∣ dot (trT t).r p
noncomputable instance (t : T9) (p : P3) : Decidable (Shr t p) := inferInstanceAs (Decidable (_ ∧ _))
noncomputable def Cop (a b : Int) : Prop := ∀ d : Int, d ∣ a → d ∣ b → d ∣ 1
theorem Cop.mul {a b c : Int} (h : Cop a b) (d : a ∣ b * c) : a ∣ c := by
  have g : Int.gcd a b = 1 := Int.gcd_eq_one_iff.mpr h
  have e : a ∣ (Int.gcd (a * c) (b * c) : Int) := Int.dvd_coe_gcd (Int.dvd_mul_right a c) d
  rw [Int.gcd_mul_right, g, Nat.one_mul] at e
  exact Int.dvd_natAbs.mp e
structure PW (m g c : Int) : Prop where
  pos : 0 < c
  dvd : c ∣ m
  cop : Cop c g
  all : ∀ d, d ∣ m → Cop d g → d ∣ c
noncomputable def z3 : P3 := ⟨0, 0, 0⟩
structure S6 where
  a : Int
  b : Int
  c : Int
  d : Int
  e : Int
  f : Int
noncomputable def s1 (s : S6) : P3 := ⟨s.a, s.b, s.c⟩
noncomputable def s2 (s : S6) : P3 := ⟨0, s.d, s.e⟩
noncomputable def s3 (s : S6) : P3 := ⟨0, 0, s.f⟩
noncomputable def InG (s : S6) (p : P3) : Prop := p.x.fmod s.a = 0 ∧ (p.y - p.x.fdiv s.a * s.b).fmod s.d = 0 ∧ (p.z - p.x.fdiv s.a * s.c - (p.y - p.x.fdiv s.a * s.b).fdiv s.d * s.e).fmod s.f = 0
noncomputable instance (s : S6) (p : P3) : Decidable (InG s p) := inferInstanceAs (Decidable (_ ∧ _))
noncomputable def led (t : T9) (p : P3) : P3 := ⟨dot t.p p, dot t.q p, dot t.r p⟩
theorem raw_led (p q : Q4) (v : P3) : led (rawT (qmul p q)) v = led (rawT p) (led (rawT q) v) := by
  have a1 : (rawT (qmul p q)).p.x = (rawT p).p.x * (rawT q).p.x + (rawT p).p.y * (rawT q).q.x + (rawT p).p.z * (rawT q).r.x := by simp only [rawT, qmul]; grind
  have a2 : (rawT (qmul p q)).p.y = (rawT p).p.x * (rawT q).p.y + (rawT p).p.y * (rawT q).q.y + (rawT p).p.z * (rawT q).r.y := by simp only [rawT, qmul]; grind
  have a3 : (rawT (qmul p q)).p.z = (rawT p).p.x * (rawT q).p.z + (rawT p).p.y * (rawT q).q.z + (rawT p).p.z * (rawT q).r.z := by simp only [rawT, qmul]; grind
  have b1 : (rawT (qmul p q)).q.x = (rawT p).q.x * (rawT q).p.x + (rawT p).q.y * (rawT q).q.x + (rawT p).q.z * (rawT q).r.x := by simp only [rawT, qmul]; grind
  have b2 : (rawT (qmul p q)).q.y = (rawT p).q.x * (rawT q).p.y + (rawT p).q.y * (rawT q).q.y + (rawT p).q.z * (rawT q).r.y := by simp only [rawT, qmul]; grind
  have b3 : (rawT (qmul p q)).q.z = (rawT p).q.x * (rawT q).p.z + (rawT p).q.y * (rawT q).q.z + (rawT p).q.z * (rawT q).r.z := by simp only [rawT, qmul]; grind
  have c1 : (rawT (qmul p q)).r.x = (rawT p).r.x * (rawT q).p.x + (rawT p).r.y * (rawT q).q.x + (rawT p).r.z * (rawT q).r.x := by simp only [rawT, qmul]; grind
  have c2 : (rawT (qmul p q)).r.y = (rawT p).r.x * (rawT q).p.y + (rawT p).r.y * (rawT q).q.y + (rawT p).r.z * (rawT q).r.y := by simp only [rawT, qmul]; grind
  have c3 : (rawT (qmul p q)).r.z = (rawT p).r.x * (rawT q).p.z + (rawT p).r.y * (rawT q).q.z + (rawT p).r.z * (rawT q).r.z := by simp only [rawT, qmul]; grind
  generalize rawT (qmul p q) = C at *
  generalize rawT p = A at *
  generalize rawT q = B at *
  have f : ∀ (a b c x1 x2 x3 y1 y2 y3 z1 z2 z3 : Int), (a * x1 + b * y1 + c * z1) * v.x + (a * x2 + b * y2 + c * z2) * v.y + (a * x3 + b * y3 + c * z3) * v.z = a * (x1 * v.x + x2 * v.y + x3 * v.z) + b * (y1 * v.x + y2 * v.y + y3 * v.z) + c * (z1 * v.x + z2 * v.y + z3 * v.z) := by
    intros; grind
  simp only [led, dot, a1, a2, a3, b1, b2, b3, c1, c2, c3, f]
noncomputable def p3sc (g : Int) (p : P3) : P3 := ⟨g * p.x, g * p.y, g * p.z⟩
theorem dot_p3sc (g : Int) (p v : P3) : dot p (p3sc g v) = g * dot p v := by simp only [dot, p3sc]; grind
theorem led_p3sc (g : Int) (t : T9) (v : P3) : led t (p3sc g v) = p3sc g (led t v) := by simp only [led, dot_p3sc]; rfl
theorem turn_led {q : Q4} (h0 : q ≠ q0) : ∃ g : Int, 0 < g ∧ g * (turnT q).n = qsize q ∧ ∀ v, led (rawT q) v = p3sc g (led (turnT q) v) := by
  have l := lowT_of (rawT_pos h0)
  obtain ⟨hg, hn, one, px, py, pz, qx, qy, qz, rx, ry, rz, nn⟩ := l
  refine ⟨gcdL (tl (rawT q)), hg, nn, fun v => ?_⟩
  have en : turnT q = lowT (rawT q) := rfl
  rw [en]
  generalize gcdL (tl (rawT q)) = g at *
  generalize lowT (rawT q) = t at *
  have f : ∀ (a b c : Int), g * a * v.x + g * b * v.y + g * c * v.z = g * (a * v.x + b * v.y + c * v.z) := by intros; grind
  simp only [led, dot, p3sc, ← px, ← py, ← pz, ← qx, ← qy, ← qz, ← rx, ← ry, ← rz, f]
theorem led_alg {G1 G2 G3 n1 n2 n3 X Y : Int} (h1 : 0 < G1) (h2 : 0 < G2) (h3 : 0 < G3) (h : G3 * X = G2 * (G1 * Y)) (hn : G3 * n3 = G1 * n1 * (G2 * n2)) : X * n1 * n2 = Y * n3 := by
  have ne : G3 * (G1 * G2) ≠ 0 := Int.ne_of_gt (Int.mul_pos h3 (Int.mul_pos h1 h2))
  refine Int.eq_of_mul_eq_mul_left ne ?_
  have a : G3 * (G1 * G2) * (X * n1 * n2) = (G3 * X) * (G1 * n1 * (G2 * n2)) := by grind
  have b : G3 * (G1 * G2) * (Y * n3) = (G2 * (G1 * Y)) * (G3 * n3) := by grind
  rw [a, b, h, hn]
theorem led_after {p q : Q4} (hp : p ≠ q0) (hq : q ≠ q0) (v : P3) :
    (led (turnT (qmul p q)) v).x * (turnT p).n * (turnT q).n = (led (turnT p) (led (turnT q) v)).x * (turnT (qmul p q)).n ∧
    (led (turnT (qmul p q)) v).y * (turnT p).n * (turnT q).n = (led (turnT p) (led (turnT q) v)).y * (turnT (qmul p q)).n ∧
    (led (turnT (qmul p q)) v).z * (turnT p).n * (turnT q).n = (led (turnT p) (led (turnT q) v)).z * (turnT (qmul p q)).n := by
  obtain ⟨g1, h1, n1, e1⟩ := turn_led hp
  obtain ⟨g2, h2, n2, e2⟩ := turn_led hq
  obtain ⟨g3, h3, n3, e3⟩ := turn_led (qmul_ne hp hq)
  have e := raw_led p q v
  rw [e3, e2, led_p3sc, e1] at e
  have hn : g3 * (turnT (qmul p q)).n = g1 * (turnT p).n * (g2 * (turnT q).n) := by rw [n1, n2, n3]; exact qsize_mul p q
  have x := congrArg P3.x e; have y := congrArg P3.y e; have z := congrArg P3.z e
  simp only [p3sc] at x y z
  exact ⟨led_alg h1 h2 h3 x hn, led_alg h1 h2 h3 y hn, led_alg h1 h2 h3 z hn⟩
theorem led_back {p q : Q4} (hp : p ≠ q0) (hq : q ≠ q0) (v : P3) :
    (led (trT (turnT (qmul p q))) v).x * (turnT p).n * (turnT q).n = (led (trT (turnT q)) (led (trT (turnT p)) v)).x * (turnT (qmul p q)).n ∧
    (led (trT (turnT (qmul p q))) v).y * (turnT p).n * (turnT q).n = (led (trT (turnT q)) (led (trT (turnT p)) v)).y * (turnT (qmul p q)).n ∧
    (led (trT (turnT (qmul p q))) v).z * (turnT p).n * (turnT q).n = (led (trT (turnT q)) (led (trT (turnT p)) v)).z * (turnT (qmul p q)).n := by
  have n1 : (turnT (qbar p)).n = (turnT p).n := by rw [← trT_turn]; rfl
  have n2 : (turnT (qbar q)).n = (turnT q).n := by rw [← trT_turn]; rfl
  have n3 : (turnT (qmul (qbar q) (qbar p))).n = (turnT (qmul p q)).n := by rw [← qbar_mul, ← trT_turn]; rfl
  have h := led_after (qbar_ne hq) (qbar_ne hp) v
  rw [n1, n2, n3] at h
  rw [trT_turn, trT_turn, trT_turn, qbar_mul]
  have f : ∀ a b c : Int, a * b * c = a * c * b := fun a b c => by rw [Int.mul_assoc, Int.mul_comm b c, ← Int.mul_assoc]
  obtain ⟨x, y, z⟩ := h
  exact ⟨by rw [f]; exact x, by rw [f]; exact y, by rw [f]; exact z⟩
theorem bottom_dvd {p q : Q4} (hp : p ≠ q0) (hq : q ≠ q0) : (turnT (qmul p q)).n ∣ (turnT p).n * (turnT q).n := by
  have g := (turnT_is (qmul_ne hp hq)).g
  have l1 := led_back hp hq ⟨1, 0, 0⟩
  have l2 := led_back hp hq ⟨0, 1, 0⟩
  have l3 := led_back hp hq ⟨0, 0, 1⟩
  have e1 : ∀ t : T9, led (trT t) ⟨1, 0, 0⟩ = t.p := fun t => by simp [led, dot, trT]
  have e2 : ∀ t : T9, led (trT t) ⟨0, 1, 0⟩ = t.q := fun t => by simp [led, dot, trT]
  have e3 : ∀ t : T9, led (trT t) ⟨0, 0, 1⟩ = t.r := fun t => by simp [led, dot, trT]
  rw [e1] at l1
  rw [e2] at l2
  rw [e3] at l3
  have gm := gcdL_mul ((turnT p).n * (turnT q).n) (tl (turnT (qmul p q)))
  rw [g, Int.mul_one] at gm
  refine Int.dvd_natAbs.mp ?_
  rw [← gm]
  have f : ∀ {x y : Int}, x * (turnT p).n * (turnT q).n = y * (turnT (qmul p q)).n → (turnT (qmul p q)).n ∣ (turnT p).n * (turnT q).n * x := fun {x y} e => ⟨y, by rw [Int.mul_comm _ y, ← e]; grind⟩
  refine dvd_gcdL.mpr fun x hx => ?_
  simp only [tl, List.map_cons, List.map_nil, List.mem_cons, List.not_mem_nil, or_false] at hx
  rcases hx with rfl | rfl | rfl | rfl | rfl | rfl | rfl | rfl | rfl | rfl
  · exact f l1.1
  · exact f l1.2.1
  · exact f l1.2.2
  · exact f l2.1
  · exact f l2.2.1
  · exact f l2.2.2
  · exact f l3.1
  · exact f l3.2.1
  · exact f l3.2.2
  · exact Int.dvd_mul_left ..
theorem low_turn {r : Q4} (h0 : r ≠ q0) : lowQ r ≠ q0 ∧ turnT (lowQ r) = turnT r := by
  have e := lowQ_mul r
  have l0 : lowQ r ≠ q0 := fun z => h0 (by rw [e, z, qsc_q0])
  have g0 : gcdL (ql r) ≠ 0 := fun z => h0 (ql_zero z)
  refine ⟨l0, ?_⟩
  conv => rhs; rw [e]
  exact (turnT_sc g0 l0).symm
theorem odd_two {m h : Int} (ho : m % 2 = 1) (hd : m ∣ 2 * h) : m ∣ h := by
  obtain ⟨t, e⟩ := hd
  have t2 : t % 2 = 0 := by
    have : (m * t) % 2 = 0 := by rw [← e]; exact Int.mul_emod_right 2 h
    rw [Int.mul_emod, ho, Int.one_mul, Int.emod_emod_of_dvd _ (Int.dvd_refl 2)] at this
    exact this
  obtain ⟨s, rfl⟩ := Int.dvd_of_emod_eq_zero t2
  exact ⟨s, Int.eq_of_mul_eq_mul_left (show (2 : Int) ≠ 0 by decide) (by rw [e, Int.mul_left_comm])⟩
theorem odd_dvd4 {m h : Int} (ho : m % 2 = 1) (hd : m ∣ 4 * h) : m ∣ h := odd_two ho (odd_two ho (by rw [← Int.mul_assoc]; exact hd))
theorem odd_left {a b : Int} (h : (a * b) % 2 = 1) : a % 2 = 1 := by
  rcases Int.emod_two_eq a with z | z
  · rw [Int.mul_emod, z] at h; simp at h
  · exact z
theorem odd_sq {m : Int} (h : m % 2 = 1) : (m * m) % 2 = 1 := by rw [Int.mul_emod, h]; rfl
theorem mul_cut {g a b : Int} (h0 : g ≠ 0) (h : g * a ∣ g * b) : a ∣ b := by
  obtain ⟨t, e⟩ := h
  exact ⟨t, Int.eq_of_mul_eq_mul_left h0 (by rw [e]; grind)⟩
noncomputable def dbl (q : Q4) : Q4 := ⟨2 * q.a, 2 * q.b, 2 * q.c, 2 * q.d⟩
theorem dbl_stone (q : Q4) : Stone (dbl q) := ⟨(ev2 _).trans (ev2 _).symm, (ev2 _).trans (ev2 _).symm, (ev2 _).trans (ev2 _).symm⟩
theorem dbl_heavy (q : Q4) : heavy (dbl q) = qsize q := by
  have h := heavy_four (dbl_stone q)
  have e : qsize (dbl q) = 4 * qsize q := by simp only [qsize, dbl]; grind
  omega
noncomputable def num (m : Int) : Q4 := ⟨m, 0, 0, 0⟩
theorem num_left {m : Int} {b : Q4} (hb : Stone b) : smul (dbl (num m)) b = ⟨m * b.a, m * b.b, m * b.c, m * b.d⟩ := smul_of (by
  simp only [qmul, dbl, num, Int.mul_zero, Int.zero_mul, Int.sub_zero, Int.add_zero, Int.mul_assoc])
theorem num_right {m : Int} {b : Q4} (hb : Stone b) : smul b (dbl (num m)) = ⟨m * b.a, m * b.b, m * b.c, m * b.d⟩ := smul_of (by
  have f : ∀ x : Int, x * (2 * m) = 2 * (m * x) := fun x => by rw [Int.mul_left_comm, Int.mul_comm x m]
  simp only [qmul, dbl, num, Int.mul_zero, Int.sub_zero, Int.add_zero, Int.zero_add, f])
theorem odd_d2 {m h : Int} (ho : m % 2 = 1) (hd : m ∣ 2 * h) : m ∣ h := odd_two ho hd
theorem dvd_qmul {m : Int} {p : Q4} (h1 : m ∣ p.a) (h2 : m ∣ p.b) (h3 : m ∣ p.c) (h4 : m ∣ p.d) (q : Q4) : m ∣ (qmul p q).a ∧ m ∣ (qmul p q).b ∧ m ∣ (qmul p q).c ∧ m ∣ (qmul p q).d := by
  have l : ∀ {z : Int}, m ∣ z → ∀ w, m ∣ z * w := fun h w => Int.dvd_mul_of_dvd_left h
  exact ⟨Int.dvd_sub (Int.dvd_sub (Int.dvd_sub (l h1 _) (l h2 _)) (l h3 _)) (l h4 _), Int.dvd_sub (Int.dvd_add (Int.dvd_add (l h1 _) (l h2 _)) (l h3 _)) (l h4 _), Int.dvd_add (Int.dvd_add (Int.dvd_sub (l h1 _) (l h2 _)) (l h3 _)) (l h4 _), Int.dvd_add (Int.dvd_sub (Int.dvd_add (l h1 _) (l h2 _)) (l h3 _)) (l h4 _)⟩
theorem gpart_into {y s a b : Q4} {m : Int} (sy : Stone y) (ho : m % 2 = 1) (hd : m ∣ heavy y) (r : Row (dbl (num m)) y s a b) : m ∣ heavy s := by
  apply odd_dvd4 ho
  obtain ⟨k, ek⟩ := hd
  have sp := smul_two sy r.sb
  have hp : qsize (smul y b) = 4 * (heavy y * heavy b) := by
    rw [← heavy_four sp.2, heavy_mul sy r.sb]
  rw [heavy_four r.ss, r.e, num_left r.sa]
  generalize smul y b = p at *
  refine ⟨4 * (k * heavy b) + 2 * (p.a * a.a + p.b * a.b + p.c * a.c + p.d * a.d) + m * qsize a, ?_⟩
  have e1 : qsize (qadd ⟨m * a.a, m * a.b, m * a.c, m * a.d⟩ p) = qsize p + m * (2 * (p.a * a.a + p.b * a.b + p.c * a.c + p.d * a.d)) + m * (m * qsize a) := by
    simp only [qsize, qadd]; grind
  rw [e1, hp, ek]; grind
theorem gpart_of {y s u v : Q4} {m : Int} (hm : 0 < m) (ho : m % 2 = 1) (hy' : ∀ d : Int, d % 2 = 1 → d ∣ m * m → d ∣ y.a → d ∣ y.b → d ∣ y.c → d ∣ y.d → d ∣ 1) (ss : Stone s) (su : Stone u) (sv : Stone v) (eu : y = smul s u) (ev : dbl (num m) = smul s v) : heavy s ∣ m := by
  have hy : heavy s * heavy v = m * m := by
    rw [← heavy_mul ss sv, ← ev, dbl_heavy]; simp only [qsize, num]; grind
  have no : heavy s % 2 = 1 := odd_left (b := heavy v) (by rw [hy]; exact odd_sq ho)
  have e := num_right (m := m) ss.bar
  rw [ev, bar_smul ss sv] at e
  have h1 := congrArg Q4.a e; have h2 := congrArg Q4.b e; have h3 := congrArg Q4.c e; have h4 := congrArg Q4.d e
  simp only [qbar] at h1 h2 h3 h4
  generalize heavy s = n at *
  have d1 : n ∣ m * s.a := ⟨v.a, h1.symm⟩
  have d2 : n ∣ m * s.b := ⟨-v.b, by grind⟩
  have d3 : n ∣ m * s.c := ⟨-v.c, by grind⟩
  have d4 : n ∣ m * s.d := ⟨-v.d, by grind⟩
  have g0 : ((Int.gcd n m : Nat) : Int) ≠ 0 := by
    intro z
    have : Int.gcd n m = 0 := by omega
    have := (Int.gcd_eq_zero_iff.mp this).2
    omega
  have gn : ((Int.gcd n m : Nat) : Int) ∣ n := Int.gcd_dvd_left ..
  have gm : ((Int.gcd n m : Nat) : Int) ∣ m := Int.gcd_dvd_right ..
  obtain ⟨f, ef⟩ := gn
  have fo : f % 2 = 1 := odd_left (b := ((Int.gcd n m : Nat) : Int)) (by rw [Int.mul_comm, ← ef]; exact no)
  have k : ∀ {z : Int}, n ∣ m * z → f ∣ z := fun {z} h => by
    have h2 : n ∣ ((Int.gcd (n * z) (m * z) : Nat) : Int) := Int.dvd_coe_gcd ⟨z, rfl⟩ h
    rw [Int.gcd_mul_right] at h2
    have h3 : n ∣ ((Int.gcd n m : Nat) : Int) * (z.natAbs : Int) := by exact_mod_cast h2
    apply Int.dvd_natAbs.mp
    apply mul_cut g0
    rw [← ef]
    exact h3
  have e2 := (smul_two ss su).1
  rw [← eu] at e2
  obtain ⟨k1, k2, k3, k4⟩ := dvd_qmul (k d1) (k d2) (k d3) (k d4) u
  rw [e2] at k1 k2 k3 k4
  have fm : f ∣ m * m := Int.dvd_trans ⟨((Int.gcd n m : Nat) : Int), by rw [Int.mul_comm]; exact ef⟩ ⟨heavy v, hy.symm⟩
  have f1 := hy' f fo fm (odd_d2 fo k1) (odd_d2 fo k2) (odd_d2 fo k3) (odd_d2 fo k4)
  rw [ef]
  exact Int.dvd_trans (Int.mul_dvd_mul (Int.dvd_refl _) f1) (by rw [Int.mul_one]; exact gm)
noncomputable def Op (s : Q4) : Prop := ∀ d : Int, d % 2 = 1 → d ∣ s.a → d ∣ s.b → d ∣ s.c → d ∣ s.d → d ∣ 1
theorem odd_pow {m h : Int} (ho : m % 2 = 1) : ∀ k : Nat, m ∣ h * 2 ^ k → m ∣ h
  | 0, hd => by rw [Int.pow_zero, Int.mul_one] at hd; exact hd
  | k + 1, hd => odd_pow ho k (odd_d2 ho (by rw [Int.pow_succ] at hd; rw [show 2 * (h * 2 ^ k) = h * (2 ^ k * 2) by grind]; exact hd))
theorem odd_of {m d : Int} (ho : m % 2 = 1) (h : d ∣ m) : d % 2 = 1 := by
  obtain ⟨k, e⟩ := h
  exact odd_left (b := k) (by rw [← e]; exact ho)
theorem bottom_is {s : Q4} {m : Int} {k : Nat} (s0 : s ≠ q0) (m0 : 0 < m) (odd : m % 2 = 1) (op : Op s) (size : qsize s = m * 2 ^ k) : (turnT s).n = m := by
  obtain ⟨l0, et⟩ := low_turn s0
  obtain ⟨j, hj, ej, od⟩ := turn_odd (lowQ_one s0) l0
  rw [et] at ej od
  have np := turnT_pos s0
  have em := lowQ_mul s
  have d1 : ∀ x ∈ ql s, gcdL (ql s) ∣ x := fun x hx => gcdL_dvd hx
  have cop : Cop m (gcdL (ql s)) := fun d dm dg => by
    have do_ := odd_of odd dm
    exact op d do_ (Int.dvd_trans dg (d1 s.a (by simp [ql]))) (Int.dvd_trans dg (d1 s.b (by simp [ql]))) (Int.dvd_trans dg (d1 s.c (by simp [ql]))) (Int.dvd_trans dg (d1 s.d (by simp [ql])))
  have size2 : qsize s = gcdL (ql s) * (gcdL (ql s) * ((turnT s).n * 2 ^ j)) := by
    rw [← ej]
    conv => lhs; rw [em]
    simp only [qsize, qsc]; grind
  have nm : (turnT s).n ∣ m := odd_pow od k ⟨gcdL (ql s) * gcdL (ql s) * 2 ^ j, by rw [← size, size2]; grind⟩
  have mn : m ∣ (turnT s).n := by
    have e : m ∣ gcdL (ql s) * (gcdL (ql s) * ((turnT s).n * 2 ^ j)) := by rw [← size2, size]; exact Int.dvd_mul_right ..
    exact odd_pow odd j (cop.mul (cop.mul e))
  exact Int.dvd_antisymm (by omega) (by omega) nm mn
noncomputable def one4 : Q4 := ⟨1, 0, 0, 0⟩
noncomputable def prodQ (qs : List Q4) : Q4 := qs.foldl qmul one4
theorem prodQ_snoc (qs : List Q4) (q : Q4) : prodQ (qs ++ [q]) = qmul (prodQ qs) q := by unfold prodQ; rw [List.foldl_append]; rfl
theorem qmul_one4 (q : Q4) : qmul q one4 = q := by simp only [qmul, one4, Int.mul_one, Int.mul_zero, Int.sub_zero, Int.add_zero, Int.zero_add]
theorem one4_qmul (q : Q4) : qmul one4 q = q := by simp only [qmul, one4, Int.one_mul, Int.zero_mul, Int.sub_zero, Int.add_zero]
theorem foldl_qmul : ∀ (qs : List Q4) (p : Q4), qs.foldl qmul p = qmul p (prodQ qs)
  | [], p => (qmul_one4 p).symm
  | q :: qs, p => by
    show qs.foldl qmul (qmul p q) = qmul p (qs.foldl qmul (qmul one4 q))
    rw [foldl_qmul qs (qmul p q), foldl_qmul qs (qmul one4 q), one4_qmul, qmul_assoc]
theorem prodQ_cons (q : Q4) (qs : List Q4) : prodQ (q :: qs) = qmul q (prodQ qs) := by
  show qs.foldl qmul (qmul one4 q) = _
  rw [foldl_qmul, one4_qmul]
theorem one4_ne : one4 ≠ q0 := by decide
theorem prodQ_ne : ∀ {qs : List Q4}, (∀ q ∈ qs, q ≠ q0) → prodQ qs ≠ q0
  | [], _ => one4_ne
  | q :: qs, h => by rw [prodQ_cons]; exact qmul_ne (h q (by simp)) (prodQ_ne fun p hp => h p (by simp [hp]))
theorem turn_one4 : turnT one4 = ⟨⟨1, 0, 0⟩, ⟨0, 1, 0⟩, ⟨0, 0, 1⟩, 1⟩ := by
  have g : gcdL (tl (rawT one4)) = 1 := by decide
  unfold turnT lowT
  rw [g]
  rfl
noncomputable def trL (t : T9) : D := .lst [pl t.p, pl t.q, pl t.r]
noncomputable def mulT (t u : T9) : T9 := ⟨⟨dot t.p (trT u).p, dot t.p (trT u).q, dot t.p (trT u).r⟩, ⟨dot t.q (trT u).p, dot t.q (trT u).q, dot t.q (trT u).r⟩, ⟨dot t.r (trT u).p, dot t.r (trT u).q, dot t.r (trT u).r⟩, t.n * u.n⟩
theorem dot_e1 (p : P3) : dot p ⟨1, 0, 0⟩ = p.x := by simp [dot]
theorem dot_e2 (p : P3) : dot p ⟨0, 1, 0⟩ = p.y := by simp [dot]
theorem dot_e3 (p : P3) : dot p ⟨0, 0, 1⟩ = p.z := by simp [dot]
theorem mul_raw (p q : Q4) : mulT (rawT p) (rawT q) = rawT (qmul p q) := by
  have h1 := raw_led p q ⟨1, 0, 0⟩
  have h2 := raw_led p q ⟨0, 1, 0⟩
  have h3 := raw_led p q ⟨0, 0, 1⟩
  have hn : (rawT p).n * (rawT q).n = (rawT (qmul p q)).n := by rw [rawT_n, rawT_n, rawT_n, qsize_mul]
  generalize rawT (qmul p q) = r at *
  generalize rawT p = t at *
  generalize rawT q = u at *
  simp only [led, dot_e1, dot_e2, dot_e3, P3.mk.injEq] at h1 h2 h3
  unfold mulT trT
  rw [hn, ← h1.1, ← h1.2.1, ← h1.2.2, ← h2.1, ← h2.2.1, ← h2.2.2, ← h3.1, ← h3.2.1, ← h3.2.2]
theorem mul_sc (a b : Int) (t u : T9) : mulT (tsc a t) (tsc b u) = tsc (a * b) (mulT t u) := by
  simp only [mulT, tsc, trT, dot, T9.mk.injEq, P3.mk.injEq]
  refine ⟨⟨?_, ?_, ?_⟩, ⟨?_, ?_, ?_⟩, ⟨?_, ?_, ?_⟩, ?_⟩ <;> grind
theorem raw_turn {q : Q4} (h0 : q ≠ q0) : ∃ g : Int, 0 < g ∧ rawT q = tsc g (turnT q) := by
  have l := lowT_of (rawT_pos h0)
  refine ⟨gcdL (tl (rawT q)), l.g, ?_⟩
  show _ = tsc _ (lowT (rawT q))
  unfold tsc
  rw [l.px, l.py, l.pz, l.qx, l.qy, l.qz, l.rx, l.ry, l.rz, l.nn]
theorem mulT_bd {k : Nat} {t u : T9} (h : Bt k t) (g : Bt k u) : Bt (2 * k + 2) (mulT t u) := by
  have c1 : Bp k (trT u).p := ⟨g.p.x, g.q.x, g.r.x⟩
  have c2 : Bp k (trT u).q := ⟨g.p.y, g.q.y, g.r.y⟩
  have c3 : Bp k (trT u).r := ⟨g.p.z, g.q.z, g.r.z⟩
  exact ⟨⟨dot_bd h.p c1, dot_bd h.p c2, dot_bd h.p c3⟩, ⟨dot_bd h.q c1, dot_bd h.q c2, dot_bd h.q c3⟩, ⟨dot_bd h.r c1, dot_bd h.r c2, dot_bd h.r c3⟩, (h.n.mul g.n).mono (by omega)⟩
theorem mul_turn {p q : Q4} (hp : p ≠ q0) (hq : q ≠ q0) : lowT (mulT (turnT p) (turnT q)) = turnT (qmul p q) := by
  obtain ⟨g, g0, eg⟩ := raw_turn hp
  obtain ⟨h, h0, eh⟩ := raw_turn hq
  have e := mul_raw p q
  rw [eg, eh, mul_sc] at e
  show _ = lowT (rawT (qmul p q))
  rw [← e, lowT_sc (Int.mul_pos g0 h0)]
  have n0 : 0 < (mulT (turnT p) (turnT q)).n := Int.mul_pos (turnT_pos hp) (turnT_pos hq)
  exact (lowT_of n0).g
theorem qmul_dvd {m : Int} {q : Q4} (h1 : m ∣ q.a) (h2 : m ∣ q.b) (h3 : m ∣ q.c) (h4 : m ∣ q.d) (p : Q4) : m ∣ (qmul p q).a ∧ m ∣ (qmul p q).b ∧ m ∣ (qmul p q).c ∧ m ∣ (qmul p q).d := by
  have l : ∀ {z : Int}, m ∣ z → ∀ w, m ∣ w * z := fun h w => Int.dvd_mul_of_dvd_right h
  exact ⟨Int.dvd_sub (Int.dvd_sub (Int.dvd_sub (l h1 _) (l h2 _)) (l h3 _)) (l h4 _), Int.dvd_sub (Int.dvd_add (Int.dvd_add (l h2 _) (l h1 _)) (l h4 _)) (l h3 _), Int.dvd_add (Int.dvd_add (Int.dvd_sub (l h3 _) (l h4 _)) (l h1 _)) (l h2 _), Int.dvd_add (Int.dvd_sub (Int.dvd_add (l h4 _) (l h3 _)) (l h2 _)) (l h1 _)⟩
theorem op_parts {y s v : Q4} (hy : Op y) (ss : Stone s) (sv : Stone v) (e : y = smul s v) : Op s ∧ Op v := by
  have e2 := (smul_two ss sv).1
  rw [← e] at e2
  have a := congrArg Q4.a e2; have b := congrArg Q4.b e2; have c := congrArg Q4.c e2; have d := congrArg Q4.d e2
  simp only at a b c d
  refine ⟨fun n hn h1 h2 h3 h4 => ?_, fun n hn h1 h2 h3 h4 => ?_⟩
  · obtain ⟨k1, k2, k3, k4⟩ := dvd_qmul h1 h2 h3 h4 v
    rw [a] at k1; rw [b] at k2; rw [c] at k3; rw [d] at k4
    exact hy n hn (odd_d2 hn k1) (odd_d2 hn k2) (odd_d2 hn k3) (odd_d2 hn k4)
  · obtain ⟨k1, k2, k3, k4⟩ := qmul_dvd h1 h2 h3 h4 s
    rw [a] at k1; rw [b] at k2; rw [c] at k3; rw [d] at k4
    exact hy n hn (odd_d2 hn k1) (odd_d2 hn k2) (odd_d2 hn k3) (odd_d2 hn k4)
theorem op_dbl {q : Q4} (h : gcdL (ql q) = 1) : Op (dbl q) := fun d hd h1 h2 h3 h4 => by
  rw [← h]
  refine dvd_gcdL.mpr fun x hx => ?_
  simp only [ql, List.mem_cons, List.not_mem_nil, or_false] at hx
  rcases hx with rfl | rfl | rfl | rfl
  · exact odd_d2 hd h1
  · exact odd_d2 hd h2
  · exact odd_d2 hd h3
  · exact odd_d2 hd h4
theorem part_step {y s a b u v : Q4} {m h : Int} (sy : Stone y) (m0 : 0 < m) (odd : m % 2 = 1) (op : Op y) (hy : heavy y = m * h) (r : Row (dbl (num m)) y s a b) (su : Stone u) (sv : Stone v) (ex : dbl (num m) = smul s u) (ey : y = smul s v) : heavy s = m ∧ heavy v = h ∧ Op s ∧ Op v := by
  have h1 := gpart_into sy odd ⟨h, hy⟩ r
  have h2 := gpart_of m0 odd (fun d hd _ => op d hd) r.ss sv su ey ex
  have hs : heavy s = m := Int.dvd_antisymm (heavy_nn s) (by omega) h2 h1
  refine ⟨hs, ?_, op_parts op r.ss sv ey⟩
  have e : heavy s * heavy v = m * h := by rw [← heavy_mul r.ss sv, ← ey, hy]
  rw [hs] at e
  exact Int.eq_of_mul_eq_mul_left (by omega) e
theorem smul_qsc {s v : Q4} (ss : Stone s) (sv : Stone v) : qmul s v = qsc 2 (smul s v) := (smul_two ss sv).1
theorem qmul_sc_r (k : Int) (p q : Q4) : qmul p (qsc k q) = qsc k (qmul p q) := by apply Q4.eq <;> simp only [qmul, qsc] <;> grind
theorem turn_step {P y s v : Q4} (ss : Stone s) (sv : Stone v) (e : y = smul s v) (h0 : qmul P y ≠ q0) : turnT (qmul (qmul P s) v) = turnT (qmul P y) := by
  rw [qmul_assoc, smul_qsc ss sv, qmul_sc_r, ← e, turnT_sc (by decide) h0]
noncomputable def Parts (n : Int) (ns : List Int) : Prop := (∀ x ∈ ns, 1 ≤ x) ∧ ns.foldl (· * ·) 1 = n
noncomputable instance (n : Int) (ns : List Int) : Decidable (Parts n ns) := inferInstanceAs (Decidable (_ ∧ _))
noncomputable def prd (ns : List Int) : Int := ns.foldl (· * ·) 1
theorem foldl_mul : ∀ (ms : List Int) (a : Int), ms.foldl (· * ·) a = a * prd ms
  | [], a => by simp [prd]
  | x :: ms, a => by
    show ms.foldl (· * ·) (a * x) = a * ms.foldl (· * ·) (1 * x)
    rw [foldl_mul ms (a * x), foldl_mul ms (1 * x), Int.one_mul, Int.mul_assoc]
theorem prd_cons (x : Int) (ms : List Int) : prd (x :: ms) = x * prd ms := by
  show ms.foldl (· * ·) (1 * x) = _
  rw [foldl_mul, Int.one_mul]
theorem prd_pos : ∀ {ms : List Int}, (∀ x ∈ ms, 1 ≤ x) → 0 < prd ms
  | [], _ => by decide
  | x :: ms, h => by
    rw [prd_cons]
    exact Int.mul_pos (by have := h x (by simp); omega) (prd_pos fun y hy => h y (by simp [hy]))
theorem prd_append (xs ys : List Int) : prd (xs ++ ys) = prd xs * prd ys := by
  unfold prd
  rw [List.foldl_append, foldl_mul ys]
  rfl
theorem prd_mem : ∀ {ms : List Int}, (∀ x ∈ ms, 1 ≤ x) → ∀ x ∈ ms, x ≤ prd ms
  | [], _, x, hx => by cases hx
  | y :: ms, hy, x, hx => by
    have yy := hy y (by simp)
    have pm := prd_pos (ms := ms) fun z hz => hy z (by simp [hz])
    rw [prd_cons]
    rcases List.mem_cons.mp hx with e | hx
    · rw [e]
      have := Int.mul_le_mul_of_nonneg_left (show 1 ≤ prd ms by omega) (show 0 ≤ y by omega)
      omega
    · have h1 := prd_mem (ms := ms) (fun z hz => hy z (by simp [hz])) x hx
      have h2 := Int.mul_le_mul_of_nonneg_right yy (show 0 ≤ prd ms by omega)
      omega
theorem prd_set : ∀ (ns : List Int) (k : Nat) (h : k < ns.length), prd (ns.set k (ns[k] * 3)) = 3 * prd ns
  | x :: ns, 0, h => by simp only [List.set_cons_zero, List.getElem_cons_zero, prd_cons]; grind
  | x :: ns, k + 1, h => by
    have e := prd_set ns k (by simpa using h)
    simp only [List.set_cons_succ, List.getElem_cons_succ, prd_cons, e]; grind
theorem prd_cut (ns : List Int) (k : Nat) : prd (ns.take k) * prd (ns.drop k) = prd ns := by rw [← prd_append, List.take_append_drop]
theorem prd_out (ns : List Int) (k : Nat) (h : k < ns.length) : prd (ns.take k ++ ns.drop (k + 1)) * ns[k] = prd ns := by
  rw [prd_append, ← prd_cut ns k, List.drop_eq_getElem_cons h, prd_cons]; grind
theorem parts_bd {n : Int} {ns : List Int} {k : Nat} (h : Parts n ns) (b : n.natAbs < 2 ^ k) : ∀ x ∈ ns, x.natAbs < 2 ^ k := fun x hx => by
  have h1 := h.1 x hx
  have h2 := prd_mem h.1 x hx
  have h3 : prd ns = n := h.2
  omega
theorem isturn_bd {t : T9} (h : IsTurn t) {k : Nat} (bn : Bd k t.n) : Bt k t := by
  have sq := sq_nn
  have f : ∀ {x : Int}, x * x ≤ t.n * t.n → Bd k x := fun {x} hx => bd_le bn (by
    apply Classical.byContradiction
    intro z
    have z : t.n.natAbs < x.natAbs := by omega
    have m := Nat.mul_lt_mul'' z z
    have e1 := Int.natAbs_mul_self (a := x)
    have e2 := Int.natAbs_mul_self (a := t.n)
    omega)
  have r : ∀ {p : P3}, dot p p = t.n * t.n → Bp k p := fun {p} e => by
    have a := sq p.x; have b := sq p.y; have c := sq p.z
    unfold dot at e
    exact ⟨f (by omega), f (by omega), f (by omega)⟩
  exact ⟨r h.pp, r h.qq, r h.rr, bn⟩
noncomputable def bots (ps : List Q4) : List Int := ps.map fun s => (turnT s).n
theorem prod_bottom : ∀ {ps : List Q4}, (∀ s ∈ ps, s ≠ q0) → (turnT (prodQ ps)).n ∣ prd (bots ps)
  | [], _ => by
    show (turnT one4).n ∣ 1
    rw [turn_one4]
    exact Int.dvd_refl _
  | s :: ps, h => by
    have hs := h s (by simp)
    have hp : ∀ x ∈ ps, x ≠ q0 := fun x hx => h x (by simp [hx])
    rw [prodQ_cons]
    show _ ∣ prd ((turnT s).n :: bots ps)
    rw [prd_cons]
    exact Int.dvd_trans (bottom_dvd hs (prodQ_ne hp)) (Int.mul_dvd_mul (Int.dvd_refl _) (prod_bottom hp))
theorem bots_pos {ps : List Q4} (h : ∀ s ∈ ps, s ≠ q0) : ∀ x ∈ bots ps, 1 ≤ x := fun x hx => by
  obtain ⟨s, hs, rfl⟩ := List.mem_map.mp hx
  have := turnT_pos (h s hs)
  omega
theorem pre_bottom {pre xs : List Q4} (h : ∀ s ∈ pre ++ xs, s ≠ q0) : (turnT (prodQ pre)).n ≤ prd (bots (pre ++ xs)) := by
  have hp : ∀ s ∈ pre, s ≠ q0 := fun s hs => h s (by simp [hs])
  have hx : ∀ s ∈ xs, s ≠ q0 := fun s hs => h s (by simp [hs])
  have a := prd_pos (bots_pos hp)
  have b := prd_pos (bots_pos hx)
  have d := Int.le_of_dvd a (prod_bottom hp)
  have e : bots (pre ++ xs) = bots pre ++ bots xs := List.map_append
  rw [e, prd_append]
  have := Int.mul_le_mul_of_nonneg_left (show 1 ≤ prd (bots xs) by omega) (show 0 ≤ prd (bots pre) by omega)
  omega
noncomputable def top (i : Nat) : Stmt := PySem.Challenge.pw_turngrid_k42_parted_by_sizes.main.body.getD i (.Pass ⟨0, 0, 0, 0⟩)
noncomputable abbrev s_law_cell_at : Stmt := top 45
noncomputable abbrev s_law_near : Stmt := top 46
noncomputable abbrev s_law_quad : Stmt := top 48
noncomputable abbrev s_law_divisor : Stmt := top 49
noncomputable abbrev s_law_laid : Stmt := top 54
noncomputable abbrev s_law_made_quad : Stmt := top 55
noncomputable abbrev s_law_lower : Stmt := top 50
noncomputable abbrev s_law_table : Stmt := top 51
noncomputable abbrev s_law_sizes : Stmt := top 56
noncomputable abbrev s_is_product : Stmt := top 43
noncomputable abbrev s_row_over : Stmt := top 15
noncomputable abbrev s_product : Stmt := top 20
noncomputable abbrev s_stone_product : Stmt := top 28
noncomputable abbrev s_row_mix : Stmt := top 13
noncomputable abbrev s_row_less : Stmt := top 14
noncomputable abbrev s_with_rest : Stmt := top 31
noncomputable abbrev s_mirrored : Stmt := top 21
noncomputable abbrev s_even_stone_near : Stmt := top 32
noncomputable abbrev s_odd_stone_near : Stmt := top 33
noncomputable abbrev s_row_times : Stmt := top 12
noncomputable abbrev s_size : Stmt := top 22
noncomputable abbrev s_weight : Stmt := top 29
noncomputable abbrev s_divided : Stmt := top 30
noncomputable abbrev s_common : Stmt := top 34
noncomputable abbrev s_rows_of : Stmt := top 37
noncomputable abbrev s_divisor_of_two : Stmt := top 18
noncomputable abbrev s_divisor : Stmt := top 17
noncomputable abbrev s_table_divisor : Stmt := top 38
noncomputable abbrev s_turn_of : Stmt := top 36
noncomputable abbrev s_leads_below_nought : Stmt := top 24
noncomputable abbrev s_plain : Stmt := top 23
noncomputable abbrev s_multiples_of_quad : Stmt := top 40
noncomputable abbrev s_quad_of : Stmt := top 39
noncomputable abbrev s_parted : Stmt := top 42
noncomputable abbrev s_law_behind : Stmt := top 57
noncomputable abbrev s_law_refused : Stmt := top 58
noncomputable abbrev s_law_wrong : Stmt := top 59
noncomputable abbrev s_law_whole : Stmt := top 47
noncomputable abbrev s_law_form : Stmt := top 52
noncomputable abbrev s_law_is_turn : Stmt := top 53
noncomputable abbrev s_law : Stmt := top 60
theorem sc_law_cell_at : FnScope ["script", "k"] ["script", "k"] (defScope s_law_cell_at) := ⟨rfl, rfl, rfl, by decide +kernel, rfl, by decide +kernel, by decide +kernel⟩
theorem sc_law_near : FnScope ["cell", "most", "left"] ["cell", "most"] (defScope s_law_near) := ⟨rfl, rfl, rfl, by decide +kernel, rfl, by decide +kernel, by decide +kernel⟩
theorem sc_law_quad : FnScope ["cells", "most", "numbers", "k"] ["cells", "most"] (defScope s_law_quad) := ⟨rfl, rfl, rfl, by decide +kernel, rfl, by decide +kernel, by decide +kernel⟩
theorem sc_law_divisor : FnScope ["numbers", "found", "number", "other"] ["numbers"] (defScope s_law_divisor) := ⟨rfl, rfl, rfl, by decide +kernel, rfl, by decide +kernel, by decide +kernel⟩
theorem sc_law_laid : FnScope ["one", "other", "a", "b", "c", "d", "e", "f", "g", "h", "first", "second"] ["one", "other"] (defScope s_law_laid) := ⟨rfl, rfl, rfl, by decide +kernel, rfl, by decide +kernel, by decide +kernel⟩
theorem sc_law_made_quad : FnScope ["cells", "most", "quad", "k", "some", "few"] ["cells", "most"] (defScope s_law_made_quad) := ⟨rfl, rfl, rfl, by decide +kernel, rfl, by decide +kernel, by decide +kernel⟩
theorem sc_law_lower : FnScope ["rows", "bottom", "few"] ["rows", "bottom"] (defScope s_law_lower) := ⟨rfl, rfl, rfl, by decide +kernel, rfl, by decide +kernel, by decide +kernel⟩
theorem sc_law_table : FnScope ["quad", "a", "b", "c", "d", "first", "second", "third"] ["quad"] (defScope s_law_table) := ⟨rfl, rfl, rfl, by decide +kernel, rfl, by decide +kernel, by decide +kernel⟩
theorem sc_law_sizes : FnScope ["bottom", "cells", "sizes", "left", "cell", "drawn", "part", "at"] ["bottom", "cells"] (defScope s_law_sizes) := ⟨rfl, rfl, rfl, by decide +kernel, rfl, by decide +kernel, by decide +kernel⟩
theorem sc_is_product : FnScope ["n", "sizes", "made", "part"] ["n", "sizes"] (defScope s_is_product) := ⟨rfl, rfl, rfl, by decide +kernel, rfl, by decide +kernel, by decide +kernel⟩
theorem sc_row_over : FnScope ["row", "n"] ["row", "n"] (defScope s_row_over) := ⟨rfl, rfl, rfl, by decide +kernel, rfl, by decide +kernel, by decide +kernel⟩
theorem sc_product : FnScope ["one", "other"] ["one", "other"] (defScope s_product) := ⟨rfl, rfl, rfl, by decide +kernel, rfl, by decide +kernel, by decide +kernel⟩
theorem sc_stone_product : FnScope ["one", "other"] ["one", "other"] (defScope s_stone_product) := ⟨rfl, rfl, rfl, by decide +kernel, rfl, by decide +kernel, by decide +kernel⟩
theorem sc_row_mix : FnScope ["one", "times", "other", "times_too"] ["one", "times", "other", "times_too"] (defScope s_row_mix) := ⟨rfl, rfl, rfl, by decide +kernel, rfl, by decide +kernel, by decide +kernel⟩
theorem sc_row_less : FnScope ["row", "taken", "times"] ["row", "taken", "times"] (defScope s_row_less) := ⟨rfl, rfl, rfl, by decide +kernel, rfl, by decide +kernel, by decide +kernel⟩
theorem sc_with_rest : FnScope ["x", "y", "k"] ["x", "y", "k"] (defScope s_with_rest) := ⟨rfl, rfl, rfl, by decide +kernel, rfl, by decide +kernel, by decide +kernel⟩
theorem sc_mirrored : FnScope ["quad"] ["quad"] (defScope s_mirrored) := ⟨rfl, rfl, rfl, by decide +kernel, rfl, by decide +kernel, by decide +kernel⟩
theorem sc_even_stone_near : FnScope ["aim", "bottom"] ["aim", "bottom"] (defScope s_even_stone_near) := ⟨rfl, rfl, rfl, by decide +kernel, rfl, by decide +kernel, by decide +kernel⟩
theorem sc_odd_stone_near : FnScope ["aim", "bottom"] ["aim", "bottom"] (defScope s_odd_stone_near) := ⟨rfl, rfl, rfl, by decide +kernel, rfl, by decide +kernel, by decide +kernel⟩
theorem sc_row_times : FnScope ["one", "other"] ["one", "other"] (defScope s_row_times) := ⟨rfl, rfl, rfl, by decide +kernel, rfl, by decide +kernel, by decide +kernel⟩
theorem sc_size : FnScope ["quad"] ["quad"] (defScope s_size) := ⟨rfl, rfl, rfl, by decide +kernel, rfl, by decide +kernel, by decide +kernel⟩
theorem sc_weight : FnScope ["stone"] ["stone"] (defScope s_weight) := ⟨rfl, rfl, rfl, by decide +kernel, rfl, by decide +kernel, by decide +kernel⟩
theorem sc_divided : FnScope ["x", "y", "aim", "by_even", "by_odd"] ["x", "y"] (defScope s_divided) := ⟨rfl, rfl, rfl, by decide +kernel, rfl, by decide +kernel, by decide +kernel⟩
theorem sc_common : FnScope ["x", "y", "row", "below", "k", "rest", "s"] ["x", "y"] (defScope s_common) := ⟨rfl, rfl, rfl, by decide +kernel, rfl, by decide +kernel, by decide +kernel⟩
theorem sc_rows_of : FnScope ["quad", "a", "b", "c", "d"] ["quad"] (defScope s_rows_of) := ⟨rfl, rfl, rfl, by decide +kernel, rfl, by decide +kernel, by decide +kernel⟩
theorem sc_divisor_of_two : FnScope ["one", "other", "rest"] ["one", "other"] (defScope s_divisor_of_two) := ⟨rfl, rfl, rfl, by decide +kernel, rfl, by decide +kernel, by decide +kernel⟩
theorem sc_divisor : FnScope ["numbers", "found", "number"] ["numbers"] (defScope s_divisor) := ⟨rfl, rfl, rfl, by decide +kernel, rfl, by decide +kernel, by decide +kernel⟩
theorem sc_table_divisor : FnScope ["rows", "bottom"] ["rows", "bottom"] (defScope s_table_divisor) := ⟨rfl, rfl, rfl, by decide +kernel, rfl, by decide +kernel, by decide +kernel⟩
theorem sc_turn_of : FnScope ["quad", "bottom", "rows", "shrink"] ["quad"] (defScope s_turn_of) := ⟨rfl, rfl, rfl, by decide +kernel, rfl, by decide +kernel, by decide +kernel⟩
theorem sc_leads_below_nought : FnScope ["quad"] ["quad"] (defScope s_leads_below_nought) := ⟨rfl, rfl, rfl, by decide +kernel, rfl, by decide +kernel, by decide +kernel⟩
theorem sc_plain : FnScope ["quad", "shrink"] ["quad"] (defScope s_plain) := ⟨rfl, rfl, rfl, by decide +kernel, rfl, by decide +kernel, by decide +kernel⟩
theorem sc_multiples_of_quad : FnScope ["turn", "rows", "bottom", "x", "y", "z", "ab", "ac", "ad", "bc", "bd", "cd"] ["turn"] (defScope s_multiples_of_quad) := ⟨rfl, rfl, rfl, by decide +kernel, rfl, by decide +kernel, by decide +kernel⟩
theorem sc_quad_of : FnScope ["turn"] ["turn"] (defScope s_quad_of) := ⟨rfl, rfl, rfl, by decide +kernel, rfl, by decide +kernel, by decide +kernel⟩
theorem sc_parted : FnScope ["turn", "sizes", "parts", "rest", "part", "found"] ["turn", "sizes"] (defScope s_parted) := ⟨rfl, rfl, rfl, by decide +kernel, rfl, by decide +kernel, by decide +kernel⟩
theorem sc_law_behind : FnScope ["one", "other", "rows"] ["one", "other"] (defScope s_law_behind) := ⟨rfl, rfl, rfl, by decide +kernel, rfl, by decide +kernel, by decide +kernel⟩
theorem sc_law_refused : FnScope ["turn", "sizes", "sure", "other", "e"] ["turn", "sizes"] (defScope s_law_refused) := ⟨rfl, rfl, rfl, by decide +kernel, rfl, by decide +kernel, by decide +kernel⟩
theorem sc_law_wrong : FnScope ["sizes", "cell", "at", "wrong"] ["sizes", "cell"] (defScope s_law_wrong) := ⟨rfl, rfl, rfl, by decide +kernel, rfl, by decide +kernel, by decide +kernel⟩
theorem sc_law_whole : FnScope ["found"] ["found"] (defScope s_law_whole) := ⟨rfl, rfl, rfl, by decide +kernel, rfl, by decide +kernel, by decide +kernel⟩
theorem sc_law_form : FnScope ["found", "row"] ["found"] (defScope s_law_form) := ⟨rfl, rfl, rfl, by decide +kernel, rfl, by decide +kernel, by decide +kernel⟩
theorem sc_law_is_turn : FnScope ["thing", "rows", "bottom", "j", "k", "total", "a", "b", "c", "whole_size"] ["thing"] (defScope s_law_is_turn) := ⟨rfl, rfl, rfl, by decide +kernel, rfl, by decide +kernel, by decide +kernel⟩
theorem sc_law : FnScope ["script", "cell", "quad", "turn", "sizes", "handed", "found", "made", "one", "due"] ["script"] (defScope s_law) := ⟨rfl, rfl, rfl, by decide +kernel, rfl, by decide +kernel, by decide +kernel⟩
noncomputable def k_NOUGHT : D := (.tup [(.int 0), (.int 0), (.int 0), (.int 0)])
noncomputable def k_ONE : D := (.tup [(.int 2), (.int 0), (.int 0), (.int 0)])
set_option genInjectivity false
set_option genSizeOf false
structure Ad where
  a_law_cell_at : Addr
  d_law_cell_at : FuncData
  a_law_near : Addr
  d_law_near : FuncData
  a_law_quad : Addr
  d_law_quad : FuncData
  a_law_divisor : Addr
  d_law_divisor : FuncData
  a_law_laid : Addr
  d_law_laid : FuncData
  a_law_made_quad : Addr
  d_law_made_quad : FuncData
  a_law_lower : Addr
  d_law_lower : FuncData
  a_law_table : Addr
  d_law_table : FuncData
  a_law_sizes : Addr
  d_law_sizes : FuncData
  a_is_product : Addr
  d_is_product : FuncData
  a_row_over : Addr
  d_row_over : FuncData
  a_product : Addr
  d_product : FuncData
  a_stone_product : Addr
  d_stone_product : FuncData
  a_row_mix : Addr
  d_row_mix : FuncData
  a_row_less : Addr
  d_row_less : FuncData
  a_with_rest : Addr
  d_with_rest : FuncData
  a_mirrored : Addr
  d_mirrored : FuncData
  a_even_stone_near : Addr
  d_even_stone_near : FuncData
  a_odd_stone_near : Addr
  d_odd_stone_near : FuncData
  a_row_times : Addr
  d_row_times : FuncData
  a_size : Addr
  d_size : FuncData
  a_weight : Addr
  d_weight : FuncData
  a_divided : Addr
  d_divided : FuncData
  a_common : Addr
  d_common : FuncData
  a_rows_of : Addr
  d_rows_of : FuncData
  a_divisor_of_two : Addr
  d_divisor_of_two : FuncData
  a_divisor : Addr
  d_divisor : FuncData
  a_table_divisor : Addr
  d_table_divisor : FuncData
  a_turn_of : Addr
  d_turn_of : FuncData
  a_leads_below_nought : Addr
  d_leads_below_nought : FuncData
  a_plain : Addr
  d_plain : FuncData
  a_multiples_of_quad : Addr
  d_multiples_of_quad : FuncData
  a_quad_of : Addr
  d_quad_of : FuncData
  a_parted : Addr
  d_parted : FuncData
  a_law_behind : Addr
  d_law_behind : FuncData
  a_law_refused : Addr
  d_law_refused : FuncData
  a_law_wrong : Addr
  d_law_wrong : FuncData
  a_law_whole : Addr
  d_law_whole : FuncData
  a_law_form : Addr
  d_law_form : FuncData
  a_law_is_turn : Addr
  d_law_is_turn : FuncData
  a_law : Addr
  d_law : FuncData
  v_NOUGHT : V
  u_NOUGHT : Value
  v_ONE : V
  u_ONE : Value
  x_NoDial : Addr
  x_NoGrid : Addr
  x_NoName : Addr
  x_NoNumbers : Addr
  x_NoParts : Addr
  x_NoQuad : Addr
  x_NoRow : Addr
  x_NoStone : Addr
  x_NoWay : Addr
  x_SpaceError : Addr
structure Txt (K : PySem.W.Frag) (mg : Str → Option Value) (t : Ad) : Prop where
  F_law_cell_at : Fun K "_law_cell_at" "_law_cell_at" s_law_cell_at t.a_law_cell_at t.d_law_cell_at
  m_law_cell_at : mg "_law_cell_at" = some (.ref t.a_law_cell_at)
  b_law_cell_at : Binds K t.d_law_cell_at ["script", "k"] []
  F_law_near : Fun K "_law_near" "_law_near" s_law_near t.a_law_near t.d_law_near
  m_law_near : mg "_law_near" = some (.ref t.a_law_near)
  b_law_near : Binds K t.d_law_near ["cell", "most"] []
  F_law_quad : Fun K "_law_quad" "_law_quad" s_law_quad t.a_law_quad t.d_law_quad
  m_law_quad : mg "_law_quad" = some (.ref t.a_law_quad)
  b_law_quad : Binds K t.d_law_quad ["cells", "most"] []
  F_law_divisor : Fun K "_law_divisor" "_law_divisor" s_law_divisor t.a_law_divisor t.d_law_divisor
  m_law_divisor : mg "_law_divisor" = some (.ref t.a_law_divisor)
  b_law_divisor : Binds K t.d_law_divisor ["numbers"] []
  F_law_laid : Fun K "_law_laid" "_law_laid" s_law_laid t.a_law_laid t.d_law_laid
  m_law_laid : mg "_law_laid" = some (.ref t.a_law_laid)
  b_law_laid : Binds K t.d_law_laid ["one", "other"] []
  F_law_made_quad : Fun K "_law_made_quad" "_law_made_quad" s_law_made_quad t.a_law_made_quad t.d_law_made_quad
  m_law_made_quad : mg "_law_made_quad" = some (.ref t.a_law_made_quad)
  b_law_made_quad : Binds K t.d_law_made_quad ["cells", "most"] []
  F_law_lower : Fun K "_law_lower" "_law_lower" s_law_lower t.a_law_lower t.d_law_lower
  m_law_lower : mg "_law_lower" = some (.ref t.a_law_lower)
  b_law_lower : Binds K t.d_law_lower ["rows", "bottom"] []
  F_law_table : Fun K "_law_table" "_law_table" s_law_table t.a_law_table t.d_law_table
  m_law_table : mg "_law_table" = some (.ref t.a_law_table)
  b_law_table : Binds K t.d_law_table ["quad"] []
  F_law_sizes : Fun K "_law_sizes" "_law_sizes" s_law_sizes t.a_law_sizes t.d_law_sizes
  m_law_sizes : mg "_law_sizes" = some (.ref t.a_law_sizes)
  b_law_sizes : Binds K t.d_law_sizes ["bottom", "cells"] []
  F_is_product : Fun K "is_product" "is_product" s_is_product t.a_is_product t.d_is_product
  m_is_product : mg "is_product" = some (.ref t.a_is_product)
  b_is_product : Binds K t.d_is_product ["n", "sizes"] []
  F_row_over : Fun K "row_over" "row_over" s_row_over t.a_row_over t.d_row_over
  m_row_over : mg "row_over" = some (.ref t.a_row_over)
  b_row_over : Binds K t.d_row_over ["row", "n"] []
  F_product : Fun K "product" "product" s_product t.a_product t.d_product
  m_product : mg "product" = some (.ref t.a_product)
  b_product : Binds K t.d_product ["one", "other"] []
  F_stone_product : Fun K "stone_product" "stone_product" s_stone_product t.a_stone_product t.d_stone_product
  m_stone_product : mg "stone_product" = some (.ref t.a_stone_product)
  b_stone_product : Binds K t.d_stone_product ["one", "other"] []
  F_row_mix : Fun K "row_mix" "row_mix" s_row_mix t.a_row_mix t.d_row_mix
  m_row_mix : mg "row_mix" = some (.ref t.a_row_mix)
  b_row_mix : Binds K t.d_row_mix ["one", "times", "other", "times_too"] []
  F_row_less : Fun K "row_less" "row_less" s_row_less t.a_row_less t.d_row_less
  m_row_less : mg "row_less" = some (.ref t.a_row_less)
  b_row_less : Binds K t.d_row_less ["row", "taken", "times"] []
  F_with_rest : Fun K "with_rest" "with_rest" s_with_rest t.a_with_rest t.d_with_rest
  m_with_rest : mg "with_rest" = some (.ref t.a_with_rest)
  b_with_rest : Binds K t.d_with_rest ["x", "y", "k"] []
  F_mirrored : Fun K "mirrored" "mirrored" s_mirrored t.a_mirrored t.d_mirrored
  m_mirrored : mg "mirrored" = some (.ref t.a_mirrored)
  b_mirrored : Binds K t.d_mirrored ["quad"] []
  F_even_stone_near : Fun K "even_stone_near" "even_stone_near" s_even_stone_near t.a_even_stone_near t.d_even_stone_near
  m_even_stone_near : mg "even_stone_near" = some (.ref t.a_even_stone_near)
  b_even_stone_near : Binds K t.d_even_stone_near ["aim", "bottom"] []
  F_odd_stone_near : Fun K "odd_stone_near" "odd_stone_near" s_odd_stone_near t.a_odd_stone_near t.d_odd_stone_near
  m_odd_stone_near : mg "odd_stone_near" = some (.ref t.a_odd_stone_near)
  b_odd_stone_near : Binds K t.d_odd_stone_near ["aim", "bottom"] []
  F_row_times : Fun K "row_times" "row_times" s_row_times t.a_row_times t.d_row_times
  m_row_times : mg "row_times" = some (.ref t.a_row_times)
  b_row_times : Binds K t.d_row_times ["one", "other"] []
  F_size : Fun K "size" "size" s_size t.a_size t.d_size
  m_size : mg "size" = some (.ref t.a_size)
  b_size : Binds K t.d_size ["quad"] []
  F_weight : Fun K "weight" "weight" s_weight t.a_weight t.d_weight
  m_weight : mg "weight" = some (.ref t.a_weight)
  b_weight : Binds K t.d_weight ["stone"] []
  F_divided : Fun K "divided" "divided" s_divided t.a_divided t.d_divided
  m_divided : mg "divided" = some (.ref t.a_divided)
  b_divided : Binds K t.d_divided ["x", "y"] []
  F_common : Fun K "common" "common" s_common t.a_common t.d_common
  m_common : mg "common" = some (.ref t.a_common)
  b_common : Binds K t.d_common ["x", "y"] []
  F_rows_of : Fun K "rows_of" "rows_of" s_rows_of t.a_rows_of t.d_rows_of
  m_rows_of : mg "rows_of" = some (.ref t.a_rows_of)
  b_rows_of : Binds K t.d_rows_of ["quad"] []
  F_divisor_of_two : Fun K "divisor_of_two" "divisor_of_two" s_divisor_of_two t.a_divisor_of_two t.d_divisor_of_two
  m_divisor_of_two : mg "divisor_of_two" = some (.ref t.a_divisor_of_two)
  b_divisor_of_two : Binds K t.d_divisor_of_two ["one", "other"] []
  F_divisor : Fun K "divisor" "divisor" s_divisor t.a_divisor t.d_divisor
  m_divisor : mg "divisor" = some (.ref t.a_divisor)
  b_divisor : Binds K t.d_divisor ["numbers"] []
  F_table_divisor : Fun K "table_divisor" "table_divisor" s_table_divisor t.a_table_divisor t.d_table_divisor
  m_table_divisor : mg "table_divisor" = some (.ref t.a_table_divisor)
  b_table_divisor : Binds K t.d_table_divisor ["rows", "bottom"] []
  F_turn_of : Fun K "turn_of" "turn_of" s_turn_of t.a_turn_of t.d_turn_of
  m_turn_of : mg "turn_of" = some (.ref t.a_turn_of)
  b_turn_of : Binds K t.d_turn_of ["quad"] []
  F_leads_below_nought : Fun K "leads_below_nought" "leads_below_nought" s_leads_below_nought t.a_leads_below_nought t.d_leads_below_nought
  m_leads_below_nought : mg "leads_below_nought" = some (.ref t.a_leads_below_nought)
  b_leads_below_nought : Binds K t.d_leads_below_nought ["quad"] []
  F_plain : Fun K "plain" "plain" s_plain t.a_plain t.d_plain
  m_plain : mg "plain" = some (.ref t.a_plain)
  b_plain : Binds K t.d_plain ["quad"] []
  F_multiples_of_quad : Fun K "multiples_of_quad" "multiples_of_quad" s_multiples_of_quad t.a_multiples_of_quad t.d_multiples_of_quad
  m_multiples_of_quad : mg "multiples_of_quad" = some (.ref t.a_multiples_of_quad)
  b_multiples_of_quad : Binds K t.d_multiples_of_quad ["turn"] []
  F_quad_of : Fun K "quad_of" "quad_of" s_quad_of t.a_quad_of t.d_quad_of
  m_quad_of : mg "quad_of" = some (.ref t.a_quad_of)
  b_quad_of : Binds K t.d_quad_of ["turn"] []
  F_parted : Fun K "parted" "parted" s_parted t.a_parted t.d_parted
  m_parted : mg "parted" = some (.ref t.a_parted)
  b_parted : Binds K t.d_parted ["turn", "sizes"] []
  F_law_behind : Fun K "_law_behind" "_law_behind" s_law_behind t.a_law_behind t.d_law_behind
  m_law_behind : mg "_law_behind" = some (.ref t.a_law_behind)
  b_law_behind : Binds K t.d_law_behind ["one", "other"] []
  F_law_refused : Fun K "_law_refused" "_law_refused" s_law_refused t.a_law_refused t.d_law_refused
  m_law_refused : mg "_law_refused" = some (.ref t.a_law_refused)
  b_law_refused : Binds K t.d_law_refused ["turn", "sizes"] []
  F_law_wrong : Fun K "_law_wrong" "_law_wrong" s_law_wrong t.a_law_wrong t.d_law_wrong
  m_law_wrong : mg "_law_wrong" = some (.ref t.a_law_wrong)
  b_law_wrong : Binds K t.d_law_wrong ["sizes", "cell"] []
  F_law_whole : Fun K "_law_whole" "_law_whole" s_law_whole t.a_law_whole t.d_law_whole
  m_law_whole : mg "_law_whole" = some (.ref t.a_law_whole)
  b_law_whole : Binds K t.d_law_whole ["found"] []
  F_law_form : Fun K "_law_form" "_law_form" s_law_form t.a_law_form t.d_law_form
  m_law_form : mg "_law_form" = some (.ref t.a_law_form)
  b_law_form : Binds K t.d_law_form ["found"] []
  F_law_is_turn : Fun K "_law_is_turn" "_law_is_turn" s_law_is_turn t.a_law_is_turn t.d_law_is_turn
  m_law_is_turn : mg "_law_is_turn" = some (.ref t.a_law_is_turn)
  b_law_is_turn : Binds K t.d_law_is_turn ["thing"] []
  F_law : Fun K "law" "law" s_law t.a_law t.d_law
  m_law : mg "law" = some (.ref t.a_law)
  b_law : Binds K t.d_law ["script"] []
  z_ValueError : mg "ValueError" = none
  z_abs : mg "abs" = none
  z_all : mg "all" = none
  z_bool : mg "bool" = none
  z_int : mg "int" = none
  z_isinstance : mg "isinstance" = none
  z_len : mg "len" = none
  z_list : mg "list" = none
  z_max : mg "max" = none
  z_range : mg "range" = none
  z_sum : mg "sum" = none
  z_tuple : mg "tuple" = none
  z_zip : mg "zip" = none
  m_NOUGHT : mg "NOUGHT" = some t.u_NOUGHT
  c_NOUGHT : CstD K k_NOUGHT t.v_NOUGHT t.u_NOUGHT
  m_ONE : mg "ONE" = some t.u_ONE
  c_ONE : CstD K k_ONE t.v_ONE t.u_ONE
  m_NoDial : mg "NoDial" = some (.ref t.x_NoDial)
  m_NoGrid : mg "NoGrid" = some (.ref t.x_NoGrid)
  m_NoName : mg "NoName" = some (.ref t.x_NoName)
  m_NoNumbers : mg "NoNumbers" = some (.ref t.x_NoNumbers)
  m_NoParts : mg "NoParts" = some (.ref t.x_NoParts)
  m_NoQuad : mg "NoQuad" = some (.ref t.x_NoQuad)
  m_NoRow : mg "NoRow" = some (.ref t.x_NoRow)
  m_NoStone : mg "NoStone" = some (.ref t.x_NoStone)
  m_NoWay : mg "NoWay" = some (.ref t.x_NoWay)
  m_SpaceError : mg "SpaceError" = some (.ref t.x_SpaceError)
  xb_NoParts_ValueError : PySem.W.mroIn K t.x_NoParts (.type "ValueError") = some true
  xcl_NoParts : PySem.W.findIn K (.ref t.x_NoParts) "__class__" = some (some (.builtin "object.__class__"))
  xe_NoParts : PySem.W.excIn K t.x_NoParts bmV "ValueError.__new__" = true
  xga_NoParts : PySem.W.findIn K (.ref t.x_NoParts) "__getattribute__" = some (some (.builtin "BaseException.__getattribute__"))
  xgn_NoParts : PySem.W.findIn K (.ref t.x_NoParts) "__getattr__" = some none
  xmb_NoDial : PySem.W.mroIn K t.x_NoDial (.type "BaseException") = some true
  xmb_NoGrid : PySem.W.mroIn K t.x_NoGrid (.type "BaseException") = some true
  xmb_NoName : PySem.W.mroIn K t.x_NoName (.type "BaseException") = some true
  xmb_NoNumbers : PySem.W.mroIn K t.x_NoNumbers (.type "BaseException") = some true
  xmb_NoParts : PySem.W.mroIn K t.x_NoParts (.type "BaseException") = some true
  xmb_NoQuad : PySem.W.mroIn K t.x_NoQuad (.type "BaseException") = some true
  xmb_NoRow : PySem.W.mroIn K t.x_NoRow (.type "BaseException") = some true
  xmb_NoStone : PySem.W.mroIn K t.x_NoStone (.type "BaseException") = some true
  xmb_NoWay : PySem.W.mroIn K t.x_NoWay (.type "BaseException") = some true
  xmb_SpaceError : PySem.W.mroIn K t.x_SpaceError (.type "BaseException") = some true
  xmo_NoParts : PySem.W.mroIn K t.x_NoParts (.type "object") = some true
  xs_NoParts_NoDial : PySem.W.mroIn K t.x_NoParts (.ref t.x_NoDial) = some false
  xs_NoParts_NoGrid : PySem.W.mroIn K t.x_NoParts (.ref t.x_NoGrid) = some false
  xs_NoParts_NoName : PySem.W.mroIn K t.x_NoParts (.ref t.x_NoName) = some false
  xs_NoParts_NoNumbers : PySem.W.mroIn K t.x_NoParts (.ref t.x_NoNumbers) = some false
  xs_NoParts_NoParts : PySem.W.mroIn K t.x_NoParts (.ref t.x_NoParts) = some true
  xs_NoParts_NoQuad : PySem.W.mroIn K t.x_NoParts (.ref t.x_NoQuad) = some false
  xs_NoParts_NoRow : PySem.W.mroIn K t.x_NoParts (.ref t.x_NoRow) = some false
  xs_NoParts_NoStone : PySem.W.mroIn K t.x_NoParts (.ref t.x_NoStone) = some false
  xs_NoParts_NoWay : PySem.W.mroIn K t.x_NoParts (.ref t.x_NoWay) = some false
  xs_NoParts_SpaceError : PySem.W.mroIn K t.x_NoParts (.ref t.x_SpaceError) = some true
  xty_NoDial : PySem.W.typeIn K (.ref t.x_NoDial) = some (.type "type")
  xty_NoGrid : PySem.W.typeIn K (.ref t.x_NoGrid) = some (.type "type")
  xty_NoName : PySem.W.typeIn K (.ref t.x_NoName) = some (.type "type")
  xty_NoNumbers : PySem.W.typeIn K (.ref t.x_NoNumbers) = some (.type "type")
  xty_NoParts : PySem.W.typeIn K (.ref t.x_NoParts) = some (.type "type")
  xty_NoQuad : PySem.W.typeIn K (.ref t.x_NoQuad) = some (.type "type")
  xty_NoRow : PySem.W.typeIn K (.ref t.x_NoRow) = some (.type "type")
  xty_NoStone : PySem.W.typeIn K (.ref t.x_NoStone) = some (.type "type")
  xty_NoWay : PySem.W.typeIn K (.ref t.x_NoWay) = some (.type "type")
  xty_SpaceError : PySem.W.typeIn K (.ref t.x_SpaceError) = some (.type "type")
theorem loc_of {sc : Scope} {x : Str} (h : (sc.names.lookup x == some .local || sc.names.lookup x == some .cell) = true) : Loc sc x := by
  simp only [Bool.or_eq_true, beq_iff_eq] at h
  exact h
noncomputable def C_law_cell_at : Con := fun ds Φ => ∃ (ns : List Int) (k : Nat), ds = [.lst (ns.map .int), .int k] ∧ Φ (.int (ns.getD k 0))
theorem mono_law_cell_at : Mono C_law_cell_at := fun ds Φ Ψ m h0 => by
  obtain ⟨ns, k, a, h⟩ := h0
  exact ⟨ns, k, a, m _ h⟩
noncomputable def b_law_cell_at_1 : S3 :=
  (sRet (dC (.int 0)))
noncomputable abbrev b_law_cell_at : S3 :=
  (sSeq (sIf (dT (dOp (dI0 fun i j => .bl (decide (i < j))) (dVar 1) (dB cLen (aCons (dVar 0) aNil))))
  (sRet (dOp dIx (dVar 0) (dVar 1)))
  sNext)
  b_law_cell_at_1)
theorem rd_law_cell_at : ∀ (ds : List D) (Φ : D → Prop), ds.length = 2 → C_law_cell_at ds Φ → b_law_cell_at (finD Φ) (startD 2 ds) := by
  rintro ds Φ hl ⟨ns, k, rfl, h⟩
  rw [List.getD_eq_getElem?_getD] at h
  refine tst (fun hc => ?_) (fun hc => ?_)
  · have hk : k < ns.length := by
      have := of_decide_eq_true hc
      rw [List.length_map] at this
      omega
    rw [List.getElem?_eq_getElem hk] at h
    refine onS_of (d := D.int ns[k]) ?_ ?_
    · rw [atI_n, List.getElem?_map, List.getElem?_eq_getElem hk]; rfl
    · exact h
  · have hk : ¬ k < ns.length := by
      have := of_decide_eq_false hc
      rw [List.length_map] at this
      omega
    rw [List.getElem?_eq_none (by omega)] at h
    exact h
theorem ok_law_cell_at {P : Program} {w : World} {K : PySem.W.Frag} {mg : Str → Option Value} {base : Heap} {t : Ad} (T : Txt K mg t) : FnOk P w K mg base CX0 1 t.a_law_cell_at t.d_law_cell_at ["script", "k"] (spD K 2 C_law_cell_at) := by
  have sc := sc_law_cell_at
  refine fn_ok (k := 0) T.F_law_cell_at sc_law_cell_at (fun cdv A outer s H E hr => ⟨b_law_cell_at, (psd_cons (psd_if (pb_cmp o_lt (pd_var (pv 1)) (pd_callB b_len rfl T.z_len bt_len (pad_cons (pd_var (pv 0)) pad_nil)) (nomark _))
  (psd_one (psd_ret (pd_ix (pd_var (pv 0)) (pd_var (pv 1)) (fun _ _ => rfl))))
  psd_nil)
  (psd_one (psd_ret pd_int))), rd_law_cell_at⟩)
noncomputable def C_law_near : Con := fun ds Φ => ∃ (c m : Int), ds = [.int c, .int m] ∧ 0 ≤ m ∧ ∀ z, -m ≤ z → z ≤ m → Φ (.int z)
theorem mono_law_near : Mono C_law_near := fun ds Φ Ψ mo h0 => by
  obtain ⟨c, m, a, b, h⟩ := h0
  exact ⟨c, m, a, b, fun z h1 h2 => mo _ (h z h1 h2)⟩
noncomputable def b_law_near_2 : S3 :=
  (sRet (dVar 2))
noncomputable def b_law_near_1 : S3 :=
  (sSeq (sIf (dT (dOp (dI0 fun i j => .bl (decide (j < i))) (dVar 2) (dVar 1)))
  (sRet (dOp (dI0 fun i j => .int (i - j)) (dVar 2) (dOp (dI0 fun i j => .int (i + j)) (dOp (dI IntMulOk fun i j => .int (i * j)) (dC (.int 2)) (dVar 1)) (dC (.int 1)))))
  sNext)
  b_law_near_2)
noncomputable abbrev b_law_near : S3 :=
  (sSeq (sSet 2 (dOp (dI (fun _ j => j ≠ 0) fun i j => .int (i.fmod j)) (dVar 0) (dOp (dI0 fun i j => .int (i + j)) (dOp (dI IntMulOk fun i j => .int (i * j)) (dC (.int 2)) (dVar 1)) (dC (.int 1)))))
  b_law_near_1)
theorem rd_law_near : ∀ (ds : List D) (Φ : D → Prop), ds.length = 2 → C_law_near ds Φ → b_law_near (finD Φ) (startD 3 ds) := by
  rintro ds Φ hl ⟨c, m, rfl, h0, h⟩
  have h1 := Int.emod_nonneg c (show 2 * m + 1 ≠ 0 by omega)
  have h2 := Int.emod_lt_of_pos c (show 0 < 2 * m + 1 by omega)
  have e : c.fmod (2 * m + 1) = c % (2 * m + 1) := fmod_pos (by omega)
  refine ⟨IntMulOk.of_left (by decide), (show 2 * m + 1 ≠ 0 by omega), tst (fun hc => ⟨IntMulOk.of_left (by decide), ?_⟩) (fun hc => ?_)⟩
  · have hc : m < c.fmod (2 * m + 1) := of_decide_eq_true hc
    exact h _ (show -m ≤ c.fmod (2 * m + 1) - (2 * m + 1) by omega) (show c.fmod (2 * m + 1) - (2 * m + 1) ≤ m by omega)
  · have hc : ¬ m < c.fmod (2 * m + 1) := of_decide_eq_false hc
    exact h _ (show -m ≤ c.fmod (2 * m + 1) by omega) (show c.fmod (2 * m + 1) ≤ m by omega)
theorem ok_law_near {P : Program} {w : World} {K : PySem.W.Frag} {mg : Str → Option Value} {base : Heap} {t : Ad} (T : Txt K mg t) : FnOk P w K mg base CX0 1 t.a_law_near t.d_law_near ["cell", "most"] (spD K 2 C_law_near) := by
  have sc := sc_law_near
  refine fn_ok (k := 0) T.F_law_near sc_law_near (fun cdv A outer s H E hr => ⟨b_law_near, (psd_cons (psd_set (i := 2) sc.nd rfl (loc_of rfl) (pd_op o_mod (pd_var (pv 0)) (pd_op o_add (pd_op o_mul pd_int (pd_var (pv 1))) pd_int)))
  (psd_cons (psd_if (pb_cmp o_gt (pd_var (pv 2)) (pd_var (pv 1)) (nomark _))
  (psd_one (psd_ret (pd_op o_sub (pd_var (pv 2)) (pd_op o_add (pd_op o_mul pd_int (pd_var (pv 1))) pd_int))))
  psd_nil)
  (psd_one (psd_ret (pd_var (pv 2)))))), rd_law_near⟩)
noncomputable def C_law_quad : Con := fun ds Φ => ∃ (ns : List Int) (m : Int), ds = [.lst (ns.map .int), .int m] ∧ ns.length ≤ 100 ∧ 0 ≤ m ∧ m ≤ 10 ^ 30 ∧ ∀ q : Q4, q ≠ q0 → Bq 107 q → Φ (qd q)
theorem mono_law_quad : Mono C_law_quad := fun ds Φ Ψ mo h0 => by
  obtain ⟨ns, m, a, b, c, d, h⟩ := h0
  exact ⟨ns, m, a, b, c, d, fun q h1 h2 => mo _ (h q h1 h2)⟩
noncomputable abbrev b_law_quad_L1 : S3 :=
  (sSetIx 2 (dOp (dI (fun _ j => j ≠ 0) fun i j => .int (i.fmod j)) (dVar 3) (dC (.int 4))) (dOp (dI0 fun i j => .int (i + j)) (dIxO 2 (dOp (dI (fun _ j => j ≠ 0) fun i j => .int (i.fmod j)) (dVar 3) (dC (.int 4)))) (dCall 2 C_law_near (aCons (dOp dIx (dVar 0) (dVar 3)) (aCons (dVar 1) aNil)))))
noncomputable def b_law_quad_3 : S3 :=
  (sFreeze 2 (sRet (dTup (aCons (dOp dIx (dVar 2) (dC (.int 0))) (aCons (dOp dIx (dVar 2) (dC (.int 1))) (aCons (dOp dIx (dVar 2) (dC (.int 2))) (aCons (dOp dIx (dVar 2) (dC (.int 3))) aNil)))))))
noncomputable def b_law_quad_2 : S3 :=
  (sSeq (sIf (bEqO 2 (dF (fLst (aCons (dC (.int 0)) (aCons (dC (.int 0)) (aCons (dC (.int 0)) (aCons (dC (.int 0)) aNil)))))))
  (sSetIx 2 (dC (.int 0)) (dC (.int 1)))
  sNext)
  b_law_quad_3)
noncomputable def b_law_quad_1 : S3 :=
  (sSeq (sFor (iR1 (aCons (dB cLen (aCons (dVar 0) aNil)) aNil)) (gN 3)
  b_law_quad_L1)
  b_law_quad_2)
noncomputable abbrev b_law_quad : S3 :=
  (sSeq (sOwn 2 (fLst (aCons (dC (.int 0)) (aCons (dC (.int 0)) (aCons (dC (.int 0)) (aCons (dC (.int 0)) aNil))))))
  b_law_quad_1)
theorem rd_law_quad : ∀ (ds : List D) (Φ : D → Prop), ds.length = 2 → C_law_quad ds Φ → b_law_quad (finD Φ) (startD 4 ds) := by
  rintro ds Φ hl ⟨ns, m, rfl, hn, hm0, hm, h⟩
  refine ⟨sl_le 4 rfl (by decide), ?_⟩
  have hlen : ((ns.map D.int).length : Int) = ns.length := by simp
  refine ⟨show -(2 ^ 62 : Int) ≤ ((ns.map D.int).length : Int) by omega, show ((ns.map D.int).length : Int) < 2 ^ 62 by omega, ?_⟩
  refine FOR_inv (fun pre post ρ => pre ++ post = ups 0 ((ns.map D.int).length : Int).toNat ∧ ∃ (a b c d : Int) (s : Sl), ρ = [.val (.lst (ns.map .int)), .val (.int m), .own [.int a, .int b, .int c, .int d], s] ∧ Sm pre.length m a b c d) ?_ ?_ _ [] _ ⟨rfl, 0, 0, 0, 0, .un, rfl, ⟨by simp, by simp, by simp, by simp⟩⟩
  · rintro pre d post ρ ⟨hall, a, b, c, d, s, rfl, sm⟩ k hk
    obtain ⟨rfl, hi⟩ := ups_at hall
    have hi : pre.length < ns.length := by
      have e : ((ns.map D.int).length : Int).toNat = ns.length := by simp
      rw [e] at hi; exact hi
    have hall' : (pre ++ [D.int (0 + (pre.length : Nat))]) ++ post = ups 0 ((ns.map D.int).length : Int).toNat := by rw [← hall]; simp
    have ec : atI (ns.map D.int) (0 + (pre.length : Nat)) = some (.int ns[pre.length]) := by
      rw [Int.zero_add, atI_n, List.getElem?_map, List.getElem?_eq_getElem hi]; rfl
    have l1 : (pre ++ [D.int (0 + (pre.length : Nat))]).length = pre.length + 1 := by simp
    have n4 : (4 : Int) ≠ 0 := by decide
    rcases mod4 pre.length with hj | hj | hj | hj
    · refine ⟨n4, onS_of (d := D.int a) (by rw [hj]; rfl) (onS_of ec ⟨rfl, _, m, rfl, hm0, fun z h1 h2 => ⟨n4, onS_of (d := (0 : Nat)) (by rw [hj]; rfl) ?_⟩⟩)⟩
      exact hk _ ⟨hall', a + z, b, c, d, _, rfl, by rw [l1]; exact ⟨le_add h1 h2 sm.a, le_up hm0 sm.b, le_up hm0 sm.c, le_up hm0 sm.d⟩⟩
    · refine ⟨n4, onS_of (d := D.int b) (by rw [hj]; rfl) (onS_of ec ⟨rfl, _, m, rfl, hm0, fun z h1 h2 => ⟨n4, onS_of (d := (1 : Nat)) (by rw [hj]; rfl) ?_⟩⟩)⟩
      exact hk _ ⟨hall', a, b + z, c, d, _, rfl, by rw [l1]; exact ⟨le_up hm0 sm.a, le_add h1 h2 sm.b, le_up hm0 sm.c, le_up hm0 sm.d⟩⟩
    · refine ⟨n4, onS_of (d := D.int c) (by rw [hj]; rfl) (onS_of ec ⟨rfl, _, m, rfl, hm0, fun z h1 h2 => ⟨n4, onS_of (d := (2 : Nat)) (by rw [hj]; rfl) ?_⟩⟩)⟩
      exact hk _ ⟨hall', a, b, c + z, d, _, rfl, by rw [l1]; exact ⟨le_up hm0 sm.a, le_up hm0 sm.b, le_add h1 h2 sm.c, le_up hm0 sm.d⟩⟩
    · refine ⟨n4, onS_of (d := D.int d) (by rw [hj]; rfl) (onS_of ec ⟨rfl, _, m, rfl, hm0, fun z h1 h2 => ⟨n4, onS_of (d := (3 : Nat)) (by rw [hj]; rfl) ?_⟩⟩)⟩
      exact hk _ ⟨hall', a, b, c, d + z, _, rfl, by rw [l1]; exact ⟨le_up hm0 sm.a, le_up hm0 sm.b, le_up hm0 sm.c, le_add h1 h2 sm.d⟩⟩
  · rintro pre ρ ⟨hall, a, b, c, d, s, rfl, sm⟩
    rw [List.append_nil] at hall
    have hpl : pre.length ≤ 100 := by rw [hall, ups_length]; simp; omega
    have bq : Bq 107 ⟨a, b, c, d⟩ := ⟨bd_sum hpl hm0 hm sm.a, bd_sum hpl hm0 hm sm.b, bd_sum hpl hm0 hm sm.c, bd_sum hpl hm0 hm sm.d⟩
    show b_law_quad_2 (finD Φ) [.val (.lst (ns.map .int)), .val (.int m), .own [.int a, .int b, .int c, .int d], s]
    unfold b_law_quad_2
    refine ⟨sl_le 4 rfl (by decide), show (0 : Nat) ≤ 99 by decide, tst (fun hc => ?_) (fun hc => ?_)⟩
    · have hz : a = 0 ∧ b = 0 ∧ c = 0 ∧ d = 0 := by
        have hc : ((a == 0) && ((b == 0) && ((c == 0) && ((d == 0) && true)))) = true := hc
        simpa using hc
      obtain ⟨rfl, rfl, rfl, rfl⟩ := hz
      exact ⟨sl_le 4 rfl (by decide), h ⟨1, 0, 0, 0⟩ (by decide) ⟨bd_lit (by decide), bq.b, bq.c, bq.d⟩⟩
    · refine ⟨sl_le 4 rfl (by decide), h ⟨a, b, c, d⟩ (fun z => ?_) bq⟩
      have hc : ((a == 0) && ((b == 0) && ((c == 0) && ((d == 0) && true)))) = false := hc
      cases z
      exact absurd hc (by decide)
theorem ok_law_quad {P : Program} {w : World} {K : PySem.W.Frag} {mg : Str → Option Value} {base : Heap} {t : Ad} (T : Txt K mg t) : FnOk P w K mg base CX0 2 t.a_law_quad t.d_law_quad ["cells", "most"] (spD K 2 C_law_quad) := by
  have sc := sc_law_quad
  refine fn_ok (k := 1) T.F_law_quad sc_law_quad (fun cdv A outer s H E hr => ⟨b_law_quad, (psd_cons (psd_own (i := 2) sc.nd rfl (loc_of rfl) (pf_lst (pad_cons pd_int (pad_cons pd_int (pad_cons pd_int (pad_cons pd_int pad_nil))))))
  (psd_cons (psd_for PassesOwn.never rfl (pid_range1 rfl T.z_range (pad_cons (pd_callB b_len rfl T.z_len bt_len (pad_cons (pd_var (pv 0)) pad_nil)) pad_nil)) (pgd_name (i := 3) sc.nd rfl (loc_of rfl))
  (psd_one (psd_setIx (pv 2) (pd_op o_mod (pd_var (pv 3)) pd_int) (pd_op o_add (pd_ixO (pv 2) (pd_op o_mod (pd_var (pv 3)) pd_int) (fun _ _ => rfl)) (pd_call (ok_law_near T) mono_law_near (hr.mono (by decide)) rfl T.m_law_near T.F_law_near.kp T.b_law_near (pad_cons (pd_ix (pd_var (pv 0)) (pd_var (pv 3)) (fun _ _ => rfl)) (pad_cons (pd_var (pv 1)) pad_nil)))))))
  (psd_cons (psd_if (pb_eqO (hu3 hr) (pv 2) (pd_new (pf_lst (pad_cons pd_int (pad_cons pd_int (pad_cons pd_int (pad_cons pd_int pad_nil)))))) (nomark _))
  (psd_one (psd_setIx (pv 2) pd_int pd_int))
  psd_nil)
  (psd_freeze 2 (psd_one (psd_ret (pd_tup (pad_cons (pd_ix (pd_var (pv 2)) pd_int (fun _ _ => rfl)) (pad_cons (pd_ix (pd_var (pv 2)) pd_int (fun _ _ => rfl)) (pad_cons (pd_ix (pd_var (pv 2)) pd_int (fun _ _ => rfl)) (pad_cons (pd_ix (pd_var (pv 2)) pd_int (fun _ _ => rfl)) pad_nil))))))))))), rd_law_quad⟩)
noncomputable def C_law_divisor : Con := fun ds Φ => ∃ ms : List Int, (ds = [.lst (ms.map .int)] ∨ ds = [.tup (ms.map .int)]) ∧ Φ (.int (gcdL ms))
theorem mono_law_divisor : Mono C_law_divisor := fun ds Φ Ψ mo h0 => by
  obtain ⟨ms, e, h⟩ := h0
  exact ⟨ms, e, mo _ h⟩
theorem law_divisor_loop {Φ : D → Prop} {ms : List Int} {d0 : D} {tb : S3} (h : Φ (.int (gcdL ms)))
    (ht : ∀ (k : (F3 → Prop) → Fr3 → Prop) (Ψ : F3 → Prop) (g q : Int) (s : Sl), 0 ≤ g → (∀ s s', k Ψ [.val d0, .val (.int (Int.gcd g q : Int)), s, s']) → tb (loopS k Ψ) [.val d0, .val (.int g), .val (.int q), s]) :
    ∀ (qs : List Int) (g : Int) (s s' : Sl), 0 ≤ g → qs.foldl (fun g x => (Int.gcd g x : Int)) g = gcdL ms →
    FOR (gN 2) tb (qs.map D.int) (thenS (sRet (dVar 1)) (finD Φ)) [.val d0, .val (.int g), s, s']
  | [], g, s, s', _, e => by
    show Φ (.int g)
    have e : g = gcdL ms := e
    rw [e]; exact h
  | q :: qs, g, s, s', g0, e => ht _ _ g q s' g0 fun s s' => law_divisor_loop h ht qs _ s s' (Int.natCast_nonneg _) e
noncomputable abbrev b_law_divisor_L2 : S3 :=
  (sPar 1 3 (aCons (dVar 3) (aCons (dOp (dI (fun _ j => j ≠ 0) fun i j => .int (i.fmod j)) (dVar 1) (dVar 3)) aNil)))
noncomputable def b_law_divisor_L1_1 : S3 :=
  (sWhile (dT (dOp (dI0 fun i j => .bl (decide (j < i))) (dVar 3) (dC (.int 0))))
  b_law_divisor_L2)
noncomputable abbrev b_law_divisor_L1 : S3 :=
  (sSeq (sSet 3 (dB cAbs (aCons (dVar 2) aNil)))
  b_law_divisor_L1_1)
noncomputable def b_law_divisor_2 : S3 :=
  (sRet (dVar 1))
noncomputable def b_law_divisor_1 : S3 :=
  (sSeq (sFor (iLT (dVar 0)) (gN 2)
  b_law_divisor_L1)
  b_law_divisor_2)
noncomputable abbrev b_law_divisor : S3 :=
  (sSeq (sSet 1 (dC (.int 0)))
  b_law_divisor_1)
theorem rd_law_divisor : ∀ (ds : List D) (Φ : D → Prop), ds.length = 1 → C_law_divisor ds Φ → b_law_divisor (finD Φ) (startD 4 ds) := by
  have turn : ∀ (d0 : D) (k : (F3 → Prop) → Fr3 → Prop) (Ψ : F3 → Prop) (g q : Int) (s : Sl), 0 ≤ g → (∀ s s', k Ψ [.val d0, .val (.int (Int.gcd g q : Int)), s, s']) → sSeq (sSet 3 (dB cAbs (aCons (dVar 2) aNil))) b_law_divisor_L1_1 (loopS k Ψ) [.val d0, .val (.int g), .val (.int q), s] := by
    intro d0 k Ψ g q s g0 hk
    refine while_inv (fun ρ => ∃ (x y : Int), ρ = [.val d0, .val (.int x), .val (.int q), .val (.int y)] ∧ 0 ≤ x ∧ 0 ≤ y ∧ Int.gcd x y = Int.gcd g q) (fun ρ => match ρ with | [_, _, _, .val (.int y)] => y.natAbs | _ => 0) ⟨g, q.natAbs, rfl, g0, by omega, by simp [Int.gcd]⟩ ?_
    rintro ρ ⟨x, y, rfl, hx, hy, e⟩
    refine tst (fun hc => ?_) (fun hc => ?_)
    · have hy0 : 0 < y := of_decide_eq_true hc
      have hy1 : y ≠ 0 := by omega
      refine ⟨hy1, _, ?_, rfl, y, x.fmod y, rfl, hy, Int.fmod_nonneg_of_pos x hy0, by rw [gcd_step, e]⟩
      show (x.fmod y).natAbs < y.natAbs
      exact fmod_lt hy1
    · have hy0 : ¬ 0 < y := of_decide_eq_false hc
      have hy1 : y = 0 := by omega
      subst hy1
      have e2 : (Int.gcd g q : Int) = x := by rw [← e]; simp; omega
      have := hk (.val (.int q)) (.val (.int 0))
      rw [e2] at this
      exact this
  rintro ds Φ hl ⟨ms, rfl | rfl, h⟩
  · exact law_divisor_loop h (turn _) ms 0 .un .un (Int.le_refl 0) rfl
  · exact law_divisor_loop h (turn _) ms 0 .un .un (Int.le_refl 0) rfl
theorem ok_law_divisor {P : Program} {w : World} {K : PySem.W.Frag} {mg : Str → Option Value} {base : Heap} {t : Ad} (T : Txt K mg t) : FnOk P w K mg base CX0 1 t.a_law_divisor t.d_law_divisor ["numbers"] (spD K 1 C_law_divisor) := by
  have sc := sc_law_divisor
  refine fn_ok (k := 0) T.F_law_divisor sc_law_divisor (fun cdv A outer s H E hr => ⟨b_law_divisor, (psd_cons (psd_set (i := 1) sc.nd rfl (loc_of rfl) pd_int)
  (psd_cons (psd_for PassesOwn.never rfl (pid_seq (pd_var (pv 0))) (pgd_name (i := 2) sc.nd rfl (loc_of rfl))
  (psd_cons (psd_set (i := 3) sc.nd rfl (loc_of rfl) (pd_callB b_abs rfl T.z_abs bt_abs (pad_cons (pd_var (pv 2)) pad_nil)))
  (psd_one (psd_while PassesOwn.never (pb_cmp o_gt (pd_var (pv 3)) pd_int (nomark _))
  (psd_one (psd_par (i := 1) (j := 3) rfl sc.nd rfl rfl (by decide) rfl rfl (pad_cons (pd_var (pv 3)) (pad_cons (pd_op o_mod (pd_var (pv 1)) (pd_var (pv 3))) pad_nil)) (by rfl)))))))
  (psd_one (psd_ret (pd_var (pv 1)))))), rd_law_divisor⟩)
noncomputable def C_law_laid : Con := fun ds Φ => ∃ (p q : Q4) (k : Nat), ds = [qd p, qd q] ∧ k ≤ 60000000 ∧ Bq k p ∧ Bq k q ∧ Φ (qd (qmul p q))
theorem mono_law_laid : Mono C_law_laid := fun ds Φ Ψ mo h0 => by
  obtain ⟨p, q, k, a, b, c, d, h⟩ := h0
  exact ⟨p, q, k, a, b, c, d, mo _ h⟩
noncomputable def b_law_laid_4 : S3 :=
  (sRet (dTup (aCons (dVar 10) (aCons (dVar 11) (aCons (dOp (dI0 fun i j => .int (i + j)) (dOp (dI0 fun i j => .int (i + j)) (dOp (dI0 fun i j => .int (i - j)) (dOp (dI IntMulOk fun i j => .int (i * j)) (dVar 2) (dVar 8)) (dOp (dI IntMulOk fun i j => .int (i * j)) (dVar 3) (dVar 9))) (dOp (dI IntMulOk fun i j => .int (i * j)) (dVar 4) (dVar 6))) (dOp (dI IntMulOk fun i j => .int (i * j)) (dVar 5) (dVar 7))) (aCons (dOp (dI0 fun i j => .int (i + j)) (dOp (dI0 fun i j => .int (i - j)) (dOp (dI0 fun i j => .int (i + j)) (dOp (dI IntMulOk fun i j => .int (i * j)) (dVar 2) (dVar 9)) (dOp (dI IntMulOk fun i j => .int (i * j)) (dVar 3) (dVar 8))) (dOp (dI IntMulOk fun i j => .int (i * j)) (dVar 4) (dVar 7))) (dOp (dI IntMulOk fun i j => .int (i * j)) (dVar 5) (dVar 6))) aNil))))))
noncomputable def b_law_laid_3 : S3 :=
  (sSeq (sSet 11 (dOp (dI0 fun i j => .int (i - j)) (dOp (dI0 fun i j => .int (i + j)) (dOp (dI0 fun i j => .int (i + j)) (dOp (dI IntMulOk fun i j => .int (i * j)) (dVar 2) (dVar 7)) (dOp (dI IntMulOk fun i j => .int (i * j)) (dVar 3) (dVar 6))) (dOp (dI IntMulOk fun i j => .int (i * j)) (dVar 4) (dVar 9))) (dOp (dI IntMulOk fun i j => .int (i * j)) (dVar 5) (dVar 8))))
  b_law_laid_4)
noncomputable def b_law_laid_2 : S3 :=
  (sSeq (sSet 10 (dOp (dI0 fun i j => .int (i - j)) (dOp (dI0 fun i j => .int (i - j)) (dOp (dI0 fun i j => .int (i - j)) (dOp (dI IntMulOk fun i j => .int (i * j)) (dVar 2) (dVar 6)) (dOp (dI IntMulOk fun i j => .int (i * j)) (dVar 3) (dVar 7))) (dOp (dI IntMulOk fun i j => .int (i * j)) (dVar 4) (dVar 8))) (dOp (dI IntMulOk fun i j => .int (i * j)) (dVar 5) (dVar 9))))
  b_law_laid_3)
noncomputable def b_law_laid_1 : S3 :=
  (sSeq (sAsg (dVar 1) (gTup3 4 (gCons3 (gN 6) (gCons3 (gN 7) (gCons3 (gN 8) (gCons3 (gN 9) gNil3))))))
  b_law_laid_2)
noncomputable abbrev b_law_laid : S3 :=
  (sSeq (sAsg (dVar 0) (gTup3 4 (gCons3 (gN 2) (gCons3 (gN 3) (gCons3 (gN 4) (gCons3 (gN 5) gNil3))))))
  b_law_laid_1)
theorem rd_law_laid : ∀ (ds : List D) (Φ : D → Prop), ds.length = 2 → C_law_laid ds Φ → b_law_laid (finD Φ) (startD 12 ds) := by
  rintro ds Φ hl ⟨p, q, k, rfl, hk, hp, hq, h⟩
  have mk : ∀ {x y : Int}, Bd k x → Bd k y → IntMulOk x y := fun hx hy => mulOk hx hy (by omega)
  refine ⟨rfl, ?_⟩
  show b_law_laid_1 (finD Φ) [.val (qd p), .val (qd q), .val (.int p.a), .val (.int p.b), .val (.int p.c), .val (.int p.d), .un, .un, .un, .un, .un, .un]
  refine ⟨rfl, ?_⟩
  show b_law_laid_2 (finD Φ) [.val (qd p), .val (qd q), .val (.int p.a), .val (.int p.b), .val (.int p.c), .val (.int p.d), .val (.int q.a), .val (.int q.b), .val (.int q.c), .val (.int q.d), .un, .un]
  refine ⟨mk hp.a hq.a, mk hp.b hq.b, mk hp.c hq.c, mk hp.d hq.d, mk hp.a hq.b, mk hp.b hq.a, mk hp.c hq.d, mk hp.d hq.c, ?_⟩
  exact ⟨mk hp.a hq.c, mk hp.b hq.d, mk hp.c hq.a, mk hp.d hq.b, mk hp.a hq.d, mk hp.b hq.c, mk hp.c hq.b, mk hp.d hq.a, sl_le 4 rfl (by decide), h⟩
theorem ok_law_laid {P : Program} {w : World} {K : PySem.W.Frag} {mg : Str → Option Value} {base : Heap} {t : Ad} (T : Txt K mg t) : FnOk P w K mg base CX0 1 t.a_law_laid t.d_law_laid ["one", "other"] (spD K 2 C_law_laid) := by
  have sc := sc_law_laid
  refine fn_ok (k := 0) T.F_law_laid sc_law_laid (fun cdv A outer s H E hr => ⟨b_law_laid, (psd_cons (psd_asg (pd_var (pv 0)) (pgd_tup rfl (pgds_cons (pgd_name (i := 2) sc.nd rfl (loc_of rfl)) (pgds_cons (pgd_name (i := 3) sc.nd rfl (loc_of rfl)) (pgds_cons (pgd_name (i := 4) sc.nd rfl (loc_of rfl)) (pgds_cons (pgd_name (i := 5) sc.nd rfl (loc_of rfl)) pgds_nil))))))
  (psd_cons (psd_asg (pd_var (pv 1)) (pgd_tup rfl (pgds_cons (pgd_name (i := 6) sc.nd rfl (loc_of rfl)) (pgds_cons (pgd_name (i := 7) sc.nd rfl (loc_of rfl)) (pgds_cons (pgd_name (i := 8) sc.nd rfl (loc_of rfl)) (pgds_cons (pgd_name (i := 9) sc.nd rfl (loc_of rfl)) pgds_nil))))))
  (psd_cons (psd_set (i := 10) sc.nd rfl (loc_of rfl) (pd_op o_sub (pd_op o_sub (pd_op o_sub (pd_op o_mul (pd_var (pv 2)) (pd_var (pv 6))) (pd_op o_mul (pd_var (pv 3)) (pd_var (pv 7)))) (pd_op o_mul (pd_var (pv 4)) (pd_var (pv 8)))) (pd_op o_mul (pd_var (pv 5)) (pd_var (pv 9)))))
  (psd_cons (psd_set (i := 11) sc.nd rfl (loc_of rfl) (pd_op o_sub (pd_op o_add (pd_op o_add (pd_op o_mul (pd_var (pv 2)) (pd_var (pv 7))) (pd_op o_mul (pd_var (pv 3)) (pd_var (pv 6)))) (pd_op o_mul (pd_var (pv 4)) (pd_var (pv 9)))) (pd_op o_mul (pd_var (pv 5)) (pd_var (pv 8)))))
  (psd_one (psd_ret (pd_tup (pad_cons (pd_var (pv 10)) (pad_cons (pd_var (pv 11)) (pad_cons (pd_op o_add (pd_op o_add (pd_op o_sub (pd_op o_mul (pd_var (pv 2)) (pd_var (pv 8))) (pd_op o_mul (pd_var (pv 3)) (pd_var (pv 9)))) (pd_op o_mul (pd_var (pv 4)) (pd_var (pv 6)))) (pd_op o_mul (pd_var (pv 5)) (pd_var (pv 7)))) (pad_cons (pd_op o_add (pd_op o_sub (pd_op o_add (pd_op o_mul (pd_var (pv 2)) (pd_var (pv 9))) (pd_op o_mul (pd_var (pv 3)) (pd_var (pv 8)))) (pd_op o_mul (pd_var (pv 4)) (pd_var (pv 7)))) (pd_op o_mul (pd_var (pv 5)) (pd_var (pv 6)))) pad_nil))))))))))), rd_law_laid⟩)
noncomputable def C_law_made_quad : Con := fun ds Φ => ∃ (ns : List Int) (m : Int), ds = [.lst (ns.map .int), .int m] ∧ ns.length ≤ 40 ∧ 0 ≤ m ∧ m ≤ 10 ^ 30 ∧ ∀ q : Q4, q ≠ q0 → Bq 310 q → Φ (qd q)
theorem mono_law_made_quad : Mono C_law_made_quad := fun ds Φ Ψ mo h0 => by
  obtain ⟨ns, m, a, b, c, d, h⟩ := h0
  exact ⟨ns, m, a, b, c, d, fun q h1 h2 => mo _ (h q h1 h2)⟩
noncomputable def b_law_made_quad_L1_2 : S3 :=
  (sIf (dT (dOp dEq (dOp (dI (fun _ j => j ≠ 0) fun i j => .int (i.fmod j)) (dVar 3) (dC (.int 5))) (dC (.int 1))))
  (sSet 2 (dCall 2 C_law_laid (aCons (dVar 2) (aCons (dOp dIx (dVar 4) (dOp (dI (fun _ j => j ≠ 0) fun i j => .int (i.fmod j)) (dOp (dI CD fun i j => .int (i.fdiv j)) (dOp dIx (dVar 0) (dVar 3)) (dC (.int 3))) (dC (.int 8)))) aNil))))
  sNext)
noncomputable def b_law_made_quad_L1_1 : S3 :=
  (sSeq (sSet 4 (dF (fCat (dVar 4) (dF (fLst (aCons (dTup (aCons (dC (.int 2)) (aCons (dC (.int 0)) (aCons (dC (.int 0)) (aCons (dC (.int 1)) aNil))))) (aCons (dTup (aCons (dC (.int 3)) (aCons (dC (.int 1)) (aCons (dC (.int 1)) (aCons (dC (.int 0)) aNil))))) (aCons (dTup (aCons (dC (.int 2)) (aCons (dC (.int 2)) (aCons (dC (.int 1)) (aCons (dC (.int 0)) aNil))))) (aCons (dTup (aCons (dC (.int 1)) (aCons (dC (.int 1)) (aCons (dC (.int 0)) (aCons (dC (.int 1)) aNil))))) aNil)))))))))
  b_law_made_quad_L1_2)
noncomputable abbrev b_law_made_quad_L1 : S3 :=
  (sSeq (sSet 4 (dF (fLst (aCons (dTup (aCons (dC (.int 1)) (aCons (dC (.int 1)) (aCons (dC (.int 1)) (aCons (dC (.int 0)) aNil))))) (aCons (dTup (aCons (dC (.int 2)) (aCons (dC (.int 1)) (aCons (dC (.int 0)) (aCons (dC (.int 0)) aNil))))) (aCons (dTup (aCons (dC (.int 2)) (aCons (dC (.int 1)) (aCons (dC (.int 1)) (aCons (dC (.int 1)) aNil))))) (aCons (dTup (aCons (dC (.int 1)) (aCons (dC (.int 0)) (aCons (dC (.int 1)) (aCons (dC (.int 1)) aNil))))) aNil)))))))
  b_law_made_quad_L1_1)
noncomputable def b_law_made_quad_3 : S3 :=
  (sRet (dB cTuple (aCons (dF (fComp 1 (iLT (dVar 2)) (gN 0) (fun _ Φ => Φ true) (dOp (dI CD fun i j => .int (i.fdiv j)) (dVar 0) (dVar 6)))) aNil)))
noncomputable def b_law_made_quad_2 : S3 :=
  (sSeq (sSet 5 (dCall 1 C_law_divisor (aCons (dVar 2) aNil)))
  b_law_made_quad_3)
noncomputable def b_law_made_quad_1 : S3 :=
  (sSeq (sFor (iR1 (aCons (dB cLen (aCons (dVar 0) aNil)) aNil)) (gN 3)
  b_law_made_quad_L1)
  b_law_made_quad_2)
noncomputable abbrev b_law_made_quad : S3 :=
  (sSeq (sSet 2 (dCall 2 C_law_quad (aCons (dF (fSl (dVar 0) oNone (oSome (dC (.int 16))))) (aCons (dVar 1) aNil))))
  b_law_made_quad_1)
theorem rd_law_made_quad : ∀ (ds : List D) (Φ : D → Prop), ds.length = 2 → C_law_made_quad ds Φ → b_law_made_quad (finD Φ) (startD 6 ds) := by
  rintro ds Φ hl ⟨ns, m, rfl, hn, m0, m1, h⟩
  refine ⟨rfl, D3.cutD ns none (some 16), m, by rw [← cutD_map], Nat.le_trans (cutD_len _ _ _) (by omega), m0, m1, fun q hq bq => ?_⟩
  have hlen : ((ns.map D.int).length : Int) = ns.length := by simp
  refine ⟨show -(2 ^ 62 : Int) ≤ ((ns.map D.int).length : Int) by omega, show ((ns.map D.int).length : Int) < 2 ^ 62 by omega, ?_⟩
  refine FOR_inv (fun pre post ρ => pre ++ post = ups 0 ((ns.map D.int).length : Int).toNat ∧ ∃ (p : Q4) (s3 s4 : Sl), ρ = [.val (.lst (ns.map .int)), .val (.int m), .val (qd p), s3, s4, .un] ∧ p ≠ q0 ∧ Bq (107 + 5 * pre.length) p) ?_ ?_ _ [] _ ⟨rfl, q, .un, .un, rfl, hq, bq⟩
  · rintro pre d post ρ ⟨hall, p, s3, s4, rfl, hp, bp⟩ k hk
    obtain ⟨rfl, hi⟩ := ups_at hall
    have hi : pre.length < ns.length := by
      have e : ((ns.map D.int).length : Int).toNat = ns.length := by simp
      rw [e] at hi; exact hi
    have hall' : (pre ++ [D.int (0 + (pre.length : Nat))]) ++ post = ups 0 ((ns.map D.int).length : Int).toNat := by rw [← hall]; simp
    have ec : atI (ns.map D.int) (0 + (pre.length : Nat)) = some (.int ns[pre.length]) := by
      rw [Int.zero_add, atI_n, List.getElem?_map, List.getElem?_eq_getElem hi]; rfl
    have l1 : (pre ++ [D.int (0 + (pre.length : Nat))]).length = pre.length + 1 := by simp
    have s4q : ([D.int 1, D.int 1, D.int 1, D.int 0] : List D).length ≤ sizeLine := sl_le 4 rfl (by decide)
    refine ⟨s4q, s4q, s4q, s4q, sl_le 4 rfl (by decide), ?_⟩
    refine ⟨s4q, s4q, s4q, s4q, sl_le 4 rfl (by decide), sl_le 8 rfl (by decide), ?_⟩
    show b_law_made_quad_L1_2 (loopS k (thenS b_law_made_quad_2 (finD Φ))) [.val (.lst (ns.map .int)), .val (.int m), .val (qd p), .val (.int (0 + (pre.length : Nat))), .val (.lst [qd ⟨1, 1, 1, 0⟩, qd ⟨2, 1, 0, 0⟩, qd ⟨2, 1, 1, 1⟩, qd ⟨1, 0, 1, 1⟩, qd ⟨2, 0, 0, 1⟩, qd ⟨3, 1, 1, 0⟩, qd ⟨2, 2, 1, 0⟩, qd ⟨1, 1, 0, 1⟩]), .un]
    unfold b_law_made_quad_L1_2
    refine ⟨(show (5 : Int) ≠ 0 by decide), tst (fun _ => ?_) (fun _ => hk _ ⟨hall', p, _, _, rfl, hp, by rw [l1]; exact bp.mono (by omega)⟩)⟩
    refine onS_of ec ⟨cd_lit (by decide), (show (8 : Int) ≠ 0 by decide), ?_⟩
    have last : ∀ r : Q4, r ≠ q0 → Bq 2 r → C_law_laid [qd p, qd r] (fun d => (loopS k (thenS b_law_made_quad_2 (finD Φ))) (.nx [.val (.lst (ns.map .int)), .val (.int m), .val d, .val (.int (0 + (pre.length : Nat))), .val (.lst [qd ⟨1, 1, 1, 0⟩, qd ⟨2, 1, 0, 0⟩, qd ⟨2, 1, 1, 1⟩, qd ⟨1, 0, 1, 1⟩, qd ⟨2, 0, 0, 1⟩, qd ⟨3, 1, 1, 0⟩, qd ⟨2, 2, 1, 0⟩, qd ⟨1, 1, 0, 1⟩]), .un])) := fun r hr br =>
      ⟨p, r, 107 + 5 * pre.length, rfl, by omega, bp, br.mono (by omega), hk _ ⟨hall', qmul p r, _, _, rfl, qmul_ne hp hr, by rw [l1]; exact (bp.mul br).mono (by omega)⟩⟩
    have b2 : ∀ {x : Int}, (x = 0 ∨ x = 1 ∨ x = 2 ∨ x = 3) → Bd 2 x := by rintro x (rfl | rfl | rfl | rfl) <;> exact bd_lit (by decide)
    have hj : (ns[pre.length].fdiv 3).fmod 8 = 0 ∨ (ns[pre.length].fdiv 3).fmod 8 = 1 ∨ (ns[pre.length].fdiv 3).fmod 8 = 2 ∨ (ns[pre.length].fdiv 3).fmod 8 = 3 ∨ (ns[pre.length].fdiv 3).fmod 8 = 4 ∨ (ns[pre.length].fdiv 3).fmod 8 = 5 ∨ (ns[pre.length].fdiv 3).fmod 8 = 6 ∨ (ns[pre.length].fdiv 3).fmod 8 = 7 := by rw [fmod_pos (by decide)]; omega
    rcases hj with hj | hj | hj | hj | hj | hj | hj | hj
    · exact onS_of (d := qd ⟨1, 1, 1, 0⟩) (by rw [hj]; rfl) ⟨rfl, last ⟨1, 1, 1, 0⟩ (by decide) ⟨b2 (by decide), b2 (by decide), b2 (by decide), b2 (by decide)⟩⟩
    · exact onS_of (d := qd ⟨2, 1, 0, 0⟩) (by rw [hj]; rfl) ⟨rfl, last ⟨2, 1, 0, 0⟩ (by decide) ⟨b2 (by decide), b2 (by decide), b2 (by decide), b2 (by decide)⟩⟩
    · exact onS_of (d := qd ⟨2, 1, 1, 1⟩) (by rw [hj]; rfl) ⟨rfl, last ⟨2, 1, 1, 1⟩ (by decide) ⟨b2 (by decide), b2 (by decide), b2 (by decide), b2 (by decide)⟩⟩
    · exact onS_of (d := qd ⟨1, 0, 1, 1⟩) (by rw [hj]; rfl) ⟨rfl, last ⟨1, 0, 1, 1⟩ (by decide) ⟨b2 (by decide), b2 (by decide), b2 (by decide), b2 (by decide)⟩⟩
    · exact onS_of (d := qd ⟨2, 0, 0, 1⟩) (by rw [hj]; rfl) ⟨rfl, last ⟨2, 0, 0, 1⟩ (by decide) ⟨b2 (by decide), b2 (by decide), b2 (by decide), b2 (by decide)⟩⟩
    · exact onS_of (d := qd ⟨3, 1, 1, 0⟩) (by rw [hj]; rfl) ⟨rfl, last ⟨3, 1, 1, 0⟩ (by decide) ⟨b2 (by decide), b2 (by decide), b2 (by decide), b2 (by decide)⟩⟩
    · exact onS_of (d := qd ⟨2, 2, 1, 0⟩) (by rw [hj]; rfl) ⟨rfl, last ⟨2, 2, 1, 0⟩ (by decide) ⟨b2 (by decide), b2 (by decide), b2 (by decide), b2 (by decide)⟩⟩
    · exact onS_of (d := qd ⟨1, 1, 0, 1⟩) (by rw [hj]; rfl) ⟨rfl, last ⟨1, 1, 0, 1⟩ (by decide) ⟨b2 (by decide), b2 (by decide), b2 (by decide), b2 (by decide)⟩⟩
  · rintro pre ρ ⟨hall, p, s3, s4, rfl, hp, bp⟩
    rw [List.append_nil] at hall
    have hpl : pre.length ≤ 40 := by rw [hall, ups_length]; simp; omega
    have bp : Bq 310 p := bp.mono (by omega)
    have g0 : gcdL (ql p) ≠ 0 := fun z => hp (ql_zero z)
    have bg := gcd_bd bp
    have l0 : lowQ p ≠ q0 := fun z => hp (by rw [lowQ_mul p, z]; apply Q4.eq <;> simp only [qsc, q0] <;> omega)
    have bl := lowQ_bd hp bp
    refine ⟨rfl, ql p, .inr rfl, ?_⟩
    show b_law_made_quad_3 (finD Φ) [.val (.lst (ns.map .int)), .val (.int m), .val (qd p), s3, s4, .val (.int (gcdL (ql p)))]
    have hh : Φ (qd (qdivq p (gcdL (ql p)))) := h _ l0 bl
    generalize gcdL (ql p) = g at *
    have cd : ∀ x : Int, CD x g := fun x => cd_of g0 bg (by decide)
    exact ⟨cd _, sl_lt 0 rfl (by decide), cd _, sl_lt 1 rfl (by decide), cd _, sl_lt 2 rfl (by decide), cd _, sl_lt 3 rfl (by decide), hh⟩
theorem ok_law_made_quad {P : Program} {w : World} {K : PySem.W.Frag} {mg : Str → Option Value} {base : Heap} {t : Ad} (T : Txt K mg t) : FnOk P w K mg base CX0 3 t.a_law_made_quad t.d_law_made_quad ["cells", "most"] (spD K 2 C_law_made_quad) := by
  have sc := sc_law_made_quad
  refine fn_ok (k := 2) T.F_law_made_quad sc_law_made_quad (fun cdv A outer s H E hr => ⟨b_law_made_quad, (psd_cons (psd_set (i := 2) sc.nd rfl (loc_of rfl) (pd_call (ok_law_quad T) mono_law_quad (hr.mono (by decide)) rfl T.m_law_quad T.F_law_quad.kp T.b_law_quad (pad_cons (pd_new (pf_slice (pd_var (pv 0)) pod_none (pod_some pd_int))) (pad_cons (pd_var (pv 1)) pad_nil))))
  (psd_cons (psd_for PassesOwn.never rfl (pid_range1 rfl T.z_range (pad_cons (pd_callB b_len rfl T.z_len bt_len (pad_cons (pd_var (pv 0)) pad_nil)) pad_nil)) (pgd_name (i := 3) sc.nd rfl (loc_of rfl))
  (psd_cons (psd_set (i := 4) sc.nd rfl (loc_of rfl) (pd_new (pf_lst (pad_cons (pd_tup (pad_cons pd_int (pad_cons pd_int (pad_cons pd_int (pad_cons pd_int pad_nil))))) (pad_cons (pd_tup (pad_cons pd_int (pad_cons pd_int (pad_cons pd_int (pad_cons pd_int pad_nil))))) (pad_cons (pd_tup (pad_cons pd_int (pad_cons pd_int (pad_cons pd_int (pad_cons pd_int pad_nil))))) (pad_cons (pd_tup (pad_cons pd_int (pad_cons pd_int (pad_cons pd_int (pad_cons pd_int pad_nil))))) pad_nil)))))))
  (psd_cons (psd_set (i := 4) sc.nd rfl (loc_of rfl) (pd_new (pf_cat (pd_var (pv 4)) (pd_new (pf_lst (pad_cons (pd_tup (pad_cons pd_int (pad_cons pd_int (pad_cons pd_int (pad_cons pd_int pad_nil))))) (pad_cons (pd_tup (pad_cons pd_int (pad_cons pd_int (pad_cons pd_int (pad_cons pd_int pad_nil))))) (pad_cons (pd_tup (pad_cons pd_int (pad_cons pd_int (pad_cons pd_int (pad_cons pd_int pad_nil))))) (pad_cons (pd_tup (pad_cons pd_int (pad_cons pd_int (pad_cons pd_int (pad_cons pd_int pad_nil))))) pad_nil)))))))))
  (psd_one (psd_if (pb_cmp o_eq (pd_op o_mod (pd_var (pv 3)) pd_int) pd_int (nomark _))
  (psd_one (psd_set (i := 2) sc.nd rfl (loc_of rfl) (pd_call (ok_law_laid T) mono_law_laid (hr.mono (by decide)) rfl T.m_law_laid T.F_law_laid.kp T.b_law_laid (pad_cons (pd_var (pv 2)) (pad_cons (pd_ix (pd_var (pv 4)) (pd_op o_mod (pd_op o_fdiv (pd_ix (pd_var (pv 0)) (pd_var (pv 3)) (fun _ _ => rfl)) pd_int) pd_int) (fun _ _ => rfl)) pad_nil)))))
  psd_nil)))))
  (psd_cons (psd_set (i := 5) sc.nd rfl (loc_of rfl) (pd_call (ok_law_divisor T) mono_law_divisor (hr.mono (by decide)) rfl T.m_law_divisor T.F_law_divisor.kp T.b_law_divisor (pad_cons (pd_var (pv 2)) pad_nil)))
  (psd_one (psd_ret (pd_callTy b_tuple rfl T.z_tuple bt_tuple (pad_cons (pd_new (pf_comp (xs := ["number"]) (M := ["cells", "most", "quad", "k", "some", "few"]) (n := 1) (by rfl) rfl rfl (pid_seq (pd_var (pv 2))) (fun _ _ _ _ => (pgn_name (i := 0) (by decide) (show List.Nodup (["number", "cells", "most", "quad", "k", "some", "few"] : List Str) by decide +kernel) rfl (by first | exact Or.inl rfl | exact Or.inr rfl))) (fun _ _ _ _ => pbs_nil) (fun _ _ _ _ => (pd_op o_fdiv (pd_var (pv 0)) (pd_var (pv 6)))))) pad_nil))))))), rd_law_made_quad⟩)
noncomputable def C_law_lower : Con := fun ds Φ => ∃ (t : T9) (k : Nat), (ds = [tr t, .int t.n] ∨ ds = [trL t, .int t.n]) ∧ t.n ≠ 0 ∧ k ≤ 9000 ∧ Bt k t ∧ Φ (tb (lowT t))
theorem mono_law_lower : Mono C_law_lower := fun ds Φ Ψ mo h0 => by
  obtain ⟨t, k, a, b, c, d, h⟩ := h0
  exact ⟨t, k, a, b, c, d, mo _ h⟩
noncomputable def b_law_lower_1 : S3 :=
  (sRet (dTup (aCons (dB cTuple (aCons (dF (fComp 1 (iLT (dVar 0)) (gN 0) (fun _ Φ => Φ true) (dB cTuple (aCons (dF (fComp 1 (iLT (dVar 0)) (gN 0) (fun _ Φ => Φ true) (dOp (dI CD fun i j => .int (i.fdiv j)) (dVar 0) (dVar 4)))) aNil)))) aNil)) (aCons (dOp (dI CD fun i j => .int (i.fdiv j)) (dVar 1) (dVar 2)) aNil))))
noncomputable abbrev b_law_lower : S3 :=
  (sSeq (sSet 2 (dCall 1 C_law_divisor (aCons (dF (fCat (dF (fCat (dF (fCat (dF (fList (dOp dIx (dVar 0) (dC (.int 0))))) (dF (fList (dOp dIx (dVar 0) (dC (.int 1))))))) (dF (fList (dOp dIx (dVar 0) (dC (.int 2))))))) (dF (fLst (aCons (dVar 1) aNil))))) aNil)))
  b_law_lower_1)
theorem rd_law_lower : ∀ (ds : List D) (Φ : D → Prop), ds.length = 2 → C_law_lower ds Φ → b_law_lower (finD Φ) (startD 3 ds) := by
  rintro ds Φ hl ⟨t, k, hds, h0, hk, bt, h⟩
  obtain ⟨gp, gb⟩ := gcdL_tl h0 bt
  have g0 : gcdL (tl t) ≠ 0 := by omega
  have cd : ∀ x : Int, CD x (gcdL (tl t)) := fun x => cd_of g0 gb hk
  have h : Φ (tb (divT t (gcdL (tl t)))) := h
  rcases hds with rfl | rfl
  · refine ⟨sl_le 6 rfl (by decide), sl_le 9 rfl (by decide), sl_le 1 rfl (by decide), sl_le 10 rfl (by decide), rfl, tl t, .inl rfl, ?_⟩
    show b_law_lower_1 (finD Φ) [.val (tr t), .val (.int t.n), .val (.int (gcdL (tl t)))]
    generalize gcdL (tl t) = g at *
    refine ⟨cd _, sl_lt 0 rfl (by decide), cd _, sl_lt 1 rfl (by decide), cd _, sl_lt 2 rfl (by decide), sl_lt 0 rfl (by decide), ?_⟩
    refine ⟨cd _, sl_lt 0 rfl (by decide), cd _, sl_lt 1 rfl (by decide), cd _, sl_lt 2 rfl (by decide), sl_lt 1 rfl (by decide), ?_⟩
    refine ⟨cd _, sl_lt 0 rfl (by decide), cd _, sl_lt 1 rfl (by decide), cd _, sl_lt 2 rfl (by decide), sl_lt 2 rfl (by decide), ?_⟩
    exact ⟨cd _, sl_le 2 rfl (by decide), h⟩
  · refine ⟨sl_le 6 rfl (by decide), sl_le 9 rfl (by decide), sl_le 1 rfl (by decide), sl_le 10 rfl (by decide), rfl, tl t, .inl rfl, ?_⟩
    show b_law_lower_1 (finD Φ) [.val (trL t), .val (.int t.n), .val (.int (gcdL (tl t)))]
    generalize gcdL (tl t) = g at *
    refine ⟨cd _, sl_lt 0 rfl (by decide), cd _, sl_lt 1 rfl (by decide), cd _, sl_lt 2 rfl (by decide), sl_lt 0 rfl (by decide), ?_⟩
    refine ⟨cd _, sl_lt 0 rfl (by decide), cd _, sl_lt 1 rfl (by decide), cd _, sl_lt 2 rfl (by decide), sl_lt 1 rfl (by decide), ?_⟩
    refine ⟨cd _, sl_lt 0 rfl (by decide), cd _, sl_lt 1 rfl (by decide), cd _, sl_lt 2 rfl (by decide), sl_lt 2 rfl (by decide), ?_⟩
    exact ⟨cd _, sl_le 2 rfl (by decide), h⟩
theorem ok_law_lower {P : Program} {w : World} {K : PySem.W.Frag} {mg : Str → Option Value} {base : Heap} {t : Ad} (T : Txt K mg t) : FnOk P w K mg base CX0 2 t.a_law_lower t.d_law_lower ["rows", "bottom"] (spD K 2 C_law_lower) := by
  have sc := sc_law_lower
  refine fn_ok (k := 1) T.F_law_lower sc_law_lower (fun cdv A outer s H E hr => ⟨b_law_lower, (psd_cons (psd_set (i := 2) sc.nd rfl (loc_of rfl) (pd_call (ok_law_divisor T) mono_law_divisor (hr.mono (by decide)) rfl T.m_law_divisor T.F_law_divisor.kp T.b_law_divisor (pad_cons (pd_new (pf_cat (pd_new (pf_cat (pd_new (pf_cat (pd_new (pf_list (by rfl) T.z_list bt_list (pd_ix (pd_var (pv 0)) pd_int (fun _ _ => rfl)))) (pd_new (pf_list (by rfl) T.z_list bt_list (pd_ix (pd_var (pv 0)) pd_int (fun _ _ => rfl)))))) (pd_new (pf_list (by rfl) T.z_list bt_list (pd_ix (pd_var (pv 0)) pd_int (fun _ _ => rfl)))))) (pd_new (pf_lst (pad_cons (pd_var (pv 1)) pad_nil))))) pad_nil)))
  (psd_one (psd_ret (pd_tup (pad_cons (pd_callTy b_tuple rfl T.z_tuple bt_tuple (pad_cons (pd_new (pf_comp (xs := ["row"]) (M := ["rows", "bottom", "few"]) (n := 1) (by rfl) rfl rfl (pid_seq (pd_var (pv 0))) (fun _ _ _ _ => (pgn_name (i := 0) (by decide) (show List.Nodup (["row", "rows", "bottom", "few"] : List Str) by decide +kernel) rfl (by first | exact Or.inl rfl | exact Or.inr rfl))) (fun _ _ _ _ => pbs_nil) (fun _ _ _ _ => (pd_callTy b_tuple rfl T.z_tuple bt_tuple (pad_cons (pd_new (pf_comp (xs := ["number"]) (M := ["row", "rows", "bottom", "few"]) (n := 1) (by rfl) rfl rfl (pid_seq (pd_var (pv 0))) (fun _ _ _ _ => (pgn_name (i := 0) (by decide) (show List.Nodup (["number", "row", "rows", "bottom", "few"] : List Str) by decide +kernel) rfl (by first | exact Or.inl rfl | exact Or.inr rfl))) (fun _ _ _ _ => pbs_nil) (fun _ _ _ _ => (pd_op o_fdiv (pd_var (pv 0)) (pd_var (pv 4)))))) pad_nil))))) pad_nil)) (pad_cons (pd_op o_fdiv (pd_var (pv 1)) (pd_var (pv 2))) pad_nil)))))), rd_law_lower⟩)
noncomputable def C_law_table : Con := fun ds Φ => ∃ (q : Q4) (k : Nat), ds = [qd q] ∧ q ≠ q0 ∧ k ≤ 4000 ∧ Bq k q ∧ Φ (tb (turnT q))
theorem mono_law_table : Mono C_law_table := fun ds Φ Ψ mo h0 => by
  obtain ⟨q, k, a, b, c, d, h⟩ := h0
  exact ⟨q, k, a, b, c, d, mo _ h⟩
noncomputable def b_law_table_4 : S3 :=
  (sRet (dCall 2 C_law_lower (aCons (dTup (aCons (dVar 5) (aCons (dVar 6) (aCons (dVar 7) aNil)))) (aCons (dOp (dI0 fun i j => .int (i + j)) (dOp (dI0 fun i j => .int (i + j)) (dOp (dI0 fun i j => .int (i + j)) (dOp (dI IntMulOk fun i j => .int (i * j)) (dVar 1) (dVar 1)) (dOp (dI IntMulOk fun i j => .int (i * j)) (dVar 2) (dVar 2))) (dOp (dI IntMulOk fun i j => .int (i * j)) (dVar 3) (dVar 3))) (dOp (dI IntMulOk fun i j => .int (i * j)) (dVar 4) (dVar 4))) aNil))))
noncomputable def b_law_table_3 : S3 :=
  (sSeq (sSet 7 (dTup (aCons (dOp (dI IntMulOk fun i j => .int (i * j)) (dC (.int 2)) (dOp (dI0 fun i j => .int (i - j)) (dOp (dI IntMulOk fun i j => .int (i * j)) (dVar 2) (dVar 4)) (dOp (dI IntMulOk fun i j => .int (i * j)) (dVar 1) (dVar 3)))) (aCons (dOp (dI IntMulOk fun i j => .int (i * j)) (dC (.int 2)) (dOp (dI0 fun i j => .int (i + j)) (dOp (dI IntMulOk fun i j => .int (i * j)) (dVar 3) (dVar 4)) (dOp (dI IntMulOk fun i j => .int (i * j)) (dVar 1) (dVar 2)))) (aCons (dOp (dI0 fun i j => .int (i + j)) (dOp (dI0 fun i j => .int (i - j)) (dOp (dI0 fun i j => .int (i - j)) (dOp (dI IntMulOk fun i j => .int (i * j)) (dVar 1) (dVar 1)) (dOp (dI IntMulOk fun i j => .int (i * j)) (dVar 2) (dVar 2))) (dOp (dI IntMulOk fun i j => .int (i * j)) (dVar 3) (dVar 3))) (dOp (dI IntMulOk fun i j => .int (i * j)) (dVar 4) (dVar 4))) aNil)))))
  b_law_table_4)
noncomputable def b_law_table_2 : S3 :=
  (sSeq (sSet 6 (dTup (aCons (dOp (dI IntMulOk fun i j => .int (i * j)) (dC (.int 2)) (dOp (dI0 fun i j => .int (i + j)) (dOp (dI IntMulOk fun i j => .int (i * j)) (dVar 2) (dVar 3)) (dOp (dI IntMulOk fun i j => .int (i * j)) (dVar 1) (dVar 4)))) (aCons (dOp (dI0 fun i j => .int (i - j)) (dOp (dI0 fun i j => .int (i + j)) (dOp (dI0 fun i j => .int (i - j)) (dOp (dI IntMulOk fun i j => .int (i * j)) (dVar 1) (dVar 1)) (dOp (dI IntMulOk fun i j => .int (i * j)) (dVar 2) (dVar 2))) (dOp (dI IntMulOk fun i j => .int (i * j)) (dVar 3) (dVar 3))) (dOp (dI IntMulOk fun i j => .int (i * j)) (dVar 4) (dVar 4))) (aCons (dOp (dI IntMulOk fun i j => .int (i * j)) (dC (.int 2)) (dOp (dI0 fun i j => .int (i - j)) (dOp (dI IntMulOk fun i j => .int (i * j)) (dVar 3) (dVar 4)) (dOp (dI IntMulOk fun i j => .int (i * j)) (dVar 1) (dVar 2)))) aNil)))))
  b_law_table_3)
noncomputable def b_law_table_1 : S3 :=
  (sSeq (sSet 5 (dTup (aCons (dOp (dI0 fun i j => .int (i - j)) (dOp (dI0 fun i j => .int (i - j)) (dOp (dI0 fun i j => .int (i + j)) (dOp (dI IntMulOk fun i j => .int (i * j)) (dVar 1) (dVar 1)) (dOp (dI IntMulOk fun i j => .int (i * j)) (dVar 2) (dVar 2))) (dOp (dI IntMulOk fun i j => .int (i * j)) (dVar 3) (dVar 3))) (dOp (dI IntMulOk fun i j => .int (i * j)) (dVar 4) (dVar 4))) (aCons (dOp (dI IntMulOk fun i j => .int (i * j)) (dC (.int 2)) (dOp (dI0 fun i j => .int (i - j)) (dOp (dI IntMulOk fun i j => .int (i * j)) (dVar 2) (dVar 3)) (dOp (dI IntMulOk fun i j => .int (i * j)) (dVar 1) (dVar 4)))) (aCons (dOp (dI IntMulOk fun i j => .int (i * j)) (dC (.int 2)) (dOp (dI0 fun i j => .int (i + j)) (dOp (dI IntMulOk fun i j => .int (i * j)) (dVar 2) (dVar 4)) (dOp (dI IntMulOk fun i j => .int (i * j)) (dVar 1) (dVar 3)))) aNil)))))
  b_law_table_2)
noncomputable abbrev b_law_table : S3 :=
  (sSeq (sAsg (dVar 0) (gTup3 4 (gCons3 (gN 1) (gCons3 (gN 2) (gCons3 (gN 3) (gCons3 (gN 4) gNil3))))))
  b_law_table_1)
theorem rd_law_table : ∀ (ds : List D) (Φ : D → Prop), ds.length = 1 → C_law_table ds Φ → b_law_table (finD Φ) (startD 8 ds) := by
  rintro ds Φ hl ⟨q, k, rfl, h0, hk, bq, h⟩
  have mk : ∀ {x y : Int}, Bd k x → Bd k y → IntMulOk x y := fun hx hy => mulOk hx hy (by omega)
  have m2 : ∀ {x : Int}, IntMulOk 2 x := IntMulOk.of_left (by decide)
  refine ⟨rfl, ?_⟩
  show b_law_table_1 (finD Φ) [.val (qd q), .val (.int q.a), .val (.int q.b), .val (.int q.c), .val (.int q.d), .un, .un, .un]
  have aa := mk bq.a bq.a; have bb := mk bq.b bq.b; have cc := mk bq.c bq.c; have dd := mk bq.d bq.d
  have ab := mk bq.a bq.b; have ac := mk bq.a bq.c; have ad := mk bq.a bq.d; have bc := mk bq.b bq.c; have bd := mk bq.b bq.d; have cd := mk bq.c bq.d
  refine ⟨aa, bb, cc, dd, bc, ad, m2, bd, ac, m2, sl_le 3 rfl (by decide), ?_⟩
  show b_law_table_2 (finD Φ) [.val (qd q), .val (.int q.a), .val (.int q.b), .val (.int q.c), .val (.int q.d), .val (pt (rawT q).p), .un, .un]
  refine ⟨bc, ad, m2, aa, bb, cc, dd, cd, ab, m2, sl_le 3 rfl (by decide), ?_⟩
  show b_law_table_3 (finD Φ) [.val (qd q), .val (.int q.a), .val (.int q.b), .val (.int q.c), .val (.int q.d), .val (pt (rawT q).p), .val (pt (rawT q).q), .un]
  refine ⟨bd, ac, m2, cd, ab, m2, aa, bb, cc, dd, sl_le 3 rfl (by decide), ?_⟩
  show b_law_table_4 (finD Φ) [.val (qd q), .val (.int q.a), .val (.int q.b), .val (.int q.c), .val (.int q.d), .val (pt (rawT q).p), .val (pt (rawT q).q), .val (pt (rawT q).r)]
  have n0 : (rawT q).n ≠ 0 := by have := qsize_pos h0; rw [rawT_n]; omega
  exact ⟨sl_le 3 rfl (by decide), aa, bb, cc, dd, rfl, rawT q, 2 * k + 3, .inl rfl, n0, by omega, rawT_bd bq, h⟩
theorem ok_law_table {P : Program} {w : World} {K : PySem.W.Frag} {mg : Str → Option Value} {base : Heap} {t : Ad} (T : Txt K mg t) : FnOk P w K mg base CX0 3 t.a_law_table t.d_law_table ["quad"] (spD K 1 C_law_table) := by
  have sc := sc_law_table
  refine fn_ok (k := 2) T.F_law_table sc_law_table (fun cdv A outer s H E hr => ⟨b_law_table, (psd_cons (psd_asg (pd_var (pv 0)) (pgd_tup rfl (pgds_cons (pgd_name (i := 1) sc.nd rfl (loc_of rfl)) (pgds_cons (pgd_name (i := 2) sc.nd rfl (loc_of rfl)) (pgds_cons (pgd_name (i := 3) sc.nd rfl (loc_of rfl)) (pgds_cons (pgd_name (i := 4) sc.nd rfl (loc_of rfl)) pgds_nil))))))
  (psd_cons (psd_set (i := 5) sc.nd rfl (loc_of rfl) (pd_tup (pad_cons (pd_op o_sub (pd_op o_sub (pd_op o_add (pd_op o_mul (pd_var (pv 1)) (pd_var (pv 1))) (pd_op o_mul (pd_var (pv 2)) (pd_var (pv 2)))) (pd_op o_mul (pd_var (pv 3)) (pd_var (pv 3)))) (pd_op o_mul (pd_var (pv 4)) (pd_var (pv 4)))) (pad_cons (pd_op o_mul pd_int (pd_op o_sub (pd_op o_mul (pd_var (pv 2)) (pd_var (pv 3))) (pd_op o_mul (pd_var (pv 1)) (pd_var (pv 4))))) (pad_cons (pd_op o_mul pd_int (pd_op o_add (pd_op o_mul (pd_var (pv 2)) (pd_var (pv 4))) (pd_op o_mul (pd_var (pv 1)) (pd_var (pv 3))))) pad_nil)))))
  (psd_cons (psd_set (i := 6) sc.nd rfl (loc_of rfl) (pd_tup (pad_cons (pd_op o_mul pd_int (pd_op o_add (pd_op o_mul (pd_var (pv 2)) (pd_var (pv 3))) (pd_op o_mul (pd_var (pv 1)) (pd_var (pv 4))))) (pad_cons (pd_op o_sub (pd_op o_add (pd_op o_sub (pd_op o_mul (pd_var (pv 1)) (pd_var (pv 1))) (pd_op o_mul (pd_var (pv 2)) (pd_var (pv 2)))) (pd_op o_mul (pd_var (pv 3)) (pd_var (pv 3)))) (pd_op o_mul (pd_var (pv 4)) (pd_var (pv 4)))) (pad_cons (pd_op o_mul pd_int (pd_op o_sub (pd_op o_mul (pd_var (pv 3)) (pd_var (pv 4))) (pd_op o_mul (pd_var (pv 1)) (pd_var (pv 2))))) pad_nil)))))
  (psd_cons (psd_set (i := 7) sc.nd rfl (loc_of rfl) (pd_tup (pad_cons (pd_op o_mul pd_int (pd_op o_sub (pd_op o_mul (pd_var (pv 2)) (pd_var (pv 4))) (pd_op o_mul (pd_var (pv 1)) (pd_var (pv 3))))) (pad_cons (pd_op o_mul pd_int (pd_op o_add (pd_op o_mul (pd_var (pv 3)) (pd_var (pv 4))) (pd_op o_mul (pd_var (pv 1)) (pd_var (pv 2))))) (pad_cons (pd_op o_add (pd_op o_sub (pd_op o_sub (pd_op o_mul (pd_var (pv 1)) (pd_var (pv 1))) (pd_op o_mul (pd_var (pv 2)) (pd_var (pv 2)))) (pd_op o_mul (pd_var (pv 3)) (pd_var (pv 3)))) (pd_op o_mul (pd_var (pv 4)) (pd_var (pv 4)))) pad_nil)))))
  (psd_one (psd_ret (pd_call (ok_law_lower T) mono_law_lower (hr.mono (by decide)) rfl T.m_law_lower T.F_law_lower.kp T.b_law_lower (pad_cons (pd_tup (pad_cons (pd_var (pv 5)) (pad_cons (pd_var (pv 6)) (pad_cons (pd_var (pv 7)) pad_nil)))) (pad_cons (pd_op o_add (pd_op o_add (pd_op o_add (pd_op o_mul (pd_var (pv 1)) (pd_var (pv 1))) (pd_op o_mul (pd_var (pv 2)) (pd_var (pv 2)))) (pd_op o_mul (pd_var (pv 3)) (pd_var (pv 3)))) (pd_op o_mul (pd_var (pv 4)) (pd_var (pv 4)))) pad_nil))))))))), rd_law_table⟩)
noncomputable def C_law_sizes : Con := fun ds Φ => ∃ (n : Int) (cs : List Int), ds = [.int n, .lst (cs.map .int)] ∧ 0 < n ∧ Bd 1000 n ∧ cs.length ≤ 50 ∧ ∀ ns : List Int, Parts n ns → ns.length = cs.length + 1 → Φ (.lst (ns.map .int))
theorem mono_law_sizes : Mono C_law_sizes := fun ds Φ Ψ mo h0 => by
  obtain ⟨n, cs, a, b, c, d, h⟩ := h0
  exact ⟨n, cs, a, b, c, d, fun ns h1 h2 => mo _ (h ns h1 h2)⟩
noncomputable def b_law_sizes_L1_3 : S3 :=
  (sSet 3 (dOp (dI CD fun i j => .int (i.fdiv j)) (dVar 3) (dVar 6)))
noncomputable def b_law_sizes_L1_2 : S3 :=
  (sSeq (sApp 2 (dVar 6))
  b_law_sizes_L1_3)
noncomputable def b_law_sizes_L1_1 : S3 :=
  (sSeq (sSet 6 (dCall 1 C_law_divisor (aCons (dF (fLst (aCons (dVar 3) (aCons (dVar 5) aNil)))) aNil)))
  b_law_sizes_L1_2)
noncomputable abbrev b_law_sizes_L1 : S3 :=
  (sSeq (sSet 5 (dOp (dI IntMulOk fun i j => .int (i * j)) (dOp (dI0 fun i j => .int (i + j)) (dC (.int 1)) (dOp (dI (fun _ j => j ≠ 0) fun i j => .int (i.fmod j)) (dOp (dI CD fun i j => .int (i.fdiv j)) (dVar 4) (dC (.int 8))) (dOp (dI CPow fun i j => .int (i ^ j.toNat)) (dC (.int 10)) (dC (.int 30))))) (dOp dIx (dF (fLst (aCons (dC (.int 1)) (aCons (dC (.int 3)) (aCons (dC (.int 5)) (aCons (dC (.int 7)) (aCons (dC (.int 9)) (aCons (dC (.int 15)) (aCons (dC (.int 11)) (aCons (dC (.int 45)) aNil)))))))))) (dOp (dI (fun _ j => j ≠ 0) fun i j => .int (i.fmod j)) (dVar 4) (dC (.int 8))))))
  b_law_sizes_L1_1)
noncomputable def b_law_sizes_5 : S3 :=
  (sRet (dF (fCat (dF (fCat (dF (fSl (dVar 2) oNone (oSome (dVar 7)))) (dF (fLst (aCons (dVar 3) aNil))))) (dF (fSl (dVar 2) (oSome (dVar 7)) oNone)))))
noncomputable def b_law_sizes_4 : S3 :=
  (sSeq (sIf (dT (dOp (dI0 fun i j => .bl (decide (j < i))) (dB cLen (aCons (dVar 1) aNil)) (dC (.int 0))))
  (sSet 7 (dOp (dI (fun _ j => j ≠ 0) fun i j => .int (i.fmod j)) (dOp (dI CD fun i j => .int (i.fdiv j)) (dOp dIx (dVar 1) (dC (.int 0))) (dC (.int 7))) (dOp (dI0 fun i j => .int (i + j)) (dB cLen (aCons (dVar 2) aNil)) (dC (.int 1)))))
  sNext)
  b_law_sizes_5)
noncomputable def b_law_sizes_3 : S3 :=
  (sFreeze 2 (sSeq (sSet 7 (dC (.int 0)))
  b_law_sizes_4))
noncomputable def b_law_sizes_2 : S3 :=
  (sSeq (sFor (iLT (dVar 1)) (gN 4)
  b_law_sizes_L1)
  b_law_sizes_3)
noncomputable def b_law_sizes_1 : S3 :=
  (sSeq (sSet 3 (dVar 0))
  b_law_sizes_2)
noncomputable abbrev b_law_sizes : S3 :=
  (sSeq (sOwn 2 (fLst aNil))
  b_law_sizes_1)
theorem rd_law_sizes : ∀ (ds : List D) (Φ : D → Prop), ds.length = 2 → C_law_sizes ds Φ → b_law_sizes (finD Φ) (startD 8 ds) := by
  rintro ds Φ hl ⟨n, cs, rfl, n0, bn, hcs, h⟩
  refine ⟨sl_le 0 rfl (by decide), ?_⟩
  show FOR (gN 4) b_law_sizes_L1 (cs.map D.int) (thenS b_law_sizes_3 (finD Φ)) [.val (.int n), .val (.lst (cs.map .int)), .own [], .val (.int n), .un, .un, .un, .un]
  have loop : ∀ (cs' ss : List Int) (left : Int) (s4 s5 s6 : Sl), ss.length + cs'.length = cs.length → (∀ x ∈ ss, 1 ≤ x) → 0 < left → Bd 1000 left → prd ss * left = n → FOR (gN 4) b_law_sizes_L1 (cs'.map D.int) (thenS b_law_sizes_3 (finD Φ)) [.val (.int n), .val (.lst (cs.map .int)), .own (ss.map .int), .val (.int left), s4, s5, s6, .un] := by
    intro cs'
    induction cs' with
    | nil =>
      intro ss left s4 s5 s6 hlen h1 l0 bl e
      have hlen : ss.length = cs.length := by simpa using hlen
      have last : ∀ k : Nat, k ≤ ss.length → b_law_sizes_5 (finD Φ) [.val (.int n), .val (.lst (cs.map .int)), .val (.lst (ss.map .int)), .val (.int left), s4, s5, s6, .val (.int k)] := fun k hk => by
        have ec : D3.cutD (ss.map D.int) none (some (k : Int)) ++ [D.int left] ++ D3.cutD (ss.map D.int) (some (k : Int)) none = (ss.take k ++ [left] ++ ss.drop k).map D.int := by
          rw [cutD_map, cutD_map, cut_to, cut_from, List.map_append, List.map_append]; rfl
        refine ⟨sl_le 1 rfl (by decide), ?_, ?_, ?_⟩
        · rw [cutD_map, cut_to]
          exact Nat.le_of_lt (small1000 (by simp; omega))
        · rw [cutD_map, cut_to, cutD_map, cut_from]
          exact Nat.le_of_lt (small1000 (by simp; omega))
        · show Φ (.lst (D3.cutD (ss.map D.int) none (some (k : Int)) ++ [D.int left] ++ D3.cutD (ss.map D.int) (some (k : Int)) none))
          rw [ec]
          refine h _ ⟨fun x hx => ?_, ?_⟩ (by simp; omega)
          · rcases List.mem_append.mp hx with z | z
            · rcases List.mem_append.mp z with w | w
              · exact h1 x (List.mem_of_mem_take w)
              · have : x = left := by simpa using w
                omega
            · exact h1 x (List.mem_of_mem_drop z)
          · show prd (ss.take k ++ [left] ++ ss.drop k) = n
            have e2 := prd_cut ss k
            have e1 : prd [left] = left := by show 1 * left = left; omega
            rw [prd_append, prd_append, e1]
            have : prd (ss.take k) * left * prd (ss.drop k) = (prd (ss.take k) * prd (ss.drop k)) * left := by grind
            rw [this, e2, e]
      show b_law_sizes_3 (finD Φ) [.val (.int n), .val (.lst (cs.map .int)), .own (ss.map .int), .val (.int left), s4, s5, s6, .un]
      show b_law_sizes_4 (finD Φ) [.val (.int n), .val (.lst (cs.map .int)), .val (.lst (ss.map .int)), .val (.int left), s4, s5, s6, .val (.int 0)]
      unfold b_law_sizes_4
      refine tst (fun hc => ?_) (fun hc => last 0 (by omega))
      have hc : (0 : Int) < ((cs.map D.int).length : Int) := of_decide_eq_true hc
      rw [List.length_map] at hc
      have e0 : atI (cs.map D.int) ((0 : Nat) : Int) = some (.int cs[0]) := by
        rw [atI_n, List.getElem?_map, List.getElem?_eq_getElem (by omega)]; rfl
      refine onS_of e0 ⟨cd_lit (by decide), ?_⟩
      have el : ((ss.map D.int).length : Int) = (ss.length : Int) := by simp
      show ((ss.map D.int).length : Int) + 1 ≠ 0 ∧ b_law_sizes_5 (finD Φ) [.val (.int n), .val (.lst (cs.map .int)), .val (.lst (ss.map .int)), .val (.int left), s4, s5, s6, .val (.int ((cs[0].fdiv 7).fmod (((ss.map D.int).length : Int) + 1)))]
      rw [el]
      have j0 := Int.fmod_nonneg_of_pos (cs[0].fdiv 7) (show (0 : Int) < (ss.length : Int) + 1 by omega)
      have j1 := Int.fmod_lt_of_pos (cs[0].fdiv 7) (show (0 : Int) < (ss.length : Int) + 1 by omega)
      generalize (cs[0].fdiv 7).fmod ((ss.length : Int) + 1) = j at *
      obtain ⟨k, rfl⟩ : ∃ k : Nat, j = k := ⟨j.toNat, by omega⟩
      exact ⟨by omega, last k (by omega)⟩
    | cons x cs' ih =>
      intro ss left s4 s5 s6 hlen h1 l0 bl e
      simp only [List.length_cons] at hlen
      obtain ⟨y, hy, y6⟩ : ∃ y : Int, atI [D.int 1, D.int 3, D.int 5, D.int 7, D.int 9, D.int 15, D.int 11, D.int 45] (x.fmod 8) = some (.int y) ∧ Builtin.Int.intBits y ≤ 64 := by
        have hj : x.fmod 8 = 0 ∨ x.fmod 8 = 1 ∨ x.fmod 8 = 2 ∨ x.fmod 8 = 3 ∨ x.fmod 8 = 4 ∨ x.fmod 8 = 5 ∨ x.fmod 8 = 6 ∨ x.fmod 8 = 7 := by rw [fmod_pos (by decide)]; omega
        rcases hj with z | z | z | z | z | z | z | z <;> rw [z] <;> exact ⟨_, rfl, by decide⟩
      refine FOR_cons ⟨cd_lit (by decide), pow_ok (by decide), (show ((10 : Int) ^ (30 : Int).toNat) ≠ 0 by decide), sl_le 8 rfl (by decide), (show (8 : Int) ≠ 0 by decide), onS_of hy ⟨IntMulOk.of_right y6, ?_⟩⟩
      show b_law_sizes_L1_1 (loopS (FOR (gN 4) b_law_sizes_L1 (cs'.map D.int)) (thenS b_law_sizes_3 (finD Φ))) [.val (.int n), .val (.lst (cs.map .int)), .own (ss.map .int), .val (.int left), .val (.int x), .val (.int ((1 + (x.fdiv 8).fmod ((10 : Int) ^ (30 : Int).toNat)) * y)), s6, .un]
      generalize (1 + (x.fdiv 8).fmod ((10 : Int) ^ (30 : Int).toNat)) * y = dr
      refine ⟨sl_le 2 rfl (by decide), rfl, [left, dr], .inl rfl, ?_⟩
      have gp := gcdL_pos (ns := [left, dr]) (x := left) (by simp) (by omega)
      have gd : gcdL [left, dr] ∣ left := gcdL_dvd (by simp)
      generalize gcdL [left, dr] = g at *
      have eg := Int.mul_fdiv_cancel' gd
      have bg : Bd 1000 g := Nat.lt_of_le_of_lt (Nat.le_of_dvd (by omega) (Int.natAbs_dvd_natAbs.mpr gd)) bl
      have dl : left.fdiv g ∣ left := ⟨g, by rw [Int.mul_comm]; exact eg.symm⟩
      have lp : 0 < left.fdiv g := by
        rcases Int.lt_or_le 0 (left.fdiv g) with z | z
        · exact z
        · have := Int.mul_nonpos_of_nonneg_of_nonpos (Int.le_of_lt gp) z
          omega
      refine ⟨?_, ?_⟩
      · rw [List.length_map]; exact small1000 (by omega)
      refine ⟨cd_of (by omega) bg (by decide), ?_⟩
      have ea : ss.map D.int ++ [D.int g] = (ss ++ [g]).map D.int := by rw [List.map_append]; rfl
      show FOR (gN 4) b_law_sizes_L1 (cs'.map D.int) (thenS b_law_sizes_3 (finD Φ)) [.val (.int n), .val (.lst (cs.map .int)), .own (ss.map D.int ++ [D.int g]), .val (.int (left.fdiv g)), .val (.int x), .val (.int dr), .val (.int g), .un]
      rw [ea]
      refine ih (ss ++ [g]) (left.fdiv g) _ _ _ (by simp; omega) (fun z hz => ?_) lp (Nat.lt_of_le_of_lt (Nat.le_of_dvd (by omega) (Int.natAbs_dvd_natAbs.mpr dl)) bl) ?_
      · rcases List.mem_append.mp hz with w | w
        · exact h1 z w
        · have : z = g := by simpa using w
          omega
      · have e1 : prd [g] = g := by show 1 * g = g; omega
        rw [prd_append, e1, Int.mul_assoc, eg, e]
  exact loop cs [] n .un .un .un (by simp) (fun _ h => by cases h) n0 bn (by show 1 * n = n; omega)
theorem ok_law_sizes {P : Program} {w : World} {K : PySem.W.Frag} {mg : Str → Option Value} {base : Heap} {t : Ad} (T : Txt K mg t) : FnOk P w K mg base CX0 2 t.a_law_sizes t.d_law_sizes ["bottom", "cells"] (spD K 2 C_law_sizes) := by
  have sc := sc_law_sizes
  refine fn_ok (k := 1) T.F_law_sizes sc_law_sizes (fun cdv A outer s H E hr => ⟨b_law_sizes, (psd_cons (psd_own (i := 2) sc.nd rfl (loc_of rfl) (pf_lst pad_nil))
  (psd_cons (psd_set (i := 3) sc.nd rfl (loc_of rfl) (pd_var (pv 0)))
  (psd_cons (psd_for PassesOwn.never rfl (pid_seq (pd_var (pv 1))) (pgd_name (i := 4) sc.nd rfl (loc_of rfl))
  (psd_cons (psd_set (i := 5) sc.nd rfl (loc_of rfl) (pd_op o_mul (pd_op o_add pd_int (pd_op o_mod (pd_op o_fdiv (pd_var (pv 4)) pd_int) (pd_op o_pow pd_int pd_int))) (pd_ix (pd_new (pf_lst (pad_cons pd_int (pad_cons pd_int (pad_cons pd_int (pad_cons pd_int (pad_cons pd_int (pad_cons pd_int (pad_cons pd_int (pad_cons pd_int pad_nil)))))))))) (pd_op o_mod (pd_var (pv 4)) pd_int) (fun _ _ => rfl))))
  (psd_cons (psd_set (i := 6) sc.nd rfl (loc_of rfl) (pd_call (ok_law_divisor T) mono_law_divisor (hr.mono (by decide)) rfl T.m_law_divisor T.F_law_divisor.kp T.b_law_divisor (pad_cons (pd_new (pf_lst (pad_cons (pd_var (pv 3)) (pad_cons (pd_var (pv 5)) pad_nil)))) pad_nil)))
  (psd_cons (psd_append (pv 2) (pd_var (pv 6)))
  (psd_one (psd_set (i := 3) sc.nd rfl (loc_of rfl) (pd_op o_fdiv (pd_var (pv 3)) (pd_var (pv 6)))))))))
  (psd_freeze 2 (psd_cons (psd_set (i := 7) sc.nd rfl (loc_of rfl) pd_int)
  (psd_cons (psd_if (pb_cmp o_gt (pd_callB b_len rfl T.z_len bt_len (pad_cons (pd_var (pv 1)) pad_nil)) pd_int (nomark _))
  (psd_one (psd_set (i := 7) sc.nd rfl (loc_of rfl) (pd_op o_mod (pd_op o_fdiv (pd_ix (pd_var (pv 1)) pd_int (fun _ _ => rfl)) pd_int) (pd_op o_add (pd_callB b_len rfl T.z_len bt_len (pad_cons (pd_var (pv 2)) pad_nil)) pd_int))))
  psd_nil)
  (psd_one (psd_ret (pd_new (pf_cat (pd_new (pf_cat (pd_new (pf_slice (pd_var (pv 2)) pod_none (pod_some (pd_var (pv 7))))) (pd_new (pf_lst (pad_cons (pd_var (pv 3)) pad_nil))))) (pd_new (pf_slice (pd_var (pv 2)) (pod_some (pd_var (pv 7))) pod_none)))))))))))), rd_law_sizes⟩)
noncomputable def C_is_product : Con := fun ds Φ => ∃ (n : Int) (ns : List Int), ds = [.int n, .lst (ns.map .int)] ∧ ns.length ≤ 200 ∧ (∀ x ∈ ns, Bd 4000 x) ∧ Φ (.bl (decide (Parts n ns)))
theorem mono_is_product : Mono C_is_product := fun ds Φ Ψ mo h0 => by
  obtain ⟨n, ns, a, b, c, h⟩ := h0
  exact ⟨n, ns, a, b, c, mo _ h⟩
noncomputable def b_is_product_L1_1 : S3 :=
  (sSet 2 (dOp (dI IntMulOk fun i j => .int (i * j)) (dVar 2) (dVar 3)))
noncomputable abbrev b_is_product_L1 : S3 :=
  (sSeq (sIf (dT (dOp (dI0 fun i j => .bl (decide (i < j))) (dVar 3) (dC (.int 1))))
  (sRet (dC (.bl false)))
  sNext)
  b_is_product_L1_1)
noncomputable def b_is_product_2 : S3 :=
  (sRet (dOp dEq (dVar 2) (dVar 0)))
noncomputable def b_is_product_1 : S3 :=
  (sSeq (sFor (iLT (dVar 1)) (gN 3)
  b_is_product_L1)
  b_is_product_2)
noncomputable abbrev b_is_product : S3 :=
  (sSeq (sSet 2 (dC (.int 1)))
  b_is_product_1)
theorem rd_is_product : ∀ (ds : List D) (Φ : D → Prop), ds.length = 2 → C_is_product ds Φ → b_is_product (finD Φ) (startD 4 ds) := by
  rintro ds Φ hl ⟨n, ns, rfl, hn, bn, h⟩
  have loop : ∀ (ms : List Int) (a : Int) (j : Nat) (s : Sl), j + ms.length ≤ 200 → Bd (4000 * j + 1) a → (∀ x ∈ ms, Bd 4000 x) → Φ (.bl (decide ((∀ x ∈ ms, 1 ≤ x) ∧ ms.foldl (· * ·) a = n))) → FOR (gN 3) b_is_product_L1 (ms.map D.int) (thenS b_is_product_2 (finD Φ)) [.val (.int n), .val (.lst (ns.map .int)), .val (.int a), s] := by
    intro ms
    induction ms with
    | nil =>
      intro a j s hj ba bm hΦ
      have e : decide ((∀ x ∈ ([] : List Int), 1 ≤ x) ∧ a = n) = decide (a = n) := by congr 1; simp
      have hΦ : Φ (.bl (decide ((∀ x ∈ ([] : List Int), 1 ≤ x) ∧ a = n))) := hΦ
      rw [e] at hΦ
      exact hΦ
    | cons x ms ih =>
      intro a j s hj ba bm hΦ
      simp only [List.length_cons] at hj
      refine FOR_cons (tst (fun hc => ?_) (fun hc => ?_))
      · have hc : x < 1 := of_decide_eq_true hc
        have e : decide ((∀ y ∈ x :: ms, 1 ≤ y) ∧ (x :: ms).foldl (· * ·) a = n) = false := decide_eq_false fun z => by have := z.1 x (by simp); omega
        rw [e] at hΦ
        exact hΦ
      · have hc : ¬ x < 1 := of_decide_eq_false hc
        have bx := bm x (by simp)
        refine ⟨mulOk ba bx (by omega), ?_⟩
        refine ih (a * x) (j + 1) _ (by omega) ((ba.mul bx).mono (by omega)) (fun y hy => bm y (by simp [hy])) ?_
        have e : decide ((∀ y ∈ x :: ms, 1 ≤ y) ∧ (x :: ms).foldl (· * ·) a = n) = decide ((∀ y ∈ ms, 1 ≤ y) ∧ ms.foldl (· * ·) (a * x) = n) := by
          congr 1
          simp only [List.mem_cons, List.foldl_cons, eq_iff_iff]
          exact ⟨fun ⟨z, w⟩ => ⟨fun y hy => z y (.inr hy), w⟩, fun ⟨z, w⟩ => ⟨fun y hy => hy.elim (fun e => by omega) (z y), w⟩⟩
        rw [e] at hΦ
        exact hΦ
  exact loop ns 1 0 .un (by omega) (bd_lit (by decide)) bn h
theorem ok_is_product {P : Program} {w : World} {K : PySem.W.Frag} {mg : Str → Option Value} {base : Heap} {t : Ad} (T : Txt K mg t) : FnOk P w K mg base CX0 1 t.a_is_product t.d_is_product ["n", "sizes"] (spD K 2 C_is_product) := by
  have sc := sc_is_product
  refine fn_ok (k := 0) T.F_is_product sc_is_product (fun cdv A outer s H E hr => ⟨b_is_product, (psd_cons (psd_set (i := 2) sc.nd rfl (loc_of rfl) pd_int)
  (psd_cons (psd_for PassesOwn.never rfl (pid_seq (pd_var (pv 1))) (pgd_name (i := 3) sc.nd rfl (loc_of rfl))
  (psd_cons (psd_if (pb_cmp o_lt (pd_var (pv 3)) pd_int (nomark _))
  (psd_one (psd_ret pd_bl))
  psd_nil)
  (psd_one (psd_set (i := 2) sc.nd rfl (loc_of rfl) (pd_op o_mul (pd_var (pv 2)) (pd_var (pv 3)))))))
  (psd_one (psd_ret (pd_cmp o_eq (pd_var (pv 2)) (pd_var (pv 0)) (nomark _)))))), rd_is_product⟩)
noncomputable def C_row_over : Con := fun ds Φ => ∃ (ms : List Int) (n : Int) (k : Nat), ds = [.tup (ms.map .int), .int n] ∧ ms.length ≤ 100 ∧ n ≠ 0 ∧ k ≤ 9000 ∧ Bd k n ∧ Φ (.tup ((ms.map (·.fdiv n)).map .int))
theorem mono_row_over : Mono C_row_over := fun ds Φ Ψ mo h0 => by
  obtain ⟨ms, n, k, a, b, c, d, e, h⟩ := h0
  exact ⟨ms, n, k, a, b, c, d, e, mo _ h⟩
theorem over_loop {Φ : List D → Prop} {n : Int} {k : Nat} {d0 : D} (hn : n ≠ 0) (hk : k ≤ 9000) (bn : Bd k n) : ∀ (ms : List Int) (acc : List D), acc.length + ms.length ≤ 1000 → Φ (acc ++ (ms.map (·.fdiv n)).map .int) →
    COMP (gN 0) (fun _ Φ => Φ true) (dOp (dI CD fun i j => .int (i.fdiv j)) (dVar 0) (dVar 2)) [.un, .val d0, .val (.int n)] (ms.map .int) acc Φ
  | [], acc, _, h => by rw [List.map_nil, List.map_nil, List.append_nil] at h; exact h
  | m :: ms, acc, hl, h => by
    refine ⟨cd_of hn bn hk, small1000 (by simp only [List.length_cons] at hl; omega), ?_⟩
    refine over_loop hn hk bn ms (acc ++ [.int (m.fdiv n)]) (by simp only [List.length_cons, List.length_append, List.length_nil] at hl ⊢; omega) ?_
    rw [List.append_assoc, List.singleton_append]
    exact h
noncomputable abbrev b_row_over : S3 :=
  (sRet (dB cTuple (aCons (dF (fComp 1 (iLT (dVar 0)) (gN 0) (fun _ Φ => Φ true) (dOp (dI CD fun i j => .int (i.fdiv j)) (dVar 0) (dVar 2)))) aNil)))
theorem rd_row_over : ∀ (ds : List D) (Φ : D → Prop), ds.length = 2 → C_row_over ds Φ → b_row_over (finD Φ) (startD 2 ds) := by
  rintro ds Φ hl ⟨ms, n, k, rfl, hm, hn, hk, bn, h⟩
  exact over_loop hn hk bn ms [] (by simp only [List.length_nil]; omega) h
theorem ok_row_over {P : Program} {w : World} {K : PySem.W.Frag} {mg : Str → Option Value} {base : Heap} {t : Ad} (T : Txt K mg t) : FnOk P w K mg base CX0 1 t.a_row_over t.d_row_over ["row", "n"] (spD K 2 C_row_over) := by
  have sc := sc_row_over
  refine fn_ok (k := 0) T.F_row_over sc_row_over (fun cdv A outer s H E hr => ⟨b_row_over, (psd_one (psd_ret (pd_callTy b_tuple rfl T.z_tuple bt_tuple (pad_cons (pd_new (pf_comp (xs := ["number"]) (M := ["row", "n"]) (n := 1) (by rfl) rfl rfl (pid_seq (pd_var (pv 0))) (fun _ _ _ _ => (pgn_name (i := 0) (by decide) (show List.Nodup (["number", "row", "n"] : List Str) by decide +kernel) rfl (by first | exact Or.inl rfl | exact Or.inr rfl))) (fun _ _ _ _ => pbs_nil) (fun _ _ _ _ => (pd_op o_fdiv (pd_var (pv 0)) (pd_var (pv 2)))))) pad_nil)))), rd_row_over⟩)
noncomputable def C_product : Con := fun ds Φ => ∃ (p q : Q4) (k : Nat), ds = [qd p, qd q] ∧ k ≤ 60000000 ∧ Bq k p ∧ Bq k q ∧ Φ (qd (qmul p q))
theorem mono_product : Mono C_product := fun ds Φ Ψ mo h0 => by
  obtain ⟨p, q, k, a, b, c, d, h⟩ := h0
  exact ⟨p, q, k, a, b, c, d, mo _ h⟩
noncomputable abbrev b_product : S3 :=
  (sRet (dTup (aCons (dOp (dI0 fun i j => .int (i - j)) (dOp (dI0 fun i j => .int (i - j)) (dOp (dI0 fun i j => .int (i - j)) (dOp (dI IntMulOk fun i j => .int (i * j)) (dOp dIx (dVar 0) (dC (.int 0))) (dOp dIx (dVar 1) (dC (.int 0)))) (dOp (dI IntMulOk fun i j => .int (i * j)) (dOp dIx (dVar 0) (dC (.int 1))) (dOp dIx (dVar 1) (dC (.int 1))))) (dOp (dI IntMulOk fun i j => .int (i * j)) (dOp dIx (dVar 0) (dC (.int 2))) (dOp dIx (dVar 1) (dC (.int 2))))) (dOp (dI IntMulOk fun i j => .int (i * j)) (dOp dIx (dVar 0) (dC (.int 3))) (dOp dIx (dVar 1) (dC (.int 3))))) (aCons (dOp (dI0 fun i j => .int (i - j)) (dOp (dI0 fun i j => .int (i + j)) (dOp (dI0 fun i j => .int (i + j)) (dOp (dI IntMulOk fun i j => .int (i * j)) (dOp dIx (dVar 0) (dC (.int 0))) (dOp dIx (dVar 1) (dC (.int 1)))) (dOp (dI IntMulOk fun i j => .int (i * j)) (dOp dIx (dVar 0) (dC (.int 1))) (dOp dIx (dVar 1) (dC (.int 0))))) (dOp (dI IntMulOk fun i j => .int (i * j)) (dOp dIx (dVar 0) (dC (.int 2))) (dOp dIx (dVar 1) (dC (.int 3))))) (dOp (dI IntMulOk fun i j => .int (i * j)) (dOp dIx (dVar 0) (dC (.int 3))) (dOp dIx (dVar 1) (dC (.int 2))))) (aCons (dOp (dI0 fun i j => .int (i + j)) (dOp (dI0 fun i j => .int (i + j)) (dOp (dI0 fun i j => .int (i - j)) (dOp (dI IntMulOk fun i j => .int (i * j)) (dOp dIx (dVar 0) (dC (.int 0))) (dOp dIx (dVar 1) (dC (.int 2)))) (dOp (dI IntMulOk fun i j => .int (i * j)) (dOp dIx (dVar 0) (dC (.int 1))) (dOp dIx (dVar 1) (dC (.int 3))))) (dOp (dI IntMulOk fun i j => .int (i * j)) (dOp dIx (dVar 0) (dC (.int 2))) (dOp dIx (dVar 1) (dC (.int 0))))) (dOp (dI IntMulOk fun i j => .int (i * j)) (dOp dIx (dVar 0) (dC (.int 3))) (dOp dIx (dVar 1) (dC (.int 1))))) (aCons (dOp (dI0 fun i j => .int (i + j)) (dOp (dI0 fun i j => .int (i - j)) (dOp (dI0 fun i j => .int (i + j)) (dOp (dI IntMulOk fun i j => .int (i * j)) (dOp dIx (dVar 0) (dC (.int 0))) (dOp dIx (dVar 1) (dC (.int 3)))) (dOp (dI IntMulOk fun i j => .int (i * j)) (dOp dIx (dVar 0) (dC (.int 1))) (dOp dIx (dVar 1) (dC (.int 2))))) (dOp (dI IntMulOk fun i j => .int (i * j)) (dOp dIx (dVar 0) (dC (.int 2))) (dOp dIx (dVar 1) (dC (.int 1))))) (dOp (dI IntMulOk fun i j => .int (i * j)) (dOp dIx (dVar 0) (dC (.int 3))) (dOp dIx (dVar 1) (dC (.int 0))))) aNil))))))
theorem rd_product : ∀ (ds : List D) (Φ : D → Prop), ds.length = 2 → C_product ds Φ → b_product (finD Φ) (startD 2 ds) := by
  rintro ds Φ hl ⟨p, q, k, rfl, hk, hp, hq, h⟩
  have mk : ∀ {x y : Int}, Bd k x → Bd k y → IntMulOk x y := fun hx hy => mulOk hx hy (by omega)
  exact ⟨mk hp.a hq.a, mk hp.b hq.b, mk hp.c hq.c, mk hp.d hq.d, mk hp.a hq.b, mk hp.b hq.a, mk hp.c hq.d, mk hp.d hq.c, mk hp.a hq.c, mk hp.b hq.d, mk hp.c hq.a, mk hp.d hq.b, mk hp.a hq.d, mk hp.b hq.c, mk hp.c hq.b, mk hp.d hq.a, sl_le 4 rfl (by decide), h⟩
theorem ok_product {P : Program} {w : World} {K : PySem.W.Frag} {mg : Str → Option Value} {base : Heap} {t : Ad} (T : Txt K mg t) : FnOk P w K mg base CX0 1 t.a_product t.d_product ["one", "other"] (spD K 2 C_product) := by
  have sc := sc_product
  refine fn_ok (k := 0) T.F_product sc_product (fun cdv A outer s H E hr => ⟨b_product, (psd_one (psd_ret (pd_tup (pad_cons (pd_op o_sub (pd_op o_sub (pd_op o_sub (pd_op o_mul (pd_ix (pd_var (pv 0)) pd_int (fun _ _ => rfl)) (pd_ix (pd_var (pv 1)) pd_int (fun _ _ => rfl))) (pd_op o_mul (pd_ix (pd_var (pv 0)) pd_int (fun _ _ => rfl)) (pd_ix (pd_var (pv 1)) pd_int (fun _ _ => rfl)))) (pd_op o_mul (pd_ix (pd_var (pv 0)) pd_int (fun _ _ => rfl)) (pd_ix (pd_var (pv 1)) pd_int (fun _ _ => rfl)))) (pd_op o_mul (pd_ix (pd_var (pv 0)) pd_int (fun _ _ => rfl)) (pd_ix (pd_var (pv 1)) pd_int (fun _ _ => rfl)))) (pad_cons (pd_op o_sub (pd_op o_add (pd_op o_add (pd_op o_mul (pd_ix (pd_var (pv 0)) pd_int (fun _ _ => rfl)) (pd_ix (pd_var (pv 1)) pd_int (fun _ _ => rfl))) (pd_op o_mul (pd_ix (pd_var (pv 0)) pd_int (fun _ _ => rfl)) (pd_ix (pd_var (pv 1)) pd_int (fun _ _ => rfl)))) (pd_op o_mul (pd_ix (pd_var (pv 0)) pd_int (fun _ _ => rfl)) (pd_ix (pd_var (pv 1)) pd_int (fun _ _ => rfl)))) (pd_op o_mul (pd_ix (pd_var (pv 0)) pd_int (fun _ _ => rfl)) (pd_ix (pd_var (pv 1)) pd_int (fun _ _ => rfl)))) (pad_cons (pd_op o_add (pd_op o_add (pd_op o_sub (pd_op o_mul (pd_ix (pd_var (pv 0)) pd_int (fun _ _ => rfl)) (pd_ix (pd_var (pv 1)) pd_int (fun _ _ => rfl))) (pd_op o_mul (pd_ix (pd_var (pv 0)) pd_int (fun _ _ => rfl)) (pd_ix (pd_var (pv 1)) pd_int (fun _ _ => rfl)))) (pd_op o_mul (pd_ix (pd_var (pv 0)) pd_int (fun _ _ => rfl)) (pd_ix (pd_var (pv 1)) pd_int (fun _ _ => rfl)))) (pd_op o_mul (pd_ix (pd_var (pv 0)) pd_int (fun _ _ => rfl)) (pd_ix (pd_var (pv 1)) pd_int (fun _ _ => rfl)))) (pad_cons (pd_op o_add (pd_op o_sub (pd_op o_add (pd_op o_mul (pd_ix (pd_var (pv 0)) pd_int (fun _ _ => rfl)) (pd_ix (pd_var (pv 1)) pd_int (fun _ _ => rfl))) (pd_op o_mul (pd_ix (pd_var (pv 0)) pd_int (fun _ _ => rfl)) (pd_ix (pd_var (pv 1)) pd_int (fun _ _ => rfl)))) (pd_op o_mul (pd_ix (pd_var (pv 0)) pd_int (fun _ _ => rfl)) (pd_ix (pd_var (pv 1)) pd_int (fun _ _ => rfl)))) (pd_op o_mul (pd_ix (pd_var (pv 0)) pd_int (fun _ _ => rfl)) (pd_ix (pd_var (pv 1)) pd_int (fun _ _ => rfl)))) pad_nil))))))), rd_product⟩)
noncomputable def C_stone_product : Con := fun ds Φ => ∃ (p q : Q4) (k : Nat), ds = [qd p, qd q] ∧ k ≤ 60000000 ∧ Bq k p ∧ Bq k q ∧ Φ (qd (smul p q))
theorem mono_stone_product : Mono C_stone_product := fun ds Φ Ψ mo h0 => by
  obtain ⟨p, q, k, a, b, c, d, h⟩ := h0
  exact ⟨p, q, k, a, b, c, d, mo _ h⟩
noncomputable abbrev b_stone_product : S3 :=
  (sRet (dCall 2 C_row_over (aCons (dCall 2 C_product (aCons (dVar 0) (aCons (dVar 1) aNil))) (aCons (dC (.int 2)) aNil))))
theorem rd_stone_product : ∀ (ds : List D) (Φ : D → Prop), ds.length = 2 → C_stone_product ds Φ → b_stone_product (finD Φ) (startD 2 ds) := by
  rintro ds Φ hl ⟨p, q, k, rfl, hk, hp, hq, h⟩
  exact ⟨rfl, p, q, k, rfl, hk, hp, hq, rfl, [(qmul p q).a, (qmul p q).b, (qmul p q).c, (qmul p q).d], 2, 2, rfl, (show 4 ≤ 100 by decide), by decide, by decide, bd_lit (by decide), h⟩
theorem ok_stone_product {P : Program} {w : World} {K : PySem.W.Frag} {mg : Str → Option Value} {base : Heap} {t : Ad} (T : Txt K mg t) : FnOk P w K mg base CX0 2 t.a_stone_product t.d_stone_product ["one", "other"] (spD K 2 C_stone_product) := by
  have sc := sc_stone_product
  refine fn_ok (k := 1) T.F_stone_product sc_stone_product (fun cdv A outer s H E hr => ⟨b_stone_product, (psd_one (psd_ret (pd_call (ok_row_over T) mono_row_over (hr.mono (by decide)) rfl T.m_row_over T.F_row_over.kp T.b_row_over (pad_cons (pd_call (ok_product T) mono_product (hr.mono (by decide)) rfl T.m_product T.F_product.kp T.b_product (pad_cons (pd_var (pv 0)) (pad_cons (pd_var (pv 1)) pad_nil))) (pad_cons pd_int pad_nil))))), rd_stone_product⟩)
noncomputable def C_row_mix : Con := fun ds Φ => (∃ (p q : P3) (t u : Int) (k : Nat), ds = [pt p, .int t, pt q, .int u] ∧ k ≤ 60000000 ∧ Bp k p ∧ Bp k q ∧ Bd k t ∧ Bd k u ∧ Φ (pt (mix3 t p u q))) ∨
  (∃ (p q : Q4) (t u : Int) (k : Nat), ds = [qd p, .int t, qd q, .int u] ∧ k ≤ 60000000 ∧ Bq k p ∧ Bq k q ∧ Bd k t ∧ Bd k u ∧ Φ (qd (mix4 t p u q)))
theorem mono_row_mix : Mono C_row_mix := fun ds Φ Ψ mo h => by
  rcases h with ⟨p, q, t, u, k, a, b, c, d, e, f, h⟩ | ⟨p, q, t, u, k, a, b, c, d, e, f, h⟩
  · exact .inl ⟨p, q, t, u, k, a, b, c, d, e, f, mo _ h⟩
  · exact .inr ⟨p, q, t, u, k, a, b, c, d, e, f, mo _ h⟩
noncomputable abbrev b_row_mix : S3 :=
  (sRet (dB cTuple (aCons (dF (fComp 1 (iR1 (aCons (dB cLen (aCons (dVar 0) aNil)) aNil)) (gN 0) (fun _ Φ => Φ true) (dOp (dI0 fun i j => .int (i + j)) (dOp (dI IntMulOk fun i j => .int (i * j)) (dVar 2) (dOp dIx (dVar 1) (dVar 0))) (dOp (dI IntMulOk fun i j => .int (i * j)) (dVar 4) (dOp dIx (dVar 3) (dVar 0)))))) aNil)))
theorem rd_row_mix : ∀ (ds : List D) (Φ : D → Prop), ds.length = 4 → C_row_mix ds Φ → b_row_mix (finD Φ) (startD 4 ds) := by
  rintro ds Φ hl (⟨p, q, t, u, k, rfl, hk, hp, hq, ht, hu, h⟩ | ⟨p, q, t, u, k, rfl, hk, hp, hq, ht, hu, h⟩)
  · have mk : ∀ {x y : Int}, Bd k x → Bd k y → IntMulOk x y := fun hx hy => mulOk hx hy (by omega)
    exact ⟨show (-(2 ^ 62) : Int) ≤ 3 by decide, show (3 : Int) < 2 ^ 62 by decide, mk ht hp.x, mk hu hq.x, sl_lt 0 rfl (by decide), mk ht hp.y, mk hu hq.y, sl_lt 1 rfl (by decide), mk ht hp.z, mk hu hq.z, sl_lt 2 rfl (by decide), h⟩
  · have mk : ∀ {x y : Int}, Bd k x → Bd k y → IntMulOk x y := fun hx hy => mulOk hx hy (by omega)
    exact ⟨show (-(2 ^ 62) : Int) ≤ 4 by decide, show (4 : Int) < 2 ^ 62 by decide, mk ht hp.a, mk hu hq.a, sl_lt 0 rfl (by decide), mk ht hp.b, mk hu hq.b, sl_lt 1 rfl (by decide), mk ht hp.c, mk hu hq.c, sl_lt 2 rfl (by decide), mk ht hp.d, mk hu hq.d, sl_lt 3 rfl (by decide), h⟩
theorem ok_row_mix {P : Program} {w : World} {K : PySem.W.Frag} {mg : Str → Option Value} {base : Heap} {t : Ad} (T : Txt K mg t) : FnOk P w K mg base CX0 1 t.a_row_mix t.d_row_mix ["one", "times", "other", "times_too"] (spD K 4 C_row_mix) := by
  have sc := sc_row_mix
  refine fn_ok (k := 0) T.F_row_mix sc_row_mix (fun cdv A outer s H E hr => ⟨b_row_mix, (psd_one (psd_ret (pd_callTy b_tuple rfl T.z_tuple bt_tuple (pad_cons (pd_new (pf_comp (xs := ["place"]) (M := ["one", "times", "other", "times_too"]) (n := 1) (by rfl) rfl rfl (pid_range1 rfl T.z_range (pad_cons (pd_callB b_len rfl T.z_len bt_len (pad_cons (pd_var (pv 0)) pad_nil)) pad_nil)) (fun _ _ _ _ => (pgn_name (i := 0) (by decide) (show List.Nodup (["place", "one", "times", "other", "times_too"] : List Str) by decide +kernel) rfl (by first | exact Or.inl rfl | exact Or.inr rfl))) (fun _ _ _ _ => pbs_nil) (fun _ _ _ _ => (pd_op o_add (pd_op o_mul (pd_var (pv 2)) (pd_ix (pd_var (pv 1)) (pd_var (pv 0)) (fun _ _ => rfl))) (pd_op o_mul (pd_var (pv 4)) (pd_ix (pd_var (pv 3)) (pd_var (pv 0)) (fun _ _ => rfl))))))) pad_nil)))), rd_row_mix⟩)
noncomputable def C_row_less : Con := fun ds Φ => (∃ (p q : P3) (t : Int) (k : Nat), ds = [pt p, pt q, .int t] ∧ 1 ≤ k ∧ k ≤ 60000000 ∧ Bp k p ∧ Bp k q ∧ Bd k t ∧ Φ (pt (mix3 1 p (-t) q))) ∨
  (∃ (p q : Q4) (t : Int) (k : Nat), ds = [qd p, qd q, .int t] ∧ 1 ≤ k ∧ k ≤ 60000000 ∧ Bq k p ∧ Bq k q ∧ Bd k t ∧ Φ (qd (mix4 1 p (-t) q)))
theorem mono_row_less : Mono C_row_less := fun ds Φ Ψ mo h => by
  rcases h with ⟨p, q, t, k, a, b, c, d, e, f, h⟩ | ⟨p, q, t, k, a, b, c, d, e, f, h⟩
  · exact .inl ⟨p, q, t, k, a, b, c, d, e, f, mo _ h⟩
  · exact .inr ⟨p, q, t, k, a, b, c, d, e, f, mo _ h⟩
theorem bd1 {k : Nat} (h : 1 ≤ k) : Bd k 1 := (show Bd 1 1 from bd_lit (by decide)).mono h
noncomputable abbrev b_row_less : S3 :=
  (sRet (dCall 4 C_row_mix (aCons (dVar 0) (aCons (dC (.int 1)) (aCons (dVar 1) (aCons (dU dNeg (dVar 2)) aNil))))))
theorem rd_row_less : ∀ (ds : List D) (Φ : D → Prop), ds.length = 3 → C_row_less ds Φ → b_row_less (finD Φ) (startD 3 ds) := by
  rintro ds Φ hl (⟨p, q, t, k, rfl, h1, hk, hp, hq, ht, h⟩ | ⟨p, q, t, k, rfl, h1, hk, hp, hq, ht, h⟩)
  · exact ⟨rfl, .inl ⟨p, q, 1, -t, k, rfl, hk, hp, hq, bd1 h1, ht.neg, h⟩⟩
  · exact ⟨rfl, .inr ⟨p, q, 1, -t, k, rfl, hk, hp, hq, bd1 h1, ht.neg, h⟩⟩
theorem ok_row_less {P : Program} {w : World} {K : PySem.W.Frag} {mg : Str → Option Value} {base : Heap} {t : Ad} (T : Txt K mg t) : FnOk P w K mg base CX0 2 t.a_row_less t.d_row_less ["row", "taken", "times"] (spD K 3 C_row_less) := by
  have sc := sc_row_less
  refine fn_ok (k := 1) T.F_row_less sc_row_less (fun cdv A outer s H E hr => ⟨b_row_less, (psd_one (psd_ret (pd_call (ok_row_mix T) mono_row_mix (hr.mono (by decide)) rfl T.m_row_mix T.F_row_mix.kp T.b_row_mix (pad_cons (pd_var (pv 0)) (pad_cons pd_int (pad_cons (pd_var (pv 1)) (pad_cons (pd_neg (pd_var (pv 2))) pad_nil))))))), rd_row_less⟩)
noncomputable def C_with_rest : Con := fun ds Φ => ∃ (x y k : Q4) (l : Nat), ds = [qd x, qd y, qd k] ∧ 1 ≤ l ∧ l ≤ 20000000 ∧ Bq l x ∧ Bq l y ∧ Bq l k ∧ Φ (.tup [qd k, qd (ssub x (smul y k))])
theorem mono_with_rest : Mono C_with_rest := fun ds Φ Ψ mo h0 => by
  obtain ⟨x, y, k, l, a, b, c, d, e, f, h⟩ := h0
  exact ⟨x, y, k, l, a, b, c, d, e, f, mo _ h⟩
noncomputable abbrev b_with_rest : S3 :=
  (sRet (dTup (aCons (dVar 2) (aCons (dCall 3 C_row_less (aCons (dVar 0) (aCons (dCall 2 C_stone_product (aCons (dVar 1) (aCons (dVar 2) aNil))) (aCons (dC (.int 1)) aNil)))) aNil))))
theorem rd_with_rest : ∀ (ds : List D) (Φ : D → Prop), ds.length = 3 → C_with_rest ds Φ → b_with_rest (finD Φ) (startD 3 ds) := by
  rintro ds Φ hl ⟨x, y, k, l, rfl, h1, h2, bx, by_, bk, h⟩
  have e1 : 1 ≤ 2 * l + 3 := Nat.le_trans (by decide) (Nat.le_add_left 3 _)
  have e2 : 2 * l + 3 ≤ 40000003 := Nat.add_le_add_right (Nat.mul_le_mul_left 2 h2) 3
  have e3 : l ≤ 2 * l + 3 := Nat.le_trans (Nat.le_mul_of_pos_left l (by decide)) (Nat.le_add_right _ 3)
  refine ⟨rfl, y, k, l, rfl, Nat.le_trans h2 (by decide), by_, bk, rfl, .inr ⟨x, smul y k, 1, 2 * l + 3, rfl, Nat.le_trans (by decide) (Nat.le_add_left 3 _), Nat.le_trans e2 (by decide), bx.mono e3, (by_.smul bk).mono (Nat.le_of_eq (by rw [Nat.two_mul])), bd1 e1, ?_⟩⟩
  rw [mix_sub]
  exact ⟨sl_le 2 rfl (by decide), h⟩
theorem ok_with_rest {P : Program} {w : World} {K : PySem.W.Frag} {mg : Str → Option Value} {base : Heap} {t : Ad} (T : Txt K mg t) : FnOk P w K mg base CX0 3 t.a_with_rest t.d_with_rest ["x", "y", "k"] (spD K 3 C_with_rest) := by
  have sc := sc_with_rest
  refine fn_ok (k := 2) T.F_with_rest sc_with_rest (fun cdv A outer s H E hr => ⟨b_with_rest, (psd_one (psd_ret (pd_tup (pad_cons (pd_var (pv 2)) (pad_cons (pd_call (ok_row_less T) mono_row_less (hr.mono (by decide)) rfl T.m_row_less T.F_row_less.kp T.b_row_less (pad_cons (pd_var (pv 0)) (pad_cons (pd_call (ok_stone_product T) mono_stone_product (hr.mono (by decide)) rfl T.m_stone_product T.F_stone_product.kp T.b_stone_product (pad_cons (pd_var (pv 1)) (pad_cons (pd_var (pv 2)) pad_nil))) (pad_cons pd_int pad_nil)))) pad_nil))))), rd_with_rest⟩)
noncomputable def C_mirrored : Con := fun ds Φ => ∃ (q : Q4), ds = [qd q] ∧ Φ (qd (qbar q))
theorem mono_mirrored : Mono C_mirrored := fun ds Φ Ψ mo h0 => by
  obtain ⟨q, a, h⟩ := h0
  exact ⟨q, a, mo _ h⟩
noncomputable abbrev b_mirrored : S3 :=
  (sRet (dTup (aCons (dOp dIx (dVar 0) (dC (.int 0))) (aCons (dU dNeg (dOp dIx (dVar 0) (dC (.int 1)))) (aCons (dU dNeg (dOp dIx (dVar 0) (dC (.int 2)))) (aCons (dU dNeg (dOp dIx (dVar 0) (dC (.int 3)))) aNil))))))
theorem rd_mirrored : ∀ (ds : List D) (Φ : D → Prop), ds.length = 1 → C_mirrored ds Φ → b_mirrored (finD Φ) (startD 1 ds) := by
  rintro ds Φ hl ⟨q, rfl, h⟩
  exact ⟨sl_le 4 rfl (by decide), h⟩
theorem ok_mirrored {P : Program} {w : World} {K : PySem.W.Frag} {mg : Str → Option Value} {base : Heap} {t : Ad} (T : Txt K mg t) : FnOk P w K mg base CX0 1 t.a_mirrored t.d_mirrored ["quad"] (spD K 1 C_mirrored) := by
  have sc := sc_mirrored
  refine fn_ok (k := 0) T.F_mirrored sc_mirrored (fun cdv A outer s H E hr => ⟨b_mirrored, (psd_one (psd_ret (pd_tup (pad_cons (pd_ix (pd_var (pv 0)) pd_int (fun _ _ => rfl)) (pad_cons (pd_neg (pd_ix (pd_var (pv 0)) pd_int (fun _ _ => rfl))) (pad_cons (pd_neg (pd_ix (pd_var (pv 0)) pd_int (fun _ _ => rfl))) (pad_cons (pd_neg (pd_ix (pd_var (pv 0)) pd_int (fun _ _ => rfl))) pad_nil))))))), rd_mirrored⟩)
noncomputable def C_even_stone_near : Con := fun ds Φ => ∃ (q : Q4) (w : Int) (k : Nat), ds = [qd q, .int w] ∧ 0 < w ∧ k ≤ 8000 ∧ Bd k w ∧ Φ (qd (evnQ q w))
theorem mono_even_stone_near : Mono C_even_stone_near := fun ds Φ Ψ mo h0 => by
  obtain ⟨q, w, k, a, b, c, d, h⟩ := h0
  exact ⟨q, w, k, a, b, c, d, mo _ h⟩
noncomputable abbrev b_even_stone_near : S3 :=
  (sRet (dB cTuple (aCons (dF (fComp 1 (iLT (dVar 0)) (gN 0) (fun _ Φ => Φ true) (dOp (dI IntMulOk fun i j => .int (i * j)) (dC (.int 2)) (dOp (dI CD fun i j => .int (i.fdiv j)) (dOp (dI0 fun i j => .int (i + j)) (dVar 0) (dVar 2)) (dOp (dI IntMulOk fun i j => .int (i * j)) (dC (.int 2)) (dVar 2)))))) aNil)))
theorem rd_even_stone_near : ∀ (ds : List D) (Φ : D → Prop), ds.length = 2 → C_even_stone_near ds Φ → b_even_stone_near (finD Φ) (startD 2 ds) := by
  rintro ds Φ hl ⟨q, w, k, rfl, hw, hk, bw, h⟩
  have m2 : ∀ {x : Int}, IntMulOk 2 x := IntMulOk.of_left (by decide)
  have cd : ∀ {x : Int}, CD x (2 * w) := cd_of (by omega) (bd_two' bw) (by omega)
  exact ⟨m2, cd, m2, sl_lt 0 rfl (by decide), m2, cd, m2, sl_lt 1 rfl (by decide), m2, cd, m2, sl_lt 2 rfl (by decide), m2, cd, m2, sl_lt 3 rfl (by decide), h⟩
theorem ok_even_stone_near {P : Program} {w : World} {K : PySem.W.Frag} {mg : Str → Option Value} {base : Heap} {t : Ad} (T : Txt K mg t) : FnOk P w K mg base CX0 1 t.a_even_stone_near t.d_even_stone_near ["aim", "bottom"] (spD K 2 C_even_stone_near) := by
  have sc := sc_even_stone_near
  refine fn_ok (k := 0) T.F_even_stone_near sc_even_stone_near (fun cdv A outer s H E hr => ⟨b_even_stone_near, (psd_one (psd_ret (pd_callTy b_tuple rfl T.z_tuple bt_tuple (pad_cons (pd_new (pf_comp (xs := ["number"]) (M := ["aim", "bottom"]) (n := 1) (by rfl) rfl rfl (pid_seq (pd_var (pv 0))) (fun _ _ _ _ => (pgn_name (i := 0) (by decide) (show List.Nodup (["number", "aim", "bottom"] : List Str) by decide +kernel) rfl (by first | exact Or.inl rfl | exact Or.inr rfl))) (fun _ _ _ _ => pbs_nil) (fun _ _ _ _ => (pd_op o_mul pd_int (pd_op o_fdiv (pd_op o_add (pd_var (pv 0)) (pd_var (pv 2))) (pd_op o_mul pd_int (pd_var (pv 2)))))))) pad_nil)))), rd_even_stone_near⟩)
noncomputable def C_odd_stone_near : Con := fun ds Φ => ∃ (q : Q4) (w : Int) (k : Nat), ds = [qd q, .int w] ∧ 0 < w ∧ k ≤ 8000 ∧ Bd k w ∧ Φ (qd (odnQ q w))
theorem mono_odd_stone_near : Mono C_odd_stone_near := fun ds Φ Ψ mo h0 => by
  obtain ⟨q, w, k, a, b, c, d, h⟩ := h0
  exact ⟨q, w, k, a, b, c, d, mo _ h⟩
noncomputable abbrev b_odd_stone_near : S3 :=
  (sRet (dB cTuple (aCons (dF (fComp 1 (iLT (dVar 0)) (gN 0) (fun _ Φ => Φ true) (dOp (dI0 fun i j => .int (i + j)) (dOp (dI IntMulOk fun i j => .int (i * j)) (dC (.int 2)) (dOp (dI CD fun i j => .int (i.fdiv j)) (dVar 0) (dOp (dI IntMulOk fun i j => .int (i * j)) (dC (.int 2)) (dVar 2)))) (dC (.int 1))))) aNil)))
theorem rd_odd_stone_near : ∀ (ds : List D) (Φ : D → Prop), ds.length = 2 → C_odd_stone_near ds Φ → b_odd_stone_near (finD Φ) (startD 2 ds) := by
  rintro ds Φ hl ⟨q, w, k, rfl, hw, hk, bw, h⟩
  have m2 : ∀ {x : Int}, IntMulOk 2 x := IntMulOk.of_left (by decide)
  have cd : ∀ {x : Int}, CD x (2 * w) := cd_of (by omega) (bd_two' bw) (by omega)
  exact ⟨m2, cd, m2, sl_lt 0 rfl (by decide), m2, cd, m2, sl_lt 1 rfl (by decide), m2, cd, m2, sl_lt 2 rfl (by decide), m2, cd, m2, sl_lt 3 rfl (by decide), h⟩
theorem ok_odd_stone_near {P : Program} {w : World} {K : PySem.W.Frag} {mg : Str → Option Value} {base : Heap} {t : Ad} (T : Txt K mg t) : FnOk P w K mg base CX0 1 t.a_odd_stone_near t.d_odd_stone_near ["aim", "bottom"] (spD K 2 C_odd_stone_near) := by
  have sc := sc_odd_stone_near
  refine fn_ok (k := 0) T.F_odd_stone_near sc_odd_stone_near (fun cdv A outer s H E hr => ⟨b_odd_stone_near, (psd_one (psd_ret (pd_callTy b_tuple rfl T.z_tuple bt_tuple (pad_cons (pd_new (pf_comp (xs := ["number"]) (M := ["aim", "bottom"]) (n := 1) (by rfl) rfl rfl (pid_seq (pd_var (pv 0))) (fun _ _ _ _ => (pgn_name (i := 0) (by decide) (show List.Nodup (["number", "aim", "bottom"] : List Str) by decide +kernel) rfl (by first | exact Or.inl rfl | exact Or.inr rfl))) (fun _ _ _ _ => pbs_nil) (fun _ _ _ _ => (pd_op o_add (pd_op o_mul pd_int (pd_op o_fdiv (pd_var (pv 0)) (pd_op o_mul pd_int (pd_var (pv 2))))) pd_int)))) pad_nil)))), rd_odd_stone_near⟩)
noncomputable def dot3 (p q : P3) : Int := p.x * q.x + p.y * q.y + p.z * q.z
noncomputable def dot4 (p q : Q4) : Int := p.a * q.a + p.b * q.b + p.c * q.c + p.d * q.d
noncomputable def C_row_times : Con := fun ds Φ => (∃ (p q : P3) (k : Nat), ds = [pt p, pt q] ∧ k ≤ 60000000 ∧ Bp k p ∧ Bp k q ∧ Φ (.int (dot3 p q))) ∨ (∃ (p q : Q4) (k : Nat), ds = [qd p, qd q] ∧ k ≤ 60000000 ∧ Bq k p ∧ Bq k q ∧ Φ (.int (dot4 p q)))
theorem mono_row_times : Mono C_row_times := fun ds Φ Ψ mo h => by
  rcases h with ⟨p, q, k, a, b, c, d, h⟩ | ⟨p, q, k, a, b, c, d, h⟩
  · exact .inl ⟨p, q, k, a, b, c, d, mo _ h⟩
  · exact .inr ⟨p, q, k, a, b, c, d, mo _ h⟩
noncomputable abbrev b_row_times : S3 :=
  (sRet (dB cSum (aCons (dF (fComp 1 (iR1 (aCons (dB cLen (aCons (dVar 0) aNil)) aNil)) (gN 0) (fun _ Φ => Φ true) (dOp (dI IntMulOk fun i j => .int (i * j)) (dOp dIx (dVar 1) (dVar 0)) (dOp dIx (dVar 2) (dVar 0))))) aNil)))
theorem rd_row_times : ∀ (ds : List D) (Φ : D → Prop), ds.length = 2 → C_row_times ds Φ → b_row_times (finD Φ) (startD 2 ds) := by
  rintro ds Φ hl (⟨p, q, k, rfl, hk, hp, hq, h⟩ | ⟨p, q, k, rfl, hk, hp, hq, h⟩)
  · have mk : ∀ {x y : Int}, Bd k x → Bd k y → IntMulOk x y := fun hx hy => mulOk hx hy (by omega)
    have e : [p.x * q.x, p.y * q.y, p.z * q.z].sum = dot3 p q := by simp only [List.sum_cons, List.sum_nil, dot3]; omega
    refine ⟨show (-(2 ^ 62) : Int) ≤ 3 by decide, show (3 : Int) < 2 ^ 62 by decide, mk hp.x hq.x, sl_lt 0 rfl (by decide), mk hp.y hq.y, sl_lt 1 rfl (by decide), mk hp.z hq.z, sl_lt 2 rfl (by decide), [p.x * q.x, p.y * q.y, p.z * q.z], rfl, ?_⟩
    rw [e]; exact h
  · have mk : ∀ {x y : Int}, Bd k x → Bd k y → IntMulOk x y := fun hx hy => mulOk hx hy (by omega)
    have e : [p.a * q.a, p.b * q.b, p.c * q.c, p.d * q.d].sum = dot4 p q := by simp only [List.sum_cons, List.sum_nil, dot4]; omega
    refine ⟨show (-(2 ^ 62) : Int) ≤ 4 by decide, show (4 : Int) < 2 ^ 62 by decide, mk hp.a hq.a, sl_lt 0 rfl (by decide), mk hp.b hq.b, sl_lt 1 rfl (by decide), mk hp.c hq.c, sl_lt 2 rfl (by decide), mk hp.d hq.d, sl_lt 3 rfl (by decide), [p.a * q.a, p.b * q.b, p.c * q.c, p.d * q.d], rfl, ?_⟩
    rw [e]; exact h
theorem ok_row_times {P : Program} {w : World} {K : PySem.W.Frag} {mg : Str → Option Value} {base : Heap} {t : Ad} (T : Txt K mg t) : FnOk P w K mg base CX0 1 t.a_row_times t.d_row_times ["one", "other"] (spD K 2 C_row_times) := by
  have sc := sc_row_times
  refine fn_ok (k := 0) T.F_row_times sc_row_times (fun cdv A outer s H E hr => ⟨b_row_times, (psd_one (psd_ret (pd_callB (b_sum rfl) rfl T.z_sum bt_sum (pad_cons (pd_new (pf_comp (xs := ["place"]) (M := ["one", "other"]) (n := 1) (by rfl) rfl rfl (pid_range1 rfl T.z_range (pad_cons (pd_callB b_len rfl T.z_len bt_len (pad_cons (pd_var (pv 0)) pad_nil)) pad_nil)) (fun _ _ _ _ => (pgn_name (i := 0) (by decide) (show List.Nodup (["place", "one", "other"] : List Str) by decide +kernel) rfl (by first | exact Or.inl rfl | exact Or.inr rfl))) (fun _ _ _ _ => pbs_nil) (fun _ _ _ _ => (pd_op o_mul (pd_ix (pd_var (pv 1)) (pd_var (pv 0)) (fun _ _ => rfl)) (pd_ix (pd_var (pv 2)) (pd_var (pv 0)) (fun _ _ => rfl)))))) pad_nil)))), rd_row_times⟩)
noncomputable def C_size : Con := fun ds Φ => ∃ (q : Q4) (k : Nat), ds = [qd q] ∧ k ≤ 60000000 ∧ Bq k q ∧ Φ (.int (qsize q))
theorem mono_size : Mono C_size := fun ds Φ Ψ mo h0 => by
  obtain ⟨q, k, a, b, c, h⟩ := h0
  exact ⟨q, k, a, b, c, mo _ h⟩
noncomputable abbrev b_size : S3 :=
  (sRet (dCall 2 C_row_times (aCons (dVar 0) (aCons (dVar 0) aNil))))
theorem rd_size : ∀ (ds : List D) (Φ : D → Prop), ds.length = 1 → C_size ds Φ → b_size (finD Φ) (startD 1 ds) := by
  rintro ds Φ hl ⟨q, k, rfl, hk, hq, h⟩
  exact ⟨rfl, .inr ⟨q, q, k, rfl, hk, hq, hq, h⟩⟩
theorem ok_size {P : Program} {w : World} {K : PySem.W.Frag} {mg : Str → Option Value} {base : Heap} {t : Ad} (T : Txt K mg t) : FnOk P w K mg base CX0 2 t.a_size t.d_size ["quad"] (spD K 1 C_size) := by
  have sc := sc_size
  refine fn_ok (k := 1) T.F_size sc_size (fun cdv A outer s H E hr => ⟨b_size, (psd_one (psd_ret (pd_call (ok_row_times T) mono_row_times (hr.mono (by decide)) rfl T.m_row_times T.F_row_times.kp T.b_row_times (pad_cons (pd_var (pv 0)) (pad_cons (pd_var (pv 0)) pad_nil))))), rd_size⟩)
noncomputable def C_weight : Con := fun ds Φ => ∃ (q : Q4) (k : Nat), ds = [qd q] ∧ k ≤ 60000000 ∧ Bq k q ∧ Φ (.int (heavy q))
theorem mono_weight : Mono C_weight := fun ds Φ Ψ mo h0 => by
  obtain ⟨q, k, a, b, c, h⟩ := h0
  exact ⟨q, k, a, b, c, mo _ h⟩
noncomputable abbrev b_weight : S3 :=
  (sRet (dOp (dI CD fun i j => .int (i.fdiv j)) (dCall 1 C_size (aCons (dVar 0) aNil)) (dC (.int 4))))
theorem rd_weight : ∀ (ds : List D) (Φ : D → Prop), ds.length = 1 → C_weight ds Φ → b_weight (finD Φ) (startD 1 ds) := by
  rintro ds Φ hl ⟨q, k, rfl, hk, hq, h⟩
  exact ⟨rfl, q, k, rfl, hk, hq, cd_lit (by decide), h⟩
theorem ok_weight {P : Program} {w : World} {K : PySem.W.Frag} {mg : Str → Option Value} {base : Heap} {t : Ad} (T : Txt K mg t) : FnOk P w K mg base CX0 3 t.a_weight t.d_weight ["stone"] (spD K 1 C_weight) := by
  have sc := sc_weight
  refine fn_ok (k := 2) T.F_weight sc_weight (fun cdv A outer s H E hr => ⟨b_weight, (psd_one (psd_ret (pd_op o_fdiv (pd_call (ok_size T) mono_size (hr.mono (by decide)) rfl T.m_size T.F_size.kp T.b_size (pad_cons (pd_var (pv 0)) pad_nil)) pd_int))), rd_weight⟩)
noncomputable def C_divided : Con := fun ds Φ => ∃ (x y : Q4) (B : Nat), ds = [qd x, qd y] ∧ Stone x ∧ Stone y ∧ y ≠ q0 ∧ B ≤ 3000 ∧ Bq B x ∧ Bq B y ∧ ∀ k r : Q4, Stone k → Stone r → r = ssub x (smul y k) → 2 * heavy r ≤ heavy y → (∀ k0, Stone k0 → x = smul y k0 → r = q0) → Bq (2 * B + 7) k → Bq (3 * B + 12) r → Φ (.tup [qd k, qd r])
theorem mono_divided : Mono C_divided := fun ds Φ Ψ mo h0 => by
  obtain ⟨x, y, B, a, b, c, d, e, f, g, h⟩ := h0
  exact ⟨x, y, B, a, b, c, d, e, f, g, fun k r h1 h2 h3 h4 h5 h6 h7 => mo _ (h k r h1 h2 h3 h4 h5 h6 h7)⟩
noncomputable def b_divided_5 : S3 :=
  (sRet (dVar 4))
noncomputable def b_divided_4 : S3 :=
  (sSeq (sIf (dT (dOp (dI0 fun i j => .bl (decide (i ≤ j))) (dCall 1 C_weight (aCons (dOp dIx (dVar 3) (dC (.int 1))) aNil)) (dCall 1 C_weight (aCons (dOp dIx (dVar 4) (dC (.int 1))) aNil))))
  (sRet (dVar 3))
  sNext)
  b_divided_5)
noncomputable def b_divided_3 : S3 :=
  (sSeq (sSet 4 (dCall 3 C_with_rest (aCons (dVar 0) (aCons (dVar 1) (aCons (dCall 2 C_odd_stone_near (aCons (dVar 2) (aCons (dCall 1 C_weight (aCons (dVar 1) aNil)) aNil))) aNil)))))
  b_divided_4)
noncomputable def b_divided_2 : S3 :=
  (sSeq (sSet 3 (dCall 3 C_with_rest (aCons (dVar 0) (aCons (dVar 1) (aCons (dCall 2 C_even_stone_near (aCons (dVar 2) (aCons (dCall 1 C_weight (aCons (dVar 1) aNil)) aNil))) aNil)))))
  b_divided_3)
noncomputable def b_divided_1 : S3 :=
  (sSeq (sSet 2 (dCall 2 C_stone_product (aCons (dCall 1 C_mirrored (aCons (dVar 1) aNil)) (aCons (dVar 0) aNil))))
  b_divided_2)
noncomputable abbrev b_divided : S3 :=
  (sSeq (sIf (dT (dOp dEqS (dVar 1) (dC k_NOUGHT)))
  sNever
  sNext)
  b_divided_1)
theorem rd_divided : ∀ (ds : List D) (Φ : D → Prop), ds.length = 2 → C_divided ds Φ → b_divided (finD Φ) (startD 5 ds) := by
  rintro ds Φ hl ⟨x, y, B, rfl, sx, sy, h0, hB, bx, by_, h⟩
  have hw := heavy_pos sy h0
  have gB : B ≤ 60000000 := Nat.le_trans hB (by decide)
  have g2 : 2 * B ≤ 6000 := Nat.mul_le_mul_left 2 hB
  have g7 : 2 * B + 7 ≤ 20000000 := Nat.le_trans (Nat.add_le_add_right g2 7) (by decide)
  have e7 : 1 ≤ 2 * B + 7 := Nat.le_trans (by decide) (Nat.le_add_left 7 _)
  have d7 : B ≤ 2 * B + 7 := Nat.le_trans (Nat.le_mul_of_pos_left B (by decide)) (Nat.le_add_right _ 7)
  have g12 : 3 * B + 12 ≤ 60000000 := Nat.le_trans (Nat.add_le_add_right (Nat.mul_le_mul_left 3 hB) 12) (by decide)
  have ba : Bq (2 * B + 3) (smul (qbar y) x) := (by_.bar.smul bx).mono (Nat.le_of_eq (by rw [Nat.two_mul]))
  have bw : Bd (2 * B + 3) (heavy y) := heavy_bd by_
  have be := evnQ_bd ba bw hw
  have bo := odnQ_bd ba hw
  have se := evnQ_stone (smul (qbar y) x) (heavy y)
  have so := odnQ_stone (smul (qbar y) x) (heavy y)
  have half := rest_half sx sy h0 _ rfl
  have none := fun k0 (hk : Stone k0) (e : x = smul y k0) => rest_none sy h0 hk e _ rfl
  have sre := sx.sub (smul_two sy se).2
  have sro := sx.sub (smul_two sy so).2
  have bre : Bq (3 * B + 12) (ssub x (smul y (evnQ (smul (qbar y) x) (heavy y)))) := (bx.ssub (by_.smul be)).mono (by omega)
  have bro : Bq (3 * B + 12) (ssub x (smul y (odnQ (smul (qbar y) x) (heavy y)))) := (bx.ssub (by_.smul bo)).mono (by omega)
  unfold b_divided
  refine ⟨(show 1 ≤ 100 by decide), ?_⟩
  refine tF (by show eqD (qd y) (qd q0) = false; rw [eqD_q]; exact decide_eq_false h0) ?_
  show b_divided_1 (finD Φ) [.val (qd x), .val (qd y), .un, .un, .un]
  refine ⟨rfl, y, rfl, rfl, qbar y, x, B, rfl, gB, by_.bar, bx, ?_⟩
  show b_divided_2 (finD Φ) [.val (qd x), .val (qd y), .val (qd (smul (qbar y) x)), .un, .un]
  refine ⟨rfl, y, B, rfl, gB, by_, rfl, smul (qbar y) x, heavy y, 2 * B + 3, rfl, hw, Nat.le_trans (Nat.add_le_add_right g2 3) (by decide), bw, ?_⟩
  refine ⟨rfl, x, y, _, 2 * B + 7, rfl, e7, g7, bx.mono d7, by_.mono d7, be, ?_⟩
  show b_divided_3 (finD Φ) [.val (qd x), .val (qd y), .val (qd (smul (qbar y) x)), .val (.tup [qd (evnQ (smul (qbar y) x) (heavy y)), qd (ssub x (smul y (evnQ (smul (qbar y) x) (heavy y))))]), .un]
  refine ⟨rfl, y, B, rfl, gB, by_, rfl, smul (qbar y) x, heavy y, 2 * B + 3, rfl, hw, Nat.le_trans (Nat.add_le_add_right g2 3) (by decide), bw, ?_⟩
  refine ⟨rfl, x, y, _, 2 * B + 7, rfl, e7, g7, bx.mono d7, by_.mono d7, bo, ?_⟩
  show b_divided_4 (finD Φ) [.val (qd x), .val (qd y), .val (qd (smul (qbar y) x)), .val (.tup [qd (evnQ (smul (qbar y) x) (heavy y)), qd (ssub x (smul y (evnQ (smul (qbar y) x) (heavy y))))]), .val (.tup [qd (odnQ (smul (qbar y) x) (heavy y)), qd (ssub x (smul y (odnQ (smul (qbar y) x) (heavy y))))])]
  have ne := heavy_nn (ssub x (smul y (evnQ (smul (qbar y) x) (heavy y))))
  have no := heavy_nn (ssub x (smul y (odnQ (smul (qbar y) x) (heavy y))))
  have zero : ∀ {k k0 : Q4}, k = k0 → x = smul y k0 → heavy (ssub x (smul y k)) = 0 := fun e1 e2 => by
    rw [e1, ← e2]; simp only [ssub, Int.sub_self]; rfl
  have he := h _ _ se sre rfl
  have ho := h _ _ so sro rfl
  generalize evnQ (smul (qbar y) x) (heavy y) = ke at *
  generalize odnQ (smul (qbar y) x) (heavy y) = ko at *
  unfold b_divided_4
  refine ⟨rfl, _, 3 * B + 12, rfl, g12, bre, rfl, _, 3 * B + 12, rfl, g12, bro, ?_⟩
  refine tst (fun hc => ?_) (fun hc => ?_)
  · have hc : heavy (ssub x (smul y ke)) ≤ heavy (ssub x (smul y ko)) := of_decide_eq_true hc
    refine he (by omega) (fun k0 hk e => ?_) be bre
    rcases none k0 hk e with z | z
    · exact heavy_zero sre (zero z e)
    · exact heavy_zero sre (Int.le_antisymm (zero z e ▸ hc) ne)
  · have hc : ¬ heavy (ssub x (smul y ke)) ≤ heavy (ssub x (smul y ko)) := of_decide_eq_false hc
    refine ho (by omega) (fun k0 hk e => ?_) bo bro
    rcases none k0 hk e with z | z
    · have := zero z e; omega
    · exact heavy_zero sro (zero z e)
theorem ok_divided {P : Program} {w : World} {K : PySem.W.Frag} {mg : Str → Option Value} {base : Heap} {t : Ad} (T : Txt K mg t) : FnOk P w K mg base CX0 4 t.a_divided t.d_divided ["x", "y"] (spD K 2 C_divided) := by
  have sc := sc_divided
  refine fn_ok (k := 3) T.F_divided sc_divided (fun cdv A outer s H E hr => ⟨b_divided, (psd_cons (psd_if (pb_cmp (o_eqS (hu3 hr)) (pd_var (pv 1)) (pd_const rfl T.m_NOUGHT T.c_NOUGHT) (nomark _))
  (psd_one psd_never)
  psd_nil)
  (psd_cons (psd_set (i := 2) sc.nd rfl (loc_of rfl) (pd_call (ok_stone_product T) mono_stone_product (hr.mono (by decide)) rfl T.m_stone_product T.F_stone_product.kp T.b_stone_product (pad_cons (pd_call (ok_mirrored T) mono_mirrored (hr.mono (by decide)) rfl T.m_mirrored T.F_mirrored.kp T.b_mirrored (pad_cons (pd_var (pv 1)) pad_nil)) (pad_cons (pd_var (pv 0)) pad_nil))))
  (psd_cons (psd_set (i := 3) sc.nd rfl (loc_of rfl) (pd_call (ok_with_rest T) mono_with_rest (hr.mono (by decide)) rfl T.m_with_rest T.F_with_rest.kp T.b_with_rest (pad_cons (pd_var (pv 0)) (pad_cons (pd_var (pv 1)) (pad_cons (pd_call (ok_even_stone_near T) mono_even_stone_near (hr.mono (by decide)) rfl T.m_even_stone_near T.F_even_stone_near.kp T.b_even_stone_near (pad_cons (pd_var (pv 2)) (pad_cons (pd_call (ok_weight T) mono_weight (hr.mono (by decide)) rfl T.m_weight T.F_weight.kp T.b_weight (pad_cons (pd_var (pv 1)) pad_nil)) pad_nil))) pad_nil)))))
  (psd_cons (psd_set (i := 4) sc.nd rfl (loc_of rfl) (pd_call (ok_with_rest T) mono_with_rest (hr.mono (by decide)) rfl T.m_with_rest T.F_with_rest.kp T.b_with_rest (pad_cons (pd_var (pv 0)) (pad_cons (pd_var (pv 1)) (pad_cons (pd_call (ok_odd_stone_near T) mono_odd_stone_near (hr.mono (by decide)) rfl T.m_odd_stone_near T.F_odd_stone_near.kp T.b_odd_stone_near (pad_cons (pd_var (pv 2)) (pad_cons (pd_call (ok_weight T) mono_weight (hr.mono (by decide)) rfl T.m_weight T.F_weight.kp T.b_weight (pad_cons (pd_var (pv 1)) pad_nil)) pad_nil))) pad_nil)))))
  (psd_cons (psd_if (pb_cmp o_le (pd_call (ok_weight T) mono_weight (hr.mono (by decide)) rfl T.m_weight T.F_weight.kp T.b_weight (pad_cons (pd_ix (pd_var (pv 3)) pd_int (fun _ _ => rfl)) pad_nil)) (pd_call (ok_weight T) mono_weight (hr.mono (by decide)) rfl T.m_weight T.F_weight.kp T.b_weight (pad_cons (pd_ix (pd_var (pv 4)) pd_int (fun _ _ => rfl)) pad_nil)) (nomark _))
  (psd_one (psd_ret (pd_var (pv 3))))
  psd_nil)
  (psd_one (psd_ret (pd_var (pv 4))))))))), rd_divided⟩)
noncomputable def C_common : Con := fun ds Φ => ∃ (x y : Q4) (B : Nat), ds = [qd x, qd y] ∧ Stone x ∧ Stone y ∧ B ≤ 1000 ∧ Bq B x ∧ Bq B y ∧ ∀ s a b u v : Q4, Row x y s a b → Stone u → Stone v → x = smul s u → y = smul s v → (x = q0 → y = q0 → s = q0) → Bq (B + 1) s → Bq 30000000 a → Bq 30000000 b → Bq (2 * B + 9) u → Bq (2 * B + 9) v → Φ (.tup [qd s, qd a, qd b, qd u, qd v])
theorem mono_common : Mono C_common := fun ds Φ Ψ mo h0 => by
  obtain ⟨x, y, B, a, b, c, d, e, f, h⟩ := h0
  exact ⟨x, y, B, a, b, c, d, e, f, fun s a b u v h1 h2 h3 h4 h5 h6 h7 h8 h9 h10 h11 => mo _ (h s a b u v h1 h2 h3 h4 h5 h6 h7 h8 h9 h10 h11)⟩
structure CmI (x y : Q4) (B n : Nat) (s a b s' a' b' : Q4) : Prop where
  r : Row x y s a b
  r' : Row x y s' a' b'
  ix : In2 x s s'
  iy : In2 y s s'
  hs : heavy s < 2 ^ (2 * B)
  hs' : heavy s' * 2 ^ n < 2 ^ (2 * B)
  ba : Bq (n * (2 * B + 20) + 5) a
  bb : Bq (n * (2 * B + 20) + 5) b
  ba' : Bq (n * (2 * B + 20) + 5) a'
  bb' : Bq (n * (2 * B + 20) + 5) b'
  ne : s = q0 → s' = q0 → x = q0 ∧ y = q0
  nn : n ≤ 2 * B
theorem CmI.steps {x y s a b s' a' b' : Q4} {B n : Nat} (h : CmI x y B n s a b s' a' b') (h0 : s' ≠ q0) : n < 2 * B := by
  have p := heavy_pos h.r'.ss h0
  have := h.hs'
  apply Classical.byContradiction
  intro z
  have : (2 : Int) ^ (2 * B) ≤ 2 ^ n := by exact_mod_cast Nat.pow_le_pow_right (n := 2) (by decide) (by omega)
  have q : (1 : Int) * 2 ^ n ≤ heavy s' * 2 ^ n := Int.mul_le_mul_of_nonneg_right (by omega) (Int.pow_nonneg (by decide))
  omega
theorem CmI.small {x y s a b s' a' b' : Q4} {B n : Nat} (h : CmI x y B n s a b s' a' b') : heavy s' < 2 ^ (2 * B) := by
  have := h.hs'
  have n0 := heavy_nn s'
  have o1 : (1 : Int) ≤ 2 ^ n := by exact_mod_cast Nat.one_le_two_pow
  have q : heavy s' * 1 ≤ heavy s' * 2 ^ n := Int.mul_le_mul_of_nonneg_left o1 n0
  omega
theorem CmI.step {x y s a b s' a' b' k : Q4} {B n : Nat} (sx : Stone x) (sy : Stone y) (h : CmI x y B n s a b s' a' b') (h0 : s' ≠ q0) (sk : Stone k) (bk : Bq (2 * B + 9) k) (hh : 2 * heavy (ssub s (smul s' k)) ≤ heavy s') :
    CmI x y B (n + 1) s' a' b' (ssub s (smul s' k)) (ssub a (smul a' k)) (ssub b (smul b' k)) := by
  have e : (n + 1) * (2 * B + 20) + 5 = n * (2 * B + 20) + 5 + (2 * B + 20) := by grind
  refine ⟨h.r', h.r.step sx sy h.r' sk, h.ix.step h.r.ss h.r'.ss sk, h.iy.step h.r.ss h.r'.ss sk, h.small, ?_, ?_, ?_, ?_, ?_, fun z => absurd z h0, h.steps h0⟩
  · have := h.hs'
    have p : (0 : Int) < 2 ^ n := Int.pow_pos (by decide)
    have q : 2 * heavy (ssub s (smul s' k)) * 2 ^ n ≤ heavy s' * 2 ^ n := Int.mul_le_mul_of_nonneg_right hh (Int.le_of_lt p)
    have e2 : heavy (ssub s (smul s' k)) * 2 ^ (n + 1) = 2 * heavy (ssub s (smul s' k)) * 2 ^ n := by rw [Int.pow_succ]; grind
    omega
  · exact h.ba'.mono (by omega)
  · exact h.bb'.mono (by omega)
  · exact (h.ba.ssub (h.ba'.smul bk)).mono (by omega)
  · exact (h.bb.ssub (h.bb'.smul bk)).mono (by omega)
noncomputable def tup3 (s a b : Q4) : D := .tup [qd s, qd a, qd b]
theorem sub_zero {p q : Q4} (h : q0 = ssub p q) : p = q := by
  have a := congrArg Q4.a h; have b := congrArg Q4.b h; have c := congrArg Q4.c h; have d := congrArg Q4.d h
  simp only [ssub, q0] at a b c d
  apply Q4.eq <;> omega
theorem In2.one {z s : Q4} (h : In2 z s q0) : ∃ u, Stone u ∧ z = smul s u := by
  obtain ⟨u, v, su, sv, e⟩ := h
  rw [q0_smul, qadd_q0] at e
  exact ⟨u, su, e⟩
noncomputable def b_common_L1_3 : S3 :=
  (sSet 3 (dVar 5))
noncomputable def b_common_L1_2 : S3 :=
  (sSeq (sSet 2 (dVar 3))
  b_common_L1_3)
noncomputable def b_common_L1_1 : S3 :=
  (sSeq (sSet 5 (dB cTuple (aCons (dF (fComp 1 (iR1 (aCons (dC (.int 3)) aNil)) (gN 0) (fun _ Φ => Φ true) (dCall 3 C_row_less (aCons (dOp dIx (dVar 3) (dVar 0)) (aCons (dCall 2 C_stone_product (aCons (dOp dIx (dVar 4) (dVar 0)) (aCons (dVar 5) aNil))) (aCons (dC (.int 1)) aNil)))))) aNil)))
  b_common_L1_2)
noncomputable abbrev b_common_L1 : S3 :=
  (sSeq (sSet 4 (dOp dIx (dCall 2 C_divided (aCons (dOp dIx (dVar 2) (dC (.int 0))) (aCons (dOp dIx (dVar 3) (dC (.int 0))) aNil))) (dC (.int 0))))
  b_common_L1_1)
noncomputable def b_common_5 : S3 :=
  (sRet (dTup (aCons (dVar 6) (aCons (dOp dIx (dVar 2) (dC (.int 1))) (aCons (dOp dIx (dVar 2) (dC (.int 2))) (aCons (dOp dIx (dCall 2 C_divided (aCons (dVar 0) (aCons (dVar 6) aNil))) (dC (.int 0))) (aCons (dOp dIx (dCall 2 C_divided (aCons (dVar 1) (aCons (dVar 6) aNil))) (dC (.int 0))) aNil)))))))
noncomputable def b_common_4 : S3 :=
  (sSeq (sSet 6 (dOp dIx (dVar 2) (dC (.int 0))))
  b_common_5)
noncomputable def b_common_3 : S3 :=
  (sSeq (sWhile (dT (dOp dNeS (dOp dIx (dVar 3) (dC (.int 0))) (dC k_NOUGHT)))
  b_common_L1)
  b_common_4)
noncomputable def b_common_2 : S3 :=
  (sSeq (sSet 3 (dTup (aCons (dVar 1) (aCons (dC k_NOUGHT) (aCons (dC k_ONE) aNil)))))
  b_common_3)
noncomputable def b_common_1 : S3 :=
  (sSeq (sSet 2 (dTup (aCons (dVar 0) (aCons (dC k_ONE) (aCons (dC k_NOUGHT) aNil)))))
  b_common_2)
noncomputable abbrev b_common : S3 :=
  (sSeq (sIf (bAnd (dT (dOp dEqS (dVar 0) (dC k_NOUGHT))) (dT (dOp dEqS (dVar 1) (dC k_NOUGHT))))
  (sRet (dTup (aCons (dC k_NOUGHT) (aCons (dC k_NOUGHT) (aCons (dC k_NOUGHT) (aCons (dC k_NOUGHT) (aCons (dC k_NOUGHT) aNil)))))))
  sNext)
  b_common_1)
theorem rd_common : ∀ (ds : List D) (Φ : D → Prop), ds.length = 2 → C_common ds Φ → b_common (finD Φ) (startD 7 ds) := by
  rintro ds Φ hl ⟨x, y, B, rfl, sx, sy, hB, bx, by_, h⟩
  have f1 : B + 1 ≤ 1001 := Nat.add_le_add_right hB 1
  have f1' : B + 1 ≤ 3000 := Nat.le_trans f1 (by decide)
  have g2 : 2 * B ≤ 2000 := Nat.mul_le_mul_left 2 hB
  have f9 : 2 * B + 9 ≤ 2009 := Nat.add_le_add_right g2 9
  have f7 : 2 * (B + 1) + 7 = 2 * B + 9 := rfl
  have two5 : ∀ n : Nat, 2 ≤ n + 5 := fun n => Nat.le_trans (by decide) (Nat.le_add_left 5 n)
  have b01 : Bq 2 q0 := ⟨bd_lit (by decide), bd_lit (by decide), bd_lit (by decide), bd_lit (by decide)⟩
  have b11 : Bq 2 sone := ⟨bd_lit (by decide), bd_lit (by decide), bd_lit (by decide), bd_lit (by decide)⟩
  have main : ¬ (x = q0 ∧ y = q0) → b_common_1 (finD Φ) [.val (qd x), .val (qd y), .un, .un, .un, .un, .un] := fun hne => by
    refine ⟨sl_le 3 rfl (by decide), sl_le 3 rfl (by decide), ?_⟩
    show b_common_3 (finD Φ) [.val (qd x), .val (qd y), .val (tup3 x sone q0), .val (tup3 y q0 sone), .un, .un, .un]
    refine while_inv (fun ρ => ∃ (n : Nat) (s a b s' a' b' : Q4) (s4 s5 : Sl), ρ = [.val (qd x), .val (qd y), .val (tup3 s a b), .val (tup3 s' a' b'), s4, s5, .un] ∧ CmI x y B n s a b s' a' b')
      (fun ρ => match ρ with | [_, _, _, .val (.tup (.tup [.int a, .int b, .int c, .int d] :: _)), _, _, _] => (heavy ⟨a, b, c, d⟩).toNat | _ => 0) ?_ ?_
    · refine ⟨0, x, sone, q0, y, q0, sone, .un, .un, rfl, ⟨⟨sx, sone_stone, q0_stone, by rw [smul_one, smul_q0, qadd_q0]⟩, ⟨sy, q0_stone, sone_stone, by rw [smul_q0, smul_one, q0_qadd]⟩, ⟨sone, q0, sone_stone, q0_stone, by rw [smul_one, smul_q0, qadd_q0]⟩, ⟨q0, sone, q0_stone, sone_stone, by rw [smul_q0, smul_one, q0_qadd]⟩, heavy_lt sx bx, by rw [Int.pow_zero, Int.mul_one]; exact heavy_lt sy by_, b11.mono (two5 _), b01.mono (two5 _), b01.mono (two5 _), b11.mono (two5 _), fun h1 h2 => ⟨h1, h2⟩, Nat.zero_le _⟩⟩
    · rintro ρ ⟨n, s, a, b, s', a', b', s4, s5, rfl, c⟩
      refine ⟨(show 1 ≤ 100 by decide), tst (fun hc => ?_) (fun hc => ?_)⟩
      · have h0 : s' ≠ q0 := by
          have hc : (!eqD (qd s') (qd q0)) = true := hc
          rw [eqD_q] at hc
          simpa using hc
        have hn := c.steps h0
        have bs := bq_heavy c.r.ss c.hs
        have bs' := bq_heavy c.r'.ss c.small
        refine ⟨rfl, s, s', B + 1, rfl, c.r.ss, c.r'.ss, h0, f1', bs, bs', fun k r sk sr er hr hnone bk br => ?_⟩
        have bk : Bq (2 * B + 9) k := bk
        have nB : n * (2 * B + 20) + 5 ≤ 5000000 := Nat.le_trans (Nat.add_le_add_right (Nat.mul_le_mul (Nat.le_trans (Nat.le_of_lt hn) g2) (Nat.add_le_add_right g2 20)) 5) (by decide)
        subst er
        have st := c.step sx sy h0 sk bk hr
        show b_common_L1_1 (loopW _ _) [.val (qd x), .val (qd y), .val (tup3 s a b), .val (tup3 s' a' b'), .val (qd k), s5, .un]
        have c0 : (-(2 ^ 62) : Int) ≤ 3 := by decide
        have c1 : (3 : Int) < 2 ^ 62 := by decide
        have one : ∀ {p p' : Q4} (Ψ : D → Prop), Bq 5000000 p → Bq 5000000 p' → Ψ (qd (ssub p (smul p' k))) → C_stone_product [qd p', qd k] (fun d => [qd p, d, D.int 1].length = 3 ∧ C_row_less [qd p, d, .int 1] Ψ) := fun Ψ hp hp' hΨ =>
          ⟨_, k, 5000000, rfl, by decide, hp', bk.mono (Nat.le_trans f9 (by decide)), rfl, .inr ⟨_, _, 1, 10100000, rfl, by decide, by decide, hp.mono (by decide), (hp'.smul bk).mono (Nat.le_trans (Nat.add_le_add_right (Nat.add_le_add_left f9 _) 3) (by decide)), bd1 (by decide), by rw [mix_sub]; exact hΨ⟩⟩
        refine ⟨c0, c1, rfl, one _ (bs.mono (Nat.le_trans f1 (by decide))) (bs'.mono (Nat.le_trans f1 (by decide))) ⟨sl_lt 0 rfl (by decide), ?_⟩⟩
        refine ⟨rfl, one _ (c.ba.mono nB) (c.ba'.mono nB) ⟨sl_lt 1 rfl (by decide), ?_⟩⟩
        refine ⟨rfl, one _ (c.bb.mono nB) (c.bb'.mono nB) ⟨sl_lt 2 rfl (by decide), ?_⟩⟩
        refine ⟨_, ?_, rfl, n + 1, s', a', b', ssub s (smul s' k), ssub a (smul a' k), ssub b (smul b' k), _, _, rfl, st⟩
        show (heavy (ssub s (smul s' k))).toNat < (heavy s').toNat
        have := heavy_pos c.r'.ss h0
        omega
      · have h0 : s' = q0 := by
          have hc : (!eqD (qd s') (qd q0)) = false := hc
          rw [eqD_q] at hc
          simpa using hc
        subst h0
        have sne : s ≠ q0 := fun z => hne (c.ne z rfl)
        obtain ⟨u, su, ex⟩ := c.ix.one
        obtain ⟨v, sv, ey⟩ := c.iy.one
        have bs := bq_heavy c.r.ss c.hs
        show b_common_5 (finD Φ) [.val (qd x), .val (qd y), .val (tup3 s a b), .val (tup3 q0 a' b'), s4, s5, .val (qd s)]
        have big : n * (2 * B + 20) + 5 ≤ 30000000 := Nat.le_trans (Nat.add_le_add_right (Nat.mul_le_mul (Nat.le_trans c.nn g2) (Nat.add_le_add_right g2 20)) 5) (by decide)
        refine ⟨rfl, x, s, B + 1, rfl, sx, c.r.ss, sne, f1', bx.mono (Nat.le_succ B), bs, fun k r sk sr er hr hnone bk br => ?_⟩
        refine ⟨rfl, y, s, B + 1, rfl, sy, c.r.ss, sne, f1', by_.mono (Nat.le_succ B), bs, fun k' r' sk' sr' er' hr' hnone' bk' br' => ⟨sl_le 5 rfl (by decide), ?_⟩⟩
        have e1 := hnone u su ex
        have e2 := hnone' v sv ey
        subst e1 e2
        exact h s a b k k' c.r sk sk' (sub_zero er) (sub_zero er') (fun z1 z2 => absurd ⟨z1, z2⟩ hne) bs (c.ba.mono big) (c.bb.mono big) bk bk'
  unfold b_common
  refine ⟨(show 1 ≤ 100 by decide), tst (fun hx => ⟨(show 1 ≤ 100 by decide), tst (fun hy => ?_) (fun hy => ?_)⟩) (fun hx => ?_)⟩
  · have hx : eqD (qd x) (qd q0) = true := hx
    have hy : eqD (qd y) (qd q0) = true := hy
    rw [eqD_q] at hx hy
    have hx := of_decide_eq_true hx
    have hy := of_decide_eq_true hy
    subst hx hy
    exact ⟨sl_le 5 rfl (by decide), h q0 q0 q0 q0 q0 ⟨q0_stone, q0_stone, q0_stone, by rw [smul_q0]; rfl⟩ q0_stone q0_stone (by rw [smul_q0]) (by rw [smul_q0]) (fun _ _ => rfl) ((show Bq 1 q0 from ⟨bd_lit (by decide), bd_lit (by decide), bd_lit (by decide), bd_lit (by decide)⟩).mono (Nat.le_add_left 1 B)) (b01.mono (by decide)) (b01.mono (by decide)) (b01.mono (Nat.le_trans (by decide) (Nat.le_add_left 9 _))) (b01.mono (Nat.le_trans (by decide) (Nat.le_add_left 9 _)))⟩
  · have hy : eqD (qd y) (qd q0) = false := hy
    rw [eqD_q] at hy
    exact main fun z => of_decide_eq_false hy z.2
  · have hx : eqD (qd x) (qd q0) = false := hx
    rw [eqD_q] at hx
    exact main fun z => of_decide_eq_false hx z.1
theorem ok_common {P : Program} {w : World} {K : PySem.W.Frag} {mg : Str → Option Value} {base : Heap} {t : Ad} (T : Txt K mg t) : FnOk P w K mg base CX0 5 t.a_common t.d_common ["x", "y"] (spD K 2 C_common) := by
  have sc := sc_common
  refine fn_ok (k := 4) T.F_common sc_common (fun cdv A outer s H E hr => ⟨b_common, (psd_cons (psd_if (PWB.pb (pb_and (pb_cmp (o_eqS (hu3 hr)) (pd_var (pv 0)) (pd_const rfl T.m_NOUGHT T.c_NOUGHT) (nomark _)) (pb_and1 (pb_cmp (o_eqS (hu3 hr)) (pd_var (pv 1)) (pd_const rfl T.m_NOUGHT T.c_NOUGHT) (nomark _)))))
  (psd_one (psd_ret (pd_tup (pad_cons (pd_const rfl T.m_NOUGHT T.c_NOUGHT) (pad_cons (pd_const rfl T.m_NOUGHT T.c_NOUGHT) (pad_cons (pd_const rfl T.m_NOUGHT T.c_NOUGHT) (pad_cons (pd_const rfl T.m_NOUGHT T.c_NOUGHT) (pad_cons (pd_const rfl T.m_NOUGHT T.c_NOUGHT) pad_nil))))))))
  psd_nil)
  (psd_cons (psd_set (i := 2) sc.nd rfl (loc_of rfl) (pd_tup (pad_cons (pd_var (pv 0)) (pad_cons (pd_const rfl T.m_ONE T.c_ONE) (pad_cons (pd_const rfl T.m_NOUGHT T.c_NOUGHT) pad_nil)))))
  (psd_cons (psd_set (i := 3) sc.nd rfl (loc_of rfl) (pd_tup (pad_cons (pd_var (pv 1)) (pad_cons (pd_const rfl T.m_NOUGHT T.c_NOUGHT) (pad_cons (pd_const rfl T.m_ONE T.c_ONE) pad_nil)))))
  (psd_cons (psd_while PassesOwn.never (pb_cmp (o_neS (hu3 hr)) (pd_ix (pd_var (pv 3)) pd_int (fun _ _ => rfl)) (pd_const rfl T.m_NOUGHT T.c_NOUGHT) (nomark _))
  (psd_cons (psd_set (i := 4) sc.nd rfl (loc_of rfl) (pd_ix (pd_call (ok_divided T) mono_divided (hr.mono (by decide)) rfl T.m_divided T.F_divided.kp T.b_divided (pad_cons (pd_ix (pd_var (pv 2)) pd_int (fun _ _ => rfl)) (pad_cons (pd_ix (pd_var (pv 3)) pd_int (fun _ _ => rfl)) pad_nil))) pd_int (fun _ _ => rfl)))
  (psd_cons (psd_set (i := 5) sc.nd rfl (loc_of rfl) (pd_callTy b_tuple rfl T.z_tuple bt_tuple (pad_cons (pd_new (pf_comp (xs := ["place"]) (M := ["x", "y", "row", "below", "k", "rest", "s"]) (n := 1) (by rfl) rfl rfl (pid_range1 rfl T.z_range (pad_cons pd_int pad_nil)) (fun _ _ _ _ => (pgn_name (i := 0) (by decide) (show List.Nodup (["place", "x", "y", "row", "below", "k", "rest", "s"] : List Str) by decide +kernel) rfl (by first | exact Or.inl rfl | exact Or.inr rfl))) (fun _ _ _ _ => pbs_nil) (fun _ _ _ _ => (pd_call (ok_row_less T) mono_row_less (hr.mono (by decide)) rfl T.m_row_less T.F_row_less.kp T.b_row_less (pad_cons (pd_ix (pd_var (pv 3)) (pd_var (pv 0)) (fun _ _ => rfl)) (pad_cons (pd_call (ok_stone_product T) mono_stone_product (hr.mono (by decide)) rfl T.m_stone_product T.F_stone_product.kp T.b_stone_product (pad_cons (pd_ix (pd_var (pv 4)) (pd_var (pv 0)) (fun _ _ => rfl)) (pad_cons (pd_var (pv 5)) pad_nil))) (pad_cons pd_int pad_nil))))))) pad_nil)))
  (psd_cons (psd_set (i := 2) sc.nd rfl (loc_of rfl) (pd_var (pv 3)))
  (psd_one (psd_set (i := 3) sc.nd rfl (loc_of rfl) (pd_var (pv 5))))))))
  (psd_cons (psd_set (i := 6) sc.nd rfl (loc_of rfl) (pd_ix (pd_var (pv 2)) pd_int (fun _ _ => rfl)))
  (psd_one (psd_ret (pd_tup (pad_cons (pd_var (pv 6)) (pad_cons (pd_ix (pd_var (pv 2)) pd_int (fun _ _ => rfl)) (pad_cons (pd_ix (pd_var (pv 2)) pd_int (fun _ _ => rfl)) (pad_cons (pd_ix (pd_call (ok_divided T) mono_divided (hr.mono (by decide)) rfl T.m_divided T.F_divided.kp T.b_divided (pad_cons (pd_var (pv 0)) (pad_cons (pd_var (pv 6)) pad_nil))) pd_int (fun _ _ => rfl)) (pad_cons (pd_ix (pd_call (ok_divided T) mono_divided (hr.mono (by decide)) rfl T.m_divided T.F_divided.kp T.b_divided (pad_cons (pd_var (pv 1)) (pad_cons (pd_var (pv 6)) pad_nil))) pd_int (fun _ _ => rfl)) pad_nil))))))))))))), rd_common⟩)
noncomputable def C_rows_of : Con := fun ds Φ => ∃ (q : Q4) (k : Nat), ds = [qd q] ∧ k ≤ 4000 ∧ Bq k q ∧ Φ (tr (rawT q))
theorem mono_rows_of : Mono C_rows_of := fun ds Φ Ψ mo h0 => by
  obtain ⟨q, k, a, b, c, h⟩ := h0
  exact ⟨q, k, a, b, c, mo _ h⟩
theorem raw_alt (q : Q4) : D.tup [.tup [.int (q.a * q.a + q.b * q.b - q.c * q.c - q.d * q.d), .int (2 * q.b * q.c - 2 * q.a * q.d), .int (2 * q.b * q.d + 2 * q.a * q.c)],
    .tup [.int (2 * q.b * q.c + 2 * q.a * q.d), .int (q.a * q.a - q.b * q.b + q.c * q.c - q.d * q.d), .int (2 * q.c * q.d - 2 * q.a * q.b)],
    .tup [.int (2 * q.b * q.d - 2 * q.a * q.c), .int (2 * q.c * q.d + 2 * q.a * q.b), .int (q.a * q.a - q.b * q.b - q.c * q.c + q.d * q.d)]] = tr (rawT q) := by
  have e1 : 2 * q.b * q.c - 2 * q.a * q.d = 2 * (q.b * q.c - q.a * q.d) := by grind
  have e2 : 2 * q.b * q.d + 2 * q.a * q.c = 2 * (q.b * q.d + q.a * q.c) := by grind
  have e3 : 2 * q.b * q.c + 2 * q.a * q.d = 2 * (q.b * q.c + q.a * q.d) := by grind
  have e4 : 2 * q.c * q.d - 2 * q.a * q.b = 2 * (q.c * q.d - q.a * q.b) := by grind
  have e5 : 2 * q.b * q.d - 2 * q.a * q.c = 2 * (q.b * q.d - q.a * q.c) := by grind
  have e6 : 2 * q.c * q.d + 2 * q.a * q.b = 2 * (q.c * q.d + q.a * q.b) := by grind
  rw [e1, e2, e3, e4, e5, e6]; rfl
noncomputable def b_rows_of_4 : S3 :=
  (sRet (dTup (aCons (dTup (aCons (dOp (dI0 fun i j => .int (i - j)) (dOp (dI0 fun i j => .int (i - j)) (dOp (dI0 fun i j => .int (i + j)) (dOp (dI IntMulOk fun i j => .int (i * j)) (dVar 1) (dVar 1)) (dOp (dI IntMulOk fun i j => .int (i * j)) (dVar 2) (dVar 2))) (dOp (dI IntMulOk fun i j => .int (i * j)) (dVar 3) (dVar 3))) (dOp (dI IntMulOk fun i j => .int (i * j)) (dVar 4) (dVar 4))) (aCons (dOp (dI0 fun i j => .int (i - j)) (dOp (dI IntMulOk fun i j => .int (i * j)) (dOp (dI IntMulOk fun i j => .int (i * j)) (dC (.int 2)) (dVar 2)) (dVar 3)) (dOp (dI IntMulOk fun i j => .int (i * j)) (dOp (dI IntMulOk fun i j => .int (i * j)) (dC (.int 2)) (dVar 1)) (dVar 4))) (aCons (dOp (dI0 fun i j => .int (i + j)) (dOp (dI IntMulOk fun i j => .int (i * j)) (dOp (dI IntMulOk fun i j => .int (i * j)) (dC (.int 2)) (dVar 2)) (dVar 4)) (dOp (dI IntMulOk fun i j => .int (i * j)) (dOp (dI IntMulOk fun i j => .int (i * j)) (dC (.int 2)) (dVar 1)) (dVar 3))) aNil)))) (aCons (dTup (aCons (dOp (dI0 fun i j => .int (i + j)) (dOp (dI IntMulOk fun i j => .int (i * j)) (dOp (dI IntMulOk fun i j => .int (i * j)) (dC (.int 2)) (dVar 2)) (dVar 3)) (dOp (dI IntMulOk fun i j => .int (i * j)) (dOp (dI IntMulOk fun i j => .int (i * j)) (dC (.int 2)) (dVar 1)) (dVar 4))) (aCons (dOp (dI0 fun i j => .int (i - j)) (dOp (dI0 fun i j => .int (i + j)) (dOp (dI0 fun i j => .int (i - j)) (dOp (dI IntMulOk fun i j => .int (i * j)) (dVar 1) (dVar 1)) (dOp (dI IntMulOk fun i j => .int (i * j)) (dVar 2) (dVar 2))) (dOp (dI IntMulOk fun i j => .int (i * j)) (dVar 3) (dVar 3))) (dOp (dI IntMulOk fun i j => .int (i * j)) (dVar 4) (dVar 4))) (aCons (dOp (dI0 fun i j => .int (i - j)) (dOp (dI IntMulOk fun i j => .int (i * j)) (dOp (dI IntMulOk fun i j => .int (i * j)) (dC (.int 2)) (dVar 3)) (dVar 4)) (dOp (dI IntMulOk fun i j => .int (i * j)) (dOp (dI IntMulOk fun i j => .int (i * j)) (dC (.int 2)) (dVar 1)) (dVar 2))) aNil)))) (aCons (dTup (aCons (dOp (dI0 fun i j => .int (i - j)) (dOp (dI IntMulOk fun i j => .int (i * j)) (dOp (dI IntMulOk fun i j => .int (i * j)) (dC (.int 2)) (dVar 2)) (dVar 4)) (dOp (dI IntMulOk fun i j => .int (i * j)) (dOp (dI IntMulOk fun i j => .int (i * j)) (dC (.int 2)) (dVar 1)) (dVar 3))) (aCons (dOp (dI0 fun i j => .int (i + j)) (dOp (dI IntMulOk fun i j => .int (i * j)) (dOp (dI IntMulOk fun i j => .int (i * j)) (dC (.int 2)) (dVar 3)) (dVar 4)) (dOp (dI IntMulOk fun i j => .int (i * j)) (dOp (dI IntMulOk fun i j => .int (i * j)) (dC (.int 2)) (dVar 1)) (dVar 2))) (aCons (dOp (dI0 fun i j => .int (i + j)) (dOp (dI0 fun i j => .int (i - j)) (dOp (dI0 fun i j => .int (i - j)) (dOp (dI IntMulOk fun i j => .int (i * j)) (dVar 1) (dVar 1)) (dOp (dI IntMulOk fun i j => .int (i * j)) (dVar 2) (dVar 2))) (dOp (dI IntMulOk fun i j => .int (i * j)) (dVar 3) (dVar 3))) (dOp (dI IntMulOk fun i j => .int (i * j)) (dVar 4) (dVar 4))) aNil)))) aNil)))))
noncomputable def b_rows_of_3 : S3 :=
  (sSeq (sSet 4 (dOp dIx (dVar 0) (dC (.int 3))))
  b_rows_of_4)
noncomputable def b_rows_of_2 : S3 :=
  (sSeq (sSet 3 (dOp dIx (dVar 0) (dC (.int 2))))
  b_rows_of_3)
noncomputable def b_rows_of_1 : S3 :=
  (sSeq (sSet 2 (dOp dIx (dVar 0) (dC (.int 1))))
  b_rows_of_2)
noncomputable abbrev b_rows_of : S3 :=
  (sSeq (sSet 1 (dOp dIx (dVar 0) (dC (.int 0))))
  b_rows_of_1)
theorem rd_rows_of : ∀ (ds : List D) (Φ : D → Prop), ds.length = 1 → C_rows_of ds Φ → b_rows_of (finD Φ) (startD 5 ds) := by
  rintro ds Φ hl ⟨q, k, rfl, hk, bq, h⟩
  have mk : ∀ {x y : Int}, Bd k x → Bd k y → IntMulOk x y := fun hx hy => mulOk hx hy (by omega)
  have m2 : ∀ {x : Int}, IntMulOk 2 x := IntMulOk.of_left (by decide)
  have m3 : ∀ {x y : Int}, Bd k x → Bd k y → IntMulOk (2 * x) y := fun hx hy => mulOk (bd_two hx) hy (by omega)
  show b_rows_of_4 (finD Φ) [.val (qd q), .val (.int q.a), .val (.int q.b), .val (.int q.c), .val (.int q.d)]
  have aa := mk bq.a bq.a; have bb := mk bq.b bq.b; have cc := mk bq.c bq.c; have dd := mk bq.d bq.d
  have ab := m3 bq.a bq.b; have ac := m3 bq.a bq.c; have ad := m3 bq.a bq.d; have bc := m3 bq.b bq.c; have bd := m3 bq.b bq.d; have cd := m3 bq.c bq.d
  rw [← raw_alt] at h
  exact ⟨aa, bb, cc, dd, m2, bc, m2, ad, m2, bd, m2, ac, sl_le 3 rfl (by decide), m2, bc, m2, ad, aa, bb, cc, dd, m2, cd, m2, ab, sl_le 3 rfl (by decide), m2, bd, m2, ac, m2, cd, m2, ab, aa, bb, cc, dd, sl_le 3 rfl (by decide), sl_le 3 rfl (by decide), h⟩
theorem ok_rows_of {P : Program} {w : World} {K : PySem.W.Frag} {mg : Str → Option Value} {base : Heap} {t : Ad} (T : Txt K mg t) : FnOk P w K mg base CX0 1 t.a_rows_of t.d_rows_of ["quad"] (spD K 1 C_rows_of) := by
  have sc := sc_rows_of
  refine fn_ok (k := 0) T.F_rows_of sc_rows_of (fun cdv A outer s H E hr => ⟨b_rows_of, (psd_cons (psd_set (i := 1) sc.nd rfl (loc_of rfl) (pd_ix (pd_var (pv 0)) pd_int (fun _ _ => rfl)))
  (psd_cons (psd_set (i := 2) sc.nd rfl (loc_of rfl) (pd_ix (pd_var (pv 0)) pd_int (fun _ _ => rfl)))
  (psd_cons (psd_set (i := 3) sc.nd rfl (loc_of rfl) (pd_ix (pd_var (pv 0)) pd_int (fun _ _ => rfl)))
  (psd_cons (psd_set (i := 4) sc.nd rfl (loc_of rfl) (pd_ix (pd_var (pv 0)) pd_int (fun _ _ => rfl)))
  (psd_one (psd_ret (pd_tup (pad_cons (pd_tup (pad_cons (pd_op o_sub (pd_op o_sub (pd_op o_add (pd_op o_mul (pd_var (pv 1)) (pd_var (pv 1))) (pd_op o_mul (pd_var (pv 2)) (pd_var (pv 2)))) (pd_op o_mul (pd_var (pv 3)) (pd_var (pv 3)))) (pd_op o_mul (pd_var (pv 4)) (pd_var (pv 4)))) (pad_cons (pd_op o_sub (pd_op o_mul (pd_op o_mul pd_int (pd_var (pv 2))) (pd_var (pv 3))) (pd_op o_mul (pd_op o_mul pd_int (pd_var (pv 1))) (pd_var (pv 4)))) (pad_cons (pd_op o_add (pd_op o_mul (pd_op o_mul pd_int (pd_var (pv 2))) (pd_var (pv 4))) (pd_op o_mul (pd_op o_mul pd_int (pd_var (pv 1))) (pd_var (pv 3)))) pad_nil)))) (pad_cons (pd_tup (pad_cons (pd_op o_add (pd_op o_mul (pd_op o_mul pd_int (pd_var (pv 2))) (pd_var (pv 3))) (pd_op o_mul (pd_op o_mul pd_int (pd_var (pv 1))) (pd_var (pv 4)))) (pad_cons (pd_op o_sub (pd_op o_add (pd_op o_sub (pd_op o_mul (pd_var (pv 1)) (pd_var (pv 1))) (pd_op o_mul (pd_var (pv 2)) (pd_var (pv 2)))) (pd_op o_mul (pd_var (pv 3)) (pd_var (pv 3)))) (pd_op o_mul (pd_var (pv 4)) (pd_var (pv 4)))) (pad_cons (pd_op o_sub (pd_op o_mul (pd_op o_mul pd_int (pd_var (pv 3))) (pd_var (pv 4))) (pd_op o_mul (pd_op o_mul pd_int (pd_var (pv 1))) (pd_var (pv 2)))) pad_nil)))) (pad_cons (pd_tup (pad_cons (pd_op o_sub (pd_op o_mul (pd_op o_mul pd_int (pd_var (pv 2))) (pd_var (pv 4))) (pd_op o_mul (pd_op o_mul pd_int (pd_var (pv 1))) (pd_var (pv 3)))) (pad_cons (pd_op o_add (pd_op o_mul (pd_op o_mul pd_int (pd_var (pv 3))) (pd_var (pv 4))) (pd_op o_mul (pd_op o_mul pd_int (pd_var (pv 1))) (pd_var (pv 2)))) (pad_cons (pd_op o_add (pd_op o_sub (pd_op o_sub (pd_op o_mul (pd_var (pv 1)) (pd_var (pv 1))) (pd_op o_mul (pd_var (pv 2)) (pd_var (pv 2)))) (pd_op o_mul (pd_var (pv 3)) (pd_var (pv 3)))) (pd_op o_mul (pd_var (pv 4)) (pd_var (pv 4)))) pad_nil)))) pad_nil)))))))))), rd_rows_of⟩)
noncomputable def C_divisor_of_two : Con := fun ds Φ => ∃ a b : Int, ds = [.int a, .int b] ∧ Φ (.int (Int.gcd a b : Int))
theorem mono_divisor_of_two : Mono C_divisor_of_two := fun ds Φ Ψ mo h0 => by
  obtain ⟨a, b, e, h⟩ := h0
  exact ⟨a, b, e, mo _ h⟩
noncomputable def b_divisor_of_two_L1_2 : S3 :=
  (sSet 1 (dVar 2))
noncomputable def b_divisor_of_two_L1_1 : S3 :=
  (sSeq (sSet 0 (dVar 1))
  b_divisor_of_two_L1_2)
noncomputable abbrev b_divisor_of_two_L1 : S3 :=
  (sSeq (sSet 2 (dOp (dI (fun _ j => j ≠ 0) fun i j => .int (i.fmod j)) (dVar 0) (dVar 1)))
  b_divisor_of_two_L1_1)
noncomputable def b_divisor_of_two_1 : S3 :=
  (sRet (dB cAbs (aCons (dVar 0) aNil)))
noncomputable abbrev b_divisor_of_two : S3 :=
  (sSeq (sWhile (dT (dOp dNe (dVar 1) (dC (.int 0))))
  b_divisor_of_two_L1)
  b_divisor_of_two_1)
theorem rd_divisor_of_two : ∀ (ds : List D) (Φ : D → Prop), ds.length = 2 → C_divisor_of_two ds Φ → b_divisor_of_two (finD Φ) (startD 3 ds) := by
  rintro ds Φ hl ⟨a, b, rfl, h⟩
  refine while_inv (fun ρ => ∃ (x y : Int) (s : Sl), ρ = [.val (.int x), .val (.int y), s] ∧ Int.gcd x y = Int.gcd a b) (fun ρ => match ρ with | [_, .val (.int y), _] => y.natAbs | _ => 0) ⟨a, b, .un, rfl, rfl⟩ ?_
  rintro ρ ⟨x, y, s, rfl, e⟩
  refine tst (fun hc => ?_) (fun hc => ?_)
  · have hy : y ≠ 0 := by intro z; subst z; simp at hc
    refine ⟨hy, _, ?_, rfl, y, x.fmod y, _, rfl, by rw [gcd_step, e]⟩
    show (x.fmod y).natAbs < y.natAbs
    exact fmod_lt hy
  · have hy : y = 0 := by simpa using hc
    subst hy
    have e2 : (Int.gcd a b : Int) = x.natAbs := by rw [← e]; simp
    rw [e2] at h
    exact h
theorem ok_divisor_of_two {P : Program} {w : World} {K : PySem.W.Frag} {mg : Str → Option Value} {base : Heap} {t : Ad} (T : Txt K mg t) : FnOk P w K mg base CX0 1 t.a_divisor_of_two t.d_divisor_of_two ["one", "other"] (spD K 2 C_divisor_of_two) := by
  have sc := sc_divisor_of_two
  refine fn_ok (k := 0) T.F_divisor_of_two sc_divisor_of_two (fun cdv A outer s H E hr => ⟨b_divisor_of_two, (psd_cons (psd_while PassesOwn.never (pb_cmp o_ne (pd_var (pv 1)) pd_int (nomark _))
  (psd_cons (psd_set (i := 2) sc.nd rfl (loc_of rfl) (pd_op o_mod (pd_var (pv 0)) (pd_var (pv 1))))
  (psd_cons (psd_set (i := 0) sc.nd rfl (loc_of rfl) (pd_var (pv 1)))
  (psd_one (psd_set (i := 1) sc.nd rfl (loc_of rfl) (pd_var (pv 2)))))))
  (psd_one (psd_ret (pd_callB b_abs rfl T.z_abs bt_abs (pad_cons (pd_var (pv 0)) pad_nil))))), rd_divisor_of_two⟩)
noncomputable def C_divisor : Con := fun ds Φ => ∃ ms : List Int, (ds = [.lst (ms.map .int)] ∨ ds = [.tup (ms.map .int)]) ∧ Φ (.int (gcdL ms))
theorem mono_divisor : Mono C_divisor := fun ds Φ Ψ mo h0 => by
  obtain ⟨ms, e, h⟩ := h0
  exact ⟨ms, e, mo _ h⟩
theorem divisor_loop {Φ : D → Prop} {ms : List Int} {d0 : D} (h : Φ (.int (gcdL ms))) : ∀ (qs : List Int) (g : Int) (s : Sl), qs.foldl (fun g x => (Int.gcd g x : Int)) g = gcdL ms →
    FOR (gN 2) (sSet 1 (dCall 2 C_divisor_of_two (aCons (dVar 1) (aCons (dVar 2) aNil)))) (qs.map D.int) (thenS (sRet (dVar 1)) (finD Φ)) [.val d0, .val (.int g), s]
  | [], g, s, e => by
    show Φ (.int g)
    have e : g = gcdL ms := e
    rw [e]; exact h
  | q :: qs, g, s, e => ⟨rfl, g, q, rfl, divisor_loop h qs (Int.gcd g q) _ e⟩
noncomputable abbrev b_divisor_L1 : S3 :=
  (sSet 1 (dCall 2 C_divisor_of_two (aCons (dVar 1) (aCons (dVar 2) aNil))))
noncomputable def b_divisor_2 : S3 :=
  (sRet (dVar 1))
noncomputable def b_divisor_1 : S3 :=
  (sSeq (sFor (iLT (dVar 0)) (gN 2)
  b_divisor_L1)
  b_divisor_2)
noncomputable abbrev b_divisor : S3 :=
  (sSeq (sSet 1 (dC (.int 0)))
  b_divisor_1)
theorem rd_divisor : ∀ (ds : List D) (Φ : D → Prop), ds.length = 1 → C_divisor ds Φ → b_divisor (finD Φ) (startD 3 ds) := by
  rintro ds Φ hl ⟨ms, rfl | rfl, h⟩
  · exact divisor_loop h ms 0 .un rfl
  · exact divisor_loop h ms 0 .un rfl
theorem ok_divisor {P : Program} {w : World} {K : PySem.W.Frag} {mg : Str → Option Value} {base : Heap} {t : Ad} (T : Txt K mg t) : FnOk P w K mg base CX0 2 t.a_divisor t.d_divisor ["numbers"] (spD K 1 C_divisor) := by
  have sc := sc_divisor
  refine fn_ok (k := 1) T.F_divisor sc_divisor (fun cdv A outer s H E hr => ⟨b_divisor, (psd_cons (psd_set (i := 1) sc.nd rfl (loc_of rfl) pd_int)
  (psd_cons (psd_for PassesOwn.never rfl (pid_seq (pd_var (pv 0))) (pgd_name (i := 2) sc.nd rfl (loc_of rfl))
  (psd_one (psd_set (i := 1) sc.nd rfl (loc_of rfl) (pd_call (ok_divisor_of_two T) mono_divisor_of_two (hr.mono (by decide)) rfl T.m_divisor_of_two T.F_divisor_of_two.kp T.b_divisor_of_two (pad_cons (pd_var (pv 1)) (pad_cons (pd_var (pv 2)) pad_nil))))))
  (psd_one (psd_ret (pd_var (pv 1)))))), rd_divisor⟩)
noncomputable def C_table_divisor : Con := fun ds Φ => ∃ (t : T9), ds = [tr t, .int t.n] ∧ Φ (.int (gcdL (tl t)))
theorem mono_table_divisor : Mono C_table_divisor := fun ds Φ Ψ mo h0 => by
  obtain ⟨t, a, h⟩ := h0
  exact ⟨t, a, mo _ h⟩
noncomputable abbrev b_table_divisor : S3 :=
  (sRet (dCall 1 C_divisor (aCons (dOp dCatT (dOp dCatT (dOp dCatT (dOp dIx (dVar 0) (dC (.int 0))) (dOp dIx (dVar 0) (dC (.int 1)))) (dOp dIx (dVar 0) (dC (.int 2)))) (dTup (aCons (dVar 1) aNil))) aNil)))
theorem rd_table_divisor : ∀ (ds : List D) (Φ : D → Prop), ds.length = 2 → C_table_divisor ds Φ → b_table_divisor (finD Φ) (startD 2 ds) := by
  rintro ds Φ hl ⟨t, rfl, h⟩
  exact ⟨sl_le 6 rfl (by decide), sl_le 9 rfl (by decide), sl_le 1 rfl (by decide), sl_le 10 rfl (by decide), rfl, tl t, .inr rfl, h⟩
theorem ok_table_divisor {P : Program} {w : World} {K : PySem.W.Frag} {mg : Str → Option Value} {base : Heap} {t : Ad} (T : Txt K mg t) : FnOk P w K mg base CX0 3 t.a_table_divisor t.d_table_divisor ["rows", "bottom"] (spD K 2 C_table_divisor) := by
  have sc := sc_table_divisor
  refine fn_ok (k := 2) T.F_table_divisor sc_table_divisor (fun cdv A outer s H E hr => ⟨b_table_divisor, (psd_one (psd_ret (pd_call (ok_divisor T) mono_divisor (hr.mono (by decide)) rfl T.m_divisor T.F_divisor.kp T.b_divisor (pad_cons (pd_op o_catT (pd_op o_catT (pd_op o_catT (pd_ix (pd_var (pv 0)) pd_int (fun _ _ => rfl)) (pd_ix (pd_var (pv 0)) pd_int (fun _ _ => rfl))) (pd_ix (pd_var (pv 0)) pd_int (fun _ _ => rfl))) (pd_tup (pad_cons (pd_var (pv 1)) pad_nil))) pad_nil)))), rd_table_divisor⟩)
noncomputable def C_turn_of : Con := fun ds Φ => ∃ (q : Q4) (k : Nat), ds = [qd q] ∧ q ≠ q0 ∧ k ≤ 4000 ∧ Bq k q ∧ Φ (tb (turnT q))
theorem mono_turn_of : Mono C_turn_of := fun ds Φ Ψ mo h0 => by
  obtain ⟨q, k, a, b, c, d, h⟩ := h0
  exact ⟨q, k, a, b, c, d, mo _ h⟩
noncomputable def b_turn_of_4 : S3 :=
  (sRet (dTup (aCons (dTup (aCons (dCall 2 C_row_over (aCons (dOp dIx (dVar 2) (dC (.int 0))) (aCons (dVar 3) aNil))) (aCons (dCall 2 C_row_over (aCons (dOp dIx (dVar 2) (dC (.int 1))) (aCons (dVar 3) aNil))) (aCons (dCall 2 C_row_over (aCons (dOp dIx (dVar 2) (dC (.int 2))) (aCons (dVar 3) aNil))) aNil)))) (aCons (dOp (dI CD fun i j => .int (i.fdiv j)) (dVar 1) (dVar 3)) aNil))))
noncomputable def b_turn_of_3 : S3 :=
  (sSeq (sSet 3 (dCall 2 C_table_divisor (aCons (dVar 2) (aCons (dVar 1) aNil))))
  b_turn_of_4)
noncomputable def b_turn_of_2 : S3 :=
  (sSeq (sSet 2 (dCall 1 C_rows_of (aCons (dVar 0) aNil)))
  b_turn_of_3)
noncomputable def b_turn_of_1 : S3 :=
  (sSeq (sIf (dT (dOp dEq (dVar 1) (dC (.int 0))))
  sNever
  sNext)
  b_turn_of_2)
noncomputable abbrev b_turn_of : S3 :=
  (sSeq (sSet 1 (dCall 1 C_size (aCons (dVar 0) aNil)))
  b_turn_of_1)
theorem rd_turn_of : ∀ (ds : List D) (Φ : D → Prop), ds.length = 1 → C_turn_of ds Φ → b_turn_of (finD Φ) (startD 4 ds) := by
  rintro ds Φ hl ⟨q, k, rfl, h0, hk, bq, h⟩
  have np := qsize_pos h0
  obtain ⟨gp, gb⟩ := gcdL_tl (by rw [rawT_n]; omega) (rawT_bd bq)
  have g0 : gcdL (tl (rawT q)) ≠ 0 := by omega
  refine ⟨rfl, q, k, rfl, by omega, bq, ?_⟩
  show b_turn_of_1 (finD Φ) [.val (qd q), .val (.int (qsize q)), .un, .un]
  unfold b_turn_of_1
  refine tF (decide_eq_false (by omega)) ?_
  refine ⟨rfl, q, k, rfl, hk, bq, rfl, rawT q, rfl, ?_⟩
  show b_turn_of_4 (finD Φ) [.val (qd q), .val (.int (qsize q)), .val (tr (rawT q)), .val (.int (gcdL (tl (rawT q))))]
  have h : Φ (tb (divT (rawT q) (gcdL (tl (rawT q))))) := h
  have hk9 : 2 * k + 3 ≤ 9000 := by omega
  generalize gcdL (tl (rawT q)) = g at *
  generalize hrw : rawT q = t at *
  have tn : qsize q = t.n := by rw [← hrw]; rfl
  rw [tn]
  refine ⟨rfl, [t.p.x, t.p.y, t.p.z], g, 2 * k + 3, rfl, (show 3 ≤ 100 by decide), g0, hk9, gb, ?_⟩
  refine ⟨rfl, [t.q.x, t.q.y, t.q.z], g, 2 * k + 3, rfl, (show 3 ≤ 100 by decide), g0, hk9, gb, ?_⟩
  refine ⟨rfl, [t.r.x, t.r.y, t.r.z], g, 2 * k + 3, rfl, (show 3 ≤ 100 by decide), g0, hk9, gb, ?_⟩
  exact ⟨sl_le 3 rfl (by decide), cd_of g0 gb hk9, sl_le 2 rfl (by decide), h⟩
theorem ok_turn_of {P : Program} {w : World} {K : PySem.W.Frag} {mg : Str → Option Value} {base : Heap} {t : Ad} (T : Txt K mg t) : FnOk P w K mg base CX0 4 t.a_turn_of t.d_turn_of ["quad"] (spD K 1 C_turn_of) := by
  have sc := sc_turn_of
  refine fn_ok (k := 3) T.F_turn_of sc_turn_of (fun cdv A outer s H E hr => ⟨b_turn_of, (psd_cons (psd_set (i := 1) sc.nd rfl (loc_of rfl) (pd_call (ok_size T) mono_size (hr.mono (by decide)) rfl T.m_size T.F_size.kp T.b_size (pad_cons (pd_var (pv 0)) pad_nil)))
  (psd_cons (psd_if (pb_cmp o_eq (pd_var (pv 1)) pd_int (nomark _))
  (psd_one psd_never)
  psd_nil)
  (psd_cons (psd_set (i := 2) sc.nd rfl (loc_of rfl) (pd_call (ok_rows_of T) mono_rows_of (hr.mono (by decide)) rfl T.m_rows_of T.F_rows_of.kp T.b_rows_of (pad_cons (pd_var (pv 0)) pad_nil)))
  (psd_cons (psd_set (i := 3) sc.nd rfl (loc_of rfl) (pd_call (ok_table_divisor T) mono_table_divisor (hr.mono (by decide)) rfl T.m_table_divisor T.F_table_divisor.kp T.b_table_divisor (pad_cons (pd_var (pv 2)) (pad_cons (pd_var (pv 1)) pad_nil))))
  (psd_one (psd_ret (pd_tup (pad_cons (pd_tup (pad_cons (pd_call (ok_row_over T) mono_row_over (hr.mono (by decide)) rfl T.m_row_over T.F_row_over.kp T.b_row_over (pad_cons (pd_ix (pd_var (pv 2)) pd_int (fun _ _ => rfl)) (pad_cons (pd_var (pv 3)) pad_nil))) (pad_cons (pd_call (ok_row_over T) mono_row_over (hr.mono (by decide)) rfl T.m_row_over T.F_row_over.kp T.b_row_over (pad_cons (pd_ix (pd_var (pv 2)) pd_int (fun _ _ => rfl)) (pad_cons (pd_var (pv 3)) pad_nil))) (pad_cons (pd_call (ok_row_over T) mono_row_over (hr.mono (by decide)) rfl T.m_row_over T.F_row_over.kp T.b_row_over (pad_cons (pd_ix (pd_var (pv 2)) pd_int (fun _ _ => rfl)) (pad_cons (pd_var (pv 3)) pad_nil))) pad_nil)))) (pad_cons (pd_op o_fdiv (pd_var (pv 1)) (pd_var (pv 3))) pad_nil))))))))), rd_turn_of⟩)
noncomputable def C_leads_below_nought : Con := fun ds Φ => ∃ q : Q4, ds = [qd q] ∧ Φ (.bl (low q))
theorem mono_leads_below_nought : Mono C_leads_below_nought := fun ds Φ Ψ mo h0 => by
  obtain ⟨q, a, h⟩ := h0
  exact ⟨q, a, mo _ h⟩
noncomputable abbrev b_leads_below_nought : S3 :=
  (sRet (dOp dLtT (dVar 0) (dTup (aCons (dC (.int 0)) (aCons (dC (.int 0)) (aCons (dC (.int 0)) (aCons (dC (.int 0)) aNil)))))))
theorem rd_leads_below_nought : ∀ (ds : List D) (Φ : D → Prop), ds.length = 1 → C_leads_below_nought ds Φ → b_leads_below_nought (finD Φ) (startD 1 ds) := by
  rintro ds Φ hl ⟨q, rfl, h⟩
  exact ⟨sl_le 4 rfl (by decide), ql q, [0, 0, 0, 0], rfl, rfl, h⟩
theorem ok_leads_below_nought {P : Program} {w : World} {K : PySem.W.Frag} {mg : Str → Option Value} {base : Heap} {t : Ad} (T : Txt K mg t) : FnOk P w K mg base CX0 1 t.a_leads_below_nought t.d_leads_below_nought ["quad"] (spD K 1 C_leads_below_nought) := by
  have sc := sc_leads_below_nought
  refine fn_ok (k := 0) T.F_leads_below_nought sc_leads_below_nought (fun cdv A outer s H E hr => ⟨b_leads_below_nought, (psd_one (psd_ret (pd_cmp (o_ltT (hu3 hr)) (pd_var (pv 0)) (pd_tup (pad_cons pd_int (pad_cons pd_int (pad_cons pd_int (pad_cons pd_int pad_nil))))) (nomark _)))), rd_leads_below_nought⟩)
noncomputable def C_plain : Con := fun ds Φ => ∃ (q : Q4) (k : Nat), ds = [qd q] ∧ k ≤ 9000 ∧ Bq k q ∧ q ≠ q0 ∧ Φ (qd (qplain q))
theorem mono_plain : Mono C_plain := fun ds Φ Ψ mo h0 => by
  obtain ⟨q, k, a, b, c, d, h⟩ := h0
  exact ⟨q, k, a, b, c, d, mo _ h⟩
noncomputable def b_plain_3 : S3 :=
  (sRet (dCall 2 C_row_over (aCons (dVar 0) (aCons (dVar 1) aNil))))
noncomputable def b_plain_2 : S3 :=
  (sSeq (sIf (dT (dCall 1 C_leads_below_nought (aCons (dVar 0) aNil)))
  (sSet 1 (dU dNeg (dVar 1)))
  sNext)
  b_plain_3)
noncomputable def b_plain_1 : S3 :=
  (sSeq (sIf (dT (dOp dEq (dVar 1) (dC (.int 0))))
  sNever
  sNext)
  b_plain_2)
noncomputable abbrev b_plain : S3 :=
  (sSeq (sSet 1 (dCall 1 C_divisor (aCons (dVar 0) aNil)))
  b_plain_1)
theorem rd_plain : ∀ (ds : List D) (Φ : D → Prop), ds.length = 1 → C_plain ds Φ → b_plain (finD Φ) (startD 2 ds) := by
  rintro ds Φ hl ⟨q, k, rfl, hk, bq, h0, h⟩
  have gz : gcdL (ql q) ≠ 0 := fun z => h0 (ql_zero z)
  try unfold b_plain; try unfold b_plain_1; try unfold b_plain_2; try unfold b_plain_3
  refine ⟨rfl, ql q, .inr rfl, tF (decide_eq_false gz) ?_⟩
  refine ⟨rfl, q, rfl, tst (fun hc => ?_) (fun hc => ?_)⟩
  · have e : shr q = -gcdL (ql q) := by unfold shr; rw [if_pos hc]
    have hn := shr_ne h0
    have hb := shr_bd bq
    have h : Φ (.tup (((ql q).map (·.fdiv (shr q))).map .int)) := h
    rw [e] at hn hb h
    exact ⟨rfl, ql q, -gcdL (ql q), k, rfl, (show 4 ≤ 100 by decide), hn, hk, hb, h⟩
  · have e : shr q = gcdL (ql q) := by unfold shr; rw [if_neg (by rw [hc]; decide)]
    have hn := shr_ne h0
    have hb := shr_bd bq
    have h : Φ (.tup (((ql q).map (·.fdiv (shr q))).map .int)) := h
    rw [e] at hn hb h
    exact ⟨rfl, ql q, gcdL (ql q), k, rfl, (show 4 ≤ 100 by decide), hn, hk, hb, h⟩
theorem ok_plain {P : Program} {w : World} {K : PySem.W.Frag} {mg : Str → Option Value} {base : Heap} {t : Ad} (T : Txt K mg t) : FnOk P w K mg base CX0 3 t.a_plain t.d_plain ["quad"] (spD K 1 C_plain) := by
  have sc := sc_plain
  refine fn_ok (k := 2) T.F_plain sc_plain (fun cdv A outer s H E hr => ⟨b_plain, (psd_cons (psd_set (i := 1) sc.nd rfl (loc_of rfl) (pd_call (ok_divisor T) mono_divisor (hr.mono (by decide)) rfl T.m_divisor T.F_divisor.kp T.b_divisor (pad_cons (pd_var (pv 0)) pad_nil)))
  (psd_cons (psd_if (pb_cmp o_eq (pd_var (pv 1)) pd_int (nomark _))
  (psd_one psd_never)
  psd_nil)
  (psd_cons (psd_if (pb_val (pd_call (ok_leads_below_nought T) mono_leads_below_nought (hr.mono (by decide)) rfl T.m_leads_below_nought T.F_leads_below_nought.kp T.b_leads_below_nought (pad_cons (pd_var (pv 0)) pad_nil)))
  (psd_one (psd_set (i := 1) sc.nd rfl (loc_of rfl) (pd_neg (pd_var (pv 1)))))
  psd_nil)
  (psd_one (psd_ret (pd_call (ok_row_over T) mono_row_over (hr.mono (by decide)) rfl T.m_row_over T.F_row_over.kp T.b_row_over (pad_cons (pd_var (pv 0)) (pad_cons (pd_var (pv 1)) pad_nil)))))))), rd_plain⟩)
noncomputable def C_multiples_of_quad : Con := fun ds Φ => ∃ t : T9, ds = [tb t] ∧ Φ (.lst [qd (m1 t), qd (m2 t), qd (m3 t), qd (m4 t)])
theorem mono_multiples_of_quad : Mono C_multiples_of_quad := fun ds Φ Ψ mo h0 => by
  obtain ⟨t, a, h⟩ := h0
  exact ⟨t, a, mo _ h⟩
noncomputable def b_multiples_of_quad_11 : S3 :=
  (sRet (dF (fLst (aCons (dTup (aCons (dOp (dI0 fun i j => .int (i + j)) (dOp (dI0 fun i j => .int (i + j)) (dOp (dI0 fun i j => .int (i + j)) (dVar 2) (dVar 3)) (dVar 4)) (dVar 5)) (aCons (dVar 6) (aCons (dVar 7) (aCons (dVar 8) aNil))))) (aCons (dTup (aCons (dVar 6) (aCons (dOp (dI0 fun i j => .int (i - j)) (dOp (dI0 fun i j => .int (i - j)) (dOp (dI0 fun i j => .int (i + j)) (dVar 2) (dVar 3)) (dVar 4)) (dVar 5)) (aCons (dVar 9) (aCons (dVar 10) aNil))))) (aCons (dTup (aCons (dVar 7) (aCons (dVar 9) (aCons (dOp (dI0 fun i j => .int (i - j)) (dOp (dI0 fun i j => .int (i + j)) (dOp (dI0 fun i j => .int (i - j)) (dVar 2) (dVar 3)) (dVar 4)) (dVar 5)) (aCons (dVar 11) aNil))))) (aCons (dTup (aCons (dVar 8) (aCons (dVar 10) (aCons (dVar 11) (aCons (dOp (dI0 fun i j => .int (i + j)) (dOp (dI0 fun i j => .int (i - j)) (dOp (dI0 fun i j => .int (i - j)) (dVar 2) (dVar 3)) (dVar 4)) (dVar 5)) aNil))))) aNil)))))))
noncomputable def b_multiples_of_quad_10 : S3 :=
  (sSeq (sSet 11 (dOp (dI0 fun i j => .int (i + j)) (dOp dIx (dOp dIx (dVar 1) (dC (.int 2))) (dC (.int 1))) (dOp dIx (dOp dIx (dVar 1) (dC (.int 1))) (dC (.int 2)))))
  b_multiples_of_quad_11)
noncomputable def b_multiples_of_quad_9 : S3 :=
  (sSeq (sSet 10 (dOp (dI0 fun i j => .int (i + j)) (dOp dIx (dOp dIx (dVar 1) (dC (.int 0))) (dC (.int 2))) (dOp dIx (dOp dIx (dVar 1) (dC (.int 2))) (dC (.int 0)))))
  b_multiples_of_quad_10)
noncomputable def b_multiples_of_quad_8 : S3 :=
  (sSeq (sSet 9 (dOp (dI0 fun i j => .int (i + j)) (dOp dIx (dOp dIx (dVar 1) (dC (.int 1))) (dC (.int 0))) (dOp dIx (dOp dIx (dVar 1) (dC (.int 0))) (dC (.int 1)))))
  b_multiples_of_quad_9)
noncomputable def b_multiples_of_quad_7 : S3 :=
  (sSeq (sSet 8 (dOp (dI0 fun i j => .int (i - j)) (dOp dIx (dOp dIx (dVar 1) (dC (.int 1))) (dC (.int 0))) (dOp dIx (dOp dIx (dVar 1) (dC (.int 0))) (dC (.int 1)))))
  b_multiples_of_quad_8)
noncomputable def b_multiples_of_quad_6 : S3 :=
  (sSeq (sSet 7 (dOp (dI0 fun i j => .int (i - j)) (dOp dIx (dOp dIx (dVar 1) (dC (.int 0))) (dC (.int 2))) (dOp dIx (dOp dIx (dVar 1) (dC (.int 2))) (dC (.int 0)))))
  b_multiples_of_quad_7)
noncomputable def b_multiples_of_quad_5 : S3 :=
  (sSeq (sSet 6 (dOp (dI0 fun i j => .int (i - j)) (dOp dIx (dOp dIx (dVar 1) (dC (.int 2))) (dC (.int 1))) (dOp dIx (dOp dIx (dVar 1) (dC (.int 1))) (dC (.int 2)))))
  b_multiples_of_quad_6)
noncomputable def b_multiples_of_quad_4 : S3 :=
  (sSeq (sSet 5 (dOp dIx (dOp dIx (dVar 1) (dC (.int 2))) (dC (.int 2))))
  b_multiples_of_quad_5)
noncomputable def b_multiples_of_quad_3 : S3 :=
  (sSeq (sSet 4 (dOp dIx (dOp dIx (dVar 1) (dC (.int 1))) (dC (.int 1))))
  b_multiples_of_quad_4)
noncomputable def b_multiples_of_quad_2 : S3 :=
  (sSeq (sSet 3 (dOp dIx (dOp dIx (dVar 1) (dC (.int 0))) (dC (.int 0))))
  b_multiples_of_quad_3)
noncomputable def b_multiples_of_quad_1 : S3 :=
  (sSeq (sSet 2 (dOp dIx (dVar 0) (dC (.int 1))))
  b_multiples_of_quad_2)
noncomputable abbrev b_multiples_of_quad : S3 :=
  (sSeq (sSet 1 (dOp dIx (dVar 0) (dC (.int 0))))
  b_multiples_of_quad_1)
theorem rd_multiples_of_quad : ∀ (ds : List D) (Φ : D → Prop), ds.length = 1 → C_multiples_of_quad ds Φ → b_multiples_of_quad (finD Φ) (startD 12 ds) := by
  rintro ds Φ hl ⟨t, rfl, h⟩
  show b_multiples_of_quad_2 (finD Φ) [.val (tb t), .val (tr t), .val (.int t.n), .un, .un, .un, .un, .un, .un, .un, .un, .un]
  show b_multiples_of_quad_5 (finD Φ) [.val (tb t), .val (tr t), .val (.int t.n), .val (.int t.p.x), .val (.int t.q.y), .val (.int t.r.z), .un, .un, .un, .un, .un, .un]
  show b_multiples_of_quad_8 (finD Φ) [.val (tb t), .val (tr t), .val (.int t.n), .val (.int t.p.x), .val (.int t.q.y), .val (.int t.r.z), .val (.int (t.r.y - t.q.z)), .val (.int (t.p.z - t.r.x)), .val (.int (t.q.x - t.p.y)), .un, .un, .un]
  show b_multiples_of_quad_11 (finD Φ) [.val (tb t), .val (tr t), .val (.int t.n), .val (.int t.p.x), .val (.int t.q.y), .val (.int t.r.z), .val (.int (t.r.y - t.q.z)), .val (.int (t.p.z - t.r.x)), .val (.int (t.q.x - t.p.y)), .val (.int (t.q.x + t.p.y)), .val (.int (t.p.z + t.r.x)), .val (.int (t.r.y + t.q.z))]
  exact ⟨sl_le 4 rfl (by decide), sl_le 4 rfl (by decide), sl_le 4 rfl (by decide), sl_le 4 rfl (by decide), sl_le 4 rfl (by decide), h⟩
theorem ok_multiples_of_quad {P : Program} {w : World} {K : PySem.W.Frag} {mg : Str → Option Value} {base : Heap} {t : Ad} (T : Txt K mg t) : FnOk P w K mg base CX0 1 t.a_multiples_of_quad t.d_multiples_of_quad ["turn"] (spD K 1 C_multiples_of_quad) := by
  have sc := sc_multiples_of_quad
  refine fn_ok (k := 0) T.F_multiples_of_quad sc_multiples_of_quad (fun cdv A outer s H E hr => ⟨b_multiples_of_quad, (psd_cons (psd_set (i := 1) sc.nd rfl (loc_of rfl) (pd_ix (pd_var (pv 0)) pd_int (fun _ _ => rfl)))
  (psd_cons (psd_set (i := 2) sc.nd rfl (loc_of rfl) (pd_ix (pd_var (pv 0)) pd_int (fun _ _ => rfl)))
  (psd_cons (psd_set (i := 3) sc.nd rfl (loc_of rfl) (pd_ix (pd_ix (pd_var (pv 1)) pd_int (fun _ _ => rfl)) pd_int (fun _ _ => rfl)))
  (psd_cons (psd_set (i := 4) sc.nd rfl (loc_of rfl) (pd_ix (pd_ix (pd_var (pv 1)) pd_int (fun _ _ => rfl)) pd_int (fun _ _ => rfl)))
  (psd_cons (psd_set (i := 5) sc.nd rfl (loc_of rfl) (pd_ix (pd_ix (pd_var (pv 1)) pd_int (fun _ _ => rfl)) pd_int (fun _ _ => rfl)))
  (psd_cons (psd_set (i := 6) sc.nd rfl (loc_of rfl) (pd_op o_sub (pd_ix (pd_ix (pd_var (pv 1)) pd_int (fun _ _ => rfl)) pd_int (fun _ _ => rfl)) (pd_ix (pd_ix (pd_var (pv 1)) pd_int (fun _ _ => rfl)) pd_int (fun _ _ => rfl))))
  (psd_cons (psd_set (i := 7) sc.nd rfl (loc_of rfl) (pd_op o_sub (pd_ix (pd_ix (pd_var (pv 1)) pd_int (fun _ _ => rfl)) pd_int (fun _ _ => rfl)) (pd_ix (pd_ix (pd_var (pv 1)) pd_int (fun _ _ => rfl)) pd_int (fun _ _ => rfl))))
  (psd_cons (psd_set (i := 8) sc.nd rfl (loc_of rfl) (pd_op o_sub (pd_ix (pd_ix (pd_var (pv 1)) pd_int (fun _ _ => rfl)) pd_int (fun _ _ => rfl)) (pd_ix (pd_ix (pd_var (pv 1)) pd_int (fun _ _ => rfl)) pd_int (fun _ _ => rfl))))
  (psd_cons (psd_set (i := 9) sc.nd rfl (loc_of rfl) (pd_op o_add (pd_ix (pd_ix (pd_var (pv 1)) pd_int (fun _ _ => rfl)) pd_int (fun _ _ => rfl)) (pd_ix (pd_ix (pd_var (pv 1)) pd_int (fun _ _ => rfl)) pd_int (fun _ _ => rfl))))
  (psd_cons (psd_set (i := 10) sc.nd rfl (loc_of rfl) (pd_op o_add (pd_ix (pd_ix (pd_var (pv 1)) pd_int (fun _ _ => rfl)) pd_int (fun _ _ => rfl)) (pd_ix (pd_ix (pd_var (pv 1)) pd_int (fun _ _ => rfl)) pd_int (fun _ _ => rfl))))
  (psd_cons (psd_set (i := 11) sc.nd rfl (loc_of rfl) (pd_op o_add (pd_ix (pd_ix (pd_var (pv 1)) pd_int (fun _ _ => rfl)) pd_int (fun _ _ => rfl)) (pd_ix (pd_ix (pd_var (pv 1)) pd_int (fun _ _ => rfl)) pd_int (fun _ _ => rfl))))
  (psd_one (psd_ret (pd_new (pf_lst (pad_cons (pd_tup (pad_cons (pd_op o_add (pd_op o_add (pd_op o_add (pd_var (pv 2)) (pd_var (pv 3))) (pd_var (pv 4))) (pd_var (pv 5))) (pad_cons (pd_var (pv 6)) (pad_cons (pd_var (pv 7)) (pad_cons (pd_var (pv 8)) pad_nil))))) (pad_cons (pd_tup (pad_cons (pd_var (pv 6)) (pad_cons (pd_op o_sub (pd_op o_sub (pd_op o_add (pd_var (pv 2)) (pd_var (pv 3))) (pd_var (pv 4))) (pd_var (pv 5))) (pad_cons (pd_var (pv 9)) (pad_cons (pd_var (pv 10)) pad_nil))))) (pad_cons (pd_tup (pad_cons (pd_var (pv 7)) (pad_cons (pd_var (pv 9)) (pad_cons (pd_op o_sub (pd_op o_add (pd_op o_sub (pd_var (pv 2)) (pd_var (pv 3))) (pd_var (pv 4))) (pd_var (pv 5))) (pad_cons (pd_var (pv 11)) pad_nil))))) (pad_cons (pd_tup (pad_cons (pd_var (pv 8)) (pad_cons (pd_var (pv 10)) (pad_cons (pd_var (pv 11)) (pad_cons (pd_op o_add (pd_op o_sub (pd_op o_sub (pd_var (pv 2)) (pd_var (pv 3))) (pd_var (pv 4))) (pd_var (pv 5))) pad_nil))))) pad_nil))))))))))))))))))), rd_multiples_of_quad⟩)
noncomputable def C_quad_of : Con := fun ds Φ => ∃ (t : T9) (q : Q4) (k : Nat), ds = [tb t] ∧ t = turnT q ∧ q ≠ q0 ∧ k ≤ 4000 ∧ Bt k t ∧ Φ (qd (qplain q))
theorem mono_quad_of : Mono C_quad_of := fun ds Φ Ψ mo h0 => by
  obtain ⟨t, q, k, a, b, c, d, e, h⟩ := h0
  exact ⟨t, q, k, a, b, c, d, e, mo _ h⟩
noncomputable abbrev b_quad_of : S3 :=
  (sRet (dCall 1 C_plain (aCons (dMaxK C_size (dCall 1 C_multiples_of_quad (aCons (dVar 0) aNil))) aNil)))
theorem rd_quad_of : ∀ (ds : List D) (Φ : D → Prop), ds.length = 1 → C_quad_of ds Φ → b_quad_of (finD Φ) (startD 1 ds) := by
  rintro ds Φ hl ⟨t, q, k, rfl, rfl, h0, hk, bt, h⟩
  obtain ⟨b1, b2, b3, b4⟩ := m_bd bt
  obtain ⟨g, hg, e1, e2, e3, e4⟩ := mults h0
  have best := fun m => some_mult (m := m) h0
  refine ⟨rfl, turnT q, rfl, ?_⟩
  generalize m1 (turnT q) = m1 at *
  generalize m2 (turnT q) = m2 at *
  generalize m3 (turnT q) = m3 at *
  generalize m4 (turnT q) = m4 at *
  refine ⟨[qsize m1, qsize m2, qsize m3, qsize m4], List.cons_ne_nil _ _, rfl, fun i d n hd hn => ?_, fun i d n hd hn hx => ⟨rfl, ?_⟩⟩
  · rcases i with _ | _ | _ | _ | i
    · obtain rfl := Option.some.inj hd; obtain rfl := Option.some.inj hn; exact ⟨m1, k + 3, rfl, by omega, b1, rfl⟩
    · obtain rfl := Option.some.inj hd; obtain rfl := Option.some.inj hn; exact ⟨m2, k + 3, rfl, by omega, b2, rfl⟩
    · obtain rfl := Option.some.inj hd; obtain rfl := Option.some.inj hn; exact ⟨m3, k + 3, rfl, by omega, b3, rfl⟩
    · obtain rfl := Option.some.inj hd; obtain rfl := Option.some.inj hn; exact ⟨m4, k + 3, rfl, by omega, b4, rfl⟩
    · cases hd
  · have x1 := hx (qsize m1) (by simp); have x2 := hx (qsize m2) (by simp); have x3 := hx (qsize m3) (by simp); have x4 := hx (qsize m4) (by simp)
    rcases i with _ | _ | _ | _ | i
    · obtain rfl := Option.some.inj hd; obtain rfl := Option.some.inj hn
      have ne := best m1 x1 x2 x3 x4
      refine ⟨m1, k + 3, rfl, by omega, b1, ne, ?_⟩
      rw [plain_mult hg e1 ne h0]; exact h
    · obtain rfl := Option.some.inj hd; obtain rfl := Option.some.inj hn
      have ne := best m2 x1 x2 x3 x4
      refine ⟨m2, k + 3, rfl, by omega, b2, ne, ?_⟩
      rw [plain_mult hg e2 ne h0]; exact h
    · obtain rfl := Option.some.inj hd; obtain rfl := Option.some.inj hn
      have ne := best m3 x1 x2 x3 x4
      refine ⟨m3, k + 3, rfl, by omega, b3, ne, ?_⟩
      rw [plain_mult hg e3 ne h0]; exact h
    · obtain rfl := Option.some.inj hd; obtain rfl := Option.some.inj hn
      have ne := best m4 x1 x2 x3 x4
      refine ⟨m4, k + 3, rfl, by omega, b4, ne, ?_⟩
      rw [plain_mult hg e4 ne h0]; exact h
    · cases hd
theorem ok_quad_of {P : Program} {w : World} {K : PySem.W.Frag} {mg : Str → Option Value} {base : Heap} {t : Ad} (T : Txt K mg t) : FnOk P w K mg base CX0 4 t.a_quad_of t.d_quad_of ["turn"] (spD K 1 C_quad_of) := by
  have sc := sc_quad_of
  refine fn_ok (k := 3) T.F_quad_of sc_quad_of (fun cdv A outer s H E hr => ⟨b_quad_of, (psd_one (psd_ret (pd_call (ok_plain T) mono_plain (hr.mono (by decide)) rfl T.m_plain T.F_plain.kp T.b_plain (pad_cons (pd_maxK (ok_size T) mono_size (hr.mono (by decide)) T.b_size rfl rfl T.z_max bt_max rfl T.m_size (pd_call (ok_multiples_of_quad T) mono_multiples_of_quad (hr.mono (by decide)) rfl T.m_multiples_of_quad T.F_multiples_of_quad.kp T.b_multiples_of_quad (pad_cons (pd_var (pv 0)) pad_nil))) pad_nil)))), rd_quad_of⟩)
noncomputable def C_parted : Con := fun ds Φ => ∃ (t : T9) (q : Q4) (ns : List Int), ds = [tb t, .lst (ns.map .int)] ∧ t = turnT q ∧ q ≠ q0 ∧ Bq 400 q ∧ ns.length ≤ 100 ∧ Parts t.n ns ∧ ∀ ps : List Q4, (ps.map fun s => (turnT s).n) = ns ++ [1] → (∀ s ∈ ps, s ≠ q0) → (∀ s ∈ ps, Bq 500 s) → turnT (prodQ ps) = t → Φ (.lst (ps.map fun s => tb (turnT s)))
theorem mono_parted : Mono C_parted := fun ds Φ Ψ mo h0 => by
  obtain ⟨t, q, ns, a, b, c, d, e, f, h⟩ := h0
  exact ⟨t, q, ns, a, b, c, d, e, f, fun ps h1 h2 h3 h4 => mo _ (h ps h1 h2 h3 h4)⟩
theorem le_mul1 {x y : Int} (hx : 0 ≤ x) (hy : 1 ≤ y) : x ≤ x * y := by
  have := Int.mul_le_mul_of_nonneg_left hy hx
  rwa [Int.mul_one] at this
theorem one_pow2 (i : Nat) : (1 : Int) ≤ 2 ^ i := by exact_mod_cast Nat.one_le_two_pow
theorem part_le {x p w N h : Int} (hx : 1 ≤ x) (hp : 0 < p) (hw : 1 ≤ w) (e : h = x * p * w) (le : h ≤ N) : x ≤ N ∧ p * w ≤ N ∧ 0 < p * w := by
  have x0 : 0 ≤ x := Int.le_trans (by decide) hx
  have p0 := Int.le_of_lt hp
  have a := le_mul1 x0 (show 1 ≤ p from hp)
  have b := le_mul1 (Int.mul_nonneg x0 p0) hw
  have d := le_mul1 p0 hw
  have f := le_mul1 (Int.mul_nonneg p0 (Int.le_trans (by decide) hw)) hx
  rw [show p * w * x = x * p * w by rw [Int.mul_comm, Int.mul_assoc]] at f
  rw [e] at le
  exact ⟨Int.le_trans (Int.le_trans a b) le, Int.le_trans f le, Int.lt_of_lt_of_le hp d⟩
theorem four_mul2 {h m : Int} {i : Nat} (e : h = m * 2 ^ i) : 4 * h = m * 2 ^ (i + 2) := by
  rw [e, Int.pow_succ, Int.pow_succ]; grind
theorem heavy_ne {q : Q4} (h : 0 < heavy q) : q ≠ q0 := fun z => by
  have e : heavy q0 = 0 := by decide
  rw [z, e] at h
  exact absurd h (by decide)
theorem dbl_ne {q : Q4} (h : q ≠ q0) : dbl q ≠ q0 := heavy_ne (by rw [dbl_heavy]; exact qsize_pos h)
theorem mem_snoc {P : Q4 → Prop} {ps : List Q4} {y : Q4} (h : ∀ s ∈ ps, P s) (hy : P y) : ∀ s ∈ ps ++ [y], P s := fun s hs => by
  rcases List.mem_append.mp hs with z | z
  · exact h s z
  · rw [List.mem_singleton.mp z]; exact hy
theorem bd_ub {n : Int} {k : Nat} (h0 : 0 ≤ n) (h : n < 2 ^ k) : Bd k n := by
  unfold Bd
  have : ((n.natAbs : Nat) : Int) < ((2 ^ k : Nat) : Int) := by push_cast; omega
  exact_mod_cast this
noncomputable def b_parted_L1_2 : S3 :=
  (sSet 3 (dOp dIx (dVar 5) (dC (.int 4))))
noncomputable def b_parted_L1_1 : S3 :=
  (sSeq (sApp 2 (dCall 1 C_turn_of (aCons (dOp dIx (dVar 5) (dC (.int 0))) aNil)))
  b_parted_L1_2)
noncomputable abbrev b_parted_L1 : S3 :=
  (sSeq (sSet 5 (dCall 2 C_common (aCons (dTup (aCons (dOp (dI IntMulOk fun i j => .int (i * j)) (dC (.int 2)) (dVar 4)) (aCons (dC (.int 0)) (aCons (dC (.int 0)) (aCons (dC (.int 0)) aNil))))) (aCons (dVar 3) aNil))))
  b_parted_L1_1)
noncomputable def b_parted_5 : S3 :=
  (sFreeze 2 (sRet (dVar 2)))
noncomputable def b_parted_4 : S3 :=
  (sSeq (sApp 2 (dCall 1 C_turn_of (aCons (dVar 3) aNil)))
  b_parted_5)
noncomputable def b_parted_3 : S3 :=
  (sSeq (sFor (iLT (dVar 1)) (gN 4)
  b_parted_L1)
  b_parted_4)
noncomputable def b_parted_2 : S3 :=
  (sSeq (sSet 3 (dB cTuple (aCons (dF (fComp 1 (iLT (dCall 1 C_quad_of (aCons (dVar 0) aNil))) (gN 0) (fun _ Φ => Φ true) (dOp (dI IntMulOk fun i j => .int (i * j)) (dC (.int 2)) (dVar 0)))) aNil)))
  b_parted_3)
noncomputable def b_parted_1 : S3 :=
  (sSeq (sOwn 2 (fLst aNil))
  b_parted_2)
noncomputable abbrev b_parted : S3 :=
  (sSeq (sIf (bNot (dT (dCall 2 C_is_product (aCons (dOp dIx (dVar 0) (dC (.int 1))) (aCons (dVar 1) aNil)))))
  sNever
  sNext)
  b_parted_1)
theorem rd_parted : ∀ (ds : List D) (Φ : D → Prop), ds.length = 2 → C_parted ds Φ → b_parted (finD Φ) (startD 6 ds) := by
  rintro ds Φ hl ⟨t, q, ns, rfl, rfl, h0, bq, hn, hp, h⟩
  have bt : Bt 803 (turnT q) := turnT_bd h0 bq
  have pq := plain_bd bq h0
  have pp := isPlain h0
  have epl : turnT (qplain q) = turnT q := by
    conv => rhs; rw [plain_mul h0]
    rw [turnT_sc (shr_ne h0) pp.ne]
  obtain ⟨j, _, ej, od⟩ := turn_odd pp.g pp.ne
  rw [epl] at ej od
  have bN : qsize (qplain q) < 2 ^ (2 * 402) := by
    have := heavy_lt (dbl_stone (qplain q)) (show Bq 402 (dbl (qplain q)) from ⟨bd_two pq.a, bd_two pq.b, bd_two pq.c, bd_two pq.d⟩)
    rw [dbl_heavy] at this
    exact this
  have np := turnT_pos h0
  have et : prd ns = (turnT q).n := hp.2
  have nN : (turnT q).n ≤ qsize (qplain q) := by rw [ej]; exact le_mul1 (Int.le_of_lt np) (one_pow2 j)
  have bnx : ∀ x ∈ ns, Bd 4000 x := fun x hx => (bd_ub (Int.le_trans (by decide) (hp.1 x hx)) (Int.lt_of_le_of_lt (Int.le_trans (prd_mem hp.1 x hx) (by rw [et]; exact nN)) bN)).mono (by decide)
  refine ⟨rfl, (turnT q).n, ns, rfl, Nat.le_trans hn (by decide), bnx, ?_⟩
  refine tF (by rw [decide_eq_true hp]; rfl) ?_
  refine ⟨sl_le 0 rfl (by decide), ?_⟩
  have m2 : ∀ {x : Int}, IntMulOk 2 x := IntMulOk.of_left (by decide)
  refine ⟨rfl, turnT q, q, 803, rfl, rfl, h0, by decide, bt, m2, sl_lt 0 rfl (by decide), m2, sl_lt 1 rfl (by decide), m2, sl_lt 2 rfl (by decide), m2, sl_lt 3 rfl (by decide), ?_⟩
  show FOR (gN 4) b_parted_L1 (ns.map D.int) (thenS b_parted_4 (finD Φ)) [.val (tb (turnT q)), .val (.lst (ns.map .int)), .own [], .val (qd (dbl (qplain q))), .un, .un]
  have sm : ∀ {ps : List Q4} {post : List Int}, ps.length + post.length ≤ 100 → (ps.map fun s => tb (turnT s)).length < sizeLine := fun h => by
    rw [List.length_map]; exact small1000 (Nat.le_trans (Nat.le_trans (Nat.le_add_right _ _) h) (by decide))
  have loop : ∀ (post : List Int) (ps : List Q4) (y : Q4) (s4 s5 : Sl), Stone y → Op y → y ≠ q0 → (∃ j : Nat, heavy y = prd post * 2 ^ j) → prd post % 2 = 1 → (∀ x ∈ post, 1 ≤ x) → heavy y ≤ qsize (qplain q) → ps.length + post.length ≤ 100 → (∀ s ∈ ps, s ≠ q0) → (∀ s ∈ ps, Bq 500 s) → turnT (qmul (prodQ ps) y) = turnT q → (ps.map fun s => (turnT s).n) ++ post = ns → FOR (gN 4) b_parted_L1 (post.map D.int) (thenS b_parted_4 (finD Φ)) [.val (tb (turnT q)), .val (.lst (ns.map .int)), .own (ps.map fun s => tb (turnT s)), .val (qd y), s4, s5] := by
    intro post
    induction post with
    | nil =>
      intro ps y s4 s5 sy oy y0 hh hodd hpo hle hlen hne hb ht hns
      obtain ⟨i, hi⟩ := hh
      have by_ := bq_heavy sy (Int.lt_of_le_of_lt hle bN)
      have b1 : (turnT y).n = 1 := bottom_is (k := i + 2) y0 (by decide) (by decide) oy (by rw [← heavy_four sy]; exact four_mul2 hi)
      refine ⟨rfl, y, 403, rfl, y0, by decide, by_, sm hlen, ?_⟩
      have := h (ps ++ [y]) (by rw [List.map_append, ← hns, List.append_nil]; simp only [List.map_cons, List.map_nil, b1]) (mem_snoc hne y0) (mem_snoc hb (by_.mono (by decide))) (by rw [prodQ_snoc]; exact ht)
      rw [List.map_append] at this
      exact this
    | cons x post ih =>
      intro ps y s4 s5 sy oy y0 hh hodd hpo hle hlen hne hb ht hns
      obtain ⟨i, hi⟩ := hh
      rw [prd_cons] at hi hodd
      have x1 := hpo x List.mem_cons_self
      have hpo' : ∀ z ∈ post, 1 ≤ z := fun z hz => hpo z (List.mem_cons_of_mem _ hz)
      have xo := odd_left hodd
      have po : prd post % 2 = 1 := odd_left (b := x) (by rw [Int.mul_comm]; exact hodd)
      obtain ⟨hxN, hvN, v1⟩ := part_le x1 (prd_pos hpo') (one_pow2 i) hi hle
      have x0 : 0 < x := x1
      have bx : Bd 804 x := bd_ub (Int.le_of_lt x0) (Int.lt_of_le_of_lt hxN bN)
      have z8 : Bd 810 (0 : Int) := bd_lit (by decide)
      have by_ := bq_heavy sy (Int.lt_of_le_of_lt hle bN)
      refine FOR_cons ⟨m2, sl_le 4 rfl (by decide), rfl, dbl (num x), y, 810, rfl, dbl_stone _, sy, by decide, ⟨(bd_two bx).mono (by decide), z8, z8, z8⟩, by_.mono (by decide), fun s a b u v r su sv ex ey _ bs ba bb bu bv => ?_⟩
      obtain ⟨hs, hv, os, ov⟩ := part_step sy x0 xo oy (by rw [hi, Int.mul_assoc]) r su sv ex ey
      have s0 : s ≠ q0 := heavy_ne (by rw [hs]; exact x0)
      have v0 : v ≠ q0 := heavy_ne (by rw [hv]; exact v1)
      have bs' := bq_heavy r.ss (Int.lt_of_le_of_lt (by rw [hs]; exact hxN) bN)
      have ns_ : (turnT s).n = x := bottom_is (k := 2) s0 x0 xo os (by rw [← heavy_four r.ss, hs, Int.mul_comm]; rfl)
      refine ⟨rfl, s, 403, rfl, s0, by decide, bs', sm hlen, ?_⟩
      show FOR (gN 4) b_parted_L1 (post.map D.int) (thenS b_parted_4 (finD Φ)) [.val (tb (turnT q)), .val (.lst (ns.map .int)), .own ((ps.map fun s => tb (turnT s)) ++ [tb (turnT s)]), .val (qd v), .val (.int x), .val (.tup [qd s, qd a, qd b, qd u, qd v])]
      have ea : (ps.map fun s => tb (turnT s)) ++ [tb (turnT s)] = (ps ++ [s]).map fun s => tb (turnT s) := by rw [List.map_append]; rfl
      rw [ea]
      refine ih (ps ++ [s]) v _ _ sv ov v0 ⟨i, hv⟩ po hpo' (by rw [hv]; exact hvN) ?_ (mem_snoc hne s0) (mem_snoc hb (bs'.mono (by decide))) ?_ ?_
      · rw [List.length_append, List.length_singleton, Nat.add_assoc, Nat.add_comm 1]; exact hlen
      · rw [prodQ_snoc, turn_step r.ss sv ey (qmul_ne (prodQ_ne hne) y0)]; exact ht
      · rw [List.map_append, ← hns, List.append_assoc]
        simp only [List.map_cons, List.map_nil, ns_, List.singleton_append]
  refine loop ns [] (dbl (qplain q)) .un .un (dbl_stone _) (op_dbl pp.g) (dbl_ne pp.ne) ⟨j, by rw [dbl_heavy, ej, et]⟩ (by rw [et]; exact od) hp.1 (by rw [dbl_heavy]; exact Int.le_refl _) (by rw [List.length_nil, Nat.zero_add]; exact hn) (fun _ h => by cases h) (fun _ h => by cases h) ?_ rfl
  show turnT (qmul one4 (dbl (qplain q))) = _
  rw [one4_qmul, ← epl]
  exact turnT_sc (s := 2) (by decide) pp.ne
theorem ok_parted {P : Program} {w : World} {K : PySem.W.Frag} {mg : Str → Option Value} {base : Heap} {t : Ad} (T : Txt K mg t) : FnOk P w K mg base CX0 6 t.a_parted t.d_parted ["turn", "sizes"] (spD K 2 C_parted) := by
  have sc := sc_parted
  refine fn_ok (k := 5) T.F_parted sc_parted (fun cdv A outer s H E hr => ⟨b_parted, (psd_cons (psd_if (pb_not (pb_val (pd_call (ok_is_product T) mono_is_product (hr.mono (by decide)) rfl T.m_is_product T.F_is_product.kp T.b_is_product (pad_cons (pd_ix (pd_var (pv 0)) pd_int (fun _ _ => rfl)) (pad_cons (pd_var (pv 1)) pad_nil)))))
  (psd_one psd_never)
  psd_nil)
  (psd_cons (psd_own (i := 2) sc.nd rfl (loc_of rfl) (pf_lst pad_nil))
  (psd_cons (psd_set (i := 3) sc.nd rfl (loc_of rfl) (pd_callTy b_tuple rfl T.z_tuple bt_tuple (pad_cons (pd_new (pf_comp (xs := ["number"]) (M := ["turn", "sizes", "parts", "rest", "part", "found"]) (n := 1) (by rfl) rfl rfl (pid_seq (pd_call (ok_quad_of T) mono_quad_of (hr.mono (by decide)) rfl T.m_quad_of T.F_quad_of.kp T.b_quad_of (pad_cons (pd_var (pv 0)) pad_nil))) (fun _ _ _ _ => (pgn_name (i := 0) (by decide) (show List.Nodup (["number", "turn", "sizes", "parts", "rest", "part", "found"] : List Str) by decide +kernel) rfl (by first | exact Or.inl rfl | exact Or.inr rfl))) (fun _ _ _ _ => pbs_nil) (fun _ _ _ _ => (pd_op o_mul pd_int (pd_var (pv 0)))))) pad_nil)))
  (psd_cons (psd_for PassesOwn.never rfl (pid_seq (pd_var (pv 1))) (pgd_name (i := 4) sc.nd rfl (loc_of rfl))
  (psd_cons (psd_set (i := 5) sc.nd rfl (loc_of rfl) (pd_call (ok_common T) mono_common (hr.mono (by decide)) rfl T.m_common T.F_common.kp T.b_common (pad_cons (pd_tup (pad_cons (pd_op o_mul pd_int (pd_var (pv 4))) (pad_cons pd_int (pad_cons pd_int (pad_cons pd_int pad_nil))))) (pad_cons (pd_var (pv 3)) pad_nil))))
  (psd_cons (psd_append (pv 2) (pd_call (ok_turn_of T) mono_turn_of (hr.mono (by decide)) rfl T.m_turn_of T.F_turn_of.kp T.b_turn_of (pad_cons (pd_ix (pd_var (pv 5)) pd_int (fun _ _ => rfl)) pad_nil)))
  (psd_one (psd_set (i := 3) sc.nd rfl (loc_of rfl) (pd_ix (pd_var (pv 5)) pd_int (fun _ _ => rfl)))))))
  (psd_cons (psd_append (pv 2) (pd_call (ok_turn_of T) mono_turn_of (hr.mono (by decide)) rfl T.m_turn_of T.F_turn_of.kp T.b_turn_of (pad_cons (pd_var (pv 3)) pad_nil)))
  (psd_freeze 2 (psd_one (psd_ret (pd_var (pv 2)))))))))), rd_parted⟩)
noncomputable def P_parted : List D → Prop := fun ds => ∃ (t : T9) (ns : List Int), ds = [tb t, .lst (ns.map .int)] ∧ ns.length ≤ 100 ∧ (∀ x ∈ ns, Bd 4000 x) ∧ ¬ Parts t.n ns
noncomputable def r_parted : Fr3 → Prop :=
  (rIf (bNot (dT (dCall 2 C_is_product (aCons (dOp dIx (dVar 0) (dC (.int 1))) (aCons (dVar 1) aNil)))))
  (aCons (dC (.str "the bottom of the turn is not the product of these sizes")) aNil)
  sNext
  (fun _ => False))
theorem rr_parted : ∀ (ds : List D), ds.length = 2 → P_parted ds → r_parted (startD 6 ds) := by
  rintro ds hl ⟨t, ns, rfl, hn, bn, no⟩
  refine ⟨rfl, t.n, ns, rfl, by omega, bn, ?_⟩
  refine tT (by rw [decide_eq_false no]; rfl) ?_
  exact sl_le 1 rfl (by decide)
theorem rf_parted {P : Program} {w : World} {K : PySem.W.Frag} {mg : Str → Option Value} {base : Heap} {t : Ad} (T : Txt K mg t) : FnOk P w K mg base (CXC P w) 6 t.a_parted t.d_parted ["turn", "sizes"] (spR K 2 t.x_NoParts P_parted) := by
  have sc := sc_parted
  refine rf_ok (k := 5) T.F_parted sc_parted (fun cdv A outer s H E hr hR => ⟨r_parted, (prd_ifN (pb_not (pb_val (pd_call (ok_is_product T) mono_is_product (hr.mono (by decide)) rfl T.m_is_product T.F_is_product.kp T.b_is_product (pad_cons (pd_ix (pd_var (pv 0)) pd_int (fun _ _ => rfl)) (pad_cons (pd_var (pv 1)) pad_nil)))))
  (prd_raise rfl rfl T.m_NoParts T.xe_NoParts (pad_cons pd_str pad_nil) hR)
  psd_nil
  (prd_stop (psd_cons (psd_own (i := 2) sc.nd rfl (loc_of rfl) (pf_lst pad_nil))
  (psd_cons (psd_set (i := 3) sc.nd rfl (loc_of rfl) (pd_callTy b_tuple rfl T.z_tuple bt_tuple (pad_cons (pd_new (pf_comp (xs := ["number"]) (M := ["turn", "sizes", "parts", "rest", "part", "found"]) (n := 1) (by rfl) rfl rfl (pid_seq (pd_call (ok_quad_of T) mono_quad_of (hr.mono (by decide)) rfl T.m_quad_of T.F_quad_of.kp T.b_quad_of (pad_cons (pd_var (pv 0)) pad_nil))) (fun _ _ _ _ => (pgn_name (i := 0) (by decide) (show List.Nodup (["number", "turn", "sizes", "parts", "rest", "part", "found"] : List Str) by decide +kernel) rfl (by first | exact Or.inl rfl | exact Or.inr rfl))) (fun _ _ _ _ => pbs_nil) (fun _ _ _ _ => (pd_op o_mul pd_int (pd_var (pv 0)))))) pad_nil)))
  (psd_cons (psd_for PassesOwn.leaving rfl (pid_seq (pd_var (pv 1))) (pgd_name (i := 4) sc.nd rfl (loc_of rfl))
  (psd_cons (psd_set (i := 5) sc.nd rfl (loc_of rfl) (pd_call (ok_common T) mono_common (hr.mono (by decide)) rfl T.m_common T.F_common.kp T.b_common (pad_cons (pd_tup (pad_cons (pd_op o_mul pd_int (pd_var (pv 4))) (pad_cons pd_int (pad_cons pd_int (pad_cons pd_int pad_nil))))) (pad_cons (pd_var (pv 3)) pad_nil))))
  (psd_cons (psd_append (pv 2) (pd_call (ok_turn_of T) mono_turn_of (hr.mono (by decide)) rfl T.m_turn_of T.F_turn_of.kp T.b_turn_of (pad_cons (pd_ix (pd_var (pv 5)) pd_int (fun _ _ => rfl)) pad_nil)))
  (psd_one (psd_set (i := 3) sc.nd rfl (loc_of rfl) (pd_ix (pd_var (pv 5)) pd_int (fun _ _ => rfl)))))))
  (psd_cons (psd_append (pv 2) (pd_call (ok_turn_of T) mono_turn_of (hr.mono (by decide)) rfl T.m_turn_of T.F_turn_of.kp T.b_turn_of (pad_cons (pd_var (pv 3)) pad_nil)))
  (psd_freeze 2 (psd_one (psd_ret (pd_var (pv 2))))))))))), rr_parted⟩)
noncomputable def C_law_behind : Con := fun ds Φ => ∃ (t u : T9) (A B : D) (k : Nat), ds = [.tup [A, .int t.n], .tup [B, .int u.n]] ∧ (A = tr t ∨ A = trL t) ∧ (B = tr u ∨ B = trL u) ∧ t.n ≠ 0 ∧ u.n ≠ 0 ∧ k ≤ 4000 ∧ Bt k t ∧ Bt k u ∧ Φ (tb (lowT (mulT t u)))
theorem mono_law_behind : Mono C_law_behind := fun ds Φ Ψ mo h0 => by
  obtain ⟨t, u, A, B, k, a, b, c, d, e, f, g, i, h⟩ := h0
  exact ⟨t, u, A, B, k, a, b, c, d, e, f, g, i, mo _ h⟩
theorem sum3 (a b c : Int) : [a, b, c].sum = a + b + c := by simp only [List.sum_cons, List.sum_nil]; omega
noncomputable def b_law_behind_1 : S3 :=
  (sRet (dCall 2 C_law_lower (aCons (dVar 2) (aCons (dOp (dI IntMulOk fun i j => .int (i * j)) (dOp dIx (dVar 0) (dC (.int 1))) (dOp dIx (dVar 1) (dC (.int 1)))) aNil))))
noncomputable abbrev b_law_behind : S3 :=
  (sSeq (sSet 2 (dF (fComp 1 (iLT (dOp dIx (dVar 0) (dC (.int 0)))) (gN 0) (fun _ Φ => Φ true) (dF (fComp 1 (iR1 (aCons (dC (.int 3)) aNil)) (gN 0) (fun _ Φ => Φ true) (dB cSum (aCons (dF (fComp 1 (iR1 (aCons (dC (.int 3)) aNil)) (gN 0) (fun _ Φ => Φ true) (dOp (dI IntMulOk fun i j => .int (i * j)) (dOp dIx (dVar 2) (dVar 0)) (dOp dIx (dOp dIx (dOp dIx (dVar 4) (dC (.int 0))) (dVar 0)) (dVar 1))))) aNil)))))))
  b_law_behind_1)
theorem rd_law_behind : ∀ (ds : List D) (Φ : D → Prop), ds.length = 2 → C_law_behind ds Φ → b_law_behind (finD Φ) (startD 3 ds) := by
  rintro ds Φ hl ⟨t, u, A, B, k, rfl, hA, hB, t0, u0, hk, bt, bu, h⟩
  have mk : ∀ {x y : Int}, Bd k x → Bd k y → IntMulOk x y := fun hx hy => mulOk hx hy (by omega)
  have c0 : (-(2 ^ 62) : Int) ≤ 3 := by decide
  have c1 : (3 : Int) < 2 ^ 62 := by decide
  have fin : b_law_behind_1 (finD Φ) [.val (.tup [A, .int t.n]), .val (.tup [B, .int u.n]), .val (trL (mulT t u))] :=
    ⟨mk bt.n bu.n, rfl, mulT t u, 2 * k + 2, .inr rfl, Int.mul_ne_zero t0 u0, by omega, mulT_bd bt bu, h⟩
  have mem : ∀ r ∈ [t.p, t.q, t.r], Bp k r := fun r hr => by
    simp only [List.mem_cons, List.not_mem_nil, or_false] at hr
    rcases hr with rfl | rfl | rfl
    · exact bt.p
    · exact bt.q
    · exact bt.r
  have row : ∀ (r : P3) (rd : D), (rd = pt r ∨ rd = pl r) → Bp k r → ∀ Ψ : D → Prop, Ψ (pl ⟨dot r (trT u).p, dot r (trT u).q, dot r (trT u).r⟩) → (dF (fComp 1 (iR1 (aCons (dC (.int 3)) aNil)) (gN 0) (fun _ Φ => Φ true) (dB cSum (aCons (dF (fComp 1 (iR1 (aCons (dC (.int 3)) aNil)) (gN 0) (fun _ Φ => Φ true) (dOp (dI IntMulOk fun i j => .int (i * j)) (dOp dIx (dVar 2) (dVar 0)) (dOp dIx (dOp dIx (dOp dIx (dVar 4) (dC (.int 0))) (dVar 0)) (dVar 1))))) aNil)))) [.val rd, .val (.tup [A, .int t.n]), .val (.tup [B, .int u.n]), .un] Ψ := fun r rd hr br Ψ hΨ => by
    rcases hr with rfl | rfl <;> rcases hB with rfl | rfl
    all_goals
      refine ⟨c0, c1, c0, c1, mk br.x bu.p.x, sl_lt 0 rfl (by decide), mk br.y bu.q.x, sl_lt 1 rfl (by decide), mk br.z bu.r.x, sl_lt 2 rfl (by decide), [r.x * u.p.x, r.y * u.q.x, r.z * u.r.x], rfl, ?_⟩
      rw [sum3]
      refine ⟨sl_lt 0 rfl (by decide), c0, c1, mk br.x bu.p.y, sl_lt 0 rfl (by decide), mk br.y bu.q.y, sl_lt 1 rfl (by decide), mk br.z bu.r.y, sl_lt 2 rfl (by decide), [r.x * u.p.y, r.y * u.q.y, r.z * u.r.y], rfl, ?_⟩
      rw [sum3]
      refine ⟨sl_lt 1 rfl (by decide), c0, c1, mk br.x bu.p.z, sl_lt 0 rfl (by decide), mk br.y bu.q.z, sl_lt 1 rfl (by decide), mk br.z bu.r.z, sl_lt 2 rfl (by decide), [r.x * u.p.z, r.y * u.q.z, r.z * u.r.z], rfl, ?_⟩
      rw [sum3]
      exact ⟨sl_lt 2 rfl (by decide), hΨ⟩
  rcases hA with rfl | rfl
  · exact COMP_list pt (fun r => pl ⟨dot r (trT u).p, dot r (trT u).q, dot r (trT u).r⟩) [t.p, t.q, t.r] rfl (show 3 ≤ 1000 by decide) (fun r hr Ψ hΨ => row r _ (.inl rfl) (mem r hr) Ψ hΨ) fin
  · exact COMP_list pl (fun r => pl ⟨dot r (trT u).p, dot r (trT u).q, dot r (trT u).r⟩) [t.p, t.q, t.r] rfl (show 3 ≤ 1000 by decide) (fun r hr Ψ hΨ => row r _ (.inr rfl) (mem r hr) Ψ hΨ) fin
theorem ok_law_behind {P : Program} {w : World} {K : PySem.W.Frag} {mg : Str → Option Value} {base : Heap} {t : Ad} (T : Txt K mg t) : FnOk P w K mg base CX0 3 t.a_law_behind t.d_law_behind ["one", "other"] (spD K 2 C_law_behind) := by
  have sc := sc_law_behind
  refine fn_ok (k := 2) T.F_law_behind sc_law_behind (fun cdv A outer s H E hr => ⟨b_law_behind, (psd_cons (psd_setComp (i := 2) sc.nd rfl (loc_of rfl) (xs := ["row"]) (M := ["one", "other", "rows"]) (n := 1) (by rfl) rfl rfl (pid_seq (pd_ix (pd_var (pv 0)) pd_int (fun _ _ => rfl))) (fun _ _ _ _ => (pgn_name (i := 0) (by decide) (show List.Nodup (["row", "one", "other", "rows"] : List Str) by decide +kernel) rfl (by first | exact Or.inl rfl | exact Or.inr rfl))) (fun _ _ _ _ => pbs_nil) (fun _ _ _ _ => (pd_new (pf_comp (xs := ["k"]) (M := ["row", "one", "other", "rows"]) (n := 1) (by rfl) rfl rfl (pid_range1 rfl T.z_range (pad_cons pd_int pad_nil)) (fun _ _ _ _ => (pgn_name (i := 0) (by decide) (show List.Nodup (["k", "row", "one", "other", "rows"] : List Str) by decide +kernel) rfl (by first | exact Or.inl rfl | exact Or.inr rfl))) (fun _ _ _ _ => pbs_nil) (fun _ _ _ _ => (pd_callB (b_sum rfl) rfl T.z_sum bt_sum (pad_cons (pd_new (pf_comp (xs := ["c"]) (M := ["k", "row", "one", "other", "rows"]) (n := 1) (by rfl) rfl rfl (pid_range1 rfl T.z_range (pad_cons pd_int pad_nil)) (fun _ _ _ _ => (pgn_name (i := 0) (by decide) (show List.Nodup (["c", "k", "row", "one", "other", "rows"] : List Str) by decide +kernel) rfl (by first | exact Or.inl rfl | exact Or.inr rfl))) (fun _ _ _ _ => pbs_nil) (fun _ _ _ _ => (pd_op o_mul (pd_ix (pd_var (pv 2)) (pd_var (pv 0)) (fun _ _ => rfl)) (pd_ix (pd_ix (pd_ix (pd_var (pv 4)) pd_int (fun _ _ => rfl)) (pd_var (pv 0)) (fun _ _ => rfl)) (pd_var (pv 1)) (fun _ _ => rfl)))))) pad_nil)))))))
  (psd_one (psd_ret (pd_call (ok_law_lower T) mono_law_lower (hr.mono (by decide)) rfl T.m_law_lower T.F_law_lower.kp T.b_law_lower (pad_cons (pd_var (pv 2)) (pad_cons (pd_op o_mul (pd_ix (pd_var (pv 0)) pd_int (fun _ _ => rfl)) (pd_ix (pd_var (pv 1)) pd_int (fun _ _ => rfl))) pad_nil)))))), rd_law_behind⟩)
noncomputable def C_law_refused : Con := fun ds Φ => ∃ (t : T9) (ns : List Int), ds = [tb t, .lst (ns.map .int)] ∧ ns.length ≤ 100 ∧ (∀ x ∈ ns, Bd 4000 x) ∧ ¬ Parts t.n ns ∧ Φ (.bl true)
theorem mono_law_refused : Mono C_law_refused := fun ds Φ Ψ mo h0 => by
  obtain ⟨t, ns, a, b, c, d, h⟩ := h0
  exact ⟨t, ns, a, b, c, d, mo _ h⟩
noncomputable def b_law_refused_3 : S3 :=
  (sRet (dAnd (dVar 2) (dNot (dVar 3))))
noncomputable def b_law_refused_2 : S3 :=
  (sSeq (sTryR 4 P_parted 2 (aCons (dVar 0) (aCons (dVar 1) aNil)) [(2, true), (3, false)])
  b_law_refused_3)
noncomputable def b_law_refused_1 : S3 :=
  (sSeq (sSet 3 (dC (.bl false)))
  b_law_refused_2)
noncomputable abbrev b_law_refused : S3 :=
  (sSeq (sSet 2 (dC (.bl false)))
  b_law_refused_1)
theorem rd_law_refused : ∀ (ds : List D) (Φ : D → Prop), ds.length = 2 → C_law_refused ds Φ → b_law_refused (finD Φ) (startD 5 ds) := by
  rintro ds Φ hl ⟨t, ns, rfl, hn, bn, no, h⟩
  refine ⟨rfl, ⟨t, ns, rfl, hn, bn, no⟩, rfl, rfl, ?_⟩
  exact h
theorem ok_law_refused {P : Program} {w : World} {K : PySem.W.Frag} {mg : Str → Option Value} {base : Heap} {t : Ad} (T : Txt K mg t) : FnOk P w K mg base CX0 7 t.a_law_refused t.d_law_refused ["turn", "sizes"] (spD K 2 C_law_refused) := by
  have sc := sc_law_refused
  refine fn_ok (k := 6) T.F_law_refused sc_law_refused (fun cdv A outer s H E hr => ⟨b_law_refused, (psd_cons (psd_set (i := 2) sc.nd rfl (loc_of rfl) pd_bl)
  (psd_cons (psd_set (i := 3) sc.nd rfl (loc_of rfl) pd_bl)
  (psd_cons (psd_tryR (i := 4) (C := t.x_NoParts) (fun _ _ z => z) rfl rfl (rf_parted T) (hr.mono (by decide)) rfl T.m_parted T.F_parted.kp T.b_parted (pad_cons (pd_var (pv 0)) (pad_cons (pd_var (pv 1)) pad_nil)) rfl T.m_NoParts (cls_of T.xmb_NoParts) T.xty_NoParts T.xmb_NoParts T.xs_NoParts_NoParts sc.nd rfl rfl (fun ea oe hc => (sx_set (j := 2) (b := true) (by decide) sc.nd rfl (loc_of rfl) (pbx_and (b := true) (b' := true) (pbx_own (.head _) (XCls.mk (cls_of T.xmo_NoParts) T.xga_NoParts T.xgn_NoParts T.xcl_NoParts T.xmo_NoParts T.xmb_NoParts) hc rfl T.z_isinstance bt_isinstance rfl (.inl rfl) rfl T.m_SpaceError (kit_yes T.xmb_SpaceError T.xty_SpaceError T.xs_NoParts_SpaceError)) (pbx_type (T := "ValueError") (.head _) (XCls.mk (cls_of T.xmo_NoParts) T.xga_NoParts T.xgn_NoParts T.xcl_NoParts T.xmo_NoParts T.xmb_NoParts) hc rfl T.z_isinstance bt_isinstance rfl (.inl rfl) rfl T.z_ValueError bt_ValueError (kit_type meta_ValueError T.xb_NoParts_ValueError))) (sx_set (j := 3) (b := false) (by decide) sc.nd rfl (loc_of rfl) (pbx_tup (Ds := [t.x_NoDial, t.x_NoGrid, t.x_NoName, t.x_NoNumbers, t.x_NoQuad, t.x_NoRow, t.x_NoStone, t.x_NoWay]) (.head _) (XCls.mk (cls_of T.xmo_NoParts) T.xga_NoParts T.xgn_NoParts T.xcl_NoParts T.xmo_NoParts T.xmb_NoParts) hc rfl T.z_isinstance bt_isinstance rfl (.inl rfl) (.cons rfl T.m_NoDial (by decide) rfl (.cons rfl T.m_NoGrid (by decide) rfl (.cons rfl T.m_NoName (by decide) rfl (.cons rfl T.m_NoNumbers (by decide) rfl (.cons rfl T.m_NoQuad (by decide) rfl (.cons rfl T.m_NoRow (by decide) rfl (.cons rfl T.m_NoStone (by decide) rfl (.cons rfl T.m_NoWay (by decide) rfl .nil)))))))) (sl_le 8 rfl (by decide)) (kit_none (all_cons (kit_no T.xs_NoParts_NoParts T.xmb_NoDial T.xty_NoDial T.xs_NoParts_NoDial) (all_cons (kit_no T.xs_NoParts_NoParts T.xmb_NoGrid T.xty_NoGrid T.xs_NoParts_NoGrid) (all_cons (kit_no T.xs_NoParts_NoParts T.xmb_NoName T.xty_NoName T.xs_NoParts_NoName) (all_cons (kit_no T.xs_NoParts_NoParts T.xmb_NoNumbers T.xty_NoNumbers T.xs_NoParts_NoNumbers) (all_cons (kit_no T.xs_NoParts_NoParts T.xmb_NoQuad T.xty_NoQuad T.xs_NoParts_NoQuad) (all_cons (kit_no T.xs_NoParts_NoParts T.xmb_NoRow T.xty_NoRow T.xs_NoParts_NoRow) (all_cons (kit_no T.xs_NoParts_NoParts T.xmb_NoStone T.xty_NoStone T.xs_NoParts_NoStone) (all_cons (kit_no T.xs_NoParts_NoParts T.xmb_NoWay T.xty_NoWay T.xs_NoParts_NoWay) all_nil)))))))))) sx_nil))))
  (psd_one (psd_ret (pd_and (pd_var (pv 2)) (pd_one (pd_not (pd_var (pv 3)))))))))), rd_law_refused⟩)
noncomputable def C_law_wrong : Con := fun ds Φ => ∃ (n : Int) (ns : List Int) (c : Int), ds = [.lst (ns.map .int), .int c] ∧ 0 < n ∧ Bd 1000 n ∧ ns ≠ [] ∧ ns.length ≤ 50 ∧ Parts n ns ∧ ∀ ms : List Int, ¬ Parts n ms → ms.length ≤ 60 → (∀ x ∈ ms, Bd 4000 x) → Φ (.lst (ms.map .int))
theorem mono_law_wrong : Mono C_law_wrong := fun ds Φ Ψ mo h0 => by
  obtain ⟨n, ns, c, a, b, d, e, f, g, h⟩ := h0
  exact ⟨n, ns, c, a, b, d, e, f, g, fun ms h1 h2 h3 => mo _ (h ms h1 h2 h3)⟩
noncomputable def b_law_wrong_5 : S3 :=
  (sRet (dVar 3))
noncomputable def b_law_wrong_4 : S3 :=
  (sSeq (sIf (bAnd (dT (dOp dEq (dOp (dI (fun _ j => j ≠ 0) fun i j => .int (i.fmod j)) (dVar 1) (dC (.int 3))) (dC (.int 2)))) (dT (dOp (dI0 fun i j => .bl (decide (j < i))) (dOp dIx (dVar 0) (dVar 2)) (dC (.int 1)))))
  (sSet 3 (dF (fCat (dF (fSl (dVar 0) oNone (oSome (dVar 2)))) (dF (fSl (dVar 0) (oSome (dOp (dI0 fun i j => .int (i + j)) (dVar 2) (dC (.int 1)))) oNone)))))
  sNext)
  b_law_wrong_5)
noncomputable def b_law_wrong_3 : S3 :=
  (sFreeze 3 (sSeq (sIf (dT (dOp dEq (dOp (dI (fun _ j => j ≠ 0) fun i j => .int (i.fmod j)) (dVar 1) (dC (.int 3))) (dC (.int 1))))
  (sSet 3 (dF (fCat (dF (fCat (dF (fSl (dVar 0) oNone (oSome (dVar 2)))) (dF (fLst (aCons (dC (.int 3)) aNil))))) (dF (fSl (dVar 0) (oSome (dVar 2)) oNone)))))
  sNext)
  b_law_wrong_4))
noncomputable def b_law_wrong_2 : S3 :=
  (sSeq (sSetIx 3 (dVar 2) (dOp (dI IntMulOk fun i j => .int (i * j)) (dIxO 3 (dVar 2)) (dC (.int 3))))
  b_law_wrong_3)
noncomputable def b_law_wrong_1 : S3 :=
  (sSeq (sOwn 3 (fList (dVar 0)))
  b_law_wrong_2)
noncomputable abbrev b_law_wrong : S3 :=
  (sSeq (sSet 2 (dOp (dI (fun _ j => j ≠ 0) fun i j => .int (i.fmod j)) (dOp (dI CD fun i j => .int (i.fdiv j)) (dVar 1) (dC (.int 3))) (dB cLen (aCons (dVar 0) aNil))))
  b_law_wrong_1)
theorem rd_law_wrong : ∀ (ds : List D) (Φ : D → Prop), ds.length = 2 → C_law_wrong ds Φ → b_law_wrong (finD Φ) (startD 4 ds) := by
  rintro ds Φ hl ⟨n, ns, c, rfl, n0, bn, hne, hlen, hp, h⟩
  have l0 : 0 < ns.length := List.length_pos_iff.mpr hne
  have el : ((ns.map D.int).length : Int) = (ns.length : Int) := by simp
  have bx : ∀ x ∈ ns, Bd 1000 x := parts_bd hp bn
  have pn : prd ns = n := hp.2
  refine ⟨cd_lit (by decide), ?_⟩
  show ((ns.map D.int).length : Int) ≠ 0 ∧ b_law_wrong_1 (finD Φ) [.val (.lst (ns.map .int)), .val (.int c), .val (.int ((c.fdiv 3).fmod ((ns.map D.int).length : Int))), .un]
  rw [el]
  have j0 := Int.fmod_nonneg_of_pos (c.fdiv 3) (show (0 : Int) < ns.length by omega)
  have j1 := Int.fmod_lt_of_pos (c.fdiv 3) (show (0 : Int) < ns.length by omega)
  generalize (c.fdiv 3).fmod (ns.length : Int) = j at *
  obtain ⟨k, rfl⟩ : ∃ k : Nat, j = k := ⟨j.toNat, by omega⟩
  have hk : k < ns.length := by omega
  refine ⟨by omega, ?_⟩
  have ek : atI (ns.map D.int) (k : Int) = some (.int ns[k]) := by
    rw [atI_n, List.getElem?_map, List.getElem?_eq_getElem hk]; rfl
  have e3 : ixN (ns.map D.int).length (k : Int) = some k := by rw [ixN_n, if_pos (by rw [List.length_map]; exact hk)]
  show b_law_wrong_2 (finD Φ) [.val (.lst (ns.map .int)), .val (.int c), .val (.int k), .own (ns.map .int)]
  refine onS_of ek ⟨IntMulOk.of_right (by decide), onS_of e3 ?_⟩
  have es : (ns.map D.int).set k (.int (ns[k] * 3)) = (ns.set k (ns[k] * 3)).map D.int := by rw [List.map_set]
  show b_law_wrong_3 (finD Φ) [.val (.lst (ns.map .int)), .val (.int c), .val (.int k), .own ((ns.map D.int).set k (.int (ns[k] * 3)))]
  rw [es]
  have b3 : Bd 4000 (3 : Int) := (show Bd 2 (3 : Int) from bd_lit (by decide)).mono (by decide)
  have bns : ∀ x ∈ ns, Bd 4000 x := fun x hx => (bx x hx).mono (by decide)
  have no1 : ¬ Parts n (ns.set k (ns[k] * 3)) := fun z => by
    have e : prd (ns.set k (ns[k] * 3)) = n := z.2
    rw [prd_set ns k hk, pn] at e; omega
  have bs1 : ∀ x ∈ ns.set k (ns[k] * 3), Bd 4000 x := fun x hx => by
    rcases List.mem_or_eq_of_mem_set hx with z | z
    · exact bns x z
    · rw [z]; exact ((bx _ (List.getElem_mem hk)).mul (show Bd 2 (3 : Int) from bd_lit (by decide))).mono (by decide)
  have no2 : ¬ Parts n (ns.take k ++ [3] ++ ns.drop k) := fun z => by
    have e : prd (ns.take k ++ [3] ++ ns.drop k) = n := z.2
    have e2 := prd_cut ns k
    have e1 : prd [3] = 3 := rfl
    rw [prd_append, prd_append, e1] at e
    have : prd (ns.take k) * 3 * prd (ns.drop k) = 3 * (prd (ns.take k) * prd (ns.drop k)) := by grind
    rw [this, e2, pn] at e; omega
  have bs2 : ∀ x ∈ ns.take k ++ [3] ++ ns.drop k, Bd 4000 x := fun x hx => by
    rcases List.mem_append.mp hx with z | z
    · rcases List.mem_append.mp z with w | w
      · exact bns x (List.mem_of_mem_take w)
      · have : x = 3 := by simpa using w
        rw [this]; exact b3
    · exact bns x (List.mem_of_mem_drop z)
  have bs3 : ∀ x ∈ ns.take k ++ ns.drop (k + 1), Bd 4000 x := fun x hx => by
    rcases List.mem_append.mp hx with z | z
    · exact bns x (List.mem_of_mem_take z)
    · exact bns x (List.mem_of_mem_drop z)
  have four : ∀ ms : List Int, ¬ Parts n ms → ms.length ≤ 60 → (∀ x ∈ ms, Bd 4000 x) → b_law_wrong_4 (finD Φ) [.val (.lst (ns.map .int)), .val (.int c), .val (.int k), .val (.lst (ms.map .int))] := fun ms h1 h2 h3 => by
    unfold b_law_wrong_4
    refine ⟨(show (3 : Int) ≠ 0 by decide), tst (fun hc => ?_) (fun hc => h ms h1 h2 h3)⟩
    refine onS_of ek ?_
    refine tst (fun hd => ?_) (fun hd => h ms h1 h2 h3)
    have hd : 1 < ns[k] := of_decide_eq_true hd
    have lt : (ns.take k ++ ns.drop (k + 1)).length ≤ 60 := by simp; omega
    have ec : D3.cutD (ns.map D.int) none (some (k : Int)) ++ D3.cutD (ns.map D.int) (some ((k : Int) + 1)) none = (ns.take k ++ ns.drop (k + 1)).map D.int := by
      rw [cutD_map, cutD_map, cut_to, show (k : Int) + 1 = ((k + 1 : Nat) : Int) by omega, cut_from, List.map_append]
    refine ⟨?_, ?_⟩
    · rw [cutD_map, cutD_map, cut_to, show (k : Int) + 1 = ((k + 1 : Nat) : Int) by omega, cut_from]
      exact Nat.le_of_lt (small1000 (by simp; omega))
    · show b_law_wrong_5 (finD Φ) [.val (.lst (ns.map .int)), .val (.int c), .val (.int k), .val (.lst (D3.cutD (ns.map D.int) none (some (k : Int)) ++ D3.cutD (ns.map D.int) (some ((k : Int) + 1)) none))]
      rw [ec]
      refine h _ (fun z => ?_) lt bs3
      have e : prd (ns.take k ++ ns.drop (k + 1)) = n := z.2
      have e2 := prd_out ns k hk
      rw [e, pn] at e2
      have : n * ns[k] = n * 1 := by omega
      have := Int.eq_of_mul_eq_mul_left (by omega) this
      omega
  unfold b_law_wrong_3
  refine ⟨(show (3 : Int) ≠ 0 by decide), tst (fun hc => ?_) (fun hc => four _ no1 (by simp; omega) bs1)⟩
  have ec : D3.cutD (ns.map D.int) none (some (k : Int)) ++ [D.int 3] ++ D3.cutD (ns.map D.int) (some (k : Int)) none = (ns.take k ++ [3] ++ ns.drop k).map D.int := by
    rw [cutD_map, cutD_map, cut_to, cut_from, List.map_append, List.map_append]; rfl
  refine ⟨sl_le 1 rfl (by decide), ?_, ?_, ?_⟩
  · rw [cutD_map, cut_to]
    exact Nat.le_of_lt (small1000 (by simp; omega))
  · rw [cutD_map, cut_to, cutD_map, cut_from]
    exact Nat.le_of_lt (small1000 (by simp; omega))
  · show b_law_wrong_4 (finD Φ) [.val (.lst (ns.map .int)), .val (.int c), .val (.int k), .val (.lst (D3.cutD (ns.map D.int) none (some (k : Int)) ++ [D.int 3] ++ D3.cutD (ns.map D.int) (some (k : Int)) none))]
    rw [ec]
    exact four _ no2 (by simp; omega) bs2
theorem ok_law_wrong {P : Program} {w : World} {K : PySem.W.Frag} {mg : Str → Option Value} {base : Heap} {t : Ad} (T : Txt K mg t) : FnOk P w K mg base CX0 1 t.a_law_wrong t.d_law_wrong ["sizes", "cell"] (spD K 2 C_law_wrong) := by
  have sc := sc_law_wrong
  refine fn_ok (k := 0) T.F_law_wrong sc_law_wrong (fun cdv A outer s H E hr => ⟨b_law_wrong, (psd_cons (psd_set (i := 2) sc.nd rfl (loc_of rfl) (pd_op o_mod (pd_op o_fdiv (pd_var (pv 1)) pd_int) (pd_callB b_len rfl T.z_len bt_len (pad_cons (pd_var (pv 0)) pad_nil))))
  (psd_cons (psd_own (i := 3) sc.nd rfl (loc_of rfl) (pf_list (by rfl) T.z_list bt_list (pd_var (pv 0))))
  (psd_cons (psd_setIx (pv 3) (pd_var (pv 2)) (pd_op o_mul (pd_ixO (pv 3) (pd_var (pv 2)) (fun _ _ => rfl)) pd_int))
  (psd_freeze 3 (psd_cons (psd_if (pb_cmp o_eq (pd_op o_mod (pd_var (pv 1)) pd_int) pd_int (nomark _))
  (psd_one (psd_set (i := 3) sc.nd rfl (loc_of rfl) (pd_new (pf_cat (pd_new (pf_cat (pd_new (pf_slice (pd_var (pv 0)) pod_none (pod_some (pd_var (pv 2))))) (pd_new (pf_lst (pad_cons pd_int pad_nil))))) (pd_new (pf_slice (pd_var (pv 0)) (pod_some (pd_var (pv 2))) pod_none))))))
  psd_nil)
  (psd_cons (psd_if (PWB.pb (pb_and (pb_cmp o_eq (pd_op o_mod (pd_var (pv 1)) pd_int) pd_int (nomark _)) (pb_and1 (pb_cmp o_gt (pd_ix (pd_var (pv 0)) (pd_var (pv 2)) (fun _ _ => rfl)) pd_int (nomark _)))))
  (psd_one (psd_set (i := 3) sc.nd rfl (loc_of rfl) (pd_new (pf_cat (pd_new (pf_slice (pd_var (pv 0)) pod_none (pod_some (pd_var (pv 2))))) (pd_new (pf_slice (pd_var (pv 0)) (pod_some (pd_op o_add (pd_var (pv 2)) pd_int)) pod_none))))))
  psd_nil)
  (psd_one (psd_ret (pd_var (pv 3)))))))))), rd_law_wrong⟩)
noncomputable def C_law_whole : Con := fun ds Φ => ∃ d, ds = [d] ∧ Φ (.bl (whole d))
theorem mono_law_whole : Mono C_law_whole := fun ds Φ Ψ m h0 => by
  obtain ⟨d, a, h⟩ := h0
  exact ⟨d, a, m _ h⟩
noncomputable abbrev b_law_whole : S3 :=
  (sRet (dAnd (dIsT isInt (dVar 0)) (dNot (dIsT isBool (dVar 0)))))
theorem rd_law_whole : ∀ (ds : List D) (Φ : D → Prop), ds.length = 1 → C_law_whole ds Φ → b_law_whole (finD Φ) (startD 1 ds) := by
  rintro ds Φ hl ⟨d, rfl, h⟩
  cases d <;> exact h
theorem ok_law_whole {P : Program} {w : World} {K : PySem.W.Frag} {mg : Str → Option Value} {base : Heap} {t : Ad} (T : Txt K mg t) : FnOk P w K mg base CX0 1 t.a_law_whole t.d_law_whole ["found"] (spD K 1 C_law_whole) := by
  have sc := sc_law_whole
  refine fn_ok (k := 0) T.F_law_whole sc_law_whole (fun cdv A outer s H E hr => ⟨b_law_whole, (psd_one (psd_ret (pd_and (pd_isinst ty_int rfl T.z_isinstance bt_isinstance rfl T.z_int bt_int (pd_var (pv 0))) (pd_one (pd_not (pd_isinst ty_bool rfl T.z_isinstance bt_isinstance rfl T.z_bool bt_bool (pd_var (pv 0)))))))), rd_law_whole⟩)
noncomputable def C_law_form : Con := fun ds Φ => ∃ (t : T9), ds = [tb t] ∧ Φ (.bl true)
theorem mono_law_form : Mono C_law_form := fun ds Φ Ψ mo h0 => by
  obtain ⟨t, a, h⟩ := h0
  exact ⟨t, a, mo _ h⟩
noncomputable abbrev b_law_form_L1 : S3 :=
  (sIf (bOr (bNot (dT (dIsT isTup (dVar 1)))) (bOr (dT (dOp dNe (dB cLen (aCons (dVar 1) aNil)) (dC (.int 3)))) (bNot (dT (dB cAll (aCons (dF (fComp 1 (iLT (dVar 1)) (gN 0) (fun _ Φ => Φ true) (dCall 1 C_law_whole (aCons (dVar 0) aNil)))) aNil))))))
  (sRet (dC (.bl false)))
  sNext)
noncomputable def b_law_form_2 : S3 :=
  (sRet (dCall 1 C_law_whole (aCons (dOp dIx (dVar 0) (dC (.int 1))) aNil)))
noncomputable def b_law_form_1 : S3 :=
  (sSeq (sFor (iLT (dOp dIx (dVar 0) (dC (.int 0)))) (gN 1)
  b_law_form_L1)
  b_law_form_2)
noncomputable abbrev b_law_form : S3 :=
  (sSeq (sIf (bOr (bNot (dT (dIsT isTup (dVar 0)))) (bOr (dT (dOp dNe (dB cLen (aCons (dVar 0) aNil)) (dC (.int 2)))) (bOr (bNot (dT (dIsT isTup (dOp dIx (dVar 0) (dC (.int 0)))))) (dT (dOp dNe (dB cLen (aCons (dOp dIx (dVar 0) (dC (.int 0))) aNil)) (dC (.int 3)))))))
  (sRet (dC (.bl false)))
  sNext)
  b_law_form_1)
theorem rd_law_form : ∀ (ds : List D) (Φ : D → Prop), ds.length = 1 → C_law_form ds Φ → b_law_form (finD Φ) (startD 2 ds) := by
  rintro ds Φ hl ⟨t, rfl, h⟩
  unfold b_law_form
  refine tF (by rfl) ?_
  refine tF (by rfl) ?_
  refine tF (by rfl) ?_
  refine tF (by rfl) ?_
  show FOR (gN 1) b_law_form_L1 [pt t.p, pt t.q, pt t.r] (thenS b_law_form_2 (finD Φ)) [.val (tb t), .un]
  have row : ∀ (p : P3) (s : Sl) (k : (F3 → Prop) → Fr3 → Prop) (Ψ : F3 → Prop), k Ψ [.val (tb t), .val (pt p)] → b_law_form_L1 (loopS k Ψ) [.val (tb t), .val (pt p)] := fun p s k Ψ hk => by
    unfold b_law_form_L1
    refine tF (by rfl) ?_
    refine tF (by rfl) ?_
    refine ⟨rfl, _, rfl, sl_lt 0 rfl (by decide), rfl, _, rfl, sl_lt 1 rfl (by decide), rfl, _, rfl, sl_lt 2 rfl (by decide), [true, true, true], rfl, ?_⟩
    refine tF (by rfl) ?_
    exact hk
  refine FOR_cons (row _ .un _ _ (FOR_cons (row _ .un _ _ (FOR_cons (row _ .un _ _ (FOR_nil ?_))))))
  exact ⟨rfl, _, rfl, h⟩
theorem ok_law_form {P : Program} {w : World} {K : PySem.W.Frag} {mg : Str → Option Value} {base : Heap} {t : Ad} (T : Txt K mg t) : FnOk P w K mg base CX0 2 t.a_law_form t.d_law_form ["found"] (spD K 1 C_law_form) := by
  have sc := sc_law_form
  refine fn_ok (k := 1) T.F_law_form sc_law_form (fun cdv A outer s H E hr => ⟨b_law_form, (psd_cons (psd_if (PWB.pb (pb_or (pb_not (pb_val (pd_isinst ty_tuple rfl T.z_isinstance bt_isinstance rfl T.z_tuple bt_tuple (pd_var (pv 0))))) (pb_or (pb_cmp o_ne (pd_callB b_len rfl T.z_len bt_len (pad_cons (pd_var (pv 0)) pad_nil)) pd_int (nomark _)) (pb_or (pb_not (pb_val (pd_isinst ty_tuple rfl T.z_isinstance bt_isinstance rfl T.z_tuple bt_tuple (pd_ix (pd_var (pv 0)) pd_int (fun _ _ => rfl))))) (pb_or1 (pb_cmp o_ne (pd_callB b_len rfl T.z_len bt_len (pad_cons (pd_ix (pd_var (pv 0)) pd_int (fun _ _ => rfl)) pad_nil)) pd_int (nomark _)))))))
  (psd_one (psd_ret pd_bl))
  psd_nil)
  (psd_cons (psd_for PassesOwn.never rfl (pid_seq (pd_ix (pd_var (pv 0)) pd_int (fun _ _ => rfl))) (pgd_name (i := 1) sc.nd rfl (loc_of rfl))
  (psd_one (psd_if (PWB.pb (pb_or (pb_not (pb_val (pd_isinst ty_tuple rfl T.z_isinstance bt_isinstance rfl T.z_tuple bt_tuple (pd_var (pv 1))))) (pb_or (pb_cmp o_ne (pd_callB b_len rfl T.z_len bt_len (pad_cons (pd_var (pv 1)) pad_nil)) pd_int (nomark _)) (pb_or1 (pb_not (pb_val (pd_callB (b_all rfl) rfl T.z_all bt_all (pad_cons (pd_new (pf_comp (xs := ["one"]) (M := ["found", "row"]) (n := 1) (by rfl) rfl rfl (pid_seq (pd_var (pv 1))) (fun _ _ _ _ => (pgn_name (i := 0) (by decide) (show List.Nodup (["one", "found", "row"] : List Str) by decide +kernel) rfl (by first | exact Or.inl rfl | exact Or.inr rfl))) (fun _ _ _ _ => pbs_nil) (fun _ _ _ _ => (pd_call (ok_law_whole T) mono_law_whole (hr.mono (by decide)) rfl T.m_law_whole T.F_law_whole.kp T.b_law_whole (pad_cons (pd_var (pv 0)) pad_nil))))) pad_nil))))))))
  (psd_one (psd_ret pd_bl))
  psd_nil)))
  (psd_one (psd_ret (pd_call (ok_law_whole T) mono_law_whole (hr.mono (by decide)) rfl T.m_law_whole T.F_law_whole.kp T.b_law_whole (pad_cons (pd_ix (pd_var (pv 0)) pd_int (fun _ _ => rfl)) pad_nil)))))), rd_law_form⟩)
noncomputable def C_law_is_turn : Con := fun ds Φ => ∃ (t : T9) (k : Nat), ds = [tb t] ∧ k ≤ 4000 ∧ Bt k t ∧ (IsTurn t → Φ (.bl true)) ∧ (¬ IsTurn t → Φ (.bl false))
theorem mono_law_is_turn : Mono C_law_is_turn := fun ds Φ Ψ mo h0 => by
  obtain ⟨t, k, a, b, c, h1, h2⟩ := h0
  exact ⟨t, k, a, b, c, fun h => mo _ (h1 h), fun h => mo _ (h2 h)⟩
noncomputable def b_law_is_turn_L2_1 : S3 :=
  (sIf (dT (dOp dNe (dVar 5) (dOp (dI IntMulOk fun i j => .int (i * j)) (dOp (dI IntMulOk fun i j => .int (i * j)) (dVar 2) (dVar 2)) (dB cInt (aCons (dOp dEq (dVar 3) (dVar 4)) aNil)))))
  (sRet (dC (.bl false)))
  sNext)
noncomputable abbrev b_law_is_turn_L2 : S3 :=
  (sSeq (sSet 5 (dB cSum (aCons (dF (fComp 1 (iR1 (aCons (dC (.int 3)) aNil)) (gN 0) (fun _ Φ => Φ true) (dOp (dI IntMulOk fun i j => .int (i * j)) (dOp dIx (dOp dIx (dVar 2) (dVar 4)) (dVar 0)) (dOp dIx (dOp dIx (dVar 2) (dVar 5)) (dVar 0))))) aNil)))
  b_law_is_turn_L2_1)
noncomputable abbrev b_law_is_turn_L1 : S3 :=
  (sFor (iR1 (aCons (dC (.int 3)) aNil)) (gN 4)
  b_law_is_turn_L2)
noncomputable def b_law_is_turn_7 : S3 :=
  (sRet (dOp dEq (dVar 9) (dOp (dI IntMulOk fun i j => .int (i * j)) (dOp (dI IntMulOk fun i j => .int (i * j)) (dVar 2) (dVar 2)) (dVar 2))))
noncomputable def b_law_is_turn_6 : S3 :=
  (sSeq (sSet 9 (dOp (dI0 fun i j => .int (i + j)) (dVar 9) (dOp (dI IntMulOk fun i j => .int (i * j)) (dOp dIx (dVar 6) (dC (.int 2))) (dOp (dI0 fun i j => .int (i - j)) (dOp (dI IntMulOk fun i j => .int (i * j)) (dOp dIx (dVar 7) (dC (.int 0))) (dOp dIx (dVar 8) (dC (.int 1)))) (dOp (dI IntMulOk fun i j => .int (i * j)) (dOp dIx (dVar 7) (dC (.int 1))) (dOp dIx (dVar 8) (dC (.int 0))))))))
  b_law_is_turn_7)
noncomputable def b_law_is_turn_5 : S3 :=
  (sSeq (sSet 9 (dOp (dI0 fun i j => .int (i - j)) (dVar 9) (dOp (dI IntMulOk fun i j => .int (i * j)) (dOp dIx (dVar 6) (dC (.int 1))) (dOp (dI0 fun i j => .int (i - j)) (dOp (dI IntMulOk fun i j => .int (i * j)) (dOp dIx (dVar 7) (dC (.int 0))) (dOp dIx (dVar 8) (dC (.int 2)))) (dOp (dI IntMulOk fun i j => .int (i * j)) (dOp dIx (dVar 7) (dC (.int 2))) (dOp dIx (dVar 8) (dC (.int 0))))))))
  b_law_is_turn_6)
noncomputable def b_law_is_turn_4 : S3 :=
  (sSeq (sSet 9 (dOp (dI IntMulOk fun i j => .int (i * j)) (dOp dIx (dVar 6) (dC (.int 0))) (dOp (dI0 fun i j => .int (i - j)) (dOp (dI IntMulOk fun i j => .int (i * j)) (dOp dIx (dVar 7) (dC (.int 1))) (dOp dIx (dVar 8) (dC (.int 2)))) (dOp (dI IntMulOk fun i j => .int (i * j)) (dOp dIx (dVar 7) (dC (.int 2))) (dOp dIx (dVar 8) (dC (.int 1)))))))
  b_law_is_turn_5)
noncomputable def b_law_is_turn_3 : S3 :=
  (sSeq (sAsg (dVar 1) (gTup3 3 (gCons3 (gN 6) (gCons3 (gN 7) (gCons3 (gN 8) gNil3)))))
  b_law_is_turn_4)
noncomputable def b_law_is_turn_2 : S3 :=
  (sSeq (sFor (iR1 (aCons (dC (.int 3)) aNil)) (gN 3)
  b_law_is_turn_L1)
  b_law_is_turn_3)
noncomputable def b_law_is_turn_1 : S3 :=
  (sSeq (sIf (bOr (dT (dOp (dI0 fun i j => .bl (decide (i < j))) (dVar 2) (dC (.int 1)))) (dT (dOp dNe (dCall 1 C_law_divisor (aCons (dF (fCat (dF (fCat (dF (fCat (dF (fList (dOp dIx (dVar 1) (dC (.int 0))))) (dF (fList (dOp dIx (dVar 1) (dC (.int 1))))))) (dF (fList (dOp dIx (dVar 1) (dC (.int 2))))))) (dF (fLst (aCons (dVar 2) aNil))))) aNil)) (dC (.int 1)))))
  (sRet (dC (.bl false)))
  sNext)
  b_law_is_turn_2)
noncomputable abbrev b_law_is_turn : S3 :=
  (sSeq (sAsg (dVar 0) (gTup3 2 (gCons3 (gN 1) (gCons3 (gN 2) gNil3))))
  b_law_is_turn_1)
theorem rd_law_is_turn : ∀ (ds : List D) (Φ : D → Prop), ds.length = 1 → C_law_is_turn ds Φ → b_law_is_turn (finD Φ) (startD 10 ds) := by
  rintro ds Φ hl ⟨t, k, rfl, hk, bt, h1, h2⟩
  have c0 : (-(2 ^ 62) : Int) ≤ 3 := by decide
  have c1 : (3 : Int) < 2 ^ 62 := by decide
  have mk : ∀ {x y : Int}, Bd k x → Bd k y → IntMulOk x y := fun hx hy => mulOk hx hy (by omega)
  have bnn : Bd (2 * k) (t.n * t.n) := (bt.n.mul bt.n).mono (by omega)
  refine ⟨rfl, ?_⟩
  show b_law_is_turn_1 (finD Φ) [.val (tb t), .val (tr t), .val (.int t.n), .un, .un, .un, .un, .un, .un, .un]
  unfold b_law_is_turn_1
  refine tst (fun hc => ?_) (fun hc => ?_)
  · have hc : t.n < 1 := of_decide_eq_true hc
    exact h2 fun it => by have := it.n; omega
  have n1 : ¬ t.n < 1 := of_decide_eq_false hc
  refine ⟨sl_le 6 rfl (by decide), sl_le 9 rfl (by decide), sl_le 1 rfl (by decide), sl_le 10 rfl (by decide), rfl, tl t, .inl rfl, ?_⟩
  refine tst (fun hc => ?_) (fun hc => ?_)
  · have hc : (!decide (gcdL (tl t) = 1)) = true := hc
    exact h2 fun it => by rw [it.g] at hc; simp at hc
  have g1 : gcdL (tl t) = 1 := by
    have hc : (!decide (gcdL (tl t) = 1)) = false := hc
    simpa using hc
  show b_law_is_turn_2 (finD Φ) [.val (tb t), .val (tr t), .val (.int t.n), .un, .un, .un, .un, .un, .un, .un]
  refine ⟨c0, c1, ?_⟩
  refine FOR_inv (fun pre post ρ => pre ++ post = ups 0 3 ∧ (∀ i, i < pre.length → ∀ j, j < 3 → Ortho t i j) ∧ ∃ s3 s4 s5 : Sl, ρ = [.val (tb t), .val (tr t), .val (.int t.n), s3, s4, s5, .un, .un, .un, .un]) ?_ ?_ _ [] _ ⟨rfl, fun i hi => by simp at hi, _, _, _, rfl⟩
  · rintro pre d post ρ ⟨hall, ho, s3, s4, s5, rfl⟩ kk hkk
    obtain ⟨rfl, hi⟩ := ups_at hall
    have hall' : (pre ++ [D.int (0 + (pre.length : Nat))]) ++ post = ups 0 3 := by rw [← hall]; simp
    have ri := row_atI t hi
    have bi := rowAt_bd bt pre.length
    have l1 : (pre ++ [D.int (0 + (pre.length : Nat))]).length = pre.length + 1 := by simp
    refine ⟨c0, c1, ?_⟩
    refine FOR_inv (fun pre2 post2 ρ => pre2 ++ post2 = ups 0 3 ∧ (∀ j, j < pre2.length → Ortho t pre.length j) ∧ ∃ s4 s5 : Sl, ρ = [.val (tb t), .val (tr t), .val (.int t.n), .val (.int (0 + (pre.length : Nat))), s4, s5, .un, .un, .un, .un]) ?_ ?_ _ [] _ ⟨rfl, fun i hi => by simp at hi, _, _, rfl⟩
    · rintro pre2 d2 post2 ρ ⟨hall2, ho2, s4, s5, rfl⟩ k2 hk2
      obtain ⟨rfl, hj⟩ := ups_at hall2
      have hall2' : (pre2 ++ [D.int (0 + (pre2.length : Nat))]) ++ post2 = ups 0 3 := by rw [← hall2]; simp
      have l2 : (pre2 ++ [D.int (0 + (pre2.length : Nat))]).length = pre2.length + 1 := by simp
      have rj := row_atI t hj
      have bj := rowAt_bd bt pre2.length
      have sum : ∀ x y z : Int, [x, y, z].sum = x + y + z := fun x y z => by simp only [List.sum_cons, List.sum_nil]; omega
      refine ⟨c0, c1, onS_of ri (onS_of rj ⟨mk bi.x bj.x, sl_lt 0 rfl (by decide), ?_⟩)⟩
      refine onS_of ri (onS_of rj ⟨mk bi.y bj.y, sl_lt 1 rfl (by decide), ?_⟩)
      refine onS_of ri (onS_of rj ⟨mk bi.z bj.z, sl_lt 2 rfl (by decide), ?_⟩)
      refine ⟨[(rowAt t pre.length).x * (rowAt t pre2.length).x, (rowAt t pre.length).y * (rowAt t pre2.length).y, (rowAt t pre.length).z * (rowAt t pre2.length).z], rfl, ?_⟩
      rw [sum]
      show b_law_is_turn_L2_1 (loopS k2 _) [.val (tb t), .val (tr t), .val (.int t.n), .val (.int (0 + (pre.length : Nat))), .val (.int (0 + (pre2.length : Nat))), .val (.int (dot (rowAt t pre.length) (rowAt t pre2.length))), .un, .un, .un, .un]
      unfold b_law_is_turn_L2_1
      have ej : (if decide ((0 : Int) + (pre.length : Nat) = 0 + (pre2.length : Nat)) = true then (1 : Int) else 0) = if pre.length = pre2.length then 1 else 0 := by
        by_cases h : pre.length = pre2.length
        · rw [if_pos h, if_pos (decide_eq_true (by omega))]
        · rw [if_neg h, if_neg (by rw [decide_eq_true_eq]; omega)]
      refine ⟨mk bt.n bt.n, ?_⟩
      refine ⟨IntMulOk.of_right (by rw [ej]; split <;> decide), ?_⟩
      refine tst (fun hc => ?_) (fun hc => ?_)
      · refine h2 fun it => ?_
        have o := it.o pre.length hi pre2.length hj
        unfold Ortho at o
        have hc : (!decide (dot (rowAt t pre.length) (rowAt t pre2.length) = t.n * t.n * (if decide ((0 : Int) + (pre.length : Nat) = 0 + (pre2.length : Nat)) = true then (1 : Int) else 0))) = true := hc
        rw [ej, o] at hc
        simp at hc
      · have hc : (!decide (dot (rowAt t pre.length) (rowAt t pre2.length) = t.n * t.n * (if decide ((0 : Int) + (pre.length : Nat) = 0 + (pre2.length : Nat)) = true then (1 : Int) else 0))) = false := hc
        rw [ej] at hc
        have o : Ortho t pre.length pre2.length := by unfold Ortho; simpa using hc
        refine hk2 _ ⟨hall2', fun j hj' => ?_, _, _, rfl⟩
        rw [l2] at hj'
        by_cases h : j = pre2.length
        · subst h; exact o
        · exact ho2 j (by omega)
    · rintro pre2 ρ ⟨hall2, ho2, s4, s5, rfl⟩
      rw [List.append_nil] at hall2
      have l3 : pre2.length = 3 := by rw [hall2]; rfl
      rw [l3] at ho2
      refine hkk _ ⟨hall', fun i hi' j hj => ?_, _, _, _, rfl⟩
      rw [l1] at hi'
      by_cases h : i = pre.length
      · subst h; exact ho2 j hj
      · exact ho i (by omega) j hj
  · rintro pre ρ ⟨hall, ho, s3, s4, s5, rfl⟩
    rw [List.append_nil] at hall
    have l3 : pre.length = 3 := by rw [hall]; rfl
    rw [l3] at ho
    refine ⟨rfl, ?_⟩
    show b_law_is_turn_4 (finD Φ) [.val (tb t), .val (tr t), .val (.int t.n), s3, s4, s5, .val (pt t.p), .val (pt t.q), .val (pt t.r), .un]
    have b2 : ∀ {x y z w : Int}, Bd k x → Bd k y → Bd k z → Bd k w → Bd (2 * k + 1) (x * y - z * w) := fun hx hy hz hw => ((hx.mul hy).sub (hz.mul hw)).mono (by omega)
    have m3 : ∀ {x y : Int}, Bd k x → Bd (2 * k + 1) y → IntMulOk x y := fun hx hy => mulOk hx hy (by omega)
    refine ⟨mk bt.q.y bt.r.z, mk bt.q.z bt.r.y, m3 bt.p.x (b2 bt.q.y bt.r.z bt.q.z bt.r.y), ?_⟩
    refine ⟨mk bt.q.x bt.r.z, mk bt.q.z bt.r.x, m3 bt.p.y (b2 bt.q.x bt.r.z bt.q.z bt.r.x), ?_⟩
    refine ⟨mk bt.q.x bt.r.y, mk bt.q.y bt.r.x, m3 bt.p.z (b2 bt.q.x bt.r.y bt.q.y bt.r.x), ?_⟩
    refine ⟨mk bt.n bt.n, mulOk bnn bt.n (by omega), ?_⟩
    by_cases hd : det t.p t.q t.r = t.n * t.n * t.n
    · have : decide (det t.p t.q t.r = t.n * t.n * t.n) = true := decide_eq_true hd
      show Φ (.bl (decide (det t.p t.q t.r = t.n * t.n * t.n)))
      rw [this]
      exact h1 (isTurn_of (by omega) g1 ho hd)
    · have : decide (det t.p t.q t.r = t.n * t.n * t.n) = false := decide_eq_false hd
      show Φ (.bl (decide (det t.p t.q t.r = t.n * t.n * t.n)))
      rw [this]
      exact h2 fun it => hd it.d
theorem ok_law_is_turn {P : Program} {w : World} {K : PySem.W.Frag} {mg : Str → Option Value} {base : Heap} {t : Ad} (T : Txt K mg t) : FnOk P w K mg base CX0 2 t.a_law_is_turn t.d_law_is_turn ["thing"] (spD K 1 C_law_is_turn) := by
  have sc := sc_law_is_turn
  refine fn_ok (k := 1) T.F_law_is_turn sc_law_is_turn (fun cdv A outer s H E hr => ⟨b_law_is_turn, (psd_cons (psd_asg (pd_var (pv 0)) (pgd_tup rfl (pgds_cons (pgd_name (i := 1) sc.nd rfl (loc_of rfl)) (pgds_cons (pgd_name (i := 2) sc.nd rfl (loc_of rfl)) pgds_nil))))
  (psd_cons (psd_if (PWB.pb (pb_or (pb_cmp o_lt (pd_var (pv 2)) pd_int (nomark _)) (pb_or1 (pb_cmp o_ne (pd_call (ok_law_divisor T) mono_law_divisor (hr.mono (by decide)) rfl T.m_law_divisor T.F_law_divisor.kp T.b_law_divisor (pad_cons (pd_new (pf_cat (pd_new (pf_cat (pd_new (pf_cat (pd_new (pf_list (by rfl) T.z_list bt_list (pd_ix (pd_var (pv 1)) pd_int (fun _ _ => rfl)))) (pd_new (pf_list (by rfl) T.z_list bt_list (pd_ix (pd_var (pv 1)) pd_int (fun _ _ => rfl)))))) (pd_new (pf_list (by rfl) T.z_list bt_list (pd_ix (pd_var (pv 1)) pd_int (fun _ _ => rfl)))))) (pd_new (pf_lst (pad_cons (pd_var (pv 2)) pad_nil))))) pad_nil)) pd_int (nomark _)))))
  (psd_one (psd_ret pd_bl))
  psd_nil)
  (psd_cons (psd_for PassesOwn.never rfl (pid_range1 rfl T.z_range (pad_cons pd_int pad_nil)) (pgd_name (i := 3) sc.nd rfl (loc_of rfl))
  (psd_one (psd_for PassesOwn.never rfl (pid_range1 rfl T.z_range (pad_cons pd_int pad_nil)) (pgd_name (i := 4) sc.nd rfl (loc_of rfl))
  (psd_cons (psd_set (i := 5) sc.nd rfl (loc_of rfl) (pd_callB (b_sum rfl) rfl T.z_sum bt_sum (pad_cons (pd_new (pf_comp (xs := ["c"]) (M := ["thing", "rows", "bottom", "j", "k", "total", "a", "b", "?c", "whole_size"]) (n := 1) (by rfl) rfl rfl (pid_range1 rfl T.z_range (pad_cons pd_int pad_nil)) (fun _ _ _ _ => (pgn_name (i := 0) (by decide) (show List.Nodup (["c", "thing", "rows", "bottom", "j", "k", "total", "a", "b", "?c", "whole_size"] : List Str) by decide +kernel) rfl (by first | exact Or.inl rfl | exact Or.inr rfl))) (fun _ _ _ _ => pbs_nil) (fun _ _ _ _ => (pd_op o_mul (pd_ix (pd_ix (pd_var (pv 2)) (pd_var (pv 4)) (fun _ _ => rfl)) (pd_var (pv 0)) (fun _ _ => rfl)) (pd_ix (pd_ix (pd_var (pv 2)) (pd_var (pv 5)) (fun _ _ => rfl)) (pd_var (pv 0)) (fun _ _ => rfl)))))) pad_nil)))
  (psd_one (psd_if (pb_cmp o_ne (pd_var (pv 5)) (pd_op o_mul (pd_op o_mul (pd_var (pv 2)) (pd_var (pv 2))) (pd_callTy b_int rfl T.z_int bt_int (pad_cons (pd_cmp o_eq (pd_var (pv 3)) (pd_var (pv 4)) (nomark _)) pad_nil))) (nomark _))
  (psd_one (psd_ret pd_bl))
  psd_nil))))))
  (psd_cons (psd_asg (pd_var (pv 1)) (pgd_tup rfl (pgds_cons (pgd_name (i := 6) sc.nd rfl (loc_of rfl)) (pgds_cons (pgd_name (i := 7) sc.nd rfl (loc_of rfl)) (pgds_cons (pgd_name (i := 8) sc.nd rfl (loc_of rfl)) pgds_nil)))))
  (psd_cons (psd_set (i := 9) sc.nd rfl (loc_of rfl) (pd_op o_mul (pd_ix (pd_var (pv 6)) pd_int (fun _ _ => rfl)) (pd_op o_sub (pd_op o_mul (pd_ix (pd_var (pv 7)) pd_int (fun _ _ => rfl)) (pd_ix (pd_var (pv 8)) pd_int (fun _ _ => rfl))) (pd_op o_mul (pd_ix (pd_var (pv 7)) pd_int (fun _ _ => rfl)) (pd_ix (pd_var (pv 8)) pd_int (fun _ _ => rfl))))))
  (psd_cons (psd_set (i := 9) sc.nd rfl (loc_of rfl) (pd_op o_sub (pd_var (pv 9)) (pd_op o_mul (pd_ix (pd_var (pv 6)) pd_int (fun _ _ => rfl)) (pd_op o_sub (pd_op o_mul (pd_ix (pd_var (pv 7)) pd_int (fun _ _ => rfl)) (pd_ix (pd_var (pv 8)) pd_int (fun _ _ => rfl))) (pd_op o_mul (pd_ix (pd_var (pv 7)) pd_int (fun _ _ => rfl)) (pd_ix (pd_var (pv 8)) pd_int (fun _ _ => rfl)))))))
  (psd_cons (psd_set (i := 9) sc.nd rfl (loc_of rfl) (pd_op o_add (pd_var (pv 9)) (pd_op o_mul (pd_ix (pd_var (pv 6)) pd_int (fun _ _ => rfl)) (pd_op o_sub (pd_op o_mul (pd_ix (pd_var (pv 7)) pd_int (fun _ _ => rfl)) (pd_ix (pd_var (pv 8)) pd_int (fun _ _ => rfl))) (pd_op o_mul (pd_ix (pd_var (pv 7)) pd_int (fun _ _ => rfl)) (pd_ix (pd_var (pv 8)) pd_int (fun _ _ => rfl)))))))
  (psd_one (psd_ret (pd_cmp o_eq (pd_var (pv 9)) (pd_op o_mul (pd_op o_mul (pd_var (pv 2)) (pd_var (pv 2))) (pd_var (pv 2))) (nomark _))))))))))), rd_law_is_turn⟩)
noncomputable abbrev C_law : Con := cLaw
noncomputable def b_law_L1_1 : S3 :=
  (sSet 7 (dCall 2 C_law_behind (aCons (dVar 7) (aCons (dVar 8) aNil))))
noncomputable abbrev b_law_L1 : S3 :=
  (sSeq (sIf (bOr (bNot (dT (dCall 1 C_law_form (aCons (dVar 8) aNil)))) (bOr (dT (dOp dNe (dOp dIx (dVar 8) (dC (.int 1))) (dVar 9))) (bNot (dT (dCall 1 C_law_is_turn (aCons (dVar 8) aNil))))))
  (sRet (dC (.bl false)))
  sNext)
  b_law_L1_1)
noncomputable def b_law_9 : S3 :=
  (sRet (dAnd (dOp dEqS (dVar 7) (dVar 3)) (dCall 2 C_law_refused (aCons (dVar 3) (aCons (dCall 2 C_law_wrong (aCons (dVar 4) (aCons (dOp (dI CD fun i j => .int (i.fdiv j)) (dVar 1) (dC (.int 12))) aNil))) aNil)))))
noncomputable def b_law_8 : S3 :=
  (sSeq (sFor (iZip (aCons (dVar 6) (aCons (dF (fCat (dVar 4) (dF (fLst (aCons (dC (.int 1)) aNil))))) aNil))) (gTup3 2 (gCons3 (gN 8) (gCons3 (gN 9) gNil3)))
  b_law_L1)
  b_law_9)
noncomputable def b_law_7 : S3 :=
  (sSeq (sSet 7 (dTup (aCons (dTup (aCons (dTup (aCons (dC (.int 1)) (aCons (dC (.int 0)) (aCons (dC (.int 0)) aNil)))) (aCons (dTup (aCons (dC (.int 0)) (aCons (dC (.int 1)) (aCons (dC (.int 0)) aNil)))) (aCons (dTup (aCons (dC (.int 0)) (aCons (dC (.int 0)) (aCons (dC (.int 1)) aNil)))) aNil)))) (aCons (dC (.int 1)) aNil))))
  b_law_8)
noncomputable def b_law_6 : S3 :=
  (sSeq (sIf (bOr (dT (dOp dNeS (dVar 5) (dVar 4))) (bOr (bNot (dT (dIsT isLst (dVar 6)))) (dT (dOp dNe (dB cLen (aCons (dVar 6) aNil)) (dOp (dI0 fun i j => .int (i + j)) (dB cLen (aCons (dVar 4) aNil)) (dC (.int 1)))))))
  (sRet (dC (.bl false)))
  sNext)
  b_law_7)
noncomputable def b_law_5 : S3 :=
  (sSeq (sSet 6 (dCall 2 C_parted (aCons (dVar 3) (aCons (dVar 5) aNil))))
  b_law_6)
noncomputable def b_law_4 : S3 :=
  (sSeq (sSet 5 (dF (fList (dVar 4))))
  b_law_5)
noncomputable def b_law_3 : S3 :=
  (sSeq (sSet 4 (dCall 2 C_law_sizes (aCons (dOp dIx (dVar 3) (dC (.int 1))) (aCons (dF (fSl (dVar 0) (oSome (dC (.int 41))) (oSome (dOp (dI0 fun i j => .int (i + j)) (dC (.int 41)) (dOp (dI (fun _ j => j ≠ 0) fun i j => .int (i.fmod j)) (dOp (dI CD fun i j => .int (i.fdiv j)) (dVar 1) (dC (.int 2))) (dC (.int 6))))))) aNil))))
  b_law_4)
noncomputable def b_law_2 : S3 :=
  (sSeq (sSet 3 (dCall 1 C_law_table (aCons (dVar 2) aNil)))
  b_law_3)
noncomputable def b_law_1 : S3 :=
  (sSeq (sSet 2 (dCall 2 C_law_made_quad (aCons (dF (fSl (dVar 0) (oSome (dC (.int 1))) (oSome (dC (.int 41))))) (aCons (dOp dIx (dF (fLst (aCons (dOp (dI CPow fun i j => .int (i ^ j.toNat)) (dC (.int 10)) (dC (.int 12))) (aCons (dC (.int 5)) aNil)))) (dOp (dI (fun _ j => j ≠ 0) fun i j => .int (i.fmod j)) (dVar 1) (dC (.int 2)))) aNil))))
  b_law_2)
noncomputable abbrev b_law : S3 :=
  (sSeq (sSet 1 (dCall 2 C_law_cell_at (aCons (dVar 0) (aCons (dC (.int 0)) aNil))))
  b_law_1)
theorem rd_law : ∀ (ds : List D) (Φ : D → Prop), ds.length = 1 → C_law ds Φ → b_law (finD Φ) (startD 10 ds) := by
  rintro ds Φ hl ⟨ns, rfl, hn, h⟩
  refine ⟨rfl, ns, 0, rfl, ?_⟩
  show b_law_1 (finD Φ) [.val (.lst (ns.map .int)), .val (.int (ns.getD 0 0)), .un, .un, .un, .un, .un, .un, .un, .un]
  unfold b_law_1
  refine ⟨pow_ok (by decide), sl_le 2 rfl (by decide), show (2 : Int) ≠ 0 by decide, ?_⟩
  obtain ⟨m, hm, m0, m1⟩ : ∃ m : Int, atI [D.int ((10 : Int) ^ (12 : Int).toNat), D.int 5] ((ns.getD 0 0).fmod 2) = some (.int m) ∧ 0 ≤ m ∧ m ≤ 10 ^ 30 := by
    rcases two01 (ns.getD 0 0) with z | z <;> rw [z]
    · exact ⟨10 ^ 12, rfl, by decide, by decide⟩
    · exact ⟨5, rfl, by decide, by decide⟩
  refine onS_of hm ⟨rfl, D3.cutD ns (some 1) (some 41), m, by rw [← cutD_map], cut_few ns 1 41, m0, m1, fun q hq bq => ?_⟩
  generalize ns.getD 0 0 = cell at *
  show b_law_2 (finD Φ) [.val (.lst (ns.map .int)), .val (.int cell), .val (qd q), .un, .un, .un, .un, .un, .un, .un]
  refine ⟨rfl, q, 310, rfl, hq, by decide, bq, ?_⟩
  have np := turnT_pos hq
  have bt : Bt 623 (turnT q) := turnT_bd hq bq
  have bq4 := bq.mono (show 310 ≤ 400 by decide)
  show b_law_3 (finD Φ) [.val (.lst (ns.map .int)), .val (.int cell), .val (qd q), .val (tb (turnT q)), .un, .un, .un, .un, .un, .un]
  refine ⟨cd_lit (by decide), (show (6 : Int) ≠ 0 by decide), ?_⟩
  have r0 : 0 ≤ (cell.fdiv 2).fmod 6 ∧ (cell.fdiv 2).fmod 6 < 6 := by rw [fmod_pos (by decide)]; omega
  show ([D.int (turnT q).n, D.lst (D3.cutD (ns.map D.int) (some 41) (some ((41 : Int) + (cell.fdiv 2).fmod 6)))] : List D).length = 2 ∧ C_law_sizes [D.int (turnT q).n, D.lst (D3.cutD (ns.map D.int) (some 41) (some ((41 : Int) + (cell.fdiv 2).fmod 6)))] fun d => b_law_4 (finD Φ) [.val (.lst (ns.map .int)), .val (.int cell), .val (qd q), .val (tb (turnT q)), .val d, .un, .un, .un, .un, .un]
  generalize (cell.fdiv 2).fmod 6 = r at *
  obtain ⟨r, rfl⟩ : ∃ k : Nat, r = k := ⟨r.toNat, by omega⟩
  have fewr := cut_few ns 41 (41 + r)
  have er : (41 : Int) + (r : Int) = ((41 + r : Nat) : Int) := by omega
  have es : D3.cutD (ns.map D.int) (some 41) (some ((41 : Int) + (r : Int))) = (D3.cutD ns (some 41) (some ((41 + r : Nat) : Int))).map D.int := by rw [er, cutD_map]
  rw [es]
  refine ⟨rfl, (turnT q).n, D3.cutD ns (some 41) (some ((41 + r : Nat) : Int)), rfl, np, bt.n.mono (by decide), ?_, fun ss hp ls => ?_⟩
  · have : (D3.cutD ns (some ((41 : Nat) : Int)) (some ((41 + r : Nat) : Int))).length ≤ 50 := by omega
    exact this
  have ls : ss.length ≤ 6 ∧ 1 ≤ ss.length := by
    have : (D3.cutD ns (some ((41 : Nat) : Int)) (some ((41 + r : Nat) : Int))).length = (D3.cutD ns (some 41) (some ((41 + r : Nat) : Int))).length := rfl
    omega
  show b_law_4 (finD Φ) [.val (.lst (ns.map .int)), .val (.int cell), .val (qd q), .val (tb (turnT q)), .val (.lst (ss.map .int)), .un, .un, .un, .un, .un]
  show b_law_5 (finD Φ) [.val (.lst (ns.map .int)), .val (.int cell), .val (qd q), .val (tb (turnT q)), .val (.lst (ss.map .int)), .val (.lst (ss.map .int)), .un, .un, .un, .un]
  refine ⟨rfl, turnT q, q, ss, rfl, rfl, hq, bq4, by omega, hp, fun ps e1 h2 h3 e4 => ?_⟩
  show b_law_6 (finD Φ) [.val (.lst (ns.map .int)), .val (.int cell), .val (qd q), .val (tb (turnT q)), .val (.lst (ss.map .int)), .val (.lst (ss.map .int)), .val (.lst (ps.map fun s => tb (turnT s))), .un, .un, .un]
  unfold b_law_6
  refine ⟨?_, ?_⟩
  · show dep (.lst (ss.map D.int)) ≤ 100
    show deps (ss.map D.int) + 1 ≤ 100
    rw [deps_ints]; decide
  refine tF (by rw [eqD_refl]; rfl) ?_
  refine tF (by rfl) ?_
  have lp : ps.length = ss.length + 1 := by
    have := congrArg List.length e1
    simpa using this
  refine tF (show (!decide (((ps.map fun s => tb (turnT s)).length : Int) = ((ss.map D.int).length : Int) + 1)) = false by
    rw [decide_eq_true (by rw [List.length_map, List.length_map, lp]; omega)]; rfl) ?_
  show b_law_7 (finD Φ) [.val (.lst (ns.map .int)), .val (.int cell), .val (qd q), .val (tb (turnT q)), .val (.lst (ss.map .int)), .val (.lst (ss.map .int)), .val (.lst (ps.map fun s => tb (turnT s))), .un, .un, .un]
  refine ⟨sl_le 3 rfl (by decide), sl_le 3 rfl (by decide), sl_le 3 rfl (by decide), sl_le 3 rfl (by decide), sl_le 2 rfl (by decide), ?_⟩
  refine ⟨sl_le 1 rfl (by decide), ?_, ?_⟩
  · rw [List.length_map]; exact Nat.le_of_lt (small1000 (by simp; omega))
  have ez : ∀ ps : List Q4, zipD (ps.map fun s => tb (turnT s)) ((ps.map fun s => (turnT s).n).map D.int) = ps.map fun s => D.tup [tb (turnT s), .int (turnT s).n] := by
    intro ps
    induction ps with
    | nil => rfl
    | cons s ps ih => simp only [List.map_cons, zipD, ih]
  have e5 : ss.map D.int ++ [D.int 1] = (ps.map fun s => (turnT s).n).map D.int := by rw [e1, List.map_append]; rfl
  show FOR (gTup3 2 (gCons3 (gN 8) (gCons3 (gN 9) gNil3))) b_law_L1 (zipD (ps.map fun s => tb (turnT s)) (ss.map D.int ++ [D.int 1])) (thenS b_law_9 (finD Φ)) [.val (.lst (ns.map .int)), .val (.int cell), .val (qd q), .val (tb (turnT q)), .val (.lst (ss.map .int)), .val (.lst (ss.map .int)), .val (.lst (ps.map fun s => tb (turnT s))), .val (tb ⟨⟨1, 0, 0⟩, ⟨0, 1, 0⟩, ⟨0, 0, 1⟩, 1⟩), .un, .un]
  rw [e5, ez, ← turn_one4]
  have loop : ∀ (xs pre : List Q4) (s8 s9 : Sl), pre ++ xs = ps → FOR (gTup3 2 (gCons3 (gN 8) (gCons3 (gN 9) gNil3))) b_law_L1 (xs.map fun s => D.tup [tb (turnT s), .int (turnT s).n]) (thenS b_law_9 (finD Φ)) [.val (.lst (ns.map .int)), .val (.int cell), .val (qd q), .val (tb (turnT q)), .val (.lst (ss.map .int)), .val (.lst (ss.map .int)), .val (.lst (ps.map fun s => tb (turnT s))), .val (tb (turnT (prodQ pre))), s8, s9] := by
    intro xs
    induction xs with
    | nil =>
      intro pre s8 s9 e
      rw [List.append_nil] at e
      subst e
      show b_law_9 (finD Φ) [.val (.lst (ns.map .int)), .val (.int cell), .val (qd q), .val (tb (turnT q)), .val (.lst (ss.map .int)), .val (.lst (ss.map .int)), .val (.lst (pre.map fun s => tb (turnT s))), .val (tb (turnT (prodQ pre))), s8, s9]
      rw [e4]
      unfold b_law_9
      refine ⟨(show 3 ≤ 100 by decide), ?_⟩
      refine tT (by rw [eqD_refl]) ?_
      have bnn : Bd 1000 (turnT q).n := bt.n.mono (by decide)
      refine ⟨cd_lit (by decide), rfl, (turnT q).n, ss, _, rfl, np, bnn, List.length_pos_iff.mp (by omega), by omega, hp, fun ms no lm bm => ?_⟩
      exact ⟨rfl, turnT q, ms, rfl, by omega, bm, no, h⟩
    | cons s xs ih =>
      intro pre s8 s9 e
      have hs := h2 s (by rw [← e]; simp)
      have bs : Bt 1003 (turnT s) := turnT_bd hs (h3 s (by rw [← e]; simp))
      have it := turnT_is hs
      have hpre : ∀ x ∈ pre, x ≠ q0 := fun x hx => h2 x (by rw [← e]; simp [hx])
      have pn := prodQ_ne hpre
      have hle := pre_bottom (pre := pre) (xs := s :: xs) (by rw [e]; exact h2)
      rw [e] at hle
      have ep : prd (bots ps) = (turnT q).n := by
        show prd (ps.map fun s => (turnT s).n) = _
        rw [e1, prd_append]
        have : prd ss = (turnT q).n := hp.2
        rw [this]; show _ * (1 * 1) = _; omega
      rw [ep] at hle
      have np2 := turnT_pos pn
      have btp : Bt 1003 (turnT (prodQ pre)) := isturn_bd (turnT_is pn) (bd_le (bt.n.mono (by decide)) (by omega))
      refine FOR_cons ⟨rfl, ?_⟩
      refine ⟨rfl, turnT s, rfl, ?_⟩
      refine tF (by rfl) ?_
      refine tF (show (!decide ((turnT s).n = (turnT s).n)) = false by rw [decide_eq_true rfl]; rfl) ?_
      refine ⟨rfl, turnT s, 1003, rfl, by decide, bs, fun _ => ?_, fun n => absurd it n⟩
      refine tF (by rfl) ?_
      refine ⟨rfl, turnT (prodQ pre), turnT s, _, _, 1003, rfl, .inl rfl, .inl rfl, Int.ne_of_gt np2, Int.ne_of_gt (turnT_pos hs), by decide, btp, bs, ?_⟩
      rw [mul_turn pn hs, ← prodQ_snoc]
      exact ih (pre ++ [s]) _ _ (by rw [List.append_assoc]; exact e)
  exact loop ps [] _ _ rfl
theorem ok_law {P : Program} {w : World} {K : PySem.W.Frag} {mg : Str → Option Value} {base : Heap} {t : Ad} (T : Txt K mg t) : FnOk P w K mg base CX0 8 t.a_law t.d_law ["script"] (spD K 1 C_law) := by
  have sc := sc_law
  refine fn_ok (k := 7) T.F_law sc_law (fun cdv A outer s H E hr => ⟨b_law, (psd_cons (psd_set (i := 1) sc.nd rfl (loc_of rfl) (pd_call (ok_law_cell_at T) mono_law_cell_at (hr.mono (by decide)) rfl T.m_law_cell_at T.F_law_cell_at.kp T.b_law_cell_at (pad_cons (pd_var (pv 0)) (pad_cons pd_int pad_nil))))
  (psd_cons (psd_set (i := 2) sc.nd rfl (loc_of rfl) (pd_call (ok_law_made_quad T) mono_law_made_quad (hr.mono (by decide)) rfl T.m_law_made_quad T.F_law_made_quad.kp T.b_law_made_quad (pad_cons (pd_new (pf_slice (pd_var (pv 0)) (pod_some pd_int) (pod_some pd_int))) (pad_cons (pd_ix (pd_new (pf_lst (pad_cons (pd_op o_pow pd_int pd_int) (pad_cons pd_int pad_nil)))) (pd_op o_mod (pd_var (pv 1)) pd_int) (fun _ _ => rfl)) pad_nil))))
  (psd_cons (psd_set (i := 3) sc.nd rfl (loc_of rfl) (pd_call (ok_law_table T) mono_law_table (hr.mono (by decide)) rfl T.m_law_table T.F_law_table.kp T.b_law_table (pad_cons (pd_var (pv 2)) pad_nil)))
  (psd_cons (psd_set (i := 4) sc.nd rfl (loc_of rfl) (pd_call (ok_law_sizes T) mono_law_sizes (hr.mono (by decide)) rfl T.m_law_sizes T.F_law_sizes.kp T.b_law_sizes (pad_cons (pd_ix (pd_var (pv 3)) pd_int (fun _ _ => rfl)) (pad_cons (pd_new (pf_slice (pd_var (pv 0)) (pod_some pd_int) (pod_some (pd_op o_add pd_int (pd_op o_mod (pd_op o_fdiv (pd_var (pv 1)) pd_int) pd_int))))) pad_nil))))
  (psd_cons (psd_set (i := 5) sc.nd rfl (loc_of rfl) (pd_new (pf_list (by rfl) T.z_list bt_list (pd_var (pv 4)))))
  (psd_cons (psd_set (i := 6) sc.nd rfl (loc_of rfl) (pd_call (ok_parted T) mono_parted (hr.mono (by decide)) rfl T.m_parted T.F_parted.kp T.b_parted (pad_cons (pd_var (pv 3)) (pad_cons (pd_var (pv 5)) pad_nil))))
  (psd_cons (psd_if (PWB.pb (pb_or (pb_cmp (o_neS (hu3 hr)) (pd_var (pv 5)) (pd_var (pv 4)) (nomark _)) (pb_or (pb_not (pb_val (pd_isinst ty_list rfl T.z_isinstance bt_isinstance rfl T.z_list bt_list (pd_var (pv 6))))) (pb_or1 (pb_cmp o_ne (pd_callB b_len rfl T.z_len bt_len (pad_cons (pd_var (pv 6)) pad_nil)) (pd_op o_add (pd_callB b_len rfl T.z_len bt_len (pad_cons (pd_var (pv 4)) pad_nil)) pd_int) (nomark _))))))
  (psd_one (psd_ret pd_bl))
  psd_nil)
  (psd_cons (psd_set (i := 7) sc.nd rfl (loc_of rfl) (pd_tup (pad_cons (pd_tup (pad_cons (pd_tup (pad_cons pd_int (pad_cons pd_int (pad_cons pd_int pad_nil)))) (pad_cons (pd_tup (pad_cons pd_int (pad_cons pd_int (pad_cons pd_int pad_nil)))) (pad_cons (pd_tup (pad_cons pd_int (pad_cons pd_int (pad_cons pd_int pad_nil)))) pad_nil)))) (pad_cons pd_int pad_nil))))
  (psd_cons (psd_for PassesOwn.never rfl (pid_zip rfl T.z_zip (pad_cons (pd_var (pv 6)) (pad_cons (pd_new (pf_cat (pd_var (pv 4)) (pd_new (pf_lst (pad_cons pd_int pad_nil))))) pad_nil))) (pgd_tup rfl (pgds_cons (pgd_name (i := 8) sc.nd rfl (loc_of rfl)) (pgds_cons (pgd_name (i := 9) sc.nd rfl (loc_of rfl)) pgds_nil)))
  (psd_cons (psd_if (PWB.pb (pb_or (pb_not (pb_val (pd_call (ok_law_form T) mono_law_form (hr.mono (by decide)) rfl T.m_law_form T.F_law_form.kp T.b_law_form (pad_cons (pd_var (pv 8)) pad_nil)))) (pb_or (pb_cmp o_ne (pd_ix (pd_var (pv 8)) pd_int (fun _ _ => rfl)) (pd_var (pv 9)) (nomark _)) (pb_or1 (pb_not (pb_val (pd_call (ok_law_is_turn T) mono_law_is_turn (hr.mono (by decide)) rfl T.m_law_is_turn T.F_law_is_turn.kp T.b_law_is_turn (pad_cons (pd_var (pv 8)) pad_nil))))))))
  (psd_one (psd_ret pd_bl))
  psd_nil)
  (psd_one (psd_set (i := 7) sc.nd rfl (loc_of rfl) (pd_call (ok_law_behind T) mono_law_behind (hr.mono (by decide)) rfl T.m_law_behind T.F_law_behind.kp T.b_law_behind (pad_cons (pd_var (pv 7)) (pad_cons (pd_var (pv 8)) pad_nil)))))))
  (psd_one (psd_ret (pd_and (pd_cmp (o_eqS (hu3 hr)) (pd_var (pv 7)) (pd_var (pv 3)) (nomark _)) (pd_one (pd_call (ok_law_refused T) mono_law_refused (hr.mono (by decide)) rfl T.m_law_refused T.F_law_refused.kp T.b_law_refused (pad_cons (pd_var (pv 3)) (pad_cons (pd_call (ok_law_wrong T) mono_law_wrong (hr.mono (by decide)) rfl T.m_law_wrong T.F_law_wrong.kp T.b_law_wrong (pad_cons (pd_var (pv 4)) (pad_cons (pd_op o_fdiv (pd_var (pv 1)) pd_int) pad_nil))) pad_nil)))))))))))))))), rd_law⟩)
theorem all_mk {l : PySem.W.OpenLaw} {w : World} {K : PySem.W.Frag} {h : Heap} {mg : Str → Option Value} {fa : Addr} (X : K.In h) (G : h.Ns mainGlobals mg) (hfa : mg "law" = some (.ref fa))
    {f0 : Addr} {od0 an0 : Option Addr} {sl0 : Array (Option Value)} {oc0 kV0 dc0 pm0 cd0 ct0 : Value}
    (a0 : PySem.W.nsIn K mainGlobals "_law_cell_at" = some (some (.ref f0))) (l0 : K.lookup f0 = some ⟨oc0, od0, .func (PySem.W.fnOf "_law_cell_at" "_law_cell_at" (defArgs s_law_cell_at) (defBody s_law_cell_at) (defScope s_law_cell_at) .none kV0 dc0 pm0 an0 cd0 ct0), sl0⟩) (c0 : PySem.W.codeIn K cd0 "_law_cell_at" = true) (k0 : PySem.W.keepIn K (.ref f0) = true)
    {f1 : Addr} {od1 an1 : Option Addr} {sl1 : Array (Option Value)} {oc1 kV1 dc1 pm1 cd1 ct1 : Value}
    (a1 : PySem.W.nsIn K mainGlobals "_law_near" = some (some (.ref f1))) (l1 : K.lookup f1 = some ⟨oc1, od1, .func (PySem.W.fnOf "_law_near" "_law_near" (defArgs s_law_near) (defBody s_law_near) (defScope s_law_near) .none kV1 dc1 pm1 an1 cd1 ct1), sl1⟩) (c1 : PySem.W.codeIn K cd1 "_law_near" = true) (k1 : PySem.W.keepIn K (.ref f1) = true)
    {f2 : Addr} {od2 an2 : Option Addr} {sl2 : Array (Option Value)} {oc2 kV2 dc2 pm2 cd2 ct2 : Value}
    (a2 : PySem.W.nsIn K mainGlobals "_law_quad" = some (some (.ref f2))) (l2 : K.lookup f2 = some ⟨oc2, od2, .func (PySem.W.fnOf "_law_quad" "_law_quad" (defArgs s_law_quad) (defBody s_law_quad) (defScope s_law_quad) .none kV2 dc2 pm2 an2 cd2 ct2), sl2⟩) (c2 : PySem.W.codeIn K cd2 "_law_quad" = true) (k2 : PySem.W.keepIn K (.ref f2) = true)
    {f3 : Addr} {od3 an3 : Option Addr} {sl3 : Array (Option Value)} {oc3 kV3 dc3 pm3 cd3 ct3 : Value}
    (a3 : PySem.W.nsIn K mainGlobals "_law_divisor" = some (some (.ref f3))) (l3 : K.lookup f3 = some ⟨oc3, od3, .func (PySem.W.fnOf "_law_divisor" "_law_divisor" (defArgs s_law_divisor) (defBody s_law_divisor) (defScope s_law_divisor) .none kV3 dc3 pm3 an3 cd3 ct3), sl3⟩) (c3 : PySem.W.codeIn K cd3 "_law_divisor" = true) (k3 : PySem.W.keepIn K (.ref f3) = true)
    {f4 : Addr} {od4 an4 : Option Addr} {sl4 : Array (Option Value)} {oc4 kV4 dc4 pm4 cd4 ct4 : Value}
    (a4 : PySem.W.nsIn K mainGlobals "_law_laid" = some (some (.ref f4))) (l4 : K.lookup f4 = some ⟨oc4, od4, .func (PySem.W.fnOf "_law_laid" "_law_laid" (defArgs s_law_laid) (defBody s_law_laid) (defScope s_law_laid) .none kV4 dc4 pm4 an4 cd4 ct4), sl4⟩) (c4 : PySem.W.codeIn K cd4 "_law_laid" = true) (k4 : PySem.W.keepIn K (.ref f4) = true)
    {f5 : Addr} {od5 an5 : Option Addr} {sl5 : Array (Option Value)} {oc5 kV5 dc5 pm5 cd5 ct5 : Value}
    (a5 : PySem.W.nsIn K mainGlobals "_law_made_quad" = some (some (.ref f5))) (l5 : K.lookup f5 = some ⟨oc5, od5, .func (PySem.W.fnOf "_law_made_quad" "_law_made_quad" (defArgs s_law_made_quad) (defBody s_law_made_quad) (defScope s_law_made_quad) .none kV5 dc5 pm5 an5 cd5 ct5), sl5⟩) (c5 : PySem.W.codeIn K cd5 "_law_made_quad" = true) (k5 : PySem.W.keepIn K (.ref f5) = true)
    {f6 : Addr} {od6 an6 : Option Addr} {sl6 : Array (Option Value)} {oc6 kV6 dc6 pm6 cd6 ct6 : Value}
    (a6 : PySem.W.nsIn K mainGlobals "_law_lower" = some (some (.ref f6))) (l6 : K.lookup f6 = some ⟨oc6, od6, .func (PySem.W.fnOf "_law_lower" "_law_lower" (defArgs s_law_lower) (defBody s_law_lower) (defScope s_law_lower) .none kV6 dc6 pm6 an6 cd6 ct6), sl6⟩) (c6 : PySem.W.codeIn K cd6 "_law_lower" = true) (k6 : PySem.W.keepIn K (.ref f6) = true)
    {f7 : Addr} {od7 an7 : Option Addr} {sl7 : Array (Option Value)} {oc7 kV7 dc7 pm7 cd7 ct7 : Value}
    (a7 : PySem.W.nsIn K mainGlobals "_law_table" = some (some (.ref f7))) (l7 : K.lookup f7 = some ⟨oc7, od7, .func (PySem.W.fnOf "_law_table" "_law_table" (defArgs s_law_table) (defBody s_law_table) (defScope s_law_table) .none kV7 dc7 pm7 an7 cd7 ct7), sl7⟩) (c7 : PySem.W.codeIn K cd7 "_law_table" = true) (k7 : PySem.W.keepIn K (.ref f7) = true)
    {f8 : Addr} {od8 an8 : Option Addr} {sl8 : Array (Option Value)} {oc8 kV8 dc8 pm8 cd8 ct8 : Value}
    (a8 : PySem.W.nsIn K mainGlobals "_law_sizes" = some (some (.ref f8))) (l8 : K.lookup f8 = some ⟨oc8, od8, .func (PySem.W.fnOf "_law_sizes" "_law_sizes" (defArgs s_law_sizes) (defBody s_law_sizes) (defScope s_law_sizes) .none kV8 dc8 pm8 an8 cd8 ct8), sl8⟩) (c8 : PySem.W.codeIn K cd8 "_law_sizes" = true) (k8 : PySem.W.keepIn K (.ref f8) = true)
    {f9 : Addr} {od9 an9 : Option Addr} {sl9 : Array (Option Value)} {oc9 kV9 dc9 pm9 cd9 ct9 : Value}
    (a9 : PySem.W.nsIn K mainGlobals "is_product" = some (some (.ref f9))) (l9 : K.lookup f9 = some ⟨oc9, od9, .func (PySem.W.fnOf "is_product" "is_product" (defArgs s_is_product) (defBody s_is_product) (defScope s_is_product) .none kV9 dc9 pm9 an9 cd9 ct9), sl9⟩) (c9 : PySem.W.codeIn K cd9 "is_product" = true) (k9 : PySem.W.keepIn K (.ref f9) = true)
    {f10 : Addr} {od10 an10 : Option Addr} {sl10 : Array (Option Value)} {oc10 kV10 dc10 pm10 cd10 ct10 : Value}
    (a10 : PySem.W.nsIn K mainGlobals "row_over" = some (some (.ref f10))) (l10 : K.lookup f10 = some ⟨oc10, od10, .func (PySem.W.fnOf "row_over" "row_over" (defArgs s_row_over) (defBody s_row_over) (defScope s_row_over) .none kV10 dc10 pm10 an10 cd10 ct10), sl10⟩) (c10 : PySem.W.codeIn K cd10 "row_over" = true) (k10 : PySem.W.keepIn K (.ref f10) = true)
    {f11 : Addr} {od11 an11 : Option Addr} {sl11 : Array (Option Value)} {oc11 kV11 dc11 pm11 cd11 ct11 : Value}
    (a11 : PySem.W.nsIn K mainGlobals "product" = some (some (.ref f11))) (l11 : K.lookup f11 = some ⟨oc11, od11, .func (PySem.W.fnOf "product" "product" (defArgs s_product) (defBody s_product) (defScope s_product) .none kV11 dc11 pm11 an11 cd11 ct11), sl11⟩) (c11 : PySem.W.codeIn K cd11 "product" = true) (k11 : PySem.W.keepIn K (.ref f11) = true)
    {f12 : Addr} {od12 an12 : Option Addr} {sl12 : Array (Option Value)} {oc12 kV12 dc12 pm12 cd12 ct12 : Value}
    (a12 : PySem.W.nsIn K mainGlobals "stone_product" = some (some (.ref f12))) (l12 : K.lookup f12 = some ⟨oc12, od12, .func (PySem.W.fnOf "stone_product" "stone_product" (defArgs s_stone_product) (defBody s_stone_product) (defScope s_stone_product) .none kV12 dc12 pm12 an12 cd12 ct12), sl12⟩) (c12 : PySem.W.codeIn K cd12 "stone_product" = true) (k12 : PySem.W.keepIn K (.ref f12) = true)
    {f13 : Addr} {od13 an13 : Option Addr} {sl13 : Array (Option Value)} {oc13 kV13 dc13 pm13 cd13 ct13 : Value}
    (a13 : PySem.W.nsIn K mainGlobals "row_mix" = some (some (.ref f13))) (l13 : K.lookup f13 = some ⟨oc13, od13, .func (PySem.W.fnOf "row_mix" "row_mix" (defArgs s_row_mix) (defBody s_row_mix) (defScope s_row_mix) .none kV13 dc13 pm13 an13 cd13 ct13), sl13⟩) (c13 : PySem.W.codeIn K cd13 "row_mix" = true) (k13 : PySem.W.keepIn K (.ref f13) = true)
    {f14 : Addr} {od14 an14 : Option Addr} {sl14 : Array (Option Value)} {oc14 kV14 dc14 pm14 cd14 ct14 : Value}
    (a14 : PySem.W.nsIn K mainGlobals "row_less" = some (some (.ref f14))) (l14 : K.lookup f14 = some ⟨oc14, od14, .func (PySem.W.fnOf "row_less" "row_less" (defArgs s_row_less) (defBody s_row_less) (defScope s_row_less) .none kV14 dc14 pm14 an14 cd14 ct14), sl14⟩) (c14 : PySem.W.codeIn K cd14 "row_less" = true) (k14 : PySem.W.keepIn K (.ref f14) = true)
    {f15 : Addr} {od15 an15 : Option Addr} {sl15 : Array (Option Value)} {oc15 kV15 dc15 pm15 cd15 ct15 : Value}
    (a15 : PySem.W.nsIn K mainGlobals "with_rest" = some (some (.ref f15))) (l15 : K.lookup f15 = some ⟨oc15, od15, .func (PySem.W.fnOf "with_rest" "with_rest" (defArgs s_with_rest) (defBody s_with_rest) (defScope s_with_rest) .none kV15 dc15 pm15 an15 cd15 ct15), sl15⟩) (c15 : PySem.W.codeIn K cd15 "with_rest" = true) (k15 : PySem.W.keepIn K (.ref f15) = true)
    {f16 : Addr} {od16 an16 : Option Addr} {sl16 : Array (Option Value)} {oc16 kV16 dc16 pm16 cd16 ct16 : Value}
    (a16 : PySem.W.nsIn K mainGlobals "mirrored" = some (some (.ref f16))) (l16 : K.lookup f16 = some ⟨oc16, od16, .func (PySem.W.fnOf "mirrored" "mirrored" (defArgs s_mirrored) (defBody s_mirrored) (defScope s_mirrored) .none kV16 dc16 pm16 an16 cd16 ct16), sl16⟩) (c16 : PySem.W.codeIn K cd16 "mirrored" = true) (k16 : PySem.W.keepIn K (.ref f16) = true)
    {f17 : Addr} {od17 an17 : Option Addr} {sl17 : Array (Option Value)} {oc17 kV17 dc17 pm17 cd17 ct17 : Value}
    (a17 : PySem.W.nsIn K mainGlobals "even_stone_near" = some (some (.ref f17))) (l17 : K.lookup f17 = some ⟨oc17, od17, .func (PySem.W.fnOf "even_stone_near" "even_stone_near" (defArgs s_even_stone_near) (defBody s_even_stone_near) (defScope s_even_stone_near) .none kV17 dc17 pm17 an17 cd17 ct17), sl17⟩) (c17 : PySem.W.codeIn K cd17 "even_stone_near" = true) (k17 : PySem.W.keepIn K (.ref f17) = true)
    {f18 : Addr} {od18 an18 : Option Addr} {sl18 : Array (Option Value)} {oc18 kV18 dc18 pm18 cd18 ct18 : Value}
    (a18 : PySem.W.nsIn K mainGlobals "odd_stone_near" = some (some (.ref f18))) (l18 : K.lookup f18 = some ⟨oc18, od18, .func (PySem.W.fnOf "odd_stone_near" "odd_stone_near" (defArgs s_odd_stone_near) (defBody s_odd_stone_near) (defScope s_odd_stone_near) .none kV18 dc18 pm18 an18 cd18 ct18), sl18⟩) (c18 : PySem.W.codeIn K cd18 "odd_stone_near" = true) (k18 : PySem.W.keepIn K (.ref f18) = true)
    {f19 : Addr} {od19 an19 : Option Addr} {sl19 : Array (Option Value)} {oc19 kV19 dc19 pm19 cd19 ct19 : Value}
    (a19 : PySem.W.nsIn K mainGlobals "row_times" = some (some (.ref f19))) (l19 : K.lookup f19 = some ⟨oc19, od19, .func (PySem.W.fnOf "row_times" "row_times" (defArgs s_row_times) (defBody s_row_times) (defScope s_row_times) .none kV19 dc19 pm19 an19 cd19 ct19), sl19⟩) (c19 : PySem.W.codeIn K cd19 "row_times" = true) (k19 : PySem.W.keepIn K (.ref f19) = true)
    {f20 : Addr} {od20 an20 : Option Addr} {sl20 : Array (Option Value)} {oc20 kV20 dc20 pm20 cd20 ct20 : Value}
    (a20 : PySem.W.nsIn K mainGlobals "size" = some (some (.ref f20))) (l20 : K.lookup f20 = some ⟨oc20, od20, .func (PySem.W.fnOf "size" "size" (defArgs s_size) (defBody s_size) (defScope s_size) .none kV20 dc20 pm20 an20 cd20 ct20), sl20⟩) (c20 : PySem.W.codeIn K cd20 "size" = true) (k20 : PySem.W.keepIn K (.ref f20) = true)
    {f21 : Addr} {od21 an21 : Option Addr} {sl21 : Array (Option Value)} {oc21 kV21 dc21 pm21 cd21 ct21 : Value}
    (a21 : PySem.W.nsIn K mainGlobals "weight" = some (some (.ref f21))) (l21 : K.lookup f21 = some ⟨oc21, od21, .func (PySem.W.fnOf "weight" "weight" (defArgs s_weight) (defBody s_weight) (defScope s_weight) .none kV21 dc21 pm21 an21 cd21 ct21), sl21⟩) (c21 : PySem.W.codeIn K cd21 "weight" = true) (k21 : PySem.W.keepIn K (.ref f21) = true)
    {f22 : Addr} {od22 an22 : Option Addr} {sl22 : Array (Option Value)} {oc22 kV22 dc22 pm22 cd22 ct22 : Value}
    (a22 : PySem.W.nsIn K mainGlobals "divided" = some (some (.ref f22))) (l22 : K.lookup f22 = some ⟨oc22, od22, .func (PySem.W.fnOf "divided" "divided" (defArgs s_divided) (defBody s_divided) (defScope s_divided) .none kV22 dc22 pm22 an22 cd22 ct22), sl22⟩) (c22 : PySem.W.codeIn K cd22 "divided" = true) (k22 : PySem.W.keepIn K (.ref f22) = true)
    {f23 : Addr} {od23 an23 : Option Addr} {sl23 : Array (Option Value)} {oc23 kV23 dc23 pm23 cd23 ct23 : Value}
    (a23 : PySem.W.nsIn K mainGlobals "common" = some (some (.ref f23))) (l23 : K.lookup f23 = some ⟨oc23, od23, .func (PySem.W.fnOf "common" "common" (defArgs s_common) (defBody s_common) (defScope s_common) .none kV23 dc23 pm23 an23 cd23 ct23), sl23⟩) (c23 : PySem.W.codeIn K cd23 "common" = true) (k23 : PySem.W.keepIn K (.ref f23) = true)
    {f24 : Addr} {od24 an24 : Option Addr} {sl24 : Array (Option Value)} {oc24 kV24 dc24 pm24 cd24 ct24 : Value}
    (a24 : PySem.W.nsIn K mainGlobals "rows_of" = some (some (.ref f24))) (l24 : K.lookup f24 = some ⟨oc24, od24, .func (PySem.W.fnOf "rows_of" "rows_of" (defArgs s_rows_of) (defBody s_rows_of) (defScope s_rows_of) .none kV24 dc24 pm24 an24 cd24 ct24), sl24⟩) (c24 : PySem.W.codeIn K cd24 "rows_of" = true) (k24 : PySem.W.keepIn K (.ref f24) = true)
    {f25 : Addr} {od25 an25 : Option Addr} {sl25 : Array (Option Value)} {oc25 kV25 dc25 pm25 cd25 ct25 : Value}
    (a25 : PySem.W.nsIn K mainGlobals "divisor_of_two" = some (some (.ref f25))) (l25 : K.lookup f25 = some ⟨oc25, od25, .func (PySem.W.fnOf "divisor_of_two" "divisor_of_two" (defArgs s_divisor_of_two) (defBody s_divisor_of_two) (defScope s_divisor_of_two) .none kV25 dc25 pm25 an25 cd25 ct25), sl25⟩) (c25 : PySem.W.codeIn K cd25 "divisor_of_two" = true) (k25 : PySem.W.keepIn K (.ref f25) = true)
    {f26 : Addr} {od26 an26 : Option Addr} {sl26 : Array (Option Value)} {oc26 kV26 dc26 pm26 cd26 ct26 : Value}
    (a26 : PySem.W.nsIn K mainGlobals "divisor" = some (some (.ref f26))) (l26 : K.lookup f26 = some ⟨oc26, od26, .func (PySem.W.fnOf "divisor" "divisor" (defArgs s_divisor) (defBody s_divisor) (defScope s_divisor) .none kV26 dc26 pm26 an26 cd26 ct26), sl26⟩) (c26 : PySem.W.codeIn K cd26 "divisor" = true) (k26 : PySem.W.keepIn K (.ref f26) = true)
    {f27 : Addr} {od27 an27 : Option Addr} {sl27 : Array (Option Value)} {oc27 kV27 dc27 pm27 cd27 ct27 : Value}
    (a27 : PySem.W.nsIn K mainGlobals "table_divisor" = some (some (.ref f27))) (l27 : K.lookup f27 = some ⟨oc27, od27, .func (PySem.W.fnOf "table_divisor" "table_divisor" (defArgs s_table_divisor) (defBody s_table_divisor) (defScope s_table_divisor) .none kV27 dc27 pm27 an27 cd27 ct27), sl27⟩) (c27 : PySem.W.codeIn K cd27 "table_divisor" = true) (k27 : PySem.W.keepIn K (.ref f27) = true)
    {f28 : Addr} {od28 an28 : Option Addr} {sl28 : Array (Option Value)} {oc28 kV28 dc28 pm28 cd28 ct28 : Value}
    (a28 : PySem.W.nsIn K mainGlobals "turn_of" = some (some (.ref f28))) (l28 : K.lookup f28 = some ⟨oc28, od28, .func (PySem.W.fnOf "turn_of" "turn_of" (defArgs s_turn_of) (defBody s_turn_of) (defScope s_turn_of) .none kV28 dc28 pm28 an28 cd28 ct28), sl28⟩) (c28 : PySem.W.codeIn K cd28 "turn_of" = true) (k28 : PySem.W.keepIn K (.ref f28) = true)
    {f29 : Addr} {od29 an29 : Option Addr} {sl29 : Array (Option Value)} {oc29 kV29 dc29 pm29 cd29 ct29 : Value}
    (a29 : PySem.W.nsIn K mainGlobals "leads_below_nought" = some (some (.ref f29))) (l29 : K.lookup f29 = some ⟨oc29, od29, .func (PySem.W.fnOf "leads_below_nought" "leads_below_nought" (defArgs s_leads_below_nought) (defBody s_leads_below_nought) (defScope s_leads_below_nought) .none kV29 dc29 pm29 an29 cd29 ct29), sl29⟩) (c29 : PySem.W.codeIn K cd29 "leads_below_nought" = true) (k29 : PySem.W.keepIn K (.ref f29) = true)
    {f30 : Addr} {od30 an30 : Option Addr} {sl30 : Array (Option Value)} {oc30 kV30 dc30 pm30 cd30 ct30 : Value}
    (a30 : PySem.W.nsIn K mainGlobals "plain" = some (some (.ref f30))) (l30 : K.lookup f30 = some ⟨oc30, od30, .func (PySem.W.fnOf "plain" "plain" (defArgs s_plain) (defBody s_plain) (defScope s_plain) .none kV30 dc30 pm30 an30 cd30 ct30), sl30⟩) (c30 : PySem.W.codeIn K cd30 "plain" = true) (k30 : PySem.W.keepIn K (.ref f30) = true)
    {f31 : Addr} {od31 an31 : Option Addr} {sl31 : Array (Option Value)} {oc31 kV31 dc31 pm31 cd31 ct31 : Value}
    (a31 : PySem.W.nsIn K mainGlobals "multiples_of_quad" = some (some (.ref f31))) (l31 : K.lookup f31 = some ⟨oc31, od31, .func (PySem.W.fnOf "multiples_of_quad" "multiples_of_quad" (defArgs s_multiples_of_quad) (defBody s_multiples_of_quad) (defScope s_multiples_of_quad) .none kV31 dc31 pm31 an31 cd31 ct31), sl31⟩) (c31 : PySem.W.codeIn K cd31 "multiples_of_quad" = true) (k31 : PySem.W.keepIn K (.ref f31) = true)
    {f32 : Addr} {od32 an32 : Option Addr} {sl32 : Array (Option Value)} {oc32 kV32 dc32 pm32 cd32 ct32 : Value}
    (a32 : PySem.W.nsIn K mainGlobals "quad_of" = some (some (.ref f32))) (l32 : K.lookup f32 = some ⟨oc32, od32, .func (PySem.W.fnOf "quad_of" "quad_of" (defArgs s_quad_of) (defBody s_quad_of) (defScope s_quad_of) .none kV32 dc32 pm32 an32 cd32 ct32), sl32⟩) (c32 : PySem.W.codeIn K cd32 "quad_of" = true) (k32 : PySem.W.keepIn K (.ref f32) = true)
    {f33 : Addr} {od33 an33 : Option Addr} {sl33 : Array (Option Value)} {oc33 kV33 dc33 pm33 cd33 ct33 : Value}
    (a33 : PySem.W.nsIn K mainGlobals "parted" = some (some (.ref f33))) (l33 : K.lookup f33 = some ⟨oc33, od33, .func (PySem.W.fnOf "parted" "parted" (defArgs s_parted) (defBody s_parted) (defScope s_parted) .none kV33 dc33 pm33 an33 cd33 ct33), sl33⟩) (c33 : PySem.W.codeIn K cd33 "parted" = true) (k33 : PySem.W.keepIn K (.ref f33) = true)
    {f34 : Addr} {od34 an34 : Option Addr} {sl34 : Array (Option Value)} {oc34 kV34 dc34 pm34 cd34 ct34 : Value}
    (a34 : PySem.W.nsIn K mainGlobals "_law_behind" = some (some (.ref f34))) (l34 : K.lookup f34 = some ⟨oc34, od34, .func (PySem.W.fnOf "_law_behind" "_law_behind" (defArgs s_law_behind) (defBody s_law_behind) (defScope s_law_behind) .none kV34 dc34 pm34 an34 cd34 ct34), sl34⟩) (c34 : PySem.W.codeIn K cd34 "_law_behind" = true) (k34 : PySem.W.keepIn K (.ref f34) = true)
    {f35 : Addr} {od35 an35 : Option Addr} {sl35 : Array (Option Value)} {oc35 kV35 dc35 pm35 cd35 ct35 : Value}
    (a35 : PySem.W.nsIn K mainGlobals "_law_refused" = some (some (.ref f35))) (l35 : K.lookup f35 = some ⟨oc35, od35, .func (PySem.W.fnOf "_law_refused" "_law_refused" (defArgs s_law_refused) (defBody s_law_refused) (defScope s_law_refused) .none kV35 dc35 pm35 an35 cd35 ct35), sl35⟩) (c35 : PySem.W.codeIn K cd35 "_law_refused" = true) (k35 : PySem.W.keepIn K (.ref f35) = true)
    {f36 : Addr} {od36 an36 : Option Addr} {sl36 : Array (Option Value)} {oc36 kV36 dc36 pm36 cd36 ct36 : Value}
    (a36 : PySem.W.nsIn K mainGlobals "_law_wrong" = some (some (.ref f36))) (l36 : K.lookup f36 = some ⟨oc36, od36, .func (PySem.W.fnOf "_law_wrong" "_law_wrong" (defArgs s_law_wrong) (defBody s_law_wrong) (defScope s_law_wrong) .none kV36 dc36 pm36 an36 cd36 ct36), sl36⟩) (c36 : PySem.W.codeIn K cd36 "_law_wrong" = true) (k36 : PySem.W.keepIn K (.ref f36) = true)
    {f37 : Addr} {od37 an37 : Option Addr} {sl37 : Array (Option Value)} {oc37 kV37 dc37 pm37 cd37 ct37 : Value}
    (a37 : PySem.W.nsIn K mainGlobals "_law_whole" = some (some (.ref f37))) (l37 : K.lookup f37 = some ⟨oc37, od37, .func (PySem.W.fnOf "_law_whole" "_law_whole" (defArgs s_law_whole) (defBody s_law_whole) (defScope s_law_whole) .none kV37 dc37 pm37 an37 cd37 ct37), sl37⟩) (c37 : PySem.W.codeIn K cd37 "_law_whole" = true) (k37 : PySem.W.keepIn K (.ref f37) = true)
    {f38 : Addr} {od38 an38 : Option Addr} {sl38 : Array (Option Value)} {oc38 kV38 dc38 pm38 cd38 ct38 : Value}
    (a38 : PySem.W.nsIn K mainGlobals "_law_form" = some (some (.ref f38))) (l38 : K.lookup f38 = some ⟨oc38, od38, .func (PySem.W.fnOf "_law_form" "_law_form" (defArgs s_law_form) (defBody s_law_form) (defScope s_law_form) .none kV38 dc38 pm38 an38 cd38 ct38), sl38⟩) (c38 : PySem.W.codeIn K cd38 "_law_form" = true) (k38 : PySem.W.keepIn K (.ref f38) = true)
    {f39 : Addr} {od39 an39 : Option Addr} {sl39 : Array (Option Value)} {oc39 kV39 dc39 pm39 cd39 ct39 : Value}
    (a39 : PySem.W.nsIn K mainGlobals "_law_is_turn" = some (some (.ref f39))) (l39 : K.lookup f39 = some ⟨oc39, od39, .func (PySem.W.fnOf "_law_is_turn" "_law_is_turn" (defArgs s_law_is_turn) (defBody s_law_is_turn) (defScope s_law_is_turn) .none kV39 dc39 pm39 an39 cd39 ct39), sl39⟩) (c39 : PySem.W.codeIn K cd39 "_law_is_turn" = true) (k39 : PySem.W.keepIn K (.ref f39) = true)
    {f40 : Addr} {od40 an40 : Option Addr} {sl40 : Array (Option Value)} {oc40 kV40 dc40 pm40 cd40 ct40 : Value}
    (a40 : PySem.W.nsIn K mainGlobals "law" = some (some (.ref f40))) (l40 : K.lookup f40 = some ⟨oc40, od40, .func (PySem.W.fnOf "law" "law" (defArgs s_law) (defBody s_law) (defScope s_law) .none kV40 dc40 pm40 an40 cd40 ct40), sl40⟩) (c40 : PySem.W.codeIn K cd40 "law" = true) (k40 : PySem.W.keepIn K (.ref f40) = true)
    (z_ValueError : PySem.W.nsIn K mainGlobals "ValueError" = some none)
    (z_abs : PySem.W.nsIn K mainGlobals "abs" = some none)
    (z_all : PySem.W.nsIn K mainGlobals "all" = some none)
    (z_bool : PySem.W.nsIn K mainGlobals "bool" = some none)
    (z_int : PySem.W.nsIn K mainGlobals "int" = some none)
    (z_isinstance : PySem.W.nsIn K mainGlobals "isinstance" = some none)
    (z_len : PySem.W.nsIn K mainGlobals "len" = some none)
    (z_list : PySem.W.nsIn K mainGlobals "list" = some none)
    (z_max : PySem.W.nsIn K mainGlobals "max" = some none)
    (z_range : PySem.W.nsIn K mainGlobals "range" = some none)
    (z_sum : PySem.W.nsIn K mainGlobals "sum" = some none)
    (z_tuple : PySem.W.nsIn K mainGlobals "tuple" = some none)
    (z_zip : PySem.W.nsIn K mainGlobals "zip" = some none)
    {f_NOUGHT : Addr} {od_NOUGHT : Option Addr} {n_NOUGHT : Nat} {sl_NOUGHT : Array (Option Value)} {tkNOUGHT0 tkNOUGHT1 tkNOUGHT2 tkNOUGHT3 : Tok}
    (a_NOUGHT : PySem.W.nsIn K mainGlobals "NOUGHT" = some (some (.ref f_NOUGHT))) (l_NOUGHT : K.lookup f_NOUGHT = some ⟨.type "tuple", od_NOUGHT, .seq #[.int 0 tkNOUGHT0, .int 0 tkNOUGHT1, .int 0 tkNOUGHT2, .int 0 tkNOUGHT3] n_NOUGHT, sl_NOUGHT⟩)
    {f_ONE : Addr} {od_ONE : Option Addr} {n_ONE : Nat} {sl_ONE : Array (Option Value)} {tkONE0 tkONE1 tkONE2 tkONE3 : Tok}
    (a_ONE : PySem.W.nsIn K mainGlobals "ONE" = some (some (.ref f_ONE))) (l_ONE : K.lookup f_ONE = some ⟨.type "tuple", od_ONE, .seq #[.int 2 tkONE0, .int 0 tkONE1, .int 0 tkONE2, .int 0 tkONE3] n_ONE, sl_ONE⟩)
    {x_NoDial : Addr} (a_NoDial : PySem.W.nsIn K mainGlobals "NoDial" = some (some (.ref x_NoDial)))
    {x_NoGrid : Addr} (a_NoGrid : PySem.W.nsIn K mainGlobals "NoGrid" = some (some (.ref x_NoGrid)))
    {x_NoName : Addr} (a_NoName : PySem.W.nsIn K mainGlobals "NoName" = some (some (.ref x_NoName)))
    {x_NoNumbers : Addr} (a_NoNumbers : PySem.W.nsIn K mainGlobals "NoNumbers" = some (some (.ref x_NoNumbers)))
    {x_NoParts : Addr} (a_NoParts : PySem.W.nsIn K mainGlobals "NoParts" = some (some (.ref x_NoParts)))
    {x_NoQuad : Addr} (a_NoQuad : PySem.W.nsIn K mainGlobals "NoQuad" = some (some (.ref x_NoQuad)))
    {x_NoRow : Addr} (a_NoRow : PySem.W.nsIn K mainGlobals "NoRow" = some (some (.ref x_NoRow)))
    {x_NoStone : Addr} (a_NoStone : PySem.W.nsIn K mainGlobals "NoStone" = some (some (.ref x_NoStone)))
    {x_NoWay : Addr} (a_NoWay : PySem.W.nsIn K mainGlobals "NoWay" = some (some (.ref x_NoWay)))
    {x_SpaceError : Addr} (a_SpaceError : PySem.W.nsIn K mainGlobals "SpaceError" = some (some (.ref x_SpaceError)))
    (xb_NoParts_ValueError : PySem.W.mroIn K x_NoParts (.type "ValueError") = some true)
    (xcl_NoParts : PySem.W.findIn K (.ref x_NoParts) "__class__" = some (some (.builtin "object.__class__")))
    (xe_NoParts : PySem.W.excIn K x_NoParts bmV "ValueError.__new__" = true)
    (xga_NoParts : PySem.W.findIn K (.ref x_NoParts) "__getattribute__" = some (some (.builtin "BaseException.__getattribute__")))
    (xgn_NoParts : PySem.W.findIn K (.ref x_NoParts) "__getattr__" = some none)
    (xmb_NoDial : PySem.W.mroIn K x_NoDial (.type "BaseException") = some true)
    (xmb_NoGrid : PySem.W.mroIn K x_NoGrid (.type "BaseException") = some true)
    (xmb_NoName : PySem.W.mroIn K x_NoName (.type "BaseException") = some true)
    (xmb_NoNumbers : PySem.W.mroIn K x_NoNumbers (.type "BaseException") = some true)
    (xmb_NoParts : PySem.W.mroIn K x_NoParts (.type "BaseException") = some true)
    (xmb_NoQuad : PySem.W.mroIn K x_NoQuad (.type "BaseException") = some true)
    (xmb_NoRow : PySem.W.mroIn K x_NoRow (.type "BaseException") = some true)
    (xmb_NoStone : PySem.W.mroIn K x_NoStone (.type "BaseException") = some true)
    (xmb_NoWay : PySem.W.mroIn K x_NoWay (.type "BaseException") = some true)
    (xmb_SpaceError : PySem.W.mroIn K x_SpaceError (.type "BaseException") = some true)
    (xmo_NoParts : PySem.W.mroIn K x_NoParts (.type "object") = some true)
    (xs_NoParts_NoDial : PySem.W.mroIn K x_NoParts (.ref x_NoDial) = some false)
    (xs_NoParts_NoGrid : PySem.W.mroIn K x_NoParts (.ref x_NoGrid) = some false)
    (xs_NoParts_NoName : PySem.W.mroIn K x_NoParts (.ref x_NoName) = some false)
    (xs_NoParts_NoNumbers : PySem.W.mroIn K x_NoParts (.ref x_NoNumbers) = some false)
    (xs_NoParts_NoParts : PySem.W.mroIn K x_NoParts (.ref x_NoParts) = some true)
    (xs_NoParts_NoQuad : PySem.W.mroIn K x_NoParts (.ref x_NoQuad) = some false)
    (xs_NoParts_NoRow : PySem.W.mroIn K x_NoParts (.ref x_NoRow) = some false)
    (xs_NoParts_NoStone : PySem.W.mroIn K x_NoParts (.ref x_NoStone) = some false)
    (xs_NoParts_NoWay : PySem.W.mroIn K x_NoParts (.ref x_NoWay) = some false)
    (xs_NoParts_SpaceError : PySem.W.mroIn K x_NoParts (.ref x_SpaceError) = some true)
    (xty_NoDial : PySem.W.typeIn K (.ref x_NoDial) = some (.type "type"))
    (xty_NoGrid : PySem.W.typeIn K (.ref x_NoGrid) = some (.type "type"))
    (xty_NoName : PySem.W.typeIn K (.ref x_NoName) = some (.type "type"))
    (xty_NoNumbers : PySem.W.typeIn K (.ref x_NoNumbers) = some (.type "type"))
    (xty_NoParts : PySem.W.typeIn K (.ref x_NoParts) = some (.type "type"))
    (xty_NoQuad : PySem.W.typeIn K (.ref x_NoQuad) = some (.type "type"))
    (xty_NoRow : PySem.W.typeIn K (.ref x_NoRow) = some (.type "type"))
    (xty_NoStone : PySem.W.typeIn K (.ref x_NoStone) = some (.type "type"))
    (xty_NoWay : PySem.W.typeIn K (.ref x_NoWay) = some (.type "type"))
    (xty_SpaceError : PySem.W.typeIn K (.ref x_SpaceError) = some (.type "type"))
    : ∃ fd : FuncData, (∀ (s : Shared) (v : Value), BindsTo s fd ⟨[v], []⟩ [("script", v)]) ∧ ∀ base : Heap, K.In base → base.Ns mainGlobals mg → FnOk l.prog w K mg base CX0 8 fa fd ["script"] (spD K 1 cLaw) := by
  have e := hfa.symm.trans (PySem.W.mg_of X G a40)
  cases e
  have F0 := fun_mk (st := s_law_cell_at) l0 c0 k0
  have b0 := F0.binds (ps := ["script", "k"]) fun _ _ _ _ _ _ us hl => len_2 us hl fun _ _ => rfl
  have F1 := fun_mk (st := s_law_near) l1 c1 k1
  have b1 := F1.binds (ps := ["cell", "most"]) fun _ _ _ _ _ _ us hl => len_2 us hl fun _ _ => rfl
  have F2 := fun_mk (st := s_law_quad) l2 c2 k2
  have b2 := F2.binds (ps := ["cells", "most"]) fun _ _ _ _ _ _ us hl => len_2 us hl fun _ _ => rfl
  have F3 := fun_mk (st := s_law_divisor) l3 c3 k3
  have b3 := F3.binds (ps := ["numbers"]) fun _ _ _ _ _ _ us hl => len_1 us hl fun _ => rfl
  have F4 := fun_mk (st := s_law_laid) l4 c4 k4
  have b4 := F4.binds (ps := ["one", "other"]) fun _ _ _ _ _ _ us hl => len_2 us hl fun _ _ => rfl
  have F5 := fun_mk (st := s_law_made_quad) l5 c5 k5
  have b5 := F5.binds (ps := ["cells", "most"]) fun _ _ _ _ _ _ us hl => len_2 us hl fun _ _ => rfl
  have F6 := fun_mk (st := s_law_lower) l6 c6 k6
  have b6 := F6.binds (ps := ["rows", "bottom"]) fun _ _ _ _ _ _ us hl => len_2 us hl fun _ _ => rfl
  have F7 := fun_mk (st := s_law_table) l7 c7 k7
  have b7 := F7.binds (ps := ["quad"]) fun _ _ _ _ _ _ us hl => len_1 us hl fun _ => rfl
  have F8 := fun_mk (st := s_law_sizes) l8 c8 k8
  have b8 := F8.binds (ps := ["bottom", "cells"]) fun _ _ _ _ _ _ us hl => len_2 us hl fun _ _ => rfl
  have F9 := fun_mk (st := s_is_product) l9 c9 k9
  have b9 := F9.binds (ps := ["n", "sizes"]) fun _ _ _ _ _ _ us hl => len_2 us hl fun _ _ => rfl
  have F10 := fun_mk (st := s_row_over) l10 c10 k10
  have b10 := F10.binds (ps := ["row", "n"]) fun _ _ _ _ _ _ us hl => len_2 us hl fun _ _ => rfl
  have F11 := fun_mk (st := s_product) l11 c11 k11
  have b11 := F11.binds (ps := ["one", "other"]) fun _ _ _ _ _ _ us hl => len_2 us hl fun _ _ => rfl
  have F12 := fun_mk (st := s_stone_product) l12 c12 k12
  have b12 := F12.binds (ps := ["one", "other"]) fun _ _ _ _ _ _ us hl => len_2 us hl fun _ _ => rfl
  have F13 := fun_mk (st := s_row_mix) l13 c13 k13
  have b13 := F13.binds (ps := ["one", "times", "other", "times_too"]) fun _ _ _ _ _ _ us hl => len_4 us hl fun _ _ _ _ => rfl
  have F14 := fun_mk (st := s_row_less) l14 c14 k14
  have b14 := F14.binds (ps := ["row", "taken", "times"]) fun _ _ _ _ _ _ us hl => len_3 us hl fun _ _ _ => rfl
  have F15 := fun_mk (st := s_with_rest) l15 c15 k15
  have b15 := F15.binds (ps := ["x", "y", "k"]) fun _ _ _ _ _ _ us hl => len_3 us hl fun _ _ _ => rfl
  have F16 := fun_mk (st := s_mirrored) l16 c16 k16
  have b16 := F16.binds (ps := ["quad"]) fun _ _ _ _ _ _ us hl => len_1 us hl fun _ => rfl
  have F17 := fun_mk (st := s_even_stone_near) l17 c17 k17
  have b17 := F17.binds (ps := ["aim", "bottom"]) fun _ _ _ _ _ _ us hl => len_2 us hl fun _ _ => rfl
  have F18 := fun_mk (st := s_odd_stone_near) l18 c18 k18
  have b18 := F18.binds (ps := ["aim", "bottom"]) fun _ _ _ _ _ _ us hl => len_2 us hl fun _ _ => rfl
  have F19 := fun_mk (st := s_row_times) l19 c19 k19
  have b19 := F19.binds (ps := ["one", "other"]) fun _ _ _ _ _ _ us hl => len_2 us hl fun _ _ => rfl
  have F20 := fun_mk (st := s_size) l20 c20 k20
  have b20 := F20.binds (ps := ["quad"]) fun _ _ _ _ _ _ us hl => len_1 us hl fun _ => rfl
  have F21 := fun_mk (st := s_weight) l21 c21 k21
  have b21 := F21.binds (ps := ["stone"]) fun _ _ _ _ _ _ us hl => len_1 us hl fun _ => rfl
  have F22 := fun_mk (st := s_divided) l22 c22 k22
  have b22 := F22.binds (ps := ["x", "y"]) fun _ _ _ _ _ _ us hl => len_2 us hl fun _ _ => rfl
  have F23 := fun_mk (st := s_common) l23 c23 k23
  have b23 := F23.binds (ps := ["x", "y"]) fun _ _ _ _ _ _ us hl => len_2 us hl fun _ _ => rfl
  have F24 := fun_mk (st := s_rows_of) l24 c24 k24
  have b24 := F24.binds (ps := ["quad"]) fun _ _ _ _ _ _ us hl => len_1 us hl fun _ => rfl
  have F25 := fun_mk (st := s_divisor_of_two) l25 c25 k25
  have b25 := F25.binds (ps := ["one", "other"]) fun _ _ _ _ _ _ us hl => len_2 us hl fun _ _ => rfl
  have F26 := fun_mk (st := s_divisor) l26 c26 k26
  have b26 := F26.binds (ps := ["numbers"]) fun _ _ _ _ _ _ us hl => len_1 us hl fun _ => rfl
  have F27 := fun_mk (st := s_table_divisor) l27 c27 k27
  have b27 := F27.binds (ps := ["rows", "bottom"]) fun _ _ _ _ _ _ us hl => len_2 us hl fun _ _ => rfl
  have F28 := fun_mk (st := s_turn_of) l28 c28 k28
  have b28 := F28.binds (ps := ["quad"]) fun _ _ _ _ _ _ us hl => len_1 us hl fun _ => rfl
  have F29 := fun_mk (st := s_leads_below_nought) l29 c29 k29
  have b29 := F29.binds (ps := ["quad"]) fun _ _ _ _ _ _ us hl => len_1 us hl fun _ => rfl
  have F30 := fun_mk (st := s_plain) l30 c30 k30
  have b30 := F30.binds (ps := ["quad"]) fun _ _ _ _ _ _ us hl => len_1 us hl fun _ => rfl
  have F31 := fun_mk (st := s_multiples_of_quad) l31 c31 k31
  have b31 := F31.binds (ps := ["turn"]) fun _ _ _ _ _ _ us hl => len_1 us hl fun _ => rfl
  have F32 := fun_mk (st := s_quad_of) l32 c32 k32
  have b32 := F32.binds (ps := ["turn"]) fun _ _ _ _ _ _ us hl => len_1 us hl fun _ => rfl
  have F33 := fun_mk (st := s_parted) l33 c33 k33
  have b33 := F33.binds (ps := ["turn", "sizes"]) fun _ _ _ _ _ _ us hl => len_2 us hl fun _ _ => rfl
  have F34 := fun_mk (st := s_law_behind) l34 c34 k34
  have b34 := F34.binds (ps := ["one", "other"]) fun _ _ _ _ _ _ us hl => len_2 us hl fun _ _ => rfl
  have F35 := fun_mk (st := s_law_refused) l35 c35 k35
  have b35 := F35.binds (ps := ["turn", "sizes"]) fun _ _ _ _ _ _ us hl => len_2 us hl fun _ _ => rfl
  have F36 := fun_mk (st := s_law_wrong) l36 c36 k36
  have b36 := F36.binds (ps := ["sizes", "cell"]) fun _ _ _ _ _ _ us hl => len_2 us hl fun _ _ => rfl
  have F37 := fun_mk (st := s_law_whole) l37 c37 k37
  have b37 := F37.binds (ps := ["found"]) fun _ _ _ _ _ _ us hl => len_1 us hl fun _ => rfl
  have F38 := fun_mk (st := s_law_form) l38 c38 k38
  have b38 := F38.binds (ps := ["found"]) fun _ _ _ _ _ _ us hl => len_1 us hl fun _ => rfl
  have F39 := fun_mk (st := s_law_is_turn) l39 c39 k39
  have b39 := F39.binds (ps := ["thing"]) fun _ _ _ _ _ _ us hl => len_1 us hl fun _ => rfl
  have F40 := fun_mk (st := s_law) l40 c40 k40
  have b40 := F40.binds (ps := ["script"]) fun _ _ _ _ _ _ us hl => len_1 us hl fun _ => rfl
  have T : Txt K mg ⟨_, _, _, _, _, _, _, _, _, _, _, _, _, _, _, _, _, _, _, _, _, _, _, _, _, _, _, _, _, _, _, _, _, _, _, _, _, _, _, _, _, _, _, _, _, _, _, _, _, _, _, _, _, _, _, _, _, _, _, _, _, _, _, _, _, _, _, _, _, _, _, _, _, _, _, _, _, _, _, _, _, _, _, _, _, _, _, _, _, _, _, _, _, _, _, _⟩ := ⟨F0, PySem.W.mg_of X G a0, b0, F1, PySem.W.mg_of X G a1, b1, F2, PySem.W.mg_of X G a2, b2, F3, PySem.W.mg_of X G a3, b3, F4, PySem.W.mg_of X G a4, b4, F5, PySem.W.mg_of X G a5, b5, F6, PySem.W.mg_of X G a6, b6, F7, PySem.W.mg_of X G a7, b7, F8, PySem.W.mg_of X G a8, b8, F9, PySem.W.mg_of X G a9, b9, F10, PySem.W.mg_of X G a10, b10, F11, PySem.W.mg_of X G a11, b11, F12, PySem.W.mg_of X G a12, b12, F13, PySem.W.mg_of X G a13, b13, F14, PySem.W.mg_of X G a14, b14, F15, PySem.W.mg_of X G a15, b15, F16, PySem.W.mg_of X G a16, b16, F17, PySem.W.mg_of X G a17, b17, F18, PySem.W.mg_of X G a18, b18, F19, PySem.W.mg_of X G a19, b19, F20, PySem.W.mg_of X G a20, b20, F21, PySem.W.mg_of X G a21, b21, F22, PySem.W.mg_of X G a22, b22, F23, PySem.W.mg_of X G a23, b23, F24, PySem.W.mg_of X G a24, b24, F25, PySem.W.mg_of X G a25, b25, F26, PySem.W.mg_of X G a26, b26, F27, PySem.W.mg_of X G a27, b27, F28, PySem.W.mg_of X G a28, b28, F29, PySem.W.mg_of X G a29, b29, F30, PySem.W.mg_of X G a30, b30, F31, PySem.W.mg_of X G a31, b31, F32, PySem.W.mg_of X G a32, b32, F33, PySem.W.mg_of X G a33, b33, F34, PySem.W.mg_of X G a34, b34, F35, PySem.W.mg_of X G a35, b35, F36, PySem.W.mg_of X G a36, b36, F37, PySem.W.mg_of X G a37, b37, F38, PySem.W.mg_of X G a38, b38, F39, PySem.W.mg_of X G a39, b39, F40, PySem.W.mg_of X G a40, b40, PySem.W.mg_none_of X G z_ValueError, PySem.W.mg_none_of X G z_abs, PySem.W.mg_none_of X G z_all, PySem.W.mg_none_of X G z_bool, PySem.W.mg_none_of X G z_int, PySem.W.mg_none_of X G z_isinstance, PySem.W.mg_none_of X G z_len, PySem.W.mg_none_of X G z_list, PySem.W.mg_none_of X G z_max, PySem.W.mg_none_of X G z_range, PySem.W.mg_none_of X G z_sum, PySem.W.mg_none_of X G z_tuple, PySem.W.mg_none_of X G z_zip, PySem.W.mg_of X G a_NOUGHT, cst_tup (ns := [0, 0, 0, 0]) l_NOUGHT (show 4 ≤ sizeLine by decide) (vals_int (vals_int (vals_int (vals_int vals_nil)))), PySem.W.mg_of X G a_ONE, cst_tup (ns := [2, 0, 0, 0]) l_ONE (show 4 ≤ sizeLine by decide) (vals_int (vals_int (vals_int (vals_int vals_nil)))), PySem.W.mg_of X G a_NoDial, PySem.W.mg_of X G a_NoGrid, PySem.W.mg_of X G a_NoName, PySem.W.mg_of X G a_NoNumbers, PySem.W.mg_of X G a_NoParts, PySem.W.mg_of X G a_NoQuad, PySem.W.mg_of X G a_NoRow, PySem.W.mg_of X G a_NoStone, PySem.W.mg_of X G a_NoWay, PySem.W.mg_of X G a_SpaceError, xb_NoParts_ValueError, xcl_NoParts, xe_NoParts, xga_NoParts, xgn_NoParts, xmb_NoDial, xmb_NoGrid, xmb_NoName, xmb_NoNumbers, xmb_NoParts, xmb_NoQuad, xmb_NoRow, xmb_NoStone, xmb_NoWay, xmb_SpaceError, xmo_NoParts, xs_NoParts_NoDial, xs_NoParts_NoGrid, xs_NoParts_NoName, xs_NoParts_NoNumbers, xs_NoParts_NoParts, xs_NoParts_NoQuad, xs_NoParts_NoRow, xs_NoParts_NoStone, xs_NoParts_NoWay, xs_NoParts_SpaceError, xty_NoDial, xty_NoGrid, xty_NoName, xty_NoNumbers, xty_NoParts, xty_NoQuad, xty_NoRow, xty_NoStone, xty_NoWay, xty_SpaceError⟩
  exact ⟨_, fun s v => .of_eq rfl, fun base _ _ => ok_law T⟩
end My
open PySem PySem.W PyProof.Rows
set_option maxRecDepth 100000 in
set_option maxHeartbeats 0 in
noncomputable def PySem.W.Fast.tw15505631767355820574 : Unit := ()
noncomputable def PySem.W.Fast.tw6563511501057986531 : Unit := ()
noncomputable def PySem.W.Fast.tw3427062121497001049 : Unit := ()
noncomputable def PySem.W.Fast.tw13738402198822546775 : Unit := ()
noncomputable def PySem.W.Fast.tw15032804714173979965 : Unit := ()
noncomputable def PySem.W.Fast.tw14239557845185917126 : Unit := ()
theorem PySem.Challenge.cw_turngrid_k42_parted_by_sizes_holds : PySem.Challenge.rw_turngrid_k42_parted_by_sizes.Holds := by
  w_on; o_law; k_head; (case hw => w_witness2)
  k_fill
  refine D3.walk (l := PySem.Challenge.rw_turngrid_k42_parted_by_sizes) (k := 8) rfl rfl ⟨rfl, by decide, by decide⟩ (fun w h Y => PySem.W.kIn_of Y) ?F
  case F =>
    intro w mg fa h KX G hmg
    refine' My.all_mk KX G hmg ?a0 ?l0 ?c0 ?k0 ?a1 ?l1 ?c1 ?k1 ?a2 ?l2 ?c2 ?k2 ?a3 ?l3 ?c3 ?k3 ?a4 ?l4 ?c4 ?k4 ?a5 ?l5 ?c5 ?k5 ?a6 ?l6 ?c6 ?k6 ?a7 ?l7 ?c7 ?k7 ?a8 ?l8 ?c8 ?k8 ?a9 ?l9 ?c9 ?k9 ?a10 ?l10 ?c10 ?k10 ?a11 ?l11 ?c11 ?k11 ?a12 ?l12 ?c12 ?k12 ?a13 ?l13 ?c13 ?k13 ?a14 ?l14 ?c14 ?k14 ?a15 ?l15 ?c15 ?k15 ?a16 ?l16 ?c16 ?k16 ?a17 ?l17 ?c17 ?k17 ?a18 ?l18 ?c18 ?k18 ?a19 ?l19 ?c19 ?k19 ?a20 ?l20 ?c20 ?k20 ?a21 ?l21 ?c21 ?k21 ?a22 ?l22 ?c22 ?k22 ?a23 ?l23 ?c23 ?k23 ?a24 ?l24 ?c24 ?k24 ?a25 ?l25 ?c25 ?k25 ?a26 ?l26 ?c26 ?k26 ?a27 ?l27 ?c27 ?k27 ?a28 ?l28 ?c28 ?k28 ?a29 ?l29 ?c29 ?k29 ?a30 ?l30 ?c30 ?k30 ?a31 ?l31 ?c31 ?k31 ?a32 ?l32 ?c32 ?k32 ?a33 ?l33 ?c33 ?k33 ?a34 ?l34 ?c34 ?k34 ?a35 ?l35 ?c35 ?k35 ?a36 ?l36 ?c36 ?k36 ?a37 ?l37 ?c37 ?k37 ?a38 ?l38 ?c38 ?k38 ?a39 ?l39 ?c39 ?k39 ?a40 ?l40 ?c40 ?k40 ?z_ValueError ?z_abs ?z_all ?z_bool ?z_int ?z_isinstance ?z_len ?z_list ?z_max ?z_range ?z_sum ?z_tuple ?z_zip ?a_NOUGHT ?l_NOUGHT ?a_ONE ?l_ONE ?a_NoDial ?a_NoGrid ?a_NoName ?a_NoNumbers ?a_NoParts ?a_NoQuad ?a_NoRow ?a_NoStone ?a_NoWay ?a_SpaceError ?xb_NoParts_ValueError ?xcl_NoParts ?xe_NoParts ?xga_NoParts ?xgn_NoParts ?xmb_NoDial ?xmb_NoGrid ?xmb_NoName ?xmb_NoNumbers ?xmb_NoParts ?xmb_NoQuad ?xmb_NoRow ?xmb_NoStone ?xmb_NoWay ?xmb_SpaceError ?xmo_NoParts ?xs_NoParts_NoDial ?xs_NoParts_NoGrid ?xs_NoParts_NoName ?xs_NoParts_NoNumbers ?xs_NoParts_NoParts ?xs_NoParts_NoQuad ?xs_NoParts_NoRow ?xs_NoParts_NoStone ?xs_NoParts_NoWay ?xs_NoParts_SpaceError ?xty_NoDial ?xty_NoGrid ?xty_NoName ?xty_NoNumbers ?xty_NoParts ?xty_NoQuad ?xty_NoRow ?xty_NoStone ?xty_NoWay ?xty_SpaceError
    (case a0 => k_is)
    (case l0 => k_is)
    (case c0 => k_is)
    (case k0 => k_is)
    (case a1 => k_is)
    (case l1 => k_is)
    (case c1 => k_is)
    (case k1 => k_is)
    (case a2 => k_is)
    (case l2 => k_is)
    (case c2 => k_is)
    (case k2 => k_is)
    (case a3 => k_is)
    (case l3 => k_is)
    (case c3 => k_is)
    (case k3 => k_is)
    (case a4 => k_is)
    (case l4 => k_is)
    (case c4 => k_is)
    (case k4 => k_is)
    (case a5 => k_is)
    (case l5 => k_is)
    (case c5 => k_is)
    (case k5 => k_is)
    (case a6 => k_is)
    (case l6 => k_is)
    (case c6 => k_is)
    (case k6 => k_is)
    (case a7 => k_is)
    (case l7 => k_is)
    (case c7 => k_is)
    (case k7 => k_is)
    (case a8 => k_is)
    (case l8 => k_is)
    (case c8 => k_is)
    (case k8 => k_is)
    (case a9 => k_is)
    (case l9 => k_is)
    (case c9 => k_is)
    (case k9 => k_is)
    (case a10 => k_is)
    (case l10 => k_is)
    (case c10 => k_is)
    (case k10 => k_is)
    (case a11 => k_is)
    (case l11 => k_is)
    (case c11 => k_is)
    (case k11 => k_is)
    (case a12 => k_is)
    (case l12 => k_is)
    (case c12 => k_is)
    (case k12 => k_is)
    (case a13 => k_is)
    (case l13 => k_is)
    (case c13 => k_is)
    (case k13 => k_is)
    (case a14 => k_is)
    (case l14 => k_is)
    (case c14 => k_is)
    (case k14 => k_is)
    (case a15 => k_is)
    (case l15 => k_is)
    (case c15 => k_is)
    (case k15 => k_is)
    (case a16 => k_is)
    (case l16 => k_is)
    (case c16 => k_is)
    (case k16 => k_is)
    (case a17 => k_is)
    (case l17 => k_is)
    (case c17 => k_is)
    (case k17 => k_is)
    (case a18 => k_is)
    (case l18 => k_is)
    (case c18 => k_is)
    (case k18 => k_is)
    (case a19 => k_is)
    (case l19 => k_is)
    (case c19 => k_is)
    (case k19 => k_is)
    (case a20 => k_is)
    (case l20 => k_is)
    (case c20 => k_is)
    (case k20 => k_is)
    (case a21 => k_is)
    (case l21 => k_is)
    (case c21 => k_is)
    (case k21 => k_is)
    (case a22 => k_is)
    (case l22 => k_is)
    (case c22 => k_is)
    (case k22 => k_is)
    (case a23 => k_is)
    (case l23 => k_is)
    (case c23 => k_is)
    (case k23 => k_is)
    (case a24 => k_is)
    (case l24 => k_is)
    (case c24 => k_is)
    (case k24 => k_is)
    (case a25 => k_is)
    (case l25 => k_is)
    (case c25 => k_is)
    (case k25 => k_is)
    (case a26 => k_is)
    (case l26 => k_is)
    (case c26 => k_is)
    (case k26 => k_is)
    (case a27 => k_is)
    (case l27 => k_is)
    (case c27 => k_is)
    (case k27 => k_is)
    (case a28 => k_is)
    (case l28 => k_is)
    (case c28 => k_is)
    (case k28 => k_is)
    (case a29 => k_is)
    (case l29 => k_is)
    (case c29 => k_is)
    (case k29 => k_is)
    (case a30 => k_is)
    (case l30 => k_is)
    (case c30 => k_is)
    (case k30 => k_is)
    (case a31 => k_is)
    (case l31 => k_is)
    (case c31 => k_is)
    (case k31 => k_is)
    (case a32 => k_is)
    (case l32 => k_is)
    (case c32 => k_is)
    (case k32 => k_is)
    (case a33 => k_is)
    (case l33 => k_is)
    (case c33 => k_is)
    (case k33 => k_is)
    (case a34 => k_is)
    (case l34 => k_is)
    (case c34 => k_is)
    (case k34 => k_is)
    (case a35 => k_is)
    (case l35 => k_is)
    (case c35 => k_is)
    (case k35 => k_is)
    (case a36 => k_is)
    (case l36 => k_is)
    (case c36 => k_is)
    (case k36 => k_is)
    (case a37 => k_is)
    (case l37 => k_is)
    (case c37 => k_is)
    (case k37 => k_is)
    (case a38 => k_is)
    (case l38 => k_is)
    (case c38 => k_is)
    (case k38 => k_is)
    (case a39 => k_is)
    (case l39 => k_is)
    (case c39 => k_is)
    (case k39 => k_is)
    (case a40 => k_is)
    (case l40 => k_is)
    (case c40 => k_is)
    (case k40 => k_is)
    (case z_ValueError => k_is)
    (case z_abs => k_is)
    (case z_all => k_is)
    (case z_bool => k_is)
    (case z_int => k_is)
    (case z_isinstance => k_is)
    (case z_len => k_is)
    (case z_list => k_is)
    (case z_max => k_is)
    (case z_range => k_is)
    (case z_sum => k_is)
    (case z_tuple => k_is)
    (case z_zip => k_is)
    (case a_NOUGHT => k_is)
    (case l_NOUGHT => k_is)
    (case a_ONE => k_is)
    (case l_ONE => k_is)
    (case a_NoDial => k_is)
    (case a_NoGrid => k_is)
    (case a_NoName => k_is)
    (case a_NoNumbers => k_is)
    (case a_NoParts => k_is)
    (case a_NoQuad => k_is)
    (case a_NoRow => k_is)
    (case a_NoStone => k_is)
    (case a_NoWay => k_is)
    (case a_SpaceError => k_is)
    (case xb_NoParts_ValueError => k_is)
    (case xcl_NoParts => k_is)
    (case xe_NoParts => k_exc)
    (case xga_NoParts => k_is)
    (case xgn_NoParts => k_is)
    (case xmb_NoDial => k_is)
    (case xmb_NoGrid => k_is)
    (case xmb_NoName => k_is)
    (case xmb_NoNumbers => k_is)
    (case xmb_NoParts => k_is)
    (case xmb_NoQuad => k_is)
    (case xmb_NoRow => k_is)
    (case xmb_NoStone => k_is)
    (case xmb_NoWay => k_is)
    (case xmb_SpaceError => k_is)
    (case xmo_NoParts => k_is)
    (case xs_NoParts_NoDial => k_is)
    (case xs_NoParts_NoGrid => k_is)
    (case xs_NoParts_NoName => k_is)
    (case xs_NoParts_NoNumbers => k_is)
    (case xs_NoParts_NoParts => k_is)
    (case xs_NoParts_NoQuad => k_is)
    (case xs_NoParts_NoRow => k_is)
    (case xs_NoParts_NoStone => k_is)
    (case xs_NoParts_NoWay => k_is)
    (case xs_NoParts_SpaceError => k_is)
    (case xty_NoDial => k_is)
    (case xty_NoGrid => k_is)
    (case xty_NoName => k_is)
    (case xty_NoNumbers => k_is)
    (case xty_NoParts => k_is)
    (case xty_NoQuad => k_is)
    (case xty_NoRow => k_is)
    (case xty_NoStone => k_is)
    (case xty_NoWay => k_is)
    (case xty_SpaceError => k_is)


