import PyProof.Rows.All
import Wide.All
import OpenK.AllK
import Wide.FinOn
import Lean
import PyProof.EqAt
import PyProof.EqKinds
import PyProof.TupleCall
import PyProof.NeKinds
import KE.KRevIter
import PySem.Challenge.RW_turngrid_k48_how_many
set_option Elab.async false
set_option linter.all false
set_option maxRecDepth 100000
set_option Elab.async false
set_option linter.all false
set_option maxRecDepth 100000
namespace L2
open PySem PySem.Spec PyProof.Rows

abbrev Key := Sum Int Str
def keyIs : Key → Value → Bool
  | .inl k, v => Value.isInt k v
  | .inr x, v => Value.isStrOf x v
def keyH (w : World) : Key → Int
  | .inl k => hashInt k
  | .inr x => hashStr w x
theorem keyIs_shape : ∀ {k : Key} {v : Value}, keyIs k v = true → (∃ i t, k = Sum.inl i ∧ v = Value.int i t) ∨ (∃ x t, k = Sum.inr x ∧ v = Value.str x t)
  | .inl i, v, h => by
    obtain ⟨t, e⟩ := Value.isInt_shape (k := i) (v := v) h
    exact .inl ⟨i, t, rfl, e⟩
  | .inr x, v, h => by
    obtain ⟨t, e⟩ := Value.isStrOf_shape (x := x) (v := v) h
    exact .inr ⟨x, t, rfl, e⟩
theorem key_ll (a b : Int) : decide ((Sum.inl a : Key) = Sum.inl b) = (a == b) := by
  by_cases e : a = b
  · subst e; simp
  · have h : ¬ (Sum.inl a : Key) = Sum.inl b := fun q => e (Sum.inl.inj q)
    rw [decide_eq_false h]
    exact (beq_eq_false_iff_ne.mpr e).symm
theorem key_rr (a b : Str) : decide ((Sum.inr a : Key) = Sum.inr b) = decide (a = b) := by
  by_cases e : a = b
  · subst e; simp
  · have h : ¬ (Sum.inr a : Key) = Sum.inr b := fun q => e (Sum.inr.inj q)
    rw [decide_eq_false h, decide_eq_false e]
theorem key_lr (a : Int) (b : Str) : decide ((Sum.inl a : Key) = Sum.inr b) = false := decide_eq_false (fun q => nomatch q)
theorem key_rl (a : Str) (b : Int) : decide ((Sum.inr a : Key) = Sum.inl b) = false := decide_eq_false (fun q => nomatch q)

def mixKind (prog : Program) (w : World) : PySem.KeyKind prog w Key where
  is := keyIs
  hash := keyH w
  inj := fun v a b ha hb => by
    rcases keyIs_shape ha with ⟨i, t, rfl, rfl⟩ | ⟨x, t, rfl, rfl⟩
    · rcases keyIs_shape hb with ⟨j, u, rfl, e⟩ | ⟨y, u, rfl, e⟩
      · injection e with e1 _; rw [e1]
      · exact nomatch e
    · rcases keyIs_shape hb with ⟨j, u, rfl, e⟩ | ⟨y, u, rfl, e⟩
      · exact nomatch e
      · injection e with e1 _; rw [e1]
  byValue := fun k v h => by
    rcases keyIs_shape h with ⟨i, t, rfl, rfl⟩ | ⟨x, t, rfl, rfl⟩ <;> rfl
  pyHash := fun hv h => by
    rcases keyIs_shape hv with ⟨i, t, rfl, rfl⟩ | ⟨x, t, rfl, rfl⟩
    · exact wpAny_pyHash_int h
    · exact wpAny_pyHash_str h
  eqBool := fun hu hv h => by
    rcases keyIs_shape hu with ⟨i, t, rfl, rfl⟩ | ⟨x, t, rfl, rfl⟩
    · rcases keyIs_shape hv with ⟨j, u, rfl, rfl⟩ | ⟨y, u, rfl, rfl⟩
      · rw [key_ll] at h; exact wpAny_eqBool_int h
      · rw [key_lr] at h; exact SeqAt.EqAt.int_str i t y u _ _ _ _ h
    · rcases keyIs_shape hv with ⟨j, u, rfl, rfl⟩ | ⟨y, u, rfl, rfl⟩
      · rw [key_rl] at h; exact SeqAt.EqAt.str_int x t j u _ _ _ _ h
      · rw [key_rr] at h; exact wpAny_eqBool_str h
  «strs» := fun k x t v h => by
    rcases keyIs_shape h with ⟨i, u, rfl, e⟩ | ⟨y, u, rfl, e⟩
    · exact nomatch e
    · injection e with e1 _
      subst e1
      cases v <;> rfl

end L2

namespace L2
open PySem PySem.Spec PyProof.Rows

inductive V where
  | non | bl (b : Bool) | int (i : Int) | str (x : Str) | byt (b : Array UInt8) | flt (b : UInt64) | ref (a : Addr) | ty (n : String)
  deriving DecidableEq

def RelV : V → Value → Prop
  | .non, u => u = Value.none
  | .bl b, u => u = Value.bool b
  | .int i, u => ∃ t, u = Value.int i t
  | .str x, u => ∃ t, u = Value.str x t
  | .byt b, u => ∃ t, u = Value.bytes b t
  | .flt b, u => ∃ t, u = Value.float b t
  | .ref a, u => u = Value.ref a
  | .ty n, u => u = Value.type n

abbrev Vals : List V → List Value → Prop := Paired RelV
theorem Vals.length {xs : List V} {us : List Value} (r : Vals xs us) : xs.length = us.length := Paired.length r
theorem Vals.get : ∀ {xs : List V} {us : List Value} {i : Nat} {x : V}, Vals xs us → xs[i]? = some x → ∃ u, us[i]? = some u ∧ RelV x u
  | _, _, _, _, .nil, e => by simp at e
  | _, _, 0, _, .cons r _, e => by simp at e; subst e; exact ⟨_, rfl, r⟩
  | _, _, i + 1, x, .cons _ t, e => by
    obtain ⟨u, h1, h2⟩ := Vals.get (i := i) (x := x) t (by simpa using e)
    exact ⟨u, by simpa using h1, h2⟩
theorem Vals.set {x : V} {u : Value} (r : RelV x u) : ∀ {xs : List V} {us : List Value} (i : Nat), Vals xs us → Vals (xs.set i x) (us.set i u)
  | _, _, _, .nil => .nil
  | _, _, 0, .cons _ t => .cons r t
  | _, _, i + 1, .cons q t => .cons q (Vals.set r i t)
theorem Vals.append : ∀ {xs ys : List V} {us ws : List Value}, Vals xs us → Vals ys ws → Vals (xs ++ ys) (us ++ ws)
  | _, _, _, _, .nil, s => s
  | _, _, _, _, .cons r t, s => .cons r (Vals.append t s)
theorem Vals.take : ∀ {xs : List V} {us : List Value} (n : Nat), Vals xs us → Vals (xs.take n) (us.take n)
  | _, _, 0, _ => .nil
  | _, _, _ + 1, .nil => .nil
  | _, _, n + 1, .cons r t => .cons r (Vals.take n t)
theorem Vals.drop : ∀ {xs : List V} {us : List Value} (n : Nat), Vals xs us → Vals (xs.drop n) (us.drop n)
  | _, _, 0, r => r
  | _, _, _ + 1, .nil => .nil
  | _, _, n + 1, .cons _ t => Vals.drop n t
def RelO : Option V → Option Value → Prop
  | some v, some u => RelV v u
  | none, none => True
  | _, _ => False
def KV {κ : Type} : List (κ × V) → List (κ × Value) → Prop := Paired fun (p : κ × V) (q : κ × Value) => p.1 = q.1 ∧ RelV p.2 q.2

def kV : Key → V
  | .inl i => .int i
  | .inr x => .str x

inductive HO where
  /-- a list -/
  | lst (xs : List V)
  /-- a tuple (never changes) -/
  | tup (xs : List V)
  /-- a dict whose keys are ints and texts; one whose keys are tuples of ints and texts (the empty one is both) -/
  | dK (kvs : List (Key × V)) | dT (kvs : List (List Key × V))
  /-- a set of ints: its members, its size -/
  | set (S : Int → Bool) (n : Nat)
  /-- an instance of the class at C, its dict at dx, its attributes -/
  | ins (C dx : Addr) (fs : List (Str × V))
  /-- the dict of the instance at x -/
  | own (x : Addr)
  /-- the dict of an exception -/
  | xd (fs : List (Str × V))
  /-- a bound method, f of x -/
  | met (f x : Addr)
  /-- a range object lo, lo + 1, .. below hi -/
  | rng (lo hi : Int)
  /-- a thing that is known to the object (the script; a dict while a loop walks it): read, never written while it is so -/
  | frz (o : Obj) (u : HO)
  /-- a code object's table -/
  | tbl (ps : Array Value)
  /-- any other thing, by what is true of its one object (a def of one's own: SetO a S n := HO.ext fun h => ..) -/
  | ext (φ : Heap → Prop)

abbrev Hp := Addr → Option HO
def upd (H : Hp) (a : Addr) (o : HO) : Hp := fun b => if b = a then some o else H b
theorem upd_same {H : Hp} {a : Addr} {o : HO} : upd H a o a = some o := by unfold upd; rw [if_pos rfl]
theorem upd_ne {H : Hp} {a b : Addr} {o : HO} (h : b ≠ a) : upd H a o b = H b := by unfold upd; rw [if_neg h]
theorem ne_of {H : Hp} {a b : Addr} {o u : HO} (h : H a = some o) (h' : H b = some u) (d : o ≠ u) : a ≠ b := by
  intro e; subst e; rw [h] at h'; exact d (Option.some.inj h')
theorem ne_of_none {H : Hp} {a b : Addr} {o : HO} (h : H a = some o) (h' : H b = none) : a ≠ b := by
  intro e; subst e; rw [h] at h'; cases h'

section
variable (P : Program) (w : World)
def ObjOk (H : Hp) (h : Heap) (a : Addr) : HO → Prop
  | .lst xs => xs.length ≤ sizeLine ∧ ∃ (its : List Value) (n : Nat), Vals xs its ∧ h.get? a = some { cls := .type "list", data := .seq its.toArray n }
  | .tup xs => xs.length ≤ sizeLine ∧ ∃ its : List Value, Vals xs its ∧ IsTup h a its.toArray
  | .dK kvs => kvs.length ≤ sizeLine ∧ (a == sysModules) = false ∧ ∃ vs, KV kvs vs ∧ h.DictOf (mixKind P w) a vs
  | .dT kvs => kvs.length ≤ sizeLine ∧ (a == sysModules) = false ∧ ∃ xs : List (List Key × Addr × Value),
      Paired (fun (p : List Key × V) (q : List Key × Addr × Value) => p.1 = q.1 ∧ H q.2.1 = some (.tup (p.1.map kV)) ∧ RelV p.2 q.2.2) kvs xs ∧
      ∃ o es ep, h.get? a = some o ∧ o.ExactDict ∧ o.data = .dict es ep ∧ es.toList = xs.map (entryOfKey (tupleKind (mixKind P w))) ∧ (xs.map (·.1)).Nodup
  | .set S n => h.SetOf (intKind P w) a S n
  | .ins C dx fs => H dx = some (.own a) ∧ fs.length ≤ 1000 ∧ dx ≠ a ∧ h.get? a = some (PySem.W.instObj C dx) ∧
      ∃ mA, h.Ns1 dx mA ∧ (∀ f, RelO (fs.lookup f) (mA f)) ∧ PySem.Within mA (fs.map (·.1))
  | .own _ => ∃ o, h.get? a = some o
  | .xd fs => ∃ mA, h.Ns1 a mA ∧ ∀ f, RelO (fs.lookup f) (mA f)
  | .rng lo hi => ∃ t u v, h.get? a = some { cls := .type "range", data := .fields #[.int lo t, .int hi u, .int 1 v] }
  | .frz o u => h.get? a = some o ∧ ObjOk H h a u
  | .tbl ps => h.get? a = some { cls := .none, data := .fields ps }
  | .met f x => h.get? a = some (PySem.W.methodObj (.ref f) (.ref x))
  | .ext φ => φ h ∧ (∃ o, h.get? a = some o) ∧ ∀ h1 h2 : Heap, φ h1 → (∀ o, h1.get? a = some o → h2.get? a = some o) → φ h2
def HOk (H : Hp) (h : Heap) : Prop := ∀ a o, H a = some o → ObjOk P w H h a o
end

section
variable {P : Program} {w : World} {H H' : Hp} {h h' : Heap} {a : Addr} {o : HO}
theorem ObjOk.lt (x : ObjOk P w H h a o) : a < h.objs.size := by
  cases o with
  | lst xs => obtain ⟨_, _, _, _, e⟩ := x; exact Heap.lt_size e
  | tup xs => obtain ⟨_, _, _, p⟩ := x; exact p.lt
  | dK kvs => obtain ⟨_, _, _, _, o, _, _, e, _⟩ := x; exact Heap.lt_size e
  | dT kvs => obtain ⟨_, _, _, _, o, _, _, e, _⟩ := x; exact Heap.lt_size e
  | set S n => obtain ⟨o, _, _, _, e, _⟩ := x; exact Heap.lt_size e
  | ins C dx fs => obtain ⟨_, _, _, e, _⟩ := x; exact Heap.lt_size e
  | own y => obtain ⟨_, e⟩ := x; exact Heap.lt_size e
  | xd fs => obtain ⟨_, ⟨_, _, _, e, _⟩, _⟩ := x; exact Heap.lt_size e
  | rng lo hi => obtain ⟨_, _, _, e⟩ := x; exact Heap.lt_size e
  | frz ob u => obtain ⟨e, _⟩ := x; exact Heap.lt_size e
  | tbl ps => exact Heap.lt_size (show h.get? a = some _ from x)
  | met f y => exact Heap.lt_size (show h.get? a = some _ from x)
  | ext φ => obtain ⟨_, ⟨_, e⟩, _⟩ := x; exact Heap.lt_size e
theorem Paired.mapP {α β : Type} {F G : α → β → Prop} : ∀ {l₁ : List α} {l₂ : List β}, Paired F l₁ l₂ → (∀ a b, F a b → G a b) → Paired G l₁ l₂
  | _, _, .nil, _ => .nil
  | _, _, .cons r t, f => .cons (f _ _ r) (Paired.mapP t f)
theorem ObjOk.stay (x : ObjOk P w H h a o) (k : ∀ b u, (b = a ∨ H b = some (.own a)) → h.get? b = some u → h'.get? b = some u)
    (ho : ∀ b, H b = some (.own a) → H' b = some (.own a)) (ht : ∀ b xs, H b = some (.tup xs) → H' b = some (.tup xs)) : ObjOk P w H' h' a o := by
  induction o with
  | lst xs => obtain ⟨z, its, n, r, e⟩ := x; exact ⟨z, its, n, r, k _ _ (.inl rfl) e⟩
  | tup xs => obtain ⟨z, its, r, ob, e, c⟩ := x; exact ⟨z, its, r, ob, k _ _ (.inl rfl) e, c⟩
  | dK kvs => obtain ⟨z, y, vs, r, ob, es, ep, e, c⟩ := x; exact ⟨z, y, vs, r, ob, es, ep, k _ _ (.inl rfl) e, c⟩
  | dT kvs =>
    obtain ⟨z, y, xs, r, ob, es, ep, e, c⟩ := x
    exact ⟨z, y, xs, Paired.mapP r fun p q z => ⟨z.1, ht _ _ z.2.1, z.2.2⟩, ob, es, ep, k _ _ (.inl rfl) e, c⟩
  | set S n => obtain ⟨ob, es, ep, t, e, c⟩ := x; exact ⟨ob, es, ep, t, k _ _ (.inl rfl) e, c⟩
  | ins C dx fs =>
    obtain ⟨d, z, ne, e, mA, ⟨od, es, ep, e2, c⟩, r⟩ := x
    exact ⟨ho _ d, z, ne, k _ _ (.inl rfl) e, mA, ⟨od, es, ep, k _ _ (.inr d) e2, c⟩, r⟩
  | own y => obtain ⟨ob, e⟩ := x; exact ⟨ob, k _ _ (.inl rfl) e⟩
  | xd fs => obtain ⟨mA, ⟨od, es, ep, e, c⟩, r⟩ := x; exact ⟨mA, ⟨od, es, ep, k _ _ (.inl rfl) e, c⟩, r⟩
  | rng lo hi => obtain ⟨t, u, v, e⟩ := x; exact ⟨t, u, v, k _ _ (.inl rfl) e⟩
  | frz ob u ih => obtain ⟨e, q⟩ := x; exact ⟨k _ _ (.inl rfl) e, ih q⟩
  | tbl ps =>
    have e : h.get? a = some { cls := .none, data := .fields ps } := x
    show h'.get? a = some { cls := .none, data := .fields ps }
    exact k a _ (.inl rfl) e
  | met f y =>
    have e : h.get? a = some (PySem.W.methodObj (.ref f) (.ref y)) := x
    show h'.get? a = some (PySem.W.methodObj (.ref f) (.ref y))
    exact k a _ (.inl rfl) e
  | ext φ => obtain ⟨p, ⟨o, e⟩, st⟩ := x; exact ⟨st _ _ p fun o q => k _ _ (.inl rfl) q, ⟨o, k _ _ (.inl rfl) e⟩, st⟩
theorem HOk.lt (x : HOk P w H h) (e : H a = some o) : a < h.objs.size := (x a o e).lt
theorem HOk.fresh (x : HOk P w H h) (e : h.objs.size ≤ a) : H a = none := by
  cases q : H a with
  | none => rfl
  | some u => exact absurd (Nat.lt_of_lt_of_le (x.lt q) e) (Nat.lt_irrefl _)
theorem HOk.kept (x : HOk P w H h) (k : ∀ b u, h.get? b = some u → h'.get? b = some u) : HOk P w H h' := fun a o e =>
  (x a o e).stay (fun b u _ q => k b u q) (fun _ q => q) fun _ _ q => q
theorem HOk.laid (x : HOk P w H h) (k : ∀ b u, h.get? b = some u → h'.get? b = some u) (hp : h.objs.size ≤ a) (new : ObjOk P w (upd H a o) h' a o) : HOk P w (upd H a o) h' := fun b u e => by
  have hn := x.fresh hp
  by_cases hb : b = a
  · subst hb; rw [upd_same] at e; cases e; exact new
  · rw [upd_ne hb] at e
    exact (x b u e).stay (fun c v _ q => k c v q) (fun c q => by rw [upd_ne (ne_of_none q hn)]; exact q) fun c xs q => by rw [upd_ne (ne_of_none q hn)]; exact q
end

def Rd (H : Hp) (a : Addr) (u : HO) : Prop := H a = some u ∨ ∃ o, H a = some (.frz o u)
theorem Rd.of {H : Hp} {a : Addr} {u : HO} (h : H a = some u) : Rd H a u := .inl h
theorem Rd.ok {P : Program} {w : World} {H : Hp} {h : Heap} {a : Addr} {u : HO} (r : Rd H a u) (x : HOk P w H h) : ObjOk P w H h a u := by
  rcases r with r | ⟨o, r⟩
  · exact x a u r
  · obtain ⟨_, q⟩ := x a _ r
    exact q
def Mut : Option HO → Prop
  | some (.lst _) => True
  | some (.dK _) => True
  | some (.dT _) => True
  | some (.set _ _) => True
  | some (.ins _ _ _) => True
  | some (.ext _) => True
  | _ => False
section
variable {P : Program} {w : World} {H : Hp} {h h' : Heap} {x e : Addr} {o' : HO}
theorem HOk.write (ok : HOk P w H h) (mu : Mut (H x)) (he : e = x ∨ H e = some (.own x)) (k : ∀ b u, b ≠ e → h.get? b = some u → h'.get? b = some u) (heo : ∃ u, h'.get? e = some u)
    (new : ObjOk P w (upd H x o') h' x o') : HOk P w (upd H x o') h' := fun b u q => by
  have nown : ∀ c y, H c = some (.own y) → c ≠ x := fun c y r z => by subst z; rw [r] at mu; exact mu
  have ntup : ∀ c xs, H c = some (.tup xs) → c ≠ x := fun c xs r z => by subst z; rw [r] at mu; exact mu
  by_cases hb : b = x
  · subst hb; rw [upd_same] at q; cases q; exact new
  · rw [upd_ne hb] at q
    by_cases hbe : b = e
    · have q' : H b = some (.own x) := by
        rcases he with z | z
        · exact absurd (hbe.trans z) hb
        · rw [hbe]; exact z
      rw [q] at q'; cases q'
      obtain ⟨v, hv⟩ := heo
      exact ⟨v, by rw [hbe]; exact hv⟩
    · refine (ok b u q).stay (fun c v hc r => k c v ?_ r) (fun c r => by rw [upd_ne (nown c b r)]; exact r) fun c xs r => by rw [upd_ne (ntup c xs r)]; exact r
      rcases hc with rfl | hc
      · exact hbe
      · rintro rfl
        rcases he with z | z
        · exact nown c b hc z
        · rw [hc] at z; cases z; exact hb rfl
end

structure Un (fs ex : List Addr) (H H' : Hp) (h h' : Heap) : Prop where
  keep : ∀ b o, h.get? b = some o → H b = none → b ∉ fs → b ∉ ex → h'.get? b = some o
  slot : ∀ b o, h.get? b = some o → H b = none → b ∈ fs → b ∉ ex → ∃ sl, h'.get? b = some { o with slots := sl }
  free : ∀ b o, h.get? b = some o → H b = none → b ∉ ex → H' b = none
  there : ∀ b o, h.get? b = some o → b ∉ ex → ∃ o', h'.get? b = some o'
  tups : ∀ b xs, H b = some (.tup xs) → H' b = some (.tup xs)
  frzs : ∀ b o u, H b = some (.frz o u) → H' b = some (.frz o u)
  tbls : ∀ b ps, H b = some (.tbl ps) → ∃ more, H' b = some (.tbl (ps ++ more))
section
variable {fs fs' ex ex' : List Addr} {H H1 H2 : Hp} {h h1 h2 h' : Heap} {a x e : Addr} {o : HO}
theorem Un.any (u : Un fs ex H H1 h h1) {b : Addr} {ob : Obj} (q : h.get? b = some ob) (n : H b = none) (hx : b ∉ ex) : ∃ sl, h1.get? b = some { ob with slots := sl } := by
  by_cases hb : b ∈ fs
  · exact u.slot b ob q n hb hx
  · exact ⟨ob.slots, u.keep b ob q n hb hx⟩
theorem Un.trans (a : Un fs ex H H1 h h1) (b : Un fs ex H1 H2 h1 h2) : Un fs ex H H2 h h2 where
  keep := fun c ob q n hc hx => b.keep c ob (a.keep c ob q n hc hx) (a.free c ob q n hx) hc hx
  slot := fun c ob q n hc hx => by
    obtain ⟨sl, e1⟩ := a.slot c ob q n hc hx
    obtain ⟨sl', e2⟩ := b.slot c _ e1 (a.free c ob q n hx) hc hx
    exact ⟨sl', e2⟩
  free := fun c ob q n hx => by
    obtain ⟨o', e1⟩ := a.there c ob q hx
    exact b.free c o' e1 (a.free c ob q n hx) hx
  there := fun c ob q hx => by
    obtain ⟨o', e1⟩ := a.there c ob q hx
    exact b.there c o' e1 hx
  tups := fun c xs q => b.tups c xs (a.tups c xs q)
  frzs := fun c ob xs q => b.frzs c ob xs (a.frzs c ob xs q)
  tbls := fun c ps q => by
    obtain ⟨m1, e1⟩ := a.tbls c ps q
    obtain ⟨m2, e2⟩ := b.tbls c _ e1
    exact ⟨m1 ++ m2, by rw [e2, Array.append_assoc]⟩
theorem Un.kept (k : ∀ b u, h.get? b = some u → h'.get? b = some u) : Un fs ex H H h h' :=
  ⟨fun b ob q _ _ _ => k b ob q, fun b ob q _ _ _ => ⟨ob.slots, k b ob q⟩, fun _ _ _ n _ => n, fun b ob q _ => ⟨ob, k b ob q⟩, fun _ _ q => q, fun _ _ _ q => q, fun _ ps q => ⟨#[], by rw [q]; simp⟩⟩
theorem Un.refl : Un fs ex H H h h := Un.kept fun _ _ q => q
theorem Un.laid (k : ∀ b u, h.get? b = some u → h'.get? b = some u) (hp : h.objs.size ≤ a) (hn : H a = none) : Un fs ex H (upd H a o) h h' where
  keep := fun b u q _ _ _ => k b u q
  slot := fun b u q _ _ _ => ⟨u.slots, k b u q⟩
  free := fun b u q n _ => by rw [upd_ne (Nat.ne_of_lt (Nat.lt_of_lt_of_le (Heap.lt_size q) hp))]; exact n
  there := fun b u q _ => ⟨u, k b u q⟩
  tups := fun b xs q => by rw [upd_ne (ne_of_none q hn)]; exact q
  frzs := fun b u xs q => by rw [upd_ne (ne_of_none q hn)]; exact q
  tbls := fun b ps q => ⟨#[], by rw [upd_ne (ne_of_none q hn), q]; simp⟩
theorem Un.write (mu : Mut (H x)) (he : e = x ∨ H e = some (.own x)) (k : ∀ b u, b ≠ e → h.get? b = some u → h'.get? b = some u) (heo : ∃ u, h'.get? e = some u) : Un fs ex H (upd H x o) h h' := by
  have hx : ∀ b, H b = none → b ≠ x := fun b n z => by subst z; rw [n] at mu; exact mu
  have hb : ∀ b, H b = none → b ≠ e := fun b n z => by
    subst z
    rcases he with r | r
    · exact hx b n r
    · rw [n] at r; cases r
  have hm : ∀ b u, H b = some u → ¬ Mut (some u) → b ≠ x := fun b u q nm z => by subst z; rw [q] at mu; exact nm mu
  refine ⟨fun b u q n _ _ => k b u (hb b n) q, fun b u q n _ _ => ⟨u.slots, k b u (hb b n) q⟩, fun b u q n _ => by rw [upd_ne (hx b n)]; exact n, fun b u q _ => ?_,
    fun b xs q => by rw [upd_ne (hm b _ q fun z => z)]; exact q, fun b u xs q => by rw [upd_ne (hm b _ q fun z => z)]; exact q, fun b ps q => ⟨#[], by rw [upd_ne (hm b _ q fun z => z), q]; simp⟩⟩
  by_cases hbe : b = e
  · subst hbe; exact heo
  · exact ⟨u, k b u hbe q⟩
theorem Un.mono (u : Un fs ex H H1 h h1) (hs : ∀ b ∈ fs, b ∈ fs') (hx : ∀ b ∈ ex, b ∈ ex') : Un fs' ex' H H1 h h1 :=
  ⟨fun b ob q n hb he => u.keep b ob q n (fun z => hb (hs b z)) fun z => he (hx b z), fun _ _ q n _ he => u.any q n fun z => he (hx _ z), fun b ob q n he => u.free b ob q n fun z => he (hx b z), fun b ob q he => u.there b ob q fun z => he (hx b z), u.tups, u.frzs, u.tbls⟩
end

def trk (h : Heap) (H : Hp) : List Addr := (List.range h.objs.size).filter fun a => (H a).isSome
def hidT (h : Heap) (H : Hp) : Heap := PySem.W.hideAll h (trk h H)
theorem hidT_size (h : Heap) (H : Hp) : (hidT h H).objs.size = h.objs.size := PySem.W.hideAll_size _ _
theorem hidT_get {h : Heap} {H : Hp} {b : Addr} {o : Obj} (e : h.get? b = some o) (n : H b = none) : (hidT h H).get? b = some o :=
  PySem.W.hideAll_get _ e fun hm => by
    have q : (H b).isSome = true := (List.mem_filter.mp hm).2
    rw [n] at q; simp at q
theorem of_hidT {h : Heap} {H : Hp} {b : Addr} {o : Obj} (e : (hidT h H).get? b = some o) : h.get? b = some o ∧ H b = none := by
  have e' : h.get? b = some o := PySem.W.of_hideAll (trk h H) e
  refine ⟨e', ?_⟩
  cases q : H b with
  | none => rfl
  | some x =>
    have hm : b ∈ trk h H := List.mem_filter.mpr ⟨List.mem_range.mpr (Heap.lt_size e'), by simp [q]⟩
    have z : (hidT h H).get? b = none := PySem.W.hideAll_none (trk h H) hm
    rw [z] at e; cases e

def allNews (g h : Heap) (L : Addr) : List (Addr × Obj) := (List.range h.objs.size).filterMap fun a => if a = L ∨ (g.get? a).isSome = true then none else (h.get? a).map fun o => (a, o)
def rest (g h : Heap) (L d : Addr) : List (Addr × Obj) := (allNews g h L).filter fun p => decide (p.1 ≠ d)
end L2

namespace L2
open PySem PySem.Spec PyProof.Rows

structure Mod (K : PySem.W.Frag) (mg : Str → Option Value) (base : Heap) : Prop where
  kin : K.In base
  glob : base.Ns mainGlobals mg
  blt : ∃ mb, base.Ns builtinsNs mb ∧ ∀ x : Str, x ≠ "__name__" → mb x = bootBuiltins x
  nolimit : base.NoLimit

structure Cx where
  prog : Program
  w : World
  K : PySem.W.Frag
  mg : Str → Option Value
  base : Heap
  A : Around
  N : List Str
  s₀ : Shared
  H₀ : Hp
  env : Env
  outer : List Env
  stack : List Env
  ex : List Addr
  fn : Str → Bool
  calm : Bool
  pn : List (Addr × Obj)
  xe : Value → Shared → Prop
def frs (l : List Env) : List Addr := l.filterMap (·.frame)
abbrev Cx.fs (X : Cx) : List Addr := frs X.outer

def Vis (sc : Scope) (x : Str) : Prop := sc.names.lookup x = some .local ∨ sc.names.lookup x = some .cell ∨ sc.names.lookup x = some .free
def Loc (sc : Scope) (x : Str) : Prop := sc.names.lookup x = some .local ∨ sc.names.lookup x = some .cell
def Look (env : Env) (h : Heap) (m : Str → Option Value) (x : Str) (u : Value) : Prop :=
  (env.kindOf x = some .local ∧ m x = some u) ∨ ((env.kindOf x = some .cell ∨ env.kindOf x = some .free) ∧ ∃ c, env.cells.lookup x = some c ∧ h.IsCell c (some u))

structure Cx.Ok (X : Cx) : Prop where
  mod : Mod X.K X.mg X.base
  kind : X.env.scope.kind = .function
  glob : X.env.globals = mainGlobals
  blt : X.env.builtins = builtinsNs
  above : X.s₀.heap.objs.size ≤ X.env.locals
  inj : ∀ x y c, X.env.cells.lookup x = some c → X.env.cells.lookup y = some c → x = y
  has : ∀ x, (X.env.kindOf x = some .cell ∨ X.env.kindOf x = some .free) → ∃ c, X.env.cells.lookup x = some c
  cab : ∀ x c, X.fn x = true → X.env.cells.lookup x = some c → X.s₀.heap.objs.size ≤ c
  hd : X.calm = true → X.A.handled = none
  frames : X.A.frames = some X.stack
  stk : X.stack = X.outer ∨ (X.stack = X.env :: X.outer ∧ X.env.frame = some X.env.locals)
  exf : ∀ b ∈ X.ex, b ≠ X.env.locals ∧ ∀ x c, X.env.cells.lookup x = some c → c ≠ b
  bs : ∀ b o, X.base.get? b = some o → X.s₀.heap.get? b = some o ∧ X.H₀ b = none
  bsz : X.base.objs.size ≤ X.s₀.heap.objs.size
  noex : ∀ b o, X.base.get? b = some o → b ∉ X.ex
  exfs : ∀ b ∈ X.ex, b ∉ X.fs
  funs : X.s₀.heap.FunFrames X.base X.outer
  frf : ∀ b ∈ X.fs, X.H₀ b = none

structure Inv (X : Cx) (pins : List (Addr × Obj)) (σ : List (Option V)) (H : Hp) (s : Shared) : Prop where
  ok : X.Ok
  os : s.os = X.s₀.os
  bare : AllBare s.gens
  base : Un X.fs X.ex X.H₀ H X.s₀.heap s.heap
  loc : ∃ m, s.heap.Ns X.env.locals m ∧ ∀ (i : Nat) (x : Str) (v : V), X.N[i]? = some x → σ[i]? = some (some v) → Vis X.env.scope x → ∃ u, RelV v u ∧ Look X.env s.heap m x u
  cell : ∀ x c, X.env.cells.lookup x = some c → ∃ v, s.heap.IsCell c v
  free : H X.env.locals = none
  freeC : ∀ x c, X.env.cells.lookup x = some c → H c = none
  pin : ∀ p ∈ X.pn ++ pins, s.heap.get? p.1 = some p.2 ∧ H p.1 = none ∧ p.1 ≠ X.env.locals ∧ p.1 ∉ X.fs ∧ ∀ v, p.2.data ≠ .cell v
  hok : HOk X.prog X.w H s.heap
  len : σ.length = X.N.length

section
variable {X : Cx} {pins : List (Addr × Obj)} {σ : List (Option V)} {H H' : Hp} {s : Shared} {h' : Heap}

theorem Cx.Ok.nofr (ok : X.Ok) {b : Addr} {o : Obj} (e : X.base.get? b = some o) : b ∉ X.fs := fun hb => by
  have := (ok.funs.mem hb).1
  rw [e] at this; cases this
theorem Inv.bs (I : Inv X pins σ H s) : ∀ b o, X.base.get? b = some o → s.heap.get? b = some o ∧ H b = none := fun b o e =>
  ⟨I.base.keep b o (I.ok.bs b o e).1 (I.ok.bs b o e).2 (I.ok.nofr e) (I.ok.noex b o e), I.base.free b o (I.ok.bs b o e).1 (I.ok.bs b o e).2 (I.ok.noex b o e)⟩
theorem Inv.bk (I : Inv X pins σ H s) : ∀ b o, X.base.get? b = some o → s.heap.get? b = some o := fun b o e => (I.bs b o e).1
theorem Inv.mod (I : Inv X pins σ H s) : Mod X.K X.mg X.base := I.ok.mod
theorem Inv.kIn (I : Inv X pins σ H s) : X.K.In s.heap := I.ok.mod.kin.keeps I.bk
theorem Inv.nolimit (I : Inv X pins σ H s) : s.heap.NoLimit := I.ok.mod.nolimit.keeps I.bk
theorem Inv.lt (I : Inv X pins σ H s) : X.env.locals < s.heap.objs.size := let ⟨_, hn, _⟩ := I.loc; hn.lt
theorem Inv.sz (I : Inv X pins σ H s) : X.s₀.heap.objs.size ≤ s.heap.objs.size := Nat.le_trans I.ok.above (Nat.le_of_lt I.lt)
theorem Inv.nofs (I : Inv X pins σ H s) {a : Addr} (h : s.heap.objs.size ≤ a) : a ∉ X.fs := fun hb => by
  obtain ⟨_, o, ho, _⟩ := I.ok.funs.mem hb
  exact absurd (Nat.lt_of_lt_of_le (Heap.lt_size ho) (Nat.le_trans I.sz h)) (Nat.lt_irrefl _)
theorem Inv.cne (I : Inv X pins σ H s) : ∀ x c, X.env.cells.lookup x = some c → c ≠ X.env.locals := fun x c e z => by
  obtain ⟨v, o, ho, hd⟩ := I.cell x c e
  obtain ⟨m, ⟨o', es, ep, ho', hd', _⟩, _⟩ := I.loc
  rw [z, ho'] at ho; cases ho; rw [hd'] at hd; cases hd
theorem Inv.funs (I : Inv X pins σ H s) : s.heap.FunFrames X.base X.outer := by
  have all : ∀ (l : List Env), (∀ b ∈ frs l, b ∈ X.fs) → X.s₀.heap.FunFrames X.base l → s.heap.FunFrames X.base l := by
    intro l
    induction l with
    | nil => intro _ _; trivial
    | cons env r ih =>
      intro hs hl
      obtain ⟨hk, ⟨L, o, hf, hn, ho, hd⟩, hr⟩ := hl
      have hL : L ∈ X.fs := hs L (by unfold frs; rw [List.filterMap_cons, hf]; exact List.mem_cons_self)
      obtain ⟨sl, e⟩ := I.base.slot L o ho (I.ok.frf L hL) hL fun z => I.ok.exfs L z hL
      exact ⟨hk, ⟨L, _, hf, hn, e, hd⟩, ih (fun b hb => hs b (by unfold frs; rw [List.filterMap_cons, hf]; exact List.mem_cons_of_mem _ hb)) hr⟩
  exact all X.outer (fun _ hb => hb) I.ok.funs

theorem Inv.stack (I : Inv X pins σ H s) : s.heap.FunFrames X.base X.stack := by
  rcases I.ok.stk with e | ⟨e, hf⟩
  · rw [e]; exact I.funs
  · rw [e]
    obtain ⟨m, hn, _⟩ := I.loc
    refine .cons (by rw [I.ok.kind]; decide) hf hn ?_ I.funs
    exact Heap.get?_none_of_le (Nat.le_trans I.ok.bsz I.ok.above)
theorem Inv.stkSub (I : Inv X pins σ H s) : ∀ b ∈ frs X.stack, b ∈ X.env.locals :: X.fs := fun b hb => by
  rcases I.ok.stk with e | ⟨e, hf⟩
  · rw [e] at hb; exact List.mem_cons_of_mem _ hb
  · rw [e] at hb
    unfold frs at hb
    rw [List.filterMap_cons, hf] at hb
    exact hb
theorem Inv.stkFree (I : Inv X pins σ H s) : ∀ b ∈ frs X.stack, H b = none := fun b hb => by
  rcases List.mem_cons.mp (I.stkSub b hb) with e | hb
  · rw [e]; exact I.free
  · obtain ⟨_, o, ho, _⟩ := I.ok.funs.mem hb
    exact I.base.free b o ho (I.ok.frf b hb) fun z => I.ok.exfs b z hb

theorem Inv.step {g' : Array GenState} {t' : Nat} {d' : Drawn} {ch : List Addr} (I : Inv X pins σ H s)
    (hch : ∀ b ∈ ch, (b ∈ X.ex ∨ X.s₀.heap.objs.size ≤ b) ∧ b ≠ X.env.locals ∧ (∀ x c, X.env.cells.lookup x = some c → c ≠ b) ∧ ∀ p ∈ X.pn ++ pins, p.1 ≠ b)
    (keep : ∀ b o, b ≠ X.env.locals → b ∉ X.fs → b ∉ ch → s.heap.get? b = some o → H b = none → h'.get? b = some o)
    (slot : ∀ b o, b ≠ X.env.locals → b ∈ X.fs → b ∉ ch → s.heap.get? b = some o → H b = none → ∃ sl, h'.get? b = some { o with slots := sl }) (free : ∀ b o, b ∉ ch → s.heap.get? b = some o → H b = none → H' b = none)
    (there : ∀ b o, b ∉ ch → s.heap.get? b = some o → ∃ o', h'.get? b = some o')
    (tups : ∀ b xs, H b = some (.tup xs) → H' b = some (.tup xs)) (frzs : ∀ b o u, H b = some (.frz o u) → H' b = some (.frz o u)) (tbls : ∀ b ps, H b = some (.tbl ps) → ∃ more, H' b = some (.tbl (ps ++ more)))
    (ns : ∀ m, s.heap.Ns X.env.locals m → h'.Ns X.env.locals m) (hok : HOk X.prog X.w H' h') (hg : AllBare g') :
    Inv X pins σ H' { s with heap := h', gens := g', drawn := d', toks := t' } := by
  have neL : ∀ b o, X.s₀.heap.get? b = some o → b ≠ X.env.locals := fun b o e => Nat.ne_of_lt (Nat.lt_of_lt_of_le (Heap.lt_size e) I.ok.above)
  have neC : ∀ b o, X.s₀.heap.get? b = some o → b ∉ X.ex → b ∉ ch := fun b o e hx hb => by
    rcases (hch b hb).1 with z | z
    · exact hx z
    · exact absurd (Nat.lt_of_lt_of_le (Heap.lt_size e) z) (Nat.lt_irrefl _)
  have cellK : ∀ x c, X.env.cells.lookup x = some c → ∀ v, s.heap.IsCell c v → h'.IsCell c v := fun x c e v ⟨o, ho, hd⟩ => by
    have nch : c ∉ ch := fun z => (hch c z).2.2.1 x c e rfl
    by_cases hc : c ∈ X.fs
    · obtain ⟨sl, q⟩ := slot c o (I.cne x c e) hc nch ho (I.freeC x c e)
      exact ⟨_, q, hd⟩
    · exact ⟨o, keep c o (I.cne x c e) hc nch ho (I.freeC x c e), hd⟩
  refine ⟨I.ok, I.os, hg, ⟨fun b o e n hb hx => ?_, fun b o e n hb hx => ?_, fun b o e n hx => ?_, fun b o e hx => ?_, fun b xs e => tups b xs (I.base.tups b xs e), fun b o xs e => frzs b o xs (I.base.frzs b o xs e), fun b ps e => ?_⟩, ?_, fun x c e => ?_, ?_, fun x c e => ?_, fun p hp => ?_, hok, I.len⟩
  · exact keep b o (neL b o e) hb (neC b o e hx) (I.base.keep b o e n hb hx) (I.base.free b o e n hx)
  · obtain ⟨sl, e1⟩ := I.base.slot b o e n hb hx
    obtain ⟨sl', e2⟩ := slot b _ (neL b o e) hb (neC b o e hx) e1 (I.base.free b o e n hx)
    exact ⟨sl', e2⟩
  · obtain ⟨o', e1⟩ := I.base.there b o e hx
    exact free b o' (neC b o e hx) e1 (I.base.free b o e n hx)
  · obtain ⟨o', e1⟩ := I.base.there b o e hx
    exact there b o' (neC b o e hx) e1
  · obtain ⟨m1, e1⟩ := I.base.tbls b ps e
    obtain ⟨m2, e2⟩ := tbls b _ e1
    exact ⟨m1 ++ m2, by rw [e2, Array.append_assoc]⟩
  · obtain ⟨m, hn, hl⟩ := I.loc
    refine ⟨m, ns m hn, fun i x v e1 e2 e3 => ?_⟩
    obtain ⟨u, r, l⟩ := hl i x v e1 e2 e3
    refine ⟨u, r, ?_⟩
    rcases l with l | ⟨k, c, e, z⟩
    · exact .inl l
    · exact .inr ⟨k, c, e, cellK x c e _ z⟩
  · obtain ⟨v, z⟩ := I.cell x c e
    exact ⟨v, cellK x c e v z⟩
  · obtain ⟨m, ⟨o, _, _, ho, _⟩, _⟩ := I.loc
    exact free _ o (fun z => (hch _ z).2.1 rfl) ho I.free
  · obtain ⟨v, o, ho, hd⟩ := I.cell x c e
    exact free c o (fun z => (hch c z).2.2.1 x c e rfl) ho (I.freeC x c e)
  · obtain ⟨e, n, ne, nf, d⟩ := I.pin p hp
    have nch : p.1 ∉ ch := fun z => (hch p.1 z).2.2.2 p hp rfl
    exact ⟨keep p.1 p.2 ne nf nch e n, free p.1 p.2 nch e n, ne, nf, d⟩
theorem Inv.un {t' : Nat} (I : Inv X pins σ H s) (u : Un X.fs [] H H' s.heap h') (hok : HOk X.prog X.w H' h') : Inv X pins σ H' { s with heap := h', toks := t' } := by
  obtain ⟨m, ⟨o, es, ep, ho, r⟩, _⟩ := id I.loc
  obtain ⟨sl, hL⟩ := u.any ho I.free (by simp)
  exact I.step (g' := s.gens) (d' := s.drawn) (ch := []) (fun _ z => nomatch z) (fun b o _ hb _ e n => u.keep b o e n hb (by simp)) (fun b o _ hb _ e n => u.slot b o e n hb (by simp)) (fun b o _ e n => u.free b o e n (by simp)) (fun b o _ e => u.there b o e (by simp)) u.tups u.frzs u.tbls (fun m' hm => by
    obtain ⟨o', es', ep', ho', r'⟩ := hm
    rw [ho] at ho'; cases ho'
    exact ⟨_, es', ep', hL, r'⟩) hok I.bare
theorem Inv.call {g' : Array GenState} {t' : Nat} {d' : Drawn} {ch : List Addr} (I : Inv X pins σ H s) (u : Un (frs X.stack) ch H H' s.heap h') (hok : HOk X.prog X.w H' h') (hg : AllBare g')
    (hch : ∀ b ∈ ch, (b ∈ X.ex ∨ X.s₀.heap.objs.size ≤ b) ∧ b ≠ X.env.locals ∧ (∀ x c, X.env.cells.lookup x = some c → c ≠ b) ∧ ∀ p ∈ X.pn ++ pins, p.1 ≠ b) :
    Inv X pins σ H' { s with heap := h', gens := g', drawn := d', toks := t' } := by
  obtain ⟨m, ⟨o, es, ep, ho, r⟩, _⟩ := id I.loc
  obtain ⟨sl, hL⟩ := u.any ho I.free fun z => (hch _ z).2.1 rfl
  exact I.step (ch := ch) hch (fun b o hL hb hc e n => u.keep b o e n (fun z => (List.mem_cons.mp (I.stkSub b z)).elim hL hb) hc) (fun b o _ _ hc e n => u.any e n hc) (fun b o hc e n => u.free b o e n hc) (fun b o hc e => u.there b o e hc) u.tups u.frzs u.tbls (fun m' hm => by
    obtain ⟨o', es', ep', ho', r'⟩ := hm
    rw [ho] at ho'; cases ho'
    exact ⟨_, es', ep', hL, r'⟩) hok hg
theorem Inv.turned {t' : Nat} {it : Addr} (I : Inv X pins σ H s) (k : ∀ b o, b ≠ it → s.heap.get? b = some o → h'.get? b = some o) (hn : H it = none) (hL : it ≠ X.env.locals)
    (h1 : it ∈ X.ex ∨ X.s₀.heap.objs.size ≤ it) (h2 : ∀ x c, X.env.cells.lookup x = some c → c ≠ it) (h3 : ∀ p ∈ X.pn ++ pins, p.1 ≠ it) : Inv X pins σ H { s with heap := h', toks := t' } := by
  have nit : ∀ b u, H b = some u → b ≠ it := fun b u e z => by rw [z, hn] at e; cases e
  refine I.step (g' := s.gens) (d' := s.drawn) (ch := [it]) (fun b hb => ?_) (fun b o _ _ hc e _ => k b o (fun z => hc (by simp [z])) e) (fun b o _ _ hc e _ => ⟨o.slots, k b o (fun z => hc (by simp [z])) e⟩) (fun _ _ _ _ n => n)
    (fun b o hc e => ⟨o, k b o (fun z => hc (by simp [z])) e⟩) (fun _ _ e => e) (fun _ _ _ e => e) (fun b ps e => ⟨#[], by rw [e]; simp⟩) (fun m hm => ?_) (fun b u e => ?_) I.bare
  · have e : b = it := by simpa using hb
    subst e
    exact ⟨h1, hL, h2, h3⟩
  · obtain ⟨o, es, ep, ho, r⟩ := hm
    exact ⟨o, es, ep, k _ o (Ne.symm hL) ho, r⟩
  · refine (I.hok b u e).stay (fun c v hc q => k c v ?_ q) (fun _ q => q) fun _ _ q => q
    rcases hc with z | z
    · rw [z]; exact nit b u e
    · exact nit c _ z
theorem Inv.tok (I : Inv X pins σ H s) (t : Nat) : Inv X pins σ H { s with toks := t } := I.un (h' := s.heap) (t' := t) Un.refl I.hok
theorem Inv.kept {t' : Nat} (I : Inv X pins σ H s) (k : ∀ b u, s.heap.get? b = some u → h'.get? b = some u) : Inv X pins σ H { s with heap := h', toks := t' } := I.un (Un.kept k) (I.hok.kept k)
theorem Inv.laid {a : Addr} {o : HO} {t' : Nat} (I : Inv X pins σ H s) (k : ∀ b u, s.heap.get? b = some u → h'.get? b = some u) (hp : s.heap.objs.size ≤ a) (new : ObjOk X.prog X.w (upd H a o) h' a o) :
    Inv X pins σ (upd H a o) { s with heap := h', toks := t' } := I.un (Un.laid k hp (I.hok.fresh hp)) (I.hok.laid k hp new)
theorem Inv.write {x e : Addr} {o : HO} {t' : Nat} (I : Inv X pins σ H s) (mu : Mut (H x)) (he : e = x ∨ H e = some (.own x)) (k : ∀ b u, b ≠ e → s.heap.get? b = some u → h'.get? b = some u) (heo : ∃ u, h'.get? e = some u)
    (new : ObjOk X.prog X.w (upd H x o) h' x o) : Inv X pins σ (upd H x o) { s with heap := h', toks := t' } := I.un (Un.write mu he k heo) (I.hok.write mu he k heo new)
theorem Inv.weak {σ' : List (Option V)} (I : Inv X pins σ H s) (hl : σ'.length = σ.length) (w : ∀ (i : Nat) v, σ'[i]? = some (some v) → σ[i]? = some (some v)) : Inv X pins σ' H s :=
  ⟨I.ok, I.os, I.bare, I.base, let ⟨m, hn, hl'⟩ := I.loc; ⟨m, hn, fun i x v e1 e2 e3 => hl' i x v e1 (w i v e2) e3⟩, I.cell, I.free, I.freeC, I.pin, I.hok, hl.trans I.len⟩
theorem Inv.pins_of {pins' : List (Addr × Obj)} (I : Inv X pins σ H s) (h : ∀ p ∈ pins', s.heap.get? p.1 = some p.2 ∧ H p.1 = none ∧ p.1 ≠ X.env.locals ∧ p.1 ∉ X.fs ∧ ∀ v, p.2.data ≠ .cell v) : Inv X pins' σ H s :=
  ⟨I.ok, I.os, I.bare, I.base, I.loc, I.cell, I.free, I.freeC, fun p hp => (List.mem_append.mp hp).elim (fun z => I.pin p (List.mem_append_left _ z)) (h p), I.hok, I.len⟩

theorem nodup_ix {N : List Str} (hN : N.Nodup) {i j : Nat} {x : Str} (a : N[i]? = some x) (b : N[j]? = some x) : i = j := by
  obtain ⟨h1, e1⟩ := List.getElem?_eq_some_iff.mp a
  obtain ⟨h2, e2⟩ := List.getElem?_eq_some_iff.mp b
  exact (List.getElem_inj hN).mp (e1.trans e2.symm)

theorem store_ok2 {M : Model} {A : Around} {E : Value → Shared → Prop} {i : Nat} {x : Str} {v : V} {u : Value} {Q : Unit → Shared → Prop} (I : Inv X pins σ H s) (hN : X.N.Nodup) (hi : X.N[i]? = some x) (hx : Loc X.env.scope x) (r : RelV v u)
    (h : ∀ s', Inv X pins (σ.set i (some v)) H s' → (∃ a, Heap.SameBut a s.heap s'.heap ∧ (a = X.env.locals ∨ X.env.cells.lookup x = some a)) → Q () s') (hf : X.fn x = true ∨ X.env.scope.names.lookup x = some .local := by first | exact .inl rfl | exact .inr rfl | assumption) : wpAny M A (storeName X.env x u) Q E s := by
  obtain ⟨m, hn, hl⟩ := id I.loc
  have hcls : (X.env.scope.kind == .class || (X.env.scope.kind == .module && X.env.locals != X.env.globals)) = false := by rw [I.ok.kind]; rfl
  have hiσ : i < σ.length := by rw [I.len]; exact (List.getElem?_eq_some_iff.mp hi).1
  have cne := I.cne
  have tracked : ∀ {a : Addr} {h' : Heap}, (∃ o, s.heap.get? a = some o ∧ H a = none) → Heap.SameBut a s.heap h' → HOk X.prog X.w H h' := fun {a h'} ha hs b ob e => by
    obtain ⟨_, _, hfree⟩ := ha
    refine (I.hok b ob e).stay (fun c w' hc q => (hs.2 c ?_).trans q) (fun _ q => q) fun _ _ q => q
    rintro rfl
    rcases hc with rfl | hc
    · rw [hfree] at e; cases e
    · rw [hfree] at hc; cases hc
  rcases hx with hk | hk
  · refine wpAny_storeName_local hk hn (fun h' hn' hs => ?_) hcls
    obtain ⟨oL, _, _, hoL, _⟩ := id hn
    refine h _ ⟨I.ok, I.os, I.bare, ⟨fun b o e n hb hx => ?_, fun b o e n hb hx => ?_, I.base.free, fun b o e hx => ?_, I.base.tups, I.base.frzs, I.base.tbls⟩, ⟨_, hn', fun j y v' e1 e2 e3 => ?_⟩, fun y c e => ?_, I.free, I.freeC, fun p hp => ?_, tracked ⟨oL, hoL, I.free⟩ hs, by simpa using I.len⟩ ⟨_, hs, .inl rfl⟩
    · exact (hs.2 b (Nat.ne_of_lt (Nat.lt_of_lt_of_le (Heap.lt_size e) I.ok.above))).trans (I.base.keep b o e n hb hx)
    · obtain ⟨sl, e1⟩ := I.base.slot b o e n hb hx
      exact ⟨sl, (hs.2 b (Nat.ne_of_lt (Nat.lt_of_lt_of_le (Heap.lt_size e) I.ok.above))).trans e1⟩
    · obtain ⟨o', e1⟩ := I.base.there b o e hx
      exact ⟨o', (hs.2 b (Nat.ne_of_lt (Nat.lt_of_lt_of_le (Heap.lt_size e) I.ok.above))).trans e1⟩
    · by_cases hj : j = i
      · subst hj
        rw [hi] at e1; cases e1
        rw [List.getElem?_set_self hiσ] at e2
        cases e2
        exact ⟨u, r, .inl ⟨hk, by simp⟩⟩
      · rw [List.getElem?_set_ne (Ne.symm hj)] at e2
        obtain ⟨u', r', q⟩ := hl j y v' e1 e2 e3
        refine ⟨u', r', ?_⟩
        rcases q with ⟨k, e⟩ | ⟨k, c, e, z⟩
        · refine .inl ⟨k, ?_⟩
          have : y ≠ x := fun e => hj (nodup_ix hN e1 (e ▸ hi))
          simp [this, e]
        · exact .inr ⟨k, c, e, z.sameBut hs (cne y c e)⟩
    · obtain ⟨w', z⟩ := I.cell y c e
      exact ⟨w', z.sameBut hs (cne y c e)⟩
    · obtain ⟨e, n, ne, nf, d⟩ := I.pin p hp
      exact ⟨(hs.2 p.1 ne).trans e, n, ne, nf, d⟩
  · have hfn : X.fn x = true := by
      rcases hf with z | z
      · exact z
      · rw [z] at hk; cases hk
    obtain ⟨c, hc⟩ := I.ok.has x (.inl hk)
    obtain ⟨w', z⟩ := I.cell x c hc
    refine wpAny_storeName_cell I.ok.kind hk hc z (fun h' hc' hs => ?_)
    obtain ⟨oc, hoc, hocd⟩ := id z
    refine h { s with heap := h' } ⟨I.ok, I.os, I.bare, ⟨fun b o e n hb hx => ?_, fun b o e n hb hx => ?_, I.base.free, fun b o e hx => ?_, I.base.tups, I.base.frzs, I.base.tbls⟩, ⟨m, hn.sameBut hs (Ne.symm (cne x c hc)), fun j y v' e1 e2 e3 => ?_⟩, fun y c' e => ?_, I.free, I.freeC, fun p hp => ?_, tracked ⟨oc, hoc, I.freeC x c hc⟩ hs, by simpa using I.len⟩ ⟨c, hs, .inr hc⟩
    · exact (hs.2 b (Nat.ne_of_lt (Nat.lt_of_lt_of_le (Heap.lt_size e) (I.ok.cab x c hfn hc)))).trans (I.base.keep b o e n hb hx)
    · obtain ⟨sl, e1⟩ := I.base.slot b o e n hb hx
      exact ⟨sl, (hs.2 b (Nat.ne_of_lt (Nat.lt_of_lt_of_le (Heap.lt_size e) (I.ok.cab x c hfn hc)))).trans e1⟩
    · obtain ⟨o', e1⟩ := I.base.there b o e hx
      exact ⟨o', (hs.2 b (Nat.ne_of_lt (Nat.lt_of_lt_of_le (Heap.lt_size e) (I.ok.cab x c hfn hc)))).trans e1⟩
    · by_cases hj : j = i
      · subst hj
        rw [hi] at e1; cases e1
        rw [List.getElem?_set_self hiσ] at e2
        cases e2
        exact ⟨u, r, .inr ⟨.inl hk, c, hc, hc'⟩⟩
      · rw [List.getElem?_set_ne (Ne.symm hj)] at e2
        obtain ⟨u', r', q⟩ := hl j y v' e1 e2 e3
        refine ⟨u', r', ?_⟩
        rcases q with q | ⟨k, c', e, z'⟩
        · exact .inl q
        · refine .inr ⟨k, c', e, z'.sameBut hs ?_⟩
          rintro rfl
          exact hj (nodup_ix hN e1 (I.ok.inj _ _ _ e hc ▸ hi))
    · by_cases hcc : c' = c
      · subst hcc; exact ⟨_, hc'⟩
      · obtain ⟨w2, z2⟩ := I.cell y c' e
        exact ⟨w2, z2.sameBut hs hcc⟩
    · obtain ⟨e, n, ne, nf, d⟩ := I.pin p hp
      refine ⟨(hs.2 p.1 ?_).trans e, n, ne, nf, d⟩
      intro q
      rw [q, hoc] at e
      have q' : oc = p.2 := Option.some.inj e
      exact d w' (by rw [← q']; exact hocd)
theorem store_ok {M : Model} {A : Around} {E : Value → Shared → Prop} {i : Nat} {x : Str} {v : V} {u : Value} {Q : Unit → Shared → Prop} (I : Inv X pins σ H s) (hN : X.N.Nodup) (hi : X.N[i]? = some x) (hx : Loc X.env.scope x) (r : RelV v u)
    (h : ∀ s', Inv X pins (σ.set i (some v)) H s' → Q () s') (hf : X.fn x = true ∨ X.env.scope.names.lookup x = some .local := by first | exact .inl rfl | exact .inr rfl | assumption) : wpAny M A (storeName X.env x u) Q E s :=
  store_ok2 I hN hi hx r (fun s' I' _ => h s' I') hf
theorem Inv.call' {s' : Shared} {ch : List Addr} (I : Inv X pins σ H s) (ho : s'.os = s.os) (u : Un (frs X.stack) ch H H' s.heap s'.heap) (hok : HOk X.prog X.w H' s'.heap) (hg : AllBare s'.gens)
    (hch : ∀ b ∈ ch, (b ∈ X.ex ∨ X.s₀.heap.objs.size ≤ b) ∧ b ≠ X.env.locals ∧ (∀ x c, X.env.cells.lookup x = some c → c ≠ b) ∧ ∀ p ∈ X.pn ++ pins, p.1 ≠ b) : Inv X pins σ H' s' := by
  obtain ⟨h', g', d', t', o'⟩ := s'
  have e : o' = s.os := ho
  subst e
  exact I.call (g' := g') (t' := t') (d' := d') u hok hg hch
end

abbrev XK := Value → Option Addr → Hp → Prop
abbrev St := List (Option V)
abbrev VK := V → Hp → Prop
abbrev TE := St → Hp → VK → Prop
abbrev TT := St → Hp → (Bool → Hp → Prop) → Prop
abbrev TA := St → Hp → (List V → Hp → Prop) → Prop
structure Ends where
  nx : St → Hp → Prop
  rt : VK
  bk : St → Hp → Prop := fun _ _ => False
  ct : St → Hp → Prop := fun _ _ => False
abbrev TS := Ends → St → Hp → Prop

def EP (X : Cx) (pins : List (Addr × Obj)) (σ : St) (Q : VK) (u : Value) (s' : Shared) : Prop := ∃ v H', Inv X pins σ H' s' ∧ RelV v u ∧ Q v H'
def TP (X : Cx) (pins : List (Addr × Obj)) (σ : St) (Q : Bool → Hp → Prop) (b : Bool) (s' : Shared) : Prop := ∃ H', Inv X pins σ H' s' ∧ Q b H'
def AP (X : Cx) (pins : List (Addr × Obj)) (σ : St) (Q : List V → Hp → Prop) (us : List Value) (s' : Shared) : Prop := ∃ vs H', Inv X pins σ H' s' ∧ Vals vs us ∧ Q vs H'
def SP (X : Cx) (pins : List (Addr × Obj)) (D : Ends) (f : Flow) (s' : Shared) : Prop :=
  match f with
  | .next => ∃ σ' H', Inv X pins σ' H' s' ∧ D.nx σ' H'
  | .brk => ∃ σ' H', Inv X pins σ' H' s' ∧ D.bk σ' H'
  | .cont => ∃ σ' H', Inv X pins σ' H' s' ∧ D.ct σ' H'
  | .ret u => ∃ v σ' H', Inv X pins σ' H' s' ∧ RelV v u ∧ D.rt v H'

def PE (X : Cx) (e : Expr) (t : TE) : Prop :=
  ∀ (pins : List (Addr × Obj)) (s : Shared) (σ : St) (H : Hp) (Q : VK), Inv X pins σ H s → t σ H Q → wpAny (model X.prog X.w) X.A (eval e X.env) (EP X pins σ Q) X.xe s
def PT (X : Cx) (e : Expr) (t : TT) : Prop :=
  ∀ (pins : List (Addr × Obj)) (s : Shared) (σ : St) (H : Hp) (Q : Bool → Hp → Prop), Inv X pins σ H s → t σ H Q → wpAny (model X.prog X.w) X.A (isTrue e X.env (eval e X.env)) (TP X pins σ Q) X.xe s
def PW (X : Cx) (e : Expr) (t : TT) : Prop :=
  ∀ (whole : Sem Value) (pins : List (Addr × Obj)) (s : Shared) (σ : St) (H : Hp) (Q : Bool → Hp → Prop), Inv X pins σ H s → t σ H Q → wpAny (model X.prog X.w) X.A (isTrue e X.env whole) (TP X pins σ Q) X.xe s
theorem PW.pt {X : Cx} {e : Expr} {t : TT} (h : PW X e t) : PT X e t := h _
def PA (X : Cx) (es : List Expr) (t : TA) : Prop :=
  ∀ (pos : Pos) (pins : List (Addr × Obj)) (s : Shared) (σ : St) (H : Hp) (Q : List V → Hp → Prop), Inv X pins σ H s → t σ H Q → wpAny (model X.prog X.w) X.A (spliced (backTo pos (starEach es X.env))) (AP X pins σ Q) X.xe s
def PS (X : Cx) (st : Stmt) (t : TS) : Prop :=
  ∀ (pins : List (Addr × Obj)) (s : Shared) (σ : St) (H : Hp) (D : Ends), Inv X pins σ H s → t D σ H → wpAny (model X.prog X.w) X.A (exec st X.env) (SP X pins D) X.xe s
def PSs (X : Cx) (st : List Stmt) (t : TS) : Prop :=
  ∀ (pins : List (Addr × Obj)) (s : Shared) (σ : St) (H : Hp) (D : Ends), Inv X pins σ H s → t D σ H → wpAny (model X.prog X.w) X.A (execs st X.env) (SP X pins D) X.xe s
theorem thn {α : Type} {t : Sem α} {Q Q' : α → Shared → Prop} {M : Model} {A : Around} {E : Value → Shared → Prop} {s : Shared} (h : wpAny M A t Q E s) (hQ : ∀ a s, Q a s → Q' a s) : wpAny M A t Q' E s := wpAny_mono h hQ fun _ _ x => x
end L2

namespace L2
open PySem PySem.Spec PyProof.Rows
section
variable {X : Cx}

def tVar (i : Nat) : TE := fun σ H Q => ∃ v, σ[i]? = some (some v) ∧ Q v H
def tC (v : V) : TE := fun _ H Q => Q v H
theorem pe_var {i : Nat} {x : Str} {pos : Pos} (hN : X.N[i]? = some x) (hv : Vis X.env.scope x) (hd : (x == ("__debug__" : Str)) = false := by decide) (hcd : (x == ("__classdict__" : Str)) = false := by decide) : PE X (.Name x pos) (tVar i) := by
  intro pins s σ H Q I h
  obtain ⟨v, e, h⟩ := h
  obtain ⟨m, hn, hl⟩ := I.loc
  obtain ⟨u, r, l⟩ := hl i x v hN e hv
  have fin : EP X pins σ Q u s := ⟨v, H, I, r, h⟩
  rcases l with ⟨hk, hm⟩ | ⟨hk, c, hc, hcell⟩
  · exact wpAny_Name (wpAny_loadName_local I.ok.kind hk hn hm fin) hd
  · rcases hk with hk | hk
    · exact wpAny_Name (wpAny_loadName_cell I.ok.kind hk hc hcell fin) hd
    · exact wpAny_Name (wpAny_loadName_free I.ok.kind hk hc hcell fin hcd) hd
theorem pe_int {i j pos} : PE X (.Constant (.int i) j pos) (tC (.int i)) := fun _ _ _ H _ I h => wpAny_Constant_int ⟨.int i, H, I.tok _, ⟨_, rfl⟩, h⟩
theorem pe_bl {b j pos} : PE X (.Constant (.bool b) j pos) (tC (.bl b)) := fun _ _ _ H _ I h => Constant_bool ⟨.bl b, H, I, rfl, h⟩
def Gl (X : Cx) (x : Str) : Prop := X.env.kindOf x = some .globalImplicit
theorem ld_glob {E : Value → Shared → Prop} {pins : List (Addr × Obj)} {s : Shared} {σ : St} {H : Hp} {x : Str} {u : Value} {pos : Pos} {Q : Value → Shared → Prop} (I : Inv X pins σ H s) (hg : Gl X x) (hm : X.mg x = some u) (h : Q u s)
    (hd : (x == ("__debug__" : Str)) = false := by decide) : wpAny (model X.prog X.w) X.A (eval (.Name x pos) X.env) Q E s :=
  Calls.Name_function_global I.ok.kind hg (Calls.loadGlobal_global (by rw [I.ok.glob]; exact I.mod.glob.keeps I.bk) hm h) hd
theorem ld_blt {E : Value → Shared → Prop} {pins : List (Addr × Obj)} {s : Shared} {σ : St} {H : Hp} {x : Str} {u : Value} {pos : Pos} {Q : Value → Shared → Prop} (I : Inv X pins σ H s) (hg : Gl X x) (hm : X.mg x = none) (hv : bootBuiltins x = some u) (h : Q u s)
    (hn : x ≠ "__name__" := by decide) (hd : (x == ("__debug__" : Str)) = false := by decide) : wpAny (model X.prog X.w) X.A (eval (.Name x pos) X.env) Q E s := by
  obtain ⟨mb, h1, h2⟩ := I.mod.blt
  exact Calls.Name_function_global I.ok.kind hg (Calls.loadGlobal_builtin (by rw [I.ok.glob]; exact I.mod.glob.keeps I.bk) hm (by rw [I.ok.blt]; exact h1.keeps I.bk) ((h2 x hn).trans hv) h) hd
theorem pe_glob {x : Str} {v : V} {u : Value} {pos : Pos} (hg : Gl X x) (hm : X.mg x = some u) (r : RelV v u) (hd : (x == ("__debug__" : Str)) = false := by decide) : PE X (.Name x pos) (tC v) :=
  fun _ _ _ H _ I h => ld_glob I hg hm ⟨v, H, I, r, h⟩ hd
theorem pe_bltn {x : Str} {v : V} {u : Value} {pos : Pos} (hg : Gl X x) (hm : X.mg x = none) (hv : bootBuiltins x = some u) (r : RelV v u) (hn : x ≠ "__name__" := by decide) (hd : (x == ("__debug__" : Str)) = false := by decide) : PE X (.Name x pos) (tC v) :=
  fun _ _ _ H _ I h => ld_blt I hg hm hv ⟨v, H, I, r, h⟩ hn hd

variable {a b : Expr} {ta tb : TE} {pos : Pos}
def tB (t : TE) : TT := fun σ H Q => t σ H fun x H1 => ∃ c, x = .bl c ∧ Q c H1
theorem pt_val {e : Expr} {t : TE} (h : PE X e t) (he : ∀ whole, isTrue e X.env whole = (do let v ← whole; standAt e.pos; holding [v] (truthy v)) := by intro _; rfl) : PT X e (tB t) := by
  intro pins s σ H Q I hw
  refine isTrue_plain (thn (h pins s σ H _ I hw) fun v s1 ⟨x, H1, I1, r1, q1⟩ => ?_) (he _)
  obtain ⟨d, rfl, q⟩ := q1
  cases r1
  exact wpAny_truthy_bool ⟨H1, I1, q⟩

variable {tA tB' : TT} {rest : List Expr}
def tOr (t u : TT) : TT := fun σ H Q => t σ H fun c H1 => if c = true then Q true H1 else u σ H1 Q
def tNot (t : TT) : TT := fun σ H Q => t σ H fun c H1 => Q (!c) H1
theorem pw_or1 (ha : PT X a tA) : PW X (.BoolOp .Or [a] pos) tA := by
  intro wh pins s σ H Q I h
  refine isTrue_or (thn (ha pins s σ H Q I h) fun c s1 e => ?_)
  cases c with
  | false => exact isTrue_or_nil e
  | true => exact e
theorem pw_or (ha : PT X a tA) (hb : PW X (.BoolOp .Or (b :: rest) pos) tB') : PW X (.BoolOp .Or (a :: b :: rest) pos) (tOr tA tB') := by
  intro wh pins s σ H Q I h
  refine isTrue_or (thn (ha pins s σ H _ I h) fun c s1 ⟨H1, I1, q1⟩ => ?_)
  cases c with
  | true => exact ⟨H1, I1, q1⟩
  | false => exact hb wh pins s1 σ H1 Q I1 q1
theorem pt_not (ha : PT X a tA) : PT X (.UnaryOp .Not a pos) (tNot tA) := by
  intro pins s σ H Q I h
  exact isTrue_not (ha pins s σ H (fun c H1 => Q (!c) H1) I h)
def tAndV (ta tb : TE) : TE := fun σ H Q => ta σ H fun x H1 => ∃ c, x = .bl c ∧ if c = true then tb σ H1 Q else Q (.bl false) H1
def tNotV (ta : TE) : TE := fun σ H Q => ta σ H fun x H1 => ∃ c, x = .bl c ∧ Q (.bl (!c)) H1
theorem pe_one {op} {t : TE} (h : PE X a t) : PE X (.BoolOp op [a] pos) t := fun pins s σ H Q I hw => BoolOp_one (h pins s σ H Q I hw)
theorem pe_and (ha : PE X a ta) (hb : PE X (.BoolOp .And (b :: rest) pos) tb) : PE X (.BoolOp .And (a :: b :: rest) pos) (tAndV ta tb) := by
  intro pins s σ H Q I h
  refine BoolOp_and (thn (ha pins s σ H _ I h) fun v s1 ⟨x, H1, I1, r1, q1⟩ => ?_)
  obtain ⟨c, rfl, q1⟩ := q1
  cases r1
  refine wpAny_truthy_bool ?_
  cases c with
  | true => exact hb pins s1 σ H1 Q I1 q1
  | false => exact ⟨.bl false, H1, I1, rfl, q1⟩
theorem pe_not (ha : PE X a ta) : PE X (.UnaryOp .Not a pos) (tNotV ta) := by
  intro pins s σ H Q I h
  refine UnaryOp_ (thn (ha pins s σ H _ I h) fun v s1 ⟨x, H1, I1, r1, q1⟩ => ?_)
  obtain ⟨c, rfl, q1⟩ := q1
  cases r1
  exact not_of (wpAny_truthy_bool ⟨.bl (!c), H1, I1, rfl, q1⟩)
def tIf (t : TT) (ta tb : TE) : TE := fun σ H Q => t σ H fun c H1 => if c = true then ta σ H1 Q else tb σ H1 Q
theorem pe_ifExp {c : Expr} (hc : PT X c tA) (ha : PE X a ta) (hb : PE X b tb) : PE X (.IfExp c a b pos) (tIf tA ta tb) := by
  intro pins s σ H Q I h
  refine wpAny_IfExp (thn (hc pins s σ H _ I h) fun d s1 ⟨H1, I1, q1⟩ => ?_)
  cases d with
  | true => exact ha pins s1 σ H1 Q I1 q1
  | false => exact hb pins s1 σ H1 Q I1 q1
end
end L2

namespace L2
open PySem PySem.Spec PyProof.Rows

def SqL (K : PySem.W.Frag) (H : Hp) (a : Addr) (xs : List V) : Prop :=
  Rd H a (.lst xs) ∨
    ∃ (o : Obj) (its : Array Value) (n : Nat), K.lookup a = some o ∧ o.cls = .type "list" ∧ o.dict = none ∧ o.data = .seq its n ∧ its.size ≤ sizeLine ∧ Vals xs its.toList
def SqT (K : PySem.W.Frag) (H : Hp) (a : Addr) (xs : List V) : Prop :=
  Rd H a (.tup xs) ∨
    ∃ (o : Obj) (its : Array Value) (n : Nat), K.lookup a = some o ∧ o.cls = .type "tuple" ∧ o.data = .seq its n ∧ its.size ≤ sizeLine ∧ Vals xs its.toList
def absV : Value → Option V
  | .none => some .non
  | .bool b => some (.bl b)
  | .int i _ => some (.int i)
  | .str x _ => some (.str x)
  | .bytes b _ => some (.byt b)
  | .float b _ => some (.flt b)
  | .ref a => some (.ref a)
  | .type n => some (.ty n)
  | _ => none
theorem RelV.abs {x : V} {u : Value} (r : RelV x u) : absV u = some x := by
  cases x with
  | non => cases r; rfl
  | bl _ => cases r; rfl
  | int _ => obtain ⟨t, rfl⟩ := r; rfl
  | str _ => obtain ⟨t, rfl⟩ := r; rfl
  | byt _ => obtain ⟨t, rfl⟩ := r; rfl
  | flt _ => obtain ⟨t, rfl⟩ := r; rfl
  | ref _ => cases r; rfl
  | ty _ => cases r; rfl
theorem RelV.inj {x y : V} {u : Value} (r : RelV x u) (q : RelV y u) : x = y := Option.some.inj (r.abs.symm.trans q.abs)
theorem Vals.inj : ∀ {xs ys : List V} {us : List Value}, Vals xs us → Vals ys us → xs = ys
  | _, _, _, .nil, .nil => rfl
  | _, _, _, .cons r t, .cons r' t' => by rw [r.inj r', Vals.inj t t']
section
variable {X : Cx} {pins : List (Addr × Obj)} {σ : St} {H : Hp} {s : Shared} {a : Addr} {xs ys : List V}
theorem SqL.of {K : PySem.W.Frag} (h : H a = some (.lst xs)) : SqL K H a xs := .inl (.inl h)
theorem SqT.of {K : PySem.W.Frag} (h : H a = some (.tup xs)) : SqT K H a xs := .inl (.inl h)
theorem Inv.list (I : Inv X pins σ H s) (h : SqL X.K H a xs) : ∃ its : List Value, Vals xs its ∧ PlainL s.heap a its.toArray ∧ xs.length ≤ sizeLine := by
  rcases h with h | ⟨o, its, n, hk, hc, hd, hs, hz, r⟩
  · obtain ⟨z, its, n, r, e⟩ := h.ok I.hok
    exact ⟨its, r, ⟨_, n, e, rfl, rfl, rfl⟩, z⟩
  · refine ⟨its.toList, r, ⟨o, n, I.kIn a o hk, hc, hd, by simpa using hs⟩, ?_⟩
    have e := r.length
    simp only [Array.length_toList] at e
    omega
theorem Inv.tuple (I : Inv X pins σ H s) (h : SqT X.K H a xs) : ∃ its : List Value, Vals xs its ∧ IsTup s.heap a its.toArray ∧ xs.length ≤ sizeLine := by
  rcases h with h | ⟨o, its, n, hk, hc, hs, hz, r⟩
  · obtain ⟨z, its, r, p⟩ := h.ok I.hok
    exact ⟨its, r, p, z⟩
  · refine ⟨its.toList, r, ⟨o, I.kIn a o hk, hc, n, by simpa using hs⟩, ?_⟩
    have e := r.length
    simp only [Array.length_toList] at e
    omega
theorem Inv.list_inj (I : Inv X pins σ H s) (h : SqL X.K H a xs) (h' : SqL X.K H a ys) : xs = ys := by
  obtain ⟨its, r, ⟨o, n, e, _, _, d⟩, _⟩ := I.list h
  obtain ⟨its', r', ⟨o', n', e', _, _, d'⟩, _⟩ := I.list h'
  rw [e] at e'; cases e'
  rw [d] at d'
  injection d' with d1 _
  have : its = its' := by simpa using congrArg Array.toList d1
  subst this
  exact r.inj r'
theorem Inv.tuple_inj (I : Inv X pins σ H s) (h : SqT X.K H a xs) (h' : SqT X.K H a ys) : xs = ys := by
  obtain ⟨its, r, ⟨o, e, _, n, d⟩, _⟩ := I.tuple h
  obtain ⟨its', r', ⟨o', e', _, n', d'⟩, _⟩ := I.tuple h'
  rw [e] at e'; cases e'
  rw [d] at d'
  injection d' with d1 _
  have : its = its' := by simpa using congrArg Array.toList d1
  subst this
  exact r.inj r'
end

abbrev Cx.wish (X : Cx) (E : Value → Shared → Prop) : Cx := { X with xe := E }
abbrev Cx.nox (X : Cx) : Cx := X.wish fun _ _ => False
theorem Cx.Ok.wish {X : Cx} (ok : X.Ok) (E : Value → Shared → Prop) : (X.wish E).Ok :=
  ⟨ok.mod, ok.kind, ok.glob, ok.blt, ok.above, ok.inj, ok.has, ok.cab, ok.hd, ok.frames, ok.stk, ok.exf, ok.bs, ok.bsz, ok.noex, ok.exfs, ok.funs, ok.frf⟩
theorem Cx.Ok.unwish {X : Cx} {E : Value → Shared → Prop} (ok : (X.wish E).Ok) : X.Ok :=
  ⟨ok.mod, ok.kind, ok.glob, ok.blt, ok.above, ok.inj, ok.has, ok.cab, ok.hd, ok.frames, ok.stk, ok.exf, ok.bs, ok.bsz, ok.noex, ok.exfs, ok.funs, ok.frf⟩
section
variable {X : Cx} {pins : List (Addr × Obj)} {σ : St} {H : Hp} {s : Shared} {E : Value → Shared → Prop}
theorem Inv.wish (I : Inv X pins σ H s) (E : Value → Shared → Prop) : Inv (X.wish E) pins σ H s := ⟨I.ok.wish E, I.os, I.bare, I.base, I.loc, I.cell, I.free, I.freeC, I.pin, I.hok, I.len⟩
theorem Inv.unwish (I : Inv (X.wish E) pins σ H s) : Inv X pins σ H s := ⟨I.ok.unwish, I.os, I.bare, I.base, I.loc, I.cell, I.free, I.freeC, I.pin, I.hok, I.len⟩
theorem SP.unwish {D : Ends} {f : Flow} {s' : Shared} (h : SP (X.wish E) pins D f s') : SP X pins D f s' := by
  cases f with
  | next => obtain ⟨σ', H', I, q⟩ := h; exact ⟨σ', H', I.unwish, q⟩
  | brk => obtain ⟨σ', H', I, q⟩ := h; exact ⟨σ', H', I.unwish, q⟩
  | cont => obtain ⟨σ', H', I, q⟩ := h; exact ⟨σ', H', I.unwish, q⟩
  | ret u => obtain ⟨v, σ', H', I, r, q⟩ := h; exact ⟨v, σ', H', I.unwish, r, q⟩
theorem PE.nox {e : Expr} {t : TE} (h : PE X.nox e t) : PE X e t := fun pins s σ H Q I hw =>
  wpAny_mono (h pins s σ H Q (I.wish _) hw) (fun _ _ ⟨v, H', I', r, q⟩ => ⟨v, H', I'.unwish, r, q⟩) fun _ _ z => False.elim z
theorem PT.nox {e : Expr} {t : TT} (h : PT X.nox e t) : PT X e t := fun pins s σ H Q I hw =>
  wpAny_mono (h pins s σ H Q (I.wish _) hw) (fun _ _ ⟨H', I', q⟩ => ⟨H', I'.unwish, q⟩) fun _ _ z => False.elim z
theorem PSs.nox {st : List Stmt} {t : TS} (h : PSs X.nox st t) : PSs X st t := fun pins s σ H D I hw =>
  wpAny_mono (h pins s σ H D (I.wish _) hw) (fun _ _ q => q.unwish) fun _ _ z => False.elim z
end

section
variable {X : Cx} {st : Stmt} {rest : List Stmt} {t u : TS} {e : Expr} {te : TE} {pos : Pos}
def tNext : TS := fun D σ H => D.nx σ H
def tSeq (t u : TS) : TS := fun D σ H => t { D with nx := u D } σ H
theorem pss_nil : PSs X [] tNext := fun _ _ σ H _ I h => wpAny_execs_nil ⟨σ, H, I, h⟩
theorem pss_cons (h1 : PS X st t) (h2 : PSs X rest u) : PSs X (st :: rest) (tSeq t u) := by
  intro pins s σ H D I h
  refine wpAny_execs_cons (thn (h1 pins s σ H { D with nx := u D } I h) fun f s1 q => ?_)
  cases f with
  | next =>
    obtain ⟨σ', H', I', q⟩ := q
    exact h2 pins s1 σ' H' D I' q
  | ret v => exact q
  | brk => exact q
  | cont => exact q
theorem pss_one (h1 : PS X st t) : PSs X [st] t := by
  intro pins s σ H D I h
  refine wpAny_execs_cons (thn (h1 pins s σ H D I h) fun f s1 q => ?_)
  cases f with
  | next => exact wpAny_execs_nil q
  | ret v => exact q
  | brk => exact q
  | cont => exact q
theorem Inv.quiet {pins : List (Addr × Obj)} {σ : St} {H : Hp} {s : Shared} (I : Inv X pins σ H s) : interactive X.env = false := by simp [interactive, I.ok.kind]
def tDrop (te : TE) : TS := fun D σ H => te σ H fun _ H1 => D.nx σ H1
theorem ps_expr (he : PE X e te) (hs : swapsWith e none pos.line X.env = pure false := by rfl) : PS X (.Expr e pos) (tDrop te) := by
  intro pins s σ H D I h
  exact wpAny_Expr_any (thn (he pins s σ H _ I h) fun v s1 ⟨x, H1, I1, r1, q1⟩ => ⟨σ, H1, I1, q1⟩) I.quiet hs
def tRet (te : TE) : TS := fun D σ H => te σ H D.rt
theorem ps_ret (he : PE X e te) : PS X (.Return (some e) pos) (tRet te) := by
  intro pins s σ H D I h
  exact wpAny_Return_some (thn (he pins s σ H _ I h) fun v s1 ⟨x, H1, I1, r1, q1⟩ => ⟨x, σ, H1, I1, r1, q1⟩)
def tIfS (c : TT) (t u : TS) : TS := fun D σ H => c σ H fun b H1 => if b = true then t D σ H1 else u D σ H1
theorem ps_if {c : Expr} {a b : List Stmt} {tc : TT} (hc : PT X c tc) (ha : PSs X a t) (hb : PSs X b u) : PS X (.If c a b pos) (tIfS tc t u) := by
  intro pins s σ H D I h
  refine wpAny_If (thn (hc pins s σ H _ I h) fun d s1 ⟨H1, I1, q1⟩ => ?_)
  cases d with
  | true => exact ha pins s1 σ H1 D I1 q1
  | false => exact hb pins s1 σ H1 D I1 q1
end

abbrev TG := V → St → Hp → (St → Hp → Prop) → Prop
def PG (X : Cx) (target : Expr) (t : TG) : Prop :=
  ∀ (pins : List (Addr × Obj)) (s : Shared) (σ : St) (H : Hp) (v : V) (u : Value) (Q : St → Hp → Prop), Inv X pins σ H s → RelV v u → t v σ H Q →
    wpAny (model X.prog X.w) X.A (assign target X.env u) (fun _ s' => ∃ σ' H', Inv X pins σ' H' s' ∧ Q σ' H') X.xe s
section
variable {X : Cx} {pos : Pos}
def gName (i : Nat) : TG := fun v σ H Q => Q (σ.set i (some v)) H
theorem pg_name {i : Nat} {x : Str} (hN : X.N.Nodup) (hi : X.N[i]? = some x) (hx : Loc X.env.scope x) (hf : X.fn x = true ∨ X.env.scope.names.lookup x = some .local := by first | exact .inl rfl | exact .inr rfl | assumption) : PG X (.Name x pos) (gName i) := by
  intro pins s σ H v u Q I r h
  exact wpAny_assign_Name (store_ok I hN hi hx r (fun s' I' => ⟨_, H, I', h⟩) hf)
def tAsg (te : TE) (g : TG) : TS := fun D σ H => te σ H fun x H1 => g x σ H1 D.nx
theorem ps_set {i : Nat} {x : Str} {e : Expr} {te : TE} {pos' : Pos} (hN : X.N.Nodup) (hi : X.N[i]? = some x) (hx : Loc X.env.scope x) (he : PE X e te) (hs : swapsWith e (some (.Name x pos')) pos.line X.env = pure false := by rfl) (hf : X.fn x = true ∨ X.env.scope.names.lookup x = some .local := by first | exact .inl rfl | exact .inr rfl | assumption) :
    PS X (.Assign [.Name x pos'] e pos) (tAsg te (gName i)) := by
  intro pins s σ H D I h
  refine wpAny_Assign_Name (thn (he pins s σ H _ I h) fun v s1 ⟨y, H1, I1, r1, q1⟩ => ?_) hs
  exact store_ok I1 hN hi hx r1 (fun s2 I2 => ⟨_, H1, I2, q1⟩) hf
def tPar (i j : Nat) (ta : TA) : TS := fun D σ H => ta σ H fun vs H1 => ∃ v w, vs = [v, w] ∧ D.nx ((σ.set i (some v)).set j (some w)) H1
theorem ps_par {i j : Nat} {x y : Str} {a b : Expr} {ta : TA} {px py pt : Pos} {kt k2 pt2} (hc : X.calm = true) (hN : X.N.Nodup) (hi : X.N[i]? = some x) (hj : X.N[j]? = some y) (hij : i ≠ j)
    (hx : X.env.scope.names.lookup x = some .local) (hy : X.env.scope.names.lookup y = some .local) (ha : PA X [a, b] ta)
    (hw : swappedStores [.Tuple [.Name x px, .Name y py] kt pt] (.Tuple [a, b] k2 pt2) X.env = pure (some [x, y]))
    (hs : swapsWithSole [.Tuple [.Name x px, .Name y py] kt pt] (.Tuple [a, b] k2 pt2) pos.line X.env = pure false := by rfl) :
    PS X (.Assign [.Tuple [.Name x px, .Name y py] kt pt] (.Tuple [a, b] k2 pt2) pos) (tPar i j ta) := by
  intro pins s σ H D I h
  rw [exec_Assign_arm]
  refine wpAny_bind (wpAny_standAt ?_)
  rw [hs]
  refine wpAny_bind (wpAny_pure ?_)
  rw [if_neg (by decide)]
  refine wpAny_bind (Tuple_ (thn (ha _ pins s σ H _ I h) fun us s1 ⟨vs, H1, I1, r1, q1⟩ => ?_))
  obtain ⟨v, w, e1, q1⟩ := q1
  subst e1
  obtain ⟨u1, u2, rfl, rv, rw'⟩ : ∃ u1 u2, us = [u1, u2] ∧ RelV v u1 ∧ RelV w u2 := by
    cases r1 with
    | cons p q =>
      cases q with
      | cons p' q' =>
        cases q'
        exact ⟨_, _, rfl, p, p'⟩
  refine wpAny_newObj_type ?_ (by show 2 ≤ sizeLine; decide)
  have I2 : Inv X pins σ H1 { s1 with heap := s1.heap.push { cls := .type "tuple", data := .seq [u1, u2].toArray } } := I1.kept (t' := s1.toks) fun b o e => Heap.get?_push_of_some _ e
  rw [hw]
  refine wpAny_bind (wpAny_pure ?_)
  show wpAny (model X.prog X.w) X.A (do rule "assign.swapped-stores"; let items ← unpackItems (.ref s1.heap.objs.size) 2 none; assignInOrder [fun v => bindName X.env y v, fun v => bindName X.env x v] items.reverse; pure Flow.next) _ _ _
  refine wpAny_bind (wpAny_rule (wpAny_bind (unpackItems_tuple (items := #[u1, u2]) (I.ok.hd hc) (IsTup.new s1.heap _) fun h' hx' => ?_)))
  have I3 := I2.kept (h' := h') (t' := s1.toks) fun b o e => hx' b o (Nat.ne_of_lt (Heap.lt_size e)) e
  show wpAny _ _ (assignInOrder [fun v => bindName X.env y v, fun v => bindName X.env x v] [u2, u1] >>= fun _ => pure Flow.next) _ _ _
  refine wpAny_bind (assignInOrder_cons (wpAny_bindName (store_ok I3 hN hj (.inl hy) rw' (fun s2 I4 => ?_) (.inr hy))))
  refine assignInOrder_cons (wpAny_bindName (store_ok I4 hN hi (.inl hx) rv (fun s3 I5 => assignInOrder_nil (wpAny_pure ?_)) (.inr hx)))
  rw [List.set_comm _ _ (Ne.symm hij)] at I5
  exact ⟨_, H1, I5, q1⟩
end

section
variable {X : Cx} {pos : Pos}
def tWhile (c : TT) (tb : TS) : TS := fun D σ H => ∃ W : Nat → St → Hp → Prop, (∃ m, W m σ H) ∧ ∀ m σ H, W m σ H →
  c σ H fun b H1 => if b = true then ∃ N : St → Hp → Prop, (∀ σ' H', N σ' H' → ∃ m', m' < m ∧ W m' σ' H') ∧ tb { D with nx := N, ct := N, bk := D.nx } σ H1 else D.nx σ H1
theorem ps_while {c : Expr} {body : List Stmt} {tc : TT} {tb : TS} (hp : PassesOwn (model X.prog X.w) X.A X.env X.xe) (hc : PT X c tc) (hb : PSs X body tb) : PS X (.While c body [] pos) (tWhile tc tb) := by
  intro pins s σ H D I h
  obtain ⟨W, ⟨m0, w0⟩, turn⟩ := h
  refine wpAny_While (codeAny_whileLoop (fun n s' => ∃ σ' H', Inv X pins σ' H' s' ∧ W n σ' H') ?_ m0 ⟨σ, H, I, w0⟩)
  rintro n s1 ⟨σ1, H1, I1, w1⟩
  refine wpAny_passesOwn hp (thn (hc pins s1 σ1 H1 _ I1 (turn n σ1 H1 w1)) fun b s2 ⟨H2, I2, q2⟩ => ?_)
  cases b with
  | true =>
    obtain ⟨N, hN, q2⟩ := q2
    rw [if_pos rfl]
    refine wpAny_passesOwn hp (thn (hb pins s2 σ1 H2 _ I2 q2) fun f s3 q3 => ?_)
    cases f with
    | next =>
      obtain ⟨σ3, H3, I3, n3⟩ := q3
      obtain ⟨m', hm, w3⟩ := hN σ3 H3 n3
      exact ⟨m', hm, σ3, H3, I3, w3⟩
    | cont =>
      obtain ⟨σ3, H3, I3, n3⟩ := q3
      obtain ⟨m', hm, w3⟩ := hN σ3 H3 n3
      exact ⟨m', hm, σ3, H3, I3, w3⟩
    | brk => exact q3
    | ret v => exact q3
  | false =>
    rw [if_neg Bool.false_ne_true]
    exact wpAny_execs_nil ⟨σ1, H2, I2, q2⟩
end

structure It where
  go : Nat → Hp → Prop
  yld : Nat → Hp → V → Hp → Prop
  stop : Nat → Hp → Prop
def FpOk (X : Cx) (pins : List (Addr × Obj)) (H : Hp) (b : Addr) : Prop :=
  H b = none ∧ b ≠ X.env.locals ∧ b ∉ X.fs ∧ (b ∈ X.ex ∨ X.s₀.heap.objs.size ≤ b) ∧ (∀ x c, X.env.cells.lookup x = some c → c ≠ b) ∧ ∀ p ∈ X.pn ++ pins, p.1 ≠ b
theorem Inv.fpOk {X : Cx} {pins : List (Addr × Obj)} {σ : St} {H H' : Hp} {s : Shared} {b : Addr} (I : Inv X pins σ H s) (hb : s.heap.objs.size ≤ b) (hn : H' b = none) : FpOk X pins H' b := by
  refine ⟨hn, Nat.ne_of_gt (Nat.lt_of_lt_of_le I.lt hb), I.nofs hb, .inr (Nat.le_trans I.sz hb), fun x c e z => ?_, fun p hp z => ?_⟩
  · obtain ⟨v, q⟩ := I.cell x c e
    exact absurd (Nat.lt_of_lt_of_le q.lt (by rw [z]; exact hb)) (Nat.lt_irrefl _)
  · exact absurd (Nat.lt_of_lt_of_le (Heap.lt_size (I.pin p hp).1) (by rw [z]; exact hb)) (Nat.lt_irrefl _)
structure Turn (P : Program) (w : World) (K : PySem.W.Frag) (tg : Expr) (J : It) (fp : List Addr) (it : Addr) (tn : Nat → Heap → Prop) : Prop where
  mem : it ∈ fp
  obj : ∀ i h, tn i h → ∀ b ∈ fp, ∃ o, h.get? b = some o ∧ ∀ v, o.data ≠ .cell v
  keep : ∀ i h h', tn i h → (∀ b ∈ fp, ∀ o, h.get? b = some o → h'.get? b = some o) → tn i h'
  item : ∀ (X : Cx), X.prog = P → X.w = w → X.K = K → X.calm = true → ∀ (i : Nat) (pins : List (Addr × Obj)) (s : Shared) (σ : St) (H : Hp) (E : Value → Shared → Prop), Inv X pins σ H s → (∀ b ∈ fp, FpOk X pins H b) → tn i s.heap → J.go i H →
    wpAny (model P w) X.A (pyNext (.ref it)) (fun r s1 => ∃ u, r = some u ∧
      wpAny (model P w) X.A (letOwnedTupleGo tg (.ref it) u) (fun _ s2 => ∃ x H', Inv X pins σ H' s2 ∧ RelV x u ∧ J.yld i H x H' ∧ tn (i + 1) s2.heap ∧ ∀ b ∈ fp, H' b = none) E s1) E s
  done : ∀ (X : Cx), X.prog = P → X.w = w → X.K = K → X.calm = true → ∀ (i : Nat) (pins : List (Addr × Obj)) (s : Shared) (σ : St) (H : Hp) (E : Value → Shared → Prop), Inv X pins σ H s → (∀ b ∈ fp, FpOk X pins H b) → tn i s.heap → J.stop i H →
    wpAny (model P w) X.A (pyNext (.ref it)) (fun r s1 => r = none ∧ Inv X pins σ H s1) E s
  self : ∀ (A : Around) (i : Nat) (s : Shared) (Q : Value → Shared → Prop) (E : Value → Shared → Prop), tn i s.heap → Q (.ref it) s → wpAny (model P w) A (pyIter (.ref it)) Q E s
abbrev TI := St → Hp → (It → Hp → Prop) → Prop
def PIE (X : Cx) (pins : List (Addr × Obj)) (σ : St) (tg : Expr) (R : It → Hp → Prop) (itv : Value) (s2 : Shared) : Prop :=
  ∃ (it : Addr) (fp : List Addr) (tn : Nat → Heap → Prop) (J : It) (H' : Hp), itv = .ref it ∧ Inv X pins σ H' s2 ∧ Turn X.prog X.w X.K tg J fp it tn ∧ tn 0 s2.heap ∧ (∀ b ∈ fp, FpOk X pins H' b) ∧ R J H'
def PI (X : Cx) (tg iter : Expr) (wi : TI) : Prop :=
  ∀ (pins : List (Addr × Obj)) (s : Shared) (σ : St) (H : Hp) (R : It → Hp → Prop), Inv X pins σ H s → wi σ H R →
    wpAny (model X.prog X.w) X.A (eval iter X.env) (fun v s1 => wpAny (model X.prog X.w) X.A (pyIter v) (PIE X pins σ tg R) X.xe s1) X.xe s

theorem go_of {M : Model} {A : Around} {E : Value → Shared → Prop} {s : Shared} {tg : Expr} {it : Addr} {u : Value} {o : Obj} {n : String} {vs : Array Value} {Q : Unit → Shared → Prop} (ho : s.heap.get? it = some o) (hc : o.cls = .type n) (hd : o.data = .fields vs)
    (hn : ["enumerate", "zip", "dict_itemiterator", "dict_reverseitemiterator", "odict_iterator", "itertools.zip_longest", "itertools.pairwise"].contains n = false) (hQ : Q () s) : wpAny M A (letOwnedTupleGo tg (.ref it) u) Q E s := by
  unfold letOwnedTupleGo
  cases tg <;> first
    | exact wpAny_pure hQ
    | (cases u <;> first
        | exact wpAny_pure hQ
        | (refine wpAny_bind (wpAny_load ho ?_)
           rw [hc, hd]
           show wpAny M A (if (["enumerate", "zip", "dict_itemiterator", "dict_reverseitemiterator", "odict_iterator", "itertools.zip_longest", "itertools.pairwise"].contains n && vs[0]? == some (rawInt _)) = true then _ else _) Q E s
           rw [if_neg (by intro h; rw [hn, Bool.false_and] at h; cases h)]
           exact wpAny_pure hQ))

def Itl (K : PySem.W.Frag) (a : Addr) : It :=
  ⟨fun i H => ∃ xs x, SqL K H a xs ∧ xs[i]? = some x, fun i H x H' => H' = H ∧ ∀ xs, SqL K H a xs → xs[i]? = some x, fun i H => ∃ xs, SqL K H a xs ∧ xs.length ≤ i⟩
def Itt (K : PySem.W.Frag) (a : Addr) : It :=
  ⟨fun i H => ∃ xs x, SqT K H a xs ∧ xs[i]? = some x, fun i H x H' => H' = H ∧ ∀ xs, SqT K H a xs → xs[i]? = some x, fun i H => ∃ xs, SqT K H a xs ∧ xs.length ≤ i⟩
def Itr (lo : Int) (n : Nat) : It := ⟨fun i _ => i < n, fun i H x H' => H' = H ∧ x = .int (lo + i), fun i _ => n ≤ i⟩
theorem turn_list {P : Program} {w : World} {K : PySem.W.Frag} {tg : Expr} (a it : Addr) : Turn P w K tg (Itl K a) [it] it (fun i h => h.IsListIter it a i) where
  mem := by simp
  obj := fun i h st b hb => by
    have e : b = it := by simpa using hb
    subst e
    obtain ⟨o, e, c, d⟩ := st
    exact ⟨o, e, fun v z => by rw [d] at z; cases z⟩
  keep := fun i h h' st k => st.at fun o e => k it (by simp) o e
  item := by
    intro X hP hw hK hc i pins s σ H E I hf st hg
    subst hP hw hK
    obtain ⟨xs, x, hq, hx⟩ := hg
    obtain ⟨its, rv, p, hz⟩ := I.list hq
    obtain ⟨u, hu, ru⟩ := rv.get hx
    obtain ⟨f0, f1, f2, f3, f4, f5⟩ := hf it (by simp)
    refine wpAny_pyNext_list_item st p.isList (x := u) (by simpa using hu) fun h' st' sb => ?_
    have I1 : Inv X pins σ H { s with heap := h' } := I.turned (t' := s.toks) (fun b o hb e => (sb.2 b hb).trans e) f0 f1 f3 f4 f5
    obtain ⟨o, e, c, d⟩ := id st'
    exact ⟨u, rfl, go_of (s := { s with heap := h' }) e c d (by decide) ⟨x, H, I1, ru, ⟨rfl, fun ys hy => by rw [I.list_inj hy hq]; exact hx⟩, st', fun b hb => (hf b hb).1⟩⟩
  done := by
    intro X hP hw hK hc i pins s σ H E I hf st hg
    subst hP hw hK
    obtain ⟨xs, hq, hx⟩ := hg
    obtain ⟨its, rv, p, hz⟩ := I.list hq
    obtain ⟨f0, f1, f2, f3, f4, f5⟩ := hf it (by simp)
    have hl := rv.length
    exact wpAny_pyNext_list_end (I.ok.hd hc) st p.isList (by simp; omega) fun h' eb => ⟨rfl, I.turned (t' := s.toks) (fun b o hb e => eb b o hb e) f0 f1 f3 f4 f5⟩
  self := fun _ _ _ _ _ st h => wpAny_pyIter_listiter st h
theorem turn_tuple {P : Program} {w : World} {K : PySem.W.Frag} {tg : Expr} (a it : Addr) : Turn P w K tg (Itt K a) [it] it (fun i h => h.IsTupleIter it a i) where
  mem := by simp
  obj := fun i h st b hb => by
    have e : b = it := by simpa using hb
    subst e
    obtain ⟨o, e, c, d⟩ := st
    exact ⟨o, e, fun v z => by rw [d] at z; cases z⟩
  keep := fun i h h' st k => st.at fun o e => k it (by simp) o e
  item := by
    intro X hP hw hK hc i pins s σ H E I hf st hg
    subst hP hw hK
    obtain ⟨xs, x, hq, hx⟩ := hg
    obtain ⟨its, rv, p, hz⟩ := I.tuple hq
    obtain ⟨u, hu, ru⟩ := rv.get hx
    obtain ⟨f0, f1, f2, f3, f4, f5⟩ := hf it (by simp)
    refine wpAny_pyNext_tuple_item st (show s.heap.IsTuple a its.toArray from p) (x := u) (by simpa using hu) fun h' st' sb => ?_
    have I1 : Inv X pins σ H { s with heap := h' } := I.turned (t' := s.toks) (fun b o hb e => (sb.2 b hb).trans e) f0 f1 f3 f4 f5
    obtain ⟨o, e, c, d⟩ := id st'
    exact ⟨u, rfl, go_of (s := { s with heap := h' }) e c d (by decide) ⟨x, H, I1, ru, ⟨rfl, fun ys hy => by rw [I.tuple_inj hy hq]; exact hx⟩, st', fun b hb => (hf b hb).1⟩⟩
  done := by
    intro X hP hw hK hc i pins s σ H E I hf st hg
    subst hP hw hK
    obtain ⟨xs, hq, hx⟩ := hg
    obtain ⟨its, rv, p, hz⟩ := I.tuple hq
    obtain ⟨f0, f1, f2, f3, f4, f5⟩ := hf it (by simp)
    have hl := rv.length
    exact wpAny_pyNext_tuple_end (I.ok.hd hc) st (show s.heap.IsTuple a its.toArray from p) (by simp; omega) fun h' eb => ⟨rfl, I.turned (t' := s.toks) (fun b o hb e => eb b o hb e) f0 f1 f3 f4 f5⟩
  self := fun _ _ _ _ _ st h => wpAny_pyIter_tupleiter st h
theorem turn_range {P : Program} {w : World} {K : PySem.W.Frag} {tg : Expr} (it : Addr) (lo : Int) (n : Nat) : Turn P w K tg (Itr lo n) [it] it (fun i h => IsRangeIter h it (lo + (i : Nat) * 1) ((n : Int) - (i : Nat)) 1) where
  mem := by simp
  obj := fun i h st b hb => by
    have e : b = it := by simpa using hb
    subst e
    exact ⟨_, st, fun v z => by
      have z' : Data.fields _ = Data.cell v := z
      cases z'⟩
  keep := fun i h h' st k => k it (by simp) _ st
  item := by
    intro X hP hw hK hc i pins s σ H E I hf st hg
    subst hP hw hK
    obtain ⟨f0, f1, f2, f3, f4, f5⟩ := hf it (by simp)
    have W := Walks.range (prog := X.prog) (w := X.w) (I.ok.hd hc) it lo 1 n
    refine W.item i s _ _ hg st fun v h' tk hv st' kk => ?_
    obtain ⟨t, rfl⟩ := hv
    have I1 : Inv X pins σ H { s with heap := h', toks := tk } := I.turned (fun b o hb e => kk b o (by simpa using hb) e) f0 f1 f3 f4 f5
    refine ⟨_, rfl, go_of (s := { s with heap := h', toks := tk }) (n := "range_iterator") st' rfl rfl (by decide) ⟨.int (lo + i), H, I1, ⟨t, ?_⟩, ⟨rfl, rfl⟩, st', fun b hb => (hf b hb).1⟩⟩
    rw [Int.mul_one]
  done := by
    intro X hP hw hK hc i pins s σ H E I hf st hg
    subst hP hw hK
    obtain ⟨f0, f1, f2, f3, f4, f5⟩ := hf it (by simp)
    exact wpAny_pyNext_range_end (I.ok.hd hc) st (by have : n ≤ i := hg; omega) fun h' eb => ⟨rfl, I.turned (t' := s.toks) (fun b o hb e => eb b o hb e) f0 f1 f3 f4 f5⟩
  self := fun _ _ _ _ _ st h => wpAny_pyIter_rangeiter st h
end L2

namespace L2
open PySem PySem.Spec PyProof.Rows
section
variable {X : Cx} {tg : Expr}
theorem range_it {pins : List (Addr × Obj)} {σ : St} {H : Hp} {s : Shared} {R : It → Hp → Prop} {E : Value → Shared → Prop} {lo hi : Int} {t u v : Tok} {tk : Nat} (I : Inv X pins σ H s) (h1 : -(2 ^ 62) ≤ lo) (h2 : lo < 2 ^ 62) (h3 : -(2 ^ 62) ≤ hi) (h4 : hi < 2 ^ 62)
    (q : R (Itr lo (hi - lo).toNat) H) : wpAny (model X.prog X.w) X.A (pyIter (.ref s.heap.objs.size)) (PIE X pins σ tg R) E { s with heap := s.heap.push { cls := .type "range", data := .fields #[.int lo t, .int hi u, .int 1 v] }, toks := tk } := by
  refine wpAny_pyIter_range (IsRange.new ..) (small_one h1 h2 h3 h4) ?_
  have I1 : Inv X pins σ H { s with heap := s.heap.push { cls := .type "range", data := .fields #[.int lo t, .int hi u, .int 1 v] }, toks := tk } := I.kept fun b o e => Heap.get?_push_of_some _ e
  refine ⟨(s.heap.push { cls := .type "range", data := .fields #[.int lo t, .int hi u, .int 1 v] }).objs.size, [(s.heap.push { cls := .type "range", data := .fields #[.int lo t, .int hi u, .int 1 v] }).objs.size], _, _, H, rfl,
    I1.kept (t' := tk) fun b o e => Heap.get?_push_of_some _ e, turn_range _ lo (hi - lo).toNat, ?_, fun b hb => ?_, q⟩
  · have e1 : lo + ((0 : Nat) : Int) * 1 = lo := by simp
    have e2 : (((hi - lo).toNat : Nat) : Int) - ((0 : Nat) : Int) = Builtin.Range.rangeSize lo hi 1 := by rw [rangeSize_one]; split <;> omega
    show IsRangeIter _ _ (lo + ((0 : Nat) : Int) * 1) ((((hi - lo).toNat : Nat) : Int) - ((0 : Nat) : Int)) 1
    rw [e1, e2]
    exact Heap.get?_push_size _ rfl
  · have e : b = (s.heap.push { cls := .type "range", data := .fields #[.int lo t, .int hi u, .int 1 v] }).objs.size := by simpa using hb
    subst e
    exact I1.fpOk (Nat.le_refl _) (I1.hok.fresh (Nat.le_refl _))
def iRng1 (ta : TA) : TI := fun σ H R => ta σ H fun vs H1 => ∃ j : Int, vs = [.int j] ∧ -(2 ^ 62) ≤ j ∧ j < 2 ^ 62 ∧ R (Itr 0 j.toNat) H1
theorem pi_range1 {a : Expr} {ta : TA} {p pos : Pos} (hg : Gl X "range") (hm : X.mg "range" = none) (ha : PA X [a] ta) (hs : starEach [a] X.env = [(false, eval a X.env)] := by rfl) : PI X tg (.Call (.Name "range" p) [a] [] pos) (iRng1 ta) := by
  intro pins s σ H R I h
  refine Call_ (ld_blt I hg hm boot_range (PyProof.Rows.callWith_type1 (thn (ha pos pins s σ H _ I h) fun us s1 ⟨vs, H1, I1, r1, q1⟩ => ?_) hs rfl))
  obtain ⟨j, e, q1, q2, q⟩ := q1
  subst e
  cases r1 with
  | cons r rr =>
    cases rr
    obtain ⟨t, rfl⟩ := r
    exact call_range_1 (range_it I1 (by omega) (by omega) q1 q2 (by simpa using q))
def tFor (wi : TI) (g : TG) (tb : TS) : TS := fun D σ H => wi σ H fun J H1 => ∃ W : Nat → Nat → St → Hp → Prop, (∃ m, W 0 m σ H1) ∧ ∀ i m σ H, W i m σ H →
  (J.stop i H ∧ D.nx σ H) ∨ (J.go i H ∧ ∃ N : St → Hp → Prop, (∀ σ' H', N σ' H' → ∃ m', m' < m ∧ W (i + 1) m' σ' H') ∧ ∀ x H', J.yld i H x H' → g x σ H' fun σ2 H2 => tb { D with nx := N, ct := N, bk := D.nx } σ2 H2)
def pinsAt (fp : List Addr) (h : Heap) : List (Addr × Obj) := fp.filterMap fun b => (h.get? b).map fun o => (b, o)
theorem mem_pinsAt {fp : List Addr} {h : Heap} {b : Addr} {o : Obj} (hb : b ∈ fp) (e : h.get? b = some o) : (b, o) ∈ pinsAt fp h := List.mem_filterMap.mpr ⟨b, hb, by rw [e]; rfl⟩
theorem of_pinsAt {fp : List Addr} {h : Heap} {p : Addr × Obj} (hp : p ∈ pinsAt fp h) : p.1 ∈ fp ∧ h.get? p.1 = some p.2 := by
  obtain ⟨b, hb, e⟩ := List.mem_filterMap.mp hp
  cases q : h.get? b with
  | none => rw [q] at e; cases e
  | some o =>
    rw [q] at e
    have e' : (b, o) = p := Option.some.inj e
    subst e'
    exact ⟨hb, q⟩
theorem Inv.pinned {pins : List (Addr × Obj)} {σ : St} {H : Hp} {s : Shared} {fp : List Addr} (I : Inv X pins σ H s) (hf : ∀ b ∈ fp, FpOk X pins H b) (ho : ∀ b ∈ fp, ∃ o, s.heap.get? b = some o ∧ ∀ v, o.data ≠ .cell v) : Inv X (pins ++ pinsAt fp s.heap) σ H s :=
  I.pins_of fun p hp => (List.mem_append.mp hp).elim (fun z => I.pin p (List.mem_append_right _ z)) fun z => by
    obtain ⟨hb, e⟩ := of_pinsAt z
    obtain ⟨f0, f1, f2, _⟩ := hf p.1 hb
    obtain ⟨o, e', d⟩ := ho p.1 hb
    rw [e] at e'; cases e'
    exact ⟨e, f0, f1, f2, d⟩
theorem Inv.unpinned {pins pl : List (Addr × Obj)} {σ : St} {H : Hp} {s : Shared} (I : Inv X (pins ++ pl) σ H s) : Inv X pins σ H s := I.pins_of fun p hp => I.pin p (List.mem_append_right _ (List.mem_append_left _ hp))
theorem ps_for {iter : Expr} {body : List Stmt} {wi : TI} {g : TG} {tb : TS} {pos : Pos} (hp : PassesOwn (model X.prog X.w) X.A X.env X.xe) (hc : X.calm = true) (hi : PI X tg iter wi) (hg : PG X tg g) (hb : PSs X body tb)
    (hs : ∀ x, foldedSetIterable iter X.env x = pure x := by intro _; rfl) : PS X (.For tg iter body [] pos) (tFor wi g tb) := by
  intro pins s σ H D I h
  refine wpAny_For (thn (hi pins s σ H _ I h) fun v s1 h1 => thn h1 fun itv s2 h2 => ?_) hs
  obtain ⟨it, fp, tn, J, H2, e, I2, T, st2, f2, W, ⟨m0, w0⟩, turn⟩ := h2
  subst e
  -- what stays true of the iterator's objects through the loop
  have stat : ∀ {H' : Hp}, (∀ b ∈ fp, H' b = none) → ∀ b ∈ fp, FpOk X pins H' b := fun hn b hb => ⟨hn b hb, (f2 b hb).2⟩
  refine codeAny_forLoop_any (fun n s' => ∃ i σ' H', Inv X pins σ' H' s' ∧ tn i s'.heap ∧ (∀ b ∈ fp, H' b = none) ∧ W i n σ' H') ?_ m0 ⟨0, σ, H2, I2, st2, fun b hb => (f2 b hb).1, w0⟩
  rintro n s3 ⟨i, σ3, H3, I3, st3, fr3, w3⟩
  rcases turn i n σ3 H3 w3 with ⟨stop, qn⟩ | ⟨go, N, hN, step⟩
  · refine wpAny_passesOwn hp (thn (T.done X rfl rfl rfl hc i pins s3 σ3 H3 X.xe I3 (stat fr3) st3 stop) fun r s4 ⟨hr, I4⟩ => ?_)
    subst hr
    exact wpAny_execs_nil ⟨σ3, H3, I4, qn⟩
  · refine wpAny_passesOwn hp (thn (T.item X rfl rfl rfl hc i pins s3 σ3 H3 X.xe I3 (stat fr3) st3 go) fun r s4 ⟨u, hr, h4⟩ => ?_)
    subst hr
    refine wpAny_passesOwn hp (thn h4 fun _ s5 ⟨x, H5, I5, r5, y5, st5, fr5⟩ => ?_)
    have I5' := I5.pinned (stat fr5) (T.obj _ _ st5)
    refine wpAny_passesOwn hp (thn (hg _ s5 σ3 H5 x u _ I5' r5 (step x H5 y5)) fun _ s6 ⟨σ6, H6, I6, q6⟩ => ?_)
    refine wpAny_passesOwn hp (thn (hb _ s6 σ6 H6 _ I6 q6) fun f s7 q7 => ?_)
    have again : ∀ {σ7 : St} {H7 : Hp}, Inv X (pins ++ pinsAt fp s5.heap) σ7 H7 s7 → N σ7 H7 → ∃ m, m < n ∧ ∃ i σ' H', Inv X pins σ' H' s7 ∧ tn i s7.heap ∧ (∀ b ∈ fp, H' b = none) ∧ W i m σ' H' := fun {σ7 H7} I7 n7 => by
      obtain ⟨m', hm, w7⟩ := hN σ7 H7 n7
      refine ⟨m', hm, i + 1, σ7, H7, I7.unpinned, T.keep _ _ _ st5 fun b hb o e => (I7.pin (b, o) (List.mem_append_right _ (List.mem_append_right _ (mem_pinsAt hb e)))).1, fun b hb => ?_, w7⟩
      obtain ⟨o, e, d⟩ := T.obj _ _ st5 b hb
      exact (I7.pin (b, o) (List.mem_append_right _ (List.mem_append_right _ (mem_pinsAt hb e)))).2.1
    cases f with
    | next => obtain ⟨σ7, H7, I7, n7⟩ := q7; exact again I7 n7
    | cont => obtain ⟨σ7, H7, I7, n7⟩ := q7; exact again I7 n7
    | brk => obtain ⟨σ7, H7, I7, q7⟩ := q7; exact ⟨σ7, H7, I7.unpinned, q7⟩
    | ret v => obtain ⟨x7, σ7, H7, I7, r7, q7⟩ := q7; exact ⟨x7, σ7, H7, I7.unpinned, r7, q7⟩
end

end L2

namespace L2
open PySem PySem.Spec PyProof.Rows

abbrev R2 := V → V → Hp → VK → Prop
def OpR (X : Cx) (f : Value → Value → Sem Value) (r : R2) : Prop :=
  ∀ (pins : List (Addr × Obj)) (s : Shared) (σ : St) (H : Hp) (x y : V) (v u : Value) (Q : VK), Inv X pins σ H s → RelV x v → RelV y u → r x y H Q →
    wpAny (model X.prog X.w) X.A (f v u) (EP X pins σ Q) X.xe s
def CallR (X : Cx) (f : Value) (r : List V → Hp → VK → Prop) : Prop :=
  ∀ (pins : List (Addr × Obj)) (s : Shared) (σ : St) (H : Hp) (xs : List V) (us : List Value) (Q : VK), Inv X pins σ H s → Vals xs us → r xs H Q →
    wpAny (model X.prog X.w) X.A (call f us) (EP X pins σ Q) X.xe s
def tOp (r : R2) (ta tb : TE) : TE := fun σ H Q => ta σ H fun x H1 => tb σ H1 fun y H2 => r x y H2 Q
def rI (C : Int → Int → Prop) (g : Int → Int → V) : R2 := fun x y H Q => ∃ i j, x = .int i ∧ y = .int j ∧ C i j ∧ Q (g i j) H
def rI0 (g : Int → Int → V) : R2 := fun x y H Q => ∃ i j, x = .int i ∧ y = .int j ∧ Q (g i j) H
section
variable {X : Cx} {a b c : Expr} {ta tb tc : TE} {pos : Pos}

theorem binT (ha : PE X a ta) (hb : PE X b tb) {pins : List (Addr × Obj)} {s : Shared} {σ : St} {H : Hp} {R : V → V → Hp → Prop} (I : Inv X pins σ H s)
    (h : ta σ H fun x H1 => tb σ H1 fun y H2 => R x y H2) {Q : Value → Shared → Prop} {f : Value → Value → Sem Value}
    (hf : ∀ v u s2 x y H2, Inv X pins σ H2 s2 → RelV x v → RelV y u → R x y H2 → wpAny (model X.prog X.w) X.A (f v u) Q X.xe s2) :
    wpAny (model X.prog X.w) X.A (eval a X.env) (fun v s₁ => wpAny (model X.prog X.w) X.A (eval b X.env) (fun u s₂ => wpAny (model X.prog X.w) X.A (f v u) Q X.xe s₂) X.xe s₁) X.xe s := by
  refine thn (ha pins s σ H _ I h) fun v s1 ⟨x, H1, I1, r1, q1⟩ => ?_
  refine thn (hb pins s1 σ H1 _ I1 q1) fun u s2 ⟨y, H2, I2, r2, q2⟩ => ?_
  exact hf v u s2 x y H2 I2 r1 r2 q2

theorem pe_op {op : Operator} {r : R2} (ho : OpR X (binaryOp op) r) (ha : PE X a ta) (hb : PE X b tb) : PE X (.BinOp a op b pos) (tOp r ta tb) := by
  intro pins s σ H Q I h
  exact wpAny_BinOp (binT ha hb I h fun v u s2 x y H2 I2 rx ry q => ho pins s2 σ H2 x y v u Q I2 rx ry q)
theorem opI {f : Value → Value → Sem Value} {C : Int → Int → Prop} {g : Int → Int → Int}
    (rule : ∀ (i j : Int) (t u : Tok) (s : Shared) (Q : Value → Shared → Prop) (E : Value → Shared → Prop), C i j → Q (.int (g i j) s.toks) { s with toks := s.toks + 1 } → wpAny (model X.prog X.w) X.A (f (.int i t) (.int j u)) Q E s) :
    OpR X f (rI C fun i j => .int (g i j)) := by
  intro pins s σ H x y v u Q I rx ry h
  obtain ⟨i, j, rfl, rfl, hc, q⟩ := h
  obtain ⟨t, rfl⟩ := rx
  obtain ⟨t', rfl⟩ := ry
  exact rule i j t t' s _ _ hc ⟨.int (g i j), H, I.tok _, ⟨_, rfl⟩, q⟩
theorem opI0 {f : Value → Value → Sem Value} {g : Int → Int → Int}
    (rule : ∀ (i j : Int) (t u : Tok) (s : Shared) (Q : Value → Shared → Prop) (E : Value → Shared → Prop), Q (.int (g i j) s.toks) { s with toks := s.toks + 1 } → wpAny (model X.prog X.w) X.A (f (.int i t) (.int j u)) Q E s) :
    OpR X f (rI0 fun i j => .int (g i j)) := by
  intro pins s σ H x y v u Q I rx ry h
  obtain ⟨i, j, rfl, rfl, q⟩ := h
  obtain ⟨t, rfl⟩ := rx
  obtain ⟨t', rfl⟩ := ry
  exact rule i j t t' s _ _ ⟨.int (g i j), H, I.tok _, ⟨_, rfl⟩, q⟩
theorem opB0 {f : Value → Value → Sem Value} {g : Int → Int → Bool}
    (rule : ∀ (i j : Int) (t u : Tok) (s : Shared) (Q : Value → Shared → Prop) (E : Value → Shared → Prop), Q (.bool (g i j)) s → wpAny (model X.prog X.w) X.A (f (.int i t) (.int j u)) Q E s) :
    OpR X f (rI0 fun i j => .bl (g i j)) := by
  intro pins s σ H x y v u Q I rx ry h
  obtain ⟨i, j, rfl, rfl, q⟩ := h
  obtain ⟨t, rfl⟩ := rx
  obtain ⟨t', rfl⟩ := ry
  exact rule i j t t' s _ _ ⟨.bl (g i j), H, I, rfl, q⟩

def CMul (i j : Int) : Prop := (-(2 ^ 64) < i ∧ i < 2 ^ 64) ∨ (-(2 ^ 64) < j ∧ j < 2 ^ 64)
theorem CMul.ok {i j : Int} (h : CMul i j) : IntMulOk i j := by
  rcases h with ⟨h1, h2⟩ | ⟨h1, h2⟩
  · exact .of_left (intBits_le_64 h1 h2)
  · exact .of_right (intBits_le_64 h1 h2)
theorem op_add : OpR X (binaryOp .Add) (rI0 fun i j => .int (i + j)) := opI0 fun _ _ _ _ _ _ _ q => add_int q
theorem op_modN : OpR X (binaryOp .Mod) (rI (fun _ j => j ≠ 0) fun i j => .int (i.fmod j)) := opI fun _ _ _ _ _ _ _ hc q => mod_int' hc q
end

def scal : V → V → Bool
  | .non, .non => true | .non, .int _ => true | .int _, .non => true | .non, .bl _ => true | .bl _, .non => true | .non, .str _ => true | .str _, .non => true
  | .int _, .int _ => true | .bl _, .bl _ => true | .str _, .str _ => true | .byt _, .byt _ => true
  | .int _, .str _ => true | .str _, .int _ => true | .bl _, .str _ => true | .str _, .bl _ => true
  | _, _ => false
def rEq : R2 := fun x y H Q => scal x y = true ∧ Q (.bl (decide (x = y))) H
def rNe : R2 := fun x y H Q => scal x y = true ∧ Q (.bl (!decide (x = y))) H

theorem dec_int {i j : Int} : decide (V.int i = V.int j) = (i == j) := by
  rw [Bool.eq_iff_iff]
  simp
theorem dec_bl {i j : Bool} : decide (V.bl i = V.bl j) = (i == j) := by
  rw [Bool.eq_iff_iff]
  simp
theorem dec_str {i j : Str} : decide (V.str i = V.str j) = (i == j) := by
  rw [Bool.eq_iff_iff]
  simp
theorem dec_byt {i j : Array UInt8} : decide (V.byt i = V.byt j) = (i.toList == j.toList) := by
  rw [Bool.eq_iff_iff]
  cases i
  cases j
  simp

section
variable {X : Cx} {a b c : Expr} {ta tb tc : TE} {pos : Pos}
theorem fin_bl {pins : List (Addr × Obj)} {σ : St} {H : Hp} {s : Shared} {Q : VK} {k k' : Bool} (I : Inv X pins σ H s) (q : Q (.bl k) H) (e : k = k') : EP X pins σ Q (.bool k') s := by
  subst e
  exact ⟨.bl k, H, I, rfl, q⟩
theorem op_eq : OpR X (compareOp .Eq) rEq := by
  intro pins s σ H x y v u Q I rx ry h
  obtain ⟨hs, q⟩ := h
  cases x with
  | non =>
    cases rx
    cases y with
    | non => cases ry; exact PySem.EqNone.eq_none_none (fin_bl I q (by simp))
    | bl j => cases ry; exact PySem.EqNone.eq_none_bool (fin_bl I q (by simp))
    | int j => obtain ⟨t', rfl⟩ := ry; exact PySem.EqNone.eq_none_int (fin_bl I q (by simp))
    | str j => obtain ⟨t', rfl⟩ := ry; exact PySem.EqNone.eq_none_str (fin_bl I q (by simp))
    | _ => exact absurd (show false = true from hs) Bool.false_ne_true
  | bl i =>
    cases rx
    cases y with
    | non => cases ry; exact PySem.EqNone.eq_bool_none (fin_bl I q (by simp))
    | bl j => cases ry; exact eq_bool (fin_bl I q dec_bl)
    | str j => obtain ⟨t', rfl⟩ := ry; exact PySem.EqMixed.eq_bool_str (fin_bl I q (by simp))
    | _ => exact absurd (show false = true from hs) Bool.false_ne_true
  | int i =>
    obtain ⟨t, rfl⟩ := rx
    cases y with
    | non => cases ry; exact PySem.EqNone.eq_int_none (fin_bl I q (by simp))
    | int j => obtain ⟨t', rfl⟩ := ry; exact eq_int (fin_bl I q dec_int)
    | str j => obtain ⟨t', rfl⟩ := ry; exact PySem.EqMixed.eq_int_str (fin_bl I q (by simp))
    | _ => exact absurd (show false = true from hs) Bool.false_ne_true
  | str i =>
    obtain ⟨t, rfl⟩ := rx
    cases y with
    | non => cases ry; exact PySem.EqNone.eq_str_none (fin_bl I q (by simp))
    | bl j => cases ry; exact PySem.EqMixed.eq_str_bool (fin_bl I q (by simp))
    | int j => obtain ⟨t', rfl⟩ := ry; exact PySem.EqMixed.eq_str_int (fin_bl I q (by simp))
    | str j => obtain ⟨t', rfl⟩ := ry; exact eq_str (fin_bl I q dec_str)
    | _ => exact absurd (show false = true from hs) Bool.false_ne_true
  | byt i =>
    obtain ⟨t, rfl⟩ := rx
    cases y with
    | byt j => obtain ⟨t', rfl⟩ := ry; exact PySem.W.eq_bytes (fin_bl I q dec_byt)
    | _ => exact absurd (show false = true from hs) Bool.false_ne_true
  | _ => cases y <;> exact absurd (show false = true from hs) Bool.false_ne_true
theorem op_ne : OpR X (compareOp .NotEq) rNe := by
  intro pins s σ H x y v u Q I rx ry h
  obtain ⟨hs, q⟩ := h
  cases x with
  | non =>
    cases rx
    cases y with
    | non => cases ry; exact PySem.EqNone.ne_none_none (fin_bl I q (by simp))
    | bl j => cases ry; exact PySem.EqNone.ne_none_bool (fin_bl I q (by simp))
    | int j => obtain ⟨t', rfl⟩ := ry; exact PySem.EqNone.ne_none_int (fin_bl I q (by simp))
    | str j => obtain ⟨t', rfl⟩ := ry; exact PySem.EqNone.ne_none_str (fin_bl I q (by simp))
    | _ => exact absurd (show false = true from hs) Bool.false_ne_true
  | bl i =>
    cases rx
    cases y with
    | non => cases ry; exact PySem.EqNone.ne_bool_none (fin_bl I q (by simp))
    | bl j => cases ry; exact ne_bool (fin_bl I q (congrArg not dec_bl))
    | str j => obtain ⟨t', rfl⟩ := ry; exact PySem.EqMixed.ne_bool_str (fin_bl I q (by simp))
    | _ => exact absurd (show false = true from hs) Bool.false_ne_true
  | int i =>
    obtain ⟨t, rfl⟩ := rx
    cases y with
    | non => cases ry; exact PySem.EqNone.ne_int_none (fin_bl I q (by simp))
    | int j => obtain ⟨t', rfl⟩ := ry; exact ne_int (fin_bl I q (congrArg not dec_int))
    | str j => obtain ⟨t', rfl⟩ := ry; exact PySem.EqMixed.ne_int_str (fin_bl I q (by simp))
    | _ => exact absurd (show false = true from hs) Bool.false_ne_true
  | str i =>
    obtain ⟨t, rfl⟩ := rx
    cases y with
    | non => cases ry; exact PySem.EqNone.ne_str_none (fin_bl I q (by simp))
    | bl j => cases ry; exact PySem.EqMixed.ne_str_bool (fin_bl I q (by simp))
    | int j => obtain ⟨t', rfl⟩ := ry; exact PySem.EqMixed.ne_str_int (fin_bl I q (by simp))
    | str j => obtain ⟨t', rfl⟩ := ry; exact ne_str (fin_bl I q (congrArg not dec_str))
    | _ => exact absurd (show false = true from hs) Bool.false_ne_true
  | byt i =>
    obtain ⟨t, rfl⟩ := rx
    cases y with
    | byt j => obtain ⟨t', rfl⟩ := ry; exact PySem.W.ne_bytes (fin_bl I q (congrArg not dec_byt))
    | _ => exact absurd (show false = true from hs) Bool.false_ne_true
  | _ => cases y <;> exact absurd (show false = true from hs) Bool.false_ne_true

theorem op_lt : OpR X (compareOp .Lt) (rI0 fun i j => .bl (decide (i < j))) := opB0 fun _ _ _ _ _ _ _ q => lt_int q
theorem op_le : OpR X (compareOp .LtE) (rI0 fun i j => .bl (decide (i ≤ j))) := opB0 fun _ _ _ _ _ _ _ q => le_int q
theorem op_gt : OpR X (compareOp .Gt) (rI0 fun i j => .bl (decide (j < i))) := opB0 fun _ _ _ _ _ _ _ q => gt_int q
theorem OpR.or {f : Value → Value → Sem Value} {r r' : R2} (h : OpR X f r) (h' : OpR X f r') : OpR X f (fun x y H Q => r x y H Q ∨ r' x y H Q) := by
  intro pins s σ H x y v u Q I rx ry q
  rcases q with q | q
  · exact h pins s σ H x y v u Q I rx ry q
  · exact h' pins s σ H x y v u Q I rx ry q

theorem nomark (b : Expr) {op : CmpOp} (h : op ≠ .In := by decide) (h2 : op ≠ .NotIn := by decide) : behindInMarks op b = false := by
  have e1 : (op == CmpOp.In) = false := by cases op <;> first | rfl | exact absurd rfl h
  have e2 : (op == CmpOp.NotIn) = false := by cases op <;> first | rfl | exact absurd rfl h2
  cases b <;> simp [behindInMarks, e1, e2]
def tTest (t : TE) : TT := fun σ H Q => t σ H fun x H' => ∃ k, x = .bl k ∧ Q k H'
theorem pt_cmpR {op : CmpOp} {r : R2} (ho : OpR X (compareOp op) r) (ha : PE X a ta) (hb : PE X b tb) (hm : behindInMarks op b = false) : PT X (.Compare a [op] [b] pos) (tTest (tOp r ta tb)) := by
  intro pins s σ H Q I h
  refine wpAny_isTrue_Compare1 (thn (ha pins s σ H _ I h) fun v s1 ⟨x, H1, I1, r1, q1⟩ => thn (hb pins s1 σ H1 _ I1 q1) fun u s2 ⟨y, H2, I2, r2, q2⟩ =>
    thn (ho pins s2 σ H2 x y v u _ I2 r1 r2 q2) fun c s3 ⟨z, H3, I3, r3, k, e, q3⟩ => ?_) hm
  subst e
  cases r3
  exact wpAny_truthy_bool ⟨H3, I3, q3⟩
theorem line63 : (sizeLine : Nat) < 2 ^ 63 := by rw [sizeLine_eq]; decide
theorem vals1 {x : V} {us : List Value} (r : Vals [x] us) : ∃ u, us = [u] ∧ RelV x u := by
  cases r with
  | cons r1 r2 => cases r2; exact ⟨_, rfl, r1⟩
theorem vals2 {x y : V} {us : List Value} (r : Vals [x, y] us) : ∃ u w', us = [u, w'] ∧ RelV x u ∧ RelV y w' := by
  cases r with
  | cons r1 r2 =>
    cases r2 with
    | cons r3 r4 => cases r4; exact ⟨_, _, rfl, r1, r3⟩
theorem call_abs : CallR X (.builtin "abs") (fun xs H Q => ∃ i, xs = [.int i] ∧ Q (.int (if i < 0 then -i else i)) H) := by
  intro pins s σ H xs us Q I r h
  obtain ⟨i, rfl, q⟩ := h
  obtain ⟨u, rfl, t, rfl⟩ := vals1 r
  exact call_abs_int fun u tk => ⟨.int (if i < 0 then -i else i), H, I.tok _, ⟨_, rfl⟩, q⟩
end
end L2

namespace L2
open PySem PySem.Spec PyProof.Rows

structure ObjM (h : Heap) (x dx C : Addr) (mA : Str → Option Value) : Prop where
  obj : h.get? x = some (PySem.W.instObj C dx)
  ns : h.Ns1 dx mA
  ne : dx ≠ x

theorem lookIn_ns {h : Heap} {dx : Addr} {mA : Str → Option Value} (n : h.Ns1 dx mA) : ∃ od, h.get? dx = some od ∧ ∀ name, PySem.W.lookIn name od = some (mA name) := by
  obtain ⟨o, es, ep, ho, hd, hk, _, hm⟩ := n
  refine ⟨o, ho, fun name => ?_⟩
  have e := hm name
  unfold nsFind findBy at e
  rw [← Array.find?_toList] at e
  unfold PySem.W.lookIn
  rw [hd]
  dsimp only
  split
  · rename_i y q
    rw [q] at e
    exact congrArg some e
  · rename_i q
    rw [q] at e
    have a : es.toList.any (·.refKey) = false := by
      rw [List.any_eq_false]
      intro y hy
      obtain ⟨z, t, hkey⟩ := hk y (Array.mem_toList_iff.mp hy)
      simp [DictEntry.refKey, hkey]
    have a' : ¬ es.toList.any (·.refKey) = true := by rw [a]; exact Bool.false_ne_true
    rw [if_neg a']
    exact congrArg some e

theorem ObjM.look {h : Heap} {x dx C : Addr} {mA : Str → Option Value} (I : ObjM h x dx C mA) : ∃ od, PySem.W.InstAt h x (PySem.W.instObj C dx) C (some od) ∧ ∀ name, PySem.W.lookIn name od = some (mA name) :=
  let ⟨od, ho, hl⟩ := lookIn_ns I.ns
  ⟨od, ⟨I.obj, rfl, rfl, ho⟩, hl⟩

section
variable {prog : Program} {w : World} {A : Around} {E : Value → Shared → Prop} {s : Shared} {K : PySem.W.Frag} {x dx C f : Addr} {mA : Str → Option Value} {name : Str} {v : Value}

end

section
variable {P : Program} {w : World} {H H' : Hp} {h h' : Heap} {a C dx : Addr} {fs fs' : List (Str × V)}
theorem ins_get (hok : HOk P w H h) (e : H a = some (.ins C dx fs)) : ∃ mA, ObjM h a dx C mA ∧ (∀ f, RelO (fs.lookup f) (mA f)) ∧ PySem.Within mA (fs.map (·.1)) ∧ fs.length ≤ 1000 ∧ H dx = some (.own a) := by
  obtain ⟨d, z, ne, ob, mA, n, r, q⟩ := (show ObjOk P w H h a (.ins C dx fs) from hok a _ e)
  exact ⟨mA, ⟨ob, n, ne⟩, r, q, z, d⟩
end

structure Cls (K : PySem.W.Frag) (C : Addr) : Prop where
  pg : PySem.W.plainGet K C Str.empty = true
  hd : PySem.W.hasDictIn K C = true
  po : PySem.W.plainOver K C = true
  sa : PySem.W.findIn K (.ref C) "__setattr__" = some (some (.builtin "object.__setattr__"))
theorem Cls.get {K : PySem.W.Frag} {C : Addr} (c : Cls K C) (f : Str) : PySem.W.plainGet K C f = true := c.pg
structure Con (K : PySem.W.Frag) (C : Addr) (f : Str) (v : V) (u : Value) : Prop where
  at_ : PySem.W.findIn K (.ref C) f = some (some u)
  rel : RelV v u
  get : PySem.W.specialIn K u "__get__" = some none
  cp : PySem.W.copiedNames.contains f = false
section
variable {X : Cx} {pins : List (Addr × Obj)} {σ : St} {H : Hp} {s : Shared} {a C dx : Addr} {fs : List (Str × V)} {f : Str} {v : V} {A : Around} {E : Value → Shared → Prop}

theorem Inv.made (I : Inv X pins σ H s) : Inv X pins σ (upd (upd H s.heap.objs.size (.own (s.heap.objs.size + 1))) (s.heap.objs.size + 1) (.ins C s.heap.objs.size []))
    { s with heap := (s.heap.push PySem.W.emptyDict).push (PySem.W.instObj C s.heap.objs.size) } := by
  have e1 : (s.heap.push PySem.W.emptyDict).get? s.heap.objs.size = some PySem.W.emptyDict := Heap.get?_push_size s.heap rfl
  have e2 : ((s.heap.push PySem.W.emptyDict).push (PySem.W.instObj C s.heap.objs.size)).get? (s.heap.objs.size + 1) = some (PySem.W.instObj C s.heap.objs.size) := by
    have := Heap.get?_push_size (s.heap.push PySem.W.emptyDict) (o := PySem.W.instObj C s.heap.objs.size) rfl
    rwa [Heap.size_push] at this
  have e3 : (s.heap.push PySem.W.emptyDict).Ns s.heap.objs.size (fun _ => none) := ⟨PySem.W.emptyDict, #[], _, e1, rfl, (fun e he => absurd he (by simp)), fun _ => rfl⟩
  have I1 := I.laid (a := s.heap.objs.size) (o := .own (s.heap.objs.size + 1)) (h' := s.heap.push PySem.W.emptyDict) (t' := s.toks) (fun b u q => Heap.get?_push_of_some _ q) (Nat.le_refl _) ⟨_, e1⟩
  refine I1.laid (a := s.heap.objs.size + 1) (o := .ins C s.heap.objs.size []) (t' := s.toks) (fun b u q => Heap.get?_push_of_some _ q) (Nat.le_of_eq (Heap.size_push _ _)) ?_
  have ne : s.heap.objs.size ≠ s.heap.objs.size + 1 := Nat.ne_of_lt (Nat.lt_succ_self _)
  refine ⟨by rw [upd_ne ne, upd_same], Nat.zero_le _, ne, e2, fun _ => none, (Heap.Ns1.of_empty e3).at fun o q => Heap.get?_push_of_some _ q, fun _ => True.intro, fun y hy => absurd rfl hy⟩

end

section
variable {X : Cx} {o e value : Expr} {f : Str} {pos pos' tpos : Pos} {ta tv : TE}
end

section
variable {X : Cx} {pins : List (Addr × Obj)} {σ : St} {H : Hp} {s : Shared} {A : Around} {E : Value → Shared → Prop} {Q : Value → Shared → Prop} {c : Value} {b : Bool}
inductive TyOf (K : PySem.W.Frag) (H : Hp) : V → Value → Prop where
  | non : TyOf K H .non (.type "NoneType")
  | bl (x : Bool) : TyOf K H (.bl x) (.type "bool")
  | int (i : Int) : TyOf K H (.int i) (.type "int")
  | str (x : Str) : TyOf K H (.str x) (.type "str")
  | flt (x : UInt64) : TyOf K H (.flt x) (.type "float")
  | lst {a : Addr} {xs : List V} (e : H a = some (.lst xs)) : TyOf K H (.ref a) (.type "list")
  | frz {a : Addr} {o : Obj} {xs : List V} (e : H a = some (.frz o (.lst xs))) : TyOf K H (.ref a) (.type "list")
  | tup {a : Addr} {xs : List V} (e : H a = some (.tup xs)) : TyOf K H (.ref a) (.type "tuple")
  | dK {a : Addr} {kvs : List (Key × V)} (e : H a = some (.dK kvs)) : TyOf K H (.ref a) (.type "dict")
  | dT {a : Addr} {kvs : List (List Key × V)} (e : H a = some (.dT kvs)) : TyOf K H (.ref a) (.type "dict")
  | ins {a C dx : Addr} {fs : List (Str × V)} (e : H a = some (.ins C dx fs)) (cl : Cls K C) (ha : PySem.W.findIn K (.ref C) "__class__" = some (some (.builtin "object.__class__")))
      (hn : PySem.W.specialIn K (.builtin "object.__class__") "__get__" = some (some (.builtin "getset_descriptor.__get__"))) (htk : PySem.W.takesIn K (.builtin "object.__class__") = some true)
      (hm : PySem.W.mroIn K C (.type "object") = some true) : TyOf K H (.ref a) (.ref C)
theorem isinst_ok {x : V} {u t : Value} (I : Inv X pins σ H s) (rx : RelV x u) (ty : TyOf X.K H x t) (e : PySem.W.kitOne X.K t c = some b) (h : ∀ tk, Q (.bool b) { s with toks := tk }) :
    wpAny (model X.prog X.w) A (call (.builtin "isinstance") [u, c]) Q E s := by
  cases ty with
  | non => cases (show u = Value.none from rx); exact PySem.W.kia_one PySem.W.kitx_none I.kIn True.intro e (fun z => nomatch z) h
  | bl y => cases (show u = Value.bool y from rx); exact PySem.W.kia_one PySem.W.kitx_bool I.kIn True.intro e (fun z => nomatch z) h
  | int i => obtain ⟨t, q⟩ := (show ∃ t, u = Value.int i t from rx); cases q; exact PySem.W.kia_one PySem.W.kitx_int I.kIn True.intro e (fun z => nomatch z) h
  | str y => obtain ⟨t, q⟩ := (show ∃ t, u = Value.str y t from rx); cases q; exact PySem.W.kia_one PySem.W.kitx_str I.kIn True.intro e (fun z => nomatch z) h
  | flt y => obtain ⟨t, q⟩ := (show ∃ t, u = Value.float y t from rx); cases q; exact PySem.W.kia_one PySem.W.kitx_float I.kIn True.intro e (fun z => nomatch z) h
  | @lst a xs ea =>
    cases (show u = Value.ref a from rx)
    obtain ⟨_, _, n, _, h1⟩ := (show ObjOk X.prog X.w H s.heap a (.lst xs) from I.hok a _ ea)
    exact PySem.W.kia_one PySem.W.kitx_list I.kIn ⟨_, h1, rfl⟩ e (fun z => nomatch z) h
  | @frz a ob xs ea =>
    cases (show u = Value.ref a from rx)
    obtain ⟨_, _, _, n, _, h1⟩ := (show ObjOk X.prog X.w H s.heap a (.frz ob (.lst xs)) from I.hok a _ ea)
    exact PySem.W.kia_one PySem.W.kitx_list I.kIn ⟨_, h1, rfl⟩ e (fun z => nomatch z) h
  | @tup a xs ea =>
    cases (show u = Value.ref a from rx)
    obtain ⟨_, _, _, p⟩ := (show ObjOk X.prog X.w H s.heap a (.tup xs) from I.hok a _ ea)
    obtain ⟨o, h1, h2, _⟩ := p
    exact PySem.W.kia_one PySem.W.kitx_tuple I.kIn ⟨o, h1, h2⟩ e (fun z => nomatch z) h
  | @dK a kvs ea =>
    cases (show u = Value.ref a from rx)
    obtain ⟨_, _, vs, _, p⟩ := (show ObjOk X.prog X.w H s.heap a (.dK kvs) from I.hok a _ ea)
    obtain ⟨o, es, ep, h1, h2, _⟩ := p
    exact PySem.W.kia_one PySem.W.kitx_dict I.kIn ⟨o, h1, h2.1⟩ e (fun z => nomatch z) h
  | @dT a kvs ea =>
    cases (show u = Value.ref a from rx)
    obtain ⟨_, _, xs, _, o, es, ep, h1, h2, _⟩ := (show ObjOk X.prog X.w H s.heap a (.dT kvs) from I.hok a _ ea)
    exact PySem.W.kia_one PySem.W.kitx_dict I.kIn ⟨o, h1, h2.1⟩ e (fun z => nomatch z) h
  | @ins a C dx fs ea cl ha hn htk hm =>
    cases (show u = Value.ref a from rx)
    obtain ⟨mA, O, _⟩ := ins_get I.hok ea
    obtain ⟨od, J, _⟩ := O.look
    exact PySem.W.kia_one (PySem.W.kitx_own (cl.get _) cl.hd ha hn htk hm) I.kIn J e (fun z => nomatch z) h
end
end L2

namespace L2
open PySem PySem.Spec PyProof.Rows

structure Room (k : Nat) (A : Around) : Prop where
  hd : A.handled = none
  dp : A.depth + 3 * k + 5 < recursionLimit
  un : A.units + 16 * k + 200 < cLine
theorem Room.mono {j k : Nat} {A : Around} (r : Room k A) (h : j ≤ k) : Room j A := ⟨r.hd, by have := r.dp; omega, by have := r.un; omega⟩
theorem Room.deeper {k : Nat} {A : Around} (r : Room (k + 1) A) (env : Env) : Room k (A.deeper env) :=
  ⟨r.hd, by have := r.dp; show A.depth + 1 + 3 * k + 5 < _; omega, by have := r.un; show A.units + 3 + 16 * k + 200 < _; omega⟩
theorem Room.depth {k : Nat} {A : Around} (r : Room k A) : A.depth < recursionLimit := by have := r.dp; omega
theorem Room.units {k : Nat} {A : Around} (r : Room k A) : A.units + 64 < cLine := by have := r.un; omega
def tNil : TA := fun _ H Q => Q [] H
def tCons (ta : TE) (tr : TA) : TA := fun σ H Q => ta σ H fun x H1 => tr σ H1 fun xs H2 => Q (x :: xs) H2
section
variable {X : Cx} {e : Expr} {es : List Expr} {te : TE} {t : TA} {pos : Pos}
theorem pa_nil : PA X [] tNil := fun _ _ _ _ H Q I h => Calls.spliced_nil ⟨[], H, I, .nil, h⟩
theorem pa_cons (ha : PE X e te) (hr : PA X es t) (hs : starEach (e :: es) X.env = (false, eval e X.env) :: starEach es X.env := by rfl) : PA X (e :: es) (tCons te t) := by
  intro pos pins s σ H Q I h
  rw [hs]
  show wpAny _ _ (spliced ((false, eval e X.env) :: backTo pos (starEach es X.env))) _ _ s
  refine Calls.spliced_cons (thn (ha pins s σ H _ I h) fun u s1 ⟨x, H1, I1, r1, q1⟩ => ?_)
  exact thn (hr pos pins s1 σ H1 _ I1 q1) fun us s2 ⟨xs, H2, I2, r2, q2⟩ => ⟨x :: xs, H2, I2, .cons r1 r2, q2⟩

def tLst (t : TA) : TE := fun σ H Q => t σ H fun xs H1 => xs.length ≤ sizeLine ∧ ∀ p, H1 p = none → Q (.ref p) (upd H1 p (.lst xs))
theorem pe_lst (h : PA X es t) : PE X (.List es pos) (tLst t) := by
  intro pins s σ H Q I hq
  refine wpAny_List_spliced (thn (h pos pins s σ H _ I hq) fun us s1 ⟨xs, H1, I1, r, z, q⟩ => ⟨by rw [← r.length]; exact z, ?_⟩)
  have hf : H1 s1.heap.objs.size = none := I1.hok.fresh (Nat.le_refl _)
  refine ⟨.ref s1.heap.objs.size, upd H1 s1.heap.objs.size (.lst xs), I1.laid (t' := s1.toks) (fun b u e => Heap.get?_push_of_some _ e) (Nat.le_refl _) ?_, rfl, q _ hf⟩
  exact ⟨z, us, 0, r, Heap.get?_push_size _ rfl⟩
end

abbrev Sp := List V → Hp → VK → XK → Prop
abbrev CXT := List Env → Hp → Shared → XK → Value → Shared → Prop

structure Env0 (P : Program) (w : World) (K : PySem.W.Frag) (mg : Str → Option Value) (base : Heap) (A : Around) (outer : List Env) (s : Shared) (H : Hp) : Prop where
  frames : A.frames = some outer
  mod : Mod K mg base
  bs : ∀ b o, base.get? b = some o → s.heap.get? b = some o ∧ H b = none
  bsz : base.objs.size ≤ s.heap.objs.size
  funs : s.heap.FunFrames base outer
  frf : ∀ b ∈ frs outer, H b = none
  hok : HOk P w H s.heap
  bare : AllBare s.gens
def CE (outer : List Env) (P : Program) (w : World) (H : Hp) (s : Shared) (Q : VK) (u : Value) (s' : Shared) : Prop :=
  ∃ v H', s'.os = s.os ∧ AllBare s'.gens ∧ Un (frs outer) [] H H' s.heap s'.heap ∧ HOk P w H' s'.heap ∧ RelV v u ∧ Q v H'
def CR (CX : CXT) (outer : List Env) (P : Program) (w : World) (H : Hp) (s : Shared) (Q : VK) (E : XK) (r : Result) (s' : Shared) : Prop :=
  match r with
  | .ok (.ret u) => CE outer P w H s Q u s'
  | .ok _ => False
  | .error e => CX outer H s E e s'
structure FnOk (P : Program) (w : World) (K : PySem.W.Frag) (mg : Str → Option Value) (base : Heap) (CX : CXT) (k : Nat) (f : Addr) (fd : FuncData) (ps : List Str) (sp : Sp) : Prop where
  len : ∀ vs H Q E, sp vs H Q E → vs.length = ps.length
  run : ∀ (A : Around) (outer : List Env) (s : Shared) (H : Hp) (args : Args) (us : List Value) (vs : List V) (Q : VK) (E : XK), Room k A → Env0 P w K mg base A outer s H → BindsTo s fd args (ps.zip us) → Vals vs us → sp vs H Q E →
    codeAny (model P w) A (.call (.ref f) args) (CR CX outer P w H s Q E) s
theorem FnOk.mono {P : Program} {w : World} {K : PySem.W.Frag} {mg : Str → Option Value} {base : Heap} {CX : CXT} {j k : Nat} {f : Addr} {fd : FuncData} {ps : List Str} {sp : Sp} (F : FnOk P w K mg base CX j f fd ps sp) (h : j ≤ k) :
    FnOk P w K mg base CX k f fd ps sp := ⟨F.len, fun A outer s H args us vs Q E hr => F.run A outer s H args us vs Q E (hr.mono h)⟩
theorem FnOk.imp {P : Program} {w : World} {K : PySem.W.Frag} {mg : Str → Option Value} {base : Heap} {CX : CXT} {k : Nat} {f : Addr} {fd : FuncData} {ps : List Str} {sp sp' : Sp} (F : FnOk P w K mg base CX k f fd ps sp)
    (h : ∀ vs H Q E, sp' vs H Q E → sp vs H Q E) : FnOk P w K mg base CX k f fd ps sp' :=
  ⟨fun vs H Q E q => F.len vs H Q E (h _ _ _ _ q), fun A outer s H args us vs Q E hr he hb hv hs => F.run A outer s H args us vs Q E hr he hb hv (h _ _ _ _ hs)⟩

section
variable {X : Cx} {pins : List (Addr × Obj)} {σ : St} {H : Hp} {s s' : Shared}
theorem Inv.env0 (I : Inv X pins σ H s) : Env0 X.prog X.w X.K X.mg X.base X.A X.stack s H :=
  ⟨I.ok.frames, I.ok.mod, I.bs, Nat.le_trans I.ok.bsz I.sz, I.stack, I.stkFree, I.hok, I.bare⟩
theorem Inv.after {Q : VK} {u : Value} (I : Inv X pins σ H s) (h : CE X.stack X.prog X.w H s Q u s') : EP X pins σ Q u s' := by
  obtain ⟨v, H', os, bare, un, hok, r, q⟩ := h
  obtain ⟨hh, g, d, t, os'⟩ := s'
  obtain rfl : os' = s.os := os
  exact ⟨v, H', I.call (h' := hh) (g' := g) (d' := d) (t' := t) (ch := []) un hok bare (fun b z => absurd z (by simp)), r, q⟩
end

def tCall (sp : Sp) (dvs : List V) (E : XK) (t : TA) : TE := fun σ H Q => t σ H fun vs H1 => sp (vs ++ dvs) H1 Q E
def Binds (K : PySem.W.Frag) (fd : FuncData) (ps : List Str) (ds : List Value) : Prop :=
  ∀ (s : Shared) (us : List Value), K.In s.heap → (us ++ ds).length = ps.length → BindsTo s fd ⟨us, []⟩ (ps.zip (us ++ ds))
theorem Binds.all {K : PySem.W.Frag} {fd : FuncData} {ps : List Str} (h : ∀ us : List Value, us.length = ps.length → bindArgs fd ⟨us, []⟩ = pure (ps.zip us)) : Binds K fd ps [] := fun s us _ hl => by
  rw [List.append_nil] at hl ⊢
  exact .of_eq (h us hl)

def Passes (CX : CXT) (X : Cx) (E : XK) : Prop := ∀ (pins : List (Addr × Obj)) (σ : St) (H : Hp) (s : Shared) (e : Value) (s' : Shared), Inv X pins σ H s → CX X.stack H s E e s' → X.xe e s'

section
variable {X : Cx} {CX : CXT} {k : Nat} {f C : Addr} {fd : FuncData} {ps : List Str} {sp : Sp} {dvs : List V} {ds : List Value} {E : XK} {x m : Str} {p pos apos : Pos} {e o : Expr} {es : List Expr} {ta : TE} {t : TA}

theorem run_fn {pins : List (Addr × Obj)} {σ : St} {H : Hp} {s : Shared} {Q : VK} {us : List Value} {vs : List V} (F : FnOk X.prog X.w X.K X.mg X.base CX k f fd ps sp) (hr : Room k X.A) (hb : Binds X.K fd ps ds) (hd : Vals dvs ds) (hx : Passes CX X E)
    (I : Inv X pins σ H s) (r : Vals vs us) (h : sp (vs ++ dvs) H Q E) : wpAny (model X.prog X.w) X.A (call (.ref f) us) (EP X pins σ Q) X.xe s := by
  have r2 : Vals (vs ++ dvs) (us ++ ds) := r.append hd
  have hl : (us ++ ds).length = ps.length := by rw [← r2.length]; exact F.len _ _ _ _ h
  refine wpAny_call (codeAny_mono (F.run X.A X.stack s H ⟨us, []⟩ (us ++ ds) (vs ++ dvs) Q E hr I.env0 (hb s us I.kIn hl) r2 h) fun r s' hq => ?_)
  cases r with
  | error e => exact hx pins σ H s e s' I hq
  | ok fl =>
    cases fl with
    | ret u => exact I.after hq
    | next => exact False.elim hq
    | brk => exact False.elim hq
    | cont => exact False.elim hq

theorem pe_call (F : FnOk X.prog X.w X.K X.mg X.base CX k f fd ps sp) (hr : Room k X.A) (hg : Gl X x) (hm : X.mg x = some (.ref f)) (hk : PySem.W.keepIn X.K (.ref f) = true) (hb : Binds X.K fd ps ds) (hd : Vals dvs ds) (hx : Passes CX X E)
    (ha : PA X (e :: es) t) (hdb : (x == ("__debug__" : Str)) = false := by decide) (he : starEach (e :: es) X.env = (false, eval e X.env) :: starEach es X.env := by rfl) (hpl : (backTo pos (starEach es X.env)).any (·.1) = false := by rfl) :
    PE X (.Call (.Name x p) (e :: es) [] pos) (tCall sp dvs E t) := by
  intro pins s σ H Q I h
  refine wpAny_Call_Name_kw (ld_glob I hg hm ?_ hdb)
  refine PySem.W.callWith_K (h₀ := X.base) I.ok.mod.kin hk (thn (ha pos pins s σ H _ I h) fun us s1 ⟨vs, H1, I1, r, q⟩ => ⟨I1.kIn, ?_⟩) he hpl
  exact run_fn F hr hb hd hx I1 r q
end

section
variable {X : Cx} {CX : CXT} {k : Nat} {f C : Addr} {fd : FuncData} {ps ks : List Str} {sp : Sp} {E : XK} {x m : Str} {p pos apos kpos : Pos} {e o : Expr} {es : List Expr} {kws : List Keyword} {te ta : TE} {t tk : TA} {nm : Option Str}
variable {g : List Value → List Value → List Value} {gV : List V → List V → List V}
end

structure FnScope (N P : List Str) (sc : Scope) : Prop where
  kind : sc.kind = .function
  co : sc.isCoroutine = false
  gen : sc.isGenerator = false
  nd : N.Nodup
  pre : N.take P.length = P
  par : ∀ x ∈ P, sc.names.lookup x = some .local ∨ sc.names.lookup x = some .cell
  nofree : ∀ y ∈ sc.names, y.2 ≠ .free

theorem bindL_out {kindOf : Str → Option NameKind} {x : Str} : ∀ {binds : List (Str × Value)} {m : Str → Option Value}, (∀ v, (x, v) ∉ binds) → bindL kindOf binds m x = m x
  | [], _, _ => rfl
  | (n, v) :: r, m, h => by
    unfold bindL
    rw [bindL_out fun w hw => h w (List.mem_cons_of_mem _ hw)]
    split
    · have : x ≠ n := by rintro rfl; exact h v List.mem_cons_self
      simp [this]
    · rfl
theorem bindC_out {kindOf : Str → Option NameKind} {x : Str} : ∀ {binds : List (Str × Value)} {m : Str → Option Value}, (∀ v, (x, v) ∉ binds) → bindC kindOf binds m x = m x
  | [], _, _ => rfl
  | (n, v) :: r, m, h => by
    unfold bindC
    rw [bindC_out fun w hw => h w (List.mem_cons_of_mem _ hw)]
    split
    · rfl
    · have : x ≠ n := by rintro rfl; exact h v List.mem_cons_self
      simp [this]
theorem bindL_get {kindOf : Str → Option NameKind} {x : Str} {v : Value} : ∀ {P : List Str} {vs : List Value} {i : Nat} {m : Str → Option Value}, P.Nodup → P[i]? = some x → vs[i]? = some v → kindOf x = some .local →
    bindL kindOf (P.zip vs) m x = some v
  | [], _, _, _, _, h, _, _ => by simp at h
  | _ :: _, [], _, _, _, _, h, _ => by simp at h
  | p :: P, w :: vs, 0, m, nd, h1, h2, hk => by
    simp at h1 h2; subst h1; subst h2
    show bindL kindOf ((p, w) :: P.zip vs) m p = _
    unfold bindL
    rw [bindL_out fun v hv => (List.nodup_cons.mp nd).1 (List.of_mem_zip hv).1, if_pos hk]
    simp
  | p :: P, w :: vs, i + 1, m, nd, h1, h2, hk => by
    show bindL kindOf ((p, w) :: P.zip vs) m x = _
    unfold bindL
    exact bindL_get (i := i) (List.nodup_cons.mp nd).2 (by simpa using h1) (by simpa using h2) hk
theorem bindC_get {kindOf : Str → Option NameKind} {x : Str} {v : Value} : ∀ {P : List Str} {vs : List Value} {i : Nat} {m : Str → Option Value}, P.Nodup → P[i]? = some x → vs[i]? = some v → kindOf x ≠ some .local →
    bindC kindOf (P.zip vs) m x = some v
  | [], _, _, _, _, h, _, _ => by simp at h
  | _ :: _, [], _, _, _, _, h, _ => by simp at h
  | p :: P, w :: vs, 0, m, nd, h1, h2, hk => by
    simp at h1 h2; subst h1; subst h2
    show bindC kindOf ((p, w) :: P.zip vs) m p = _
    unfold bindC
    rw [bindC_out fun v hv => (List.nodup_cons.mp nd).1 (List.of_mem_zip hv).1, if_neg hk]
    simp
  | p :: P, w :: vs, i + 1, m, nd, h1, h2, hk => by
    show bindC kindOf ((p, w) :: P.zip vs) m x = _
    unfold bindC
    exact bindC_get (i := i) (List.nodup_cons.mp nd).2 (by simpa using h1) (by simpa using h2) hk

def start (N : List Str) (vs : List V) : St := vs.map some ++ List.replicate (N.length - vs.length) none

def cxOf (CX : CXT) (P : Program) (w : World) (K : PySem.W.Frag) (mg : Str → Option Value) (base : Heap) (N : List Str) (qual : Str) (scope : Scope) (f : Addr) (cd : Value) (A : Around) (outer : List Env) (s : Shared) (H : Hp) (E : XK) : Cx where
  prog := P
  w := w
  K := K
  mg := mg
  base := base
  A := A.deeper (envOfC qual scope s.heap.objs.size f cd)
  N := N
  s₀ := s
  H₀ := H
  env := envOfC qual scope s.heap.objs.size f cd
  outer := outer
  stack := envOfC qual scope s.heap.objs.size f cd :: outer
  ex := []
  calm := true
  fn := fun _ => true
  pn := []
  xe := fun e s' => wpAny (model P w) (A.deeper (envOfC qual scope s.heap.objs.size f cd)) (leaving (envOfC qual scope s.heap.objs.size f cd) e) (fun _ s'' => CX outer H s E e s'') (fun e' s'' => CX outer H s E e' s'') s'

theorem cell_has {sc : Scope} {n : Nat} {x : Str} (h : sc.names.lookup x = some .cell) : ∃ c, (cellsFrom n sc.names []).lookup x = some c := by
  have q := PySem.W.cellsFrom_some sc.names n [] (.inl h)
  exact Option.isSome_iff_exists.mp q

theorem inv_start {CX : CXT} {P : Program} {w : World} {K : PySem.W.Frag} {mg : Str → Option Value} {base : Heap} {N ps : List Str} {qual : Str} {scope : Scope} {f : Addr} {cd : Value} {A : Around} {outer : List Env} {s s1 : Shared} {H : Hp} {E : XK} {us : List Value} {vs : List V}
    (S : FnScope N ps scope) (hd : A.handled = none) (e0 : Env0 P w K mg base A outer s H) (hl : vs.length = ps.length) (r : Vals vs us)
    (x : InCallC s s.heap.objs.size (bindL (envOfC qual scope s.heap.objs.size f cd).kindOf (ps.zip us) fun _ => none) (cellsFrom (s.heap.objs.size + 1) scope.names []) (bindC (envOfC qual scope s.heap.objs.size f cd).kindOf (ps.zip us) fun _ => none) s1) :
    Inv (cxOf CX P w K mg base N qual scope f cd A outer s H E) [] (start N vs) H s1 := by
  have hpl : ps.length ≤ N.length := by have := congrArg List.length S.pre; rw [List.length_take] at this; omega
  obtain ⟨h1, tk, rfl, hk⟩ := x.done
  have noA : ∀ b : Addr, b ∉ (cxOf CX P w K mg base N qual scope f cd A outer s H E).ex := fun b z => absurd (show b ∈ ([] : List Addr) from z) (by simp)
  refine ⟨⟨e0.mod, S.kind, rfl, rfl, Nat.le_refl _, fun y z c h1 h2 => ?_, fun y hy => ?_, fun y c _ h => ?_, fun _ => hd, Around.frames_deeper e0.frames, .inr ⟨rfl, rfl⟩, fun b z => absurd z (noA b), e0.bs, e0.bsz, fun b _ _ => noA b, fun b z => absurd z (noA b), e0.funs, e0.frf⟩,
    rfl, e0.bare, Un.kept hk, ⟨_, x.toInCall.ns, fun i y v h1 h2 h3 => ?_⟩, fun y c h => ⟨_, x.cell y c h⟩, e0.hok.fresh (Nat.le_refl _), fun y c h => ?_, fun p hp => absurd (show p ∈ ([] : List (Addr × Obj)) from hp) (by simp), e0.hok.kept hk, ?_⟩
  · exact name_of_addr x.apart (PySem.mem_of_lookup h1) (PySem.mem_of_lookup h2)
  · have hy : scope.names.lookup y = some .cell ∨ scope.names.lookup y = some .free := hy
    rcases hy with hy | hy
    · exact cell_has hy
    · exact absurd rfl (S.nofree _ (PySem.mem_of_lookup hy))
  · exact Nat.le_of_lt (x.above y c (PySem.mem_of_lookup h))
  · have hi : i < vs.length := by
      unfold start at h2
      by_cases hi : i < vs.length
      · exact hi
      · rw [List.getElem?_append_right (by simpa using hi)] at h2
        rw [List.getElem?_replicate] at h2
        split at h2 <;> cases h2
    have ha : vs[i]? = some v := by
      unfold start at h2
      rw [List.getElem?_append_left (by simpa using hi), List.getElem?_map] at h2
      cases e : vs[i]? with
      | none => rw [e] at h2; cases h2
      | some a => rw [e] at h2; cases h2; rfl
    obtain ⟨u, hu, rv⟩ := r.get ha
    have hp : ps[i]? = some y := by
      rw [← S.pre, List.getElem?_take_of_lt (by omega)]; exact h1
    have ndP : ps.Nodup := by rw [← S.pre]; exact S.nd.sublist (List.take_sublist _ _)
    refine ⟨u, rv, ?_⟩
    rcases S.par y (List.mem_of_getElem? hp) with k | k
    · exact .inl ⟨k, bindL_get ndP hp hu k⟩
    · obtain ⟨c, e⟩ := cell_has (n := s.heap.objs.size + 1) k
      refine .inr ⟨.inl k, c, e, ?_⟩
      have q := x.cell y c e
      rw [bindC_get ndP hp hu (by show scope.names.lookup y ≠ _; rw [k]; decide)] at q
      exact q
  · exact e0.hok.fresh (Nat.le_of_lt (x.above y c (PySem.mem_of_lookup h)))
  · unfold start
    show _ = N.length
    rw [List.length_append, List.length_map, List.length_replicate]
    omega

theorem fn_of {CX : CXT} {P : Program} {w : World} {K : PySem.W.Frag} {mg : Str → Option Value} {base : Heap} {k : Nat} {f : Addr} {name qual : Str} {params : Arguments} {body : List Stmt} {scope : Scope} {dV kV doc pm cdv ct oc : Value} {an od : Option Addr}
    {osl : Array (Option Value)} {N ps : List Str} {sp : Sp} (lk : K.lookup f = some ⟨oc, od, .func (PySem.W.fnOf name qual params body scope dV kV doc pm an cdv ct), osl⟩) (hcd : PySem.W.codeIn K cdv qual = true) (S : FnScope N ps scope)
    (len : ∀ vs H Q E, sp vs H Q E → vs.length = ps.length)
    (hbody : ∀ (A : Around) (outer : List Env) (s : Shared) (H : Hp) (vs : List V) (Q : VK) (E : XK), Room k (A.deeper (envOfC qual scope s.heap.objs.size f cdv)) → sp vs H Q E →
      ∃ t, PSs (cxOf CX P w K mg base N qual scope f cdv A outer s H E) body t ∧ t { nx := fun _ H' => Q .non H', rt := Q } (start N vs) H) :
    FnOk P w K mg base CX (k + 1) f (PySem.W.fnOf name qual params body scope dV kV doc pm an cdv ct) ps sp := by
  refine ⟨len, fun A outer s H args us vs Q E hr e0 hb r hsp => ?_⟩
  have hl := len _ _ _ _ hsp
  have KX : K.In s.heap := e0.mod.kin.keeps fun b o e => (e0.bs b o e).1
  have lim : s.heap.NoLimit := e0.mod.nolimit.keeps fun b o e => (e0.bs b o e).1
  have hkind : ∀ y ∈ ps.zip us, scope.names.lookup y.1 = some .local ∨ (scope.names.lookup y.1 = some .cell ∧ ((cellsFrom (s.heap.objs.size + 1) scope.names []).lookup y.1).isSome = true) := fun ⟨n, v⟩ hy => by
    rcases S.par n (List.of_mem_zip hy).1 with q | q
    · exact .inl q
    · exact .inr ⟨q, PySem.W.cellsFrom_some _ _ _ (.inl q)⟩
  refine codeAny_call_function hr.depth (KX _ _ lk) rfl S.co S.gen rfl (PySem.W.codeRec_of KX hcd) (hb _ _ _ _ ?_)
  refine wpAny_newFunctionEnv_cells S.kind hkind fun env he s1 x => ?_
  subst he
  refine ⟨lim.keeps x.toInCall.keep, codeAny_func ?_⟩
  obtain ⟨t, ht, hq⟩ := hbody A outer s H vs Q E (hr.deeper _) hsp
  have I : Inv (cxOf CX P w K mg base N qual scope f cdv A outer s H E) [] (start N vs) H s1 := inv_start S hr.hd e0 hl r x
  refine wpAny_mono (ht [] s1 (start N vs) H _ I hq) (fun fl s' hs => ?_) fun e s' hs => hs
  have fin : ∀ {σ' : St} {H' : Hp} {v : V} {u : Value}, Inv (cxOf CX P w K mg base N qual scope f cdv A outer s H E) [] σ' H' s' → RelV v u → Q v H' → CE outer P w H s Q u s' :=
    fun {σ' H' v u} J rv q => ⟨v, H', J.os, J.bare, J.base, J.hok, rv, q⟩
  cases fl with
  | ret u =>
    obtain ⟨v, σ', H', J, rv, q⟩ := hs
    exact fin J rv q
  | next =>
    obtain ⟨σ', H', J, q⟩ := hs
    exact fin (v := V.non) (u := Value.none) J rfl q
  | brk =>
    obtain ⟨_, _, _, q⟩ := hs
    exact False.elim q
  | cont =>
    obtain ⟨_, _, _, q⟩ := hs
    exact False.elim q
end L2

namespace L2
open PySem PySem.Spec PyProof.Rows
section
variable {X : Cx} {x : Str} {p pos : Pos} {e : Expr} {es : List Expr} {t : TA} {id T : String} {r : List V → Hp → VK → Prop}

def tCB (r : List V → Hp → VK → Prop) (t : TA) : TE := fun σ H Q => t σ H fun vs H1 => r vs H1 Q
theorem pe_callB (hc : CallR X (.builtin id) r) (hg : Gl X x) (hm : X.mg x = none) (hv : bootBuiltins x = some (.builtin id)) (ha : PA X (e :: es) t) (hn : x ≠ "__name__" := by decide) (hdb : (x == ("__debug__" : Str)) = false := by decide)
    (he : starEach (e :: es) X.env = (false, eval e X.env) :: starEach es X.env := by rfl) (hpl : (backTo pos (starEach es X.env)).any (·.1) = false := by rfl) : PE X (.Call (.Name x p) (e :: es) [] pos) (tCB r t) := by
  intro pins s σ H Q I h
  refine wpAny_Call_Name_kw (ld_blt I hg hm hv ?_ hn hdb)
  exact PyProof.Rows.callWith_builtin1 (thn (ha pos pins s σ H _ I h) fun us s1 ⟨vs, H1, I1, r1, q1⟩ => hc pins s1 σ H1 vs us Q I1 r1 q1) he hpl
end
end L2

namespace HT
open PySem PyProof.Rows

section
open PySem.SeqAt
open PySem.AutoSeq1 (wpAny_loadPart')
open PySem.MeetsSeq PySem.MeetsSeq2 PySem.MeetsSeq3

end

section
variable {prog : Program} {w : World} {A : Around} {E : Value → Shared → Prop} {s : Shared}

def sIx (n d : Nat) : Option Int → Nat
  | none => d
  | some v => if v < 0 then (v + (n : Int)).toNat else min v.toNat n
end
end HT

namespace L2
open PySem PySem.Spec PyProof.Rows

abbrev TO := St → Hp → (Option Int → Hp → Prop) → Prop
def PO (X : Cx) (e : Option Expr) (t : TO) : Prop :=
  ∀ (pins : List (Addr × Obj)) (s : Shared) (σ : St) (H : Hp) (Q : Option Int → Hp → Prop), Inv X pins σ H s → t σ H Q →
    wpAny (model X.prog X.w) X.A (evalPart e X.env) (fun u s' => ∃ o H', Inv X pins σ H' s' ∧ IsPart u o ∧ Q o H') X.xe s
def tPart (t : TE) : TO := fun σ H Q => t σ H fun x H1 => ∃ i, x = .int i ∧ Q (some i) H1

section
variable {X : Cx} {e : Expr} {te : TE} {lo hi : Option Expr} {tl th : TO} {pos p2 : Pos}

theorem po_some (h : PE X e te) : PO X (some e) (tPart te) := by
  intro pins s σ H Q I hw
  rw [evalPart_some]
  refine thn (h pins s σ H _ I hw) fun u s1 ⟨x, H1, I1, r1, q1⟩ => ?_
  obtain ⟨i, rfl, q⟩ := q1
  obtain ⟨t, rfl⟩ := r1
  exact ⟨some i, H1, I1, .int i t, q⟩

def SlR (X : Cx) (r : V → Option Int → Option Int → Hp → VK → Prop) : Prop :=
  ∀ (pins : List (Addr × Obj)) (s : Shared) (σ : St) (H : Hp) (x : V) (v vl vu : Value) (lo hi : Option Int) (sl : Addr) (Q : VK), Inv X pins σ H s → RelV x v → s.heap.IsSliceOf sl vl vu .none → IsPart vl lo → IsPart vu hi → r x lo hi H Q →
    ∃ T id, typeLookup (.type T) "__getitem__" = pure (some (.builtin id)) ∧ s.TypeIs v T ∧ wpAny (model X.prog X.w) X.A (getItem v (.ref sl)) (EP X pins σ Q) X.xe s
theorem SlR.or {r r' : V → Option Int → Option Int → Hp → VK → Prop} (h : SlR X r) (h' : SlR X r') : SlR X (fun x lo hi H Q => r x lo hi H Q ∨ r' x lo hi H Q) := by
  intro pins s σ H x v vl vu lo hi sl Q I rx hs pl pu q
  rcases q with q | q
  · exact h pins s σ H x v vl vu lo hi sl Q I rx hs pl pu q
  · exact h' pins s σ H x v vl vu lo hi sl Q I rx hs pl pu q
def tSl (r : V → Option Int → Option Int → Hp → VK → Prop) (te : TE) (tl th : TO) : TE := fun σ H Q => te σ H fun x H1 => tl σ H1 fun l H2 => th σ H2 fun u H3 => r x l u H3 Q
theorem pe_slice {r : V → Option Int → Option Int → Hp → VK → Prop} (hr : SlR X r) (he : PE X e te) (hl : PO X lo tl) (hu : PO X hi th) : PE X (.Subscript e (.Slice lo hi none p2) pos) (tSl r te tl th) := by
  intro pins s σ H Q I h
  refine Subscript_ (thn (he pins s σ H _ I h) fun v s1 ⟨x, H1, I1, r1, q1⟩ => ?_)
  refine wpAny_Slice (thn (hl pins s1 σ H1 _ I1 q1) fun vl s2 ⟨l, H2, I2, pl, q2⟩ => thn (hu pins s2 σ H2 _ I2 q2) fun vu s3 ⟨u, H3, I3, pu, q3⟩ => ?_)
  rw [evalPart_none]
  refine wpAny_pure ?_
  have I4 : Inv X pins σ H3 { s3 with heap := s3.heap.push { cls := .type "slice", data := .fields #[vl, vu, .none] } } := I3.kept (t' := s3.toks) fun b ob q => Heap.get?_push_of_some _ q
  obtain ⟨T, id, hT, ht, hg⟩ := hr pins { s3 with heap := s3.heap.push { cls := .type "slice", data := .fields #[vl, vu, .none] } } σ H3 x v vl vu l u s3.heap.objs.size Q I4 r1 (Heap.IsSliceOf.new ..) pl pu q3
  show wpAny (model X.prog X.w) X.A (subscriptTail e (.Slice lo hi none p2) v (.ref s3.heap.objs.size)) (EP X pins σ Q) X.xe { s3 with heap := s3.heap.push { cls := .type "slice", data := .fields #[vl, vu, .none] } }
  exact tail_any (ops := [.ref s3.heap.objs.size, v]) ht hT hg (by with_unfolding_all rfl)

def cutV (xs : List V) (lo hi : Option Int) : List V := (xs.drop (HT.sIx xs.length 0 lo)).take (HT.sIx xs.length xs.length hi - HT.sIx xs.length 0 lo)
theorem cutV_length (xs : List V) (lo hi : Option Int) : (cutV xs lo hi).length ≤ xs.length := by
  unfold cutV
  rw [List.length_take, List.length_drop]
  omega
end
end L2

namespace L2
open PySem PySem.Spec PyProof.Rows

def ixN (n : Nat) (i : Int) : Option Nat := if 0 ≤ i then (if i < n then some i.toNat else none) else if -(n : Int) ≤ i then some (i + n).toNat else none
def atI {α : Type} (xs : List α) (i : Int) : Option α := (ixN xs.length i).bind fun j => xs[j]?
theorem ixN_seq {n : Nat} {i : Int} {j : Nat} (h : ixN n i = some j) : seqIndex? i n = some j ∧ j < n ∧ -(n : Int) ≤ i ∧ i < n := by
  unfold ixN at h
  by_cases h0 : 0 ≤ i
  · rw [if_pos h0] at h
    by_cases h1 : i < n
    · rw [if_pos h1] at h
      have e : i.toNat = j := Option.some.inj h
      exact ⟨by rw [seqIndex_of h0 h1, e], by omega, by omega, h1⟩
    · rw [if_neg h1] at h; cases h
  · rw [if_neg h0] at h
    by_cases h1 : -(n : Int) ≤ i
    · rw [if_pos h1] at h
      have e : (i + n).toNat = j := Option.some.inj h
      exact ⟨by rw [seqIndex_neg (by omega) h1, e], by omega, h1, by omega⟩
    · rw [if_neg h1] at h; cases h
theorem atI_get {α : Type} {xs : List α} {i : Int} {v : α} (h : atI xs i = some v) : ∃ j, seqIndex? i xs.length = some j ∧ xs[j]? = some v ∧ j < xs.length ∧ -(xs.length : Int) ≤ i ∧ i < xs.length := by
  unfold atI at h
  cases e : ixN xs.length i with
  | none => rw [e] at h; cases h
  | some j =>
    rw [e] at h
    obtain ⟨h1, h2, h3, h4⟩ := ixN_seq e
    exact ⟨j, h1, h, h2, h3, h4⟩
theorem atI_nat {α : Type} {xs : List α} {j : Nat} {v : α} (h : xs[j]? = some v) : atI xs (j : Int) = some v := by
  have hj : j < xs.length := (List.getElem?_eq_some_iff.mp h).1
  have e : ixN xs.length (j : Int) = some j := by
    unfold ixN
    rw [if_pos (by omega), if_pos (by omega)]; simp
  unfold atI; rw [e]; exact h
def PlainIx (b : Expr) : Prop := ∀ o i, subscripted b false o i = operate [o, i] (getItem o i)
def IxR (X : Cx) (r : R2) : Prop :=
  ∀ (value slice : Expr) (pins : List (Addr × Obj)) (s : Shared) (σ : St) (H : Hp) (x y : V) (v u : Value) (Q : VK), Inv X pins σ H s → RelV x v → RelV y u → r x y H Q →
    subscripted slice false v u = operate [v, u] (getItem v u) → wpAny (model X.prog X.w) X.A (subscriptTail value slice v u) (EP X pins σ Q) X.xe s
def MtR (X : Cx) (id : String) (r : V → List V → Hp → VK → Prop) : Prop :=
  ∀ (pins : List (Addr × Obj)) (s : Shared) (σ : St) (H : Hp) (x : V) (xs : List V) (v : Value) (us : List Value) (Q : VK), Inv X pins σ H s → RelV x v → Vals xs us → r x xs H Q →
    wpAny (model X.prog X.w) X.A (call (.builtin id) (v :: us)) (EP X pins σ Q) X.xe s
section
variable {X : Cx} {a b : Expr} {ta tb : TE} {pos : Pos}
theorem IxR.or {r r' : R2} (h : IxR X r) (h' : IxR X r') : IxR X (fun x y H Q => r x y H Q ∨ r' x y H Q) := by
  intro value slice pins s σ H x y v u Q I rx ry q hs
  rcases q with q | q
  · exact h value slice pins s σ H x y v u Q I rx ry q hs
  · exact h' value slice pins s σ H x y v u Q I rx ry q hs
theorem MtR.or {id : String} {r r' : V → List V → Hp → VK → Prop} (h : MtR X id r) (h' : MtR X id r') : MtR X id (fun x xs H Q => r x xs H Q ∨ r' x xs H Q) := by
  intro pins s σ H x xs v us Q I rx rs q
  rcases q with q | q
  · exact h pins s σ H x xs v us Q I rx rs q
  · exact h' pins s σ H x xs v us Q I rx rs q
theorem pe_ix {r : R2} (hr : IxR X r) (ha : PE X a ta) (hb : PE X b tb) (hs : PlainIx b) : PE X (.Subscript a b pos) (tOp r ta tb) := by
  intro pins s σ H Q I h
  exact Subscript_ (binT ha hb I h fun v u s2 x y H2 I2 rx ry q => hr a b pins s2 σ H2 x y v u Q I2 rx ry q (hs _ _))

def rIxL (K : PySem.W.Frag) : R2 := fun x y H Q => ∃ p xs i v, x = .ref p ∧ y = .int i ∧ SqL K H p xs ∧ atI xs i = some v ∧ Q v H
def rIxT (K : PySem.W.Frag) : R2 := fun x y H Q => ∃ p xs i v, x = .ref p ∧ y = .int i ∧ SqT K H p xs ∧ atI xs i = some v ∧ Q v H
theorem ix_list : IxR X (rIxL X.K) := by
  intro value slice pins s σ H x y v u Q I rx ry h hs
  obtain ⟨p, xs, i, z, rfl, rfl, hq, he, q⟩ := h
  cases rx
  obtain ⟨t, rfl⟩ := ry
  obtain ⟨its, r, pl, hz⟩ := I.list hq
  obtain ⟨j, h1, h2, h3, h4, h5⟩ := atI_get he
  obtain ⟨w, ew, rw'⟩ := r.get h2
  have hl := r.length
  have hn := line63
  have fin : EP X pins σ Q w s := ⟨z, H, I, rw', q⟩
  by_cases h0 : 0 ≤ i
  · have hj : i.toNat = j := by
      rw [seqIndex_of h0 h5] at h1
      exact Option.some.inj h1
    exact item_listR pl.isList h0 (by omega) (by rw [hj]; simpa using ew) fin hs
  · have hj : (i + (its.toArray.size : Int)).toNat = j := by
      rw [seqIndex_neg (by omega) h4] at h1
      rw [List.size_toArray, ← hl]
      exact Option.some.inj h1
    exact subscriptTail_builtinR (x := w) pl.isList.typeIs slot_list_getitem.lookup
      (wpAny_getItem_list_neg (Q := fun r s' => r = w ∧ EP X pins σ Q r s') pl.isList (by omega) (by rw [List.size_toArray] <;> omega) (by omega) (by rw [hj]; simpa using ew) ⟨rfl, fin⟩) hs
theorem ix_tup : IxR X (rIxT X.K) := by
  intro value slice pins s σ H x y v u Q I rx ry h hs
  obtain ⟨p, xs, i, z, rfl, rfl, hq, he, q⟩ := h
  cases rx
  obtain ⟨t, rfl⟩ := ry
  obtain ⟨its, r, pl, hz⟩ := I.tuple hq
  obtain ⟨j, h1, h2, h3, h4, h5⟩ := atI_get he
  obtain ⟨w, ew, rw'⟩ := r.get h2
  have hl := r.length
  have hn := line63
  have fin : EP X pins σ Q w s := ⟨z, H, I, rw', q⟩
  exact subscriptTail_builtinR (x := w) pl.typeIs slot_tuple_getitem.lookup
    (getItem_tuple (j := j) (Q := fun r s' => r = w ∧ EP X pins σ Q r s') pl (by omega) (by omega) (by rw [List.size_toArray, ← hl]; exact h1) (by simpa using ew) ⟨rfl, fin⟩) hs
theorem Inv.lst {pins : List (Addr × Obj)} {σ : St} {H : Hp} {s : Shared} {p : Addr} {xs : List V} (I : Inv X pins σ H s) (h : H p = some (.lst xs)) :
    ∃ (its : List Value) (n : Nat), Vals xs its ∧ s.heap.get? p = some { cls := .type "list", data := .seq its.toArray n } ∧ xs.length ≤ sizeLine := by
  obtain ⟨z, its, n, r, e⟩ := I.hok p _ h
  exact ⟨its, n, r, e, z⟩
theorem slice_bounds (lo hi : Option Int) (n : Nat) : (sliceBounds lo hi none n).1 = ((HT.sIx n 0 lo : Nat) : Int) ∧ (sliceBounds lo hi none n).2.1 = ((HT.sIx n n hi : Nat) : Int) ∧ (sliceBounds lo hi none n).2.2 = 1 := by
  refine ⟨?_, ?_, rfl⟩
  · cases lo with
    | none => simp [sliceBounds, HT.sIx]
    | some i =>
      simp only [sliceBounds, HT.sIx, Option.getD_none, show (1 : Int) > 0 by decide, if_true]
      by_cases h : i < 0
      · simp only [h, if_true] <;> omega
      · simp only [h, if_false] <;> omega
  · cases hi with
    | none => simp [sliceBounds, HT.sIx]
    | some i =>
      simp only [sliceBounds, HT.sIx, Option.getD_none, show (1 : Int) > 0 by decide, if_true]
      by_cases h : i < 0
      · simp only [h, if_true] <;> omega
      · simp only [h, if_false] <;> omega
theorem slicePick_cut (its : List Value) (lo hi : Option Int) : slicePick its.toArray lo hi none = ((its.drop (HT.sIx its.length 0 lo)).take (HT.sIx its.length its.length hi - HT.sIx its.length 0 lo)).toArray := by
  obtain ⟨h1, h2, h3⟩ := slice_bounds lo hi its.toArray.size
  unfold slicePick
  rw [h1, h2, h3]
  simp only [sliceRange_one, pick_run, List.size_toArray] <;> rfl
def rSlL (K : PySem.W.Frag) : V → Option Int → Option Int → Hp → VK → Prop := fun x lo hi H Q => ∃ a xs, x = .ref a ∧ SqL K H a xs ∧ ∀ p, H p = none → Q (.ref p) (upd H p (.lst (cutV xs lo hi)))
theorem sl_list : SlR X (rSlL X.K) := by
  intro pins s σ H x v vl vu lo hi sl Q I rx hs pl pu h
  obtain ⟨a, xs, rfl, hx, q⟩ := h
  cases rx
  obtain ⟨its, r, ht, hz⟩ := I.list hx
  have hlen := r.length
  refine ⟨"list", _, slot_list_getitem.lookup, ht.isList.typeIs, ?_⟩
  refine wpAny_getItem_list_slice ht.isList hs pl pu .none (by simp) ?_ (by rw [List.size_toArray] <;> omega)
  rw [slicePick_cut, ← hlen]
  refine ⟨.ref s.heap.objs.size, _, I.laid (t' := s.toks) (o := .lst (cutV xs lo hi)) (fun b ob q => Heap.get?_push_of_some _ q) (Nat.le_refl _) ?_, rfl, q _ (I.hok.fresh (Nat.le_refl _))⟩
  exact ⟨Nat.le_trans (cutV_length xs lo hi) hz, _, 0, (r.drop (HT.sIx xs.length 0 lo)).take (HT.sIx xs.length xs.length hi - HT.sIx xs.length 0 lo), Heap.get?_push_size _ rfl⟩

theorem call_len_seq : CallR X (.builtin "len") (fun xs H Q => ∃ p ys, xs = [.ref p] ∧ (SqL X.K H p ys ∨ SqT X.K H p ys) ∧ Q (.int ys.length) H) := by
  intro pins s σ H xs us Q I r h
  obtain ⟨p, ys, rfl, hq, q⟩ := h
  obtain ⟨u, rfl, rx⟩ := vals1 r
  cases rx
  have hn := line63
  rcases hq with hq | hq
  · obtain ⟨its, r', pl, hz⟩ := I.list hq
    have hlen := r'.length
    exact Calls.call_len_list pl.isList (by simp only [List.size_toArray] <;> omega) ⟨.int ys.length, H, I.tok _, ⟨s.toks + 1, by rw [List.size_toArray, hlen]⟩, q⟩
  · obtain ⟨its, r', pl, hz⟩ := I.tuple hq
    have hlen := r'.length
    exact len_tuple pl (by simp only [List.size_toArray] <;> omega) ⟨.int ys.length, H, I.tok _, ⟨s.toks + 1, by rw [List.size_toArray, hlen]⟩, q⟩
theorem CallR.or {f : Value} {r r' : List V → Hp → VK → Prop} (h : CallR X f r) (h' : CallR X f r') : CallR X f (fun xs H Q => r xs H Q ∨ r' xs H Q) := by
  intro pins s σ H xs us Q I rs q
  rcases q with q | q
  · exact h pins s σ H xs us Q I rs q
  · exact h' pins s σ H xs us Q I rs q
def tyV (K : PySem.W.Frag) (T : String) (x : V) (H : Hp) : Prop := match x with
  | .str _ => T = "str"
  | .int _ => T = "int"
  | .ref p => (T = "list" ∧ ∃ xs, SqL K H p xs) ∨ (T = "tuple" ∧ ∃ o, K.lookup p = some o ∧ o.cls = .type "tuple" ∧ o.dict = none) ∨
      (T = "dict" ∧ ((∃ kvs, H p = some (.dK kvs)) ∨ ∃ kvs, H p = some (.dT kvs))) ∨ (T = "set" ∧ ∃ S n, H p = some (.set S n))
  | _ => False
theorem tyV_is {pins : List (Addr × Obj)} {σ : St} {H : Hp} {s : Shared} {T : String} {x : V} {v : Value} (I : Inv X pins σ H s) (r : RelV x v) (ty : tyV X.K T x H) :
    s.TypeIs v T ∧ ∀ a, v = .ref a → ∃ ob, s.heap.get? a = some ob ∧ ob.dict = none := by
  cases x with
  | str z =>
    obtain ⟨t, rfl⟩ := r
    cases (show T = "str" from ty)
    exact ⟨typeIs_str s z t, fun _ e => nomatch e⟩
  | int i =>
    obtain ⟨t, rfl⟩ := r
    cases (show T = "int" from ty)
    exact ⟨typeIs_int s i t, fun _ e => nomatch e⟩
  | ref p =>
    cases r
    rcases ty with ⟨rfl, xs, hq⟩ | ⟨rfl, o, hk, hc, hd⟩ | ⟨rfl, hk⟩ | ⟨rfl, S, n, hk⟩
    · obtain ⟨its, _, pl, _⟩ := I.list hq
      refine ⟨pl.isList.typeIs, fun a e => ?_⟩
      cases e
      obtain ⟨o, n, e, c, hd, _⟩ := pl
      exact ⟨o, e, hd⟩
    · refine ⟨⟨o, I.kIn p o hk, hc⟩, fun a e => ?_⟩
      cases e
      exact ⟨o, I.kIn _ o hk, hd⟩
    · have z : ∃ o, s.heap.get? p = some o ∧ o.ExactDict := by
        rcases hk with ⟨kvs, hk⟩ | ⟨kvs, hk⟩
        · obtain ⟨_, _, _, _, o, _, _, e, ex, _⟩ := I.hok p _ hk
          exact ⟨o, e, ex⟩
        · obtain ⟨_, _, _, _, o, _, _, e, ex, _⟩ := I.hok p _ hk
          exact ⟨o, e, ex⟩
      obtain ⟨o, e, ex⟩ := z
      refine ⟨⟨o, e, ex.1⟩, fun a e2 => ?_⟩
      cases e2
      exact ⟨o, e, ex.2.1⟩
    · obtain ⟨o, _, _, _, e, ex, _⟩ := I.hok p _ hk
      refine ⟨⟨o, e, ex.1⟩, fun a e2 => ?_⟩
      cases e2
      exact ⟨o, e, ex.2.1⟩
  | _ => exact False.elim ty
def tBM (K : PySem.W.Frag) (T : String) (r : V → List V → Hp → VK → Prop) (to : TE) (t : TA) : TE := fun σ H Q => to σ H fun x H1 => tyV K T x H1 ∧ t σ H1 fun xs H2 => r x xs H2 Q
variable {o e : Expr} {es : List Expr} {to : TE} {t : TA} {name : Str} {apos cpos : Pos} {T id : String} {r : V → List V → Hp → VK → Prop}
theorem pe_bm (pa : PlainAttrs T) (slot : Slot T name id) (hty : typeOf (.builtin id) = pure (.type "method_descriptor")) (hm : MtR X id r) (ho : PE X o to) (ha : PA X (e :: es) t)
    (hbase : attributeBase o name X.env (eval o X.env) = eval o X.env := by rfl)
    (hfew : ((backTo cpos (starEach (e :: es) X.env)).all (fun x => !x.1) && (backToKw cpos (keywordEach [] X.env)).all (fun x => x.1.isSome)
      && decide ((e :: es).length + ([] : List Keyword).length + (if ([] : List Keyword).isEmpty then 0 else 1) < 30)) = true := by rfl)
    (hline : (apos.endLine == cpos.line) = true := by rfl) (hs : starEach (e :: es) X.env = (false, eval e X.env) :: starEach es X.env := by rfl) (hplain : (backTo cpos (starEach es X.env)).any (·.1) = false := by rfl) :
    PE X (.Call (.Attribute o name apos) (e :: es) [] cpos) (tBM X.K T r to t) := by
  intro pins s σ H Q I h
  refine wpAny_Call_method_late hbase hfew hline rfl (thn (ho pins s σ H _ I h) fun v s1 ⟨x, H1, I1, r1, ty, q1⟩ => ?_)
  obtain ⟨h1, h2⟩ := tyV_is I1 r1 ty
  refine ⟨T, id, pa, slot, hty, h1, h2, ?_⟩
  have hA := ha cpos pins s1 σ H1 _ I1 q1
  rw [hs] at hA ⊢
  refine Calls.callWith_builtin (by show (false || (backTo cpos (starEach es X.env)).any (·.1)) = false; rw [hplain] <;> rfl) (Calls.evalArgs_plain ?_)
  exact thn hA fun us s2 ⟨vs, H2, I2, r2, q2⟩ => hm pins s2 σ H2 x vs v us Q I2 r1 r2 q2
/- xs.append(e), list.index on a module's tuple .. are MtR facts of 06m -/
end
end L2

namespace L2
open PySem PySem.Spec PyProof.Rows

def MtM (X : Cx) (id : String) (r : V → List V → Hp → VK → Prop) : Prop :=
  ∀ (pins : List (Addr × Obj)) (s : Shared) (σ : St) (H : Hp) (x : V) (xs : List V) (v : Value) (us : List Value) (Q : VK), Inv X pins σ H s → RelV x v → Vals xs us → r x xs H Q →
    wpAny (model X.prog X.w) X.A (call (.builtin id) (v :: us)) (EP X pins σ Q) X.xe s

theorem Vals.one : ∀ {x : V} {us : List Value}, Vals [x] us → ∃ u, us = [u] ∧ RelV x u
  | _, _, .cons r .nil => ⟨_, rfl, r⟩
theorem Vals.two : ∀ {x y : V} {us : List Value}, Vals [x, y] us → ∃ u v, us = [u, v] ∧ RelV x u ∧ RelV y v
  | _, _, _, .cons r (.cons q .nil) => ⟨_, _, rfl, r, q⟩
theorem Vals.reverse {xs : List V} {us : List Value} (h : Vals xs us) : Vals xs.reverse us.reverse := by
  induction h with
  | nil => exact .nil
  | cons r t ih => rw [List.reverse_cons, List.reverse_cons]; exact Vals.append ih (.cons r .nil)
section
variable {X : Cx} {pins : List (Addr × Obj)} {σ : St} {H : Hp} {s : Shared} {l b : Addr} {xs ys zs : List V}

theorem Inv.lset {its its' : List Value} {n : Nat} {f : Array Value → Array Value} {t' : Nat} (I : Inv X pins σ H s) (hH : H l = some (.lst xs))
    (e : s.heap.get? l = some { cls := .type "list", data := .seq its.toArray n }) (hf : f its.toArray = its'.toArray) (hv : Vals ys its') (hz : ys.length ≤ sizeLine) :
    Inv X pins σ (upd H l (.lst ys)) { s with heap := s.heap.update l (Obj.mapSeq f), toks := t' } := by
  have q := PySem.IsL.update e f
  rw [hf] at q
  refine I.write (x := l) (e := l) (by rw [hH]; exact trivial) (.inl rfl) (fun b' u hb hu => (Heap.get?_update_other s.heap (Obj.mapSeq f) (Ne.symm hb)).trans hu) ⟨_, q⟩ ?_
  exact ⟨hz, its', _, hv, q⟩
theorem Inv.fresh (I : Inv X pins σ H s) : H s.heap.objs.size = none := I.hok.fresh (Nat.le_refl _)
theorem Inv.lstM (I : Inv X pins σ H s) (hH : H l = some (.lst xs)) : xs.length ≤ sizeLine ∧ ∃ (its : List Value) (n : Nat), Vals xs its ∧ xs.length = its.length ∧ s.heap.get? l = some { cls := .type "list", data := .seq its.toArray n } := by
  obtain ⟨z, its, n, r, e⟩ := I.hok l _ hH
  exact ⟨z, its, n, r, r.length, e⟩

end

section
variable {X : Cx}

def rAppend : V → List V → Hp → VK → Prop := fun x vs H Q => ∃ l xs y, x = .ref l ∧ vs = [y] ∧ H l = some (.lst xs) ∧ xs.length < sizeLine ∧ Q .non (upd H l (.lst (xs ++ [y])))
theorem mt_append : MtM X "list.append" rAppend := by
  intro pins s σ H x vs v us Q I rx rv h
  obtain ⟨l, xs, y, rfl, rfl, hH, hz, q⟩ := h
  cases rx
  obtain ⟨u, rfl, ru⟩ := rv.one
  obtain ⟨z, its, n, r, hl, e⟩ := I.lstM hH
  refine call_meets F.slot_list_append ⟨_, e, rfl⟩ F.entry_list_append (F.args_list_append_2 _ _) (PySem.list_append l its.toArray n u (by rw [List.size_toArray]; omega)) ⟨e, ?_⟩
  refine ⟨.non, _, I.lset (its' := its ++ [u]) hH e (by simp) (r.append (.cons ru .nil)) ?_, rfl, q⟩
  rw [List.length_append, List.length_singleton]
  omega

end

section
variable {prog : Program} {w : World} {A : Around} {E : Value → Shared → Prop} {s : Shared}
set_option maxRecDepth 100000 in
end

section
variable {X : Cx}
end
end L2

namespace Att
open PySem PySem.W PySem.Calls PyProof.Rows

theorem ints_of_wellAll {P : Params} {h : Heap} : ∀ (ns : List Int) (vs : List Value), WellAll P h vs (ns.map WData.int) → IntsAre vs ns := by
  intro ns
  induction ns with
  | nil =>
    intro vs w
    rw [List.map_nil] at w
    cases w
    exact .nil
  | cons n ns ih =>
    intro vs w
    rw [List.map_cons] at w
    cases w with
    | cons a b =>
      cases a
      exact .cons _ _ (ih _ b)

theorem script_of {l : OpenLaw} {n : Nat} (hn : l.most = some n) {P : Params} {h : Heap} {args : List WData} {vals : List Value}
    (hpre : l.row.toRowW.claim.pre args = true) (hwl : WellAll P h vals args) :
    ∃ a vs ns, vals = [Value.ref a] ∧ args = [WData.list (ns.map WData.int)] ∧ h.get? a = some { cls := .type "list", data := .seq vs.toArray } ∧ IntsAre vs ns ∧ ns.length ≤ n := by
  have hsh : WShape.hasAll [] args [.list .int] = true := (pre_splitW hpre).1
  have hc : l.pre.holds [] { args := args } = true := (pre_splitW hpre).2
  obtain ⟨d, r, rfl, h1, h2⟩ := hasAllW_cons hsh
  obtain rfl := hasAllW_nil h2
  obtain ⟨xs, rfl, h3⟩ := hasW_list h1
  obtain ⟨ns, rfl⟩ := items_int h3
  have hlen : ns.length ≤ n := by
    unfold OpenLaw.pre at hc
    have h4 : (WTm.not (.lt (.lit (.int (n : Int))) (.len (.arg 0)))).holds [] { args := [.list (ns.map .int)] } = true := by
      have h4 := (holds_andW hc).1
      rw [hn] at h4
      exact h4
    have h5 := condW_of h4 (w_not (w_lt w_lit (w_len_list (w_arg rfl))))
    rw [List.length_map] at h5
    refine Nat.le_of_not_lt fun q => ?_
    have q' : (n : Int) < ((ns.length : Nat) : Int) := by omega
    first
      | (rw [decide_eq_true q'] at h5; exact absurd h5 (by decide))
      | (simp at h5; omega)
  cases hwl with
  | cons w1 w2 =>
    cases w2
    cases w1 with
    | list ho hall => exact ⟨_, _, ns, rfl, rfl, ho, ints_of_wellAll ns _ hall, hlen⟩

theorem post_true (l : OpenLaw) (args : List WData) : l.row.toRowW.claim.post args (.bool true) args = true :=
  postW_of (r := l.row.toRowW) (X := (true == true))
    (show WShape.has [] (.bool true) .bool = true by first | rfl | decide | simp [WShape.has, WShape.arms, WShape.armsAll])
    (show (WTm.eq .res (.lit (.bool true))).value [] { args := args, res := some (.bool true), after := args } = some (.bool (true == true)) from w_eq_bool (w_res rfl) w_lit) rfl

theorem attach_call {l : OpenLaw} {n : Nat} {q : Program} {loose : List Str} {XP : (Str → Option Value) → Heap → Prop} {YP : World → Heap → Prop} {d : DefRec}
    (hn : l.most = some n) (hdf : d.params.defaults = [])
    (call : ∀ (w : World) (s₀ s₁ : Shared) (mg mb : Str → Option Value) (fa : Addr) (o : Obj) (pm cd doc : Value) (a : Addr) (vs : List Value) (ns : List Int),
      Ground q loose [] XP w s₀ mg mb s₁.heap → YP w s₁.heap →
      s₁.heap.get? fa = some o → o.data = .func (docDef d.name d.params d.body d.scope pm cd doc) → s₁.heap.CodeRec cd d.name → mg d.name = some (.ref fa) →
      s₁.heap.get? a = some { cls := .type "list", data := .seq vs.toArray } → IntsAre vs ns → ns.length ≤ n → s₁.gens = #[] →
      codeAny (model l.prog w) callerA (.call (.ref fa) ⟨[.ref a], []⟩) (fun r s' => r = .ok (.ret (.bool true)) ∧ OldK s₁.heap s'.heap ∧ s'.os = s₁.os ∧ AllBare s'.gens) s₁) :
    WalkO q loose XP YP l.row.toRowW d [] (fun f vs => PySem.call f vs) := by
  intro w s₀ s₁ mg mb G Y fa o pm cd doc dV kV ho hd hcd hD hmg hg args vals as hpre hlay hrd hwl hlo
  obtain rfl : dV = .none := Dflts.none hD hdf
  obtain rfl : kV = .none := Dflts.noKw hD
  obtain ⟨a, vs, ns, rfl, rfl, hobj, hints, hlen⟩ := script_of hn hpre hwl
  refine enter_call (codeAny_mono (call w s₀ s₁ mg mb fa o pm cd doc a vs ns G Y ho (fd_plain hd) hcd hmg hobj hints hlen hg) fun r s' hq => ?_)
  obtain ⟨rfl, h2, h3, h4⟩ := hq
  exact ⟨.inl ⟨.bool true, .bool true, [], rfl, fun _ => rfl, .bool true, post_true l _, fun _ => ⟨List.Pairwise.nil, fun _ hm => (nomatch hm)⟩⟩, h2, h3, h4⟩

section
variable {prog : Program} {w : World} {A : Around} {E : Value → Shared → Prop} {s : Shared} {K : Frag}

end
end Att

namespace L2
open PySem PySem.Spec PyProof.Rows

theorem vals_ints : ∀ {vs : List Value} {ns : List Int}, IntsAre vs ns → Vals (ns.map V.int) vs
  | _, _, .nil => .nil
  | _, _, .cons n t h => .cons ⟨t, rfl⟩ (vals_ints h)

def Only (H : Hp) : Prop := ∀ b, H b = none ∨ ∃ o xs, H b = some (.frz o (.lst xs))

theorem law_call {P : Program} {w : World} {K : PySem.W.Frag} {mg mb : Str → Option Value} {CX : CXT} {k : Nat} {fa a : Addr} {fd : FuncData} {x : Str} {sp : Sp} {s₁ : Shared} {vs : List Value} {ns : List Int}
    (KX : K.In s₁.heap) (hns : s₁.heap.Ns mainGlobals mg) (hb : s₁.heap.Ns builtinsNs mb) (hbb : ∀ x : Str, x ≠ "__name__" → mb x = bootBuiltins x) (hlim : s₁.heap.NoLimit) (hg : s₁.gens = #[])
    (ha : s₁.heap.get? a = some { cls := .type "list", data := .seq vs.toArray }) (hi : IntsAre vs ns) (hl : ns.length ≤ sizeLine) (hr : Room k callerA)
    (F : ∀ base : Heap, K.In base → base.Ns mainGlobals mg → FnOk P w K mg base CX k fa fd [x] sp) (hbind : ∀ (s : Shared) (u : Value), BindsTo s fd ⟨[u], []⟩ [(x, u)])
    (hsp : ∀ H : Hp, Only H → SqL K H a (ns.map V.int) → sp [.ref a] H (fun v _ => v = .bl true) fun _ _ _ => False)
    (hCX : ∀ H e s', CX [] H s₁ (fun _ _ _ => False) e s' → False) :
    codeAny (model P w) callerA (.call (.ref fa) ⟨[.ref a], []⟩) (fun r s' => r = .ok (.ret (.bool true)) ∧ OldK s₁.heap s'.heap ∧ s'.os = s₁.os ∧ AllBare s'.gens) s₁ := by
  have rv := vals_ints hi
  have lenV := hi.length
  -- from an abstract heap in which nothing but the script may be tracked
  have core : ∀ H : Hp, Only H → SqL K H a (ns.map V.int) → HOk P w H s₁.heap → (∀ b, H b ≠ none → b = a) → (H a ≠ none → K.lookup a = none) →
      codeAny (model P w) callerA (.call (.ref fa) ⟨[.ref a], []⟩) (fun r s' => r = .ok (.ret (.bool true)) ∧ OldK s₁.heap s'.heap ∧ s'.os = s₁.os ∧ AllBare s'.gens) s₁ := by
    intro H hO hS hok hA hK
    have base_of : ∀ {b : Addr} {o : Obj}, s₁.heap.get? b = some o → H b = none → (hidT s₁.heap H).get? b = some o := fun e n => hidT_get e n
    have noA : ∀ {b : Addr} {o : Obj} {es : Array DictEntry} {ep : Nat}, s₁.heap.get? b = some o → o.data = .dict es ep → H b = none := fun {b o es ep} e d => by
      cases q : H b with
      | none => rfl
      | some u =>
        have e' : b = a := hA b (by rw [q]; simp)
        subst e'
        rw [ha] at e; cases e
        have d' : Data.seq vs.toArray _ = Data.dict es ep := d
        cases d'
    have nsK : ∀ {b : Addr} {m : Str → Option Value}, s₁.heap.Ns b m → (hidT s₁.heap H).Ns b m := fun {b m} ⟨o, es, ep, e, d, r⟩ => ⟨o, es, ep, base_of e (noA e d), d, r⟩
    have hKb : K.In (hidT s₁.heap H) := fun b o e => base_of (KX b o e) (by
      cases q : H b with
      | none => rfl
      | some u =>
        have e' : b = a := hA b (by rw [q]; simp)
        subst e'
        rw [hK (by rw [q]; simp)] at e; cases e)
    have hM : Mod K mg (hidT s₁.heap H) := ⟨hKb, nsK hns, ⟨mb, nsK hb, hbb⟩, let ⟨mc, h1, h2⟩ := hlim; ⟨mc, nsK h1, h2⟩⟩
    have e0 : Env0 P w K mg (hidT s₁.heap H) callerA [] s₁ H := ⟨rfl, hM, fun b o e => of_hidT e, Nat.le_of_eq (hidT_size _ _), trivial, fun b hb => absurd (show b ∈ ([] : List Addr) from hb) (by simp), hok, .of_eq hg⟩
    refine codeAny_mono ((F _ hKb (nsK hns)).run callerA [] s₁ H ⟨[.ref a], []⟩ [.ref a] [.ref a] _ _ hr e0 (hbind s₁ (.ref a)) (.cons rfl .nil) (hsp H hO hS)) fun r s' h => ?_
    cases r with
    | error e => exact (hCX H e s' h).elim
    | ok fl =>
      cases fl with
      | next => exact False.elim h
      | brk => exact False.elim h
      | cont => exact False.elim h
      | ret u =>
        obtain ⟨v, H', os, bare, un, hok', r', q⟩ := h
        have q' : v = .bl true := q
        subst q'
        obtain rfl : u = Value.bool true := r'
        refine ⟨rfl, OldK.of_keep fun b o e => ?_, os, bare⟩
        cases q : H b with
        | none => exact un.keep b o e q (by intro z; exact absurd (show b ∈ ([] : List Addr) from z) (by simp)) (by simp)
        | some u =>
          rcases hO b with z | ⟨ob, xs, z⟩
          · rw [q] at z; cases z
          · have z2 := un.frzs b ob _ z
            obtain ⟨e1, _⟩ := hok b _ z
            obtain ⟨e2, _⟩ := hok' b _ z2
            rw [e] at e1; cases e1
            exact e2
  cases hk : K.lookup a with
  | some o =>
    -- the script is one of the module's own objects
    have e := KX a o hk
    rw [ha] at e
    cases e
    refine core (fun _ => none) (fun _ => .inl rfl) (.inr ⟨_, vs.toArray, _, hk, rfl, rfl, rfl, by rw [List.size_toArray, lenV]; exact hl, by simpa using rv⟩) (fun b u z => by have z' : (none : Option HO) = some u := z; cases z') (fun b z => absurd rfl z) fun z => absurd rfl z
  | none =>
    refine core (fun b => if b = a then some (.frz { cls := .type "list", data := .seq vs.toArray } (.lst (ns.map V.int))) else none) (fun b => ?_) (.inl (.inr ⟨{ cls := .type "list", data := .seq vs.toArray }, if_pos rfl⟩)) (fun b u z => ?_) (fun b z => ?_) fun _ => hk
    · by_cases hb : b = a
      · exact .inr ⟨_, _, if_pos hb⟩
      · exact .inl (if_neg hb)
    · by_cases hb : b = a
      · have z' := (if_pos hb).symm.trans z
        cases z'
        subst hb
        exact ⟨ha, by rw [List.length_map]; exact hl, vs, _, rv, ha⟩
      · have z' := (if_neg hb).symm.trans z
        cases z'
    · by_cases hb : b = a
      · exact hb
      · exact absurd (if_neg hb) z
end L2

namespace L2
open PySem PySem.Spec PyProof.Rows

theorem walk_of {l : PySem.W.OpenLaw} {n k : Nat} {q : Program} {loose : List Str} {XP : (Str → Option Value) → Heap → Prop} {YP : World → Heap → Prop} {d : DefRec} {K : Params → PySem.W.Frag} {CX : World → CXT} {sp : World → Sp} {x : Str}
    (hn : l.most = some n) (hn2 : n ≤ sizeLine) (hdf : d.params.defaults = []) (hr : Room k callerA)
    (hY : ∀ (w : World) (h : Heap), YP w h → (K w.params).In h)
    (F : ∀ (w : World) (mg : Str → Option Value) (fa : Addr) (h : Heap), (K w.params).In h → h.Ns mainGlobals mg → mg d.name = some (.ref fa) →
      ∃ fd : FuncData, (∀ (s : Shared) (u : Value), BindsTo s fd ⟨[u], []⟩ [(x, u)]) ∧
        ∀ base : Heap, (K w.params).In base → base.Ns mainGlobals mg → FnOk l.prog w (K w.params) mg base (CX w) k fa fd [x] (sp w))
    (hsp : ∀ (w : World) (H : Hp) (a : Addr) (ns : List Int), ns.length ≤ n → Only H → SqL (K w.params) H a (ns.map V.int) → sp w [.ref a] H (fun v _ => v = .bl true) fun _ _ _ => False)
    (hCX : ∀ (w : World) (H : Hp) (s : Shared) (e : Value) (s' : Shared), CX w [] H s (fun _ _ _ => False) e s' → False) :
    PySem.W.WalkO q loose XP YP l.row.toRowW d [] (fun f vs => PySem.call f vs) := by
  refine Att.attach_call hn hdf fun w s₀ s₁ mg mb fa o pm cd doc a vs ns G Y ho hd hcd hmg hobj hints hlen hg => ?_
  have KX := hY w _ Y
  obtain ⟨fd, hb, hF⟩ := F w mg fa _ KX G.T.g hmg
  exact law_call KX G.T.g G.T.b G.T.builtins G.T.nolimit hg hobj hints (Nat.le_trans hlen hn2) hr hF hb (fun H hO hS => hsp w H a ns hlen hO hS) fun H e s' => hCX w H s₁ e s'
end L2



namespace L2
open PySem PySem.Spec PyProof.Rows

def defArgs (s : Stmt) : Arguments := match s with
  | .FunctionDef _ a _ _ _ _ _ _ _ _ => a
  | _ => { posonlyargs := [], args := [], vararg := none, kwonlyargs := [], kw_defaults := [], kwarg := none, defaults := [] }
def defBody (s : Stmt) : List Stmt := match s with
  | .FunctionDef _ _ b _ _ _ _ _ _ _ => b
  | _ => []
def defScope (s : Stmt) : Scope := match s with
  | .FunctionDef _ _ _ _ _ _ sc _ _ _ => sc
  | _ => { kind := .function, names := [], isGenerator := false, isCoroutine := false }

abbrev CX0 : CXT := fun _ _ _ _ _ _ => False
abbrev E0 : XK := fun _ _ _ => False
theorem pass0 {X : Cx} : Passes CX0 X E0 := fun _ _ _ _ _ _ _ h => h.elim

structure Fun (K : PySem.W.Frag) (x qual : Str) (st : Stmt) (f : Addr) (fd : FuncData) : Prop where
  ex : ∃ (oc : Value) (od : Option Addr) (kV doc pm : Value) (an : Option Addr) (cdv ct : Value) (osl : Array (Option Value)),
    fd = PySem.W.fnOf x qual (defArgs st) (defBody st) (defScope st) .none kV doc pm an cdv ct ∧ K.lookup f = some ⟨oc, od, .func fd, osl⟩ ∧ PySem.W.codeIn K cdv qual = true
  kp : PySem.W.keepIn K (.ref f) = true
section
variable {P : Program} {w : World} {K : PySem.W.Frag} {mg : Str → Option Value} {base : Heap}
theorem Fun.ok {x qual : Str} {st : Stmt} {f : Addr} {fd : FuncData} {N ps : List Str} {k : Nat} {sp : Sp} (F : Fun K x qual st f fd) (S : FnScope N ps (defScope st)) (len : ∀ vs H Q E, sp vs H Q E → vs.length = ps.length)
    (hbody : ∀ (cdv : Value) (A : Around) (outer : List Env) (s : Shared) (H : Hp) (vs : List V) (Q : VK) (E : XK), Room k (A.deeper (envOfC qual (defScope st) s.heap.objs.size f cdv)) → sp vs H Q E →
      ∃ t, PSs (cxOf CX0 P w K mg base N qual (defScope st) f cdv A outer s H E).nox (defBody st) t ∧ t { nx := fun _ H' => Q .non H', rt := Q } (start N vs) H) : FnOk P w K mg base CX0 (k + 1) f fd ps sp := by
  obtain ⟨oc, od, kV, doc, pm, an, cdv, ct, osl, rfl, lk, hcd⟩ := F.ex
  refine fn_of lk hcd S len fun A outer s H vs Q E hr hsp => ?_
  obtain ⟨t, h, q⟩ := hbody cdv A outer s H vs Q E hr hsp
  exact ⟨t, h.nox, q⟩
theorem Fun.binds {x qual : Str} {st : Stmt} {f : Addr} {fd : FuncData} {ps : List Str} (F : Fun K x qual st f fd)
    (h : ∀ (kV doc pm : Value) (an : Option Addr) (cdv ct : Value) (us : List Value), us.length = ps.length → bindArgs (PySem.W.fnOf x qual (defArgs st) (defBody st) (defScope st) .none kV doc pm an cdv ct) ⟨us, []⟩ = pure (ps.zip us)) : Binds K fd ps [] := by
  obtain ⟨oc, od, kV, doc, pm, an, cdv, ct, osl, rfl, lk, hcd⟩ := F.ex
  exact .all (h kV doc pm an cdv ct)
theorem fun_mk {x qual : Str} {st : Stmt} {f : Addr} {oc : Value} {od an : Option Addr} {osl : Array (Option Value)} {kV doc pm cdv ct : Value} (l : K.lookup f = some ⟨oc, od, .func (PySem.W.fnOf x qual (defArgs st) (defBody st) (defScope st) .none kV doc pm an cdv ct), osl⟩)
    (c : PySem.W.codeIn K cdv qual = true) (k : PySem.W.keepIn K (.ref f) = true) : Fun K x qual st f (PySem.W.fnOf x qual (defArgs st) (defBody st) (defScope st) .none kV doc pm an cdv ct) := ⟨⟨oc, od, kV, doc, pm, an, cdv, ct, osl, rfl, l, c⟩, k⟩
end
theorem small1000 {n : Nat} (h : n ≤ 1000) : n < sizeLine := Nat.lt_of_le_of_lt h (by decide)

section
variable {X : Cx}
theorem pv (i : Nat) {x : Str} {pos : Pos} (hN : X.N[i]? = some x := by rfl) (hv : Vis X.env.scope x := by first | exact Or.inl rfl | exact Or.inr (Or.inl rfl) | exact Or.inr (Or.inr rfl)) (hd : (x == ("__debug__" : Str)) = false := by decide)
    (hcd : (x == ("__classdict__" : Str)) = false := by decide) : PE X (.Name x pos) (tVar i) := pe_var hN hv hd hcd
end

def Same (H H' : Hp) : Prop := ∀ b o, H b = some o → H' b = some o
theorem Same.refl (H : Hp) : Same H H := fun _ _ h => h
theorem Same.trans {H H1 H2 : Hp} (a : Same H H1) (b : Same H1 H2) : Same H H2 := fun c o h => b c o (a c o h)
theorem Same.free {H H' : Hp} (e : Same H H') {l : Addr} (h : H' l = Option.none) : H l = Option.none := by
  cases q : H l with
  | none => rfl
  | some o =>
    rw [e l o q] at h
    cases h
theorem Same.seq {K : PySem.W.Frag} {H H' : Hp} {a : Addr} {xs : List V} (e : Same H H') (h : SqL K H a xs) : SqL K H' a xs := by
  rcases h with (h | ⟨o, h⟩) | h
  · exact .inl (.inl (e _ _ h))
  · exact .inl (.inr ⟨o, e _ _ h⟩)
  · exact .inr h

end L2

set_option Elab.async false
set_option linter.all false
set_option maxRecDepth 100000
set_option maxHeartbeats 4000000
namespace D3
open PySem PySem.Spec PyProof.Rows L2

inductive D where
  | non | bl (b : Bool) | int (i : Int) | str (x : Str) | tup (ds : List D) | lst (ds : List D)

def KL (K : PySem.W.Frag) (a : Addr) (xs : List V) : Prop :=
  ∃ (o : Obj) (its : Array Value) (n : Nat), K.lookup a = some o ∧ o.cls = .type "list" ∧ o.dict = none ∧ o.data = .seq its n ∧ its.size ≤ sizeLine ∧ Vals xs its.toList
def LR (K : PySem.W.Frag) (S : Addr → Prop) (H : Hp) (a : Addr) (xs : List V) : Prop := (¬ S a ∧ Rd H a (.lst xs)) ∨ KL K a xs
theorem LR.sq {K : PySem.W.Frag} {S : Addr → Prop} {H : Hp} {a : Addr} {xs : List V} (h : LR K S H a xs) : SqL K H a xs := h.elim (fun x => .inl x.2) .inr

mutual
def Rep (K : PySem.W.Frag) (S : Addr → Prop) (H : Hp) : D → V → Prop
  | .non, v => v = .non
  | .bl b, v => v = .bl b
  | .int i, v => v = .int i
  | .str x, v => v = .str x
  | .tup ds, v => ∃ a xs, v = .ref a ∧ SqT K H a xs ∧ Reps K S H ds xs
  | .lst ds, v => ∃ a xs, v = .ref a ∧ LR K S H a xs ∧ Reps K S H ds xs
def Reps (K : PySem.W.Frag) (S : Addr → Prop) (H : Hp) : List D → List V → Prop
  | [], xs => xs = []
  | d :: ds, xs => ∃ x r, xs = x :: r ∧ Rep K S H d x ∧ Reps K S H ds r
end

section
variable {K : PySem.W.Frag} {S S' : Addr → Prop} {H H' : Hp}
mutual
theorem Rep.map (hT : ∀ b xs, SqT K H b xs → SqT K H' b xs) (hL : ∀ b xs, LR K S H b xs → LR K S' H' b xs) : ∀ (d : D) (v : V), Rep K S H d v → Rep K S' H' d v
  | .non, v, h => by simpa only [Rep] using h
  | .bl b, v, h => by simpa only [Rep] using h
  | .int i, v, h => by simpa only [Rep] using h
  | .str x, v, h => by simpa only [Rep] using h
  | .tup ds, v, h => by
    simp only [Rep] at h ⊢
    obtain ⟨a, xs, e, q, r⟩ := h
    exact ⟨a, xs, e, hT a xs q, Reps.map hT hL ds xs r⟩
  | .lst ds, v, h => by
    simp only [Rep] at h ⊢
    obtain ⟨a, xs, e, q, r⟩ := h
    exact ⟨a, xs, e, hL a xs q, Reps.map hT hL ds xs r⟩
theorem Reps.map (hT : ∀ b xs, SqT K H b xs → SqT K H' b xs) (hL : ∀ b xs, LR K S H b xs → LR K S' H' b xs) : ∀ (ds : List D) (vs : List V), Reps K S H ds vs → Reps K S' H' ds vs
  | [], vs, h => by simpa only [Reps] using h
  | d :: ds, vs, h => by
    simp only [Reps] at h ⊢
    obtain ⟨x, r, e, q, t⟩ := h
    exact ⟨x, r, e, Rep.map hT hL d x q, Reps.map hT hL ds r t⟩
end
theorem same_tup (h : Same H H') : ∀ b xs, SqT K H b xs → SqT K H' b xs := fun b xs q => by
  rcases q with (q | ⟨o, q⟩) | q
  · exact .inl (.inl (h _ _ q))
  · exact .inl (.inr ⟨o, h _ _ q⟩)
  · exact .inr q
theorem same_lr (h : Same H H') : ∀ b xs, LR K S H b xs → LR K S H' b xs := fun b xs q => by
  rcases q with ⟨n, q | ⟨o, q⟩⟩ | q
  · exact .inl ⟨n, .inl (h _ _ q)⟩
  · exact .inl ⟨n, .inr ⟨o, h _ _ q⟩⟩
  · exact .inr q
theorem Rep.same {d : D} {v : V} (h : Same H H') (r : Rep K S H d v) : Rep K S H' d v := Rep.map (same_tup h) (same_lr h) d v r
theorem Reps.same {d : List D} {v : List V} (h : Same H H') (r : Reps K S H d v) : Reps K S H' d v := Reps.map (same_tup h) (same_lr h) d v r
theorem sub_lr (hs : ∀ a, S' a → S a) : ∀ b xs, LR K S H b xs → LR K S' H b xs := fun b xs q => q.elim (fun x => .inl ⟨fun z => x.1 (hs _ z), x.2⟩) .inr
theorem Rep.sub {d : D} {v : V} (hs : ∀ a, S' a → S a) (r : Rep K S H d v) : Rep K S' H d v := Rep.map (fun _ _ x => x) (sub_lr hs) d v r
theorem Reps.sub {d : List D} {v : List V} (hs : ∀ a, S' a → S a) (r : Reps K S H d v) : Reps K S' H d v := Reps.map (fun _ _ x => x) (sub_lr hs) d v r

theorem Reps.nil : Reps K S H [] [] := by simp only [Reps]
theorem Reps.cons {d : D} {ds : List D} {v : V} {vs : List V} (h : Rep K S H d v) (t : Reps K S H ds vs) : Reps K S H (d :: ds) (v :: vs) := by
  simp only [Reps]; exact ⟨v, vs, rfl, h, t⟩
theorem Reps.len : ∀ {ds : List D} {vs : List V}, Reps K S H ds vs → ds.length = vs.length
  | [], vs, h => by simp only [Reps] at h; subst h; rfl
  | d :: ds, vs, h => by
    simp only [Reps] at h
    obtain ⟨x, r, e, _, t⟩ := h
    subst e
    simp only [List.length_cons, Reps.len t]
theorem Reps.get : ∀ {ds : List D} {vs : List V} {i : Nat} {d : D}, Reps K S H ds vs → ds[i]? = some d → ∃ v, vs[i]? = some v ∧ Rep K S H d v
  | [], vs, i, d, h, e => by simp at e
  | c :: ds, vs, 0, d, h, e => by
    simp only [Reps] at h
    obtain ⟨x, r, rfl, q, t⟩ := h
    simp at e; subst e
    exact ⟨x, rfl, q⟩
  | c :: ds, vs, i + 1, d, h, e => by
    simp only [Reps] at h
    obtain ⟨x, r, rfl, q, t⟩ := h
    exact Reps.get t (i := i) (by simpa using e)
theorem Reps.getV : ∀ {ds : List D} {vs : List V} {i : Nat} {v : V}, Reps K S H ds vs → vs[i]? = some v → ∃ d, ds[i]? = some d ∧ Rep K S H d v := fun {ds vs i v} h e => by
  have hl := h.len
  have hi : i < ds.length := by rw [hl]; exact (List.getElem?_eq_some_iff.mp e).1
  obtain ⟨v', e', r⟩ := h.get (i := i) (d := ds[i]) (by simp [hi])
  rw [e] at e'; cases e'
  exact ⟨ds[i], by simp [hi], r⟩
theorem Reps.app : ∀ {ds es : List D} {vs us : List V}, Reps K S H ds vs → Reps K S H es us → Reps K S H (ds ++ es) (vs ++ us)
  | [], es, vs, us, h, h2 => by simp only [Reps] at h; subst h; exact h2
  | d :: ds, es, vs, us, h, h2 => by
    simp only [Reps] at h
    obtain ⟨x, r, rfl, q, t⟩ := h
    exact Reps.cons q (Reps.app t h2)
theorem Reps.drop : ∀ {ds : List D} {vs : List V} (n : Nat), Reps K S H ds vs → Reps K S H (ds.drop n) (vs.drop n)
  | ds, vs, 0, h => h
  | [], vs, n + 1, h => by simp only [Reps] at h; subst h; exact Reps.nil
  | d :: ds, vs, n + 1, h => by
    simp only [Reps] at h
    obtain ⟨x, r, rfl, q, t⟩ := h
    exact Reps.drop n t
theorem Reps.take : ∀ {ds : List D} {vs : List V} (n : Nat), Reps K S H ds vs → Reps K S H (ds.take n) (vs.take n)
  | ds, vs, 0, h => Reps.nil
  | [], vs, n + 1, h => by simp only [Reps] at h; subst h; exact Reps.nil
  | d :: ds, vs, n + 1, h => by
    simp only [Reps] at h
    obtain ⟨x, r, rfl, q, t⟩ := h
    exact Reps.cons q (Reps.take n t)
theorem Reps.set : ∀ {ds : List D} {vs : List V} {d : D} {v : V} (n : Nat), Reps K S H ds vs → Rep K S H d v → Reps K S H (ds.set n d) (vs.set n v)
  | [], vs, d, v, n, h, q => by simp only [Reps] at h; subst h; exact Reps.nil
  | c :: ds, vs, d, v, 0, h, q => by
    simp only [Reps] at h
    obtain ⟨x, r, rfl, _, t⟩ := h
    exact Reps.cons q t
  | c :: ds, vs, d, v, n + 1, h, q => by
    simp only [Reps] at h
    obtain ⟨x, r, rfl, p, t⟩ := h
    exact Reps.cons p (Reps.set n t q)
theorem Reps.ints (ns : List Int) : Reps K S H (ns.map D.int) (ns.map V.int) := by
  induction ns with
  | nil => exact Reps.nil
  | cons n ns ih => exact Reps.cons (by simp only [Rep]) ih
theorem rep_int {i : Int} {v : V} (h : Rep K S H (.int i) v) : v = .int i := by simpa only [Rep] using h
theorem rep_bl {i : Bool} {v : V} (h : Rep K S H (.bl i) v) : v = .bl i := by simpa only [Rep] using h
theorem rep_str {i : Str} {v : V} (h : Rep K S H (.str i) v) : v = .str i := by simpa only [Rep] using h
theorem rep_non {v : V} (h : Rep K S H .non v) : v = .non := by simpa only [Rep] using h
theorem Rep.int {i : Int} : Rep K S H (.int i) (.int i) := by simp only [Rep]
theorem Rep.bl {i : Bool} : Rep K S H (.bl i) (.bl i) := by simp only [Rep]
theorem Rep.str {i : Str} : Rep K S H (.str i) (.str i) := by simp only [Rep]
theorem Rep.non : Rep K S H .non .non := by simp only [Rep]
theorem rep_tup {ds : List D} {v : V} (h : Rep K S H (.tup ds) v) : ∃ a xs, v = .ref a ∧ SqT K H a xs ∧ Reps K S H ds xs := by simpa only [Rep] using h
theorem rep_lst {ds : List D} {v : V} (h : Rep K S H (.lst ds) v) : ∃ a xs, v = .ref a ∧ LR K S H a xs ∧ Reps K S H ds xs := by simpa only [Rep] using h
theorem Rep.tup {ds : List D} {a : Addr} {xs : List V} (h : SqT K H a xs) (r : Reps K S H ds xs) : Rep K S H (.tup ds) (.ref a) := by simp only [Rep]; exact ⟨a, xs, rfl, h, r⟩
theorem Rep.lst {ds : List D} {a : Addr} {xs : List V} (h : LR K S H a xs) (r : Reps K S H ds xs) : Rep K S H (.lst ds) (.ref a) := by simp only [Rep]; exact ⟨a, xs, rfl, h, r⟩
theorem same_new {p : Addr} {o : HO} (h : H p = none) : Same H (upd H p o) := fun b u e => by rw [upd_ne (ne_of_none e h)]; exact e
def SOk (S : Addr → Prop) (H : Hp) : Prop := ∀ a, S a → ∃ o, H a = some o
theorem SOk.same (h : SOk S H) (e : Same H H') : SOk S H' := fun a q => let ⟨o, x⟩ := h a q; ⟨o, e _ _ x⟩
theorem SOk.free {p : Addr} (h : SOk S H) (e : H p = none) : ¬ S p := fun q => by obtain ⟨o, x⟩ := h p q; rw [e] at x; cases x
theorem Rep.newLst {p : Addr} {ds : List D} {xs : List V} (s : SOk S H) (h : H p = none) (r : Reps K S H ds xs) : Rep K S (upd H p (.lst xs)) (.lst ds) (.ref p) := Rep.lst (.inl ⟨s.free h, .of upd_same⟩) (r.same (same_new h))
end

inductive Sl where
  | un | val (d : D) | own (ds : List D)
abbrev Fr3 := List Sl
structure Bs where
  S0 : Addr → Prop
  H0 : Hp
  gh : List (D × V)
structure ER (K : PySem.W.Frag) (B : Bs) (S : Addr → Prop) (H : Hp) (σ : L2.St) (ρ : Fr3) : Prop where
  len : σ.length = ρ.length
  same : Same B.H0 H
  sub : ∀ a, B.S0 a → S a
  ok0 : SOk B.S0 B.H0
  ok : SOk S H
  val : ∀ (i : Nat) d, ρ[i]? = some (.val d) → ∃ v, σ[i]? = some (some v) ∧ Rep K S H d v
  own : ∀ (i : Nat) ds, ρ[i]? = some (.own ds) → ∃ a xs, σ[i]? = some (some (.ref a)) ∧ S a ∧ B.H0 a = none ∧ H a = some (.lst xs) ∧ Reps K S H ds xs
  uq : ∀ (i j : Nat) a ds es, ρ[i]? = some (.own ds) → ρ[j]? = some (.own es) → σ[i]? = some (some (.ref a)) → σ[j]? = some (some (.ref a)) → i = j
  gh : ∀ p ∈ B.gh, Rep K S H p.1 p.2
theorem ER.go {K : PySem.W.Frag} {B : Bs} {S : Addr → Prop} {H H' : Hp} {σ : L2.St} {ρ : Fr3} (e : ER K B S H σ ρ) (h : Same H H') : ER K B S H' σ ρ where
  len := e.len
  same := e.same.trans h
  sub := e.sub
  ok0 := e.ok0
  ok := e.ok.same h
  val := fun i d q => let ⟨v, a, r⟩ := e.val i d q; ⟨v, a, r.same h⟩
  own := fun i ds q => let ⟨a, xs, x, y, z, u, r⟩ := e.own i ds q; ⟨a, xs, x, y, z, h _ _ u, r.same h⟩
  uq := e.uq
  gh := fun p hp => (e.gh p hp).same h

abbrev E3 := Fr3 → (D → Prop) → Prop
abbrev B3 := Fr3 → (Bool → Prop) → Prop
abbrev A3 := Fr3 → (List D → Prop) → Prop
inductive F3 where
  | nx (ρ : Fr3) | rt (d : D) | bk (ρ : Fr3) | ct (ρ : Fr3)
abbrev S3 := (F3 → Prop) → Fr3 → Prop
def Hand (K : PySem.W.Frag) (S : Addr → Prop) (H : Hp) (Φ : D → Prop) (Q : VK) : Prop := ∀ d v H', Φ d → Same H H' → Rep K S H' d v → Q v H'
def PD (X : Cx) (e : Expr) (t : E3) : Prop := ∃ t2, PE X e t2 ∧ ∀ B S H σ ρ Φ Q, ER X.K B S H σ ρ → t ρ Φ → Hand X.K S H Φ Q → t2 σ H Q
def PB (X : Cx) (e : Expr) (t : B3) : Prop := ∃ t2, PT X e t2 ∧ ∀ B S H σ ρ Φ (Q : Bool → Hp → Prop), ER X.K B S H σ ρ → t ρ Φ → (∀ b H', Φ b → Same H H' → Q b H') → t2 σ H Q
def PWB (X : Cx) (e : Expr) (t : B3) : Prop := ∃ t2, PW X e t2 ∧ ∀ B S H σ ρ Φ (Q : Bool → Hp → Prop), ER X.K B S H σ ρ → t ρ Φ → (∀ b H', Φ b → Same H H' → Q b H') → t2 σ H Q
def PAD (X : Cx) (es : List Expr) (t : A3) : Prop := ∃ t2, PA X es t2 ∧ ∀ B S H σ ρ Φ (Q : List V → Hp → Prop), ER X.K B S H σ ρ → t ρ Φ → (∀ ds vs H', Φ ds → Same H H' → Reps X.K S H' ds vs → Q vs H') → t2 σ H Q
structure EndOk (K : PySem.W.Frag) (B : Bs) (Φ : F3 → Prop) (D' : Ends) : Prop where
  nx : ∀ ρ S H σ, Φ (.nx ρ) → ER K B S H σ ρ → D'.nx σ H
  bk : ∀ ρ S H σ, Φ (.bk ρ) → ER K B S H σ ρ → D'.bk σ H
  ct : ∀ ρ S H σ, Φ (.ct ρ) → ER K B S H σ ρ → D'.ct σ H
  rt : ∀ d v H, Φ (.rt d) → Same B.H0 H → Rep K B.S0 H d v → D'.rt v H
def PSD (X : Cx) (st : Stmt) (t : S3) : Prop := ∃ t2, PS X st t2 ∧ ∀ B S H σ ρ Φ D', ER X.K B S H σ ρ → t Φ ρ → EndOk X.K B Φ D' → t2 D' σ H
def PSDs (X : Cx) (st : List Stmt) (t : S3) : Prop := ∃ t2, PSs X st t2 ∧ ∀ B S H σ ρ Φ D', ER X.K B S H σ ρ → t Φ ρ → EndOk X.K B Φ D' → t2 D' σ H
end D3

set_option Elab.async false
set_option linter.all false
set_option maxRecDepth 100000
set_option maxHeartbeats 4000000
namespace D3
open PySem PySem.Spec PyProof.Rows L2
section
variable {X : Cx} {a b c e : Expr} {ta tb tc te : E3} {pos : Pos}
theorem Hand.go {K : PySem.W.Frag} {S : Addr → Prop} {H H1 : Hp} {Φ : D → Prop} {Q : VK} (h : Hand K S H Φ Q) (s : Same H H1) : Hand K S H1 Φ Q := fun d v H' p q r => h d v H' p (s.trans q) r

abbrev dVar (i : Nat) : E3 := fun ρ Φ => match ρ[i]? with | some (.val d) => Φ d | _ => False
theorem pd_var {i : Nat} (h : PE X e (tVar i)) : PD X e (dVar i) := ⟨_, h, fun B S H σ ρ Φ Q er h hd => by
  unfold dVar at h
  split at h
  · rename_i d q
    obtain ⟨v, a, r⟩ := er.val i d q
    exact ⟨v, a, hd d v H h (Same.refl _) r⟩
  · exact h.elim⟩
abbrev dC (d : D) : E3 := fun _ Φ => Φ d
theorem pd_int {i j pos} : PD X (.Constant (.int i) j pos) (dC (.int i)) := ⟨_, pe_int, fun _ _ H _ _ _ _ _ h hd => hd _ _ H h (Same.refl _) Rep.int⟩
theorem pd_bl {i j pos} : PD X (.Constant (.bool i) j pos) (dC (.bl i)) := ⟨_, pe_bl, fun _ _ H _ _ _ _ _ h hd => hd _ _ H h (Same.refl _) Rep.bl⟩
abbrev R3 := D → D → (D → Prop) → Prop
def OpD (X : Cx) (f : Value → Value → Sem Value) (r3 : R3) : Prop :=
  ∃ r, OpR X f r ∧ ∀ S H x y u v Φ Q, SOk S H → Rep X.K S H x u → Rep X.K S H y v → r3 x y Φ → Hand X.K S H Φ Q → r u v H Q
abbrev dOp (r : R3) (ta tb : E3) : E3 := fun ρ Φ => ta ρ fun x => tb ρ fun y => r x y Φ
theorem two {r : R3} {r2 : R2} {ta2 tb2 : TE} (wa : ∀ B S H σ ρ Φ Q, ER X.K B S H σ ρ → ta ρ Φ → Hand X.K S H Φ Q → ta2 σ H Q) (wb : ∀ B S H σ ρ Φ Q, ER X.K B S H σ ρ → tb ρ Φ → Hand X.K S H Φ Q → tb2 σ H Q)
    (wr : ∀ S H x y u v Φ Q, SOk S H → Rep X.K S H x u → Rep X.K S H y v → r x y Φ → Hand X.K S H Φ Q → r2 u v H Q) :
    ∀ B S H σ ρ Φ Q, ER X.K B S H σ ρ → dOp r ta tb ρ Φ → Hand X.K S H Φ Q → tOp r2 ta2 tb2 σ H Q := fun B S H σ ρ Φ Q er h hd =>
  wa B S H σ ρ _ _ er h fun x u H1 hx s1 rx => wb B S H1 σ ρ _ _ (er.go s1) hx fun y v H2 hy s2 ry =>
    wr S H2 x y u v Φ Q ((er.ok.same s1).same s2) (rx.same s2) ry hy (hd.go (s1.trans s2))
theorem pd_op {op : Operator} {r : R3} (ho : OpD X (binaryOp op) r) (ha : PD X a ta) (hb : PD X b tb) : PD X (.BinOp a op b pos) (dOp r ta tb) := by
  obtain ⟨r2, ho, wr⟩ := ho; obtain ⟨ta2, ha, wa⟩ := ha; obtain ⟨tb2, hb, wb⟩ := hb
  exact ⟨_, pe_op ho ha hb, two wa wb wr⟩
abbrev dT (t : E3) : B3 := fun ρ Φ => t ρ fun d => match d with | .bl k => Φ k | _ => False
theorem toTest {t2 : TE} {t : E3} (w : ∀ B S H σ ρ Φ Q, ER X.K B S H σ ρ → t ρ Φ → Hand X.K S H Φ Q → t2 σ H Q) :
    ∀ B S H σ ρ Φ (Q : Bool → Hp → Prop), ER X.K B S H σ ρ → dT t ρ Φ → (∀ b H', Φ b → Same H H' → Q b H') → tTest t2 σ H Q := fun B S H σ ρ Φ Q er h hd =>
  w B S H σ ρ _ _ er h fun d v H' p s r => by
    cases d with
    | bl k => exact ⟨k, rep_bl r, hd k H' p s⟩
    | non => exact p.elim
    | int _ => exact p.elim
    | str _ => exact p.elim
    | tup _ => exact p.elim
    | lst _ => exact p.elim
theorem pb_cmp {op : CmpOp} {r : R3} (ho : OpD X (compareOp op) r) (ha : PD X a ta) (hb : PD X b tb) (hm : behindInMarks op b = false) : PB X (.Compare a [op] [b] pos) (dT (dOp r ta tb)) := by
  obtain ⟨r2, ho, wr⟩ := ho; obtain ⟨ta2, ha, wa⟩ := ha; obtain ⟨tb2, hb, wb⟩ := hb
  exact ⟨_, pt_cmpR ho ha hb hm, toTest (two wa wb wr)⟩
theorem pb_val (h : PD X e te) (he : ∀ whole, isTrue e X.env whole = (do let v ← whole; standAt e.pos; holding [v] (truthy v)) := by intro _; rfl) : PB X e (dT te) := by
  obtain ⟨t2, h, w⟩ := h
  exact ⟨_, pt_val h he, toTest w⟩

abbrev dI (C : Int → Int → Prop) (g : Int → Int → D) : R3
  | .int i, .int j, Φ => C i j ∧ Φ (g i j)
  | _, _, _ => False
abbrev dI0 (g : Int → Int → D) : R3
  | .int i, .int j, Φ => Φ (g i j)
  | _, _, _ => False
theorem opd {f : Value → Value → Sem Value} {C : Int → Int → Prop} {g : Int → Int → V} {g3 : Int → Int → D} (h : OpR X f (rI C g)) (hg : ∀ K S H i j, Rep K S H (g3 i j) (g i j)) : OpD X f (dI C g3) :=
  ⟨_, h, fun S H x y u v Φ Q so rx ry hr hd => by
    cases x <;> cases y <;> first | exact hr.elim | skip
    rename_i i j
    exact ⟨i, j, rep_int rx, rep_int ry, hr.1, hd _ _ H hr.2 (Same.refl _) (hg ..)⟩⟩
theorem opd0 {f : Value → Value → Sem Value} {g : Int → Int → V} {g3 : Int → Int → D} (h : OpR X f (rI0 g)) (hg : ∀ K S H i j, Rep K S H (g3 i j) (g i j)) : OpD X f (dI0 g3) :=
  ⟨_, h, fun S H x y u v Φ Q so rx ry hr hd => by
    cases x <;> cases y <;> first | exact hr.elim | skip
    rename_i i j
    exact ⟨i, j, rep_int rx, rep_int ry, hd _ _ H hr (Same.refl _) (hg ..)⟩⟩
def CD (_ j : Int) : Prop := j ≠ 0 ∧ j.natAbs.log2 < 9000
theorem op_mulA : OpR X (binaryOp .Mult) (rI IntMulOk fun i j => .int (i * j)) := opI fun _ _ _ _ _ _ _ hc q => mul_int q hc
theorem op_fdivA : OpR X (binaryOp .FloorDiv) (rI CD fun i j => .int (i.fdiv j)) := opI fun _ _ _ _ _ _ _ hc q => floordiv_int hc.1 q (.inl (PyProof.noPylong_of_log2 hc.2))
theorem o_add : OpD X (binaryOp .Add) (dI0 fun i j => .int (i + j)) := opd0 op_add fun _ _ _ _ _ => Rep.int
theorem o_mul : OpD X (binaryOp .Mult) (dI IntMulOk fun i j => .int (i * j)) := opd op_mulA fun _ _ _ _ _ => Rep.int
theorem o_fdiv : OpD X (binaryOp .FloorDiv) (dI CD fun i j => .int (i.fdiv j)) := opd op_fdivA fun _ _ _ _ _ => Rep.int
theorem o_mod : OpD X (binaryOp .Mod) (dI (fun _ j => j ≠ 0) fun i j => .int (i.fmod j)) := opd op_modN fun _ _ _ _ _ => Rep.int
theorem o_lt : OpD X (compareOp .Lt) (dI0 fun i j => .bl (decide (i < j))) := opd0 op_lt fun _ _ _ _ _ => Rep.bl
theorem o_le : OpD X (compareOp .LtE) (dI0 fun i j => .bl (decide (i ≤ j))) := opd0 op_le fun _ _ _ _ _ => Rep.bl
theorem o_gt : OpD X (compareOp .Gt) (dI0 fun i j => .bl (decide (j < i))) := opd0 op_gt fun _ _ _ _ _ => Rep.bl
abbrev dEq : R3
  | .int i, .int j, Φ => Φ (.bl (decide (i = j)))
  | .bl i, .bl j, Φ => Φ (.bl (decide (i = j)))
  | .str i, .str j, Φ => Φ (.bl (decide (i = j)))
  | .non, .non, Φ => Φ (.bl true)
  | .non, .int _, Φ => Φ (.bl false)
  | .int _, .non, Φ => Φ (.bl false)
  | _, _, _ => False
abbrev dNe : R3
  | .int i, .int j, Φ => Φ (.bl (!decide (i = j)))
  | .bl i, .bl j, Φ => Φ (.bl (!decide (i = j)))
  | .str i, .str j, Φ => Φ (.bl (!decide (i = j)))
  | .non, .non, Φ => Φ (.bl false)
  | .non, .int _, Φ => Φ (.bl true)
  | .int _, .non, Φ => Φ (.bl true)
  | _, _, _ => False
theorem dec_inj {α : Type} [DecidableEq α] {f : α → V} (hf : ∀ a b, f a = f b → a = b) (i j : α) : decide (f i = f j) = decide (i = j) := by
  by_cases h : i = j
  · subst h; simp
  · rw [decide_eq_false h, decide_eq_false fun q => h (hf _ _ q)]
theorem o_eq : OpD X (compareOp .Eq) dEq := ⟨_, op_eq, fun S H x y u v Φ Q so rx ry hr hd => by
  cases x <;> cases y <;> first | exact hr.elim | skip
  · cases rep_non rx; cases rep_non ry; exact ⟨rfl, hd _ _ H hr (Same.refl _) Rep.bl⟩
  · cases rep_non rx; cases rep_int ry; exact ⟨rfl, hd _ _ H hr (Same.refl _) Rep.bl⟩
  · rename_i i j
    cases rep_bl rx; cases rep_bl ry; refine ⟨rfl, hd _ _ H hr (Same.refl _) ?_⟩
    rw [dec_inj (fun a b q => V.bl.inj q)]; exact Rep.bl
  · cases rep_int rx; cases rep_non ry; exact ⟨rfl, hd _ _ H hr (Same.refl _) Rep.bl⟩
  · rename_i i j
    cases rep_int rx; cases rep_int ry; refine ⟨rfl, hd _ _ H hr (Same.refl _) ?_⟩
    rw [dec_inj (fun a b q => V.int.inj q)]; exact Rep.bl
  · rename_i i j
    cases rep_str rx; cases rep_str ry; refine ⟨rfl, hd _ _ H hr (Same.refl _) ?_⟩
    rw [dec_inj (fun a b q => V.str.inj q)]; exact Rep.bl⟩
theorem o_ne : OpD X (compareOp .NotEq) dNe := ⟨_, op_ne, fun S H x y u v Φ Q so rx ry hr hd => by
  cases x <;> cases y <;> first | exact hr.elim | skip
  · cases rep_non rx; cases rep_non ry; exact ⟨rfl, hd _ _ H hr (Same.refl _) Rep.bl⟩
  · cases rep_non rx; cases rep_int ry; exact ⟨rfl, hd _ _ H hr (Same.refl _) Rep.bl⟩
  · rename_i i j
    cases rep_bl rx; cases rep_bl ry; refine ⟨rfl, hd _ _ H hr (Same.refl _) ?_⟩
    rw [dec_inj (fun a b q => V.bl.inj q)]; exact Rep.bl
  · cases rep_int rx; cases rep_non ry; exact ⟨rfl, hd _ _ H hr (Same.refl _) Rep.bl⟩
  · rename_i i j
    cases rep_int rx; cases rep_int ry; refine ⟨rfl, hd _ _ H hr (Same.refl _) ?_⟩
    rw [dec_inj (fun a b q => V.int.inj q)]; exact Rep.bl
  · rename_i i j
    cases rep_str rx; cases rep_str ry; refine ⟨rfl, hd _ _ H hr (Same.refl _) ?_⟩
    rw [dec_inj (fun a b q => V.str.inj q)]; exact Rep.bl⟩
variable {tA tB' : B3} {rest : List Expr}
abbrev bOr (t u : B3) : B3 := fun ρ Φ => t ρ fun k => if k = true then Φ true else u ρ Φ
abbrev bNot (t : B3) : B3 := fun ρ Φ => t ρ fun k => Φ (!k)
theorem PWB.pb {e : Expr} {t : B3} (h : PWB X e t) : PB X e t := let ⟨t2, h, w⟩ := h; ⟨t2, h.pt, w⟩
theorem pb_or1 (ha : PB X a tA) : PWB X (.BoolOp .Or [a] pos) tA := let ⟨t2, h, w⟩ := ha; ⟨t2, pw_or1 h, w⟩
theorem pb_or (ha : PB X a tA) (hb : PWB X (.BoolOp .Or (b :: rest) pos) tB') : PWB X (.BoolOp .Or (a :: b :: rest) pos) (bOr tA tB') := by
  obtain ⟨t2, h, w⟩ := ha; obtain ⟨u2, g, z⟩ := hb
  refine ⟨_, pw_or h g, fun B S H σ ρ Φ Q er q hd => w B S H σ ρ _ _ er q fun k H1 hk s1 => ?_⟩
  cases k with
  | true =>
    have hk : Φ true := by simpa using hk
    simp only [if_true]
    exact hd true H1 hk s1
  | false =>
    have hk : tB' ρ Φ := by simpa using hk
    simp only [Bool.false_eq_true, if_false]
    exact z B S H1 σ ρ _ _ (er.go s1) hk fun k2 H2 h2 s2 => hd k2 H2 h2 (s1.trans s2)
theorem pb_not (ha : PB X a tA) : PB X (.UnaryOp .Not a pos) (bNot tA) := by
  obtain ⟨t2, h, w⟩ := ha
  exact ⟨_, pt_not h, fun B S H σ ρ Φ Q er q hd => w B S H σ ρ _ _ er q fun k H1 hk s1 => hd _ H1 hk s1⟩
abbrev dAnd (ta tb : E3) : E3 := fun ρ Φ => dT ta ρ fun k => if k = true then tb ρ Φ else Φ (.bl false)
abbrev dNot (ta : E3) : E3 := fun ρ Φ => dT ta ρ fun k => Φ (.bl (!k))
theorem pd_one {op} {t : E3} (h : PD X a t) : PD X (.BoolOp op [a] pos) t := let ⟨t2, h, w⟩ := h; ⟨t2, pe_one h, w⟩
theorem pd_and (ha : PD X a ta) (hb : PD X (.BoolOp .And (b :: rest) pos) tb) : PD X (.BoolOp .And (a :: b :: rest) pos) (dAnd ta tb) := by
  obtain ⟨t2, h, w⟩ := ha; obtain ⟨u2, g, z⟩ := hb
  refine ⟨_, pe_and h g, fun B S H σ ρ Φ Q er q hd => w B S H σ ρ _ _ er q fun d v H1 hk s1 r => ?_⟩
  cases d <;> first | exact hk.elim | skip
  rename_i k
  refine ⟨k, rep_bl r, ?_⟩
  cases k with
  | true =>
    have hk : tb ρ Φ := by simpa using hk
    simp only [if_true]
    exact z B S H1 σ ρ _ _ (er.go s1) hk (hd.go s1)
  | false =>
    have hk : Φ (.bl false) := by simpa using hk
    simp only [Bool.false_eq_true, if_false]
    exact hd _ _ H1 hk s1 Rep.bl
theorem pd_not (ha : PD X a ta) : PD X (.UnaryOp .Not a pos) (dNot ta) := by
  obtain ⟨t2, h, w⟩ := ha
  refine ⟨_, pe_not h, fun B S H σ ρ Φ Q er q hd => w B S H σ ρ _ _ er q fun d v H1 hk s1 r => ?_⟩
  cases d <;> first | exact hk.elim | skip
  exact ⟨_, rep_bl r, hd _ _ H1 hk s1 Rep.bl⟩
abbrev dIf (t : B3) (ta tb : E3) : E3 := fun ρ Φ => t ρ fun k => if k = true then ta ρ Φ else tb ρ Φ
theorem pd_ifExp (hc : PB X c tA) (ha : PD X a ta) (hb : PD X b tb) : PD X (.IfExp c a b pos) (dIf tA ta tb) := by
  obtain ⟨c2, h, w⟩ := hc; obtain ⟨t2, ha, wa⟩ := ha; obtain ⟨u2, hb, wb⟩ := hb
  refine ⟨_, pe_ifExp h ha hb, fun B S H σ ρ Φ Q er q hd => w B S H σ ρ _ _ er q fun k H1 hk s1 => ?_⟩
  cases k with
  | true =>
    have hk : ta ρ Φ := by simpa using hk
    simp only [if_true]
    exact wa B S H1 σ ρ _ _ (er.go s1) hk (hd.go s1)
  | false =>
    have hk : tb ρ Φ := by simpa using hk
    simp only [Bool.false_eq_true, if_false]
    exact wb B S H1 σ ρ _ _ (er.go s1) hk (hd.go s1)
variable {es : List Expr} {tr : A3}
abbrev aNil : A3 := fun _ Φ => Φ []
abbrev aCons (ta : E3) (tr : A3) : A3 := fun ρ Φ => ta ρ fun x => tr ρ fun xs => Φ (x :: xs)
theorem pad_nil : PAD X [] aNil := ⟨_, pa_nil, fun B S H σ ρ Φ Q er h hd => hd [] [] H h (Same.refl _) Reps.nil⟩
theorem pad_cons (ha : PD X e te) (hr : PAD X es tr) (hs : starEach (e :: es) X.env = (false, eval e X.env) :: starEach es X.env := by rfl) : PAD X (e :: es) (aCons te tr) := by
  obtain ⟨t2, h, w⟩ := ha; obtain ⟨u2, g, z⟩ := hr
  exact ⟨_, pa_cons h g hs, fun B S H σ ρ Φ Q er q hd => w B S H σ ρ _ _ er q fun d v H1 hk s1 r => z B S H1 σ ρ _ _ (er.go s1) hk fun ds vs H2 h2 s2 r2 => hd _ _ H2 h2 (s1.trans s2) (Reps.cons (r.same s2) r2)⟩
abbrev onS {α : Type} (o : Option α) (Φ : α → Prop) : Prop := match o with | some d => Φ d | none => False
theorem onS_of {α : Type} {o : Option α} {d : α} {Φ : α → Prop} (e : o = some d) (h : Φ d) : onS o Φ := by subst e; exact h
theorem of_onS {α : Type} {o : Option α} {Φ : α → Prop} (h : onS o Φ) : ∃ d, o = some d ∧ Φ d := by
  cases o with
  | none => exact h.elim
  | some d => exact ⟨d, rfl, h⟩
abbrev dIx : R3
  | .tup ds, .int i, Φ => onS (atI ds i) Φ
  | .lst ds, .int i, Φ => onS (atI ds i) Φ
  | _, _, _ => False
theorem atI_rep {K : PySem.W.Frag} {S : Addr → Prop} {H : Hp} {ds : List D} {vs : List V} {i : Int} {d : D} (r : Reps K S H ds vs) (h : atI ds i = some d) : ∃ v, atI vs i = some v ∧ Rep K S H d v := by
  unfold atI at h ⊢
  rw [r.len] at h
  cases q : ixN vs.length i with
  | none => rw [q] at h; cases h
  | some j =>
    rw [q] at h
    exact r.get h
theorem pd_ix (ha : PD X a ta) (hb : PD X b tb) (hs : PlainIx b) : PD X (.Subscript a b pos) (dOp dIx ta tb) := by
  obtain ⟨t2, h, w⟩ := ha; obtain ⟨u2, g, z⟩ := hb
  refine ⟨_, pe_ix (ix_list.or ix_tup) h g hs, two w z fun S H x y u v Φ Q so rx ry hr hd => ?_⟩
  cases x <;> cases y <;> first | exact hr.elim | skip
  · rename_i ds i
    obtain ⟨p, xs, rfl, q, rs⟩ := rep_tup rx
    obtain ⟨d, e, hr⟩ := of_onS (show onS (atI ds i) Φ from hr)
    obtain ⟨w, ew, rw'⟩ := atI_rep rs e
    exact .inr ⟨p, xs, i, w, rfl, rep_int ry, q, ew, hd _ _ H hr (Same.refl _) rw'⟩
  · rename_i ds i
    obtain ⟨p, xs, rfl, q, rs⟩ := rep_lst rx
    obtain ⟨d, e, hr⟩ := of_onS (show onS (atI ds i) Φ from hr)
    obtain ⟨w, ew, rw'⟩ := atI_rep rs e
    exact .inl ⟨p, xs, i, w, rfl, rep_int ry, q.sq, ew, hd _ _ H hr (Same.refl _) rw'⟩
end
end D3

set_option Elab.async false
set_option linter.all false
set_option maxRecDepth 100000
set_option maxHeartbeats 4000000
namespace D3
open PySem PySem.Spec PyProof.Rows L2
section
variable {X : Cx} {st : Stmt} {rest : List Stmt} {t u : S3} {a b e : Expr} {te ta tb : E3} {pos : Pos}
abbrev sNext : S3 := fun Φ ρ => Φ (.nx ρ)
abbrev thenS (u : (F3 → Prop) → Fr3 → Prop) (Φ : F3 → Prop) : F3 → Prop
  | .nx ρ => u Φ ρ
  | .rt d => Φ (.rt d)
  | .bk ρ => Φ (.bk ρ)
  | .ct ρ => Φ (.ct ρ)
abbrev sSeq (t u : S3) : S3 := fun Φ ρ => t (thenS u Φ) ρ
theorem psd_nil : PSDs X [] sNext := ⟨_, pss_nil, fun B S H σ ρ Φ D' er h ok => ok.nx ρ S H σ h er⟩
theorem psd_cons (h1 : PSD X st t) (h2 : PSDs X rest u) : PSDs X (st :: rest) (sSeq t u) := by
  obtain ⟨t2, h, w⟩ := h1; obtain ⟨u2, g, z⟩ := h2
  refine ⟨_, pss_cons h g, fun B S H σ ρ Φ D' er q ok => w B S H σ ρ _ _ er q ⟨fun ρ' S' H' σ' p er' => z B S' H' σ' ρ' Φ D' er' p ok, ok.bk, ok.ct, ok.rt⟩⟩
theorem psd_one (h1 : PSD X st t) : PSDs X [st] t := let ⟨t2, h, w⟩ := h1; ⟨_, pss_one h, w⟩
abbrev sRet (te : E3) : S3 := fun Φ ρ => te ρ fun d => Φ (.rt d)
theorem psd_ret (he : PD X e te) : PSD X (.Return (some e) pos) (sRet te) := by
  obtain ⟨t2, h, w⟩ := he
  exact ⟨_, ps_ret h, fun B S H σ ρ Φ D' er q ok => w B S H σ ρ _ _ er q fun d v H1 p s r => ok.rt d v H1 p (er.same.trans s) (r.sub er.sub)⟩
abbrev sIf (c : B3) (t u : S3) : S3 := fun Φ ρ => c ρ fun k => if k = true then t Φ ρ else u Φ ρ
theorem psd_if {c : Expr} {as bs : List Stmt} {tc : B3} (hc : PB X c tc) (ha : PSDs X as t) (hb : PSDs X bs u) : PSD X (.If c as bs pos) (sIf tc t u) := by
  obtain ⟨c2, h, w⟩ := hc; obtain ⟨t2, ha, wa⟩ := ha; obtain ⟨u2, hb, wb⟩ := hb
  refine ⟨_, ps_if h ha hb, fun B S H σ ρ Φ D' er q ok => w B S H σ ρ _ _ er q fun k H1 hk s1 => ?_⟩
  cases k with
  | true =>
    have hk : t Φ ρ := by simpa using hk
    simp only [if_true]
    exact wa B S H1 σ ρ _ _ (er.go s1) hk ok
  | false =>
    have hk : u Φ ρ := by simpa using hk
    simp only [Bool.false_eq_true, if_false]
    exact wb B S H1 σ ρ _ _ (er.go s1) hk ok
theorem ER.put {K : PySem.W.Frag} {B : Bs} {S : Addr → Prop} {H : Hp} {σ : L2.St} {ρ : Fr3} {i : Nat} {d : D} {v : V} (er : ER K B S H σ ρ) (r : Rep K S H d v) : ER K B S H (σ.set i (some v)) (ρ.set i (.val d)) where
  len := by rw [List.length_set, List.length_set]; exact er.len
  same := er.same
  sub := er.sub
  ok0 := er.ok0
  ok := er.ok
  val := fun j c q => by
    rw [List.getElem?_set] at q
    split at q
    · rename_i hij
      subst hij
      split at q
      · rename_i hl
        cases q
        exact ⟨v, by rw [List.getElem?_set_self (by rw [er.len]; exact hl)], r⟩
      · cases q
    · rename_i hij
      obtain ⟨w, e, r'⟩ := er.val j c q
      exact ⟨w, by rw [List.getElem?_set_ne hij]; exact e, r'⟩
  own := fun j c q => by
    rw [List.getElem?_set] at q
    split at q
    · split at q <;> cases q
    · rename_i hij
      obtain ⟨a, xs, e, r'⟩ := er.own j c q
      exact ⟨a, xs, by rw [List.getElem?_set_ne hij]; exact e, r'⟩
  uq := fun j k a ds es q1 q2 e1 e2 => by
    rw [List.getElem?_set] at q1 q2
    split at q1
    · split at q1 <;> cases q1
    · split at q2
      · split at q2 <;> cases q2
      · rename_i h1 h2
        rw [List.getElem?_set_ne h1] at e1
        rw [List.getElem?_set_ne h2] at e2
        exact er.uq j k a ds es q1 q2 e1 e2
  gh := er.gh
abbrev sSet (i : Nat) (te : E3) : S3 := fun Φ ρ => te ρ fun d => Φ (.nx (ρ.set i (.val d)))
theorem psd_set {i : Nat} {x : Str} {pos' : Pos} (hN : X.N.Nodup) (hi : X.N[i]? = some x) (hx : Loc X.env.scope x) (he : PD X e te) (hs : swapsWith e (some (.Name x pos')) pos.line X.env = pure false := by rfl)
    (hf : X.fn x = true ∨ X.env.scope.names.lookup x = some .local := by first | exact .inl rfl | exact .inr rfl | assumption) : PSD X (.Assign [.Name x pos'] e pos) (sSet i te) := by
  obtain ⟨t2, h, w⟩ := he
  exact ⟨_, ps_set hN hi hx h hs hf, fun B S H σ ρ Φ D' er q ok => w B S H σ ρ _ _ er q fun d v H1 p s r => ok.nx _ S H1 _ p ((er.go s).put r)⟩
end
abbrev Con := List D → (D → Prop) → Prop
def Mono (C : Con) : Prop := ∀ ds (Φ Ψ : D → Prop), (∀ d, Φ d → Ψ d) → C ds Φ → C ds Ψ
def spD (K : PySem.W.Frag) (n : Nat) (C : Con) : Sp := fun vs H Q _ => ∃ ds S, ds.length = n ∧ Reps K S H ds vs ∧ SOk S H ∧ C ds fun d => ∀ v H', Same H H' → Rep K S H' d v → Q v H'
abbrev dCall (n : Nat) (C : Con) (ta : A3) : E3 := fun ρ Φ => ta ρ fun ds => ds.length = n ∧ C ds Φ
section
variable {X : Cx} {k : Nat} {f : Addr} {fd : FuncData} {ps : List Str} {C : Con} {x : Str} {p pos : Pos} {e : Expr} {es : List Expr} {ta : A3}
theorem pd_call (F : FnOk X.prog X.w X.K X.mg X.base CX0 k f fd ps (spD X.K ps.length C)) (mo : Mono C) (hr : Room k X.A) (hg : Gl X x) (hm : X.mg x = some (.ref f)) (hk : PySem.W.keepIn X.K (.ref f) = true) (hb : Binds X.K fd ps [])
    (ha : PAD X (e :: es) ta) (hdb : (x == ("__debug__" : Str)) = false := by decide) (he : starEach (e :: es) X.env = (false, eval e X.env) :: starEach es X.env := by rfl) (hpl : (backTo pos (starEach es X.env)).any (·.1) = false := by rfl) :
    PD X (.Call (.Name x p) (e :: es) [] pos) (dCall ps.length C ta) := by
  obtain ⟨t2, h, w⟩ := ha
  refine ⟨_, pe_call F hr hg hm hk hb .nil pass0 h hdb he hpl, fun B S H σ ρ Φ Q er q hd => w B S H σ ρ _ _ er q fun ds vs H1 hc s1 r => ?_⟩
  rw [List.append_nil]
  exact ⟨ds, S, hc.1, r, er.ok.same s1, mo ds Φ _ (fun d hΦ v H' s r' => hd d v H' hΦ (s1.trans s) r') hc.2⟩
end
abbrev finD (Φ : D → Prop) : F3 → Prop
  | .nx _ => Φ .non
  | .rt d => Φ d
  | _ => False
def startD (n : Nat) (ds : List D) : Fr3 := ds.map .val ++ List.replicate (n - ds.length) .un
theorem er_start {K : PySem.W.Frag} {S : Addr → Prop} {H : Hp} {ds : List D} {vs : List V} {N : List Str} (r : Reps K S H ds vs) (so : SOk S H) : ER K ⟨S, H, []⟩ S H (L2.start N vs) (startD N.length ds) where
  len := by
    unfold L2.start startD
    rw [List.length_append, List.length_append, List.length_map, List.length_map, List.length_replicate, List.length_replicate, r.len]
  same := Same.refl _
  sub := fun _ h => h
  ok0 := so
  ok := so
  val := fun i d q => by
    unfold startD at q
    rw [List.getElem?_append] at q
    split at q
    · rename_i hl
      rw [List.length_map] at hl
      rw [List.getElem?_map] at q
      cases e : ds[i]? with
      | none => rw [e] at q; cases q
      | some c =>
        rw [e] at q
        cases q
        obtain ⟨v, ev, rv⟩ := r.get e
        refine ⟨v, ?_, rv⟩
        unfold L2.start
        rw [List.getElem?_append_left (by rw [List.length_map, ← r.len]; exact hl), List.getElem?_map, ev]
        rfl
    · rw [List.getElem?_replicate] at q
      split at q <;> cases q
  own := fun i d q => by
    unfold startD at q
    rw [List.getElem?_append] at q
    split at q
    · rw [List.getElem?_map] at q
      cases e : ds[i]? with
      | none => rw [e] at q; cases q
      | some c => rw [e] at q; cases q
    · rw [List.getElem?_replicate] at q
      split at q <;> cases q
  uq := fun i j a d es q _ _ _ => by
    unfold startD at q
    rw [List.getElem?_append] at q
    split at q
    · rw [List.getElem?_map] at q
      cases e : ds[i]? with
      | none => rw [e] at q; cases q
      | some c => rw [e] at q; cases q
    · rw [List.getElem?_replicate] at q
      split at q <;> cases q
  gh := fun p hp => nomatch hp
section
variable {P : Program} {w : World} {K : PySem.W.Frag} {mg : Str → Option Value} {base : Heap}
theorem fn_ok {x qual : Str} {st : Stmt} {f : Addr} {fd : FuncData} {N ps : List Str} {k : Nat} {C : Con} (F : Fun K x qual st f fd) (S : FnScope N ps (defScope st))
    (body : ∀ (cdv : Value) (A : Around) (outer : List Env) (s : Shared) (H : Hp) (E : XK), Room k (A.deeper (envOfC qual (defScope st) s.heap.objs.size f cdv)) →
      ∃ t, PSDs (cxOf CX0 P w K mg base N qual (defScope st) f cdv A outer s H E).nox (defBody st) t ∧ ∀ ds Φ, ds.length = ps.length → C ds Φ → t (finD Φ) (startD N.length ds)) :
    FnOk P w K mg base CX0 (k + 1) f fd ps (spD K ps.length C) := by
  refine F.ok S (fun vs H Q E h => ?_) (fun cdv A outer s H vs Q E hr h => ?_)
  · obtain ⟨ds, S, hl, r, _⟩ := h
    rw [← r.len]; exact hl
  · obtain ⟨t, ⟨t2, ht, wt⟩, rd⟩ := body cdv A outer s H E hr
    obtain ⟨ds, S, hl, r, so, hc⟩ := h
    refine ⟨t2, ht, wt ⟨S, H, []⟩ S H (L2.start N vs) (startD N.length ds) (finD fun d => ∀ v H', Same H H' → Rep K S H' d v → Q v H') _ (er_start r so) (rd ds _ hl hc) ⟨?_, ?_, ?_, ?_⟩⟩
    · intro ρ S' H' σ' h er
      exact h .non H' er.same Rep.non
    · intro ρ S' H' σ' h er
      exact h.elim
    · intro ρ S' H' σ' h er
      exact h.elim
    · intro d v H' h s r'
      exact h v H' s r'
end
def cLaw : Con := fun ds Φ => ∃ ns : List Int, ds = [.lst (ns.map .int)] ∧ ns.length ≤ 63 ∧ Φ (.bl true)
theorem law_sp {K : PySem.W.Frag} {H : Hp} {a : Addr} {ns : List Int} (hl : ns.length ≤ 63) (h : SqL K H a (ns.map V.int)) : spD K 1 cLaw [.ref a] H (fun v _ => v = .bl true) fun _ _ _ => False := by
  refine ⟨[.lst (ns.map .int)], fun _ => False, rfl, Reps.cons (Rep.lst ?_ (Reps.ints ns)) Reps.nil, fun a h => h.elim, ns, rfl, hl, fun v H' s r => rep_bl r⟩
  exact h.elim (fun x => .inl ⟨id, x⟩) .inr
theorem walk {l : PySem.W.OpenLaw} {q : Program} {k : Nat} {loose : List Str} {XP : (Str → Option Value) → Heap → Prop} {YP : World → Heap → Prop} {d : DefRec} {K : Params → PySem.W.Frag} (hn : l.most = some 63) (hdf : d.params.defaults = []) (hr : Room k callerA)
    (hY : ∀ (w : World) (h : Heap), YP w h → (K w.params).In h)
    (F : ∀ (w : World) (mg : Str → Option Value) (fa : Addr) (h : Heap), (K w.params).In h → h.Ns mainGlobals mg → mg d.name = some (.ref fa) →
      ∃ fd : FuncData, (∀ (s : Shared) (u : Value), BindsTo s fd ⟨[u], []⟩ [("script", u)]) ∧ ∀ base : Heap, (K w.params).In base → base.Ns mainGlobals mg → FnOk l.prog w (K w.params) mg base CX0 k fa fd ["script"] (spD (K w.params) 1 cLaw)) :
    PySem.W.WalkO q loose XP YP l.row.toRowW d [] (fun f vs => PySem.call f vs) :=
  L2.walk_of (n := 63) (k := k) (x := "script") (CX := fun _ => CX0) (sp := fun w => spD (K w.params) 1 cLaw) hn (by decide) hdf hr hY F (fun _ _ a ns hl _ hS => law_sp hl hS) fun _ _ _ _ _ z => z
end D3

set_option Elab.async false
set_option linter.all false
set_option maxRecDepth 100000
set_option maxHeartbeats 4000000
namespace D3
open PySem PySem.Spec PyProof.Rows L2
abbrev G3 := D → Fr3 → (Fr3 → Prop) → Prop
def PGD (X : Cx) (tg : Expr) (g : G3) : Prop := ∃ g2, PG X tg g2 ∧ ∀ B S H σ ρ d v Ψ (Q : L2.St → Hp → Prop), ER X.K B S H σ ρ → Rep X.K S H d v → g d ρ Ψ → (∀ ρ' σ', Ψ ρ' → ER X.K B S H σ' ρ' → Q σ' H) → g2 v σ H Q
section
variable {X : Cx} {e : Expr} {es : List Expr} {pos : Pos} {te : E3}
abbrev gN (i : Nat) : G3 := fun d ρ Ψ => Ψ (ρ.set i (.val d))
theorem pgd_name {i : Nat} {x : Str} (hN : X.N.Nodup) (hi : X.N[i]? = some x) (hx : Loc X.env.scope x) (hf : X.fn x = true ∨ X.env.scope.names.lookup x = some .local := by first | exact .inl rfl | exact .inr rfl | assumption) : PGD X (.Name x pos) (gN i) :=
  ⟨_, pg_name hN hi hx hf, fun B S H σ ρ d v Ψ Q er r h k => k _ _ h (er.put r)⟩
abbrev sPar (i j : Nat) (ta : A3) : S3 := fun Φ ρ => ta ρ fun ds => match ds with
  | [c, d] => Φ (.nx ((ρ.set i (.val c)).set j (.val d)))
  | _ => False
theorem psd_par {i j : Nat} {x y : Str} {a b : Expr} {ta : A3} {px py pt : Pos} {kt k2 pt2} (hc : X.calm = true) (hN : X.N.Nodup) (hi : X.N[i]? = some x) (hj : X.N[j]? = some y) (hij : i ≠ j)
    (hx : X.env.scope.names.lookup x = some .local) (hy : X.env.scope.names.lookup y = some .local) (ha : PAD X [a, b] ta)
    (hw : swappedStores [.Tuple [.Name x px, .Name y py] kt pt] (.Tuple [a, b] k2 pt2) X.env = pure (some [x, y]))
    (hs : swapsWithSole [.Tuple [.Name x px, .Name y py] kt pt] (.Tuple [a, b] k2 pt2) pos.line X.env = pure false := by rfl) :
    PSD X (.Assign [.Tuple [.Name x px, .Name y py] kt pt] (.Tuple [a, b] k2 pt2) pos) (sPar i j ta) := by
  obtain ⟨t2, h, w⟩ := ha
  refine ⟨_, ps_par hc hN hi hj hij hx hy h hw hs, fun B S H σ ρ Φ D' er q ok => w B S H σ ρ _ _ er q fun ds vs H1 p s r => ?_⟩
  match ds, p with
  | [c, d], p =>
    simp only [Reps] at r
    obtain ⟨u, _, rfl, ru, v, _, rfl, rv, rfl⟩ := r
    exact ⟨u, v, rfl, ok.nx _ S H1 _ p (((er.go s).put ru).put rv)⟩
end
abbrev loopS (k : (F3 → Prop) → Fr3 → Prop) (Φ : F3 → Prop) : F3 → Prop
  | .nx ρ => k Φ ρ
  | .ct ρ => k Φ ρ
  | .bk ρ => Φ (.nx ρ)
  | .rt d => Φ (.rt d)
def FOR (g : G3) (tb : S3) : List D → (F3 → Prop) → Fr3 → Prop
  | [], Φ, ρ => Φ (.nx ρ)
  | d :: ds, Φ, ρ => g d ρ fun ρ1 => tb (loopS (FOR g tb ds) Φ) ρ1
def Wlk (K : PySem.W.Frag) (J : It) (d : D) (v : V) (ds : List D) : Prop := ∀ S H, Rep K S H d v → J.stop ds.length H ∧ ∀ (i : Nat), i < ds.length → J.go i H ∧ ∀ x H', J.yld i H x H' → H' = H ∧ ∃ e, ds[i]? = some e ∧ Rep K S H e x
def WlkL (K : PySem.W.Frag) (J : It) (hs : List (D × V)) (ds : List D) : Prop := ∀ S H, (∀ p ∈ hs, Rep K S H p.1 p.2) → J.stop ds.length H ∧ ∀ (i : Nat), i < ds.length → J.go i H ∧ ∀ x H', J.yld i H x H' → Same H H' ∧ ∃ e, ds[i]? = some e ∧ Rep K S H' e x
theorem Wlk.l {K : PySem.W.Frag} {J : It} {d : D} {v : V} {ds : List D} (h : Wlk K J d v ds) : WlkL K J [(d, v)] ds := fun S H r => by
  obtain ⟨a, b⟩ := h S H (r (d, v) (by simp))
  refine ⟨a, fun i hi => ⟨(b i hi).1, fun x H' y => ?_⟩⟩
  obtain ⟨rfl, e, ee, re⟩ := (b i hi).2 x H' y
  exact ⟨Same.refl _, e, ee, re⟩
def PID (X : Cx) (tg iter : Expr) (t : A3) : Prop := ∃ wi, PI X tg iter wi ∧ ∀ B S H σ ρ Φ (R : It → Hp → Prop), ER X.K B S H σ ρ → t ρ Φ → (∀ ds J hs H1, Φ ds → Same H H1 → (∀ p ∈ hs, Rep X.K S H1 p.1 p.2) → WlkL X.K J hs ds → R J H1) → wi σ H R
theorem PID.one {X : Cx} {tg iter : Expr} {t : A3} (h : ∃ wi, PI X tg iter wi ∧ ∀ B S H σ ρ Φ (R : It → Hp → Prop), ER X.K B S H σ ρ → t ρ Φ → (∀ ds J d v H1, Φ ds → Same H H1 → Rep X.K S H1 d v → Wlk X.K J d v ds → R J H1) → wi σ H R) : PID X tg iter t := by
  obtain ⟨wi, hi, ww⟩ := h
  refine ⟨wi, hi, fun B S H σ ρ Φ R er q k => ww B S H σ ρ Φ R er q fun ds J d v H1 hΦ s r w => k ds J [(d, v)] H1 hΦ s (fun p hp => ?_) w.l⟩
  have e : p = (d, v) := by simpa using hp
  subst e
  exact r
theorem ER.holds {K : PySem.W.Frag} {B : Bs} {S : Addr → Prop} {H : Hp} {σ : L2.St} {ρ : Fr3} {hs : List (D × V)} (er : ER K B S H σ ρ) (r : ∀ p ∈ hs, Rep K S H p.1 p.2) : ER K { B with gh := hs ++ B.gh } S H σ ρ :=
  ⟨er.len, er.same, er.sub, er.ok0, er.ok, er.val, er.own, er.uq, fun p hp => by
    rcases List.mem_append.mp hp with hp | hp
    · exact r p hp
    · exact er.gh p hp⟩
theorem ER.unholds {K : PySem.W.Frag} {B : Bs} {S : Addr → Prop} {H : Hp} {σ : L2.St} {ρ : Fr3} {hs : List (D × V)} (er : ER K { B with gh := hs ++ B.gh } S H σ ρ) : ER K B S H σ ρ :=
  ⟨er.len, er.same, er.sub, er.ok0, er.ok, er.val, er.own, er.uq, fun q hq => er.gh q (List.mem_append_right _ hq)⟩
section
variable {X : Cx} {tg iter e : Expr} {body : List Stmt} {ti : A3} {g : G3} {tb : S3} {te : E3} {pos : Pos}
abbrev sFor (ti : A3) (g : G3) (tb : S3) : S3 := fun Φ ρ => ti ρ fun ds => FOR g tb ds Φ ρ
theorem psd_for (hp : PassesOwn (model X.prog X.w) X.A X.env X.xe) (hc : X.calm = true) (hi : PID X tg iter ti) (hg : PGD X tg g) (hb : PSDs X body tb)
    (hfs : ∀ x, foldedSetIterable iter X.env x = pure x := by intro _; rfl) : PSD X (.For tg iter body [] pos) (sFor ti g tb) := by
  obtain ⟨wi, hi, ww⟩ := hi; obtain ⟨g2, hg, wg⟩ := hg; obtain ⟨b2, hb, wb⟩ := hb
  refine ⟨_, ps_for hp hc hi hg hb hfs, fun B S H σ ρ Φ D' er q ok => ww B S H σ ρ _ _ er q fun ds J hs H1 hΦ s1 rv wk => ?_⟩
  refine ⟨fun i m σ' H' => m = ds.length - i ∧ i ≤ ds.length ∧ ∃ S' ρ', ER X.K { B with gh := hs ++ B.gh } S' H' σ' ρ' ∧ FOR g tb (ds.drop i) Φ ρ', ⟨_, rfl, Nat.zero_le _, S, ρ, (er.go s1).holds rv, hΦ⟩, ?_⟩
  rintro i m σ' H' ⟨rfl, hi, S', ρ', er', hf⟩
  have rg := fun p (hp : p ∈ hs) => er'.gh p (List.mem_append_left _ hp)
  obtain ⟨wstop, wgo⟩ := wk S' H' rg
  by_cases hlt : i < ds.length
  · obtain ⟨go, yl⟩ := wgo i hlt
    rw [List.drop_eq_getElem_cons hlt] at hf
    refine .inr ⟨go, fun σ2 H2 => ∃ S2 ρ2, ER X.K { B with gh := hs ++ B.gh } S2 H2 σ2 ρ2 ∧ FOR g tb (ds.drop (i + 1)) Φ ρ2, fun σ2 H2 h2 => ⟨_, by omega, rfl, hlt, h2⟩, fun x H2 y => ?_⟩
    obtain ⟨sy, e', ee, re⟩ := yl x H2 y
    rw [List.getElem?_eq_getElem hlt] at ee
    cases ee
    refine wg _ S' _ σ' ρ' _ x _ _ (er'.go sy) re hf fun ρ1 σ1 h1 er1 => wb _ S' _ σ1 ρ1 _ _ er1 h1 ⟨fun ρ2 S2 H2 σ2 p er2 => ⟨S2, ρ2, er2, p⟩, fun ρ2 S2 H2 σ2 p er2 => ok.nx ρ2 S2 H2 σ2 p er2.unholds, fun ρ2 S2 H2 σ2 p er2 => ⟨S2, ρ2, er2, p⟩, fun c u H2 p s2 r2 => ok.rt c u H2 p s2 r2⟩
  · have hi' : i = ds.length := by omega
    subst hi'
    rw [List.drop_length] at hf
    exact .inl ⟨wstop, ok.nx ρ' S' H' σ' hf er'.unholds⟩
def ups (lo : Int) (n : Nat) : List D := (List.range n).map fun (i : Nat) => D.int (lo + (i : Int))
theorem ups_length (lo : Int) (n : Nat) : (ups lo n).length = n := by simp [ups]
theorem wlk_range (K : PySem.W.Frag) (lo : Int) (n : Nat) : Wlk K (Itr lo n) .non .non (ups lo n) := fun S H _ => by
  refine ⟨by show n ≤ _; rw [ups_length]; exact Nat.le_refl _, fun i hi => ⟨by rw [ups_length] at hi; exact hi, fun x H' y => ?_⟩⟩
  obtain ⟨rfl, rfl⟩ := y
  refine ⟨rfl, .int (lo + i), ?_, Rep.int⟩
  rw [ups_length] at hi
  simp [ups, hi]
abbrev iR1 (ta : A3) : A3 := fun ρ Φ => ta ρ fun ds => match ds with | [.int j] => -(2 ^ 62) ≤ j ∧ j < 2 ^ 62 ∧ Φ (ups 0 j.toNat) | _ => False
theorem pid_range1 {a : Expr} {ta : A3} {p pos : Pos} (hg : Gl X "range") (hm : X.mg "range" = none) (ha : PAD X [a] ta) (hs : starEach [a] X.env = [(false, eval a X.env)] := by rfl) : PID X tg (.Call (.Name "range" p) [a] [] pos) (iR1 ta) := by
  obtain ⟨t2, h, w⟩ := ha
  refine PID.one ⟨_, pi_range1 hg hm h hs, fun B S H σ ρ Φ R er q k => w B S H σ ρ _ _ er q fun ds vs H1 p s r => ?_⟩
  match ds, p with
  | [.int j], p =>
    simp only [Reps, Rep] at r
    obtain ⟨u, _, rfl, rfl, rfl⟩ := r
    exact ⟨j, rfl, p.1, p.2.1, k _ _ .non .non H1 p.2.2 s Rep.non (wlk_range _ _ _)⟩
abbrev loopW (N : Fr3 → Prop) (Φ : F3 → Prop) : F3 → Prop
  | .nx ρ => N ρ
  | .ct ρ => N ρ
  | .bk ρ => Φ (.nx ρ)
  | .rt d => Φ (.rt d)
def sWhile (tc : B3) (tb : S3) : S3 := fun Φ ρ => ∃ W : Nat → Fr3 → Prop, (∃ m, W m ρ) ∧ ∀ m ρ, W m ρ → tc ρ fun k => if k = true then tb (loopW (fun ρ' => ∃ m', m' < m ∧ W m' ρ') Φ) ρ else Φ (.nx ρ)
theorem psd_while {c : Expr} {tc : B3} (hp : PassesOwn (model X.prog X.w) X.A X.env X.xe) (hc : PB X c tc) (hb : PSDs X body tb) : PSD X (.While c body [] pos) (sWhile tc tb) := by
  obtain ⟨c2, hc, wc⟩ := hc; obtain ⟨b2, hb, wb⟩ := hb
  refine ⟨_, ps_while hp hc hb, fun B S H σ ρ Φ D' er ⟨W, ⟨m0, w0⟩, turn⟩ ok => ?_⟩
  refine ⟨fun m σ' H' => ∃ S' ρ', ER X.K B S' H' σ' ρ' ∧ W m ρ', ⟨m0, S, ρ, er, w0⟩, ?_⟩
  rintro m σ' H' ⟨S', ρ', er', w'⟩
  refine wc B S' H' σ' ρ' _ _ er' (turn m ρ' w') fun k H1 hk s1 => ?_
  cases k with
  | true =>
    have hk : tb (loopW (fun ρ' => ∃ m', m' < m ∧ W m' ρ') Φ) ρ' := by simpa using hk
    simp only [if_true]
    refine ⟨fun σ2 H2 => ∃ S2 ρ2 m', m' < m ∧ ER X.K B S2 H2 σ2 ρ2 ∧ W m' ρ2, fun σ2 H2 ⟨S2, ρ2, m', lt, er2, w2⟩ => ⟨m', lt, S2, ρ2, er2, w2⟩, ?_⟩
    exact wb B S' H1 σ' ρ' _ _ (er'.go s1) hk ⟨fun ρ2 S2 H2 σ2 ⟨m', lt, w2⟩ er2 => ⟨S2, ρ2, m', lt, er2, w2⟩, fun ρ2 S2 H2 σ2 p er2 => ok.nx ρ2 S2 H2 σ2 p er2, fun ρ2 S2 H2 σ2 ⟨m', lt, w2⟩ er2 => ⟨S2, ρ2, m', lt, er2, w2⟩, ok.rt⟩
  | false =>
    have hk : Φ (.nx ρ') := by simpa using hk
    simp only [Bool.false_eq_true, if_false]
    exact ok.nx ρ' S' H1 σ' hk (er'.go s1)
theorem while_inv {tc : B3} {tb : S3} {Φ : F3 → Prop} {ρ : Fr3} (I : Fr3 → Prop) (μ : Fr3 → Nat) (h0 : I ρ)
    (hs : ∀ ρ, I ρ → tc ρ fun k => if k = true then tb (loopW (fun ρ' => ∃ m', m' < μ ρ ∧ m' = μ ρ' ∧ I ρ') Φ) ρ else Φ (.nx ρ)) : sWhile tc tb Φ ρ :=
  ⟨fun m ρ => m = μ ρ ∧ I ρ, ⟨_, rfl, h0⟩, fun m ρ ⟨e, p⟩ => by subst e; exact hs ρ p⟩
theorem FOR_inv {g : G3} {tb : S3} {Φ : F3 → Prop} (I : List D → List D → Fr3 → Prop) (hs : ∀ pre d post ρ, I pre (d :: post) ρ → ∀ k : (F3 → Prop) → Fr3 → Prop, (∀ ρ', I (pre ++ [d]) post ρ' → k Φ ρ') → g d ρ fun ρ1 => tb (loopS k Φ) ρ1)
    (hd : ∀ pre ρ, I pre [] ρ → Φ (.nx ρ)) : ∀ (post pre : List D) (ρ : Fr3), I pre post ρ → FOR g tb post Φ ρ
  | [], pre, ρ, h => hd pre ρ h
  | d :: post, pre, ρ, h => hs pre d post ρ h (FOR g tb post) fun ρ' h' => FOR_inv I hs hd post (pre ++ [d]) ρ' h'
end
end D3

set_option Elab.async false
set_option linter.all false
set_option maxRecDepth 100000
set_option maxHeartbeats 4000000
namespace D3
open PySem PySem.Spec PyProof.Rows L2
section
open PySem.MeetsSeq PySem.AutoSeq1
end
def HandN (K : PySem.W.Frag) (S : Addr → Prop) (H : Hp) (Φ : List D → Prop) (Q : VK) : Prop := ∀ ds xs p H1, Φ ds → Same H H1 → H1 p = none → Reps K S H1 ds xs → Q (.ref p) (upd H1 p (.lst xs))
def PF (X : Cx) (e : Expr) (t : A3) : Prop := ∃ t2, PE X e t2 ∧ ∀ B S H σ ρ Φ Q, ER X.K B S H σ ρ → t ρ Φ → HandN X.K S H Φ Q → t2 σ H Q
abbrev dF (t : A3) : E3 := fun ρ Φ => t ρ fun ds => Φ (.lst ds)
section
variable {X : Cx} {a b c e : Expr} {ta tb tc te : E3} {tr tf : A3} {es : List Expr} {pos : Pos}
theorem pd_new (h : PF X e tf) : PD X e (dF tf) := by
  obtain ⟨t2, h, w⟩ := h
  exact ⟨_, h, fun B S H σ ρ Φ Q er q hd => w B S H σ ρ _ _ er q fun ds xs p H1 hΦ s1 hp r => hd _ _ _ hΦ (s1.trans (same_new hp)) (Rep.newLst (er.ok.same s1) hp r)⟩
abbrev fLst (t : A3) : A3 := fun ρ Φ => t ρ fun ds => ds.length ≤ sizeLine ∧ Φ ds
theorem pf_lst (h : PAD X es tr) : PF X (.List es pos) (fLst tr) := by
  obtain ⟨t2, h, w⟩ := h
  exact ⟨_, pe_lst h, fun B S H σ ρ Φ Q er q hd => w B S H σ ρ _ _ er q fun ds vs H1 hk s1 r => ⟨by rw [← r.len]; exact hk.1, fun p hp => hd _ _ p H1 hk.2 s1 hp r⟩⟩
abbrev O3 := Fr3 → (Option Int → Prop) → Prop
def POD (X : Cx) (e : Option Expr) (t : O3) : Prop := ∃ t2, PO X e t2 ∧ ∀ B S H σ ρ Φ (Q : Option Int → Hp → Prop), ER X.K B S H σ ρ → t ρ Φ → (∀ o H', Φ o → Same H H' → Q o H') → t2 σ H Q
abbrev oSome (te : E3) : O3 := fun ρ Φ => te ρ fun d => match d with | .int i => Φ (some i) | _ => False
theorem pod_some (h : PD X e te) : POD X (some e) (oSome te) := by
  obtain ⟨t2, h, w⟩ := h
  refine ⟨_, po_some h, fun B S H σ ρ Φ Q er q hd => w B S H σ ρ _ _ er q fun d v H1 hk s1 r => ?_⟩
  cases d <;> first | exact hk.elim | skip
  exact ⟨_, rep_int r, hd _ H1 hk s1⟩
def cutD {α : Type} (xs : List α) (lo hi : Option Int) : List α := (xs.drop (HT.sIx xs.length 0 lo)).take (HT.sIx xs.length xs.length hi - HT.sIx xs.length 0 lo)
abbrev fSl (te : E3) (tl th : O3) : A3 := fun ρ Φ => te ρ fun d => tl ρ fun lo => th ρ fun hi => match d with | .lst ds => Φ (cutD ds lo hi) | _ => False
theorem pf_slice {lo hi : Option Expr} {tl th : O3} {p2 : Pos} (he : PD X e te) (hl : POD X lo tl) (hu : POD X hi th) : PF X (.Subscript e (.Slice lo hi none p2) pos) (fSl te tl th) := by
  obtain ⟨t2, h, w⟩ := he; obtain ⟨l2, hl, wl⟩ := hl; obtain ⟨u2, hu, wu⟩ := hu
  refine ⟨_, pe_slice sl_list h hl hu, fun B S H σ ρ Φ Q er q hd => w B S H σ ρ _ _ er q fun d v H1 p1 s1 r1 => wl B S H1 σ ρ _ _ (er.go s1) p1 fun l H2 p2 s2 => wu B S H2 σ ρ _ _ ((er.go s1).go s2) p2 fun u H3 p3 s3 => ?_⟩
  cases d <;> first | exact p3.elim | skip
  obtain ⟨a, xs, rfl, lr, rs⟩ := rep_lst ((r1.same s2).same s3)
  refine ⟨a, xs, rfl, lr.sq, fun p hp => hd _ _ p H3 p3 ((s1.trans s2).trans s3) hp ?_⟩
  unfold cutD cutV
  rw [← rs.len]
  exact (rs.drop _).take _
end
def CallD (X : Cx) (f : Value) (r3 : Con) : Prop := ∃ r, CallR X f r ∧ ∀ S H ds vs Φ Q, SOk S H → Reps X.K S H ds vs → r3 ds Φ → Hand X.K S H Φ Q → r vs H Q
abbrev dB (r : Con) (t : A3) : E3 := fun ρ Φ => t ρ fun ds => r ds Φ
section
variable {X : Cx} {x : Str} {p pos : Pos} {e : Expr} {es : List Expr} {t tr : A3} {te tb : E3} {id T : String} {r : Con}
theorem pd_callB (hc : CallD X (.builtin id) r) (hg : Gl X x) (hm : X.mg x = none) (hv : bootBuiltins x = some (.builtin id)) (ha : PAD X (e :: es) t) (hn : x ≠ "__name__" := by decide) (hdb : (x == ("__debug__" : Str)) = false := by decide)
    (he : starEach (e :: es) X.env = (false, eval e X.env) :: starEach es X.env := by rfl) (hpl : (backTo pos (starEach es X.env)).any (·.1) = false := by rfl) : PD X (.Call (.Name x p) (e :: es) [] pos) (dB r t) := by
  obtain ⟨r2, hc, wc⟩ := hc; obtain ⟨t2, h, w⟩ := ha
  exact ⟨_, pe_callB hc hg hm hv h hn hdb he hpl, fun B S H σ ρ Φ Q er q hd => w B S H σ ρ _ _ er q fun ds vs H1 p1 s1 r1 => wc S H1 ds vs Φ Q (er.ok.same s1) r1 p1 (hd.go s1)⟩
abbrev cLen : Con
  | [.lst ds], Φ => Φ (.int ds.length)
  | [.tup ds], Φ => Φ (.int ds.length)
  | _, _ => False
theorem b_len : CallD X (.builtin "len") cLen := ⟨_, call_len_seq, fun S H ds vs Φ Q so r h hd => by
  match ds, h with
  | [.lst ds], h =>
    simp only [Reps] at r
    obtain ⟨v, _, rfl, rv, rfl⟩ := r
    obtain ⟨a, xs, rfl, lr, rs⟩ := rep_lst rv
    exact ⟨a, xs, rfl, .inl lr.sq, hd _ _ H h (Same.refl _) (by rw [rs.len]; exact Rep.int)⟩
  | [.tup ds], h =>
    simp only [Reps] at r
    obtain ⟨v, _, rfl, rv, rfl⟩ := r
    obtain ⟨a, xs, rfl, lr, rs⟩ := rep_tup rv
    exact ⟨a, xs, rfl, .inr lr, hd _ _ H h (Same.refl _) (by rw [rs.len]; exact Rep.int)⟩⟩
abbrev cAbs : Con
  | [.int i], Φ => Φ (.int (i.natAbs : Int))
  | _, _ => False
theorem b_abs : CallD X (.builtin "abs") cAbs := ⟨_, call_abs, fun S H ds vs Φ Q so r h hd => by
  match ds, h with
  | [.int i], h =>
    simp only [Reps, Rep] at r
    obtain ⟨v, _, rfl, rfl, rfl⟩ := r
    have e : (if i < 0 then -i else i) = (i.natAbs : Int) := by split <;> omega
    exact ⟨i, rfl, hd _ _ H h (Same.refl _) (by rw [e]; exact Rep.int)⟩⟩
def isInt : D → Bool
  | .int _ => true
  | .bl _ => true
  | _ => false
def isBool : D → Bool
  | .bl _ => true
  | _ => false
def tyD : D → String
  | .non => "NoneType"
  | .bl _ => "bool"
  | .int _ => "int"
  | .str _ => "str"
  | .tup _ => "tuple"
  | .lst _ => "list"
theorem isinst_D {pins : List (Addr × Obj)} {σ : L2.St} {H : Hp} {s : Shared} {A : Around} {E : Value → Shared → Prop} {Q : Value → Shared → Prop} {c : Value} {b : Bool} {S : Addr → Prop} {d : D} {x : V} {u : Value} (I : Inv X pins σ H s) (rx : RelV x u) (rd : Rep X.K S H d x)
    (e : PySem.W.kitOne X.K (.type (tyD d)) c = some b) (h : ∀ tk, Q (.bool b) { s with toks := tk }) : wpAny (model X.prog X.w) A (call (.builtin "isinstance") [u, c]) Q E s := by
  cases d with
  | non => cases rep_non rd; exact isinst_ok I rx .non e h
  | bl k => cases rep_bl rd; exact isinst_ok I rx (.bl k) e h
  | int k => cases rep_int rd; exact isinst_ok I rx (.int k) e h
  | str k => cases rep_str rd; exact isinst_ok I rx (.str k) e h
  | tup ds =>
    obtain ⟨a, xs, rfl, lr, rs⟩ := rep_tup rd
    cases (show u = Value.ref a from rx)
    obtain ⟨its, r', pl, hz⟩ := I.tuple lr
    obtain ⟨o, h1, h2, _⟩ := pl
    exact PySem.W.kia_one PySem.W.kitx_tuple I.kIn ⟨o, h1, h2⟩ e (fun z => nomatch z) h
  | lst ds =>
    obtain ⟨a, xs, rfl, lr, rs⟩ := rep_lst rd
    cases (show u = Value.ref a from rx)
    obtain ⟨its, r', pl, hz⟩ := I.list lr.sq
    obtain ⟨o, n, h1, h2, _⟩ := pl
    exact PySem.W.kia_one PySem.W.kitx_list I.kIn ⟨o, h1, h2⟩ e (fun z => nomatch z) h
def TyFn (T : String) (f : D → Bool) : Prop := ∀ (K : PySem.W.Frag) (d : D), PySem.W.kitOne K (.type (tyD d)) (.type T) = some (f d)
theorem ty_int : TyFn "int" isInt := fun K d => by cases d <;> rfl
theorem ty_bool : TyFn "bool" isBool := fun K d => by cases d <;> rfl
abbrev dIsT (f : D → Bool) (te : E3) : E3 := fun ρ Φ => te ρ fun d => Φ (.bl (f d))
theorem pd_isinst {f : D → Bool} {y : Str} {py : Pos} (hT : TyFn T f) (hg : Gl X x) (hm : X.mg x = none) (hv : bootBuiltins x = some (.builtin "isinstance")) (hgy : Gl X y) (hmy : X.mg y = none) (hvy : bootBuiltins y = some (.type T)) (ha : PD X e te)
    (hn : x ≠ "__name__" := by decide) (hdb : (x == ("__debug__" : Str)) = false := by decide) (hny : y ≠ "__name__" := by decide) (hdy : (y == ("__debug__" : Str)) = false := by decide)
    (he : starEach [e, .Name y py] X.env = [(false, eval e X.env), (false, eval (.Name y py) X.env)] := by rfl) (he2 : starEach [.Name y py] X.env = [(false, eval (.Name y py) X.env)] := by rfl) :
    PD X (.Call (.Name x p) [e, .Name y py] [] pos) (dIsT f te) := by
  obtain ⟨t2, h, w⟩ := ha
  have cr : CallR X (.builtin "isinstance") (fun xs H Q => ∃ S d v, xs = [v, .ty T] ∧ Rep X.K S H d v ∧ Q (.bl (f d)) H) := fun pins s σ H xs us Q I rs ⟨S, d, v, e1, rd, q⟩ => by
    subst e1
    obtain ⟨u, u2, rfl, r1, r2⟩ := vals2 rs
    cases (show u2 = Value.type T from r2)
    exact isinst_D I r1 rd (hT X.K d) fun tk => ⟨.bl _, H, I.tok tk, rfl, q⟩
  refine ⟨_, pe_callB cr hg hm hv (pa_cons h (pa_cons (pe_bltn hgy hmy hvy (show RelV (.ty T) (.type T) from rfl) hny hdy) pa_nil he2) (by rw [he, he2])) hn hdb (by rw [he, he2]) (by rw [he2]; rfl), fun B S H σ ρ Φ Q er q hd => w B S H σ ρ _ _ er q fun d v H1 p1 s1 r1 => ?_⟩
  exact ⟨S, d, v, rfl, r1, hd _ _ H1 p1 s1 Rep.bl⟩
end
end D3

set_option Elab.async false
set_option linter.all false
set_option maxRecDepth 100000
set_option maxHeartbeats 4000000
namespace D3
open PySem PySem.Spec PyProof.Rows L2
section
variable {K : PySem.W.Frag} {B : Bs} {S : Addr → Prop} {H : Hp} {σ : L2.St} {ρ : Fr3} {i : Nat} {d : D} {ds es : List D} {v : V} {a p : Addr} {xs ys : List V}
theorem ER.take (er : ER K B S H σ ρ) (hp : H p = none) (r : Reps K S H ds xs) : ER K B (fun b => S b ∨ b = p) (upd H p (.lst xs)) (σ.set i (some (.ref p))) (ρ.set i (.own ds)) := by
  have sm := same_new (o := .lst xs) hp
  have hL : ∀ b ys, LR K S H b ys → LR K (fun b => S b ∨ b = p) (upd H p (.lst xs)) b ys := fun b ys q => by
    rcases q with ⟨n, q⟩ | q
    · have hb : b ≠ p := by
        rintro rfl
        rcases q with q | ⟨o, q⟩ <;> rw [hp] at q <;> cases q
      refine .inl ⟨fun z => z.elim n hb, ?_⟩
      rcases q with q | ⟨o, q⟩
      · exact .inl (sm _ _ q)
      · exact .inr ⟨o, sm _ _ q⟩
    · exact .inr q
  have mv : ∀ {c : D} {w : V}, Rep K S H c w → Rep K (fun b => S b ∨ b = p) (upd H p (.lst xs)) c w := fun {c w} q => Rep.map (same_tup sm) hL c w q
  have mvs : ∀ {c : List D} {w : List V}, Reps K S H c w → Reps K (fun b => S b ∨ b = p) (upd H p (.lst xs)) c w := fun {c w} q => Reps.map (same_tup sm) hL c w q
  have h0 : B.H0 p = none := er.same.free hp
  exact {
    len := by rw [List.length_set, List.length_set]; exact er.len
    same := er.same.trans sm
    sub := fun b h => .inl (er.sub b h)
    ok0 := er.ok0
    ok := fun b h => by
      by_cases hb : b = p
      · subst hb; exact ⟨_, upd_same⟩
      · obtain ⟨o, e⟩ := er.ok b (h.resolve_right hb)
        exact ⟨o, sm _ _ e⟩
    val := fun j c q => by
      rw [List.getElem?_set] at q
      split at q
      · first | cases q | (split at q <;> cases q)
      · rename_i hij
        obtain ⟨w, e, r'⟩ := er.val j c q
        exact ⟨w, by rw [List.getElem?_set_ne hij]; exact e, mv r'⟩
    own := fun j c q => by
      rw [List.getElem?_set] at q
      split at q
      · rename_i hij
        subst hij
        split at q
        · rename_i hl
          cases q
          exact ⟨p, xs, by rw [List.getElem?_set_self (by rw [er.len]; exact hl)], .inr rfl, h0, upd_same, mvs r⟩
        · cases q
      · rename_i hij
        obtain ⟨b, zs, e, hs, hz, hl, r'⟩ := er.own j c q
        exact ⟨b, zs, by rw [List.getElem?_set_ne hij]; exact e, .inl hs, hz, sm _ _ hl, mvs r'⟩
    uq := fun j k b c c' q1 q2 e1 e2 => by
      rw [List.getElem?_set] at q1 q2
      split at q1
      · rename_i h1
        subst h1
        split at q1
        · rename_i hl
          rw [List.getElem?_set_self (by rw [er.len]; exact hl)] at e1
          cases e1
          split at q2
          · rename_i h2; exact h2
          · rename_i h2
            obtain ⟨b, zs, e, hs, hz, hl', r'⟩ := er.own k c' q2
            rw [List.getElem?_set_ne h2, e] at e2
            cases e2
            rw [hp] at hl'; cases hl'
        · cases q1
      · rename_i h1
        split at q2
        · rename_i h2
          subst h2
          split at q2
          · rename_i hl
            rw [List.getElem?_set_self (by rw [er.len]; exact hl)] at e2
            cases e2
            obtain ⟨b, zs, e, hs, hz, hl', r'⟩ := er.own j c q1
            rw [List.getElem?_set_ne h1, e] at e1
            cases e1
            rw [hp] at hl'; cases hl'
          · cases q2
        · rename_i h2
          rw [List.getElem?_set_ne h1] at e1
          rw [List.getElem?_set_ne h2] at e2
          exact er.uq j k b c c' q1 q2 e1 e2
    gh := fun q hq => mv (er.gh q hq) }
theorem ER.change (er : ER K B S H σ ρ) (ho : ρ[i]? = some (.own ds)) (ha : σ[i]? = some (some (.ref a))) (hs : S a) (h0 : B.H0 a = none) (hl : H a = some (.lst xs)) (r : Reps K S H es ys) : ER K B S (upd H a (.lst ys)) σ (ρ.set i (.own es)) := by
  have hT : ∀ b zs, SqT K H b zs → SqT K (upd H a (.lst ys)) b zs := fun b zs q => by
    rcases q with (q | ⟨o, q⟩) | q
    · exact .inl (.inl (by rw [upd_ne (ne_of q hl (fun z => nomatch z))]; exact q))
    · exact .inl (.inr ⟨o, by rw [upd_ne (ne_of q hl (fun z => nomatch z))]; exact q⟩)
    · exact .inr q
  have hL : ∀ b zs, LR K S H b zs → LR K S (upd H a (.lst ys)) b zs := fun b zs q => by
    rcases q with ⟨n, q⟩ | q
    · have hb : b ≠ a := fun z => n (z ▸ hs)
      refine .inl ⟨n, ?_⟩
      rcases q with q | ⟨o, q⟩
      · exact .inl (by rw [upd_ne hb]; exact q)
      · exact .inr ⟨o, by rw [upd_ne hb]; exact q⟩
    · exact .inr q
  have mv : ∀ {c : D} {w : V}, Rep K S H c w → Rep K S (upd H a (.lst ys)) c w := fun {c w} q => Rep.map hT hL c w q
  have mvs : ∀ {c : List D} {w : List V}, Reps K S H c w → Reps K S (upd H a (.lst ys)) c w := fun {c w} q => Reps.map hT hL c w q
  have hi : i < ρ.length := (List.getElem?_eq_some_iff.mp ho).1
  exact {
    len := by rw [List.length_set]; exact er.len
    same := fun b o e => by
      have hb : b ≠ a := ne_of_none e h0
      rw [upd_ne hb]; exact er.same b o e
    sub := er.sub
    ok0 := er.ok0
    ok := fun b h => by
      by_cases hb : b = a
      · subst hb; exact ⟨_, upd_same⟩
      · obtain ⟨o, e⟩ := er.ok b h
        exact ⟨o, by rw [upd_ne hb]; exact e⟩
    val := fun j c q => by
      rw [List.getElem?_set] at q
      split at q
      · first | cases q | (split at q <;> cases q)
      · obtain ⟨w, e, r'⟩ := er.val j c q
        exact ⟨w, e, mv r'⟩
    own := fun j c q => by
      rw [List.getElem?_set] at q
      split at q
      · rename_i hij
        subst hij
        try rw [if_pos hi] at q
        cases q
        exact ⟨a, ys, ha, hs, h0, upd_same, mvs r⟩
      · rename_i hij
        obtain ⟨b, zs, e, hsb, hz, hlb, r'⟩ := er.own j c q
        have hb : b ≠ a := fun z => hij (er.uq i j a ds c ho q ha (z ▸ e))
        exact ⟨b, zs, e, hsb, hz, by rw [upd_ne hb]; exact hlb, mvs r'⟩
    uq := fun j k b c c' q1 q2 e1 e2 => by
      have back : ∀ {m : Nat} {c : List D}, (ρ.set i (Sl.own es))[m]? = some (.own c) → ∃ c', ρ[m]? = some (.own c') := fun {m c} q => by
        rw [List.getElem?_set] at q
        split at q
        · rename_i h; subst h; exact ⟨_, ho⟩
        · exact ⟨_, q⟩
      obtain ⟨c1, q1⟩ := back q1
      obtain ⟨c2, q2⟩ := back q2
      exact er.uq j k b c1 c2 q1 q2 e1 e2
    gh := fun q hq => mv (er.gh q hq) }
theorem ER.freeze (er : ER K B S H σ ρ) (ho : ρ[i]? = some (.own ds)) : ∃ S', ER K B S' H σ (ρ.set i (.val (.lst ds))) := by
  obtain ⟨a, xs, ea, hs, h0, hl, r⟩ := er.own i ds ho
  have hi : i < ρ.length := (List.getElem?_eq_some_iff.mp ho).1
  have sb : ∀ b, (S b ∧ b ≠ a) → S b := fun b h => h.1
  refine ⟨fun b => S b ∧ b ≠ a, ?_⟩
  exact {
    len := by rw [List.length_set]; exact er.len
    same := er.same
    sub := fun b h => ⟨er.sub b h, fun z => by subst z; obtain ⟨o, e⟩ := er.ok0 b h; rw [h0] at e; cases e⟩
    ok0 := er.ok0
    ok := fun b h => er.ok b h.1
    val := fun j c q => by
      rw [List.getElem?_set] at q
      split at q
      · rename_i hij
        subst hij
        try rw [if_pos hi] at q
        cases q
        exact ⟨.ref a, ea, Rep.lst (.inl ⟨fun z => z.2 rfl, .inl hl⟩) (r.sub sb)⟩
      · obtain ⟨w, e, r'⟩ := er.val j c q
        exact ⟨w, e, r'.sub sb⟩
    own := fun j c q => by
      rw [List.getElem?_set] at q
      split at q
      · first | cases q | (split at q <;> cases q)
      · rename_i hij
        obtain ⟨b, zs, e, hsb, hz, hlb, r'⟩ := er.own j c q
        have hb : b ≠ a := fun z => hij (er.uq i j a ds c ho q ea (z ▸ e))
        exact ⟨b, zs, e, ⟨hsb, hb⟩, hz, hlb, r'.sub sb⟩
    uq := fun j k b c c' q1 q2 e1 e2 => by
      rw [List.getElem?_set] at q1 q2
      split at q1
      · first | cases q1 | (split at q1 <;> cases q1)
      · split at q2
        · first | cases q2 | (split at q2 <;> cases q2)
        · exact er.uq j k b c c' q1 q2 e1 e2
    gh := fun q hq => (er.gh q hq).sub sb }
end
section
variable {X : Cx} {e b : Expr} {te tb : E3} {tf : A3} {pos : Pos} {sts : List Stmt} {t : S3}
abbrev sOwn (i : Nat) (tf : A3) : S3 := fun Φ ρ => tf ρ fun ds => Φ (.nx (ρ.set i (.own ds)))
theorem psd_own {i : Nat} {x : Str} {pos' : Pos} (hN : X.N.Nodup) (hi : X.N[i]? = some x) (hx : Loc X.env.scope x) (he : PF X e tf) (hs : swapsWith e (some (.Name x pos')) pos.line X.env = pure false := by rfl)
    (hf : X.fn x = true ∨ X.env.scope.names.lookup x = some .local := by first | exact .inl rfl | exact .inr rfl | assumption) : PSD X (.Assign [.Name x pos'] e pos) (sOwn i tf) := by
  obtain ⟨t2, h, w⟩ := he
  exact ⟨_, ps_set hN hi hx h hs hf, fun B S H σ ρ Φ D' er q ok => w B S H σ ρ _ _ er q fun ds xs p H1 hΦ s hp r => ok.nx _ _ _ _ hΦ ((er.go s).take hp r)⟩
abbrev sFreeze (i : Nat) (t : S3) : S3 := fun Φ ρ => match ρ[i]? with | some (.own ds) => t Φ (ρ.set i (.val (.lst ds))) | _ => t Φ ρ
theorem psd_freeze (i : Nat) (h : PSDs X sts t) : PSDs X sts (sFreeze i t) := by
  obtain ⟨t2, h, w⟩ := h
  refine ⟨_, h, fun B S H σ ρ Φ D' er q ok => ?_⟩
  unfold sFreeze at q
  split at q
  · rename_i ds e
    obtain ⟨S', er'⟩ := er.freeze e
    exact w B S' H σ _ Φ D' er' q ok
  · exact w B S H σ ρ Φ D' er q ok
abbrev sApp (i : Nat) (te : E3) : S3 := fun Φ ρ => match ρ[i]? with | some (.own ds) => te ρ fun d => ds.length < sizeLine ∧ Φ (.nx (ρ.set i (.own (ds ++ [d])))) | _ => False
theorem psd_append {o : Expr} {i : Nat} {apos cpos : Pos} (ho : PE X o (tVar i)) (he : PD X e te)
    (hbase : attributeBase o "append" X.env (eval o X.env) = eval o X.env := by rfl)
    (hfew : ((backTo cpos (starEach [e] X.env)).all (fun x => !x.1) && (backToKw cpos (keywordEach [] X.env)).all (fun x => x.1.isSome)
      && decide (([e] : List Expr).length + ([] : List Keyword).length + (if ([] : List Keyword).isEmpty then 0 else 1) < 30)) = true := by rfl)
    (hline : (apos.endLine == cpos.line) = true := by rfl) (hst : starEach [e] X.env = [(false, eval e X.env)] := by rfl)
    (hs : swapsWith (.Call (.Attribute o "append" apos) [e] [] cpos) none pos.line X.env = pure false := by rfl) : PSD X (.Expr (.Call (.Attribute o "append" apos) [e] [] cpos) pos) (sApp i te) := by
  obtain ⟨t2, h, w⟩ := he
  refine ⟨_, ps_expr (pe_bm PySem.F.plainAttrs_list PySem.F.slot_list_append PySem.F.type_list_append mt_append ho (pa_cons h pa_nil hst) hbase hfew hline hst rfl) hs, fun B S H σ ρ Φ D' er q ok => ?_⟩
  unfold sApp at q
  split at q
  · rename_i ds e'
    obtain ⟨a, xs, ea, hsa, h0, hl, r⟩ := er.own i ds e'
    refine ⟨.ref a, ea, .inl ⟨rfl, xs, SqL.of hl⟩, w B S H σ ρ _ _ er q fun d v H1 p s rv => ?_⟩
    exact ⟨a, xs, v, rfl, rfl, s _ _ hl, by rw [← r.len]; exact p.1, ok.nx _ _ _ _ p.2 ((er.go s).change e' ea hsa h0 (s _ _ hl) ((r.same s).app (Reps.cons rv Reps.nil)))⟩
  · exact q.elim
end
end D3

set_option Elab.async false
set_option linter.all false
set_option maxRecDepth 100000
set_option maxHeartbeats 4000000
namespace D3
open PySem PySem.Spec PyProof.Rows L2
def clOf (env : Env) : List (Str × NameKind) → List (Str × Addr) → List (Str × Addr)
  | [], cs => cs
  | (n, k) :: r, cs => if (k == .free) = true then (match env.cells.lookup n with | some c => clOf env r ((n, c) :: cs) | none => clOf env r cs) else clOf env r cs
theorem closure_of {scope : Scope} {env : Env} (h : ∀ p ∈ scope.names, p.2 = .free → ∃ c, env.cells.lookup p.1 = some c) : closureFor scope env = pure (clOf env scope.names []) := by
  unfold closureFor
  have key : ∀ (l : List (Str × NameKind)) (cs : List (Str × Addr)), (∀ p ∈ l, p.2 = .free → ∃ c, env.cells.lookup p.1 = some c) →
      (forIn l cs fun x r => match x with | (name, kind) => if (kind == NameKind.free) = true then (do let a ← cellOf env name; pure (ForInStep.yield ((name, a) :: r))) else pure (ForInStep.yield r) : Sem (List (Str × Addr))) = pure (clOf env l cs) := by
    intro l
    induction l with
    | nil => intro cs _; rfl
    | cons p r ih =>
      intro cs hl
      obtain ⟨n, k⟩ := p
      rw [List.forIn_cons]
      have hr := fun cs' => ih cs' fun q hq => hl q (List.mem_cons_of_mem _ hq)
      unfold clOf
      by_cases hk : (k == NameKind.free) = true
      · obtain ⟨c, hc⟩ := hl (n, k) List.mem_cons_self (by simpa using hk)
        have hc' : List.lookup n env.cells = some c := hc
        simp only [hk, if_true, hc', cellOf, pure_bind]
        exact hr _
      · simp only [hk, Bool.false_eq_true, if_false, pure_bind]
        exact hr _
  have := key scope.names [] h
  exact (bind_pure _).trans this
theorem clOf_sub {env : Env} : ∀ {l : List (Str × NameKind)} {cs : List (Str × Addr)} {y : Str} {c : Addr}, (∀ y c, cs.lookup y = some c → env.cells.lookup y = some c) → (clOf env l cs).lookup y = some c → env.cells.lookup y = some c
  | [], cs, y, c, h, e => h y c e
  | (n, k) :: r, cs, y, c, h, e => by
    unfold clOf at e
    split at e
    · split at e
      · rename_i c' hc
        refine clOf_sub (l := r) (fun z d q => ?_) e
        rw [List.lookup_cons] at q
        split at q
        · rename_i hz
          cases q
          have : z = n := by simpa using hz
          rw [this]; exact hc
        · exact h z d q
      · exact clOf_sub h e
    · exact clOf_sub h e
theorem clOf_keep {env : Env} : ∀ {l : List (Str × NameKind)} {cs : List (Str × Addr)} {y : Str}, (∃ c, cs.lookup y = some c) → ∃ c, (clOf env l cs).lookup y = some c
  | [], cs, y, h => h
  | (n, k) :: r, cs, y, h => by
    unfold clOf
    split
    · split
      · rename_i c' hc
        refine clOf_keep (l := r) ?_
        rw [List.lookup_cons]
        split
        · exact ⟨_, rfl⟩
        · exact h
      · exact clOf_keep h
    · exact clOf_keep h
theorem clOf_has {env : Env} : ∀ {l : List (Str × NameKind)} {cs : List (Str × Addr)} {y : Str}, (y, NameKind.free) ∈ l → (∃ c, env.cells.lookup y = some c) → ∃ c, (clOf env l cs).lookup y = some c
  | [], cs, y, h, _ => nomatch h
  | (n, k) :: r, cs, y, h, he => by
    rcases List.mem_cons.mp h with q | q
    · cases q
      obtain ⟨c, hc⟩ := he
      unfold clOf
      rw [if_pos (by rfl), hc]
      refine clOf_keep ⟨c, ?_⟩
      rw [List.lookup_cons]
      simp
    · unfold clOf
      split
      · split
        · exact clOf_has q he
        · exact clOf_has q he
      · exact clOf_has q he
def cmpOk (scope : Scope) (env : Env) (xs M N : List Str) : Bool :=
  scope.kind == .function && scope.names.all (fun p => p.2 != .cell || scope.names.lookup p.1 == some .cell) && scope.names.all (fun p => p.2 != .free || env.kindOf p.1 == some .cell) &&
  scope.names.all (fun p => p.2 != .local || scope.names.lookup p.1 == some .local) && scope.names.all (fun p => p.2 == .local || p.2 == .free || p.2 == .globalImplicit || p.2 == .cell) &&
  xs.all (fun x => scope.names.lookup x == some .local || scope.names.lookup x == some .cell) && M.all (fun y => scope.names.lookup y == none || scope.names.lookup y == some .free || scope.names.lookup y == some .globalImplicit) && M.length == N.length && (M.zip N).all (fun p => p.1 == p.2 || scope.names.lookup p.1 == none)
def cmpCx (X : Cx) (xs M : List Str) (scope : Scope) (C : Addr) (s : Shared) (H : Hp) (fp : List Addr) : Cx :=
  { X with N := xs ++ M, s₀ := s, H₀ := H, env := compEnvC scope (cellsFrom (C + 1) scope.names (clOf X.env scope.names [])) C X.env, outer := X.stack, ex := fp, fn := fun y => scope.names.lookup y == some .cell, pn := [], xe := fun _ _ => False }
theorem mem_of_lookup {α : Type} : ∀ {l : List (Str × α)} {y : Str} {k : α}, l.lookup y = some k → (y, k) ∈ l
  | [], y, k, h => nomatch h
  | (n, j) :: r, y, k, h => by
    rw [List.lookup_cons] at h
    split at h
    · rename_i hz
      cases h
      have : y = n := by simpa using hz
      rw [this]; exact List.mem_cons_self
    · exact List.mem_cons_of_mem _ (mem_of_lookup h)
theorem lookup_relabel {env : Env} : ∀ {names : List (Str × NameKind)} {x : Str} {k : NameKind},
    (names.map fun (n, k) => if (k == NameKind.free && env.scope.kind == .function && env.kindOf n == some .cell) then (n, NameKind.cell) else (n, k)).lookup x = some k → ∃ j, names.lookup x = some j ∧ (j = k ∨ (j = .free ∧ k = .cell))
  | [], _, _, h => by simp at h
  | (n, j) :: r, x, k, h => by
    have ih := @lookup_relabel env r x k
    change List.lookup x ((if (j == NameKind.free && env.scope.kind == .function && env.kindOf n == some .cell) = true then (n, NameKind.cell) else (n, j)) :: _) = _ at h
    rw [List.lookup_cons]
    cases hx : x == n with
    | true =>
      by_cases hc : (j == NameKind.free && env.scope.kind == .function && env.kindOf n == some .cell) = true
      · rw [if_pos hc, List.lookup_cons] at h
        simp only [hx] at h
        cases h
        refine ⟨j, rfl, .inr ⟨?_, rfl⟩⟩
        have := (Bool.and_eq_true _ _ ▸ (Bool.and_eq_true _ _ ▸ hc).1).1
        simpa using this
      · rw [if_neg hc, List.lookup_cons] at h
        simp only [hx] at h
        cases h
        exact ⟨j, rfl, .inl rfl⟩
    | false =>
      by_cases hc : (j == NameKind.free && env.scope.kind == .function && env.kindOf n == some .cell) = true
      · rw [if_pos hc, List.lookup_cons] at h
        simp only [hx] at h
        exact ih h
      · rw [if_neg hc, List.lookup_cons] at h
        simp only [hx] at h
        exact ih h
structure CmpOk (X : Cx) (xs M : List Str) (scope : Scope) : Prop where
  kind : scope.kind = .function
  cells : ∀ p ∈ scope.names, p.2 = .cell → scope.names.lookup p.1 = some .cell
  free : ∀ p ∈ scope.names, p.2 = .free → X.env.kindOf p.1 = some .cell
  loc : ∀ p ∈ scope.names, p.2 = .local → scope.names.lookup p.1 = some .local
  xs : ∀ x ∈ xs, scope.names.lookup x = some .local ∨ scope.names.lookup x = some .cell
  around : ∀ y ∈ M, scope.names.lookup y = none ∨ scope.names.lookup y = some .free ∨ scope.names.lookup y = some .globalImplicit
  len : M.length = X.N.length
  same : ∀ (i : Nat) y, M[i]? = some y → X.N[i]? = some y ∨ scope.names.lookup y = none
theorem cmp_of {X : Cx} {xs M : List Str} {scope : Scope} (h : cmpOk scope X.env xs M X.N = true) : CmpOk X xs M scope := by
  unfold cmpOk at h
  simp only [Bool.and_eq_true, List.all_eq_true, Bool.or_eq_true, beq_iff_eq, bne_iff_ne, ne_eq] at h
  obtain ⟨⟨⟨⟨⟨⟨⟨⟨h1, h2⟩, h3⟩, h4⟩, h5⟩, h6⟩, h7⟩, h8⟩, h9⟩ := h
  exact ⟨h1, fun p hp e => (h2 p hp).resolve_left fun z => z e, fun p hp e => (h3 p hp).resolve_left fun z => z e, fun p hp e => (h4 p hp).resolve_left fun z => z e, h6, fun y hy => by
    rcases h7 y hy with (a | a) | a
    · exact .inl a
    · exact .inr (.inl a)
    · exact .inr (.inr a), h8, fun i y e => by
      have hi : i < M.length := (List.getElem?_eq_some_iff.mp e).1
      have hi2 : i < X.N.length := by rw [← h8]; exact hi
      have em : M[i] = y := (List.getElem?_eq_some_iff.mp e).2
      have hz : (M[i], X.N[i]) ∈ M.zip X.N := by
        have : (M.zip X.N)[i]? = some (M[i], X.N[i]) := by rw [List.getElem?_zip_eq_some]; exact ⟨by simp, by simp⟩
        exact List.mem_of_getElem? this
      rcases h9 _ hz with q | q
      · left
        have q' : M[i] = X.N[i] := q
        rw [← em, q']; simp
      · right; rw [← em]; exact q⟩
theorem cf_app : ∀ (names : List (Str × NameKind)) (n : Nat) (acc : List (Str × Addr)), cellsFrom n names acc = cellsFrom n names [] ++ acc
  | [], n, acc => rfl
  | (x, k) :: r, n, acc => by
    unfold cellsFrom
    split
    · rw [cf_app r (n + 1) ((x, n) :: acc), cf_app r (n + 1) [(x, n)], List.append_assoc]; rfl
    · exact cf_app r n acc
theorem cf_mem : ∀ {names : List (Str × NameKind)} {n : Nat} {acc : List (Str × Addr)} {y : Str} {c : Addr}, (y, c) ∈ cellsFrom n names acc → (y, c) ∈ acc ∨ ((y, NameKind.cell) ∈ names ∧ n ≤ c)
  | [], n, acc, y, c, h => .inl h
  | (x, k) :: r, n, acc, y, c, h => by
    unfold cellsFrom at h
    split at h
    · rename_i hk
      have hk : k = .cell := by simpa using hk
      rcases cf_mem h with z | z
      · rcases List.mem_cons.mp z with z | z
        · cases z; subst hk; exact .inr ⟨List.mem_cons_self, Nat.le_refl _⟩
        · exact .inl z
      · exact .inr ⟨List.mem_cons_of_mem _ z.1, Nat.le_of_succ_le z.2⟩
    · rcases cf_mem h with z | z
      · exact .inl z
      · exact .inr ⟨List.mem_cons_of_mem _ z.1, z.2⟩
theorem cf_keep : ∀ {names : List (Str × NameKind)} {n : Nat} {acc : List (Str × Addr)} {y : Str}, (∃ c, acc.lookup y = some c) → ∃ c, (cellsFrom n names acc).lookup y = some c
  | [], n, acc, y, h => h
  | (x, k) :: r, n, acc, y, h => by
    unfold cellsFrom
    split
    · refine cf_keep (names := r) ?_
      rw [List.lookup_cons]
      split
      · exact ⟨_, rfl⟩
      · exact h
    · exact cf_keep h
theorem cf_has : ∀ {names : List (Str × NameKind)} {n : Nat} {acc : List (Str × Addr)} {y : Str}, (y, NameKind.cell) ∈ names → ∃ c, (cellsFrom n names acc).lookup y = some c
  | [], n, acc, y, h => nomatch h
  | (x, k) :: r, n, acc, y, h => by
    rcases List.mem_cons.mp h with q | q
    · cases q
      unfold cellsFrom
      rw [if_pos (by rfl)]
      refine cf_keep ⟨n, ?_⟩
      rw [List.lookup_cons]
      simp
    · unfold cellsFrom
      split
      · exact cf_has q
      · exact cf_has q
theorem cf_apart : ∀ {names : List (Str × NameKind)} {n : Nat} {acc : List (Str × Addr)}, (∀ p ∈ acc, p.2 < n) → (acc.Pairwise fun x y => x.2 ≠ y.2) → (cellsFrom n names acc).Pairwise fun x y => x.2 ≠ y.2
  | [], n, acc, _, h => h
  | (x, k) :: r, n, acc, hl, h => by
    unfold cellsFrom
    split
    · refine cf_apart (names := r) (fun p hp => ?_) (List.pairwise_cons.mpr ⟨fun p hp e => ?_, h⟩)
      · rcases List.mem_cons.mp hp with z | z
        · rw [z]; exact Nat.lt_succ_self _
        · exact Nat.lt_succ_of_lt (hl p z)
      · have e : n = p.2 := e
        exact absurd (hl p hp) (by rw [← e]; exact Nat.lt_irrefl _)
    · exact cf_apart hl h
theorem cf_cases {names : List (Str × NameKind)} {n : Nat} {cl : List (Str × Addr)} {y : Str} {c : Addr} (h : (cellsFrom n names cl).lookup y = some c) : (cellsFrom n names []).lookup y = some c ∨ ((cellsFrom n names []).lookup y = none ∧ cl.lookup y = some c) := by
  rw [cf_app, List.lookup_append] at h
  cases e : (cellsFrom n names []).lookup y with
  | some a => rw [e] at h; left; simpa using h
  | none => rw [e] at h; right; exact ⟨rfl, by simpa using h⟩
theorem cf_own {names : List (Str × NameKind)} {n : Nat} {y : Str} {c : Addr} (h : (cellsFrom n names []).lookup y = some c) : (y, NameKind.cell) ∈ names ∧ n ≤ c := by
  rcases cf_mem (PySem.mem_of_lookup h) with z | z
  · nomatch z
  · exact z
theorem cf_none {names : List (Str × NameKind)} {n : Nat} {cl : List (Str × Addr)} {y : Str} (h : ∀ k, (y, k) ∈ names → k ≠ NameKind.cell) : (cellsFrom n names cl).lookup y = cl.lookup y := by
  rw [cf_app, List.lookup_append]
  cases e : (cellsFrom n names []).lookup y with
  | some a => exact absurd rfl (h _ (cf_own e).1)
  | none => simp
section
variable {X : Cx} {pins : List (Addr × Obj)} {σ : L2.St} {H : Hp} {s : Shared} {xs M : List Str} {scope : Scope} {C : Addr} {fp : List Addr}
theorem cmp_cells (I : Inv X pins σ H s) (c : CmpOk X xs M scope) : ∀ p ∈ scope.names, p.2 = .free → ∃ a, X.env.cells.lookup p.1 = some a := fun p hp e => I.ok.has p.1 (.inl (c.free p hp e))
theorem cmp_sub {y : Str} {a : Addr} (e : (clOf X.env scope.names []).lookup y = some a) : X.env.cells.lookup y = some a := clOf_sub (fun _ _ q => by simp at q) e
theorem cmp_ok (I : Inv X pins σ H s) (c : CmpOk X xs M scope) (hC : s.heap.objs.size ≤ C) (hf : ∀ b ∈ fp, FpOk X pins H b) (hlt : ∀ b ∈ fp, b < s.heap.objs.size) : (cmpCx X xs M scope C s H fp).Ok where
  mod := I.ok.mod
  kind := c.kind
  glob := I.ok.glob
  blt := I.ok.blt
  above := hC
  inj := fun x y a e1 e2 => by
    have lt : ∀ z, (clOf X.env scope.names []).lookup z = some a → a < s.heap.objs.size := fun z e => by
      obtain ⟨v, q⟩ := I.cell z a (cmp_sub e); exact q.lt
    rcases cf_cases e1 with z1 | z1 <;> rcases cf_cases e2 with z2 | z2
    · exact name_of_addr (cf_apart (acc := []) (fun p hp => nomatch hp) List.Pairwise.nil) (PySem.mem_of_lookup z1) (PySem.mem_of_lookup z2)
    · exact absurd (lt y z2.2) (Nat.not_lt.mpr (Nat.le_trans hC (Nat.le_of_succ_le (cf_own z1).2)))
    · exact absurd (lt x z1.2) (Nat.not_lt.mpr (Nat.le_trans hC (Nat.le_of_succ_le (cf_own z2).2)))
    · exact I.ok.inj x y a (cmp_sub z1.2) (cmp_sub z2.2)
  has := fun x h => by
    have hx : ∃ j, scope.names.lookup x = some j ∧ (j = .free ∨ j = .cell) := by
      rcases h with h | h
      · obtain ⟨j, hj, e⟩ := lookup_relabel h
        rcases e with e | e
        · exact ⟨j, hj, .inr e⟩
        · exact ⟨j, hj, .inl e.1⟩
      · obtain ⟨j, hj, e⟩ := lookup_relabel h
        rcases e with e | e
        · exact ⟨j, hj, .inl e⟩
        · exact ⟨j, hj, .inl e.1⟩
    obtain ⟨j, hj, rfl | rfl⟩ := hx
    · exact cf_keep (clOf_has (mem_of_lookup hj) (cmp_cells I c _ (mem_of_lookup hj) rfl))
    · exact cf_has (mem_of_lookup hj)
  cab := fun x a h e => by
    have hj : scope.names.lookup x = some .cell := by simpa [cmpCx] using h
    rcases cf_cases e with z | z
    · exact Nat.le_trans hC (Nat.le_of_succ_le (cf_own z).2)
    · obtain ⟨a', ha'⟩ := cf_has (n := C + 1) (acc := []) (mem_of_lookup hj)
      rw [z.1] at ha'; cases ha'
  hd := I.ok.hd
  frames := I.ok.frames
  stk := .inl rfl
  exf := fun b hb => ⟨Nat.ne_of_lt (Nat.lt_of_lt_of_le (hlt b hb) hC), fun x a e => by
    rcases cf_cases e with z | z
    · exact Nat.ne_of_gt (Nat.lt_of_lt_of_le (hlt b hb) (Nat.le_trans hC (Nat.le_of_succ_le (cf_own z).2)))
    · exact (hf b hb).2.2.2.2.1 x a (cmp_sub z.2)⟩
  bs := I.bs
  bsz := Nat.le_trans I.ok.bsz I.sz
  noex := fun b o e hb => by
    rcases (hf b hb).2.2.2.1 with z | z
    · exact I.ok.noex b o e z
    · exact absurd (Nat.lt_of_lt_of_le (Heap.lt_size e) (Nat.le_trans I.ok.bsz z)) (Nat.lt_irrefl _)
  exfs := fun b hb z => by
    rcases List.mem_cons.mp (I.stkSub b z) with q | q
    · exact (hf b hb).2.1 q
    · exact (hf b hb).2.2.1 q
  funs := I.stack
  frf := I.stkFree
end
end D3

set_option Elab.async false
set_option linter.all false
set_option maxRecDepth 100000
set_option maxHeartbeats 4000000
namespace D3
open PySem PySem.Spec PyProof.Rows L2
section
variable {prog : Program} {w : World} {A : Around} {R : Result → Shared → Prop} {s : Shared}
theorem comp_loop {elt target iter : Expr} {ifs : List Expr} {scope : Scope} {pos : Pos} {it acc : Value} {env : Env} (I : Nat → Shared → Prop)
    (turn : ∀ n s, I n s → wpAny (model prog w) A (pyNext it) (fun r s₁ => match r with
      | none => R (.ok .next) s₁
      | some v => wpAny (model prog w) A (letOwnedTupleGo target it v) (fun _ s1' => wpAny (model prog w) A (assign target env v) (fun _ s₂ =>
          wpAny (model prog w) A (forIn ifs true fun c r => if r = true then do let ok ← isTrue c env (eval c env); pure (ForInStep.yield ok) else pure (ForInStep.yield r)) (fun ok s₃ =>
            if ok = true then wpAny (model prog w) A (eval elt env) (fun x s₄ =>
              wpAny (model prog w) A (call (.builtin "list.append") [acc, x]) (fun _ s₅ => ∃ m, m < n ∧ I m s₅) (fun _ _ => False) s₄) (fun _ _ => False) s₃
            else ∃ m, m < n ∧ I m s₃) (fun _ _ => False) s₂) (fun _ _ => False) s1') (fun _ _ => False) s₁) (fun _ _ => False) s)
    (n : Nat) (h : I n s) :
    codeAny (model prog w) A (.compLoop (.ListComp elt [⟨target, iter, ifs, 0⟩] scope pos) 0 it acc env) R s := by
  refine codeAny_loop rfl I (fun n s hI => ?_) n h
  show wpAny _ A ((compTurn (.ListComp elt [⟨target, iter, ifs, 0⟩] scope pos) 0 it acc env).onRaise (fun x => do noteFrame x env; theTreesLotGoes x)) _ _ s
  refine wpAny_noted ?_
  rw [compTurn_list]
  refine wpAny_bind (wpAny_standAt (wpAny_bind (wpAny_mono (turn n s hI) (fun r s₁ h₁ => ?_) fun _ _ h' => h'.elim)))
  cases r with
  | none => exact wpAny_pure h₁
  | some v =>
    refine wpAny_bind (wpAny_mono h₁ (fun _ s1' h1' => ?_) fun _ _ h' => h'.elim)
    refine wpAny_bind (wpAny_mono h1' (fun _ s₂ h₂ => wpAny_bind (wpAny_mono h₂ (fun ok s₃ h₃ => ?_) fun _ _ h' => h'.elim)) fun _ _ h' => h'.elim)
    cases ok with
    | false => exact wpAny_pure ⟨rfl, h₃⟩
    | true =>
      exact wpAny_bind (wpAny_bind (wpAny_mono h₃ (fun x s₄ h₄ => wpAny_bind (wpAny_mono h₄ (fun _ s₅ h₅ => wpAny_pure (wpAny_pure ⟨rfl, h₅⟩)) fun _ _ h' => h'.elim)) fun _ _ h' => h'.elim))
end
def PTs (X : Cx) (ifs : List Expr) (t : TT) : Prop := (ifs = [] ∧ t = fun _ H Q => Q true H) ∨ ∃ c, ifs = [c] ∧ PT X c t
theorem PTs.run {X : Cx} {ifs : List Expr} {t : TT} (h : PTs X ifs t) {pins : List (Addr × Obj)} {s : Shared} {σ : L2.St} {H : Hp} {Q : Bool → Hp → Prop} (I : Inv X pins σ H s) (q : t σ H Q) :
    wpAny (model X.prog X.w) X.A (forIn ifs true fun c r => if r = true then do let ok ← isTrue c X.env (eval c X.env); pure (ForInStep.yield ok) else pure (ForInStep.yield r)) (TP X pins σ Q) X.xe s := by
  rcases h with ⟨rfl, rfl⟩ | ⟨c, rfl, h⟩
  · exact wpAny_tests_nil ⟨H, I, q⟩
  · exact wpAny_tests_one (h pins s σ H Q I q)
theorem newEnv_cells {M : Model} {A : Around} {E : Value → Shared → Prop} {s : Shared} {scope : Scope} {globals : Addr} {closure : List (Str × Addr)} {qual : Str} {env : Env} {Q : Env → Shared → Prop}
    (h : Q (newEnv scope s.heap.objs.size globals (cellsFrom (s.heap.objs.size + 1) scope.names closure) qual none .none (some env) builtinsNs) { s with heap := pushCells (s.heap.push { cls := .type "dict", data := .dict #[] }) scope.names }) :
    wpAny M A (newFunctionEnv scope globals closure [] qual none .none (some env)) Q E s := by
  simp only [newFunctionEnv, Option.isSome_some, if_true]
  refine wpAny_bind (wpAny_alloc ?_)
  refine wpAny_bind (wpAny_layCells _ (fun name kind cells => by cases hkc : kind == NameKind.cell <;> simp [hkc]) _ _ _ _ ?_)
  rw [show ({ s with heap := s.heap.push { cls := .type "dict", data := .dict #[] } } : Shared).heap.objs.size = s.heap.objs.size + 1 from Heap.size_push ..]
  rw [List.forIn_nil]
  exact wpAny_bind (wpAny_pure (wpAny_pure h))
def lcW (n : Nat) (J : It) (g : TG) (tt : TT) (te : TE) (σ : L2.St) (D : Addr) (Fin : List V → Hp → Prop) (H : Hp) : Prop :=
  ∃ W : Nat → Nat → List V → Hp → Prop, (∃ m, W 0 m [] H) ∧ ∀ i m ys H, W i m ys H → H D = some (.lst ys) ∧
    ((J.stop i H ∧ Fin ys H) ∨ (J.go i H ∧ ∀ x H', J.yld i H x H' → g x (List.replicate n none ++ σ) H' fun σ1 H1 => (σ1.length = n + σ.length ∧ ∀ j, σ1[n + j]? = σ[j]?) ∧ tt σ1 H1 fun k H2 =>
      if k = true then te σ1 H2 fun y H3 => H3 D = some (.lst ys) ∧ ys.length < sizeLine ∧ ∃ m', m' < m ∧ W (i + 1) m' (ys ++ [y]) (upd H3 D (.lst (ys ++ [y]))) else ∃ m', m' < m ∧ W (i + 1) m' ys H2))
section
variable {X : Cx} {pins : List (Addr × Obj)} {σ : L2.St} {H : Hp} {s : Shared} {xs M : List Str} {scope : Scope} {target elt iter : Expr} {ifs : List Expr} {pos : Pos} {g : Addr → TG} {tt : Addr → TT} {te : Addr → TE} {it : Addr} {fp : List Addr} {tn : Nat → Heap → Prop} {J : It} {n : Nat}
theorem comp_run {RR : Value → Addr → Result → Shared → Prop} {Fin : Addr → List V → Hp → Prop} (c : CmpOk X xs M scope) (hn : xs.length = n) (hc : X.calm = true) (I : Inv X pins σ H s) (T : Turn X.prog X.w X.K target J fp it tn) (t0 : tn 0 s.heap) (hf : ∀ b ∈ fp, FpOk X pins H b)
    (hg : ∀ C, PG (cmpCx X xs M scope C s H fp) target (g C)) (ht : ∀ C, PTs (cmpCx X xs M scope C s H fp) ifs (tt C)) (he : ∀ C, PE (cmpCx X xs M scope C s H fp) elt (te C))
    (hw : ∀ D C, H D = none → lcW n J (g C) (tt C) (te C) σ D (Fin D) (upd H D (.lst [])))
    (hR : ∀ D C ys H' s', H D = none → s.heap.objs.size ≤ C → H' D = some (.lst ys) → Fin D ys H' → Inv (cmpCx X xs M scope C s H fp) [] (List.replicate n none ++ σ) H' s' → RR (.ref D) C (.ok .next) s') :
    wpAny (model X.prog X.w) X.A (newList []) (fun acc s₃ => wpAny (model X.prog X.w) X.A (newFunctionEnv scope X.env.globals (clOf X.env scope.names []) [] X.env.qual none .none (some X.env)) (fun cenv s₄ =>
      codeAny (model X.prog X.w) X.A (.compStart (.ListComp elt [⟨target, iter, ifs, 0⟩] scope pos) 0 (.ref it) acc { cenv with scope := relabel scope X.env }) (RR acc cenv.locals) s₄) X.xe s₃) X.xe s := by
  refine wpAny_newObj_type (newEnv_cells ?_)
  dsimp only
  generalize hH2 : s.heap.push { cls := .type "list", dict := none, data := .seq ([] : List Value).toArray } = H2
  have hns₁ := (Heap.Ns.new H2 (.type "dict")).keeps (pushCells_keeps scope.names _)
  have cok := cellsFrom_ok scope.names (H2.push { cls := .type "dict", data := .dict #[] }) (H2.objs.size + 1) [] ⟨fun _ _ hm => (nomatch hm), List.Pairwise.nil⟩ (by rw [Heap.size_push]; exact Nat.le_refl _)
  rw [Heap.size_push] at cok
  have keep₁ := pushCells_keeps scope.names (H2.push { cls := .type "dict", data := .dict #[] })
  generalize pushCells (H2.push { cls := .type "dict", data := .dict #[] }) scope.names = h₁ at hns₁ cok keep₁ ⊢
  have hC : H2.objs.size = s.heap.objs.size + 1 := by rw [← hH2, Heap.size_push]
  have hDC : s.heap.objs.size ≠ H2.objs.size := by rw [hC]; exact Nat.ne_of_lt (Nat.lt_succ_self _)
  have hle : s.heap.objs.size ≤ H2.objs.size := by rw [hC]; exact Nat.le_succ _
  have old : ∀ b o, s.heap.get? b = some o → h₁.get? b = some o := fun b o e => keep₁ b o (Heap.get?_push_of_some _ (hH2 ▸ Heap.get?_push_of_some _ e))
  have hacc : h₁.get? s.heap.objs.size = some { cls := .type "list", dict := none, data := .seq ([] : List Value).toArray } := keep₁ _ _ (Heap.get?_push_of_some _ (hH2 ▸ Heap.get?_push_size _ rfl))
  have hD : H s.heap.objs.size = none := I.hok.fresh (Nat.le_refl _)
  have hlt : ∀ b ∈ fp, b < s.heap.objs.size := fun b hb => by obtain ⟨o, e, _⟩ := T.obj 0 _ t0 b hb; exact Heap.lt_size e
  have new : ObjOk X.prog X.w (upd H s.heap.objs.size (.lst [])) h₁ s.heap.objs.size (.lst []) := ⟨Nat.zero_le _, [], 0, .nil, hacc⟩
  have ok : (cmpCx X xs M scope H2.objs.size s H fp).Ok := cmp_ok I c hle hf hlt
  have I4 : Inv (cmpCx X xs M scope H2.objs.size s H fp) [] (List.replicate n none ++ σ) (upd H s.heap.objs.size (.lst [])) { s with heap := h₁ } := by
    refine ⟨ok, rfl, I.bare, Un.laid old (Nat.le_refl _) hD, ⟨_, hns₁, fun i y v e1 e2 e3 => ?_⟩, fun y a e => ?_, ?_, fun y a e => ?_, (fun p hp => nomatch hp), I.hok.laid old (Nat.le_refl _) new, ?_⟩
    · have hi : n ≤ i := by
        apply Nat.le_of_not_lt
        intro hi
        rw [List.getElem?_append_left (by rw [List.length_replicate]; exact hi), List.getElem?_replicate, if_pos hi] at e2
        cases e2
      have e0' : M[i - n]? = some y := by
        have : (xs ++ M)[i]? = some y := e1
        rw [List.getElem?_append_right (by rw [hn]; exact hi), hn] at this
        exact this
      have e2' : σ[i - n]? = some (some v) := by
        rw [List.getElem?_append_right (by rw [List.length_replicate]; exact hi), List.length_replicate] at e2
        exact e2
      have hy : y ∈ M := List.mem_of_getElem? e0'
      have hl : scope.names.lookup y = some .free := by
        have hv : ∃ j, scope.names.lookup y = some j ∧ (j = .local ∨ j = .cell ∨ j = .free) := by
          rcases e3 with e3 | e3 | e3
          · obtain ⟨j, hj, e⟩ := lookup_relabel e3
            rcases e with e | e
            · exact ⟨j, hj, .inl e⟩
            · exact ⟨j, hj, .inr (.inr e.1)⟩
          · obtain ⟨j, hj, e⟩ := lookup_relabel e3
            rcases e with e | e
            · exact ⟨j, hj, .inr (.inl e)⟩
            · exact ⟨j, hj, .inr (.inr e.1)⟩
          · obtain ⟨j, hj, e⟩ := lookup_relabel e3
            rcases e with e | e
            · exact ⟨j, hj, .inr (.inr e)⟩
            · exact ⟨j, hj, .inr (.inr e.1)⟩
        obtain ⟨j, hj, hk⟩ := hv
        rcases c.around y hy with z | z | z
        · rw [z] at hj; cases hj
        · exact z
        · rw [z] at hj; cases hj
          rcases hk with hk | hk | hk <;> cases hk
      have hcell := c.free _ (mem_of_lookup hl) rfl
      have e1' : X.N[i - n]? = some y := (c.same _ _ e0').resolve_right fun z => by rw [hl] at z; cases z
      obtain ⟨m, hm, hloc⟩ := I.loc
      obtain ⟨u, r, lk⟩ := hloc (i - n) y v e1' e2' (.inr (.inl hcell))
      refine ⟨u, r, .inr ⟨?_, ?_⟩⟩
      · rcases e3 with e3 | e3 | e3
        · obtain ⟨j, hj, e⟩ := lookup_relabel e3
          rw [hl] at hj; cases hj
          rcases e with e | e
          · cases e
          · cases e.2
        · exact .inl e3
        · exact .inr e3
      · rcases lk with ⟨hk, _⟩ | ⟨_, a, ha, z⟩
        · have hk' : X.env.kindOf y = some .local := hk
          rw [hcell] at hk'; cases hk'
        · obtain ⟨a', ha'⟩ := clOf_has (cs := []) (mem_of_lookup hl) ⟨a, ha⟩
          have : a' = a := by have q := cmp_sub ha'; rw [ha] at q; exact (Option.some.inj q).symm
          subst this
          obtain ⟨o, ho, hd⟩ := z
          refine ⟨a', ?_, o, old _ _ ho, hd⟩
          show (cellsFrom (H2.objs.size + 1) scope.names (clOf X.env scope.names [])).lookup y = some a'
          rw [cf_none fun k hk e => ?_]
          · exact ha'
          · subst e
            have := c.cells _ hk rfl
            rw [hl] at this; cases this
    · rcases cf_cases e with z | z
      · exact ⟨none, (cok.empty _ _ (PySem.mem_of_lookup z)).1⟩
      · obtain ⟨v, o, ho, hd⟩ := I.cell y a (cmp_sub z.2)
        exact ⟨v, o, old _ _ ho, hd⟩
    · show upd H s.heap.objs.size (.lst []) H2.objs.size = none
      rw [upd_ne (Ne.symm hDC)]
      exact I.hok.fresh hle
    · rcases cf_cases e with z | z
      · have hge := (cf_own z).2
        have hne : a ≠ s.heap.objs.size := Nat.ne_of_gt (Nat.lt_of_lt_of_le (Nat.lt_succ_of_le hle) hge)
        rw [upd_ne hne]
        exact I.hok.fresh (Nat.le_trans hle (Nat.le_of_succ_le hge))
      · have ha := cmp_sub z.2
        have hne : a ≠ s.heap.objs.size := by obtain ⟨v, q⟩ := I.cell y a ha; exact Nat.ne_of_lt q.lt
        rw [upd_ne hne]
        exact I.freeC y a ha
    · show (List.replicate n none ++ σ).length = (xs ++ M).length
      rw [List.length_append, List.length_append, List.length_replicate, hn, I.len, c.len]
  have t1 : tn 0 h₁ := T.keep 0 _ _ t0 fun b hb o e => old b o e
  have fpn : ∀ b ∈ fp, (upd H s.heap.objs.size (.lst [])) b = none := fun b hb => by rw [upd_ne (Nat.ne_of_lt (hlt b hb))]; exact (hf b hb).1
  have stat : ∀ {H' : Hp}, (∀ b ∈ fp, H' b = none) → ∀ b ∈ fp, FpOk (cmpCx X xs M scope H2.objs.size s H fp) [] H' b := fun hn b hb =>
    ⟨hn b hb, (ok.exf b hb).1, ok.exfs b hb, .inl hb, (ok.exf b hb).2, (fun p hp => nomatch hp)⟩
  obtain ⟨W, ⟨m0, w0⟩, turn⟩ := hw _ H2.objs.size hD
  have loop : codeAny (model X.prog X.w) X.A (.compLoop (.ListComp elt [⟨target, iter, ifs, 0⟩] scope pos) 0 (.ref it) (.ref s.heap.objs.size) (compEnvC scope (cellsFrom (H2.objs.size + 1) scope.names (clOf X.env scope.names [])) H2.objs.size X.env)) (RR (.ref s.heap.objs.size) H2.objs.size) { s with heap := h₁ } := by
    refine comp_loop (fun m s' => ∃ i ys H', Inv (cmpCx X xs M scope H2.objs.size s H fp) [] (List.replicate n none ++ σ) H' s' ∧ tn i s'.heap ∧ (∀ b ∈ fp, H' b = none) ∧ W i m ys H') ?_ m0 ⟨0, [], _, I4, t1, fpn, w0⟩
    rintro m s3 ⟨i, ys, H3, I3, t3, f3, w3⟩
    obtain ⟨hD3, alt⟩ := turn i m ys H3 w3
    rcases alt with ⟨stop, fin⟩ | ⟨go, step⟩
    · refine thn (T.done (cmpCx X xs M scope H2.objs.size s H fp) rfl rfl rfl hc i [] s3 _ H3 _ I3 (stat f3) t3 stop) fun r s4 ⟨hr, I5⟩ => ?_
      subst hr
      exact hR _ _ ys H3 s4 hD hle hD3 fin I5
    · refine thn (T.item (cmpCx X xs M scope H2.objs.size s H fp) rfl rfl rfl hc i [] s3 _ H3 _ I3 (stat f3) t3 go) fun r s4 ⟨u, hr, h4⟩ => ?_
      subst hr
      refine thn h4 fun _ s5 ⟨x, H5, I5, r5, y5, t5, f5⟩ => ?_
      have I5' := I5.pinned (stat f5) (T.obj _ _ t5)
      refine thn (hg H2.objs.size _ s5 _ H5 x u _ I5' r5 (step x H5 y5)) fun _ s6 ⟨σ6, H6, I6, ⟨la, lb⟩, q6⟩ => ?_
      refine thn (PTs.run (ht H2.objs.size) I6 q6) fun k s7 ⟨H7, I7, q7⟩ => ?_
      have again : ∀ {H8 : Hp} {s8 : Shared} {ys' : List V}, Inv (cmpCx X xs M scope H2.objs.size s H fp) ([] ++ pinsAt fp s5.heap) σ6 H8 s8 → (∃ m', m' < m ∧ W (i + 1) m' ys' H8) → ∃ m', m' < m ∧ ∃ i ys H', Inv (cmpCx X xs M scope H2.objs.size s H fp) [] (List.replicate n none ++ σ) H' s8 ∧ tn i s8.heap ∧ (∀ b ∈ fp, H' b = none) ∧ W i m' ys H' := by
        intro H8 s8 ys' I8 ⟨m', lt, w8⟩
        have pin8 : ∀ b ∈ fp, ∀ o, s5.heap.get? b = some o → s8.heap.get? b = some o ∧ H8 b = none := fun b hb o e =>
          have z := I8.pin (b, o) (List.mem_append_right _ (List.mem_append_right _ (mem_pinsAt hb e)))
          ⟨z.1, z.2.1⟩
        refine ⟨m', lt, i + 1, ys', H8, ?_, T.keep _ _ _ t5 fun b hb o e => (pin8 b hb o e).1, fun b hb => ?_, w8⟩
        · refine I8.unpinned.weak (by rw [List.length_append, List.length_replicate, la]) fun j v e => ?_
          by_cases hj : j < n
          · rw [List.getElem?_append_left (by rw [List.length_replicate]; exact hj), List.getElem?_replicate, if_pos hj] at e
            cases e
          · rw [List.getElem?_append_right (by rw [List.length_replicate]; omega), List.length_replicate] at e
            have := lb (j - n)
            rw [show n + (j - n) = j by omega] at this
            rw [this]; exact e
        · obtain ⟨o, e, d⟩ := T.obj _ _ t5 b hb
          exact (pin8 b hb o e).2
      cases k with
      | false =>
        simp only [Bool.false_eq_true, if_false] at q7 ⊢
        exact again I7 q7
      | true =>
        simp only [if_true] at q7 ⊢
        refine thn (he H2.objs.size _ s7 _ H7 _ I7 q7) fun y s8 ⟨v8, H8, I8, r8, e8, l8, w8⟩ => ?_
        refine thn (mt_append (X := cmpCx X xs M scope H2.objs.size s H fp) _ s8 _ H8 (.ref s.heap.objs.size) [v8] _ [y] (fun v H9 => ∃ m', m' < m ∧ W (i + 1) m' (ys ++ [v8]) H9) I8 rfl (.cons r8 .nil) ⟨_, ys, v8, rfl, rfl, e8, l8, w8⟩) fun _ s9 ⟨v9, H9, I9, _, w9⟩ => again I9 w9
  exact codeAny_compStart_list loop (T.self _ 0 _ _ _ t1 loop)
end
end D3

set_option Elab.async false
set_option linter.all false
set_option maxRecDepth 100000
set_option maxHeartbeats 4000000
namespace D3
open PySem PySem.Spec PyProof.Rows L2
section
variable {X : Cx} {pins : List (Addr × Obj)} {σ σ' : L2.St} {H H' : Hp} {s s' : Shared} {xs M : List Str} {scope : Scope} {target elt iter : Expr} {ifs : List Expr} {pos : Pos} {g : Addr → Shared → Hp → List Addr → TG} {tt : Addr → Shared → Hp → List Addr → TT} {te : Addr → Shared → Hp → List Addr → TE} {fp : List Addr} {n : Nat} {C : Addr} {wi : TI}
theorem cmp_back {h' : Heap} (I : Inv X pins σ H s) (I' : Inv (cmpCx X xs M scope C s H fp) [] σ' H' s') (hf : ∀ b ∈ fp, FpOk X pins H b) (hC : s.heap.objs.size ≤ C) (sb : Heap.SameBut C s'.heap h') : Inv X pins σ H' { s' with heap := h' } := by
  have hCn : H' C = none := I'.free
  have u := I'.base
  have ne : ∀ b o, s.heap.get? b = some o → b ≠ C := fun b o e => Nat.ne_of_lt (Nat.lt_of_lt_of_le (Heap.lt_size e) hC)
  have u' : Un (frs X.stack) fp H H' s.heap h' :=
    ⟨fun b o e n hb hx => sb.extBut b o (ne b o e) (u.keep b o e n hb hx), fun b o e n hb hx => let ⟨sl, q⟩ := u.slot b o e n hb hx; ⟨sl, sb.extBut b _ (ne b o e) q⟩, fun b o e n hx => u.free b o e n hx,
      fun b o e hx => let ⟨o', q⟩ := u.there b o e hx; ⟨o', sb.extBut b _ (ne b o e) q⟩, u.tups, u.frzs, u.tbls⟩
  have hok : HOk X.prog X.w H' h' := fun b o e => (I'.hok b o e).stay (fun c v hc q => sb.extBut c v (fun z => by
    subst z
    rcases hc with z | z
    · rw [← z, hCn] at e; cases e
    · rw [hCn] at z; cases z) q) (fun _ q => q) fun _ _ q => q
  exact I.call' (ch := fp) (s' := { s' with heap := h' }) I'.os u' hok I'.bare fun b hb => ⟨(hf b hb).2.2.2.1, (hf b hb).2.1, (hf b hb).2.2.2.2.1, (hf b hb).2.2.2.2.2⟩
def tLc (n : Nat) (wi : TI) (g : Addr → Shared → Hp → List Addr → TG) (tt : Addr → Shared → Hp → List Addr → TT) (te : Addr → Shared → Hp → List Addr → TE) : TE := fun σ H Q => wi σ H fun J H1 => ∀ D C s fp, H1 D = none → lcW n J (g C s H1 fp) (tt C s H1 fp) (te C s H1 fp) σ D (fun _ H' => Q (.ref D) H') (upd H1 D (.lst []))
theorem pe_comp (hk : cmpOk scope X.env xs M X.N = true) (hn : xs.length = n) (hc : X.calm = true) (hi : PI X target iter wi)
    (hg : ∀ C s H fp, PG (cmpCx X xs M scope C s H fp) target (g C s H fp)) (ht : ∀ C s H fp, PTs (cmpCx X xs M scope C s H fp) ifs (tt C s H fp)) (he : ∀ C s H fp, PE (cmpCx X xs M scope C s H fp) elt (te C s H fp))
    (hs : ∀ x, foldedSetIterable iter X.env x = pure x := by intro _; rfl) : PE X (.ListComp elt [⟨target, iter, ifs, 0⟩] scope pos) (tLc n wi g tt te) := by
  intro pins s σ H Q I h
  have c := cmp_of hk
  rw [eval_ListComp]
  refine wpAny_comprehension_free (use := none) rfl hs (closure_of (cmp_cells I c)) c.kind c.loc (thn (hi pins s σ H _ I h) fun v s1 h1 => thn h1 fun itv s2 h2 => ?_)
  obtain ⟨it, fp, tn, J, H2, e, I2, T, st2, f2, rd⟩ := h2
  subst e
  refine comp_run (RR := compPost (model X.prog X.w) X.A X.xe none (EP X pins σ Q)) (Fin := fun D _ H' => Q (.ref D) H') c hn hc I2 T st2 f2 (fun C => hg C _ _ _) (fun C => ht C _ _ _) (fun C => he C _ _ _) (fun D C hD => rd D C s2 fp hD) ?_
  intro D C ys H' s' hD hC hys fin I'
  obtain ⟨m, hm, _⟩ := I'.loc
  exact ⟨m, hm, fun h' sb => ⟨.ref D, H', cmp_back I2 I' f2 hC sb, rfl, fin⟩⟩
end
end D3

set_option Elab.async false
set_option linter.all false
set_option maxRecDepth 100000
set_option maxHeartbeats 4000000
namespace D3
open PySem PySem.Spec PyProof.Rows L2
def PGN (X : Cx) (n : Nat) (tg : Expr) (g : G3) : Prop := ∃ g2, PG X tg g2 ∧ ∀ B S H σ ρ d v Ψ (Q : L2.St → Hp → Prop), ER X.K B S H σ ρ → Rep X.K S H d v → g d ρ Ψ →
  (∀ ρ' σ', Ψ ρ' → ER X.K B S H σ' ρ' → σ'.length = σ.length → (∀ j, σ'[n + j]? = σ[n + j]?) → Q σ' H) → g2 v σ H Q
section
variable {X : Cx} {e : Expr} {es : List Expr} {pos : Pos} {n : Nat}
theorem pgn_name {i : Nat} {x : Str} (hin : i < n) (hN : X.N.Nodup) (hi : X.N[i]? = some x) (hx : Loc X.env.scope x) (hf : X.fn x = true ∨ X.env.scope.names.lookup x = some .local := by first | exact .inl rfl | exact .inr rfl | assumption) : PGN X n (.Name x pos) (gN i) :=
  ⟨_, pg_name hN hi hx hf, fun B S H σ ρ d v Ψ Q er r h k => k _ _ h (er.put r) (by rw [List.length_set]) fun j => by rw [List.getElem?_set_ne (by omega)]⟩
end
def PBs (X : Cx) (ifs : List Expr) (t : B3) : Prop := (ifs = [] ∧ t = fun _ Φ => Φ true) ∨ ∃ c, ifs = [c] ∧ PB X c t
theorem pbs_one {X : Cx} {c : Expr} {t : B3} (h : PB X c t) : PBs X [c] t := .inr ⟨c, rfl, h⟩
theorem PBs.ex {X : Cx} {ifs : List Expr} {t : B3} (h : PBs X ifs t) : ∃ t2, PTs X ifs t2 ∧ ∀ B S H σ ρ Φ (Q : Bool → Hp → Prop), ER X.K B S H σ ρ → t ρ Φ → (∀ b H', Φ b → Same H H' → Q b H') → t2 σ H Q := by
  rcases h with ⟨rfl, rfl⟩ | ⟨c, rfl, t2, h, w⟩
  · exact ⟨_, .inl ⟨rfl, rfl⟩, fun B S H σ ρ Φ Q er q hd => hd true H q (Same.refl _)⟩
  · exact ⟨t2, .inr ⟨c, rfl, h⟩, w⟩
def COMP (g : G3) (tt : B3) (te : E3) (ρ : Fr3) : List D → List D → (List D → Prop) → Prop
  | [], acc, Φ => Φ acc
  | d :: ds, acc, Φ => g d ρ fun ρ1 => tt ρ1 fun k => if k = true then te ρ1 fun y => acc.length < sizeLine ∧ COMP g tt te ρ ds (acc ++ [y]) Φ else COMP g tt te ρ ds acc Φ
abbrev fComp (n : Nat) (ti : A3) (g : G3) (tt : B3) (te : E3) : A3 := fun ρ Φ => ti ρ fun ds => COMP g tt te (List.replicate n .un ++ ρ) ds [] Φ
section
variable {K : PySem.W.Frag} {B : Bs} {S : Addr → Prop} {H : Hp} {σ : L2.St} {ρ : Fr3}
theorem ER.shift (er : ER K B S H σ ρ) (n : Nat) : ER K B S H (List.replicate n none ++ σ) (List.replicate n .un ++ ρ) := by
  have sh : ∀ {i : Nat} {x : Sl}, x ≠ .un → (List.replicate n Sl.un ++ ρ)[i]? = some x → n ≤ i ∧ ρ[i - n]? = some x := fun {i x} hx e => by
    by_cases hi : i < n
    · rw [List.getElem?_append_left (by rw [List.length_replicate]; exact hi), List.getElem?_replicate, if_pos hi] at e
      exact absurd (Option.some.inj e).symm hx
    · rw [List.getElem?_append_right (by rw [List.length_replicate]; omega), List.length_replicate] at e
      exact ⟨by omega, e⟩
  have bk : ∀ {i : Nat}, n ≤ i → (List.replicate n (none : Option V) ++ σ)[i]? = σ[i - n]? := fun {i} hi => by
    rw [List.getElem?_append_right (by rw [List.length_replicate]; omega), List.length_replicate]
  exact {
    len := by rw [List.length_append, List.length_append, List.length_replicate, List.length_replicate, er.len]
    same := er.same
    sub := er.sub
    ok0 := er.ok0
    ok := er.ok
    val := fun i d q => by
      obtain ⟨hi, q⟩ := sh (x := .val d) (fun z => nomatch z) q
      obtain ⟨v, e, r⟩ := er.val _ d q
      exact ⟨v, (bk hi).trans e, r⟩
    own := fun i d q => by
      obtain ⟨hi, q⟩ := sh (x := .own d) (fun z => nomatch z) q
      obtain ⟨a, xs, e, r⟩ := er.own _ d q
      exact ⟨a, xs, (bk hi).trans e, r⟩
    uq := fun i j a ds es q1 q2 e1 e2 => by
      obtain ⟨h1, q1⟩ := sh (x := .own ds) (fun z => nomatch z) q1
      obtain ⟨h2, q2⟩ := sh (x := .own es) (fun z => nomatch z) q2
      rw [bk h1] at e1
      rw [bk h2] at e2
      have := er.uq _ _ a ds es q1 q2 e1 e2
      omega
    gh := er.gh }
theorem ER.gather {p : Addr} {xs : List V} (er : ER K B S H σ ρ) (hp : H p = none) : ER K B (fun b => S b ∨ b = p) (upd H p (.lst xs)) σ ρ := by
  have sm := same_new (o := .lst xs) hp
  have hL : ∀ b ys, LR K S H b ys → LR K (fun b => S b ∨ b = p) (upd H p (.lst xs)) b ys := fun b ys q => by
    rcases q with ⟨n, q⟩ | q
    · have hb : b ≠ p := by
        rintro rfl
        rcases q with q | ⟨o, q⟩ <;> rw [hp] at q <;> cases q
      refine .inl ⟨fun z => z.elim n hb, ?_⟩
      rcases q with q | ⟨o, q⟩
      · exact .inl (sm _ _ q)
      · exact .inr ⟨o, sm _ _ q⟩
    · exact .inr q
  have mv : ∀ {c : D} {w : V}, Rep K S H c w → Rep K (fun b => S b ∨ b = p) (upd H p (.lst xs)) c w := fun {c w} q => Rep.map (same_tup sm) hL c w q
  have mvs : ∀ {c : List D} {w : List V}, Reps K S H c w → Reps K (fun b => S b ∨ b = p) (upd H p (.lst xs)) c w := fun {c w} q => Reps.map (same_tup sm) hL c w q
  exact {
    len := er.len
    same := er.same.trans sm
    sub := fun b h => .inl (er.sub b h)
    ok0 := er.ok0
    ok := fun b h => by
      by_cases hb : b = p
      · subst hb; exact ⟨_, upd_same⟩
      · obtain ⟨o, e⟩ := er.ok b (h.resolve_right hb)
        exact ⟨o, sm _ _ e⟩
    val := fun j c q => let ⟨w, e, r'⟩ := er.val j c q; ⟨w, e, mv r'⟩
    own := fun j c q => let ⟨b, zs, e, hs, hz, hl, r'⟩ := er.own j c q; ⟨b, zs, e, .inl hs, hz, sm _ _ hl, mvs r'⟩
    uq := er.uq
    gh := fun q hq => mv (er.gh q hq) }
theorem turn_at {p : Addr} {xs ys : List V} (hs : S p) (hl : H p = some (.lst xs)) : (∀ b zs, SqT K H b zs → SqT K (upd H p (.lst ys)) b zs) ∧ (∀ b zs, LR K S H b zs → LR K S (upd H p (.lst ys)) b zs) := by
  refine ⟨fun b zs q => ?_, fun b zs q => ?_⟩
  · rcases q with (q | ⟨o, q⟩) | q
    · exact .inl (.inl (by rw [upd_ne (ne_of q hl (fun z => nomatch z))]; exact q))
    · exact .inl (.inr ⟨o, by rw [upd_ne (ne_of q hl (fun z => nomatch z))]; exact q⟩)
    · exact .inr q
  · rcases q with ⟨n, q⟩ | q
    · have hb : b ≠ p := fun z => n (z ▸ hs)
      refine .inl ⟨n, ?_⟩
      rcases q with q | ⟨o, q⟩
      · exact .inl (by rw [upd_ne hb]; exact q)
      · exact .inr ⟨o, by rw [upd_ne hb]; exact q⟩
    · exact .inr q
theorem ER.grow {p : Addr} {xs ys : List V} (er : ER K B S H σ ρ) (hs : S p) (h0 : B.H0 p = none) (hl : H p = some (.lst xs)) (hno : ∀ (i : Nat) ds, ρ[i]? = some (.own ds) → σ[i]? ≠ some (some (.ref p))) : ER K B S (upd H p (.lst ys)) σ ρ := by
  obtain ⟨hT, hL⟩ := turn_at (K := K) (ys := ys) hs hl
  have mv : ∀ {c : D} {w : V}, Rep K S H c w → Rep K S (upd H p (.lst ys)) c w := fun {c w} q => Rep.map hT hL c w q
  have mvs : ∀ {c : List D} {w : List V}, Reps K S H c w → Reps K S (upd H p (.lst ys)) c w := fun {c w} q => Reps.map hT hL c w q
  exact {
    len := er.len
    same := fun b o e => by rw [upd_ne (ne_of_none e h0)]; exact er.same b o e
    sub := er.sub
    ok0 := er.ok0
    ok := fun b h => by
      by_cases hb : b = p
      · subst hb; exact ⟨_, upd_same⟩
      · obtain ⟨o, e⟩ := er.ok b h
        exact ⟨o, by rw [upd_ne hb]; exact e⟩
    val := fun j c q => let ⟨w, e, r'⟩ := er.val j c q; ⟨w, e, mv r'⟩
    own := fun j c q => by
      obtain ⟨b, zs, e, hsb, hz, hlb, r'⟩ := er.own j c q
      have hb : b ≠ p := fun z => hno j c q (z ▸ e)
      exact ⟨b, zs, e, hsb, hz, by rw [upd_ne hb]; exact hlb, mvs r'⟩
    uq := er.uq
    gh := fun q hq => mv (er.gh q hq) }
end
section
variable {X : Cx} {xs M : List Str} {scope : Scope} {target elt iter : Expr} {ifs : List Expr} {pos : Pos} {ti : A3} {g : G3} {tt : B3} {te : E3} {n : Nat}
theorem comp_lcW {g2 : TG} {tt2 : TT} {te2 : TE} {K : PySem.W.Frag} (wg : ∀ B S H σ ρ d v Ψ (Q : L2.St → Hp → Prop), ER K B S H σ ρ → Rep K S H d v → g d ρ Ψ → (∀ ρ' σ', Ψ ρ' → ER K B S H σ' ρ' → σ'.length = σ.length → (∀ j, σ'[n + j]? = σ[n + j]?) → Q σ' H) → g2 v σ H Q)
    (wt : ∀ B S H σ ρ Φ (Q : Bool → Hp → Prop), ER K B S H σ ρ → tt ρ Φ → (∀ b H', Φ b → Same H H' → Q b H') → tt2 σ H Q) (we : ∀ B S H σ ρ Φ Q, ER K B S H σ ρ → te ρ Φ → Hand K S H Φ Q → te2 σ H Q)
    {B : Bs} {S : Addr → Prop} {H : Hp} {σ : L2.St} {ρ : Fr3} {Φ : List D → Prop} {J : It} {hs : List (D × V)} {ds : List D} {p : Addr} {Q : VK} {Fin : List V → Hp → Prop} (er : ER K B S H σ ρ) (rv : ∀ p ∈ hs, Rep K S H p.1 p.2) (wk : WlkL K J hs ds) (hp : H p = none)
    (h : COMP g tt te (List.replicate n .un ++ ρ) ds [] Φ) (hd : HandN K S H Φ Q) (hF : ∀ ys H', Q (.ref p) H' → Fin ys H') : lcW n J g2 tt2 te2 σ p Fin (upd H p (.lst [])) := by
  have hno : ∀ (i : Nat) es, ρ[i]? = some (.own es) → σ[i]? ≠ some (some (.ref p)) := fun i es q z => by
    obtain ⟨a, zs, e, _, _, hl, _⟩ := er.own i es q
    rw [e] at z; cases z
    rw [hp] at hl; cases hl
  have h0 : B.H0 p = none := er.same.free hp
  refine ⟨fun i m ys H1 => m = ds.length - i ∧ i ≤ ds.length ∧ H1 p = some (.lst ys) ∧ (∀ b o, H b = some o → H1 b = some o) ∧ ∃ acc, ER K { B with gh := hs ++ B.gh } (fun b => S b ∨ b = p) H1 σ ρ ∧ Reps K (fun b => S b ∨ b = p) H1 acc ys ∧ COMP g tt te (List.replicate n .un ++ ρ) (ds.drop i) acc Φ,
    ⟨_, rfl, Nat.zero_le _, upd_same, same_new hp, [], (er.holds rv).gather hp, Reps.nil, h⟩, ?_⟩
  rintro i m ys H1 ⟨rfl, hi, hl, sm, acc, er1, ra, hc⟩
  refine ⟨hl, ?_⟩
  obtain ⟨wstop, wgo⟩ := wk _ H1 (fun p hp => er1.gh p (List.mem_append_left _ hp))
  by_cases hlt : i < ds.length
  · obtain ⟨go, yl⟩ := wgo i hlt
    rw [List.drop_eq_getElem_cons hlt] at hc
    refine .inr ⟨go, fun x H2 y => ?_⟩
    obtain ⟨sy, e', ee, re⟩ := yl x H2 y
    rw [List.getElem?_eq_getElem hlt] at ee
    cases ee
    have er1 := er1.go sy
    have hl := sy _ _ hl
    have sm : ∀ b o, H b = some o → H2 b = some o := fun b o e => sy _ _ (sm b o e)
    have ra := ra.same sy
    have er1' := er1.shift n
    refine wg _ _ _ _ _ _ x _ _ er1' re hc fun ρ1 σ1 h1 er2 l1 l2 => ⟨⟨by rw [l1, List.length_append, List.length_replicate], fun j => ?_⟩, wt _ _ _ _ _ _ _ er2 h1 fun k H3 hk s3 => ?_⟩
    · rw [l2 j, List.getElem?_append_right (by rw [List.length_replicate]; omega), List.length_replicate, Nat.add_sub_cancel_left]
    · cases k with
      | false =>
        simp only [Bool.false_eq_true, if_false] at hk ⊢
        exact ⟨_, by omega, rfl, hlt, s3 _ _ hl, fun b o e => s3 _ _ (sm b o e), acc, er1.go s3, ra.same s3, hk⟩
      | true =>
        simp only [if_true] at hk ⊢
        refine we _ _ _ _ _ _ _ (er2.go s3) hk fun y u H4 hy s4 ry => ?_
        have s34 := s3.trans s4
        have hl4 := s34 _ _ hl
        have er4 := er1.go s34
        refine ⟨hl4, by rw [← ra.len]; exact hy.1, _, by omega, rfl, hlt, upd_same, fun b o e => ?_, acc ++ [y], er4.grow (.inr rfl) h0 hl4 hno, ?_, hy.2⟩
        · have hb : b ≠ p := ne_of_none e hp
          rw [upd_ne hb]
          exact s34 _ _ (sm b o e)
        · obtain ⟨hT, hL⟩ := turn_at (K := K) (S := fun b => S b ∨ b = p) (ys := ys ++ [u]) (.inr rfl) hl4
          exact Reps.map hT hL _ _ ((ra.same s34).app (Reps.cons ry Reps.nil))
  · have hi' : i = ds.length := by omega
    subst hi'
    rw [List.drop_length] at hc
    refine .inl ⟨wstop, hF ys H1 ?_⟩
    -- the heap without the gathered list
    have eH : upd (fun b => if b = p then none else H1 b) p (.lst ys) = H1 := by
      funext b
      by_cases hb : b = p
      · subst hb; rw [upd_same, hl]
      · rw [upd_ne hb]; simp only [hb, if_false]
    have hT : ∀ b zs, SqT K H1 b zs → SqT K (fun b => if b = p then none else H1 b) b zs := fun b zs q => by
      rcases q with (q | ⟨o, q⟩) | q
      · exact .inl (.inl (by simp only [ne_of q hl (fun z => nomatch z), if_false]; exact q))
      · exact .inl (.inr ⟨o, by simp only [ne_of q hl (fun z => nomatch z), if_false]; exact q⟩)
      · exact .inr q
    have hL : ∀ b zs, LR K (fun b => S b ∨ b = p) H1 b zs → LR K S (fun b => if b = p then none else H1 b) b zs := fun b zs q => by
      rcases q with ⟨n, q⟩ | q
      · have hb : b ≠ p := fun z => n (.inr z)
        refine .inl ⟨fun z => n (.inl z), ?_⟩
        rcases q with q | ⟨o, q⟩
        · exact .inl (by simp only [hb, if_false]; exact q)
        · exact .inr ⟨o, by simp only [hb, if_false]; exact q⟩
      · exact .inr q
    have := hd acc ys p (fun b => if b = p then none else H1 b) hc (fun b o e => by simp only [ne_of_none e hp, if_false]; exact sm b o e) (by simp) (Reps.map hT hL _ _ ra)
    rw [eH] at this
    exact this
theorem pf_comp (hk : cmpOk scope X.env xs M X.N = true) (hn : xs.length = n) (hc : X.calm = true) (hi : PID X target iter ti)
    (hg : ∀ C s H fp, PGN (cmpCx X xs M scope C s H fp) n target g) (ht : ∀ C s H fp, PBs (cmpCx X xs M scope C s H fp) ifs tt) (he : ∀ C s H fp, PD (cmpCx X xs M scope C s H fp) elt te)
    (hs : ∀ x, foldedSetIterable iter X.env x = pure x := by intro _; rfl) : PF X (.ListComp elt [⟨target, iter, ifs, 0⟩] scope pos) (fComp n ti g tt te) := by
  obtain ⟨wi, hi, ww⟩ := hi
  have ht' := fun C s H fp => (ht C s H fp).ex
  refine ⟨_, pe_comp hk hn hc hi (fun C s H fp => (hg C s H fp).choose_spec.1) (fun C s H fp => (ht' C s H fp).choose_spec.1) (fun C s H fp => (he C s H fp).choose_spec.1) hs, fun B S H σ ρ Φ Q er q hd => ?_⟩
  refine ww B S H σ ρ _ _ er q fun ds J hs H1 hΦ s1 rv wk D C s fp hD => ?_
  exact comp_lcW (hg C s H1 fp).choose_spec.2 (ht' C s H1 fp).choose_spec.2 (he C s H1 fp).choose_spec.2 (er.go s1) rv wk hD hΦ (Q := Q) (fun es zs p H2 p1 s2 hp r => hd es zs p H2 p1 (s1.trans s2) hp r) fun _ _ z => z
end
end D3

set_option Elab.async false
set_option linter.all false
set_option maxRecDepth 100000
set_option maxHeartbeats 4000000
namespace D3
open PySem PySem.Spec PyProof.Rows L2
theorem bt_len : bootBuiltins "len" = some (.builtin "len") := by decide +kernel
theorem bt_abs : bootBuiltins "abs" = some (.builtin "abs") := by decide +kernel
theorem bt_isinstance : bootBuiltins "isinstance" = some (.builtin "isinstance") := by decide +kernel
theorem bt_int : bootBuiltins "int" = some (.type "int") := by decide +kernel
theorem bt_bool : bootBuiltins "bool" = some (.type "bool") := by decide +kernel
theorem atI_n {α : Type} (xs : List α) (n : Nat) : atI xs (n : Int) = xs[n]? := by
  cases h : xs[n]? with
  | some v => exact atI_nat h
  | none =>
    have h' := List.getElem?_eq_none_iff.mp h
    unfold atI ixN
    rw [if_pos (by omega), if_neg (by omega)]
    rfl
theorem fmod_pos {i j : Int} (h : 0 < j) : i.fmod j = i % j := Int.fmod_eq_emod_of_nonneg i (Int.le_of_lt h)
theorem small_le {n : Nat} (h : n ≤ 1000) : n ≤ sizeLine := Nat.le_of_lt (small1000 h)
def Bd (k : Nat) (i : Int) : Prop := i.natAbs < 2 ^ k
theorem Bd.mono {k l : Nat} {i : Int} (h : Bd k i) (hl : k ≤ l) : Bd l i := Nat.lt_of_lt_of_le h (Nat.pow_le_pow_right (by decide) hl)
theorem Bd.neg {k : Nat} {i : Int} (h : Bd k i) : Bd k (-i) := by unfold Bd; rw [Int.natAbs_neg]; exact h
theorem Bd.add {k l : Nat} {i j : Int} (h : Bd k i) (g : Bd l j) : Bd (max k l + 1) (i + j) := by
  unfold Bd at *
  have h1 : i.natAbs < 2 ^ max k l := Nat.lt_of_lt_of_le h (Nat.pow_le_pow_right (by decide) (Nat.le_max_left ..))
  have h2 : j.natAbs < 2 ^ max k l := Nat.lt_of_lt_of_le g (Nat.pow_le_pow_right (by decide) (Nat.le_max_right ..))
  have h3 := Int.natAbs_add_le i j
  rw [Nat.pow_succ]
  omega
theorem Bd.sub {k l : Nat} {i j : Int} (h : Bd k i) (g : Bd l j) : Bd (max k l + 1) (i - j) := by rw [Int.sub_eq_add_neg]; exact h.add g.neg
theorem Bd.mul {k l : Nat} {i j : Int} (h : Bd k i) (g : Bd l j) : Bd (k + l) (i * j) := by
  unfold Bd at *
  rw [Int.natAbs_mul, Nat.pow_add]
  exact Nat.mul_lt_mul_of_lt_of_lt h g
theorem Bd.bits {k : Nat} {i : Int} (h : Bd k i) : Builtin.Int.intBits i ≤ k := by
  unfold Builtin.Int.intBits
  split
  · exact Nat.zero_le _
  · rename_i hz
    have h0 : i.natAbs ≠ 0 := by
      intro z
      apply hz
      have : i = 0 := Int.natAbs_eq_zero.mp z
      simp [this]
    exact (Nat.log2_lt h0).mpr h
theorem mulOk {k l : Nat} {i j : Int} (h : Bd k i) (g : Bd l j) (hk : k + l ≤ 134217728) : IntMulOk i j := IntMulOk.of_le h.bits g.bits hk
theorem cd_of {k : Nat} {i j : Int} (h0 : j ≠ 0) (h : Bd k j) (hk : k ≤ 9000) : CD i j := by
  refine ⟨h0, ?_⟩
  have hz : j.natAbs ≠ 0 := fun z => h0 (Int.natAbs_eq_zero.mp z)
  exact Nat.lt_of_lt_of_le ((Nat.log2_lt hz).mpr h) hk
theorem bd_of {k : Nat} {i : Int} (n : Nat) (h : i.natAbs ≤ n) (hn : n < 2 ^ k) : Bd k i := Nat.lt_of_le_of_lt h hn
theorem cd_lit {i j : Int} (h : decide (j ≠ 0 ∧ j.natAbs < 1073741824) = true) : CD i j := by
  have h := of_decide_eq_true h
  exact cd_of (k := 30) h.1 h.2 (by decide)
end D3

set_option Elab.async false
set_option linter.all false
set_option maxRecDepth 100000
set_option maxHeartbeats 4000000
namespace D3
open PySem PySem.Spec PyProof.Rows L2
section
variable {X : Cx} {tg : Expr}
theorem sl_le {n : Nat} (k : Nat) (h : n = k) (hk : k ≤ 1000) : n ≤ sizeLine := by subst h; exact small_le hk
theorem tst {A B : Prop} {b : Bool} (h1 : b = true → A) (h2 : b = false → B) : if b = true then A else B := by
  cases b with
  | true => rw [if_pos rfl]; exact h1 rfl
  | false => rw [if_neg Bool.false_ne_true]; exact h2 rfl
theorem tT {A B : Prop} {b : Bool} (h : b = true) (a : A) : if b = true then A else B := by rw [if_pos h]; exact a
theorem tF {A B : Prop} {b : Bool} (h : b = false) (a : B) : if b = true then A else B := by subst h; rw [if_neg Bool.false_ne_true]; exact a
theorem FOR_all {g : G3} {tb : S3} {Φ : F3 → Prop} {ds : List D} {ρ : Fr3} (P : D → Prop) (I : Fr3 → Prop) (hP : ∀ d ∈ ds, P d) (h0 : I ρ)
    (hs : ∀ d ρ, P d → I ρ → ∀ k : (F3 → Prop) → Fr3 → Prop, (∀ ρ', I ρ' → k Φ ρ') → g d ρ fun ρ1 => tb (loopS k Φ) ρ1) (hd : ∀ ρ, I ρ → Φ (.nx ρ)) : FOR g tb ds Φ ρ :=
  FOR_inv (fun _ post ρ => (∀ d ∈ post, P d) ∧ I ρ) (fun pre d post ρ h k hk => hs d ρ (h.1 d List.mem_cons_self) h.2 k fun ρ' h' => hk ρ' ⟨fun e he => h.1 e (List.mem_cons_of_mem _ he), h'⟩) (fun pre ρ h => hd ρ h.2) ds [] ρ ⟨hP, h0⟩
end
end D3

set_option Elab.async false
set_option linter.all false
set_option maxRecDepth 100000
set_option maxHeartbeats 4000000
namespace D3
open PySem PySem.Spec PyProof.Rows L2
section
variable {X : Cx} {pins : List (Addr × Obj)} {σ : L2.St} {H : Hp} {s : Shared} {S : Addr → Prop}
end
section
variable {X : Cx}
end
end D3

set_option Elab.async false
set_option linter.all false
set_option maxRecDepth 100000
set_option maxHeartbeats 4000000
namespace D3
open PySem PySem.Spec PyProof.Rows L2
section
variable {X : Cx}
section
open PySem.MeetsSeq PySem.AutoSeq1
end
theorem OpR.or {f : Value → Value → Sem Value} {r r' : R2} (h : OpR X f r) (h' : OpR X f r') : OpR X f (fun x y H Q => r x y H Q ∨ r' x y H Q) := fun pins s σ H x y v u Q I rx ry q => q.elim (h pins s σ H x y v u Q I rx ry) (h' pins s σ H x y v u Q I rx ry)
def iSeqV (K : PySem.W.Frag) (tl : TE) : TI := fun σ H R => tl σ H fun x H1 => ∃ a, x = .ref a ∧ (((∃ xs, SqL K H1 a xs) ∧ R (Itl K a) H1) ∨ ((∃ xs, SqT K H1 a xs) ∧ R (Itt K a) H1))
theorem pi_seq {tg l : Expr} {tl : TE} (hl : PE X l tl) : PI X tg l (iSeqV X.K tl) := by
  intro pins s σ H R I h
  refine thn (hl pins s σ H _ I h) fun v s1 ⟨x, H1, I1, r1, q1⟩ => ?_
  obtain ⟨a, e, q1⟩ := q1
  subst e
  cases r1
  rcases q1 with ⟨⟨xs, hq⟩, q⟩ | ⟨⟨xs, hq⟩, q⟩
  · obtain ⟨its, rv, p, hz⟩ := I1.list hq
    refine wpAny_pyIter_list p.isList ?_
    refine ⟨s1.heap.objs.size, [s1.heap.objs.size], _, _, H1, rfl, I1.kept (t' := s1.toks) fun b o e => Heap.get?_push_of_some _ e, turn_list a _, ⟨_, Heap.get?_push_size _ rfl, rfl, rfl⟩, fun b hb => ?_, q⟩
    have e : b = s1.heap.objs.size := by simpa using hb
    subst e
    exact I1.fpOk (Nat.le_refl _) (I1.hok.fresh (Nat.le_refl _))
  · obtain ⟨its, rv, p, hz⟩ := I1.tuple hq
    refine wpAny_pyIter_tuple (show s1.heap.IsTuple a its.toArray from p) ?_
    refine ⟨s1.heap.objs.size, [s1.heap.objs.size], _, _, H1, rfl, I1.kept (t' := s1.toks) fun b o e => Heap.get?_push_of_some _ e, turn_tuple a _, ⟨_, Heap.get?_push_size _ rfl, rfl, rfl⟩, fun b hb => ?_, q⟩
    have e : b = s1.heap.objs.size := by simpa using hb
    subst e
    exact I1.fpOk (Nat.le_refl _) (I1.hok.fresh (Nat.le_refl _))
abbrev iLT (te : E3) : A3 := fun ρ Φ => te ρ fun d => match d with | .lst ds => Φ ds | .tup ds => Φ ds | _ => False
theorem pid_seq {tg e : Expr} {te : E3} (he : PD X e te) : PID X tg e (iLT te) := by
  obtain ⟨t2, h, w⟩ := he
  refine PID.one ⟨_, pi_seq h, fun B S H σ ρ Φ R er q k => w B S H σ ρ _ _ er q fun d v H1 p s r => ?_⟩
  cases d <;> first | exact p.elim | skip
  · rename_i ds
    obtain ⟨a, xs, rfl, lr, rs⟩ := rep_tup r
    refine ⟨a, rfl, .inr ⟨⟨xs, lr⟩, k ds _ _ _ H1 p s r fun S2 H2 r2 => ?_⟩⟩
    obtain ⟨a2, xs2, e2, lr2, rs2⟩ := rep_tup r2
    cases e2
    refine ⟨⟨xs2, lr2, by rw [rs2.len]; exact Nat.le_refl _⟩, fun i hi => ?_⟩
    have hi2 : i < xs2.length := by rw [← rs2.len]; exact hi
    refine ⟨⟨xs2, xs2[i], lr2, by simp [hi2]⟩, fun x H' y => ?_⟩
    obtain ⟨rfl, y⟩ := y
    obtain ⟨c, ec, rc⟩ := rs2.getV (y xs2 lr2)
    exact ⟨rfl, c, ec, rc⟩
  · rename_i ds
    obtain ⟨a, xs, rfl, lr, rs⟩ := rep_lst r
    refine ⟨a, rfl, .inl ⟨⟨xs, lr.sq⟩, k ds _ _ _ H1 p s r fun S2 H2 r2 => ?_⟩⟩
    obtain ⟨a2, xs2, e2, lr2, rs2⟩ := rep_lst r2
    cases e2
    refine ⟨⟨xs2, lr2.sq, by rw [rs2.len]; exact Nat.le_refl _⟩, fun i hi => ?_⟩
    have hi2 : i < xs2.length := by rw [← rs2.len]; exact hi
    refine ⟨⟨xs2, xs2[i], lr2.sq, by simp [hi2]⟩, fun x H' y => ?_⟩
    obtain ⟨rfl, y⟩ := y
    obtain ⟨c, ec, rc⟩ := rs2.getV (y xs2 lr2.sq)
    exact ⟨rfl, c, ec, rc⟩
end
end D3

set_option Elab.async false
set_option linter.all false
set_option maxRecDepth 100000
set_option maxHeartbeats 4000000
namespace D3
open PySem PySem.Spec PyProof.Rows L2
section
variable {X : Cx} {pos : Pos}
end
end D3

set_option Elab.async false
set_option linter.all false
set_option maxRecDepth 100000
set_option maxHeartbeats 4000000
namespace D3
open PySem PySem.Spec PyProof.Rows L2
section
variable {X : Cx} {pins : List (Addr × Obj)} {σ : L2.St} {k : Nat} {f : Addr} {fd : FuncData} {ps : List Str} {C : Con}
variable {l Ia Sa : Addr} {H0 : Hp} {xs : List V} {ds : List D} {ks : List Int} {S : Addr → Prop} {R : Result → Shared → Prop}
end
section
variable {X : Cx} {k : Nat} {f : Addr} {fd : FuncData} {ps : List Str} {C : Con} {x y : Str} {p py kpos pos : Pos} {e : Expr} {te : E3}
end
end D3

set_option Elab.async false
set_option linter.all false
set_option maxRecDepth 100000
set_option maxHeartbeats 4000000
namespace D3
open PySem PySem.Spec PyProof.Rows L2
def IsRv (h : Heap) (a l : Addr) (i : Int) : Prop := ∃ o, h.get? a = some o ∧ o.cls = .type "reversed" ∧ o.data = .fields #[.ref l, rawInt i]
theorem IsRv.typeIs {s : Shared} {a l : Addr} {i : Int} (x : IsRv s.heap a l i) : s.TypeIs (.ref a) "reversed" := let ⟨o, ho, hc, _⟩ := x; ⟨o, ho, hc⟩
theorem IsRv.at {h h' : Heap} {a l : Addr} {i : Int} (x : IsRv h a l i) (e : ∀ o, h.get? a = some o → h'.get? a = some o) : IsRv h' a l i := let ⟨o, ho, r⟩ := x; ⟨o, e _ ho, r⟩
section
variable {prog : Program} {w : World} {A : Around} {E : Value → Shared → Prop} {s : Shared}
end
section
variable {X : Cx}
end
end D3

set_option Elab.async false
set_option linter.all false
set_option maxRecDepth 100000
set_option maxHeartbeats 4000000
namespace D3
open PySem PySem.Spec PyProof.Rows L2
section
variable {X : Cx} {a b : Expr} {ta : E3} {tb : A3} {p pos' pos : Pos}
end
end D3

set_option Elab.async false
set_option linter.all false
set_option maxRecDepth 100000
set_option maxHeartbeats 4000000
namespace D3
open PySem PySem.Spec PyProof.Rows L2
def IsIt : Bool → Heap → Addr → Addr → Nat → Prop
  | true, h, it, l, k => h.IsListIter it l k
  | false, h, it, l, k => h.IsTupleIter it l k
def IsSq : Bool → Heap → Addr → Array Value → Prop
  | true, h, l, xs => h.IsList l xs
  | false, h, l, xs => h.IsTuple l xs
theorem IsIt.obj {b : Bool} {h : Heap} {it l : Addr} {k : Nat} (x : IsIt b h it l k) : ∃ o vs, h.get? it = some o ∧ o.data = .fields vs := by
  cases b <;> (obtain ⟨o, e, _, d⟩ := x; exact ⟨o, _, e, d⟩)
theorem IsIt.at {b : Bool} {h h' : Heap} {it l : Addr} {k : Nat} (x : IsIt b h it l k) (e : ∀ o, h.get? it = some o → h'.get? it = some o) : IsIt b h' it l k := by
  cases b <;> (obtain ⟨o, ho, r⟩ := x; exact ⟨o, e _ ho, r⟩)
theorem IsSq.at {b : Bool} {h h' : Heap} {l : Addr} {xs : Array Value} (x : IsSq b h l xs) (e : ∀ o, h.get? l = some o → h'.get? l = some o) : IsSq b h' l xs := by
  cases b <;> (obtain ⟨o, ho, r⟩ := x; exact ⟨o, e _ ho, r⟩)
inductive Mv (fp : List Addr) : Heap → Heap → Prop
  | refl (h : Heap) : Mv fp h h
  | step {h h1 h2 : Heap} (b : Addr) : Mv fp h h1 → b ∈ fp → (∀ c o, c ≠ b → h1.get? c = some o → h2.get? c = some o) → Mv fp h h2
theorem Mv.keep {fp : List Addr} {h h' : Heap} (m : Mv fp h h') : ∀ c o, c ∉ fp → h.get? c = some o → h'.get? c = some o := by
  induction m with
  | refl => exact fun _ _ _ e => e
  | step b _ hb k ih => exact fun c o hc e => k c o (fun z => hc (z ▸ hb)) (ih c o hc e)
section
variable {prog : Program} {w : World} {A : Around} {E : Value → Shared → Prop} {s : Shared}
variable {b1 b2 : Bool} {z TI TO i1 i2 l1 l2 : Addr} {k : Nat} {xs ys : Array Value}
end
def SqB (K : PySem.W.Frag) : Bool → Hp → Addr → List V → Prop
  | true, H, a, xs => SqL K H a xs
  | false, H, a, xs => SqT K H a xs
theorem SqB.at {X : Cx} {pins : List (Addr × Obj)} {σ : L2.St} {H : Hp} {s : Shared} {b : Bool} {a : Addr} {xs : List V} (I : Inv X pins σ H s) (h : SqB X.K b H a xs) : ∃ its : List Value, Vals xs its ∧ IsSq b s.heap a its.toArray := by
  cases b with
  | true => obtain ⟨its, r, p, _⟩ := I.list h; exact ⟨its, r, p.isList⟩
  | false => obtain ⟨its, r, p, _⟩ := I.tuple h; exact ⟨its, r, p⟩
theorem SqB.inj {X : Cx} {pins : List (Addr × Obj)} {σ : L2.St} {H : Hp} {s : Shared} {b : Bool} {a : Addr} {xs ys : List V} (I : Inv X pins σ H s) (h : SqB X.K b H a xs) (h' : SqB X.K b H a ys) : xs = ys := by
  cases b with
  | true => exact I.list_inj h h'
  | false => exact I.tuple_inj h h'
theorem IsSq.lt {b : Bool} {h : Heap} {l : Addr} {xs : Array Value} (x : IsSq b h l xs) : l < h.objs.size := by
  cases b <;> (obtain ⟨o, ho, _⟩ := x; exact Heap.lt_size ho)
theorem apart (n l m : Nat) (k1 : l < n) (k2 : m < n) : ZipApart (n + 4) (n + 2) (n + 3) n (n + 1) l m := by
  have f : ∀ {a b : Nat}, a < b → a ≠ b := fun h => Nat.ne_of_lt h
  have g : ∀ {a b : Nat}, b < a → a ≠ b := fun h => Nat.ne_of_gt h
  exact ⟨f (by omega), f (by omega), f (by omega), f (by omega), f (by omega), g (by omega), g (by omega), g (by omega), g (by omega), f (by omega), f (by omega), f (by omega), f (by omega), f (by omega), f (by omega), f (by omega), f (by omega), f (by omega)⟩
section
variable {X : Cx}
end
end D3

set_option Elab.async false
set_option linter.all false
set_option maxRecDepth 100000
set_option maxHeartbeats 4000000
namespace D3
open PySem PySem.Spec PyProof.Rows L2
section
variable {X : Cx}
end
end D3

set_option Elab.async false
set_option linter.all false
set_option maxRecDepth 100000
set_option maxHeartbeats 4000000
namespace D3
open PySem PySem.Spec PyProof.Rows L2
section
variable {prog : Program} {w : World} {A : Around} {E : Value → Shared → Prop} {s : Shared}
end
section
variable {X : Cx} {pos : Pos} {es : List Expr}
end
end D3

set_option Elab.async false
set_option linter.all false
set_option maxRecDepth 100000
set_option maxHeartbeats 4000000
namespace D3
open PySem PySem.Spec PyProof.Rows L2
section
variable {prog : Program} {w : World} {A : Around} {E : Value → Shared → Prop} {s : Shared}
end
section
variable {X : Cx}
end
end D3

set_option Elab.async false
set_option linter.all false
set_option maxRecDepth 100000
set_option maxHeartbeats 4000000
namespace D3
open PySem PySem.Spec PyProof.Rows L2

section
variable {prog : Program} {w : World} {A : Around} {E : Value → Shared → Prop} {h : Heap} {g : Array GenState} {d : Drawn} {t : Nat} {os : OsState} {a C : Addr} {o : Obj} {K : PySem.W.Frag}
end
end D3
namespace D3
open PySem PySem.Spec PyProof.Rows L2

structure FlyB (P : Program) (w : World) (l : List Env) (H H' : Hp) (h h' B : Heap) (e C : Addr) (a0 : Value) : Prop where
  fl : Heap.FlyingW B l e (.ref C) a0 h'
  hok : HOk P w H' B
  keep : ∀ b o, h.get? b = some o → H b = none → b ∉ frs l → B.get? b = some o
  slot : ∀ b o, h.get? b = some o → H b = none → b ∈ frs l → ∃ sl, h'.get? b = some { o with slots := sl }
  free : ∀ b o, h.get? b = some o → H b = none → H' b = none
  there : ∀ b o, h.get? b = some o → b ∉ frs l → ∃ o', B.get? b = some o'
  tups : ∀ b xs, H b = some (.tup xs) → H' b = some (.tup xs)
  frzs : ∀ b o u, H b = some (.frz o u) → H' b = some (.frz o u)
  tbls : ∀ b ps, H b = some (.tbl ps) → ∃ more, H' b = some (.tbl (ps ++ more))
  he : H' e = none
section
variable {P : Program} {w : World} {l : List Env} {H H' : Hp} {h h' h'' B : Heap} {e C : Addr} {a0 : Value}
theorem FlyB.un (f : FlyB P w l H H' h h' B e C a0) : Un (frs l) [] H H' h h' where
  keep := fun b o q n hb _ => f.fl.1 _ _ (f.keep b o q n hb)
  slot := fun b o q n hb _ => f.slot b o q n hb
  free := fun b o q n _ => f.free b o q n
  there := fun b o q _ => by
    by_cases hb : b ∈ frs l
    · obtain ⟨_, o', ho, _⟩ := f.fl.2.2.1.mem hb
      exact ⟨o', ho⟩
    · obtain ⟨o', ho⟩ := f.there b o q hb
      exact ⟨o', f.fl.1 _ _ ho⟩
  tups := f.tups
  frzs := f.frzs
  tbls := f.tbls
theorem FlyB.hk (f : FlyB P w l H H' h h' B e C a0) : HOk P w H' h' := f.hok.kept f.fl.1
theorem FlyB.go (f : FlyB P w l H H' h h' B e C a0) (x : Heap.FlyingW B l e (.ref C) a0 h'') (u : h'.UpToSlots h'') : FlyB P w l H H' h h'' B e C a0 where
  fl := x
  hok := f.hok
  keep := f.keep
  slot := fun b o q n hb => by
    obtain ⟨sl, e1⟩ := f.slot b o q n hb
    obtain ⟨_, o', ho, hd⟩ := f.fl.2.2.1.mem hb
    rw [e1] at ho; cases ho
    obtain ⟨sl', e2⟩ := u b _ e1 hd
    exact ⟨sl', e2⟩
  free := f.free
  there := f.there
  tups := f.tups
  frzs := f.frzs
  tbls := f.tbls
  he := f.he
end
section
variable {X : Cx} {pins : List (Addr × Obj)} {σ : L2.St} {H1 : Hp} {s1 : Shared} {h' : Heap} {e C : Addr} {vs : List Value} {Q : Unit → Shared → Prop} {E : Value → Shared → Prop}
end

section
variable {X : Cx} {x : Str} {C : Addr} {e₀ : Expr} {rest : List Expr} {np cpos pos : Pos} {ta : TA} {R : Hp → Prop}
end
end D3
namespace D3
open PySem PySem.Spec PyProof.Rows L2

section
variable {X : Cx} {R : Hp → Prop} {st : Stmt} {rest as bs : List Stmt} {t u : Fr3 → Prop} {ts us : S3} {c : Expr} {tc : B3} {pos : Pos}
end

section
variable {X : Cx} {R : Hp → Prop} {rest bs : List Stmt} {u : Fr3 → Prop} {ta : A3} {us : S3} {c : Expr} {tc : B3} {pos : Pos} {st : Stmt}
end

section
variable {P : Program} {w : World} {K : PySem.W.Frag} {mg : Str → Option Value} {base : Heap}
end

section
variable {X : Cx} {i : Nat} {ea C : Addr} {oe : Obj} {x y n : Str} {p py pn pos ps : Pos} {b b' : Bool} {a a2 : Expr}
inductive Names (X : Cx) : List Expr → List Addr → Prop where
  | nil : Names X [] []
  | cons {y : Str} {py : Pos} {D : Addr} {es : List Expr} {Ds : List Addr} (hg : Gl X y) (hm : X.mg y = some (.ref D)) (hd : (y == ("__debug__" : Str)) = false) (he : starEach (.Name y py :: es) X.env = (false, eval (.Name y py) X.env) :: starEach es X.env) (r : Names X es Ds) : Names X (.Name y py :: es) (D :: Ds)
theorem Names.pa {es : List Expr} {Ds : List Addr} (h : Names X es Ds) : ∃ t, PA X es t ∧ ∀ σ H Q, Q (Ds.map V.ref) H → t σ H Q := by
  induction h with
  | nil => exact ⟨_, pa_nil, fun σ H Q q => q⟩
  | cons hg hm hd he r ih =>
    obtain ⟨t, h, w⟩ := ih
    exact ⟨_, pa_cons (pe_glob hg hm (show RelV (.ref _) (.ref _) from rfl) hd) h he, fun σ H Q q => w σ H _ q⟩
end
end D3
namespace D3
open PySem PySem.Spec PyProof.Rows L2

section
variable {X : Cx} {pins : List (Addr × Obj)} {σ : L2.St} {H : Hp} {s : Shared}
end

theorem ER.any {K : PySem.W.Frag} {B : Bs} {S : Addr → Prop} {H : Hp} {σ : L2.St} {ρ : Fr3} {i : Nat} {v : Option V} (er : ER K B S H σ ρ) (h : ρ[i]? = some .un) : ER K B S H (σ.set i v) ρ where
  len := by rw [List.length_set]; exact er.len
  same := er.same
  sub := er.sub
  ok0 := er.ok0
  ok := er.ok
  val := fun j c q => by
    have : i ≠ j := by rintro rfl; rw [h] at q; cases q
    rw [List.getElem?_set_ne this]; exact er.val j c q
  own := fun j c q => by
    have : i ≠ j := by rintro rfl; rw [h] at q; cases q
    rw [List.getElem?_set_ne this]; exact er.own j c q
  uq := fun j k a ds es q1 q2 q3 q4 => by
    have n1 : i ≠ j := by rintro rfl; rw [h] at q1; cases q1
    have n2 : i ≠ k := by rintro rfl; rw [h] at q2; cases q2
    rw [List.getElem?_set_ne n1] at q3
    rw [List.getElem?_set_ne n2] at q4
    exact er.uq j k a ds es q1 q2 q3 q4
  gh := er.gh

section
variable {X : Cx} {i j : Nat} {ea : Addr} {x : Str} {e : Expr} {b : Bool} {rest : List Stmt} {l : List (Nat × Bool)} {pos pos' : Pos}
end

section
variable {X : Cx} {k i : Nat} {f C D : Addr} {fd : FuncData} {ps : List Str} {Pre : List D3.D → Prop} {x y n : Str} {p pos pos' py hp tp : Pos} {e : Expr} {es : List Expr} {b₀ : Stmt} {suite : List Stmt} {ta : A3} {l : List (Nat × Bool)}
end
end D3

set_option Elab.async false
set_option linter.all false
set_option maxRecDepth 100000
set_option maxHeartbeats 4000000
namespace D3
open PySem PySem.Spec PyProof.Rows L2

section
variable {X : Cx} {i j : Nat} {ea : Addr} {x : Str} {e a b : Expr} {es : List Expr} {bv : Bool} {te ta tb : E3} {tr : A3} {rest : List Stmt} {pos pos' : Pos}
end
section
variable {X : Cx} {k i : Nat} {f C D : Addr} {fd : FuncData} {ps : List Str} {Pre : List D3.D → Prop} {x y n : Str} {p pos pos' py hp tp : Pos} {e : Expr} {es : List Expr} {b₀ : Stmt} {suite : List Stmt} {ta : A3} {ts : S3}
end
end D3

set_option Elab.async false
set_option linter.all false
set_option maxRecDepth 100000
set_option maxHeartbeats 4000000
namespace D3
open PySem PySem.Spec PyProof.Rows L2
theorem Names.sp {X : Cx} {pins : List (Addr × Obj)} {σ : L2.St} {H : Hp} {s : Shared} {E : Value → Shared → Prop} {pos : Pos} (I : Inv X pins σ H s) : ∀ {es : List Expr} {Ds : List Addr}, Names X es Ds → ∀ (Q : List Value → Shared → Prop), Q (Ds.map Value.ref) s → wpAny (model X.prog X.w) X.A (spliced (backTo pos (starEach es X.env))) Q E s
  | _, _, .nil, Q, q => Calls.spliced_nil q
  | _, _, .cons hg hm hd he r, Q, q => by
    rw [he]
    refine Calls.spliced_cons (ld_glob I hg hm ?_ hd)
    exact Names.sp I r _ q

theorem FlyB.more {P : Program} {w : World} {l : List Env} {H H' : Hp} {h h' h'' B : Heap} {e C : Addr} {a0 : Value} (f : FlyB P w l H H' h h' B e C a0) (k : ∀ b o, h'.get? b = some o → h''.get? b = some o) : FlyB P w l H H' h h'' B e C a0 := by
  obtain ⟨f1, f2, f3, oe, vs, T, oT, ts, g1, g2, g3, g4, g5, g6, g7, g8, g9⟩ := f.fl
  refine f.go ⟨fun b o q => k _ _ (f1 _ _ q), f2, f3.of_keeps fun b o q _ => ⟨o, k _ _ q, rfl⟩, oe, vs, T, oT, ts, k _ _ g1, g2, g3, g4, g5, g6, k _ _ g7, g8, g9⟩ fun b o q _ => ⟨o.slots, k _ _ q⟩
section
variable {X : Cx} {k i : Nat} {f C D ea : Addr} {fd : FuncData} {ps : List Str} {Pre : List D3.D → Prop} {x y n : Str} {p pos pos' py hp hp0 tp pt : Pos} {e : Expr} {es cs : List Expr} {b₀ : Stmt} {suite suite0 : List Stmt} {ta : A3} {ts : S3} {Ds : List Addr} {cx : Nat}
end
end D3

set_option Elab.async false
set_option linter.all false
set_option maxRecDepth 100000
set_option maxHeartbeats 4000000
namespace D3
open PySem PySem.Spec PyProof.Rows L2

section
variable {X : Cx} {pins : List (Addr × Obj)} {σ : L2.St} {H H' : Hp} {s s' : Shared} {e C : Addr} {B : Heap} {a0 : Value} {Q : Unit → Shared → Prop} {E : Value → Shared → Prop}
end
section
variable {X : Cx} {R : Hp → Prop} {C f : Addr} {k : Nat} {fd : FuncData} {ps : List Str} {Pre : List D3.D → Prop} {x : Str} {e a : Expr} {es : List Expr} {p pos pos' : Pos} {ta : A3} {t : Fr3 → Prop}
end
section
variable {P : Program} {w : World} {K : PySem.W.Frag} {mg : Str → Option Value} {base : Heap}
end
end D3

set_option Elab.async false
set_option linter.all false
set_option maxRecDepth 100000
set_option maxHeartbeats 4000000
namespace D3
open PySem PySem.Spec PyProof.Rows L2

section
variable {X : Cx} {pos : Pos}
end
section
variable {X : Cx}
end
end D3

set_option linter.all false
namespace Mt
theorem fmod_def (a b : Int) : a.fmod b = a - b * a.fdiv b := by
  have := Int.mul_fdiv_add_fmod a b; omega
theorem fmod_lt {a b : Int} (h : b ≠ 0) : (a.fmod b).natAbs < b.natAbs := by
  rw [Int.fmod_eq_emod]
  have h1 := Int.emod_nonneg a h
  have h2 := Int.emod_lt a h
  by_cases hb : 0 ≤ b
  · rw [if_pos (.inl hb)]; omega
  · by_cases hd : b ∣ a
    · rw [if_pos (.inr hd), Int.emod_eq_zero_of_dvd hd]; omega
    · rw [if_neg (by rintro (z | z) <;> contradiction)]
      have h3 : a % b ≠ 0 := fun z => hd (Int.dvd_of_emod_eq_zero z)
      omega
theorem gcd_step (a b : Int) : Int.gcd b (a.fmod b) = Int.gcd a b := by
  rw [fmod_def, Int.mul_comm, Int.gcd_sub_mul_right_right, Int.gcd_comm]
end Mt

set_option linter.all false
namespace Mt
structure PrimeI (p : Int) : Prop where
  two : 2 ≤ p
  no : ∀ d : Int, 2 ≤ d → d * d ≤ p → ¬ d ∣ p
def prodI (ps : List Int) : Int := ps.foldl (· * ·) 1
theorem foldl_mul : ∀ (ps : List Int) (a : Int), ps.foldl (· * ·) a = a * prodI ps
  | [], a => by simp [prodI]
  | p :: ps, a => by
    unfold prodI
    rw [List.foldl_cons, List.foldl_cons, foldl_mul ps (a * p), foldl_mul ps (1 * p)]
    grind
theorem prodI_append (ps qs : List Int) : prodI (ps ++ qs) = prodI ps * prodI qs := by
  unfold prodI; rw [List.foldl_append, foldl_mul]; rfl
theorem prodI_cons (p : Int) (ps : List Int) : prodI (p :: ps) = p * prodI ps := by
  unfold prodI; rw [List.foldl_cons, foldl_mul, Int.one_mul]; rfl
theorem prodI_one (p : Int) : prodI [p] = p := by simp [prodI]
structure PrI (n rest c : Int) (ps : List Int) : Prop where
  e : prodI ps * rest = n
  r : 1 ≤ rest
  c2 : 2 ≤ c
  no : ∀ d : Int, 2 ≤ d → d < c → ¬ d ∣ rest
  up : ps.Pairwise (· ≤ ·)
  le : ∀ p ∈ ps, p ≤ c
  pr : ∀ p ∈ ps, PrimeI p
theorem PrI.take {n rest c : Int} {ps : List Int} (h : PrI n rest c ps) (hd : rest.fmod c = 0) : PrI n (rest.fdiv c) c (ps ++ [c]) ∧ rest.fdiv c < rest := by
  have hc : 0 < c := by have := h.c2; omega
  have hr := h.r
  have dv : c ∣ rest := Int.dvd_of_fmod_eq_zero hd
  have e : c * rest.fdiv c = rest := Int.mul_fdiv_cancel' dv
  have c2 := h.c2
  have r1 : 1 ≤ rest.fdiv c := by
    rcases Int.lt_or_le 0 (rest.fdiv c) with z | z
    · exact z
    · have := Int.mul_nonneg (show 0 ≤ c by omega) (show 0 ≤ -(rest.fdiv c) by omega)
      rw [Int.mul_neg] at this
      omega
  refine ⟨⟨?_, r1, c2, fun d h1 h2 h3 => h.no d h1 h2 ?_, ?_, ?_, ?_⟩, ?_⟩
  · rw [prodI_append, prodI_one, Int.mul_assoc, e]; exact h.e
  · rw [← e]; exact Int.dvd_trans h3 (Int.dvd_mul_left c _)
  · rw [List.pairwise_append]
    exact ⟨h.up, by simp, fun a ha b hb => by simp at hb; subst hb; exact h.le a ha⟩
  · intro p hp
    rcases List.mem_append.mp hp with z | z
    · exact h.le p z
    · simp at z; omega
  · intro p hp
    rcases List.mem_append.mp hp with z | z
    · exact h.pr p z
    · simp at z; subst z
      refine ⟨c2, fun d h1 h2 h3 => h.no d h1 ?_ (Int.dvd_trans h3 dv)⟩
      have : 2 * d ≤ d * d := Int.mul_le_mul_of_nonneg_right h1 (by omega)
      omega
  · have : 2 * rest.fdiv c ≤ c * rest.fdiv c := Int.mul_le_mul_of_nonneg_right c2 (by omega)
    omega
theorem PrI.next {n rest c : Int} {ps : List Int} (h : PrI n rest c ps) (hd : rest.fmod c ≠ 0) : PrI n rest (c + 1) ps := by
  have c2 := h.c2
  refine ⟨h.e, h.r, by omega, fun d h1 h2 h3 => ?_, h.up, fun p hp => by have := h.le p hp; omega, h.pr⟩
  by_cases hdc : d = c
  · subst hdc; exact hd (Int.fmod_eq_zero_of_dvd h3)
  · exact h.no d h1 (by omega) h3
structure Primes (n : Int) (ps : List Int) : Prop where
  e : prodI ps = n
  up : ps.Pairwise (· ≤ ·)
  pr : ∀ p ∈ ps, PrimeI p
theorem PrI.done {n rest c : Int} {ps : List Int} (h : PrI n rest c ps) (hc : ¬ c * c ≤ rest) : Primes n (if 1 < rest then ps ++ [rest] else ps) := by
  have hr := h.r
  have c2 := h.c2
  split
  · rename_i h1
    have hrc : c ≤ rest := by
      rcases Int.lt_or_le rest c with z | z
      · exact absurd (Int.dvd_refl rest) (h.no rest (by omega) z)
      · exact z
    refine ⟨by rw [prodI_append, prodI_one]; exact h.e, ?_, ?_⟩
    · rw [List.pairwise_append]
      exact ⟨h.up, by simp, fun a ha b hb => by simp at hb; subst hb; have := h.le a ha; omega⟩
    · intro p hp
      rcases List.mem_append.mp hp with z | z
      · exact h.pr p z
      · simp at z; subst z
        refine ⟨by omega, fun d h2 h3 h4 => h.no d h2 ?_ h4⟩
        rcases Int.lt_or_le d c with z | z
        · exact z
        · have := Int.mul_le_mul z z (by omega) (by omega)
          omega
  · rename_i h1
    have : rest = 1 := by omega
    subst this
    exact ⟨by have := h.e; rwa [Int.mul_one] at this, h.up, h.pr⟩
theorem prodI_pos {ps : List Int} (h : ∀ p ∈ ps, 2 ≤ p) : 1 ≤ prodI ps := by
  induction ps with
  | nil => simp [prodI]
  | cons p ps ih =>
    rw [prodI_cons]
    have h1 := h p List.mem_cons_self
    have h2 := ih fun q hq => h q (List.mem_cons_of_mem _ hq)
    have := Int.mul_le_mul (show 1 ≤ p by omega) h2 (by omega) (by omega)
    omega
end Mt

set_option maxHeartbeats 4000000
namespace My
open PySem PySem.Spec PyProof.Rows L2 D3
open Mt
def whole : D → Bool
  | .int _ => true
  | _ => false
theorem FOR_cons {g : G3} {tb : S3} {d : D} {ds : List D} {Φ : F3 → Prop} {ρ : Fr3} (h : g d ρ fun ρ1 => tb (loopS (FOR g tb ds) Φ) ρ1) : FOR g tb (d :: ds) Φ ρ := h
theorem sIx_n (n d k : Nat) : HT.sIx n d (some (k : Int)) = min k n := by
  show (if (k : Int) < 0 then ((k : Int) + (n : Int)).toNat else min (k : Int).toNat n) = min k n
  rw [if_neg (by omega), Int.toNat_natCast]
theorem cut_few {α : Type} (xs : List α) (j k : Nat) : (D3.cutD xs (some (j : Int)) (some (k : Int))).length ≤ k - j := by
  unfold D3.cutD
  rw [sIx_n, sIx_n, List.length_take]
  omega
theorem cutD_map {α β : Type} (f : α → β) (xs : List α) (lo hi : Option Int) : D3.cutD (xs.map f) lo hi = (D3.cutD xs lo hi).map f := by
  unfold D3.cutD; rw [List.length_map, List.map_take, List.map_drop]
theorem not_dvd_one {p : Int} (h : 2 ≤ p) : ¬ p ∣ 1 := fun z => by
  have := Int.le_of_dvd (by decide) z
  omega
def Cop (a b : Int) : Prop := ∀ d : Int, d ∣ a → d ∣ b → d ∣ 1
theorem Cop.mul {a b c : Int} (h : Cop a b) (d : a ∣ b * c) : a ∣ c := by
  have g : Int.gcd a b = 1 := Int.gcd_eq_one_iff.mpr h
  have e : a ∣ (Int.gcd (a * c) (b * c) : Int) := Int.dvd_coe_gcd (Int.dvd_mul_right a c) d
  rw [Int.gcd_mul_right, g, Nat.one_mul] at e
  exact Int.dvd_natAbs.mp e
structure PW (m g c : Int) : Prop where
  pos : 0 < c
  dvd : c ∣ m
  cop : Cop c g
  all : ∀ d, d ∣ m → Cop d g → d ∣ c
theorem c1001 {c rest : Int} (h2 : 2 ≤ c) (h : c * c ≤ rest) (hr : rest ≤ 1000000) : c ≤ 1000 := by
  rcases Int.lt_or_le 1000 c with z | z
  · have := Int.mul_le_mul (show 1001 ≤ c by omega) (show 1001 ≤ c by omega) (by omega) (by omega)
    omega
  · exact z
theorem bd20 {c : Int} (h0 : 0 ≤ c) (h : c ≤ 1000001) : Bd 20 c := bd_of 1000001 (by omega) (by decide)
theorem pri_rest_le {n rest c : Int} {ps : List Int} (h : PrI n rest c ps) : rest ≤ n := by
  have h1 := prodI_pos (fun p hp => (h.pr p hp).two)
  have h2 := h.r
  have := Int.mul_le_mul_of_nonneg_right h1 (show 0 ≤ rest by omega)
  have e := h.e
  omega
theorem prodI_ge : ∀ {ps : List Int}, (∀ p ∈ ps, 2 ≤ p) → (ps.length : Int) < prodI ps
  | [], _ => by simp [prodI]
  | p :: ps, h => by
    have ih := prodI_ge (ps := ps) fun q hq => h q (List.mem_cons_of_mem _ hq)
    have h1 := h p List.mem_cons_self
    rw [prodI_cons]
    have := Int.mul_le_mul h1 (show (ps.length : Int) + 1 ≤ prodI ps by omega) (by omega) (by omega)
    simp only [List.length_cons]
    omega
theorem pow_prodI : ∀ {ps : List Int}, (∀ p ∈ ps, 2 ≤ p) → (2 : Int) ^ ps.length ≤ prodI ps
  | [], _ => by simp [prodI]
  | p :: ps, h => by
    have ih := pow_prodI (ps := ps) fun q hq => h q (List.mem_cons_of_mem _ hq)
    have h1 := h p List.mem_cons_self
    rw [prodI_cons, List.length_cons, Int.pow_succ, Int.mul_comm]
    exact Int.mul_le_mul h1 ih (Int.pow_nonneg (by decide)) (by omega)
theorem few {ps : List Int} {n : Int} (h : ∀ p ∈ ps, 2 ≤ p) (e : prodI ps ≤ n) (hn : n ≤ 1000000) : ps.length ≤ 20 := by
  have h1 := pow_prodI h
  rcases Nat.lt_or_ge 20 ps.length with z | z
  · have : (2 : Int) ^ 21 ≤ 2 ^ ps.length := by exact_mod_cast Nat.pow_le_pow_right (n := 2) (by decide) z
    have e2 : (2 : Int) ^ 21 = 2097152 := by decide
    omega
  · exact z
theorem pri_few {n rest c : Int} {ps : List Int} (h : PrI n rest c ps) (hn : n ≤ 1000000) : ps.length ≤ 20 := by
  refine few (fun p hp => (h.pr p hp).two) (Int.le_refl _) ?_
  have h1 := prodI_pos (fun p hp => (h.pr p hp).two)
  have h2 := h.r
  have := Int.mul_le_mul_of_nonneg_left h2 (show 0 ≤ prodI ps by omega)
  have e := h.e
  omega
theorem cop_prime {p q : Int} (p0 : 0 < p) (hlt : p < q) (hq : PrimeI q) : Cop p q := fun d dp dq => by
  have d0 : d ≠ 0 := fun z => by rw [z] at dp; have := Int.zero_dvd.mp dp; omega
  by_cases h1 : d.natAbs = 1
  · exact Int.natAbs_dvd_natAbs.mp (by rw [h1]; decide)
  · exfalso
    have dp' : ((d.natAbs : Nat) : Int) ∣ p := Int.natAbs_dvd.mpr dp
    have dq' : ((d.natAbs : Nat) : Int) ∣ q := Int.natAbs_dvd.mpr dq
    have g2 : (2 : Int) ≤ (d.natAbs : Int) := by omega
    have gp := Int.le_of_dvd p0 dp'
    generalize ((d.natAbs : Nat) : Int) = g at *
    obtain ⟨c, hc⟩ := dq'
    by_cases hs : g * g ≤ q
    · exact hq.no g g2 hs ⟨c, hc⟩
    · have cg : c < g := by
        apply Classical.byContradiction
        intro z
        have := Int.mul_le_mul_of_nonneg_left (show g ≤ c by omega) (show 0 ≤ g by omega)
        omega
      have c2 : 2 ≤ c := by
        apply Classical.byContradiction
        intro z
        have : g * c ≤ g * 1 := Int.mul_le_mul_of_nonneg_left (show c ≤ 1 by omega) (show 0 ≤ g by omega)
        omega
      have cc : c * c ≤ q := by
        have := Int.mul_le_mul_of_nonneg_right (show c ≤ g by omega) (show 0 ≤ c by omega)
        omega
      exact hq.no c c2 cc ⟨g, by rw [hc, Int.mul_comm]⟩
theorem mem_of_dvd {p : Int} (p2 : 2 ≤ p) : ∀ {qs : List Int}, (∀ q ∈ qs, PrimeI q) → (∀ q ∈ qs, p ≤ q) → p ∣ prodI qs → p ∈ qs
  | [], _, _, hd => absurd hd (not_dvd_one p2)
  | q :: qs, hp, hl, hd => by
    by_cases e : p = q
    · rw [e]; exact List.mem_cons_self
    · have h1 := hl q List.mem_cons_self
      rw [prodI_cons] at hd
      have := (cop_prime (by omega) (by omega) (hp q List.mem_cons_self)).mul hd
      exact List.mem_cons_of_mem _ (mem_of_dvd p2 (fun r hr => hp r (List.mem_cons_of_mem _ hr)) (fun r hr => hl r (List.mem_cons_of_mem _ hr)) this)
theorem head_of {p : Int} (p2 : 2 ≤ p) {qs : List Int} (hp : ∀ q ∈ qs, PrimeI q) (hu : qs.Pairwise (· ≤ ·)) (hl : ∀ q ∈ qs, p ≤ q) (hd : p ∣ prodI qs) : ∃ rs, qs = p :: rs := by
  have m := mem_of_dvd p2 hp hl hd
  cases qs with
  | nil => cases m
  | cons q rs =>
    have h1 := hl q List.mem_cons_self
    rcases List.mem_cons.mp m with e | e
    · exact ⟨rs, by rw [e]⟩
    · have := (List.pairwise_cons.mp hu).1 p e
      have : q = p := by omega
      exact ⟨rs, by rw [this]⟩
theorem primes_one : ∀ {ps qs : List Int}, (∀ p ∈ ps, PrimeI p) → (∀ p ∈ qs, PrimeI p) → ps.Pairwise (· ≤ ·) → qs.Pairwise (· ≤ ·) → prodI ps = prodI qs → ps = qs
  | [], qs, _, hq, _, _, e => by
    have := prodI_ge fun q h => (hq q h).two
    have e1 : prodI ([] : List Int) = 1 := rfl
    rw [← e, e1] at this
    have : qs.length = 0 := by omega
    exact (List.eq_nil_of_length_eq_zero this).symm
  | p :: ps, [], hp, _, _, _, e => by
    have := prodI_ge fun q h => (hp q h).two
    have e1 : prodI ([] : List Int) = 1 := rfl
    rw [e, e1] at this
    simp only [List.length_cons] at this
    omega
  | p :: ps, q :: qs, hp, hq, up, uq, e => by
    have p2 := (hp p List.mem_cons_self).two
    have q2 := (hq q List.mem_cons_self).two
    have lp : ∀ r ∈ p :: ps, p ≤ r := fun r hr => by
      rcases List.mem_cons.mp hr with z | z
      · omega
      · exact (List.pairwise_cons.mp up).1 r z
    have lq : ∀ r ∈ q :: qs, q ≤ r := fun r hr => by
      rcases List.mem_cons.mp hr with z | z
      · omega
      · exact (List.pairwise_cons.mp uq).1 r z
    have pq : p = q := by
      rcases Int.le_total p q with z | z
      · obtain ⟨rs, er⟩ := head_of p2 hq uq (fun r hr => by have := lq r hr; omega) (by rw [← e, prodI_cons]; exact Int.dvd_mul_right ..)
        exact (List.cons.inj er).1.symm
      · obtain ⟨rs, er⟩ := head_of q2 hp up (fun r hr => by have := lp r hr; omega) (by rw [e, prodI_cons]; exact Int.dvd_mul_right ..)
        exact (List.cons.inj er).1
    subst pq
    rw [prodI_cons, prodI_cons] at e
    have e2 := Int.eq_of_mul_eq_mul_left (by omega) e
    rw [primes_one (fun r hr => hp r (List.mem_cons_of_mem _ hr)) (fun r hr => hq r (List.mem_cons_of_mem _ hr)) (List.pairwise_cons.mp up).2 (List.pairwise_cons.mp uq).2 e2]
theorem primes_uni {n : Int} {ps qs : List Int} (h : Primes n ps) (g : Primes n qs) : ps = qs := primes_one h.pr g.pr h.up g.up (by rw [h.e, g.e])
def hmT : Int → List Int → Int
  | _, [] => 1
  | a, q :: qs => (if q = a then q else q + 1) * hmT q qs
theorem hmT_pos : ∀ (a : Int) {qs : List Int}, (∀ q ∈ qs, 2 ≤ q) → 1 ≤ hmT a qs
  | _, [], _ => Int.le_refl 1
  | a, q :: qs, h => by
    have h1 := h q List.mem_cons_self
    have ih := hmT_pos q (qs := qs) fun r hr => h r (List.mem_cons_of_mem _ hr)
    unfold hmT
    have h2 : 1 ≤ (if q = a then q else q + 1) := by split <;> omega
    exact Int.le_trans h2 (by
      have := Int.mul_le_mul_of_nonneg_left ih (show 0 ≤ (if q = a then q else q + 1) by omega)
      omega)
theorem hmT_le : ∀ (a : Int) {qs : List Int}, (∀ q ∈ qs, 2 ≤ q) → hmT a qs ≤ prodI qs * prodI qs
  | _, [], _ => by show (1 : Int) ≤ 1 * 1; decide
  | a, q :: qs, h => by
    have h1 := h q List.mem_cons_self
    have ih := hmT_le q (qs := qs) fun r hr => h r (List.mem_cons_of_mem _ hr)
    have i0 := hmT_pos q (qs := qs) fun r hr => h r (List.mem_cons_of_mem _ hr)
    unfold hmT
    rw [prodI_cons]
    have h2 : (if q = a then q else q + 1) ≤ q * q := by
      have := Int.mul_le_mul_of_nonneg_right h1 (show 0 ≤ q by omega)
      split <;> omega
    have h3 : 0 ≤ (if q = a then q else q + 1) := by split <;> omega
    have := Int.mul_le_mul h2 ih (by omega) (Int.mul_nonneg (by omega) (by omega))
    have e : q * prodI qs * (q * prodI qs) = q * q * (prodI qs * prodI qs) := by grind
    omega
theorem hmT_other {a b : Int} : ∀ {qs : List Int}, (∀ q ∈ qs, q ≠ a) → (∀ q ∈ qs, q ≠ b) → hmT a qs = hmT b qs
  | [], _, _ => rfl
  | q :: qs, h, g => by
    unfold hmT
    rw [if_neg (h q List.mem_cons_self), if_neg (g q List.mem_cons_self)]
structure Du (m p : Int) (qs : List Int) : Prop where
  e : prodI qs = m
  pr : ∀ q ∈ qs, PrimeI q
  up : qs.Pairwise (· ≤ ·)
  le : ∀ q ∈ qs, p ≤ q
  od : ∀ q ∈ qs, q % 2 = 1
theorem Du.take {m p : Int} {qs : List Int} (h : Du m p qs) (p2 : 2 ≤ p) (hd : m.fmod p = 0) : ∃ rs, qs = p :: rs ∧ Du (m.fdiv p) p rs ∧ m.fdiv p < m ∧ 1 ≤ m.fdiv p := by
  have dv : p ∣ prodI qs := by rw [h.e]; exact Int.dvd_of_fmod_eq_zero hd
  obtain ⟨rs, rfl⟩ := head_of p2 h.pr h.up h.le dv
  have e := h.e
  rw [prodI_cons] at e
  have er : m.fdiv p = prodI rs := by rw [← e, Int.mul_fdiv_cancel_left _ (by omega)]
  have p1 := prodI_pos fun q hq => (h.pr q (List.mem_cons_of_mem _ hq)).two
  refine ⟨rs, rfl, ⟨er.symm, fun q hq => h.pr q (List.mem_cons_of_mem _ hq), (List.pairwise_cons.mp h.up).2, fun q hq => h.le q (List.mem_cons_of_mem _ hq), fun q hq => h.od q (List.mem_cons_of_mem _ hq)⟩, ?_, by omega⟩
  rw [er, ← e]
  have := Int.mul_le_mul_of_nonneg_right p2 (show 0 ≤ prodI rs by omega)
  omega
theorem mem_dvd : ∀ {qs : List Int} {q : Int}, q ∈ qs → q ∣ prodI qs
  | r :: rs, q, h => by
    rw [prodI_cons]
    rcases List.mem_cons.mp h with e | e
    · rw [e]; exact Int.dvd_mul_right ..
    · exact Int.dvd_mul_of_dvd_right (mem_dvd e)
theorem Du.skip {m p : Int} {qs : List Int} (h : Du m p qs) (po : p % 2 = 1) (hn : ¬ m.fmod p = 0) : Du m (p + 2) qs ∧ ∀ q ∈ qs, q ≠ p := by
  have ne : ∀ q ∈ qs, q ≠ p := fun q hq z => hn (by
    have : p ∣ m := by rw [← h.e, ← z]; exact mem_dvd hq
    obtain ⟨c, rfl⟩ := this
    exact Int.mul_fmod_right p c)
  refine ⟨⟨h.e, h.pr, h.up, fun q hq => ?_, h.od⟩, ne⟩
  have a := h.le q hq; have b := ne q hq; have c := h.od q hq
  omega
theorem Du.last {m p : Int} {qs : List Int} (h : Du m p qs) (p2 : 2 ≤ p) (m1 : 1 < m) (hp : m < p * p) : qs = [m] := by
  match qs, h with
  | [], h => have := h.e; have : m = 1 := by rw [← this]; rfl
             omega
  | [q], h => rw [← h.e, prodI_one]
  | q :: r :: rs, h =>
    exfalso
    have e := h.e
    rw [prodI_cons, prodI_cons] at e
    have a := h.le q (by simp); have b := h.le r (by simp)
    have c := prodI_pos fun x hx => (h.pr x (List.mem_cons_of_mem _ (List.mem_cons_of_mem _ hx))).two
    have d := Int.mul_le_mul a b (by omega) (by omega)
    have f := Int.mul_le_mul_of_nonneg_left c (show 0 ≤ q * r by have := Int.mul_nonneg (show 0 ≤ q by omega) (show 0 ≤ r by omega); omega)
    have : q * (r * prodI rs) = q * r * prodI rs := by rw [Int.mul_assoc]
    omega
theorem Du.none {m p : Int} {qs : List Int} (h : Du m p qs) (m1 : ¬ 1 < m) : qs = [] := by
  have := prodI_ge fun q hq => (h.pr q hq).two
  rw [h.e] at this
  have : qs.length = 0 := by omega
  exact List.eq_nil_of_length_eq_zero this
def beside (m : Nat) : Nat := ((List.range m).filter fun (k : Nat) => decide ((Int.gcd (m : Int) (k : Int) : Int) = 1)).length
def isT (m x y z : Int) : Bool := decide ((x * x + y * y + z * z).fmod m = 0) && decide ((Int.gcd (Int.gcd (Int.gcd m x : Int) y : Int) z : Int) = 1)
def c3 (m x y : Int) : Nat → Int
  | 0 => 0
  | k + 1 => c3 m x y k + if isT m x y k then 1 else 0
def c2 (m : Nat) (x : Int) : Nat → Int
  | 0 => 0
  | k + 1 => c2 m x k + c3 m x k m
def c1 (m : Nat) : Nat → Int
  | 0 => 0
  | k + 1 => c1 m k + c2 m k m
def top (i : Nat) : Stmt := PySem.Challenge.pw_turngrid_k48_how_many.main.body.getD i (.Pass ⟨0, 0, 0, 0⟩)
abbrev s_primes_of : Stmt := top 1
abbrev s_how_many : Stmt := top 3
abbrev s_law_whole : Stmt := top 6
abbrev s_law_euclid : Stmt := top 7
abbrev s_law_threes : Stmt := top 9
abbrev s_law_cell_at : Stmt := top 5
abbrev s_law_due : Stmt := top 8
abbrev s_law : Stmt := top 10
theorem sc_primes_of : FnScope ["n", "primes", "rest", "candidate"] ["n"] (defScope s_primes_of) := ⟨rfl, rfl, rfl, by decide +kernel, rfl, by decide +kernel, by decide +kernel⟩
theorem sc_how_many : FnScope ["m", "made", "ahead", "prime"] ["m"] (defScope s_how_many) := ⟨rfl, rfl, rfl, by decide +kernel, rfl, by decide +kernel, by decide +kernel⟩
theorem sc_law_whole : FnScope ["found"] ["found"] (defScope s_law_whole) := ⟨rfl, rfl, rfl, by decide +kernel, rfl, by decide +kernel, by decide +kernel⟩
theorem sc_law_euclid : FnScope ["one", "other"] ["one", "other"] (defScope s_law_euclid) := ⟨rfl, rfl, rfl, by decide +kernel, rfl, by decide +kernel, by decide +kernel⟩
theorem sc_law_threes : FnScope ["m", "many", "x", "y", "z"] ["m"] (defScope s_law_threes) := ⟨rfl, rfl, rfl, by decide +kernel, rfl, by decide +kernel, by decide +kernel⟩
theorem sc_law_cell_at : FnScope ["script", "k"] ["script", "k"] (defScope s_law_cell_at) := ⟨rfl, rfl, rfl, by decide +kernel, rfl, by decide +kernel, by decide +kernel⟩
theorem sc_law_due : FnScope ["m", "total", "p"] ["m"] (defScope s_law_due) := ⟨rfl, rfl, rfl, by decide +kernel, rfl, by decide +kernel, by decide +kernel⟩
theorem sc_law : FnScope ["script", "m", "beside", "found", "some", "cell", "n"] ["script"] (defScope s_law) := ⟨rfl, rfl, rfl, by decide +kernel, rfl, by decide +kernel, by decide +kernel⟩
structure Ad where
  a_primes_of : Addr
  d_primes_of : FuncData
  a_how_many : Addr
  d_how_many : FuncData
  a_law_whole : Addr
  d_law_whole : FuncData
  a_law_euclid : Addr
  d_law_euclid : FuncData
  a_law_threes : Addr
  d_law_threes : FuncData
  a_law_cell_at : Addr
  d_law_cell_at : FuncData
  a_law_due : Addr
  d_law_due : FuncData
  a_law : Addr
  d_law : FuncData
structure Txt (K : PySem.W.Frag) (mg : Str → Option Value) (t : Ad) : Prop where
  F_primes_of : Fun K "primes_of" "primes_of" s_primes_of t.a_primes_of t.d_primes_of
  m_primes_of : mg "primes_of" = some (.ref t.a_primes_of)
  b_primes_of : Binds K t.d_primes_of ["n"] []
  F_how_many : Fun K "how_many" "how_many" s_how_many t.a_how_many t.d_how_many
  m_how_many : mg "how_many" = some (.ref t.a_how_many)
  b_how_many : Binds K t.d_how_many ["m"] []
  F_law_whole : Fun K "_law_whole" "_law_whole" s_law_whole t.a_law_whole t.d_law_whole
  m_law_whole : mg "_law_whole" = some (.ref t.a_law_whole)
  b_law_whole : Binds K t.d_law_whole ["found"] []
  F_law_euclid : Fun K "_law_euclid" "_law_euclid" s_law_euclid t.a_law_euclid t.d_law_euclid
  m_law_euclid : mg "_law_euclid" = some (.ref t.a_law_euclid)
  b_law_euclid : Binds K t.d_law_euclid ["one", "other"] []
  F_law_threes : Fun K "_law_threes" "_law_threes" s_law_threes t.a_law_threes t.d_law_threes
  m_law_threes : mg "_law_threes" = some (.ref t.a_law_threes)
  b_law_threes : Binds K t.d_law_threes ["m"] []
  F_law_cell_at : Fun K "_law_cell_at" "_law_cell_at" s_law_cell_at t.a_law_cell_at t.d_law_cell_at
  m_law_cell_at : mg "_law_cell_at" = some (.ref t.a_law_cell_at)
  b_law_cell_at : Binds K t.d_law_cell_at ["script", "k"] []
  F_law_due : Fun K "_law_due" "_law_due" s_law_due t.a_law_due t.d_law_due
  m_law_due : mg "_law_due" = some (.ref t.a_law_due)
  b_law_due : Binds K t.d_law_due ["m"] []
  F_law : Fun K "law" "law" s_law t.a_law t.d_law
  m_law : mg "law" = some (.ref t.a_law)
  b_law : Binds K t.d_law ["script"] []
  z_abs : mg "abs" = none
  z_bool : mg "bool" = none
  z_int : mg "int" = none
  z_isinstance : mg "isinstance" = none
  z_len : mg "len" = none
  z_range : mg "range" = none
theorem loc_of {sc : Scope} {x : Str} (h : (sc.names.lookup x == some .local || sc.names.lookup x == some .cell) = true) : Loc sc x := by
  simp only [Bool.or_eq_true, beq_iff_eq] at h
  exact h
def C_primes_of : Con := fun ds Φ => ∃ n : Int, ds = [.int n] ∧ 1 ≤ n ∧ n ≤ 1000000 ∧ ∀ ps : List Int, Primes n ps → Φ (.lst (ps.map .int))
theorem mono_primes_of : Mono C_primes_of := fun ds Φ Ψ mo ⟨n, a, b, c, h⟩ => ⟨n, a, b, c, fun ps h1 => mo _ (h ps h1)⟩
def b_primes_of_L2_1 : S3 :=
  (sSet 2 (dOp (dI CD fun i j => .int (i.fdiv j)) (dVar 2) (dVar 3)))
abbrev b_primes_of_L2 : S3 :=
  (sSeq (sApp 1 (dVar 3))
  b_primes_of_L2_1)
def b_primes_of_L1_1 : S3 :=
  (sSet 3 (dOp (dI0 fun i j => .int (i + j)) (dVar 3) (dC (.int 1))))
abbrev b_primes_of_L1 : S3 :=
  (sSeq (sWhile (dT (dOp dEq (dOp (dI (fun _ j => j ≠ 0) fun i j => .int (i.fmod j)) (dVar 2) (dVar 3)) (dC (.int 0))))
  b_primes_of_L2)
  b_primes_of_L1_1)
def b_primes_of_5 : S3 :=
  (sFreeze 1 (sRet (dVar 1)))
def b_primes_of_4 : S3 :=
  (sSeq (sIf (dT (dOp (dI0 fun i j => .bl (decide (j < i))) (dVar 2) (dC (.int 1))))
  (sApp 1 (dVar 2))
  sNext)
  b_primes_of_5)
def b_primes_of_3 : S3 :=
  (sSeq (sWhile (dT (dOp (dI0 fun i j => .bl (decide (i ≤ j))) (dOp (dI IntMulOk fun i j => .int (i * j)) (dVar 3) (dVar 3)) (dVar 2)))
  b_primes_of_L1)
  b_primes_of_4)
def b_primes_of_2 : S3 :=
  (sSeq (sSet 3 (dC (.int 2)))
  b_primes_of_3)
def b_primes_of_1 : S3 :=
  (sSeq (sSet 2 (dVar 0))
  b_primes_of_2)
abbrev b_primes_of : S3 :=
  (sSeq (sOwn 1 (fLst aNil))
  b_primes_of_1)
theorem rd_primes_of : ∀ (ds : List D) (Φ : D → Prop), ds.length = 1 → C_primes_of ds Φ → b_primes_of (finD Φ) (startD 4 ds) := by
  rintro ds Φ hl ⟨n, rfl, h1, h2, h⟩
  refine ⟨sl_le 0 rfl (by decide), ?_⟩
  refine while_inv (fun ρ => ∃ (rest c : Int) (ps : List Int), ρ = [.val (.int n), .own (ps.map .int), .val (.int rest), .val (.int c)] ∧ c ≤ 1001 ∧ PrI n rest c ps)
    (fun ρ => match ρ with | [_, _, _, .val (.int c)] => (1002 - c).toNat | _ => 0) ?_ ?_
  · exact ⟨n, 2, [], rfl, by decide, ⟨by simp [prodI], h1, by decide, (fun d a b => by omega), List.Pairwise.nil, (fun p hp => nomatch hp), (fun p hp => nomatch hp)⟩⟩
  · rintro ρ ⟨rest, c, ps, rfl, hc, i⟩
    have c2 := i.c2
    have r1 := i.r
    refine ⟨mulOk (bd20 (by omega) (by omega)) (bd20 (by omega) (by omega)) (by decide), ?_⟩
    refine tst (fun ht => ?_) (fun ht => ?_)
    · have ht : c * c ≤ rest := of_decide_eq_true ht
      have hc' := c1001 c2 ht (Int.le_trans (pri_rest_le i) h2)
      refine while_inv (fun ρ => ∃ (rest : Int) (ps : List Int), ρ = [.val (.int n), .own (ps.map .int), .val (.int rest), .val (.int c)] ∧ PrI n rest c ps)
        (fun ρ => match ρ with | [_, _, .val (.int r), _] => r.toNat | _ => 0) ⟨rest, ps, rfl, i⟩ ?_
      rintro ρ ⟨rest, ps, rfl, i⟩
      have c0 : c ≠ 0 := by omega
      have r1 := i.r
      refine ⟨c0, ?_⟩
      refine tst (fun hz => ?_) (fun hz => ?_)
      · have hz : rest.fmod c = 0 := of_decide_eq_true hz
        obtain ⟨i', lt⟩ := i.take hz
        refine ⟨?_, cd_of c0 (bd20 (by omega) (by omega)) (by decide), _, ?_, rfl, rest.fdiv c, ps ++ [c], ?_, i'⟩
        · rw [List.length_map]; exact small1000 (by have := pri_few i h2; omega)
        · show (rest.fdiv c).toNat < rest.toNat
          omega
        · rw [List.map_append]; rfl
      · have hz : ¬ rest.fmod c = 0 := of_decide_eq_false hz
        refine ⟨_, ?_, rfl, rest, c + 1, ps, rfl, by omega, i.next hz⟩
        show (1002 - (c + 1)).toNat < (1002 - c).toNat
        omega
    · have ht : ¬ c * c ≤ rest := of_decide_eq_false ht
      have dn := i.done ht
      refine tst (fun hz => ?_) (fun hz => ?_)
      · have hz : 1 < rest := of_decide_eq_true hz
        rw [if_pos hz] at dn
        refine ⟨?_, ?_⟩
        · rw [List.length_map]; exact small1000 (by have := pri_few i h2; omega)
        · have := h _ dn
          rw [List.map_append] at this
          exact this
      · have hz : ¬ 1 < rest := of_decide_eq_false hz
        rw [if_neg hz] at dn
        exact h _ dn
theorem ok_primes_of {P : Program} {w : World} {K : PySem.W.Frag} {mg : Str → Option Value} {base : Heap} {t : Ad} (T : Txt K mg t) : FnOk P w K mg base CX0 1 t.a_primes_of t.d_primes_of ["n"] (spD K 1 C_primes_of) := by
  have sc := sc_primes_of
  refine fn_ok (k := 0) T.F_primes_of sc_primes_of (fun cdv A outer s H E hr => ⟨b_primes_of, (psd_cons (psd_own (i := 1) sc.nd rfl (loc_of rfl) (pf_lst pad_nil))
  (psd_cons (psd_set (i := 2) sc.nd rfl (loc_of rfl) (pd_var (pv 0)))
  (psd_cons (psd_set (i := 3) sc.nd rfl (loc_of rfl) pd_int)
  (psd_cons (psd_while PassesOwn.never (pb_cmp o_le (pd_op o_mul (pd_var (pv 3)) (pd_var (pv 3))) (pd_var (pv 2)) (nomark _))
  (psd_cons (psd_while PassesOwn.never (pb_cmp o_eq (pd_op o_mod (pd_var (pv 2)) (pd_var (pv 3))) pd_int (nomark _))
  (psd_cons (psd_append (pv 1) (pd_var (pv 3)))
  (psd_one (psd_set (i := 2) sc.nd rfl (loc_of rfl) (pd_op o_fdiv (pd_var (pv 2)) (pd_var (pv 3)))))))
  (psd_one (psd_set (i := 3) sc.nd rfl (loc_of rfl) (pd_op o_add (pd_var (pv 3)) pd_int)))))
  (psd_cons (psd_if (pb_cmp o_gt (pd_var (pv 2)) pd_int (nomark _))
  (psd_one (psd_append (pv 1) (pd_var (pv 2))))
  psd_nil)
  (psd_freeze 1 (psd_one (psd_ret (pd_var (pv 1)))))))))), rd_primes_of⟩)
def C_how_many : Con := fun ds Φ => ∃ (n : Int), ds = [.int n] ∧ 1 ≤ n ∧ n ≤ 1000000 ∧ (n % 2 = 0 → Φ (.int 0)) ∧ (n % 2 = 1 → ∀ ps : List Int, Primes n ps → hmT 1 ps ≤ 1000000 * 1000000 → Φ (.int (hmT 1 ps)))
theorem mono_how_many : Mono C_how_many := fun ds Φ Ψ mo ⟨n, a, b, c, e, h⟩ => ⟨n, a, b, c, fun z => mo _ (e z), fun z ps h1 h2 => mo _ (h z ps h1 h2)⟩
def b_how_many_L1_1 : S3 :=
  (sSet 2 (dVar 3))
abbrev b_how_many_L1 : S3 :=
  (sSeq (sSet 1 (dOp (dI IntMulOk fun i j => .int (i * j)) (dVar 1) (dIf (dT (dOp dEq (dVar 3) (dVar 2))) (dVar 3) (dOp (dI0 fun i j => .int (i + j)) (dVar 3) (dC (.int 1))))))
  b_how_many_L1_1)
def b_how_many_4 : S3 :=
  (sRet (dVar 1))
def b_how_many_3 : S3 :=
  (sSeq (sFor (iLT (dCall 1 C_primes_of (aCons (dVar 0) aNil))) (gN 3)
  b_how_many_L1)
  b_how_many_4)
def b_how_many_2 : S3 :=
  (sSeq (sSet 2 (dC (.int 1)))
  b_how_many_3)
def b_how_many_1 : S3 :=
  (sSeq (sSet 1 (dC (.int 1)))
  b_how_many_2)
abbrev b_how_many : S3 :=
  (sSeq (sIf (dT (dOp dEq (dOp (dI (fun _ j => j ≠ 0) fun i j => .int (i.fmod j)) (dVar 0) (dC (.int 2))) (dC (.int 0))))
  (sRet (dC (.int 0)))
  sNext)
  b_how_many_1)
theorem rd_how_many : ∀ (ds : List D) (Φ : D → Prop), ds.length = 1 → C_how_many ds Φ → b_how_many (finD Φ) (startD 4 ds) := by
  rintro ds Φ hl ⟨n, rfl, n1, n2, he, ho⟩
  refine ⟨show (2 : Int) ≠ 0 by decide, tst (fun hc => ?_) (fun hc => ?_)⟩
  · have hc : n.fmod 2 = 0 := of_decide_eq_true hc
    rw [fmod_pos (by decide)] at hc
    exact he hc
  · have hc : ¬ n.fmod 2 = 0 := of_decide_eq_false hc
    rw [fmod_pos (by decide)] at hc
    have ho := ho (by omega)
    show b_how_many_3 (finD Φ) [.val (.int n), .val (.int 1), .val (.int 1), .un]
    refine ⟨rfl, n, rfl, n1, n2, fun qs hq => ?_⟩
    have hle := hmT_le 1 fun q h => (hq.pr q h).two
    rw [hq.e] at hle
    have hF : hmT 1 qs ≤ 1000000 * 1000000 := Int.le_trans hle (Int.mul_le_mul n2 n2 (by omega) (by decide))
    have ho := ho qs hq hF
    have loop : ∀ (rs : List Int) (made ahead : Int) (s : Sl), (∀ r ∈ rs, r ∈ qs) → 1 ≤ made → made * hmT ahead rs = hmT 1 qs → FOR (gN 3) b_how_many_L1 (rs.map D.int) (thenS b_how_many_4 (finD Φ)) [.val (.int n), .val (.int made), .val (.int ahead), s] := by
      intro rs
      induction rs with
      | nil =>
        intro made ahead s hm h1 e
        have e : made = hmT 1 qs := by rw [← e]; show _ = made * 1; omega
        show Φ (.int made)
        rw [e]; exact ho
      | cons r rs ih =>
        intro made ahead s hm h1 e
        have r2 := (hq.pr r (hm r List.mem_cons_self)).two
        have rest := hmT_pos r (qs := rs) fun x hx => (hq.pr x (hm x (List.mem_cons_of_mem _ hx))).two
        have e' : made * (if r = ahead then r else r + 1) * hmT r rs = hmT 1 qs := by rw [← e]; show _ = made * ((if r = ahead then r else r + 1) * hmT r rs); rw [Int.mul_assoc]
        have f1 : 1 ≤ (if r = ahead then r else r + 1) := by split <;> omega
        have mf : 1 ≤ made * (if r = ahead then r else r + 1) := by
          have := Int.mul_le_mul_of_nonneg_left f1 (show 0 ≤ made by omega); omega
        have up1 : made * (if r = ahead then r else r + 1) ≤ hmT 1 qs := by
          rw [← e']
          have := Int.mul_le_mul_of_nonneg_left rest (show 0 ≤ made * (if r = ahead then r else r + 1) by omega)
          omega
        have bm : Bd 41 made := bd_of (1000000 * 1000000) (by
          have := Int.mul_le_mul_of_nonneg_left f1 (show 0 ≤ made by omega)
          omega) (by decide)
        have bf : Bd 41 (if r = ahead then r else r + 1) := bd_of (1000000 * 1000000) (by
          have := Int.mul_le_mul_of_nonneg_right h1 (show 0 ≤ (if r = ahead then r else r + 1) by omega)
          omega) (by decide)
        have mo := mulOk bm bf (by decide)
        refine FOR_cons ?_
        by_cases hra : r = ahead
        · rw [if_pos hra] at e' mf mo
          refine tT (decide_eq_true hra) ⟨mo, ?_⟩
          exact ih (made * r) r _ (fun x hx => hm x (List.mem_cons_of_mem _ hx)) mf e'
        · rw [if_neg hra] at e' mf mo
          refine tF (decide_eq_false hra) ⟨mo, ?_⟩
          exact ih (made * (r + 1)) r _ (fun x hx => hm x (List.mem_cons_of_mem _ hx)) mf e'
    exact loop qs 1 1 .un (fun r hr => hr) (by decide) (by rw [Int.one_mul])
theorem ok_how_many {P : Program} {w : World} {K : PySem.W.Frag} {mg : Str → Option Value} {base : Heap} {t : Ad} (T : Txt K mg t) : FnOk P w K mg base CX0 2 t.a_how_many t.d_how_many ["m"] (spD K 1 C_how_many) := by
  have sc := sc_how_many
  refine fn_ok (k := 1) T.F_how_many sc_how_many (fun cdv A outer s H E hr => ⟨b_how_many, (psd_cons (psd_if (pb_cmp o_eq (pd_op o_mod (pd_var (pv 0)) pd_int) pd_int (nomark _))
  (psd_one (psd_ret pd_int))
  psd_nil)
  (psd_cons (psd_set (i := 1) sc.nd rfl (loc_of rfl) pd_int)
  (psd_cons (psd_set (i := 2) sc.nd rfl (loc_of rfl) pd_int)
  (psd_cons (psd_for PassesOwn.never rfl (pid_seq (pd_call (ok_primes_of T) mono_primes_of (hr.mono (by decide)) rfl T.m_primes_of T.F_primes_of.kp T.b_primes_of (pad_cons (pd_var (pv 0)) pad_nil))) (pgd_name (i := 3) sc.nd rfl (loc_of rfl))
  (psd_cons (psd_set (i := 1) sc.nd rfl (loc_of rfl) (pd_op o_mul (pd_var (pv 1)) (pd_ifExp (pb_cmp o_eq (pd_var (pv 3)) (pd_var (pv 2)) (nomark _)) (pd_var (pv 3)) (pd_op o_add (pd_var (pv 3)) pd_int))))
  (psd_one (psd_set (i := 2) sc.nd rfl (loc_of rfl) (pd_var (pv 3))))))
  (psd_one (psd_ret (pd_var (pv 1)))))))), rd_how_many⟩)
def C_law_whole : Con := fun ds Φ => ∃ d, ds = [d] ∧ Φ (.bl (whole d))
theorem mono_law_whole : Mono C_law_whole := fun ds Φ Ψ m ⟨d, a, h⟩ => ⟨d, a, m _ h⟩
abbrev b_law_whole : S3 :=
  (sRet (dAnd (dIsT isInt (dVar 0)) (dNot (dIsT isBool (dVar 0)))))
theorem rd_law_whole : ∀ (ds : List D) (Φ : D → Prop), ds.length = 1 → C_law_whole ds Φ → b_law_whole (finD Φ) (startD 1 ds) := by
  rintro ds Φ hl ⟨d, rfl, h⟩
  cases d <;> exact h
theorem ok_law_whole {P : Program} {w : World} {K : PySem.W.Frag} {mg : Str → Option Value} {base : Heap} {t : Ad} (T : Txt K mg t) : FnOk P w K mg base CX0 1 t.a_law_whole t.d_law_whole ["found"] (spD K 1 C_law_whole) := by
  have sc := sc_law_whole
  refine fn_ok (k := 0) T.F_law_whole sc_law_whole (fun cdv A outer s H E hr => ⟨b_law_whole, (psd_one (psd_ret (pd_and (pd_isinst ty_int rfl T.z_isinstance bt_isinstance rfl T.z_int bt_int (pd_var (pv 0))) (pd_one (pd_not (pd_isinst ty_bool rfl T.z_isinstance bt_isinstance rfl T.z_bool bt_bool (pd_var (pv 0)))))))), rd_law_whole⟩)
def C_law_euclid : Con := fun ds Φ => ∃ a b : Int, ds = [.int a, .int b] ∧ Φ (.int (Int.gcd a b : Int))
theorem mono_law_euclid : Mono C_law_euclid := fun ds Φ Ψ mo ⟨a, b, e, h⟩ => ⟨a, b, e, mo _ h⟩
abbrev b_law_euclid_L1 : S3 :=
  (sPar 0 1 (aCons (dVar 1) (aCons (dOp (dI (fun _ j => j ≠ 0) fun i j => .int (i.fmod j)) (dVar 0) (dVar 1)) aNil)))
def b_law_euclid_3 : S3 :=
  (sRet (dVar 0))
def b_law_euclid_2 : S3 :=
  (sSeq (sWhile (dT (dOp (dI0 fun i j => .bl (decide (j < i))) (dVar 1) (dC (.int 0))))
  b_law_euclid_L1)
  b_law_euclid_3)
def b_law_euclid_1 : S3 :=
  (sSeq (sSet 1 (dB cAbs (aCons (dVar 1) aNil)))
  b_law_euclid_2)
abbrev b_law_euclid : S3 :=
  (sSeq (sSet 0 (dB cAbs (aCons (dVar 0) aNil)))
  b_law_euclid_1)
theorem rd_law_euclid : ∀ (ds : List D) (Φ : D → Prop), ds.length = 2 → C_law_euclid ds Φ → b_law_euclid (finD Φ) (startD 2 ds) := by
  rintro ds Φ hl ⟨a, b, rfl, h⟩
  refine while_inv (fun ρ => ∃ (x y : Int), ρ = [.val (.int x), .val (.int y)] ∧ 0 ≤ x ∧ 0 ≤ y ∧ Int.gcd x y = Int.gcd a b) (fun ρ => match ρ with | [_, .val (.int y)] => y.natAbs | _ => 0) ⟨a.natAbs, b.natAbs, rfl, by omega, by omega, by simp [Int.gcd]⟩ ?_
  rintro ρ ⟨x, y, rfl, hx, hy, e⟩
  refine tst (fun hc => ?_) (fun hc => ?_)
  · have hy0 : 0 < y := of_decide_eq_true hc
    have hy1 : y ≠ 0 := by omega
    refine ⟨hy1, _, ?_, rfl, y, x.fmod y, rfl, hy, Int.fmod_nonneg_of_pos x hy0, by rw [gcd_step, e]⟩
    show (x.fmod y).natAbs < y.natAbs
    exact fmod_lt hy1
  · have hy0 : ¬ 0 < y := of_decide_eq_false hc
    have hy1 : y = 0 := by omega
    subst hy1
    have e2 : (Int.gcd a b : Int) = x := by rw [← e]; simp; omega
    rw [e2] at h
    exact h
theorem ok_law_euclid {P : Program} {w : World} {K : PySem.W.Frag} {mg : Str → Option Value} {base : Heap} {t : Ad} (T : Txt K mg t) : FnOk P w K mg base CX0 1 t.a_law_euclid t.d_law_euclid ["one", "other"] (spD K 2 C_law_euclid) := by
  have sc := sc_law_euclid
  refine fn_ok (k := 0) T.F_law_euclid sc_law_euclid (fun cdv A outer s H E hr => ⟨b_law_euclid, (psd_cons (psd_set (i := 0) sc.nd rfl (loc_of rfl) (pd_callB b_abs rfl T.z_abs bt_abs (pad_cons (pd_var (pv 0)) pad_nil)))
  (psd_cons (psd_set (i := 1) sc.nd rfl (loc_of rfl) (pd_callB b_abs rfl T.z_abs bt_abs (pad_cons (pd_var (pv 1)) pad_nil)))
  (psd_cons (psd_while PassesOwn.never (pb_cmp o_gt (pd_var (pv 1)) pd_int (nomark _))
  (psd_one (psd_par (i := 0) (j := 1) rfl sc.nd rfl rfl (by decide) rfl rfl (pad_cons (pd_var (pv 1)) (pad_cons (pd_op o_mod (pd_var (pv 0)) (pd_var (pv 1))) pad_nil)) (by rfl))))
  (psd_one (psd_ret (pd_var (pv 0))))))), rd_law_euclid⟩)
def C_law_threes : Con := fun ds Φ => ∃ (m : Nat), ds = [.int m] ∧ 0 < m ∧ m ≤ 100 ∧ Φ (.int (c1 m m))
theorem mono_law_threes : Mono C_law_threes := fun ds Φ Ψ mo ⟨n, a, b, c, h⟩ => ⟨n, a, b, c, mo _ h⟩
theorem ups_at0 {n : Nat} {pre post : List D} {d : D} (h : pre ++ d :: post = ups 0 n) : d = .int ((pre.length : Nat) : Int) ∧ pre.length < n := by
  have hlen : pre.length < (ups 0 n).length := by rw [← h]; simp
  rw [ups_length] at hlen
  have e1 : (ups 0 n)[pre.length]? = some d := by rw [← h]; simp
  simp only [ups, List.getElem?_map, List.getElem?_range hlen] at e1
  refine ⟨?_, hlen⟩
  have := (Option.some.inj e1).symm
  rw [this]
  exact congrArg D.int (Int.zero_add _)
abbrev b_law_threes_L3 : S3 :=
  (sIf (dT (dOp dEq (dOp (dI (fun _ j => j ≠ 0) fun i j => .int (i.fmod j)) (dOp (dI0 fun i j => .int (i + j)) (dOp (dI0 fun i j => .int (i + j)) (dOp (dI IntMulOk fun i j => .int (i * j)) (dVar 2) (dVar 2)) (dOp (dI IntMulOk fun i j => .int (i * j)) (dVar 3) (dVar 3))) (dOp (dI IntMulOk fun i j => .int (i * j)) (dVar 4) (dVar 4))) (dVar 0)) (dC (.int 0))))
  (sIf (dT (dOp dEq (dCall 2 C_law_euclid (aCons (dCall 2 C_law_euclid (aCons (dCall 2 C_law_euclid (aCons (dVar 0) (aCons (dVar 2) aNil))) (aCons (dVar 3) aNil))) (aCons (dVar 4) aNil))) (dC (.int 1))))
  (sSet 1 (dOp (dI0 fun i j => .int (i + j)) (dVar 1) (dC (.int 1))))
  sNext)
  sNext)
abbrev b_law_threes_L2 : S3 :=
  (sFor (iR1 (aCons (dVar 0) aNil)) (gN 4)
  b_law_threes_L3)
abbrev b_law_threes_L1 : S3 :=
  (sFor (iR1 (aCons (dVar 0) aNil)) (gN 3)
  b_law_threes_L2)
def b_law_threes_2 : S3 :=
  (sRet (dVar 1))
def b_law_threes_1 : S3 :=
  (sSeq (sFor (iR1 (aCons (dVar 0) aNil)) (gN 2)
  b_law_threes_L1)
  b_law_threes_2)
abbrev b_law_threes : S3 :=
  (sSeq (sSet 1 (dC (.int 0)))
  b_law_threes_1)
theorem rd_law_threes : ∀ (ds : List D) (Φ : D → Prop), ds.length = 1 → C_law_threes ds Φ → b_law_threes (finD Φ) (startD 5 ds) := by
  rintro ds Φ hl ⟨m, rfl, m0, m1, h⟩
  have c0 : (-(2 ^ 62) : Int) ≤ m := by omega
  have c9 : (m : Int) < 2 ^ 62 := by omega
  have mz : (m : Int) ≠ 0 := by omega
  have tm : ((m : Int)).toNat = m := by omega
  have bx : ∀ {x : Nat}, x < m → Bd 10 (x : Int) := fun hx => bd_of 100 (by omega) (by decide)
  have sq : ∀ {x : Nat}, x < m → IntMulOk (x : Int) (x : Int) := fun hx => mulOk (bx hx) (bx hx) (by decide)
  refine ⟨c0, c9, ?_⟩
  show FOR (gN 2) b_law_threes_L1 (ups 0 ((m : Int)).toNat) (thenS b_law_threes_2 (finD Φ)) [.val (.int m), .val (.int 0), .un, .un, .un]
  rw [tm]
  refine FOR_inv (fun pre post ρ => pre ++ post = ups 0 m ∧ ∃ (s2 s3 s4 : Sl), ρ = [.val (.int m), .val (.int (c1 m pre.length)), s2, s3, s4]) ?_ ?_ _ [] _ ⟨rfl, _, _, _, rfl⟩
  · rintro pre d post ρ ⟨hall, s2, s3, s4, rfl⟩ k hk
    obtain ⟨rfl, hx⟩ := ups_at0 hall
    have hall' : (pre ++ [D.int ((pre.length : Nat) : Int)]) ++ post = ups 0 m := by rw [← hall]; simp
    have l1 : (pre ++ [D.int ((pre.length : Nat) : Int)]).length = pre.length + 1 := by simp
    generalize pre.length = x at *
    refine ⟨c0, c9, ?_⟩
    show FOR (gN 3) b_law_threes_L2 (ups 0 ((m : Int)).toNat) (loopS k (thenS b_law_threes_2 (finD Φ))) [.val (.int m), .val (.int (c1 m x)), .val (.int x), s3, s4]
    rw [tm]
    refine FOR_inv (fun pre post ρ => pre ++ post = ups 0 m ∧ ∃ (s3 s4 : Sl), ρ = [.val (.int m), .val (.int (c1 m x + c2 m x pre.length)), .val (.int x), s3, s4]) ?_ ?_ _ [] _ ⟨rfl, _, _, by show _ = [Sl.val (D.int m), .val (.int (c1 m x + 0)), _, _, _]; rw [Int.add_zero]⟩
    · rintro pre d post ρ ⟨hall, s3, s4, rfl⟩ k2 hk2
      obtain ⟨rfl, hy⟩ := ups_at0 hall
      have hall2 : (pre ++ [D.int ((pre.length : Nat) : Int)]) ++ post = ups 0 m := by rw [← hall]; simp
      have l2 : (pre ++ [D.int ((pre.length : Nat) : Int)]).length = pre.length + 1 := by simp
      generalize pre.length = y at *
      refine ⟨c0, c9, ?_⟩
      show FOR (gN 4) b_law_threes_L3 (ups 0 ((m : Int)).toNat) (loopS k2 (loopS k (thenS b_law_threes_2 (finD Φ)))) [.val (.int m), .val (.int (c1 m x + c2 m x y)), .val (.int x), .val (.int y), s4]
      rw [tm]
      refine FOR_inv (fun pre post ρ => pre ++ post = ups 0 m ∧ ∃ (s4 : Sl), ρ = [.val (.int m), .val (.int (c1 m x + c2 m x y + c3 m x y pre.length)), .val (.int x), .val (.int y), s4]) ?_ ?_ _ [] _ ⟨rfl, _, by show _ = [Sl.val (D.int m), .val (.int (c1 m x + c2 m x y + 0)), _, _, _]; rw [Int.add_zero]⟩
      · rintro pre d post ρ ⟨hall, s4, rfl⟩ k3 hk3
        obtain ⟨rfl, hz⟩ := ups_at0 hall
        have hall3 : (pre ++ [D.int ((pre.length : Nat) : Int)]) ++ post = ups 0 m := by rw [← hall]; simp
        have l3 : (pre ++ [D.int ((pre.length : Nat) : Int)]).length = pre.length + 1 := by simp
        generalize pre.length = z at *
        have fin : ∀ v : Int, v = c1 m x + c2 m x y + c3 m x y (z + 1) → k3 (loopS k2 (loopS k (thenS b_law_threes_2 (finD Φ)))) [.val (.int m), .val (.int v), .val (.int x), .val (.int y), .val (.int z)] := fun v e => hk3 _ ⟨hall3, .val (.int z), by rw [l3, e]⟩
        have e3 : c3 m x y (z + 1) = c3 m x y z + if isT m x y z then 1 else 0 := rfl
        refine ⟨sq hx, sq hy, sq hz, mz, tst (fun h1 => ?_) (fun h1 => ?_)⟩
        · have h1 : decide (((x : Int) * x + y * y + z * z).fmod m = 0) = true := h1
          refine ⟨rfl, m, x, rfl, rfl, _, y, rfl, rfl, _, z, rfl, tst (fun h2 => ?_) (fun h2 => ?_)⟩
          · have h2 : decide ((Int.gcd (Int.gcd (Int.gcd m x : Int) y : Int) z : Int) = 1) = true := h2
            refine fin _ ?_
            rw [e3, show isT m x y z = true by unfold isT; rw [h1, h2]; rfl, if_pos rfl]; omega
          · have h2 : decide ((Int.gcd (Int.gcd (Int.gcd m x : Int) y : Int) z : Int) = 1) = false := h2
            refine fin _ ?_
            rw [e3, show isT m x y z = false by unfold isT; rw [h1, h2]; rfl, if_neg Bool.false_ne_true]; omega
        · have h1 : decide (((x : Int) * x + y * y + z * z).fmod m = 0) = false := h1
          refine fin _ ?_
          rw [e3, show isT m x y z = false by unfold isT; rw [h1]; rfl, if_neg Bool.false_ne_true]; omega
      · rintro pre ρ ⟨hall, s4, rfl⟩
        rw [List.append_nil] at hall
        have lp : pre.length = m := by rw [hall, ups_length]
        rw [lp]
        exact hk2 _ ⟨hall2, .val (.int y), s4, by rw [l2]; show _ = [_, Sl.val (.int (c1 m x + (c2 m x y + c3 m x y m))), _, _, _]; rw [← Int.add_assoc]⟩
    · rintro pre ρ ⟨hall, s3, s4, rfl⟩
      rw [List.append_nil] at hall
      have lp : pre.length = m := by rw [hall, ups_length]
      rw [lp]
      exact hk _ ⟨hall', .val (.int x), s3, s4, by rw [l1]; rfl⟩
  · rintro pre ρ ⟨hall, s2, s3, s4, rfl⟩
    rw [List.append_nil] at hall
    have lp : pre.length = m := by rw [hall, ups_length]
    rw [lp]
    exact h
theorem ok_law_threes {P : Program} {w : World} {K : PySem.W.Frag} {mg : Str → Option Value} {base : Heap} {t : Ad} (T : Txt K mg t) : FnOk P w K mg base CX0 2 t.a_law_threes t.d_law_threes ["m"] (spD K 1 C_law_threes) := by
  have sc := sc_law_threes
  refine fn_ok (k := 1) T.F_law_threes sc_law_threes (fun cdv A outer s H E hr => ⟨b_law_threes, (psd_cons (psd_set (i := 1) sc.nd rfl (loc_of rfl) pd_int)
  (psd_cons (psd_for PassesOwn.never rfl (pid_range1 rfl T.z_range (pad_cons (pd_var (pv 0)) pad_nil)) (pgd_name (i := 2) sc.nd rfl (loc_of rfl))
  (psd_one (psd_for PassesOwn.never rfl (pid_range1 rfl T.z_range (pad_cons (pd_var (pv 0)) pad_nil)) (pgd_name (i := 3) sc.nd rfl (loc_of rfl))
  (psd_one (psd_for PassesOwn.never rfl (pid_range1 rfl T.z_range (pad_cons (pd_var (pv 0)) pad_nil)) (pgd_name (i := 4) sc.nd rfl (loc_of rfl))
  (psd_one (psd_if (pb_cmp o_eq (pd_op o_mod (pd_op o_add (pd_op o_add (pd_op o_mul (pd_var (pv 2)) (pd_var (pv 2))) (pd_op o_mul (pd_var (pv 3)) (pd_var (pv 3)))) (pd_op o_mul (pd_var (pv 4)) (pd_var (pv 4)))) (pd_var (pv 0))) pd_int (nomark _))
  (psd_one (psd_if (pb_cmp o_eq (pd_call (ok_law_euclid T) mono_law_euclid (hr.mono (by decide)) rfl T.m_law_euclid T.F_law_euclid.kp T.b_law_euclid (pad_cons (pd_call (ok_law_euclid T) mono_law_euclid (hr.mono (by decide)) rfl T.m_law_euclid T.F_law_euclid.kp T.b_law_euclid (pad_cons (pd_call (ok_law_euclid T) mono_law_euclid (hr.mono (by decide)) rfl T.m_law_euclid T.F_law_euclid.kp T.b_law_euclid (pad_cons (pd_var (pv 0)) (pad_cons (pd_var (pv 2)) pad_nil))) (pad_cons (pd_var (pv 3)) pad_nil))) (pad_cons (pd_var (pv 4)) pad_nil))) pd_int (nomark _))
  (psd_one (psd_set (i := 1) sc.nd rfl (loc_of rfl) (pd_op o_add (pd_var (pv 1)) pd_int)))
  psd_nil))
  psd_nil)))))))
  (psd_one (psd_ret (pd_var (pv 1)))))), rd_law_threes⟩)
def C_law_cell_at : Con := fun ds Φ => ∃ (ns : List Int) (k : Nat), ds = [.lst (ns.map .int), .int k] ∧ Φ (.int (ns.getD k 0))
theorem mono_law_cell_at : Mono C_law_cell_at := fun ds Φ Ψ m ⟨ns, k, a, h⟩ => ⟨ns, k, a, m _ h⟩
def b_law_cell_at_1 : S3 :=
  (sRet (dC (.int 0)))
abbrev b_law_cell_at : S3 :=
  (sSeq (sIf (dT (dOp (dI0 fun i j => .bl (decide (i < j))) (dVar 1) (dB cLen (aCons (dVar 0) aNil))))
  (sRet (dOp dIx (dVar 0) (dVar 1)))
  sNext)
  b_law_cell_at_1)
theorem rd_law_cell_at : ∀ (ds : List D) (Φ : D → Prop), ds.length = 2 → C_law_cell_at ds Φ → b_law_cell_at (finD Φ) (startD 2 ds) := by
  rintro ds Φ hl ⟨ns, k, rfl, h⟩
  rw [List.getD_eq_getElem?_getD] at h
  refine tst (fun hc => ?_) (fun hc => ?_)
  · have hk : k < ns.length := by
      have := of_decide_eq_true hc
      rw [List.length_map] at this
      omega
    rw [List.getElem?_eq_getElem hk] at h
    refine onS_of (d := D.int ns[k]) ?_ ?_
    · rw [atI_n, List.getElem?_map, List.getElem?_eq_getElem hk]; rfl
    · exact h
  · have hk : ¬ k < ns.length := by
      have := of_decide_eq_false hc
      rw [List.length_map] at this
      omega
    rw [List.getElem?_eq_none (by omega)] at h
    exact h
theorem ok_law_cell_at {P : Program} {w : World} {K : PySem.W.Frag} {mg : Str → Option Value} {base : Heap} {t : Ad} (T : Txt K mg t) : FnOk P w K mg base CX0 1 t.a_law_cell_at t.d_law_cell_at ["script", "k"] (spD K 2 C_law_cell_at) := by
  have sc := sc_law_cell_at
  refine fn_ok (k := 0) T.F_law_cell_at sc_law_cell_at (fun cdv A outer s H E hr => ⟨b_law_cell_at, (psd_cons (psd_if (pb_cmp o_lt (pd_var (pv 1)) (pd_callB b_len rfl T.z_len bt_len (pad_cons (pd_var (pv 0)) pad_nil)) (nomark _))
  (psd_one (psd_ret (pd_ix (pd_var (pv 0)) (pd_var (pv 1)) (fun _ _ => rfl))))
  psd_nil)
  (psd_one (psd_ret pd_int))), rd_law_cell_at⟩)
def C_law_due : Con := fun ds Φ => ∃ (n : Int), ds = [.int n] ∧ 1 ≤ n ∧ n ≤ 1000000 ∧ ((n % 2 = 0 ∧ Φ (.int 0)) ∨ (n % 2 = 1 ∧ ∃ ps : List Int, Primes n ps ∧ Φ (.int (hmT 1 ps))))
theorem mono_law_due : Mono C_law_due := fun ds Φ Ψ mo ⟨n, a, b, c, h⟩ => ⟨n, a, b, c, h.imp (fun ⟨x, y⟩ => ⟨x, mo _ y⟩) (fun ⟨x, ps, y, z⟩ => ⟨x, ps, y, mo _ z⟩)⟩
def b_law_due_L2_1 : S3 :=
  (sSet 1 (dOp (dI IntMulOk fun i j => .int (i * j)) (dVar 1) (dVar 2)))
abbrev b_law_due_L2 : S3 :=
  (sSeq (sSet 0 (dOp (dI CD fun i j => .int (i.fdiv j)) (dVar 0) (dVar 2)))
  b_law_due_L2_1)
def b_law_due_L1_2 : S3 :=
  (sSet 2 (dOp (dI0 fun i j => .int (i + j)) (dVar 2) (dC (.int 2))))
def b_law_due_L1_1 : S3 :=
  (sSeq (sIf (dT (dOp dEq (dOp (dI (fun _ j => j ≠ 0) fun i j => .int (i.fmod j)) (dVar 0) (dVar 2)) (dC (.int 0))))
  (sSeq (sSet 0 (dOp (dI CD fun i j => .int (i.fdiv j)) (dVar 0) (dVar 2)))
  (sSeq (sSet 1 (dOp (dI IntMulOk fun i j => .int (i * j)) (dVar 1) (dOp (dI0 fun i j => .int (i + j)) (dVar 2) (dC (.int 1)))))
  (sWhile (dT (dOp dEq (dOp (dI (fun _ j => j ≠ 0) fun i j => .int (i.fmod j)) (dVar 0) (dVar 2)) (dC (.int 0))))
  b_law_due_L2)))
  sNext)
  b_law_due_L1_2)
abbrev b_law_due_L1 : S3 :=
  (sSeq (sIf (dT (dOp (dI0 fun i j => .bl (decide (j < i))) (dOp (dI IntMulOk fun i j => .int (i * j)) (dVar 2) (dVar 2)) (dVar 0)))
  (sRet (dOp (dI IntMulOk fun i j => .int (i * j)) (dVar 1) (dOp (dI0 fun i j => .int (i + j)) (dVar 0) (dC (.int 1)))))
  sNext)
  b_law_due_L1_1)
def b_law_due_4 : S3 :=
  (sRet (dVar 1))
def b_law_due_3 : S3 :=
  (sSeq (sWhile (dT (dOp (dI0 fun i j => .bl (decide (j < i))) (dVar 0) (dC (.int 1))))
  b_law_due_L1)
  b_law_due_4)
def b_law_due_2 : S3 :=
  (sSeq (sSet 2 (dC (.int 3)))
  b_law_due_3)
def b_law_due_1 : S3 :=
  (sSeq (sSet 1 (dC (.int 1)))
  b_law_due_2)
abbrev b_law_due : S3 :=
  (sSeq (sIf (dT (dOp dEq (dOp (dI (fun _ j => j ≠ 0) fun i j => .int (i.fmod j)) (dVar 0) (dC (.int 2))) (dC (.int 0))))
  (sRet (dC (.int 0)))
  sNext)
  b_law_due_1)
theorem rd_law_due : ∀ (ds : List D) (Φ : D → Prop), ds.length = 1 → C_law_due ds Φ → b_law_due (finD Φ) (startD 3 ds) := by
  rintro ds Φ hl ⟨n, rfl, n1, n2, hor⟩
  refine ⟨show (2 : Int) ≠ 0 by decide, tst (fun hc => ?_) (fun hc => ?_)⟩
  · have hc : n.fmod 2 = 0 := of_decide_eq_true hc
    rw [fmod_pos (by decide)] at hc
    rcases hor with ⟨_, he⟩ | ⟨z, _⟩
    · exact he
    · omega
  have hc : ¬ n.fmod 2 = 0 := of_decide_eq_false hc
  rw [fmod_pos (by decide)] at hc
  have no : n % 2 = 1 := by omega
  obtain ⟨ps, hp, ho⟩ : ∃ ps : List Int, Primes n ps ∧ Φ (.int (hmT 1 ps)) := by
    rcases hor with ⟨z, _⟩ | ⟨_, h⟩
    · omega
    · exact h
  have hle := hmT_le 1 fun q h => (hp.pr q h).two
  rw [hp.e] at hle
  have hF : hmT 1 ps ≤ 1000000 * 1000000 := Int.le_trans hle (Int.mul_le_mul n2 n2 (by omega) (by decide))
  have od : ∀ {qs : List Int}, (prodI qs) % 2 = 1 → ∀ q ∈ qs, q % 2 = 1 := by
    intro qs
    induction qs with
    | nil => exact fun _ q h => nomatch h
    | cons r rs ih =>
      intro h q hq
      rw [prodI_cons] at h
      have lft : ∀ {a b : Int}, (a * b) % 2 = 1 → a % 2 = 1 := fun {a b} h => by
        rcases Int.emod_two_eq a with z | z
        · rw [Int.mul_emod, z] at h; simp at h
        · exact z
      rcases List.mem_cons.mp hq with e | e
      · rw [e]; exact lft h
      · exact ih (lft (b := r) (by rw [Int.mul_comm]; exact h)) q e
  have podd := od (by rw [hp.e]; exact no)
  have h10 : hmT 1 ps = hmT 0 ps := hmT_other (fun q hq => by have := (hp.pr q hq).two; omega) (fun q hq => by have := (hp.pr q hq).two; omega)
  generalize hF' : hmT 1 ps = F at *
  have bT : ∀ {t : Int}, 1 ≤ t → t ≤ F → Bd 41 t := fun h1 h2 => bd_of (1000000 * 1000000) (by omega) (by decide)
  have tle : ∀ {t a : Int} {qs : List Int}, 1 ≤ t → (∀ q ∈ qs, PrimeI q) → t * hmT a qs = F → t ≤ F := fun {t a qs} h1 hq e => by
    have r := hmT_pos a (qs := qs) fun q h => (hq q h).two
    rw [← e]
    have := Int.mul_le_mul_of_nonneg_left r (show 0 ≤ t by omega)
    omega
  have p20 : ∀ {p : Int}, 0 ≤ p → p ≤ 1000001 → Bd 20 p := fun h0 h1 => bd20 h0 h1
  show b_law_due_3 (finD Φ) [.val (.int n), .val (.int 1), .val (.int 3)]
  refine while_inv (fun ρ => ∃ (m total p : Int) (qs : List Int), ρ = [.val (.int m), .val (.int total), .val (.int p)] ∧ Du m p qs ∧ 1 ≤ total ∧ total * hmT 0 qs = F ∧ 3 ≤ p ∧ p % 2 = 1 ∧ p ≤ 1003 ∧ 1 ≤ m ∧ m ≤ 1000000) (fun ρ => match ρ with | [_, _, .val (.int p)] => (1005 - p).toNat | _ => 0) ⟨n, 1, 3, ps, rfl, ⟨hp.e, hp.pr, hp.up, fun q hq => ?_, podd⟩, by decide, by rw [Int.one_mul, ← h10], by decide, by decide, by decide, n1, n2⟩ ?_
  · have a := (hp.pr q hq).two; have b := podd q hq
    omega
  rintro ρ ⟨m, total, p, qs, rfl, du, t1, et, p3, po, pm, m1, m2⟩
  have tF' := tle t1 du.pr et
  refine tst (fun hm => ?_) (fun hm => ?_)
  · have hm : 1 < m := of_decide_eq_true hm
    refine ⟨mulOk (p20 (by omega) (by omega)) (p20 (by omega) (by omega)) (by decide), tst (fun hpp => ?_) (fun hpp => ?_)⟩
    · have hpp : m < p * p := of_decide_eq_true hpp
      have e := du.last (by omega) hm hpp
      subst e
      have e2 : total * (m + 1) = F := by
        rw [← et]
        show _ = total * ((if m = 0 then m else m + 1) * 1)
        rw [if_neg (by omega), Int.mul_one]
      refine ⟨mulOk (bT t1 tF') (p20 (p := m + 1) (by omega) (by omega)) (by decide), ?_⟩
      show Φ (.int (total * (m + 1)))
      rw [e2]; exact ho
    · have hpp : ¬ m < p * p := of_decide_eq_false hpp
      have p1000 := c1001 (c := p) (rest := m) (by omega) (by omega) m2
      have p0 : p ≠ 0 := by omega
      have nxt : ∀ (m total : Int) (qs : List Int), Du m p qs → 1 ≤ total → total * hmT p qs = F → 1 ≤ m → m ≤ 1000000 → ¬ m.fmod p = 0 → ∃ m', m' < (1005 - p).toNat ∧ m' = (1005 - (p + 2)).toNat ∧ ∃ (m_1 total_1 p_1 : Int) (qs : List Int), [Sl.val (.int m), .val (.int total), .val (.int (p + 2))] = [.val (.int m_1), .val (.int total_1), .val (.int p_1)] ∧ Du m_1 p_1 qs ∧ 1 ≤ total_1 ∧ total_1 * hmT 0 qs = F ∧ 3 ≤ p_1 ∧ p_1 % 2 = 1 ∧ p_1 ≤ 1003 ∧ 1 ≤ m_1 ∧ m_1 ≤ 1000000 := fun m total qs du t1 et m1 m2 hn => by
        obtain ⟨du', ne⟩ := du.skip po hn
        refine ⟨_, ?_, rfl, m, total, p + 2, qs, rfl, du', t1, ?_, by omega, by omega, by omega, m1, m2⟩
        · omega
        · rw [← et, hmT_other (a := 0) (b := p) (fun q hq => by have := (du.pr q hq).two; omega) ne]
      show b_law_due_L1_1 _ [.val (.int m), .val (.int total), .val (.int p)]
      unfold b_law_due_L1_1
      refine ⟨p0, tst (fun hd => ?_) (fun hd => ?_)⟩
      · have hd : m.fmod p = 0 := of_decide_eq_true hd
        obtain ⟨rs, rfl, du', lt, l1⟩ := du.take (by omega) hd
        have e2 : total * (p + 1) * hmT p rs = F := by
          rw [← et]
          show _ = total * ((if p = 0 then p else p + 1) * hmT p rs)
          rw [if_neg p0, Int.mul_assoc]
        have t2 : 1 ≤ total * (p + 1) := by
          have := Int.mul_le_mul_of_nonneg_left (show 1 ≤ p + 1 by omega) (show 0 ≤ total by omega); omega
        refine ⟨cd_of p0 (p20 (by omega) (by omega)) (by decide), mulOk (bT t1 tF') (p20 (p := p + 1) (by omega) (by omega)) (by decide), ?_⟩
        refine while_inv (fun ρ => ∃ (m total : Int) (qs : List Int), ρ = [.val (.int m), .val (.int total), .val (.int p)] ∧ Du m p qs ∧ 1 ≤ total ∧ total * hmT p qs = F ∧ 1 ≤ m ∧ m ≤ 1000000) (fun ρ => match ρ with | [.val (.int m), _, _] => m.toNat | _ => 0) ⟨m.fdiv p, total * (p + 1), rs, rfl, du', t2, e2, l1, by omega⟩ ?_
        rintro ρ ⟨m, total, qs, rfl, du, t1, et, m1, m2⟩
        have tF' := tle t1 du.pr et
        refine ⟨p0, tst (fun hd => ?_) (fun hd => ?_)⟩
        · have hd : m.fmod p = 0 := of_decide_eq_true hd
          obtain ⟨rs, rfl, du', lt, l1⟩ := du.take (by omega) hd
          have e2 : total * p * hmT p rs = F := by
            rw [← et]
            show _ = total * ((if p = p then p else p + 1) * hmT p rs)
            rw [if_pos rfl, Int.mul_assoc]
          have t2 : 1 ≤ total * p := by
            have := Int.mul_le_mul_of_nonneg_left (show 1 ≤ p by omega) (show 0 ≤ total by omega); omega
          refine ⟨cd_of p0 (p20 (by omega) (by omega)) (by decide), mulOk (bT t1 tF') (p20 (by omega) (by omega)) (by decide), _, ?_, rfl, m.fdiv p, total * p, rs, rfl, du', t2, e2, l1, by omega⟩
          show (m.fdiv p).toNat < m.toNat
          omega
        · have hd : ¬ m.fmod p = 0 := of_decide_eq_false hd
          exact nxt m total qs du t1 et m1 m2 hd
      · have hd : ¬ m.fmod p = 0 := of_decide_eq_false hd
        have ne := (du.skip po hd).2
        exact nxt m total qs du t1 (by rw [← et, hmT_other (a := p) (b := 0) ne fun q hq => by have := (du.pr q hq).two; omega]) m1 m2 hd
  · have hm : ¬ 1 < m := of_decide_eq_false hm
    have e := du.none hm
    subst e
    have e2 : total = F := by rw [← et]; show _ = total * 1; omega
    show Φ (.int total)
    rw [e2]; exact ho
theorem ok_law_due {P : Program} {w : World} {K : PySem.W.Frag} {mg : Str → Option Value} {base : Heap} {t : Ad} (T : Txt K mg t) : FnOk P w K mg base CX0 1 t.a_law_due t.d_law_due ["m"] (spD K 1 C_law_due) := by
  have sc := sc_law_due
  refine fn_ok (k := 0) T.F_law_due sc_law_due (fun cdv A outer s H E hr => ⟨b_law_due, (psd_cons (psd_if (pb_cmp o_eq (pd_op o_mod (pd_var (pv 0)) pd_int) pd_int (nomark _))
  (psd_one (psd_ret pd_int))
  psd_nil)
  (psd_cons (psd_set (i := 1) sc.nd rfl (loc_of rfl) pd_int)
  (psd_cons (psd_set (i := 2) sc.nd rfl (loc_of rfl) pd_int)
  (psd_cons (psd_while PassesOwn.never (pb_cmp o_gt (pd_var (pv 0)) pd_int (nomark _))
  (psd_cons (psd_if (pb_cmp o_gt (pd_op o_mul (pd_var (pv 2)) (pd_var (pv 2))) (pd_var (pv 0)) (nomark _))
  (psd_one (psd_ret (pd_op o_mul (pd_var (pv 1)) (pd_op o_add (pd_var (pv 0)) pd_int))))
  psd_nil)
  (psd_cons (psd_if (pb_cmp o_eq (pd_op o_mod (pd_var (pv 0)) (pd_var (pv 2))) pd_int (nomark _))
  (psd_cons (psd_set (i := 0) sc.nd rfl (loc_of rfl) (pd_op o_fdiv (pd_var (pv 0)) (pd_var (pv 2))))
  (psd_cons (psd_set (i := 1) sc.nd rfl (loc_of rfl) (pd_op o_mul (pd_var (pv 1)) (pd_op o_add (pd_var (pv 2)) pd_int)))
  (psd_one (psd_while PassesOwn.never (pb_cmp o_eq (pd_op o_mod (pd_var (pv 0)) (pd_var (pv 2))) pd_int (nomark _))
  (psd_cons (psd_set (i := 0) sc.nd rfl (loc_of rfl) (pd_op o_fdiv (pd_var (pv 0)) (pd_var (pv 2))))
  (psd_one (psd_set (i := 1) sc.nd rfl (loc_of rfl) (pd_op o_mul (pd_var (pv 1)) (pd_var (pv 2))))))))))
  psd_nil)
  (psd_one (psd_set (i := 2) sc.nd rfl (loc_of rfl) (pd_op o_add (pd_var (pv 2)) pd_int))))))
  (psd_one (psd_ret (pd_var (pv 1)))))))), rd_law_due⟩)
abbrev C_law : Con := cLaw
theorem prime_small {p : Int} (h2 : 2 ≤ p) (hp : p < 16) (n2 : p % 2 ≠ 0 ∨ p = 2) (n3 : p % 3 ≠ 0 ∨ p = 3) : PrimeI p := ⟨h2, fun d d2 dd dv => by
  have d3 : d ≤ 3 := by
    apply Classical.byContradiction
    intro z
    have := Int.mul_le_mul (show 4 ≤ d by omega) (show 4 ≤ d by omega) (by omega) (by omega)
    omega
  rcases (show d = 2 ∨ d = 3 by omega) with rfl | rfl <;> omega⟩
theorem primes_nil : Primes 1 [] := ⟨rfl, List.Pairwise.nil, fun _ h => nomatch h⟩
theorem primes_sing {p : Int} (h : PrimeI p) : Primes p [p] := ⟨prodI_one p, List.pairwise_singleton _ _, fun q hq => by rw [show q = p by simpa using hq]; exact h⟩
theorem primes_33 : Primes 9 [3, 3] := ⟨rfl, by simp, fun q hq => by rw [show q = 3 by simpa using hq]; exact prime_small (by decide) (by decide) (by decide) (by decide)⟩
theorem comp_gcd {m : Nat} {L : Sl} {r : Fr3} {Φ : List D → Prop} : ∀ (ks : List Nat) (acc : List D), acc.length + ks.length ≤ 1000 → Φ (acc ++ (ks.filter fun (k : Nat) => decide ((Int.gcd (m : Int) (k : Int) : Int) = 1)).map fun (k : Nat) => D.int (k : Int)) → COMP (gN 0) (dT (dOp dEq (dCall 2 C_law_euclid (aCons (dVar 2) (aCons (dVar 0) aNil))) (dC (.int 1)))) (dVar 0) (.un :: L :: .val (.int m) :: r) (ks.map fun (k : Nat) => D.int (0 + (k : Int))) acc Φ
  | [], acc, _, h => by
    show Φ acc
    have e : acc ++ ([] : List Nat).map (fun (k : Nat) => D.int (k : Int)) = acc := by simp
    rw [← e]; exact h
  | k :: ks, acc, hl, h => by
    simp only [List.length_cons] at hl
    rw [List.map_cons, Int.zero_add]
    refine ⟨rfl, m, k, rfl, ?_⟩
    refine tst (fun hc => ?_) (fun hc => ?_)
    · have hc : decide ((Int.gcd (m : Int) (k : Int) : Int) = 1) = true := hc
      refine ⟨small1000 (by omega), comp_gcd ks (acc ++ [D.int k]) (by simp; omega) ?_⟩
      rw [List.filter_cons_of_pos (by simpa using hc), List.map_cons] at h
      rw [List.append_assoc]; exact h
    · have hc : decide ((Int.gcd (m : Int) (k : Int) : Int) = 1) = false := hc
      refine comp_gcd ks acc (by omega) ?_
      rw [List.filter_cons_of_neg (by simpa using hc)] at h
      exact h
theorem table {j : Int} (h0 : 0 ≤ j) (h7 : j < 7) : ∃ (m : Nat) (ps : List Int), 1 + 2 * j = (m : Int) ∧ 0 < m ∧ m ≤ 13 ∧ Primes (m : Int) ps ∧ hmT 1 ps * (beside m : Int) = c1 m m := by
  have pr : ∀ {p : Int}, 2 ≤ p → p < 16 → (p % 2 ≠ 0 ∨ p = 2) → (p % 3 ≠ 0 ∨ p = 3) → Primes p [p] := fun a b c d => primes_sing (prime_small a b c d)
  rcases (show j = 0 ∨ j = 1 ∨ j = 2 ∨ j = 3 ∨ j = 4 ∨ j = 5 ∨ j = 6 by omega) with rfl | rfl | rfl | rfl | rfl | rfl | rfl
  · exact ⟨1, [], by decide, by decide, by decide, primes_nil, by decide⟩
  · exact ⟨3, [3], by decide, by decide, by decide, pr (by decide) (by decide) (by decide) (by decide), by decide⟩
  · exact ⟨5, [5], by decide, by decide, by decide, pr (by decide) (by decide) (by decide) (by decide), by decide⟩
  · exact ⟨7, [7], by decide, by decide, by decide, pr (by decide) (by decide) (by decide) (by decide), by decide⟩
  · exact ⟨9, [3, 3], by decide, by decide, by decide, primes_33, by decide⟩
  · exact ⟨11, [11], by decide, by decide, by decide, pr (by decide) (by decide) (by decide) (by decide), by decide⟩
  · exact ⟨13, [13], by decide, by decide, by decide, pr (by decide) (by decide) (by decide) (by decide), by decide⟩
abbrev b_law_L1 : S3 :=
  (sIf (dT (dOp dEq (dOp (dI (fun _ j => j ≠ 0) fun i j => .int (i.fmod j)) (dVar 5) (dC (.int 2))) (dC (.int 0))))
  (sApp 4 (dOp (dI0 fun i j => .int (i + j)) (dC (.int 1)) (dOp (dI (fun _ j => j ≠ 0) fun i j => .int (i.fmod j)) (dOp (dI CD fun i j => .int (i.fdiv j)) (dVar 5) (dC (.int 2))) (dC (.int 200)))))
  (sApp 4 (dOp (dI0 fun i j => .int (i + j)) (dC (.int 1)) (dOp (dI (fun _ j => j ≠ 0) fun i j => .int (i.fmod j)) (dOp (dI CD fun i j => .int (i.fdiv j)) (dVar 5) (dC (.int 2))) (dC (.int 1000000))))))
def b_law_L2_1 : S3 :=
  (sIf (bOr (bNot (dT (dCall 1 C_law_whole (aCons (dVar 3) aNil)))) (dT (dOp dNe (dVar 3) (dCall 1 C_law_due (aCons (dVar 6) aNil)))))
  (sRet (dC (.bl false)))
  sNext)
abbrev b_law_L2 : S3 :=
  (sSeq (sSet 3 (dCall 1 C_how_many (aCons (dVar 6) aNil)))
  b_law_L2_1)
def b_law_7 : S3 :=
  (sRet (dC (.bl true)))
def b_law_6 : S3 :=
  (sFreeze 4 (sSeq (sFor (iLT (dVar 4)) (gN 6)
  b_law_L2)
  b_law_7))
def b_law_5 : S3 :=
  (sSeq (sFor (iLT (dF (fSl (dVar 0) (oSome (dC (.int 1))) (oSome (dC (.int 9)))))) (gN 5)
  b_law_L1)
  b_law_6)
def b_law_4 : S3 :=
  (sSeq (sOwn 4 (fLst (aCons (dC (.int 1)) (aCons (dC (.int 2)) aNil))))
  b_law_5)
def b_law_3 : S3 :=
  (sSeq (sIf (bOr (bNot (dT (dCall 1 C_law_whole (aCons (dVar 3) aNil)))) (dT (dOp dNe (dOp (dI IntMulOk fun i j => .int (i * j)) (dVar 3) (dVar 2)) (dCall 1 C_law_threes (aCons (dVar 1) aNil)))))
  (sRet (dC (.bl false)))
  sNext)
  b_law_4)
def b_law_2 : S3 :=
  (sSeq (sSet 3 (dCall 1 C_how_many (aCons (dVar 1) aNil)))
  b_law_3)
def b_law_1 : S3 :=
  (sSeq (sSet 2 (dB cLen (aCons (dF (fComp 1 (iR1 (aCons (dVar 1) aNil)) (gN 0) (dT (dOp dEq (dCall 2 C_law_euclid (aCons (dVar 2) (aCons (dVar 0) aNil))) (dC (.int 1)))) (dVar 0))) aNil)))
  b_law_2)
abbrev b_law : S3 :=
  (sSeq (sSet 1 (dOp (dI0 fun i j => .int (i + j)) (dC (.int 1)) (dOp (dI IntMulOk fun i j => .int (i * j)) (dC (.int 2)) (dOp (dI (fun _ j => j ≠ 0) fun i j => .int (i.fmod j)) (dCall 2 C_law_cell_at (aCons (dVar 0) (aCons (dC (.int 0)) aNil))) (dC (.int 7))))))
  b_law_1)
theorem rd_law : ∀ (ds : List D) (Φ : D → Prop), ds.length = 1 → C_law ds Φ → b_law (finD Φ) (startD 7 ds) := by
  rintro ds Φ hl ⟨ns, rfl, hn, h⟩
  have r0 : 0 ≤ (ns.getD 0 0).fmod 7 ∧ (ns.getD 0 0).fmod 7 < 7 := by rw [fmod_pos (by decide)]; omega
  refine ⟨rfl, ns, 0, rfl, (show (7 : Int) ≠ 0 by decide), IntMulOk.of_left (by decide), ?_⟩
  show b_law_1 (finD Φ) [.val (.lst (ns.map .int)), .val (.int (1 + 2 * (ns.getD 0 0).fmod 7)), .un, .un, .un, .un, .un]
  obtain ⟨m, qs, em, m0, m13, hq, eq⟩ := table r0.1 r0.2
  rw [em]
  unfold b_law_1
  refine ⟨show (-(2 ^ 62) : Int) ≤ m by omega, show (m : Int) < 2 ^ 62 by omega, ?_⟩
  show COMP (gN 0) (dT (dOp dEq (dCall 2 C_law_euclid (aCons (dVar 2) (aCons (dVar 0) aNil))) (dC (.int 1)))) (dVar 0) (.un :: .val (.lst (ns.map .int)) :: .val (.int m) :: [.un, .un, .un, .un, .un]) ((List.range ((m : Int)).toNat).map fun (k : Nat) => D.int (0 + (k : Int))) [] _
  rw [show ((m : Int)).toNat = m by omega]
  refine comp_gcd (List.range m) [] (by simp; omega) ?_
  show b_law_2 (finD Φ) [.val (.lst (ns.map .int)), .val (.int m), .val (.int (([] ++ ((List.range m).filter fun (k : Nat) => decide ((Int.gcd (m : Int) (k : Int) : Int) = 1)).map fun (k : Nat) => D.int (k : Int)).length : Nat)), .un, .un, .un, .un]
  rw [List.nil_append, List.length_map]
  show b_law_2 (finD Φ) [.val (.lst (ns.map .int)), .val (.int m), .val (.int (beside m)), .un, .un, .un, .un]
  have mo : (m : Int) % 2 = 1 := by omega
  refine ⟨rfl, m, rfl, by omega, by omega, fun z => by omega, fun _ ps hps hle => ?_⟩
  have : ps = qs := primes_uni hps hq
  subst this
  have h1 := hmT_pos 1 fun q h => (hps.pr q h).two
  have bb : (beside m : Int) ≤ 13 := by
    have : beside m ≤ m := by
      unfold beside
      exact Nat.le_trans (List.length_filter_le _ _) (by simp)
    omega
  show b_law_3 (finD Φ) [.val (.lst (ns.map .int)), .val (.int m), .val (.int (beside m)), .val (.int (hmT 1 ps)), .un, .un, .un]
  unfold b_law_3
  refine ⟨rfl, _, rfl, tF (by rfl) ?_⟩
  refine ⟨mulOk (bd_of (k := 41) (1000000 * 1000000) (by omega) (by decide)) (bd_of (k := 10) 13 (by omega) (by decide)) (by decide), rfl, m, rfl, m0, by omega, ?_⟩
  refine tF (show (!decide (hmT 1 ps * (beside m : Int) = c1 m m)) = false by rw [decide_eq_true eq]; rfl) ?_
  show b_law_4 (finD Φ) [.val (.lst (ns.map .int)), .val (.int m), .val (.int (beside m)), .val (.int (hmT 1 ps)), .un, .un, .un]
  generalize (beside m : Int) = bs
  refine ⟨sl_le 2 rfl (by decide), ?_⟩
  show FOR (gN 5) b_law_L1 (D3.cutD (ns.map D.int) (some 1) (some 9)) (thenS b_law_6 (finD Φ)) [.val (.lst (ns.map .int)), .val (.int m), .val (.int bs), .val (.int (hmT 1 ps)), .own [.int 1, .int 2], .un, .un]
  refine FOR_inv (fun pre post ρ => pre.length + post.length ≤ 8 ∧ (∀ d ∈ post, ∃ c : Int, d = .int c) ∧ ∃ (ms : List Int) (s : Sl), ρ = [.val (.lst (ns.map .int)), .val (.int m), .val (.int bs), .val (.int (hmT 1 ps)), .own (ms.map .int), s, .un] ∧ ms.length = 2 + pre.length ∧ ∀ m ∈ ms, 1 ≤ m ∧ m ≤ 1000000) ?_ ?_ _ [] _ ⟨?_, ?_, [1, 2], .un, rfl, rfl, by simp⟩
  · rintro pre d post ρ ⟨hp, hd, ms, s, rfl, hm, hb⟩ k hk
    obtain ⟨c, rfl⟩ := hd d List.mem_cons_self
    simp only [List.length_cons] at hp
    have go : ∀ v : Int, 1 ≤ v → v ≤ 1000000 → (pre ++ [D.int c]).length + post.length ≤ 8 ∧ (∀ d ∈ post, ∃ c : Int, d = .int c) ∧ ∃ (ms' : List Int) (s : Sl), [Sl.val (.lst (ns.map .int)), .val (.int m), .val (.int bs), .val (.int (hmT 1 ps)), .own (ms.map .int ++ [.int v]), .val (.int c), .un] = [.val (.lst (ns.map .int)), .val (.int m), .val (.int bs), .val (.int (hmT 1 ps)), .own (ms'.map .int), s, .un] ∧ ms'.length = 2 + (pre ++ [D.int c]).length ∧ ∀ m ∈ ms', 1 ≤ m ∧ m ≤ 1000000 := fun v h1 h2 => by
      refine ⟨?_, fun d hd' => hd d (List.mem_cons_of_mem _ hd'), ms ++ [v], .val (.int c), ?_, ?_, ?_⟩
      · simp only [List.length_append, List.length_cons, List.length_nil]; omega
      · rw [List.map_append]; rfl
      · simp only [List.length_append, List.length_cons, List.length_nil]; omega
      · intro x hx
        rcases List.mem_append.mp hx with z | z
        · exact hb x z
        · simp at z; subst z; exact ⟨h1, h2⟩
    have hl : (ms.map D.int).length < sizeLine := by rw [List.length_map]; exact small1000 (by omega)
    have e1 : ∀ x : Int, x.fmod 200 = x % 200 := fun x => fmod_pos (by decide)
    have e2 : ∀ x : Int, x.fmod 1000000 = x % 1000000 := fun x => fmod_pos (by decide)
    refine ⟨show (2 : Int) ≠ 0 by decide, tst (fun _ => ?_) (fun _ => ?_)⟩
    · exact ⟨cd_lit (by decide), show (200 : Int) ≠ 0 by decide, hl, hk _ (go _ (by rw [e1]; omega) (by rw [e1]; omega))⟩
    · exact ⟨cd_lit (by decide), show (1000000 : Int) ≠ 0 by decide, hl, hk _ (go _ (by rw [e2]; omega) (by rw [e2]; omega))⟩
  · rintro pre ρ ⟨hp, hd, ms, s, rfl, hm, hb⟩
    refine FOR_all (fun d => ∃ m : Int, d = .int m ∧ 1 ≤ m ∧ m ≤ 1000000) (fun ρ => ∃ s3 s6 : Sl, ρ = [.val (.lst (ns.map .int)), .val (.int m), .val (.int bs), s3, .val (.lst (ms.map .int)), s, s6]) ?_ ⟨_, _, rfl⟩ ?_ ?_
    · intro d hd
      obtain ⟨v, hv, rfl⟩ := List.mem_map.mp hd
      exact ⟨v, rfl, hb v hv⟩
    · rintro d ρ ⟨v, rfl, h1, h2⟩ ⟨s3, s6, rfl⟩ k hk
      refine ⟨rfl, v, rfl, h1, h2, fun ev => ?_, fun ov zs hz _ => ?_⟩
      · show b_law_L2_1 (loopS k (thenS b_law_7 (finD Φ))) [.val (.lst (ns.map .int)), .val (.int m), .val (.int bs), .val (.int 0), .val (.lst (ms.map .int)), s, .val (.int v)]
        unfold b_law_L2_1
        refine ⟨rfl, _, rfl, tF (by rfl) ?_⟩
        refine ⟨rfl, v, rfl, h1, h2, .inl ⟨ev, ?_⟩⟩
        exact tF (by rfl) (hk _ ⟨_, _, rfl⟩)
      · show b_law_L2_1 (loopS k (thenS b_law_7 (finD Φ))) [.val (.lst (ns.map .int)), .val (.int m), .val (.int bs), .val (.int (hmT 1 zs)), .val (.lst (ms.map .int)), s, .val (.int v)]
        unfold b_law_L2_1
        refine ⟨rfl, _, rfl, tF (by rfl) ?_⟩
        refine ⟨rfl, v, rfl, h1, h2, .inr ⟨ov, zs, hz, ?_⟩⟩
        exact tF (show (!decide (hmT 1 zs = hmT 1 zs)) = false by rw [decide_eq_true rfl]; rfl) (hk _ ⟨_, _, rfl⟩)
    · rintro ρ ⟨s3, s6, rfl⟩
      exact h
  · simp only [List.length_nil, Nat.zero_add]
    rw [cutD_map, List.length_map]
    exact cut_few ns 1 9
  · intro d hd
    have := List.mem_of_mem_drop (List.mem_of_mem_take hd)
    obtain ⟨c, _, rfl⟩ := List.mem_map.mp this
    exact ⟨c, rfl⟩
theorem ok_law {P : Program} {w : World} {K : PySem.W.Frag} {mg : Str → Option Value} {base : Heap} {t : Ad} (T : Txt K mg t) : FnOk P w K mg base CX0 3 t.a_law t.d_law ["script"] (spD K 1 C_law) := by
  have sc := sc_law
  refine fn_ok (k := 2) T.F_law sc_law (fun cdv A outer s H E hr => ⟨b_law, (psd_cons (psd_set (i := 1) sc.nd rfl (loc_of rfl) (pd_op o_add pd_int (pd_op o_mul pd_int (pd_op o_mod (pd_call (ok_law_cell_at T) mono_law_cell_at (hr.mono (by decide)) rfl T.m_law_cell_at T.F_law_cell_at.kp T.b_law_cell_at (pad_cons (pd_var (pv 0)) (pad_cons pd_int pad_nil))) pd_int))))
  (psd_cons (psd_set (i := 2) sc.nd rfl (loc_of rfl) (pd_callB b_len rfl T.z_len bt_len (pad_cons (pd_new (pf_comp (xs := ["k"]) (M := ["script", "m", "beside", "found", "some", "cell", "n"]) (n := 1) (by rfl) rfl rfl (pid_range1 rfl T.z_range (pad_cons (pd_var (pv 1)) pad_nil)) (fun _ _ _ _ => (pgn_name (i := 0) (by decide) (show List.Nodup (["k", "script", "m", "beside", "found", "some", "cell", "n"] : List Str) by decide +kernel) rfl (by first | exact Or.inl rfl | exact Or.inr rfl))) (fun _ _ _ _ => (pbs_one (pb_cmp o_eq (pd_call (ok_law_euclid T) mono_law_euclid (hr.mono (by decide)) rfl T.m_law_euclid T.F_law_euclid.kp T.b_law_euclid (pad_cons (pd_var (pv 2)) (pad_cons (pd_var (pv 0)) pad_nil))) pd_int (nomark _)))) (fun _ _ _ _ => (pd_var (pv 0))))) pad_nil)))
  (psd_cons (psd_set (i := 3) sc.nd rfl (loc_of rfl) (pd_call (ok_how_many T) mono_how_many (hr.mono (by decide)) rfl T.m_how_many T.F_how_many.kp T.b_how_many (pad_cons (pd_var (pv 1)) pad_nil)))
  (psd_cons (psd_if (PWB.pb (pb_or (pb_not (pb_val (pd_call (ok_law_whole T) mono_law_whole (hr.mono (by decide)) rfl T.m_law_whole T.F_law_whole.kp T.b_law_whole (pad_cons (pd_var (pv 3)) pad_nil)))) (pb_or1 (pb_cmp o_ne (pd_op o_mul (pd_var (pv 3)) (pd_var (pv 2))) (pd_call (ok_law_threes T) mono_law_threes (hr.mono (by decide)) rfl T.m_law_threes T.F_law_threes.kp T.b_law_threes (pad_cons (pd_var (pv 1)) pad_nil)) (nomark _)))))
  (psd_one (psd_ret pd_bl))
  psd_nil)
  (psd_cons (psd_own (i := 4) sc.nd rfl (loc_of rfl) (pf_lst (pad_cons pd_int (pad_cons pd_int pad_nil))))
  (psd_cons (psd_for PassesOwn.never rfl (pid_seq (pd_new (pf_slice (pd_var (pv 0)) (pod_some pd_int) (pod_some pd_int)))) (pgd_name (i := 5) sc.nd rfl (loc_of rfl))
  (psd_one (psd_if (pb_cmp o_eq (pd_op o_mod (pd_var (pv 5)) pd_int) pd_int (nomark _))
  (psd_one (psd_append (pv 4) (pd_op o_add pd_int (pd_op o_mod (pd_op o_fdiv (pd_var (pv 5)) pd_int) pd_int))))
  (psd_one (psd_append (pv 4) (pd_op o_add pd_int (pd_op o_mod (pd_op o_fdiv (pd_var (pv 5)) pd_int) pd_int)))))))
  (psd_freeze 4 (psd_cons (psd_for PassesOwn.never rfl (pid_seq (pd_var (pv 4))) (pgd_name (i := 6) sc.nd rfl (loc_of rfl))
  (psd_cons (psd_set (i := 3) sc.nd rfl (loc_of rfl) (pd_call (ok_how_many T) mono_how_many (hr.mono (by decide)) rfl T.m_how_many T.F_how_many.kp T.b_how_many (pad_cons (pd_var (pv 6)) pad_nil)))
  (psd_one (psd_if (PWB.pb (pb_or (pb_not (pb_val (pd_call (ok_law_whole T) mono_law_whole (hr.mono (by decide)) rfl T.m_law_whole T.F_law_whole.kp T.b_law_whole (pad_cons (pd_var (pv 3)) pad_nil)))) (pb_or1 (pb_cmp o_ne (pd_var (pv 3)) (pd_call (ok_law_due T) mono_law_due (hr.mono (by decide)) rfl T.m_law_due T.F_law_due.kp T.b_law_due (pad_cons (pd_var (pv 6)) pad_nil)) (nomark _)))))
  (psd_one (psd_ret pd_bl))
  psd_nil))))
  (psd_one (psd_ret pd_bl)))))))))), rd_law⟩)
theorem all_mk {l : PySem.W.OpenLaw} {w : World} {K : PySem.W.Frag} {h : Heap} {mg : Str → Option Value} {fa : Addr} (X : K.In h) (G : h.Ns mainGlobals mg) (hfa : mg "law" = some (.ref fa))
    {f0 : Addr} {od0 an0 : Option Addr} {sl0 : Array (Option Value)} {oc0 kV0 dc0 pm0 cd0 ct0 : Value}
    (a0 : PySem.W.nsIn K mainGlobals "primes_of" = some (some (.ref f0))) (l0 : K.lookup f0 = some ⟨oc0, od0, .func (PySem.W.fnOf "primes_of" "primes_of" (defArgs s_primes_of) (defBody s_primes_of) (defScope s_primes_of) .none kV0 dc0 pm0 an0 cd0 ct0), sl0⟩) (c0 : PySem.W.codeIn K cd0 "primes_of" = true) (k0 : PySem.W.keepIn K (.ref f0) = true)
    {f1 : Addr} {od1 an1 : Option Addr} {sl1 : Array (Option Value)} {oc1 kV1 dc1 pm1 cd1 ct1 : Value}
    (a1 : PySem.W.nsIn K mainGlobals "how_many" = some (some (.ref f1))) (l1 : K.lookup f1 = some ⟨oc1, od1, .func (PySem.W.fnOf "how_many" "how_many" (defArgs s_how_many) (defBody s_how_many) (defScope s_how_many) .none kV1 dc1 pm1 an1 cd1 ct1), sl1⟩) (c1 : PySem.W.codeIn K cd1 "how_many" = true) (k1 : PySem.W.keepIn K (.ref f1) = true)
    {f2 : Addr} {od2 an2 : Option Addr} {sl2 : Array (Option Value)} {oc2 kV2 dc2 pm2 cd2 ct2 : Value}
    (a2 : PySem.W.nsIn K mainGlobals "_law_whole" = some (some (.ref f2))) (l2 : K.lookup f2 = some ⟨oc2, od2, .func (PySem.W.fnOf "_law_whole" "_law_whole" (defArgs s_law_whole) (defBody s_law_whole) (defScope s_law_whole) .none kV2 dc2 pm2 an2 cd2 ct2), sl2⟩) (c2 : PySem.W.codeIn K cd2 "_law_whole" = true) (k2 : PySem.W.keepIn K (.ref f2) = true)
    {f3 : Addr} {od3 an3 : Option Addr} {sl3 : Array (Option Value)} {oc3 kV3 dc3 pm3 cd3 ct3 : Value}
    (a3 : PySem.W.nsIn K mainGlobals "_law_euclid" = some (some (.ref f3))) (l3 : K.lookup f3 = some ⟨oc3, od3, .func (PySem.W.fnOf "_law_euclid" "_law_euclid" (defArgs s_law_euclid) (defBody s_law_euclid) (defScope s_law_euclid) .none kV3 dc3 pm3 an3 cd3 ct3), sl3⟩) (c3 : PySem.W.codeIn K cd3 "_law_euclid" = true) (k3 : PySem.W.keepIn K (.ref f3) = true)
    {f4 : Addr} {od4 an4 : Option Addr} {sl4 : Array (Option Value)} {oc4 kV4 dc4 pm4 cd4 ct4 : Value}
    (a4 : PySem.W.nsIn K mainGlobals "_law_threes" = some (some (.ref f4))) (l4 : K.lookup f4 = some ⟨oc4, od4, .func (PySem.W.fnOf "_law_threes" "_law_threes" (defArgs s_law_threes) (defBody s_law_threes) (defScope s_law_threes) .none kV4 dc4 pm4 an4 cd4 ct4), sl4⟩) (c4 : PySem.W.codeIn K cd4 "_law_threes" = true) (k4 : PySem.W.keepIn K (.ref f4) = true)
    {f5 : Addr} {od5 an5 : Option Addr} {sl5 : Array (Option Value)} {oc5 kV5 dc5 pm5 cd5 ct5 : Value}
    (a5 : PySem.W.nsIn K mainGlobals "_law_cell_at" = some (some (.ref f5))) (l5 : K.lookup f5 = some ⟨oc5, od5, .func (PySem.W.fnOf "_law_cell_at" "_law_cell_at" (defArgs s_law_cell_at) (defBody s_law_cell_at) (defScope s_law_cell_at) .none kV5 dc5 pm5 an5 cd5 ct5), sl5⟩) (c5 : PySem.W.codeIn K cd5 "_law_cell_at" = true) (k5 : PySem.W.keepIn K (.ref f5) = true)
    {f6 : Addr} {od6 an6 : Option Addr} {sl6 : Array (Option Value)} {oc6 kV6 dc6 pm6 cd6 ct6 : Value}
    (a6 : PySem.W.nsIn K mainGlobals "_law_due" = some (some (.ref f6))) (l6 : K.lookup f6 = some ⟨oc6, od6, .func (PySem.W.fnOf "_law_due" "_law_due" (defArgs s_law_due) (defBody s_law_due) (defScope s_law_due) .none kV6 dc6 pm6 an6 cd6 ct6), sl6⟩) (c6 : PySem.W.codeIn K cd6 "_law_due" = true) (k6 : PySem.W.keepIn K (.ref f6) = true)
    {f7 : Addr} {od7 an7 : Option Addr} {sl7 : Array (Option Value)} {oc7 kV7 dc7 pm7 cd7 ct7 : Value}
    (a7 : PySem.W.nsIn K mainGlobals "law" = some (some (.ref f7))) (l7 : K.lookup f7 = some ⟨oc7, od7, .func (PySem.W.fnOf "law" "law" (defArgs s_law) (defBody s_law) (defScope s_law) .none kV7 dc7 pm7 an7 cd7 ct7), sl7⟩) (c7 : PySem.W.codeIn K cd7 "law" = true) (k7 : PySem.W.keepIn K (.ref f7) = true)
    (z_abs : PySem.W.nsIn K mainGlobals "abs" = some none)
    (z_bool : PySem.W.nsIn K mainGlobals "bool" = some none)
    (z_int : PySem.W.nsIn K mainGlobals "int" = some none)
    (z_isinstance : PySem.W.nsIn K mainGlobals "isinstance" = some none)
    (z_len : PySem.W.nsIn K mainGlobals "len" = some none)
    (z_range : PySem.W.nsIn K mainGlobals "range" = some none)
    : ∃ fd : FuncData, (∀ (s : Shared) (v : Value), BindsTo s fd ⟨[v], []⟩ [("script", v)]) ∧ ∀ base : Heap, K.In base → base.Ns mainGlobals mg → FnOk l.prog w K mg base CX0 3 fa fd ["script"] (spD K 1 cLaw) := by
  have e := hfa.symm.trans (PySem.W.mg_of X G a7)
  cases e
  have F0 := fun_mk (st := s_primes_of) l0 c0 k0
  have b0 := F0.binds (ps := ["n"]) fun _ _ _ _ _ _ us hl => match us, hl with | [_], _ => rfl
  have F1 := fun_mk (st := s_how_many) l1 c1 k1
  have b1 := F1.binds (ps := ["m"]) fun _ _ _ _ _ _ us hl => match us, hl with | [_], _ => rfl
  have F2 := fun_mk (st := s_law_whole) l2 c2 k2
  have b2 := F2.binds (ps := ["found"]) fun _ _ _ _ _ _ us hl => match us, hl with | [_], _ => rfl
  have F3 := fun_mk (st := s_law_euclid) l3 c3 k3
  have b3 := F3.binds (ps := ["one", "other"]) fun _ _ _ _ _ _ us hl => match us, hl with | [_, _], _ => rfl
  have F4 := fun_mk (st := s_law_threes) l4 c4 k4
  have b4 := F4.binds (ps := ["m"]) fun _ _ _ _ _ _ us hl => match us, hl with | [_], _ => rfl
  have F5 := fun_mk (st := s_law_cell_at) l5 c5 k5
  have b5 := F5.binds (ps := ["script", "k"]) fun _ _ _ _ _ _ us hl => match us, hl with | [_, _], _ => rfl
  have F6 := fun_mk (st := s_law_due) l6 c6 k6
  have b6 := F6.binds (ps := ["m"]) fun _ _ _ _ _ _ us hl => match us, hl with | [_], _ => rfl
  have F7 := fun_mk (st := s_law) l7 c7 k7
  have b7 := F7.binds (ps := ["script"]) fun _ _ _ _ _ _ us hl => match us, hl with | [_], _ => rfl
  have T : Txt K mg ⟨_, _, _, _, _, _, _, _, _, _, _, _, _, _, _, _⟩ := ⟨F0, PySem.W.mg_of X G a0, b0, F1, PySem.W.mg_of X G a1, b1, F2, PySem.W.mg_of X G a2, b2, F3, PySem.W.mg_of X G a3, b3, F4, PySem.W.mg_of X G a4, b4, F5, PySem.W.mg_of X G a5, b5, F6, PySem.W.mg_of X G a6, b6, F7, PySem.W.mg_of X G a7, b7, PySem.W.mg_none_of X G z_abs, PySem.W.mg_none_of X G z_bool, PySem.W.mg_none_of X G z_int, PySem.W.mg_none_of X G z_isinstance, PySem.W.mg_none_of X G z_len, PySem.W.mg_none_of X G z_range⟩
  exact ⟨_, fun s v => .of_eq rfl, fun base _ _ => ok_law T⟩
end My
open PySem PySem.W PyProof.Rows
set_option maxRecDepth 100000 in
set_option maxHeartbeats 0 in
theorem PySem.Challenge.cw_turngrid_k48_how_many_holds : PySem.Challenge.rw_turngrid_k48_how_many.Holds := by
  w_on; o_law; k_head; (case hw => w_witness2)
  k_fill
  refine D3.walk (l := PySem.Challenge.rw_turngrid_k48_how_many) (k := 3) rfl rfl ⟨rfl, by decide, by decide⟩ (fun w h Y => PySem.W.kIn_of Y) ?F
  case F =>
    intro w mg fa h KX G hmg
    refine' My.all_mk KX G hmg ?a0 ?l0 ?c0 ?k0 ?a1 ?l1 ?c1 ?k1 ?a2 ?l2 ?c2 ?k2 ?a3 ?l3 ?c3 ?k3 ?a4 ?l4 ?c4 ?k4 ?a5 ?l5 ?c5 ?k5 ?a6 ?l6 ?c6 ?k6 ?a7 ?l7 ?c7 ?k7 ?z_abs ?z_bool ?z_int ?z_isinstance ?z_len ?z_range
    (case a0 => k_is)
    (case l0 => k_is)
    (case c0 => k_is)
    (case k0 => k_is)
    (case a1 => k_is)
    (case l1 => k_is)
    (case c1 => k_is)
    (case k1 => k_is)
    (case a2 => k_is)
    (case l2 => k_is)
    (case c2 => k_is)
    (case k2 => k_is)
    (case a3 => k_is)
    (case l3 => k_is)
    (case c3 => k_is)
    (case k3 => k_is)
    (case a4 => k_is)
    (case l4 => k_is)
    (case c4 => k_is)
    (case k4 => k_is)
    (case a5 => k_is)
    (case l5 => k_is)
    (case c5 => k_is)
    (case k5 => k_is)
    (case a6 => k_is)
    (case l6 => k_is)
    (case c6 => k_is)
    (case k6 => k_is)
    (case a7 => k_is)
    (case l7 => k_is)
    (case c7 => k_is)
    (case k7 => k_is)
    (case z_abs => k_is)
    (case z_bool => k_is)
    (case z_int => k_is)
    (case z_isinstance => k_is)
    (case z_len => k_is)
    (case z_range => k_is)

